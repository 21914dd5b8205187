/- The walk of net.Row; slices of integers that are read. -/
import Derived.Test.YtkmcfjkfoafkoaaDoorW2
namespace Go.Proofs.YtkmcfjkfoafkoaaDoor
open Go.RowKit

/-- A slice of integers, wherever it lies. -/
def Ints (w : World) (v : Value) (l : List Int) : Prop :=
  ∃ (a : Option Addr) (c : Nat), v = .slice a l.length c ∧ l.length ≤ c ∧ c ≤ maxLen ∧ ∀ k, (h : k < l.length) → ∃ b o, a = some ⟨b, o, none⟩ ∧ b < w.heap.size ∧ w.cell? ⟨b, o + k, none⟩ = some (.int .i64 l[k])
theorem Ints.below {w w' : World} {v : Value} {l : List Int} (h : Ints w v l) (hb : Below w.heap.size w w') : Ints w' v l := by
  obtain ⟨a, c, hv, hc, hm, hk⟩ := h
  refine ⟨a, c, hv, hc, hm, fun k h => ?_⟩
  obtain ⟨b, o, ha, hlt, hcell⟩ := hk k h
  exact ⟨b, o, ha, Nat.lt_of_lt_of_le hlt hb.size, (hb.cell (by exact hlt)).trans hcell⟩
theorem OwnI.ints {w : World} {B : Nat} {v : Value} {l : List Int} (h : OwnI w B v l) : Ints w v l := by
  have h' := h
  obtain ⟨_, hv | ⟨g, cap, cur, hv, hb, hg, hc, hm, hs, ht⟩⟩ := h
  · refine ⟨none, 0, by rw [hv.1, hv.2], by omega, by simp [maxLen], fun k hk => by omega⟩
  · refine ⟨some ⟨g, 0, none⟩, cap, hv, hc, hm, fun k hk => ⟨g, 0, rfl, (h'.lt g (by rw [hv]; rfl)).2, ?_⟩⟩
    have := h'.cells (g := g) (by rw [hv]; rfl) k (.int .i64 l[k]) (by simp [hk])
    have e : (⟨g, 0, none⟩ : Addr).add k = ⟨g, 0 + k, none⟩ := by unfold Addr.add; split <;> simp_all
    rw [← e]; exact this

theorem any_snoc (L : List Int) (k : Nat) (h : k < L.length) : (L.take (k + 1)).any Sp.great = ((L.take k).any Sp.great || Sp.great L[k]) := by
  rw [List.take_succ_eq_append_getElem h, List.any_append]; simp
theorem row_bad {N R : Option (List Int)} {L : List Int} {x : Int} (hR : R = N.bind fun l => if l.any Sp.great then none else some l) (hL : N.getD [] = L) (hx : x ∈ L) (hg : Sp.great x = true) : R = none := by
  cases N with
  | none => rw [hR]; rfl
  | some l =>
    simp at hL; subst hL
    have : l.any Sp.great = true := List.any_eq_true.2 ⟨x, hx, hg⟩
    rw [hR]; simp only [Option.bind_some, this, if_true]
theorem row_good {N R : Option (List Int)} {L : List Int} (hR : R = N.bind fun l => if l.any Sp.great then none else some l) (hL : N.getD [] = L) (hg : L.any Sp.great = false) : R = N ∧ R.getD [] = L := by
  cases N with
  | none => exact ⟨by rw [hR]; rfl, by rw [hR]; exact hL⟩
  | some l =>
    simp at hL; subst hL
    rw [hR]; simp only [Option.bind_some, hg]; exact ⟨rfl, rfl⟩
set_option maxRecDepth 100000 in
set_option maxHeartbeats 1000000 in
theorem row_any (s : ByteArray) (w : World) (hs : s.size ≤ 1000000) (hr : Rt w) :
    Calls Tryd.prog 9 #[.string s] w fun e w' => ∃ v, e = .returned (.tuple #[v, .bool (Sp.row s.data.toList).isSome]) ∧ OwnI w' w.heap.size v ((Sp.row s.data.toList).getD []) ∧ Below w.heap.size w w' := by
  have hN := numbers_any s w hs hr
  have HB : Hid (∀ x ∈ (Sp.numbers s.data.toList).getD [], -1000000000000000 ≤ x ∧ x ≤ 1000000000000000) := by
    refine hide ?_
    cases h : Sp.numbers s.data.toList with
    | none => simp
    | some l => simpa using Sp.numbers_bd h
  have HL : ((Sp.numbers s.data.toList).getD []).length ≤ 1000001 := by
    cases h : Sp.numbers s.data.toList with
    | none => simp
    | some l => have := Sp.numbers_len h; rw [← Lib.size_eq] at this; simp; omega
  have HR : Hid (Sp.row s.data.toList = (Sp.numbers s.data.toList).bind fun l => if l.any Sp.great then none else some l) := hide rfl
  generalize Sp.row s.data.toList = R at *
  generalize Sp.numbers s.data.toList = N at *
  go_enter Tryd.func9, Tryd.ntmps9
  go_wp2_with fail
  refine hN.mono ?_
  clear hN
  rintro e w1 ⟨v, rfl, hown, hb⟩
  obtain ⟨a, c, hv, hc, hm, hcell⟩ := hown.ints
  generalize hL : N.getD [] = L at *
  have HNL := hide hL; clear hL
  have Hc := hide hcell; clear hcell
  have HO := hide hown; clear hown
  have Hb := hide hb; clear hb
  subst hv
  go_wp2
  go_loop [15] (fun i => ∃ k : Nat, k ≤ L.length ∧ i = .int .i64 k ∧ (L.take k).any Sp.great = false) (fun i => L.length - (intOf i).toNat)
  case atStart => exact ⟨0, Nat.zero_le _, rfl, rfl⟩
  case round =>
    obtain ⟨k, hk, rfl, hall⟩ := hrel
    have Hall := hide hall; clear hall
    by_cases hlt : k < L.length
    · obtain ⟨b, o, rfl, _, hcx⟩ := unhide Hc k hlt
      have Ht := hide (any_snoc L k hlt)
      have Hm : Hid (L[k] ∈ L) := hide (List.getElem_mem hlt)
      generalize L[k] = x at *
      by_cases hx : x = 1000000000000000
      · have hx' : (x == 1000000000000000) = true := beq_iff_eq.2 hx
        go_wp2
        go_ret2
        rw [row_bad (unhide HR) (unhide HNL) (unhide Hm) (by simp [Sp.great, hx])]
        exact ⟨_, rfl, World.ownsRow_nil _ _ _ _, unhide Hb⟩
      · have hx' : (x == 1000000000000000) = false := beq_eq_false_iff_ne.2 hx
        by_cases hy : x = -1000000000000000
        · have hy' : (x == -1000000000000000) = true := beq_iff_eq.2 hy
          go_wp2
          go_ret2
          rw [row_bad (unhide HR) (unhide HNL) (unhide Hm) (by simp [Sp.great, hy])]
          exact ⟨_, rfl, World.ownsRow_nil _ _ _ _, unhide Hb⟩
        · have hy' : (x == -1000000000000000) = false := beq_eq_false_iff_ne.2 hy
          go_wp2
          go_round
          case rel => exact ⟨k + 1, by omega, by go_num, by rw [unhide Ht, unhide Hall]; simp [Sp.great, hx, hy]⟩
          case measure => simp [intOf]; omega
    · rw [List.take_of_length_le (by omega)] at Hall
      have HG := row_good (unhide HR) (unhide HNL) (unhide Hall)
      obtain ⟨hg1, hg2⟩ := HG
      have Hg1 := hide hg1; clear hg1
      have Hg2 := hide hg2; clear hg2
      go_wp2
      go_ret2
      rw [unhide Hg2, unhide Hg1]
      exact ⟨_, rfl, unhide HO, unhide Hb⟩
end Go.Proofs.YtkmcfjkfoafkoaaDoor
