/- The walks of the reference's Numbers, Row, RowText, Ints. -/
import Derived.Test.YtkmcfjkfoafkoaaDoorR5
import Derived.Test.YtkmcfjkfoafkoaaDoorR1
namespace Go.Proofs.YtkmcfjkfoafkoaaDoor
open Go Go.RowKit

def rnums : List (List UInt8) → Option (List Int)
  | [] => some []
  | p :: r => (rnum p).bind fun x => (rnums r).map (x :: ·)
theorem rnums_eq (ps : List (List UInt8)) : rnums ps = (Sp.nums ps).bind fun l => if l.any Sp.great then none else some l := by
  induction ps with
  | nil => rfl
  | cons p r ih =>
    rw [rnums, Sp.nums, ih]
    unfold rnum
    cases hp : Sp.number p with
    | none => rfl
    | some x =>
      cases hr : Sp.nums r with
      | none => simp only [Option.bind_some, Option.bind_none, Option.map_none]; cases Sp.great x <;> rfl
      | some l =>
        simp only [Option.bind_some, Option.map_some, List.any_cons]
        have key : ∀ g a : Bool, ((if g = true then none else some x).bind fun x => Option.map (x :: ·) (if a = true then none else some l)) = if (g || a) = true then none else some (x :: l) := by
          intro g a
          cases g <;> cases a <;> rfl
        exact key _ _
theorem row_eq (s : List UInt8) : Sp.row s = if s = [] then some [] else rnums (Sp.partsBy 32 s) := by
  unfold Sp.row Sp.numbers
  by_cases h : s = []
  · rw [if_pos h, if_pos h]; rfl
  · rw [if_neg h, if_neg h, rnums_eq]; rfl
theorem rnums_step {ls : List ByteArray} {k : Nat} {R : Option (List Int)} {done : List Int} (hk : k < ls.length) (h : R = (rnums ((bytesOf ls).drop k)).map (done ++ ·)) :
    (rnum ls[k].data.toList = none → R = none) ∧ ∀ x, rnum ls[k].data.toList = some x → R = (rnums ((bytesOf ls).drop (k + 1))).map ((done ++ [x]) ++ ·) := by
  have hd : (bytesOf ls).drop k = ls[k].data.toList :: (bytesOf ls).drop (k + 1) := by
    rw [List.drop_eq_getElem_cons (by simpa using hk)]; simp
  rw [hd, rnums] at h
  refine ⟨fun hn => by rw [h, hn]; rfl, fun x hx => ?_⟩
  rw [h, hx]
  cases rnums ((bytesOf ls).drop (k + 1)) <;> simp

theorem own_eq {w w2 : World} {B : Nat} {v : Value} {l : List Int} (h : OwnI w B v l) (e : w2 = w) : OwnI w2 B v l := by rw [e]; exact h
set_option maxRecDepth 100000 in
set_option maxHeartbeats 2000000 in
theorem rNumbers_any (L : List ByteArray) (v : Value) (w : World) (hv : Strs w v L) (hn : L.length ≤ 1000001) (hz : ∀ x ∈ L, x.size ≤ 1000000) :
    Calls Tryd.prog 25 #[v] w fun e w' => ∃ v, e = .returned (.tuple #[v, .bool (rnums (bytesOf L)).isSome]) ∧ OwnI w' w.heap.size v ((rnums (bytesOf L)).getD []) ∧ Below w.heap.size w w' := by
  obtain ⟨a, c, rfl, hc, hm, hcell⟩ := hv
  have Hc := hide hcell; clear hcell
  have Hz := hide hz; clear hz
  obtain ⟨i0, hi, hz0, hz1, hz2⟩ := info_parts info3
  have Hi := hide hi; clear hi
  have Hz0 := hide hz0; clear hz0
  have Hz1 := hide hz1; clear hz1
  have Hz2 := hide hz2; clear hz2
  have h0 : Hid (rnums (bytesOf L) = (rnums ((bytesOf L).drop 0)).map (([] : List Int) ++ ·)) := hide (by rw [List.drop_zero]; cases rnums (bytesOf L) <;> simp)
  generalize rnums (bytesOf L) = R at *
  go_enter Tryd.func25, Tryd.ntmps25
  go_wp2
  go_loopw [4, 5] (fun v i wr => ∃ (k : Nat) (done : List Int), k ≤ L.length ∧ i = .int .i64 k ∧ OwnI wr w.heap.size v done ∧ Below w.heap.size w wr ∧ done.length ≤ k ∧ Hid (R = (rnums ((bytesOf L).drop k)).map (done ++ ·))) (fun _ i _ => L.length - (intOf i).toNat)
  case atStart => exact ⟨0, [], by omega, rfl, World.ownsRow_nil _ _ _ _, Below.refl _ _, by simp, h0⟩
  case round =>
    clear h0
    obtain ⟨k, done, hk, rfl, hown, hb, hlen, hR⟩ := hrel
    by_cases hlt : k < L.length
    · obtain ⟨b, o, rfl, hbl, hcx⟩ := unhide Hc k hlt
      have hcx := (hb.cell (by exact hbl)).trans hcx
      have HS := hide (rnums_step hlt (unhide hR))
      have hsz := unhide Hz L[k] (List.getElem_mem hlt)
      generalize L[k] = sk at *
      have HN := hide (rnumber_any sk wr (by omega))
      have HO := hide hown; clear hown hR
      go_wp2_with fail
      refine (unhide HN).mono ?_
      rintro e w2 ⟨x, rfl, hx, hw2⟩
      have hb1 : Below w.heap.size w w2 := by rw [hw2]; exact hb
      have HO1 := hide (own_eq (unhide HO) hw2)
      clear HN HO hb hcx hw2
      cases hrn : rnum sk.data.toList with
      | none =>
        have HF := hide ((unhide HS).1 hrn)
        clear hrn HS hx
        simp only [Option.isSome_none]
        go_wp2
        go_ret2
        rw [unhide HF]
        exact ⟨_, rfl, World.ownsRow_nil _ _ _ _, hb1⟩
      | some y =>
        obtain rfl := hx y hrn
        have HF := hide ((unhide HS).2 x hrn)
        clear hrn HS hx
        simp only [Option.isSome_some]
        go_wp2_with (first
          | (at_builtin; refine wpList_append_own _ rfl _ _ 22 rfl w.heap.size 3 i0 (.int .i64 0) 1 8 Tryd.underlying22 (unhide Hi) (unhide Hz0) (unhide Hz1) (unhide Hz2) rfl (by decide) _ _ _ rfl ((unhide HO1).alloc _) ⟨w2.heap.size, 0, none⟩ 1 1 [.int .i64 x] rfl rfl (cell_one_new _ _ _) (one_int _) (by unfold maxLen; omega) (by omega) (by have := hb1.size; simp; omega) ?_)
          | go_in)
        intro v' w3 hown' hgrow _
        have R1 := own_push (unhide HO1) hb1 hown' hgrow hb1.size
        clear hown' hgrow HO1 hb1
        go_wp2
        go_roundw
        case rel => exact ⟨k + 1, done ++ [x], by omega, by go_num, R1.1, R1.2, by simp; omega, HF⟩
        case measure => simp [intOf]; omega
    · have HF : Hid (R = some done) := hide (by rw [unhide hR, List.drop_of_length_le (by simp; omega)]; simp [rnums])
      go_wp2
      go_ret2
      rw [unhide HF]
      exact ⟨_, rfl, hown, hb⟩
set_option maxRecDepth 100000 in
set_option maxHeartbeats 1000000 in
theorem rRow_any (s : ByteArray) (w : World) (hs : s.size ≤ 1000000) :
    Calls Tryd.prog 11 #[.string s] w fun e w' => ∃ v, e = .returned (.tuple #[v, .bool (Sp.row s.data.toList).isSome]) ∧ OwnI w' w.heap.size v ((Sp.row s.data.toList).getD []) ∧ Below w.heap.size w w' := by
  by_cases he : s.data.toList = []
  · have he' : s.toList.isEmpty = true := by rw [Lib.toList_data, he]; rfl
    have HF : Hid (Sp.row s.data.toList = some []) := hide (by rw [row_eq, if_pos he])
    generalize Sp.row s.data.toList = R at *
    go_enter Tryd.func11, Tryd.ntmps11
    go_wp2
    go_ret2
    rw [unhide HF]
    exact ⟨_, rfl, World.ownsRow_nil _ _ _ _, Below.refl _ _⟩
  · have he' : s.toList.isEmpty = false := by rw [Lib.toList_data]; simpa using he
    have HF : Hid (Sp.row s.data.toList = rnums (Sp.partsBy 32 s.data.toList)) := hide (by rw [row_eq, if_neg he])
    have HZ := hide (Sp.parts_size 32 s.data.toList)
    have HL := hide (Sp.partsBy_len 32 s.data.toList)
    generalize Sp.row s.data.toList = R at *
    clear he
    have HSP := hide (rsplit_any s w hs)
    go_enter Tryd.func11, Tryd.ntmps11
    go_wp2_with fail
    refine (unhide HSP).mono ?_
    rintro e w1 ⟨v, L, rfl, hown, hL, hb1⟩
    clear HSP
    have hz : ∀ x ∈ L, x.size ≤ 1000000 := fun x hx => by
      have h1 := unhide HZ x.data.toList (by rw [← unhide hL]; exact List.mem_map.2 ⟨x, hx, rfl⟩)
      rw [← Lib.size_eq, ← Lib.size_eq] at h1
      omega
    have hn : L.length ≤ 1000001 := by
      have h1 := unhide HL
      rw [← unhide hL, List.length_map, ← Lib.size_eq] at h1
      omega
    have HNB := hide (rNumbers_any L v w1 hown.strs hn hz)
    rw [← unhide hL] at HF
    clear hown hz hn HZ HL hL
    go_wp2_with fail
    refine (unhide HNB).mono ?_
    rintro e w2 ⟨v2, rfl, hown2, hb2⟩
    have hb3 := hb1.trans (hb2.mono hb1.size)
    have hown3 := own_mono hown2 hb1.size
    clear HNB hb2 hown2 hb1
    go_wp2
    go_ret2
    rw [unhide HF]
    exact ⟨_, rfl, hown3, hb3⟩
set_option maxRecDepth 100000 in
set_option maxHeartbeats 1000000 in
theorem rRowText_any (L : List Int) (v : Value) (w : World) (hv : Ints w v L) (hn : L.length ≤ 1000000) (hx : ∀ x ∈ L, -9223372036854775808 ≤ x ∧ x ≤ 9223372036854775807) :
    Calls Tryd.prog 13 #[v] w fun e w' => ∃ s : ByteArray, e = .returned (.string s) ∧ Hid (s.data.toList = Sp.rowText L) ∧ Below w.heap.size w w' := by
  obtain ⟨a, c, rfl, hc, hm, hcell⟩ := hv
  have Hc := hide hcell; clear hcell
  have Hx := hide hx; clear hx
  go_enter Tryd.func13, Tryd.ntmps13
  go_wp2
  go_loopw [3, 4] (fun sv i wr => ∃ (k : Nat) (s : ByteArray), k ≤ L.length ∧ i = .int .i64 k ∧ sv = .string s ∧ Hid (s.data.toList = Sp.rowText (L.take k)) ∧ s.size ≤ 22 * k ∧ Below w.heap.size w wr) (fun _ i _ => L.length - (intOf i).toNat)
  case atStart => exact ⟨0, ⟨#[]⟩, by omega, rfl, rfl, hide rfl, by decide, Below.refl _ _⟩
  case round =>
    obtain ⟨k, s, hk, rfl, rfl, hs, hz, hb⟩ := hrel
    by_cases hlt : k < L.length
    · obtain ⟨b, o, rfl, hbl, hcx⟩ := unhide Hc k hlt
      have hcx := (hb.cell (by exact hbl)).trans hcx
      have Ht := hide (rowText_to L k hlt)
      have hxk := unhide Hx L[k] (List.getElem_mem hlt)
      generalize L[k] = x at *
      have HD := hide (Digits_any x wr hxk.1 hxk.2)
      by_cases hk0 : k = 0
      · subst hk0
        simp only [Nat.add_zero] at hcx
        go_wp2_with fail
        refine (unhide HD).mono ?_
        rintro e w1 ⟨d, rfl, hd, hdz, hb1⟩
        have hb2 := hb.trans (hb1.mono hb.size)
        clear HD hcx hb hb1
        go_wp2
        go_roundw
        case rel =>
          refine ⟨1, _, by omega, by go_num, rfl, hide ?_, ?_, hb2⟩
          · rw [ByteArray.data_append, Array.toList_append, unhide Ht, unhide hs, unhide hd]; rfl
          · rw [ByteArray.size_append]; omega
        case measure => simp [intOf]; omega
      · have hk1 : 0 < (k : Int) := by omega
        rw [if_neg hk0] at Ht
        clear hk0
        go_wp2_with fail
        refine (unhide HD).mono ?_
        rintro e w1 ⟨d, rfl, hd, hdz, hb1⟩
        have hb2 := hb.trans (hb1.mono hb.size)
        clear HD hcx hb hb1
        go_wp2
        go_roundw
        case rel =>
          refine ⟨k + 1, _, by omega, by go_num, rfl, hide ?_, ?_, hb2⟩
          · rw [ByteArray.data_append, ByteArray.data_append, Array.toList_append, Array.toList_append, unhide Ht, unhide hs, unhide hd, List.append_assoc]
          · rw [ByteArray.size_append, ByteArray.size_append]; show s.size + 1 + d.size ≤ _; omega
        case measure => simp [intOf]; omega
    · rw [List.take_of_length_le (by omega)] at hs
      go_wp2
      go_ret
      exact ⟨s, rfl, hs, hb⟩
set_option maxRecDepth 100000 in
set_option maxHeartbeats 1000000 in
/-- Are two rows the same? -/
theorem rInts_any (L M : List Int) (v u : Value) (w : World) (hv : Ints w v L) (hu : Ints w u M) (hn : L.length ≤ 1000001) (hn2 : M.length ≤ 1000001) :
    Calls Tryd.prog 12 #[v, u] w fun e w' => e = .returned (.bool (decide (L = M))) ∧ Below w.heap.size w w' := by
  obtain ⟨a, c, rfl, hc, hm, hcell⟩ := hv
  obtain ⟨a2, c2, rfl, hc2, hm2, hcell2⟩ := hu
  have Hc := hide hcell; clear hcell
  have Hc2 := hide hcell2; clear hcell2
  by_cases hl : L.length = M.length
  · have hl' : ((L.length : Int) == M.length) = true := beq_iff_eq.2 (by omega)
    have Hl := hide hl
    obtain ⟨R, hR⟩ : ∃ R, R = decide (L = M) := ⟨_, rfl⟩
    rw [← hR]
    have HR := hide hR; clear hR
    go_enter Tryd.func12, Tryd.ntmps12
    go_wp2
    go_loopw [5] (fun i wr => ∃ k : Nat, k ≤ L.length ∧ i = .int .i64 k ∧ Hid (L.take k = M.take k) ∧ Below w.heap.size w wr) (fun i _ => L.length - (intOf i).toNat)
    case atStart => exact ⟨0, by omega, rfl, hide rfl, Below.refl _ _⟩
    case round =>
      obtain ⟨k, hk, rfl, he, hb⟩ := hrel
      by_cases hlt : k < L.length
      · have hlt2 : k < M.length := by rw [← unhide Hl]; exact hlt
        obtain ⟨b, o, rfl, hbl, hcx⟩ := unhide Hc k hlt
        obtain ⟨b2, o2, rfl, hbl2, hcx2⟩ := unhide Hc2 k hlt2
        have hcx := (hb.cell (by exact hbl)).trans hcx
        have hcx2 := (hb.cell (by exact hbl2)).trans hcx2
        have T1 := hide (List.take_succ_eq_append_getElem hlt)
        have T2 := hide (List.take_succ_eq_append_getElem hlt2)
        have hk1 : (k : Int) < L.length := by omega
        have hk2 : (k : Int) < M.length := by omega
        have HNE : Hid (L[k] ≠ M[k] → L ≠ M) := hide fun h e => h (by subst e; rfl)
        generalize L[k] = x at *
        generalize M[k] = y at *
        by_cases hxy : x = y
        · have hxy' : (x == y) = true := beq_iff_eq.2 hxy
          have Hxy := hide hxy; clear hxy
          go_wp2
          go_quiet (fail)
          go_wp2
          go_roundw
          case rel => exact ⟨k + 1, by omega, by go_num, hide (by rw [unhide T1, unhide T2, unhide he, unhide Hxy]), below_dn hb _⟩
          case measure => simp [intOf]; omega
        · have hxy' : (x == y) = false := beq_eq_false_iff_ne.2 hxy
          have HF : Hid (R = false) := hide (by rw [unhide HR]; exact decide_eq_false (unhide HNE hxy))
          have Hxy := hide hxy; clear hxy
          go_wp2
          go_quiet (fail)
          go_wp2
          go_ret
          exact ⟨by rw [unhide HF]; rfl, below_dn hb _⟩
      · have HF : Hid (R = true) := by
          have h1 := unhide he
          rw [List.take_of_length_le (by omega), List.take_of_length_le (by have := unhide Hl; omega)] at h1
          exact hide (by rw [unhide HR]; exact decide_eq_true h1)
        go_wp2
        go_ret
        exact ⟨by rw [unhide HF]; rfl, hb⟩
  · have hl' : ((L.length : Int) == M.length) = false := beq_eq_false_iff_ne.2 (by omega)
    have HF : Hid (decide (L = M) = false) := hide (decide_eq_false fun e => hl (by rw [e]))
    generalize decide (L = M) = R at *
    go_enter Tryd.func12, Tryd.ntmps12
    go_wp2
    go_ret
    exact ⟨by rw [unhide HF]; rfl, Below.refl _ _⟩
end Go.Proofs.YtkmcfjkfoafkoaaDoor
