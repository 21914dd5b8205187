/- The walk of net.lineAt. -/
import Derived.Test.YtkmcfjkfoafkoaaDoorW4
namespace Go.Proofs.YtkmcfjkfoafkoaaDoor
open Go.RowKit

/-- A slice of texts, wherever it lies. -/
def Strs (w : World) (v : Value) (l : List ByteArray) : Prop :=
  ∃ (a : Option Addr) (c : Nat), v = .slice a l.length c ∧ l.length ≤ c ∧ c ≤ maxLen ∧ ∀ k, (h : k < l.length) → ∃ b o, a = some ⟨b, o, none⟩ ∧ b < w.heap.size ∧ w.cell? ⟨b, o + k, none⟩ = some (.string l[k])
theorem Strs.below {w w' : World} {v : Value} {l : List ByteArray} (h : Strs w v l) (hb : Below w.heap.size w w') : Strs w' v l := by
  obtain ⟨a, c, hv, hc, hm, hk⟩ := h
  refine ⟨a, c, hv, hc, hm, fun k h => ?_⟩
  obtain ⟨b, o, ha, hlt, hcell⟩ := hk k h
  exact ⟨b, o, ha, Nat.lt_of_lt_of_le hlt hb.size, (hb.cell (by exact hlt)).trans hcell⟩
theorem own_mono {w : World} {B B' : Nat} {v : Value} {l : List Int} (h : OwnI w B v l) (hB : B' ≤ B) : OwnI w B' v l := by
  obtain ⟨hx, hv | ⟨g, cap, cur, hv, hg, r⟩⟩ := h
  · exact ⟨hx, .inl hv⟩
  · exact ⟨hx, .inr ⟨g, cap, cur, hv, Nat.le_trans hB hg, r⟩⟩
/-- A line's value: its word, and its numbers in a slice of the call's own. -/
def LineV (w : World) (B : Nat) (v : Value) (q : List UInt8 × List Int) : Prop :=
  ∃ (s : ByteArray) (x : Value), v = .agg #[.string s, x] ∧ s.data.toList = q.1 ∧ OwnI w B x q.2
abbrev bytesOf (l : List ByteArray) : List (List UInt8) := l.map fun s => s.data.toList

set_option maxRecDepth 100000 in
set_option maxHeartbeats 1000000 in
theorem lineAt_past (L : List ByteArray) (v : Value) (k : Nat) (w : World) (hv : Strs w v L) (_hn : L.length ≤ 1000001) (_hk1 : k ≤ 2000000) (hlt : L.length < k) :
    Calls Tryd.prog 34 #[v, .int .i64 k] w fun e w' => ∃ x, e = .returned x ∧ LineV w' w.heap.size x (Sp.lineOf (bytesOf L) k) ∧ Below w.heap.size w w' := by
  obtain ⟨a, c, rfl, hc, hm, hcell⟩ := hv
  clear hcell
  have HF : Hid (Sp.lineOf (bytesOf L) k = ([], [])) := hide (by unfold Sp.lineOf; rw [if_pos (by simpa using hlt)])
  generalize Sp.lineOf (bytesOf L) k = R at *
  go_enter Tryd.func34, Tryd.ntmps34
  go_wp2
  refine bodyPost_ret (v := .agg #[.string ⟨#[]⟩, .slice none 0 0]) (by simp [results, Tryd.results34, go_sem]) rfl ⟨_, rfl, ?_, ?_⟩
  · rw [unhide HF]
    exact ⟨_, _, rfl, rfl, World.ownsRow_nil _ _ _ _⟩
  · exact (Below.refl _ _).alloc (Nat.le_refl _) _
theorem line_none {ls : List ByteArray} {k : Nat} {s : ByteArray} {row : ByteArray} (hk0 : 1 ≤ k) (hk : k ≤ ls.length) (hs : ls[k - 1]'(by omega) = s) (hrow : row.data.toList = (Lib.cut s.data.toList [32]).2.1) (hN : Sp.numbers row.data.toList = none) : Sp.lineOf (bytesOf ls) k = ([], []) := by
  unfold Sp.lineOf
  rw [if_neg (by simp; omega)]
  have e : (bytesOf ls).getD (k - 1) [] = s.data.toList := by rw [← hs, List.getD_eq_getElem?_getD]; simp [show k - 1 < ls.length by omega]
  rw [e]; unfold Sp.lineP; rw [← hrow, hN]
theorem line_some {ls : List ByteArray} {k : Nat} {s : ByteArray} {word row : ByteArray} {more : Bool} {N : List Int} (hk0 : 1 ≤ k) (hk : k ≤ ls.length) (hs : ls[k - 1]'(by omega) = s)
    (hc : word.data.toList = (Lib.cut s.data.toList [32]).1 ∧ row.data.toList = (Lib.cut s.data.toList [32]).2.1 ∧ more = (Lib.cut s.data.toList [32]).2.2) (hN : Sp.numbers row.data.toList = some N) :
    Sp.lineOf (bytesOf ls) k = if more = true ∧ N = [] then ([], []) else if N.any (fun x => decide (x < 0)) then ([], []) else (word.data.toList, N) := by
  unfold Sp.lineOf
  rw [if_neg (by simp; omega)]
  have e : (bytesOf ls).getD (k - 1) [] = s.data.toList := by rw [← hs, List.getD_eq_getElem?_getD]; simp [show k - 1 < ls.length by omega]
  rw [e]; unfold Sp.lineP; rw [← hc.2.1, hN, ← hc.2.2, ← hc.1]
theorem any_neg_snoc (L : List Int) (k : Nat) (h : k < L.length) : (L.take (k + 1)).any (fun x => decide (x < 0)) = ((L.take k).any (fun x => decide (x < 0)) || decide (L[k] < 0)) := by
  rw [List.take_succ_eq_append_getElem h, List.any_append]; simp

set_option maxRecDepth 100000 in
set_option maxHeartbeats 2000000 in
theorem lineAt_in (L : List ByteArray) (v : Value) (k : Nat) (w : World) (hv : Strs w v L) (_hn : L.length ≤ 1000001) (hk0 : 1 ≤ k) (hk : k ≤ L.length) (hsz : ∀ s ∈ L, s.size ≤ 1000000) (hr : Rt w) :
    Calls Tryd.prog 34 #[v, .int .i64 k] w fun e w' => ∃ x, e = .returned x ∧ LineV w' w.heap.size x (Sp.lineOf (bytesOf L) k) ∧ Below w.heap.size w w' := by
  obtain ⟨a, c, rfl, hc, hm, hcell⟩ := hv
  obtain ⟨b, o, rfl, hbl, hcx⟩ := hcell (k - 1) (by omega)
  clear hcell
  have hcx' : (w.alloc (.cells #[.string ⟨#[]⟩, .slice none 0 0] 69)).cell? ⟨b, o + (k - 1), none⟩ = some (.string (L[k - 1]'(by omega))) :=
    (((Below.refl _ w).alloc (Nat.le_refl _) _).cell (by exact hbl)).trans hcx
  have hs1 := hsz (L[k - 1]'(by omega)) (List.getElem_mem _)
  obtain ⟨s, hs⟩ : ∃ s, L[k - 1]'(by omega) = s := ⟨_, rfl⟩
  rw [hs] at hcx' hs1
  have HN := fun (word row : ByteArray) (h : row.data.toList = _) => line_none (row := row) hk0 hk hs h
  have HS := fun (word row : ByteArray) (more : Bool) (N : List Int) h => line_some (word := word) (row := row) (more := more) (N := N) hk0 hk hs h
  have Hn := hide HN; clear HN
  have Hs := hide HS; clear HS
  clear hsz hcx hs
  have hb0 : Below w.heap.size w (w.alloc (.cells #[.string ⟨#[]⟩, .slice none 0 0] 69)) := (Below.refl _ w).alloc (Nat.le_refl _) _
  have Hr := hide hr; clear hr
  generalize Sp.lineOf (bytesOf L) k = R at *
  go_enter Tryd.func34, Tryd.ntmps34
  go_wp2_with fail
  refine (cut_any s 32 _ (by omega) ((unhide Hr).below hb0 (Nat.le_refl _))).mono ?_
  rintro e w1 ⟨word, row, more, rfl, hcut, _, hrow, hdn⟩
  have hh1 : w1.heap = (w.alloc (.cells #[.string ⟨#[]⟩, .slice none 0 0] 69)).heap := by obtain ⟨n, rfl⟩ := hdn; rfl
  have hb1 := below_dw hb0 hdn
  have hsz1 : w1.heap.size = w.heap.size + 1 := by rw [hh1]; simp
  clear hdn hcx' hb0
  have Hcut := hide hcut; clear hcut
  go_wp2_with fail
  refine (numbers_any row _ (by omega) ((unhide Hr).below hb1 (Nat.le_refl _))).mono ?_
  rintro e w2 ⟨x, rfl, hown, hb2⟩
  have hz2 := hb2.size
  have hc0 : w2.cell? ⟨w.heap.size, 0, none⟩ = some (.string ⟨#[]⟩) := (hb2.cell (by rw [hsz1]; exact Nat.lt_succ_self _)).trans (by rw [World.cell?_of_block (w := w.alloc _) (by rw [hh1])]; simp)
  have hc1 : w2.cell? ⟨w.heap.size, 1, none⟩ = some (.slice none 0 0) := (hb2.cell (by rw [hsz1]; exact Nat.lt_succ_self _)).trans (by rw [World.cell?_of_block (w := w.alloc _) (by rw [hh1])]; simp)
  have hf0 : w2.frozen? ⟨w.heap.size, 0, none⟩ = false := (hb2.frozen (by rw [hsz1]; exact Nat.lt_succ_self _)).trans (by rw [World.frozen?_of_block (w := w.alloc _) (by rw [hh1])]; simp)
  have hf1 : w2.frozen? ⟨w.heap.size, 1, none⟩ = false := (hb2.frozen (by rw [hsz1]; exact Nat.lt_succ_self _)).trans (by rw [World.frozen?_of_block (w := w.alloc _) (by rw [hh1])]; simp)
  have hb3 : Below w.heap.size w w2 := hb1.trans (hb2.mono (by omega))
  have hown' := own_mono hown (show w.heap.size + 1 ≤ w1.heap.size by omega)
  clear hb1 hb2 hown hh1
  cases hN : Sp.numbers row.data.toList with
  | none =>
    have HF := hide (unhide Hn word row (unhide Hcut).2.1 hN)
    clear Hn Hs Hcut hN
    simp only [Option.isSome_none]
    clear hown'
    go_wp2
    refine bodyPost_ret (v := .agg #[.string ⟨#[]⟩, .slice none 0 0]) (by simp [results, Tryd.results34, go_sem, hc0, hc1]) rfl ⟨_, rfl, ?_, ?_⟩
    · rw [unhide HF]
      exact ⟨_, _, rfl, rfl, World.ownsRow_nil _ _ _ _⟩
    · exact (hb3.setCell (by simp) _).setCell (by simp) _
  | some N =>
    have HF := hide (unhide Hs word row more N (unhide Hcut) hN)
    have hNl : N.length ≤ 1000001 := by have := Sp.numbers_len hN; rw [← Lib.size_eq] at this; omega
    clear Hn Hs Hcut
    rw [hN] at hown'
    clear hN
    simp only [Option.isSome_some, Option.getD_some] at hown' ⊢
    obtain ⟨a', c', rfl, hc', hm', hcell'⟩ := hown'.ints
    have Hc := hide hcell'; clear hcell'
    have HO := hide hown'; clear hown'
    by_cases hemp : more = true ∧ N = []
    · rw [if_pos hemp] at HF
      obtain ⟨rfl, rfl⟩ := hemp
      clear Hc HO
      go_wp2
      refine bodyPost_ret (v := .agg #[.string ⟨#[]⟩, .slice none 0 0]) (by simp [results, Tryd.results34, go_sem, hc0, hc1]) rfl ⟨_, rfl, ?_, ?_⟩
      · rw [unhide HF]
        exact ⟨_, _, rfl, rfl, World.ownsRow_nil _ _ _ _⟩
      · exact (hb3.setCell (by simp) _).setCell (by simp) _
    · rw [if_neg hemp] at HF
      have hem2 : more = true → ((N.length : Int) == 0) = false := by
        intro hmt
        refine beq_eq_false_iff_ne.2 ?_
        intro h
        exact hemp ⟨hmt, List.eq_nil_of_length_eq_zero (by omega)⟩
      clear hemp
      cases more
      all_goals
        first | have hem3 := hem2 rfl | skip
        clear hem2
        go_wp2
        go_loop [45] (fun i => ∃ j : Nat, j ≤ N.length ∧ i = .int .i64 j ∧ (N.take j).any (fun x => decide (x < 0)) = false) (fun i => N.length - (intOf i).toNat)
        case atStart => exact ⟨0, Nat.zero_le _, rfl, rfl⟩
        case round =>
          obtain ⟨j, hj, rfl, hall⟩ := hrel
          have Hall := hide hall; clear hall
          by_cases hlt : j < N.length
          · obtain ⟨b', o', rfl, _, hcj⟩ := unhide Hc j hlt
            have Ht := hide (any_neg_snoc N j hlt)
            have Hm : Hid (N[j] ∈ N) := hide (List.getElem_mem hlt)
            generalize N[j] = y at *
            by_cases hy : y < 0
            · have Hf : Hid (R = ([], [])) := by
                have h1 : N.any (fun x => decide (x < 0)) = true := List.any_eq_true.2 ⟨y, unhide Hm, by simpa using hy⟩
                have h2 := unhide HF
                rw [if_pos h1] at h2
                exact hide h2
              go_wp2
              refine bodyPost_ret (v := .agg #[.string ⟨#[]⟩, .slice none 0 0]) (by simp [results, Tryd.results34, go_sem, hc0, hc1]) rfl ⟨_, rfl, ?_, ?_⟩
              · rw [unhide Hf]
                exact ⟨_, _, rfl, rfl, World.ownsRow_nil _ _ _ _⟩
              · exact (hb3.setCell (by simp) _).setCell (by simp) _
            · go_wp2
              go_round
              case rel => exact ⟨j + 1, by omega, by go_num, by rw [unhide Ht, unhide Hall]; simp; omega⟩
              case measure => simp [intOf]; omega
          · rw [List.take_of_length_le (by omega)] at Hall
            have Hf : Hid (R = (word.data.toList, N)) := by
              have h2 := unhide HF
              rw [if_neg (by rw [unhide Hall]; simp)] at h2
              exact hide h2
            go_wp2
            refine bodyPost_ret (v := .agg #[.string word, .slice a' N.length c']) (by simp [results, Tryd.results34, go_sem, hc0, hc1]) rfl ⟨_, rfl, ?_, ?_⟩
            · rw [unhide Hf]
              exact ⟨_, _, rfl, rfl, own_mono (ownsRow_setCell_below (ownsRow_setCell_below (unhide HO) (by simp) _) (by simp) _) (by omega)⟩
            · exact (hb3.setCell (by simp) _).setCell (by simp) _
end Go.Proofs.YtkmcfjkfoafkoaaDoor
