/- The walk of the law's own known. -/
import Derived.Test.YtkmcfjkfoafkoaaDoorW13
namespace Go.Proofs.YtkmcfjkfoafkoaaDoor
open Go Go.RowKit

theorem parse_k1 : Sp.parse [110, 101, 116, 32, 49, 10, 116, 117, 114, 110, 10] = (some ⟨1, [], [], []⟩, 0, 0) := by kernel_rfl
theorem parse_k2 : Sp.parse [110, 101, 116, 32, 50, 10, 101, 100, 103, 101, 32, 48, 32, 49, 32, 53, 32, 51, 10, 116, 117, 114, 110, 32, 48, 10, 116, 117, 114, 110, 32, 49, 10] = (some ⟨2, [0, 1], [0, 1], [5, 3]⟩, 0, 0) := by kernel_rfl
theorem row_k : Sp.row [49, 32, 45, 50, 32, 48] = some [1, -2, 0] := by kernel_rfl
theorem itoa0 : Lib.itoa 0 = [48] := by
  unfold Lib.itoa
  rw [if_neg (by decide)]
  exact Lib.decDigits_one (by decide)
theorem itoa2 : Lib.itoa (-2) = [45, 50] := by
  unfold Lib.itoa
  rw [if_pos (by decide)]
  exact congrArg _ (Lib.decDigits_one (by decide))
theorem rowText_k : Sp.rowText [1, -2, 0] = [49, 32, 45, 50, 32, 48] := by
  simp only [Sp.rowText, itoa0, itoa1, itoa2]; rfl
/-- What Parse tells, opened: the lists' values. -/
theorem Out.open {w0 w' : World} {R : Sp.Res} {q : Sp.Net} {k : Nat} {c : Int} {e : Ending} (h : Out w0 R e w') (hR : R = (some q, k, c)) :
    ∃ ta tc na nc ca cc, e = .returned (.tuple #[.agg #[.int .i64 q.n, .slice ta q.tail.length tc, .slice na q.next.length nc, .slice ca q.cap.length cc], .int .i64 k, .int .i64 c]) ∧
      OwnI w' w0.heap.size (.slice ta q.tail.length tc) q.tail ∧ OwnI w' w0.heap.size (.slice na q.next.length nc) q.next ∧ OwnI w' w0.heap.size (.slice ca q.cap.length cc) q.cap ∧ Below w0.heap.size w0 w' := by
  subst hR
  obtain ⟨x, tv, nv, cv, rfl, hv, hb⟩ := h
  obtain ⟨rfl, h1, h2, h3, -, -, -⟩ := hv
  simp only [Option.getD_some] at h1 h2 h3 ⊢
  obtain ⟨ta, tc, rfl, -, -, -⟩ := h1.ints
  obtain ⟨na, nc, rfl, -, -, -⟩ := h2.ints
  obtain ⟨ca, cc, rfl, -, -, -⟩ := h3.ints
  exact ⟨ta, tc, na, nc, ca, cc, rfl, h1, h2, h3, hb⟩

set_option maxRecDepth 100000 in
set_option maxHeartbeats 4000000 in
theorem known_any (w : World) (hr : Rt w) :
    Calls Tryd.prog 6 #[] w fun e w' => e = .returned (.bool true) ∧ Below w.heap.size w w' := by
  have HP1 := hide (parse_any ⟨#[110, 101, 116, 32, 49, 10, 116, 117, 114, 110, 10]⟩ w (by decide) hr)
  have Hr := hide hr; clear hr
  go_enter Tryd.func6, Tryd.ntmps6
  go_wp2_with fail
  refine (unhide HP1).mono ?_
  intro e w1 hO
  clear HP1
  obtain ⟨ta, tc, na, nc, ca, cc, rfl, -, -, -, hb1⟩ := hO.open parse_k1
  clear hO
  simp only [List.length_nil]
  have hb2 : Below w.heap.size w (w1.alloc (.cells #[.int .i64 1, .slice ta 0 tc, .slice na 0 nc, .slice ca 0 cc] 34)) := hb1.alloc hb1.size _
  have hw1 := hb1.size
  have HP2 := hide (parse_any ⟨#[110, 101, 116, 32, 50, 10, 101, 100, 103, 101, 32, 48, 32, 49, 32, 53, 32, 51, 10, 116, 117, 114, 110, 32, 48, 10, 116, 117, 114, 110, 32, 49, 10]⟩ _ (by decide) ((unhide Hr).below hb2 (Nat.le_refl _)))
  clear hb1
  go_wp2_with fail
  refine (unhide HP2).mono ?_
  intro e w3 hO
  clear HP2
  obtain ⟨ta2, tc2, na2, nc2, ca2, cc2, rfl, -, -, hcap, hb3⟩ := hO.open parse_k2
  clear hO
  simp only [List.length_cons, List.length_nil, Nat.zero_add, Nat.reduceAdd] at hcap ⊢
  have hw3 := hb3.size
  have hx1 : w3.heap[w1.heap.size]? = some (.cells #[.int .i64 1, .slice ta 0 tc, .slice na 0 nc, .slice ca 0 cc] 34 (0, 0)) := (hb3.block _ (by simp)).trans (heap_alloc_new w1 _)
  simp at hw3
  have hb4 : Below w.heap.size w w3 := hb2.trans (hb3.mono (by simp; omega))
  clear hb2 hb3
  have hb5 : Below w.heap.size w (w3.alloc (.cells #[.int .i64 2, .slice ta2 2 tc2, .slice na2 2 nc2, .slice ca2 2 cc2] 34)) := hb4.alloc hb4.size _
  have HRW := hide (row_any ⟨#[49, 32, 45, 50, 32, 48]⟩ _ (by decide) ((unhide Hr).below hb5 (Nat.le_refl _)))
  have Hcap := hide hcap; clear hcap
  have Hx1 := hide hx1; clear hx1
  clear hb4
  go_wp2_with fail
  refine (unhide HRW).mono ?_
  rintro e w5 ⟨lv, rfl, hown, hb6⟩
  clear HRW
  rw [show Sp.row (⟨#[49, 32, 45, 50, 32, 48]⟩ : ByteArray).data.toList = some [1, -2, 0] from row_k] at hown ⊢
  simp only [Option.isSome_some, Option.getD_some] at hown ⊢
  have hw5 := hb6.size
  simp at hw5
  have hx1 : w5.heap[w1.heap.size]? = some (.cells #[.int .i64 1, .slice ta 0 tc, .slice na 0 nc, .slice ca 0 cc] 34 (0, 0)) := (hb6.block _ (by simp; omega)).trans ((Below.heap_alloc w3 _ _ (by omega)).trans (unhide Hx1))
  have hx2 : w5.heap[w3.heap.size]? = some (.cells #[.int .i64 2, .slice ta2 2 tc2, .slice na2 2 nc2, .slice ca2 2 cc2] 34 (0, 0)) := (hb6.block _ (by simp)).trans (heap_alloc_new w3 _)
  have hb7 : Below w.heap.size w w5 := hb5.trans (hb6.mono (by simp; omega))
  have hcap5 : Ints w5 (.slice ca2 2 cc2) [5, 3] := ((unhide Hcap).ints.below ((Below.refl _ w3).alloc (Nat.le_refl _) _)).below hb6
  obtain ⟨la, lc, rfl, -, -, -⟩ := hown.ints
  have hl5 := hown.ints
  clear hown hb5 hb6 Hcap Hx1
  have HT := hide (text_one ta na ca tc nc cc w5 ((unhide Hr).below hb7 (Nat.le_refl _)))
  obtain ⟨d0, d1, d2, d3, -, -, -, -⟩ := obj_cells hx1
  obtain ⟨g0, g1, g2, g3, -, -, -, -⟩ := obj_cells hx2
  have Hx1 := hide hx1; clear hx1
  have Hx2 := hide hx2; clear hx2
  have Hcap := hide hcap5; clear hcap5
  have HL := hide hl5; clear hl5
  simp only [List.length_cons, List.length_nil, Nat.zero_add, Nat.reduceAdd] at HL ⊢
  go_wp2_with fail
  refine (unhide HT).mono ?_
  rintro e w6 ⟨rfl, hb8⟩
  clear HT d0 d1 d2 d3 g0 g1 g2 g3
  have hb9 : Below w.heap.size w w6 := hb7.trans (hb8.mono hb7.size)
  obtain ⟨g0, g1, g2, g3, -, -, -, -⟩ := obj_cells ((hb8.block _ (heap_lt (unhide Hx2))).trans (unhide Hx2))
  obtain ⟨b2, o2, c2, hv2, -, -, -, hcc⟩ := ((unhide Hcap).below hb8).at (by decide)
  obtain ⟨b3, o3, c3, hv3, -, -, -, hll⟩ := ((unhide HL).below hb8).at (by decide)
  have m2 : w6.cell? ⟨b2, o2 + 1, none⟩ = some (.int .i64 3) := hcc 1 (by decide)
  have m3 : w6.cell? ⟨b3, o3 + 1, none⟩ = some (.int .i64 (-2)) := hll 1 (by decide)
  have HL6 := hide ((unhide HL).below hb8)
  have HRT := hide (rowText_any [1, -2, 0] _ w6 ((unhide HL).below hb8) (by decide) (by decide) ((unhide Hr).below hb9 (Nat.le_refl _)))
  injection hv2 with hv2 _ hcv2
  injection hv3 with hv3 _ hcv3
  subst hv2 hcv2 hv3 hcv3
  clear hcc hll Hcap HL Hx1 Hx2 hb7 hb8
  go_wp2_with fail
  refine (unhide HRT).mono ?_
  rintro e w7 ⟨s7, rfl, hs7, hb10⟩
  obtain rfl : s7 = ⟨#[49, 32, 45, 50, 32, 48]⟩ := ba_ext ((unhide hs7).trans rowText_k)
  have hb11 : Below w.heap.size w w7 := hb9.trans (hb10.mono hb9.size)
  have HRN := hide (rowText_any [] (.slice none 0 0) w7 ⟨none, 0, rfl, Nat.le_refl _, by decide, fun k h => absurd h (Nat.not_lt_zero _)⟩ (by decide) (by simp) ((unhide Hr).below hb11 (Nat.le_refl _)))
  clear HRT hs7 hb9 hb10 m2 m3 g0 g1 g2 g3
  go_wp2_with fail
  refine (unhide HRN).mono ?_
  rintro e w8 ⟨s8, rfl, hs8, hb12⟩
  obtain rfl : s8 = ⟨#[]⟩ := ba_ext ((unhide hs8).trans rfl)
  have hb13 : Below w.heap.size w w8 := hb11.trans (hb12.mono hb11.size)
  clear HRN hs8 hb11 hb12
  go_wp2
  go_ret
  exact ⟨rfl, hb13⟩
end Go.Proofs.YtkmcfjkfoafkoaaDoor
