/- What the proof needs, part 16. -/
import Derived.Test.YtoegjnolccabjaaL15
/- rim: survey. -/
namespace Go.Proofs.Ytoegjnolccabjaa
open Go Go.RowKit

theorem survey_w (w : World) (a b c d : Value) (w' : World) (hb : Below (w.heap.size + 2) ((w.alloc (.cells #[a, b, c, d] 25)).alloc (.cells #[.slice none 0 0, .slice none 0 0, .int .i64 0] 54)) w') : Below w.heap.size w w' :=
  (((Below.refl _ w).alloc (Nat.le_refl _) _).alloc (by simp) _).trans (hb.mono (by omega))
theorem survey_fx (w : World) (a b c d : Value) (w' : World) (hb : Below (w.heap.size + 2) ((w.alloc (.cells #[a, b, c, d] 25)).alloc (.cells #[.slice none 0 0, .slice none 0 0, .int .i64 0] 54)) w') : w'.cell? ⟨w.heap.size, 0, none⟩ = some a ∧ w'.cell? ⟨w.heap.size, 1, none⟩ = some b ∧ w'.cell? ⟨w.heap.size, 2, none⟩ = some c ∧ w'.cell? ⟨w.heap.size, 3, none⟩ = some d := by
  have e : w'.heap[w.heap.size]? = some (.cells #[a, b, c, d] 25) := by
    rw [hb.block w.heap.size (by omega), Below.heap_alloc _ _ _ (by simp), heap_alloc_new]
  refine ⟨?_, ?_, ?_, ?_⟩ <;> rw [cell_of_row _ _ _ _ _ _ e] <;> rfl
theorem survey_z (w : World) (a b c d : Value) (w' : World) (hb : Below (w.heap.size + 2) ((w.alloc (.cells #[a, b, c, d] 25)).alloc (.cells #[.slice none 0 0, .slice none 0 0, .int .i64 0] 54)) w') : w'.heap[w.heap.size + 1]? = some (.cells #[.slice none 0 0, .slice none 0 0, .int .i64 0] 54) := by
  have hs : (w.alloc (.cells #[a, b, c, d] 25)).heap.size = w.heap.size + 1 := by simp
  rw [hb.block (w.heap.size + 1) (by omega), ← hs, heap_alloc_new]
theorem survey_gx (w : World) (a b c d : Value) (w' : World) (hb : Below (w.heap.size + 2) ((w.alloc (.cells #[a, b, c, d] 25)).alloc (.cells #[.slice none 0 0, .slice none 0 0, .int .i64 0] 54)) w') : w'.cell? ⟨w.heap.size + 1, 0, none⟩ = some (.slice none 0 0) ∧ w'.cell? ⟨w.heap.size + 1, 1, none⟩ = some (.slice none 0 0) ∧ w'.cell? ⟨w.heap.size + 1, 2, none⟩ = some (.int .i64 0) ∧ (∀ k, w'.frozen? ⟨w.heap.size + 1, k, none⟩ = false) := by
  have e := survey_z w a b c d w' hb
  refine ⟨?_, ?_, ?_, fun k => ?_⟩
  · rw [cell_of_row _ _ _ _ _ _ e]; rfl
  · rw [cell_of_row _ _ _ _ _ _ e]; rfl
  · rw [cell_of_row _ _ _ _ _ _ e]; rfl
  · simp only [World.frozen?, e]; rfl
theorem land_set {w : World} {b : Nat} {a c d : Value} (h : w.heap[b]? = some (.cells #[a, c, d] 54)) (u v t : Value) : (((w.setCell ⟨b, 0, none⟩ u).setCell ⟨b, 1, none⟩ v).setCell ⟨b, 2, none⟩ t).heap[b]? = some (.cells #[u, v, t] 54) := by
  simp only [World.setCell, Array.getElem?_modify, if_pos, h]; rfl
set_option maxRecDepth 100000 in
set_option maxHeartbeats 4000000 in
theorem survey_bad0 (q : Sp.Net) (v tv nv cv : Value) (s t : Int) (w : World) (hv : NetI w v q tv nv cv) (h0 : ¬ (0 ≤ s ∧ s < q.n)) :
    Calls Try.prog 27 #[v, .int .i64 s, .int .i64 t] w fun e w' => e = .returned (.tuple #[.agg #[.slice none 0 0, .slice none 0 0, .int .i64 0], .int .i64 3]) ∧ Below w.heap.size w w' := by
  obtain ⟨rfl, h1, h2, h3⟩ := hv
  obtain ⟨ta, tc, rfl, -, -⟩ := h1.form
  obtain ⟨na, nc, rfl, -, -⟩ := h2.form
  obtain ⟨ca, cc, rfl, -, -⟩ := h3.form
  have HFX : Hid (∀ w', Below (w.heap.size + 2) ((w.alloc (.cells #[.int .i64 q.n, .slice ta q.tail.length tc, .slice na q.next.length nc, .slice ca q.cap.length cc] 25)).alloc (.cells #[.slice none 0 0, .slice none 0 0, .int .i64 0] 54)) w' → w'.cell? ⟨w.heap.size, 0, none⟩ = some (.int .i64 q.n) ∧ w'.cell? ⟨w.heap.size, 1, none⟩ = some (.slice ta q.tail.length tc) ∧ w'.cell? ⟨w.heap.size, 2, none⟩ = some (.slice na q.next.length nc) ∧ w'.cell? ⟨w.heap.size, 3, none⟩ = some (.slice ca q.cap.length cc)) := hide fun w' hb => survey_fx w _ _ _ _ w' hb
  have HGX : Hid (∀ w', Below (w.heap.size + 2) ((w.alloc (.cells #[.int .i64 q.n, .slice ta q.tail.length tc, .slice na q.next.length nc, .slice ca q.cap.length cc] 25)).alloc (.cells #[.slice none 0 0, .slice none 0 0, .int .i64 0] 54)) w' → w'.cell? ⟨w.heap.size + 1, 0, none⟩ = some (.slice none 0 0) ∧ w'.cell? ⟨w.heap.size + 1, 1, none⟩ = some (.slice none 0 0) ∧ w'.cell? ⟨w.heap.size + 1, 2, none⟩ = some (.int .i64 0) ∧ (∀ k, w'.frozen? ⟨w.heap.size + 1, k, none⟩ = false)) := hide fun w' hb => survey_gx w _ _ _ _ w' hb
  have HW : Hid (∀ w', Below (w.heap.size + 2) ((w.alloc (.cells #[.int .i64 q.n, .slice ta q.tail.length tc, .slice na q.next.length nc, .slice ca q.cap.length cc] 25)).alloc (.cells #[.slice none 0 0, .slice none 0 0, .int .i64 0] 54)) w' → Below w.heap.size w w') := hide fun w' hb => survey_w w _ _ _ _ w' hb
  have HS2 : Hid (((w.alloc (.cells #[.int .i64 q.n, .slice ta q.tail.length tc, .slice na q.next.length nc, .slice ca q.cap.length cc] 25)).alloc (.cells #[.slice none 0 0, .slice none 0 0, .int .i64 0] 54)).heap.size = w.heap.size + 2) := hide (by simp)
  have HV : Hid (∀ w', Below (w.heap.size + 2) ((w.alloc (.cells #[.int .i64 q.n, .slice ta q.tail.length tc, .slice na q.next.length nc, .slice ca q.cap.length cc] 25)).alloc (.cells #[.slice none 0 0, .slice none 0 0, .int .i64 0] 54)) w' → NetI w' (.agg #[.int .i64 q.n, .slice ta q.tail.length tc, .slice na q.next.length nc, .slice ca q.cap.length cc]) q (.slice ta q.tail.length tc) (.slice na q.next.length nc) (.slice ca q.cap.length cc)) := hide fun w' hb => NetI.below ⟨rfl, h1, h2, h3⟩ (unhide HW _ hb)
  have HIs : Hid (∀ w', Below (w.heap.size + 2) ((w.alloc (.cells #[.int .i64 q.n, .slice ta q.tail.length tc, .slice na q.next.length nc, .slice ca q.cap.length cc] 25)).alloc (.cells #[.slice none 0 0, .slice none 0 0, .int .i64 0] 54)) w' → Calls Try.prog 37 #[.agg #[.int .i64 q.n, .slice ta q.tail.length tc, .slice na q.next.length nc, .slice ca q.cap.length cc], .int .i64 s] w' fun e w'' => e = .returned (.bool (decide (0 ≤ s ∧ s < q.n))) ∧ Below w'.heap.size w' w'') := hide fun w' hb => rmvertex_any q _ _ _ _ s w' (unhide HV w' hb)
  have HIt : Hid (∀ w', Below (w.heap.size + 2) ((w.alloc (.cells #[.int .i64 q.n, .slice ta q.tail.length tc, .slice na q.next.length nc, .slice ca q.cap.length cc] 25)).alloc (.cells #[.slice none 0 0, .slice none 0 0, .int .i64 0] 54)) w' → Calls Try.prog 37 #[.agg #[.int .i64 q.n, .slice ta q.tail.length tc, .slice na q.next.length nc, .slice ca q.cap.length cc], .int .i64 t] w' fun e w'' => e = .returned (.bool (decide (0 ≤ t ∧ t < q.n))) ∧ Below w'.heap.size w' w'') := hide fun w' hb => rmvertex_any q _ _ _ _ t w' (unhide HV w' hb)
  clear h1 h2 h3
  rw [decide_eq_false h0] at HIs
  have hbz := Below.refl (w.heap.size + 2) ((w.alloc (.cells #[.int .i64 q.n, .slice ta q.tail.length tc, .slice na q.next.length nc, .slice ca q.cap.length cc] 25)).alloc (.cells #[.slice none 0 0, .slice none 0 0, .int .i64 0] 54))
  obtain ⟨x0, x1, x2, x3⟩ := unhide HFX _ hbz
  obtain ⟨P, hP⟩ : ∃ P : Ending → World → Prop, P = fun e w' => e = .returned (.tuple #[.agg #[.slice none 0 0, .slice none 0 0, .int .i64 0], .int .i64 3]) ∧ Below w.heap.size w w' := ⟨_, rfl⟩
  rw [← hP]
  have HP := hide hP
  clear hP
  go_enter Try.func27, Try.ntmps27
  go_wp2_with fail
  go_at_call 37
  refine (unhide HIs _ hbz).mono ?_
  rintro e wa ⟨rfl, hlwa⟩
  have hbwa := Below.trans hbz (hlwa.mono (by have h1 := Below.size hbz; have h2 := unhide HS2; omega))
  clear x0 x1 x2 x3
  obtain ⟨x0, x1, x2, x3⟩ := unhide HFX _ hbwa
  have HB := hide hbwa
  obtain ⟨z0, z1, z2, zf⟩ := unhide HGX _ (unhide HB)
  have HZ : Hid (∀ w', Below (w.heap.size + 2) ((w.alloc (.cells #[.int .i64 q.n, .slice ta q.tail.length tc, .slice na q.next.length nc, .slice ca q.cap.length cc] 25)).alloc (.cells #[.slice none 0 0, .slice none 0 0, .int .i64 0] 54)) w' → w'.heap[w.heap.size + 1]? = some (.cells #[.slice none 0 0, .slice none 0 0, .int .i64 0] 54)) := hide fun w' hb => survey_z w _ _ _ _ w' hb
  have z1' := fun v : Value => show (wa.setCell ⟨w.heap.size + 1, 0, none⟩ v).cell? ⟨w.heap.size + 1, 1, none⟩ = some (.slice none 0 0) by rw [cell_set_ne (by omega)]; exact z1
  have z2' := fun v v' : Value => show ((wa.setCell ⟨w.heap.size + 1, 0, none⟩ v).setCell ⟨w.heap.size + 1, 1, none⟩ v').cell? ⟨w.heap.size + 1, 2, none⟩ = some (.int .i64 0) by rw [cell_set_ne (by omega), cell_set_ne (by omega)]; exact z2
  clear hbz hlwa hbwa
  go_wp2
  have hfin : ((((wa.setCell ⟨w.heap.size + 1, 0, none⟩ (.slice none 0 0)).setCell ⟨w.heap.size + 1, 1, none⟩ (.slice none 0 0)).setCell ⟨w.heap.size + 1, 2, none⟩ (.int .i64 0))).heap[w.heap.size + 1]? = some (.cells #[.slice none 0 0, .slice none 0 0, .int .i64 0] 54) := land_set (unhide HZ _ (unhide HB)) _ _ _
  have hbf : Below w.heap.size w ((((wa.setCell ⟨w.heap.size + 1, 0, none⟩ (.slice none 0 0)).setCell ⟨w.heap.size + 1, 1, none⟩ (.slice none 0 0)).setCell ⟨w.heap.size + 1, 2, none⟩ (.int .i64 0))) := ((((unhide HW _ (unhide HB)).setCell (p := ⟨w.heap.size + 1, 0, none⟩) (Nat.le_succ _) _).setCell (p := ⟨w.heap.size + 1, 1, none⟩) (Nat.le_succ _) _).setCell (p := ⟨w.heap.size + 1, 2, none⟩) (Nat.le_succ _) _)
  generalize (((wa.setCell ⟨w.heap.size + 1, 0, none⟩ (.slice none 0 0)).setCell ⟨w.heap.size + 1, 1, none⟩ (.slice none 0 0)).setCell ⟨w.heap.size + 1, 2, none⟩ (.int .i64 0)) = WF at *
  have r0 : WF.cell? ⟨w.heap.size + 1, 0, none⟩ = some (.slice none 0 0) := by rw [cell_of_row _ _ _ _ _ _ hfin]; rfl
  have r1 : WF.cell? ⟨w.heap.size + 1, 1, none⟩ = some (.slice none 0 0) := by rw [cell_of_row _ _ _ _ _ _ hfin]; rfl
  have r2 : WF.cell? ⟨w.heap.size + 1, 2, none⟩ = some (.int .i64 0) := by rw [cell_of_row _ _ _ _ _ _ hfin]; rfl
  refine bodyPost_ret (v := .tuple #[.agg #[.slice none 0 0, .slice none 0 0, .int .i64 0], .int .i64 3]) (by simp [results, Try.results27, go_sem, r0, r1, r2]) rfl ?_
  rw [unhide HP]
  exact ⟨rfl, hbf⟩
set_option maxRecDepth 100000 in
set_option maxHeartbeats 4000000 in
theorem survey_bad1 (q : Sp.Net) (v tv nv cv : Value) (s t : Int) (w : World) (hv : NetI w v q tv nv cv) (h0 : 0 ≤ s ∧ s < q.n) (h1 : ¬ (0 ≤ t ∧ t < q.n)) :
    Calls Try.prog 27 #[v, .int .i64 s, .int .i64 t] w fun e w' => e = .returned (.tuple #[.agg #[.slice none 0 0, .slice none 0 0, .int .i64 0], .int .i64 3]) ∧ Below w.heap.size w w' := by
  obtain ⟨rfl, h1, h2, h3⟩ := hv
  obtain ⟨ta, tc, rfl, -, -⟩ := h1.form
  obtain ⟨na, nc, rfl, -, -⟩ := h2.form
  obtain ⟨ca, cc, rfl, -, -⟩ := h3.form
  have HFX : Hid (∀ w', Below (w.heap.size + 2) ((w.alloc (.cells #[.int .i64 q.n, .slice ta q.tail.length tc, .slice na q.next.length nc, .slice ca q.cap.length cc] 25)).alloc (.cells #[.slice none 0 0, .slice none 0 0, .int .i64 0] 54)) w' → w'.cell? ⟨w.heap.size, 0, none⟩ = some (.int .i64 q.n) ∧ w'.cell? ⟨w.heap.size, 1, none⟩ = some (.slice ta q.tail.length tc) ∧ w'.cell? ⟨w.heap.size, 2, none⟩ = some (.slice na q.next.length nc) ∧ w'.cell? ⟨w.heap.size, 3, none⟩ = some (.slice ca q.cap.length cc)) := hide fun w' hb => survey_fx w _ _ _ _ w' hb
  have HGX : Hid (∀ w', Below (w.heap.size + 2) ((w.alloc (.cells #[.int .i64 q.n, .slice ta q.tail.length tc, .slice na q.next.length nc, .slice ca q.cap.length cc] 25)).alloc (.cells #[.slice none 0 0, .slice none 0 0, .int .i64 0] 54)) w' → w'.cell? ⟨w.heap.size + 1, 0, none⟩ = some (.slice none 0 0) ∧ w'.cell? ⟨w.heap.size + 1, 1, none⟩ = some (.slice none 0 0) ∧ w'.cell? ⟨w.heap.size + 1, 2, none⟩ = some (.int .i64 0) ∧ (∀ k, w'.frozen? ⟨w.heap.size + 1, k, none⟩ = false)) := hide fun w' hb => survey_gx w _ _ _ _ w' hb
  have HW : Hid (∀ w', Below (w.heap.size + 2) ((w.alloc (.cells #[.int .i64 q.n, .slice ta q.tail.length tc, .slice na q.next.length nc, .slice ca q.cap.length cc] 25)).alloc (.cells #[.slice none 0 0, .slice none 0 0, .int .i64 0] 54)) w' → Below w.heap.size w w') := hide fun w' hb => survey_w w _ _ _ _ w' hb
  have HS2 : Hid (((w.alloc (.cells #[.int .i64 q.n, .slice ta q.tail.length tc, .slice na q.next.length nc, .slice ca q.cap.length cc] 25)).alloc (.cells #[.slice none 0 0, .slice none 0 0, .int .i64 0] 54)).heap.size = w.heap.size + 2) := hide (by simp)
  have HV : Hid (∀ w', Below (w.heap.size + 2) ((w.alloc (.cells #[.int .i64 q.n, .slice ta q.tail.length tc, .slice na q.next.length nc, .slice ca q.cap.length cc] 25)).alloc (.cells #[.slice none 0 0, .slice none 0 0, .int .i64 0] 54)) w' → NetI w' (.agg #[.int .i64 q.n, .slice ta q.tail.length tc, .slice na q.next.length nc, .slice ca q.cap.length cc]) q (.slice ta q.tail.length tc) (.slice na q.next.length nc) (.slice ca q.cap.length cc)) := hide fun w' hb => NetI.below ⟨rfl, h1, h2, h3⟩ (unhide HW _ hb)
  have HIs : Hid (∀ w', Below (w.heap.size + 2) ((w.alloc (.cells #[.int .i64 q.n, .slice ta q.tail.length tc, .slice na q.next.length nc, .slice ca q.cap.length cc] 25)).alloc (.cells #[.slice none 0 0, .slice none 0 0, .int .i64 0] 54)) w' → Calls Try.prog 37 #[.agg #[.int .i64 q.n, .slice ta q.tail.length tc, .slice na q.next.length nc, .slice ca q.cap.length cc], .int .i64 s] w' fun e w'' => e = .returned (.bool (decide (0 ≤ s ∧ s < q.n))) ∧ Below w'.heap.size w' w'') := hide fun w' hb => rmvertex_any q _ _ _ _ s w' (unhide HV w' hb)
  have HIt : Hid (∀ w', Below (w.heap.size + 2) ((w.alloc (.cells #[.int .i64 q.n, .slice ta q.tail.length tc, .slice na q.next.length nc, .slice ca q.cap.length cc] 25)).alloc (.cells #[.slice none 0 0, .slice none 0 0, .int .i64 0] 54)) w' → Calls Try.prog 37 #[.agg #[.int .i64 q.n, .slice ta q.tail.length tc, .slice na q.next.length nc, .slice ca q.cap.length cc], .int .i64 t] w' fun e w'' => e = .returned (.bool (decide (0 ≤ t ∧ t < q.n))) ∧ Below w'.heap.size w' w'') := hide fun w' hb => rmvertex_any q _ _ _ _ t w' (unhide HV w' hb)
  clear h1 h2 h3
  rw [decide_eq_true h0] at HIs
  rw [decide_eq_false h1] at HIt
  have hbz := Below.refl (w.heap.size + 2) ((w.alloc (.cells #[.int .i64 q.n, .slice ta q.tail.length tc, .slice na q.next.length nc, .slice ca q.cap.length cc] 25)).alloc (.cells #[.slice none 0 0, .slice none 0 0, .int .i64 0] 54))
  obtain ⟨x0, x1, x2, x3⟩ := unhide HFX _ hbz
  obtain ⟨P, hP⟩ : ∃ P : Ending → World → Prop, P = fun e w' => e = .returned (.tuple #[.agg #[.slice none 0 0, .slice none 0 0, .int .i64 0], .int .i64 3]) ∧ Below w.heap.size w w' := ⟨_, rfl⟩
  rw [← hP]
  have HP := hide hP
  clear hP
  go_enter Try.func27, Try.ntmps27
  go_wp2_with fail
  go_at_call 37
  refine (unhide HIs _ hbz).mono ?_
  rintro e wa ⟨rfl, hlwa⟩
  have hbwa := Below.trans hbz (hlwa.mono (by have h1 := Below.size hbz; have h2 := unhide HS2; omega))
  clear x0 x1 x2 x3
  obtain ⟨x0, x1, x2, x3⟩ := unhide HFX _ hbwa
  go_wp2_with fail
  go_at_call 37
  refine (unhide HIt _ hbwa).mono ?_
  rintro e wb ⟨rfl, hlwb⟩
  have hbwb := Below.trans hbwa (hlwb.mono (by have h1 := Below.size hbwa; have h2 := unhide HS2; omega))
  clear x0 x1 x2 x3
  obtain ⟨x0, x1, x2, x3⟩ := unhide HFX _ hbwb
  have HB := hide hbwb
  obtain ⟨z0, z1, z2, zf⟩ := unhide HGX _ (unhide HB)
  have HZ : Hid (∀ w', Below (w.heap.size + 2) ((w.alloc (.cells #[.int .i64 q.n, .slice ta q.tail.length tc, .slice na q.next.length nc, .slice ca q.cap.length cc] 25)).alloc (.cells #[.slice none 0 0, .slice none 0 0, .int .i64 0] 54)) w' → w'.heap[w.heap.size + 1]? = some (.cells #[.slice none 0 0, .slice none 0 0, .int .i64 0] 54)) := hide fun w' hb => survey_z w _ _ _ _ w' hb
  have z1' := fun v : Value => show (wb.setCell ⟨w.heap.size + 1, 0, none⟩ v).cell? ⟨w.heap.size + 1, 1, none⟩ = some (.slice none 0 0) by rw [cell_set_ne (by omega)]; exact z1
  have z2' := fun v v' : Value => show ((wb.setCell ⟨w.heap.size + 1, 0, none⟩ v).setCell ⟨w.heap.size + 1, 1, none⟩ v').cell? ⟨w.heap.size + 1, 2, none⟩ = some (.int .i64 0) by rw [cell_set_ne (by omega), cell_set_ne (by omega)]; exact z2
  clear hbz hlwa hbwa hlwb hbwb
  go_wp2
  have hfin : ((((wb.setCell ⟨w.heap.size + 1, 0, none⟩ (.slice none 0 0)).setCell ⟨w.heap.size + 1, 1, none⟩ (.slice none 0 0)).setCell ⟨w.heap.size + 1, 2, none⟩ (.int .i64 0))).heap[w.heap.size + 1]? = some (.cells #[.slice none 0 0, .slice none 0 0, .int .i64 0] 54) := land_set (unhide HZ _ (unhide HB)) _ _ _
  have hbf : Below w.heap.size w ((((wb.setCell ⟨w.heap.size + 1, 0, none⟩ (.slice none 0 0)).setCell ⟨w.heap.size + 1, 1, none⟩ (.slice none 0 0)).setCell ⟨w.heap.size + 1, 2, none⟩ (.int .i64 0))) := ((((unhide HW _ (unhide HB)).setCell (p := ⟨w.heap.size + 1, 0, none⟩) (Nat.le_succ _) _).setCell (p := ⟨w.heap.size + 1, 1, none⟩) (Nat.le_succ _) _).setCell (p := ⟨w.heap.size + 1, 2, none⟩) (Nat.le_succ _) _)
  generalize (((wb.setCell ⟨w.heap.size + 1, 0, none⟩ (.slice none 0 0)).setCell ⟨w.heap.size + 1, 1, none⟩ (.slice none 0 0)).setCell ⟨w.heap.size + 1, 2, none⟩ (.int .i64 0)) = WF at *
  have r0 : WF.cell? ⟨w.heap.size + 1, 0, none⟩ = some (.slice none 0 0) := by rw [cell_of_row _ _ _ _ _ _ hfin]; rfl
  have r1 : WF.cell? ⟨w.heap.size + 1, 1, none⟩ = some (.slice none 0 0) := by rw [cell_of_row _ _ _ _ _ _ hfin]; rfl
  have r2 : WF.cell? ⟨w.heap.size + 1, 2, none⟩ = some (.int .i64 0) := by rw [cell_of_row _ _ _ _ _ _ hfin]; rfl
  refine bodyPost_ret (v := .tuple #[.agg #[.slice none 0 0, .slice none 0 0, .int .i64 0], .int .i64 3]) (by simp [results, Try.results27, go_sem, r0, r1, r2]) rfl ?_
  rw [unhide HP]
  exact ⟨rfl, hbf⟩
set_option maxRecDepth 100000 in
set_option maxHeartbeats 4000000 in
theorem survey_bad2 (q : Sp.Net) (v tv nv cv : Value) (s t : Int) (w : World) (hv : NetI w v q tv nv cv) (h0 : 0 ≤ s ∧ s < q.n) (h1 : 0 ≤ t ∧ t < q.n) (hst : s = t) :
    Calls Try.prog 27 #[v, .int .i64 s, .int .i64 t] w fun e w' => e = .returned (.tuple #[.agg #[.slice none 0 0, .slice none 0 0, .int .i64 0], .int .i64 9]) ∧ Below w.heap.size w w' := by
  obtain ⟨rfl, h1, h2, h3⟩ := hv
  obtain ⟨ta, tc, rfl, -, -⟩ := h1.form
  obtain ⟨na, nc, rfl, -, -⟩ := h2.form
  obtain ⟨ca, cc, rfl, -, -⟩ := h3.form
  have HFX : Hid (∀ w', Below (w.heap.size + 2) ((w.alloc (.cells #[.int .i64 q.n, .slice ta q.tail.length tc, .slice na q.next.length nc, .slice ca q.cap.length cc] 25)).alloc (.cells #[.slice none 0 0, .slice none 0 0, .int .i64 0] 54)) w' → w'.cell? ⟨w.heap.size, 0, none⟩ = some (.int .i64 q.n) ∧ w'.cell? ⟨w.heap.size, 1, none⟩ = some (.slice ta q.tail.length tc) ∧ w'.cell? ⟨w.heap.size, 2, none⟩ = some (.slice na q.next.length nc) ∧ w'.cell? ⟨w.heap.size, 3, none⟩ = some (.slice ca q.cap.length cc)) := hide fun w' hb => survey_fx w _ _ _ _ w' hb
  have HGX : Hid (∀ w', Below (w.heap.size + 2) ((w.alloc (.cells #[.int .i64 q.n, .slice ta q.tail.length tc, .slice na q.next.length nc, .slice ca q.cap.length cc] 25)).alloc (.cells #[.slice none 0 0, .slice none 0 0, .int .i64 0] 54)) w' → w'.cell? ⟨w.heap.size + 1, 0, none⟩ = some (.slice none 0 0) ∧ w'.cell? ⟨w.heap.size + 1, 1, none⟩ = some (.slice none 0 0) ∧ w'.cell? ⟨w.heap.size + 1, 2, none⟩ = some (.int .i64 0) ∧ (∀ k, w'.frozen? ⟨w.heap.size + 1, k, none⟩ = false)) := hide fun w' hb => survey_gx w _ _ _ _ w' hb
  have HW : Hid (∀ w', Below (w.heap.size + 2) ((w.alloc (.cells #[.int .i64 q.n, .slice ta q.tail.length tc, .slice na q.next.length nc, .slice ca q.cap.length cc] 25)).alloc (.cells #[.slice none 0 0, .slice none 0 0, .int .i64 0] 54)) w' → Below w.heap.size w w') := hide fun w' hb => survey_w w _ _ _ _ w' hb
  have HS2 : Hid (((w.alloc (.cells #[.int .i64 q.n, .slice ta q.tail.length tc, .slice na q.next.length nc, .slice ca q.cap.length cc] 25)).alloc (.cells #[.slice none 0 0, .slice none 0 0, .int .i64 0] 54)).heap.size = w.heap.size + 2) := hide (by simp)
  have HV : Hid (∀ w', Below (w.heap.size + 2) ((w.alloc (.cells #[.int .i64 q.n, .slice ta q.tail.length tc, .slice na q.next.length nc, .slice ca q.cap.length cc] 25)).alloc (.cells #[.slice none 0 0, .slice none 0 0, .int .i64 0] 54)) w' → NetI w' (.agg #[.int .i64 q.n, .slice ta q.tail.length tc, .slice na q.next.length nc, .slice ca q.cap.length cc]) q (.slice ta q.tail.length tc) (.slice na q.next.length nc) (.slice ca q.cap.length cc)) := hide fun w' hb => NetI.below ⟨rfl, h1, h2, h3⟩ (unhide HW _ hb)
  have HIs : Hid (∀ w', Below (w.heap.size + 2) ((w.alloc (.cells #[.int .i64 q.n, .slice ta q.tail.length tc, .slice na q.next.length nc, .slice ca q.cap.length cc] 25)).alloc (.cells #[.slice none 0 0, .slice none 0 0, .int .i64 0] 54)) w' → Calls Try.prog 37 #[.agg #[.int .i64 q.n, .slice ta q.tail.length tc, .slice na q.next.length nc, .slice ca q.cap.length cc], .int .i64 s] w' fun e w'' => e = .returned (.bool (decide (0 ≤ s ∧ s < q.n))) ∧ Below w'.heap.size w' w'') := hide fun w' hb => rmvertex_any q _ _ _ _ s w' (unhide HV w' hb)
  have HIt : Hid (∀ w', Below (w.heap.size + 2) ((w.alloc (.cells #[.int .i64 q.n, .slice ta q.tail.length tc, .slice na q.next.length nc, .slice ca q.cap.length cc] 25)).alloc (.cells #[.slice none 0 0, .slice none 0 0, .int .i64 0] 54)) w' → Calls Try.prog 37 #[.agg #[.int .i64 q.n, .slice ta q.tail.length tc, .slice na q.next.length nc, .slice ca q.cap.length cc], .int .i64 t] w' fun e w'' => e = .returned (.bool (decide (0 ≤ t ∧ t < q.n))) ∧ Below w'.heap.size w' w'') := hide fun w' hb => rmvertex_any q _ _ _ _ t w' (unhide HV w' hb)
  clear h1 h2 h3
  rw [decide_eq_true h0] at HIs
  rw [decide_eq_true h1] at HIt
  subst hst
  have hsb : (s == s) = true := beq_self_eq_true s
  have hbz := Below.refl (w.heap.size + 2) ((w.alloc (.cells #[.int .i64 q.n, .slice ta q.tail.length tc, .slice na q.next.length nc, .slice ca q.cap.length cc] 25)).alloc (.cells #[.slice none 0 0, .slice none 0 0, .int .i64 0] 54))
  obtain ⟨x0, x1, x2, x3⟩ := unhide HFX _ hbz
  obtain ⟨P, hP⟩ : ∃ P : Ending → World → Prop, P = fun e w' => e = .returned (.tuple #[.agg #[.slice none 0 0, .slice none 0 0, .int .i64 0], .int .i64 9]) ∧ Below w.heap.size w w' := ⟨_, rfl⟩
  rw [← hP]
  have HP := hide hP
  clear hP
  go_enter Try.func27, Try.ntmps27
  go_wp2_with fail
  go_at_call 37
  refine (unhide HIs _ hbz).mono ?_
  rintro e wa ⟨rfl, hlwa⟩
  have hbwa := Below.trans hbz (hlwa.mono (by have h1 := Below.size hbz; have h2 := unhide HS2; omega))
  clear x0 x1 x2 x3
  obtain ⟨x0, x1, x2, x3⟩ := unhide HFX _ hbwa
  go_wp2_with fail
  go_at_call 37
  refine (unhide HIt _ hbwa).mono ?_
  rintro e wb ⟨rfl, hlwb⟩
  have hbwb := Below.trans hbwa (hlwb.mono (by have h1 := Below.size hbwa; have h2 := unhide HS2; omega))
  clear x0 x1 x2 x3
  obtain ⟨x0, x1, x2, x3⟩ := unhide HFX _ hbwb
  have HB := hide hbwb
  obtain ⟨z0, z1, z2, zf⟩ := unhide HGX _ (unhide HB)
  have HZ : Hid (∀ w', Below (w.heap.size + 2) ((w.alloc (.cells #[.int .i64 q.n, .slice ta q.tail.length tc, .slice na q.next.length nc, .slice ca q.cap.length cc] 25)).alloc (.cells #[.slice none 0 0, .slice none 0 0, .int .i64 0] 54)) w' → w'.heap[w.heap.size + 1]? = some (.cells #[.slice none 0 0, .slice none 0 0, .int .i64 0] 54)) := hide fun w' hb => survey_z w _ _ _ _ w' hb
  have z1' := fun v : Value => show (wb.setCell ⟨w.heap.size + 1, 0, none⟩ v).cell? ⟨w.heap.size + 1, 1, none⟩ = some (.slice none 0 0) by rw [cell_set_ne (by omega)]; exact z1
  have z2' := fun v v' : Value => show ((wb.setCell ⟨w.heap.size + 1, 0, none⟩ v).setCell ⟨w.heap.size + 1, 1, none⟩ v').cell? ⟨w.heap.size + 1, 2, none⟩ = some (.int .i64 0) by rw [cell_set_ne (by omega), cell_set_ne (by omega)]; exact z2
  clear hbz hlwa hbwa hlwb hbwb
  go_wp2
  have hfin : ((((wb.setCell ⟨w.heap.size + 1, 0, none⟩ (.slice none 0 0)).setCell ⟨w.heap.size + 1, 1, none⟩ (.slice none 0 0)).setCell ⟨w.heap.size + 1, 2, none⟩ (.int .i64 0))).heap[w.heap.size + 1]? = some (.cells #[.slice none 0 0, .slice none 0 0, .int .i64 0] 54) := land_set (unhide HZ _ (unhide HB)) _ _ _
  have hbf : Below w.heap.size w ((((wb.setCell ⟨w.heap.size + 1, 0, none⟩ (.slice none 0 0)).setCell ⟨w.heap.size + 1, 1, none⟩ (.slice none 0 0)).setCell ⟨w.heap.size + 1, 2, none⟩ (.int .i64 0))) := ((((unhide HW _ (unhide HB)).setCell (p := ⟨w.heap.size + 1, 0, none⟩) (Nat.le_succ _) _).setCell (p := ⟨w.heap.size + 1, 1, none⟩) (Nat.le_succ _) _).setCell (p := ⟨w.heap.size + 1, 2, none⟩) (Nat.le_succ _) _)
  generalize (((wb.setCell ⟨w.heap.size + 1, 0, none⟩ (.slice none 0 0)).setCell ⟨w.heap.size + 1, 1, none⟩ (.slice none 0 0)).setCell ⟨w.heap.size + 1, 2, none⟩ (.int .i64 0)) = WF at *
  have r0 : WF.cell? ⟨w.heap.size + 1, 0, none⟩ = some (.slice none 0 0) := by rw [cell_of_row _ _ _ _ _ _ hfin]; rfl
  have r1 : WF.cell? ⟨w.heap.size + 1, 1, none⟩ = some (.slice none 0 0) := by rw [cell_of_row _ _ _ _ _ _ hfin]; rfl
  have r2 : WF.cell? ⟨w.heap.size + 1, 2, none⟩ = some (.int .i64 0) := by rw [cell_of_row _ _ _ _ _ _ hfin]; rfl
  refine bodyPost_ret (v := .tuple #[.agg #[.slice none 0 0, .slice none 0 0, .int .i64 0], .int .i64 9]) (by simp [results, Try.results27, go_sem, r0, r1, r2]) rfl ?_
  rw [unhide HP]
  exact ⟨rfl, hbf⟩
set_option maxRecDepth 100000 in
set_option maxHeartbeats 4000000 in
theorem survey_bad3 (q : Sp.Net) (v tv nv cv : Value) (s t : Int) (w : World) (hv : NetI w v q tv nv cv) (h0 : 0 ≤ s ∧ s < q.n) (h1 : 0 ≤ t ∧ t < q.n) (hst : s ≠ t) (hq : Sp.LinkQ q) (hc : Sp.checkI q = 0) (hn0 : -9223372036854775808 ≤ q.n) (hn1 : q.n ≤ 9223372036854775807) (hsh : (Sp.shared q s t).2 = false) :
    Calls Try.prog 27 #[v, .int .i64 s, .int .i64 t] w fun e w' => e = .returned (.tuple #[.agg #[.slice none 0 0, .slice none 0 0, .int .i64 0], .int .i64 10]) ∧ Below w.heap.size w w' := by
  obtain ⟨rfl, h1, h2, h3⟩ := hv
  obtain ⟨ta, tc, rfl, -, -⟩ := h1.form
  obtain ⟨na, nc, rfl, -, -⟩ := h2.form
  obtain ⟨ca, cc, rfl, -, -⟩ := h3.form
  have HFX : Hid (∀ w', Below (w.heap.size + 2) ((w.alloc (.cells #[.int .i64 q.n, .slice ta q.tail.length tc, .slice na q.next.length nc, .slice ca q.cap.length cc] 25)).alloc (.cells #[.slice none 0 0, .slice none 0 0, .int .i64 0] 54)) w' → w'.cell? ⟨w.heap.size, 0, none⟩ = some (.int .i64 q.n) ∧ w'.cell? ⟨w.heap.size, 1, none⟩ = some (.slice ta q.tail.length tc) ∧ w'.cell? ⟨w.heap.size, 2, none⟩ = some (.slice na q.next.length nc) ∧ w'.cell? ⟨w.heap.size, 3, none⟩ = some (.slice ca q.cap.length cc)) := hide fun w' hb => survey_fx w _ _ _ _ w' hb
  have HGX : Hid (∀ w', Below (w.heap.size + 2) ((w.alloc (.cells #[.int .i64 q.n, .slice ta q.tail.length tc, .slice na q.next.length nc, .slice ca q.cap.length cc] 25)).alloc (.cells #[.slice none 0 0, .slice none 0 0, .int .i64 0] 54)) w' → w'.cell? ⟨w.heap.size + 1, 0, none⟩ = some (.slice none 0 0) ∧ w'.cell? ⟨w.heap.size + 1, 1, none⟩ = some (.slice none 0 0) ∧ w'.cell? ⟨w.heap.size + 1, 2, none⟩ = some (.int .i64 0) ∧ (∀ k, w'.frozen? ⟨w.heap.size + 1, k, none⟩ = false)) := hide fun w' hb => survey_gx w _ _ _ _ w' hb
  have HW : Hid (∀ w', Below (w.heap.size + 2) ((w.alloc (.cells #[.int .i64 q.n, .slice ta q.tail.length tc, .slice na q.next.length nc, .slice ca q.cap.length cc] 25)).alloc (.cells #[.slice none 0 0, .slice none 0 0, .int .i64 0] 54)) w' → Below w.heap.size w w') := hide fun w' hb => survey_w w _ _ _ _ w' hb
  have HS2 : Hid (((w.alloc (.cells #[.int .i64 q.n, .slice ta q.tail.length tc, .slice na q.next.length nc, .slice ca q.cap.length cc] 25)).alloc (.cells #[.slice none 0 0, .slice none 0 0, .int .i64 0] 54)).heap.size = w.heap.size + 2) := hide (by simp)
  have HV : Hid (∀ w', Below (w.heap.size + 2) ((w.alloc (.cells #[.int .i64 q.n, .slice ta q.tail.length tc, .slice na q.next.length nc, .slice ca q.cap.length cc] 25)).alloc (.cells #[.slice none 0 0, .slice none 0 0, .int .i64 0] 54)) w' → NetI w' (.agg #[.int .i64 q.n, .slice ta q.tail.length tc, .slice na q.next.length nc, .slice ca q.cap.length cc]) q (.slice ta q.tail.length tc) (.slice na q.next.length nc) (.slice ca q.cap.length cc)) := hide fun w' hb => NetI.below ⟨rfl, h1, h2, h3⟩ (unhide HW _ hb)
  have HIs : Hid (∀ w', Below (w.heap.size + 2) ((w.alloc (.cells #[.int .i64 q.n, .slice ta q.tail.length tc, .slice na q.next.length nc, .slice ca q.cap.length cc] 25)).alloc (.cells #[.slice none 0 0, .slice none 0 0, .int .i64 0] 54)) w' → Calls Try.prog 37 #[.agg #[.int .i64 q.n, .slice ta q.tail.length tc, .slice na q.next.length nc, .slice ca q.cap.length cc], .int .i64 s] w' fun e w'' => e = .returned (.bool (decide (0 ≤ s ∧ s < q.n))) ∧ Below w'.heap.size w' w'') := hide fun w' hb => rmvertex_any q _ _ _ _ s w' (unhide HV w' hb)
  have HIt : Hid (∀ w', Below (w.heap.size + 2) ((w.alloc (.cells #[.int .i64 q.n, .slice ta q.tail.length tc, .slice na q.next.length nc, .slice ca q.cap.length cc] 25)).alloc (.cells #[.slice none 0 0, .slice none 0 0, .int .i64 0] 54)) w' → Calls Try.prog 37 #[.agg #[.int .i64 q.n, .slice ta q.tail.length tc, .slice na q.next.length nc, .slice ca q.cap.length cc], .int .i64 t] w' fun e w'' => e = .returned (.bool (decide (0 ≤ t ∧ t < q.n))) ∧ Below w'.heap.size w' w'') := hide fun w' hb => rmvertex_any q _ _ _ _ t w' (unhide HV w' hb)
  clear h1 h2 h3
  rw [decide_eq_true h0] at HIs
  rw [decide_eq_true h1] at HIt
  have hsb : (s == t) = false := beq_eq_false_iff_ne.2 hst
  have HSp : Hid (∀ w', Below (w.heap.size + 2) ((w.alloc (.cells #[.int .i64 q.n, .slice ta q.tail.length tc, .slice na q.next.length nc, .slice ca q.cap.length cc] 25)).alloc (.cells #[.slice none 0 0, .slice none 0 0, .int .i64 0] 54)) w' → Calls Try.prog 38 #[.agg #[.int .i64 q.n, .slice ta q.tail.length tc, .slice na q.next.length nc, .slice ca q.cap.length cc], .int .i64 s, .int .i64 t] w' fun e w'' => e = .returned (.tuple #[.slice none 0 0, .int .i64 0, .int .i64 0, .int .i64 0, .bool false]) ∧ Below w'.heap.size w' w'') := hide fun w' hb => splitNone_any q _ _ _ _ s t w' (unhide HV w' hb) hq hc hn0 hn1 hsh
  clear hq hc hsh
  have hbz := Below.refl (w.heap.size + 2) ((w.alloc (.cells #[.int .i64 q.n, .slice ta q.tail.length tc, .slice na q.next.length nc, .slice ca q.cap.length cc] 25)).alloc (.cells #[.slice none 0 0, .slice none 0 0, .int .i64 0] 54))
  obtain ⟨x0, x1, x2, x3⟩ := unhide HFX _ hbz
  obtain ⟨P, hP⟩ : ∃ P : Ending → World → Prop, P = fun e w' => e = .returned (.tuple #[.agg #[.slice none 0 0, .slice none 0 0, .int .i64 0], .int .i64 10]) ∧ Below w.heap.size w w' := ⟨_, rfl⟩
  rw [← hP]
  have HP := hide hP
  clear hP
  go_enter Try.func27, Try.ntmps27
  go_wp2_with fail
  go_at_call 37
  refine (unhide HIs _ hbz).mono ?_
  rintro e wa ⟨rfl, hlwa⟩
  have hbwa := Below.trans hbz (hlwa.mono (by have h1 := Below.size hbz; have h2 := unhide HS2; omega))
  clear x0 x1 x2 x3
  obtain ⟨x0, x1, x2, x3⟩ := unhide HFX _ hbwa
  go_wp2_with fail
  go_at_call 37
  refine (unhide HIt _ hbwa).mono ?_
  rintro e wb ⟨rfl, hlwb⟩
  have hbwb := Below.trans hbwa (hlwb.mono (by have h1 := Below.size hbwa; have h2 := unhide HS2; omega))
  clear x0 x1 x2 x3
  obtain ⟨x0, x1, x2, x3⟩ := unhide HFX _ hbwb
  go_wp2_with fail
  go_at_call 38
  refine (unhide HSp _ hbwb).mono ?_
  rintro e wd ⟨rfl, hld⟩
  have hbwd := Below.trans hbwb (hld.mono (by have h1 := Below.size hbwb; have h2 := unhide HS2; omega))
  clear x0 x1 x2 x3
  have HB := hide hbwd
  obtain ⟨z0, z1, z2, zf⟩ := unhide HGX _ (unhide HB)
  have HZ : Hid (∀ w', Below (w.heap.size + 2) ((w.alloc (.cells #[.int .i64 q.n, .slice ta q.tail.length tc, .slice na q.next.length nc, .slice ca q.cap.length cc] 25)).alloc (.cells #[.slice none 0 0, .slice none 0 0, .int .i64 0] 54)) w' → w'.heap[w.heap.size + 1]? = some (.cells #[.slice none 0 0, .slice none 0 0, .int .i64 0] 54)) := hide fun w' hb => survey_z w _ _ _ _ w' hb
  have z1' := fun v : Value => show (wd.setCell ⟨w.heap.size + 1, 0, none⟩ v).cell? ⟨w.heap.size + 1, 1, none⟩ = some (.slice none 0 0) by rw [cell_set_ne (by omega)]; exact z1
  have z2' := fun v v' : Value => show ((wd.setCell ⟨w.heap.size + 1, 0, none⟩ v).setCell ⟨w.heap.size + 1, 1, none⟩ v').cell? ⟨w.heap.size + 1, 2, none⟩ = some (.int .i64 0) by rw [cell_set_ne (by omega), cell_set_ne (by omega)]; exact z2
  clear hbz hlwa hbwa hlwb hbwb hld hbwd
  go_wp2
  have hfin : ((((wd.setCell ⟨w.heap.size + 1, 0, none⟩ (.slice none 0 0)).setCell ⟨w.heap.size + 1, 1, none⟩ (.slice none 0 0)).setCell ⟨w.heap.size + 1, 2, none⟩ (.int .i64 0))).heap[w.heap.size + 1]? = some (.cells #[.slice none 0 0, .slice none 0 0, .int .i64 0] 54) := land_set (unhide HZ _ (unhide HB)) _ _ _
  have hbf : Below w.heap.size w ((((wd.setCell ⟨w.heap.size + 1, 0, none⟩ (.slice none 0 0)).setCell ⟨w.heap.size + 1, 1, none⟩ (.slice none 0 0)).setCell ⟨w.heap.size + 1, 2, none⟩ (.int .i64 0))) := ((((unhide HW _ (unhide HB)).setCell (p := ⟨w.heap.size + 1, 0, none⟩) (Nat.le_succ _) _).setCell (p := ⟨w.heap.size + 1, 1, none⟩) (Nat.le_succ _) _).setCell (p := ⟨w.heap.size + 1, 2, none⟩) (Nat.le_succ _) _)
  generalize (((wd.setCell ⟨w.heap.size + 1, 0, none⟩ (.slice none 0 0)).setCell ⟨w.heap.size + 1, 1, none⟩ (.slice none 0 0)).setCell ⟨w.heap.size + 1, 2, none⟩ (.int .i64 0)) = WF at *
  have r0 : WF.cell? ⟨w.heap.size + 1, 0, none⟩ = some (.slice none 0 0) := by rw [cell_of_row _ _ _ _ _ _ hfin]; rfl
  have r1 : WF.cell? ⟨w.heap.size + 1, 1, none⟩ = some (.slice none 0 0) := by rw [cell_of_row _ _ _ _ _ _ hfin]; rfl
  have r2 : WF.cell? ⟨w.heap.size + 1, 2, none⟩ = some (.int .i64 0) := by rw [cell_of_row _ _ _ _ _ _ hfin]; rfl
  refine bodyPost_ret (v := .tuple #[.agg #[.slice none 0 0, .slice none 0 0, .int .i64 0], .int .i64 10]) (by simp [results, Try.results27, go_sem, r0, r1, r2]) rfl ?_
  rw [unhide HP]
  exact ⟨rfl, hbf⟩
end Go.Proofs.Ytoegjnolccabjaa


/- The reference's Split. -/
namespace Go.Proofs.Ytoegjnolccabjaa
open Go Go.RowKit

theorem ButRow.dn {g : Nat} {w w' : World} (h : ButRow g w w') (n : Nat) : ButRow g w (w'.drewN n) := ⟨h.os, h.tape, h.output, h.size, h.block⟩
set_option maxRecDepth 100000 in
set_option maxHeartbeats 2000000 in
theorem first_any (q : Sp.Net) (l : List Int) (v tv nv cv lv : Value) (x : Int) (n a : Nat) (w : World) (hv : NetI w v q tv nv cv) (hl : Ints w lv l) (hn : l.length = n) (h240 : n ≤ 1000) (hld : ∀ j, j < n → ∃ z : Nat, l.getD j 0 = (z : Int) ∧ z < q.tail.length)
    (ha : a < n) (ha1 : q.tail.getD (l.getD a 0).toNat 0 = x) (ha2 : ∀ j, j < a → q.tail.getD (l.getD j 0).toNat 0 ≠ x) :
    Calls Try.prog 35 #[v, lv, .int .i64 x] w fun e w' => e = .returned (.int .i64 (a : Int)) ∧ Below w.heap.size w w' := by
  obtain ⟨rfl, h1, h2, h3⟩ := hv
  obtain ⟨ta, tc, rfl, htc, htm, HT⟩ := h1.allG
  obtain ⟨na, nc, rfl, -, -⟩ := h2.form
  obtain ⟨ca, cc, rfl, -, -⟩ := h3.form
  obtain ⟨la, lc, rfl, -, -, HL⟩ := hl.allG
  rw [hn] at HL ⊢
  obtain ⟨W1, hW1⟩ : ∃ W1, W1 = w.alloc (.cells #[.int .i64 q.n, .slice ta q.tail.length tc, .slice na q.next.length nc, .slice ca q.cap.length cc] 25) := ⟨_, rfl⟩
  have HBX := hide (box_new w q.n (.slice ta q.tail.length tc) (.slice na q.next.length nc) (.slice ca q.cap.length cc))
  rw [← hW1] at HBX
  have hb1 : Below w.heap.size w W1 := by rw [hW1]; exact (Below.refl _ w).alloc (Nat.le_refl _) _
  have hs1 : W1.heap.size = w.heap.size + 1 := by rw [hW1]; simp
  have HW : Hid (∀ w', Below (w.heap.size + 1) W1 w' → Below w.heap.size w w') := hide fun w' hb => hb1.trans (hb.mono (by omega))
  have HA2 := hide ha2
  have HA1 := hide ha1
  have HLd := hide hld
  obtain ⟨P, hP⟩ : ∃ P : Ending → World → Prop, P = fun e w' => e = .returned (.int .i64 (a : Int)) ∧ Below w.heap.size w w' := ⟨_, rfl⟩
  rw [← hP]
  have HP := hide hP
  have HB0 : Hid (Below (w.heap.size + 1) W1 W1) := hide (Below.refl _ _)
  clear hP hl h1 h2 h3 hld ha1 ha2 hn hb1 hs1
  subst hW1
  go_enter Try.func35, Try.ntmps35
  go_wp2
  generalize w.alloc (.cells #[.int .i64 q.n, .slice ta q.tail.length tc, .slice na q.next.length nc, .slice ca q.cap.length cc] 25) = W1 at *
  go_loopg [7] a (fun g s7 wr => ∃ k : Nat, k + g = a ∧ s7 = .int .i64 (k : Int) ∧ Hid (Below (w.heap.size + 1) W1 wr))
  case atStart => exact ⟨0, by omega, rfl, HB0⟩
  case round =>
    clear HB0
    obtain ⟨k, hk, rfl, HB⟩ := hrel
    have hlt : k < n := by omega
    have hltI : (k : Int) < (n : Int) := by omega
    obtain ⟨b', o, rfl, -, hcx⟩ := unhide HL k hlt
    have c1 := hcx wr (unhide HW _ (unhide HB))
    obtain ⟨z, hz, hzl⟩ := unhide HLd k hlt
    rw [hz] at c1
    obtain ⟨tb, t0, rfl, -, hcy⟩ := unhide HT z hzl
    have c2 := hcy wr (unhide HW _ (unhide HB))
    have hzI : (z : Int) < (q.tail.length : Int) := by omega
    have HZ := hide hz
    obtain ⟨x0, x1, x2, x3, -⟩ := unhide HBX wr (unhide HB)
    have HB2 : Hid (∀ nq, Below (w.heap.size + 1) W1 (wr.drewN nq)) := hide fun nq => below_dn (unhide HB) nq
    clear hcx hcy hz x0 x2 x3 HB
    cases gk with
    | zero =>
      obtain rfl : k = a := by omega
      have hx : q.tail.getD z 0 = x := by
        have h := unhide HA1
        rw [unhide HZ, Int.toNat_natCast] at h
        exact h
      rw [hx] at c2
      have e1 : (x == x) = true := beq_self_eq_true _
      go_wp2
      go_quiet (fail)
      go_wp2
      rw [unhide HP]
      exact ⟨by rfl, unhide HW _ (unhide HB2 _)⟩
    | succ g' =>
      have hx : ¬ q.tail.getD z 0 = x := by
        have h := unhide HA2 k (by omega)
        rw [unhide HZ, Int.toNat_natCast] at h
        exact h
      generalize q.tail.getD z 0 = tz at *
      have e1 : (tz == x) = false := beq_eq_false_iff_ne.2 hx
      go_wp2
      go_quiet (fail)
      have HB3 := hide (unhide HB2 nq)
      clear c1 c2 x1 HB2
      generalize wr.drewN nq = wq at *
      go_wp2
      go_roundg g'
      case rel => exact ⟨k + 1, by omega, by go_num, HB3⟩
      case measure => omega
set_option maxRecDepth 100000 in
set_option maxHeartbeats 4000000 in
theorem split2None_any (q : Sp.Net) (v tv nv cv : Value) (s t : Int) (w : World) (hv : NetI w v q tv nv cv) (hq : Sp.LinkQ q) (hs : (Sp.shared q s t).2 = false) :
    Calls Try.prog 21 #[v, .int .i64 s, .int .i64 t] w fun e w' => e = .returned (.tuple #[.slice none 0 0, .int .i64 0, .int .i64 0, .int .i64 0, .bool false]) ∧ Below w.heap.size w w' := by
  have hv' := hv
  obtain ⟨rfl, h1, h2, h3⟩ := hv
  obtain ⟨ta, tc, rfl, htc, htm⟩ := h1.form
  obtain ⟨na, nc, rfl, -, -⟩ := h2.form
  obtain ⟨ca, cc, rfl, -, -⟩ := h3.form
  clear h1 h2 h3
  obtain ⟨W1, hW1⟩ : ∃ W1, W1 = w.alloc (.cells #[.int .i64 q.n, .slice ta q.tail.length tc, .slice na q.next.length nc, .slice ca q.cap.length cc] 25) := ⟨_, rfl⟩
  have HBX := hide (box_new w q.n (.slice ta q.tail.length tc) (.slice na q.next.length nc) (.slice ca q.cap.length cc))
  rw [← hW1] at HBX
  have hb1 : Below w.heap.size w W1 := by rw [hW1]; exact (Below.refl _ w).alloc (Nat.le_refl _) _
  have hs1 : W1.heap.size = w.heap.size + 1 := by rw [hW1]; simp
  have HC := hide (shared2_any q _ _ _ _ s t W1 (hv'.below hb1) hq)
  rw [hs] at HC
  generalize (Sp.shared q s t).1 = R at *
  have HB : Hid (∀ w', Below W1.heap.size W1 w' → Below w.heap.size w w') := hide fun w' hb => hb1.trans (hb.mono (by omega))
  obtain ⟨x0, x1, x2, x3, -⟩ := unhide HBX W1 (Below.refl _ _)
  obtain ⟨P, hP⟩ : ∃ P : Ending → World → Prop, P = fun e w' => e = .returned (.tuple #[.slice none 0 0, .int .i64 0, .int .i64 0, .int .i64 0, .bool false]) ∧ Below w.heap.size w w' := ⟨_, rfl⟩
  rw [← hP]
  have HP := hide hP
  clear hv' hq hs hb1 hs1 hP
  subst hW1
  go_enter Try.func21, Try.ntmps21
  go_wp2_with fail
  go_at_call 17
  refine (unhide HC).mono ?_
  rintro e w2 ⟨rfl, hb2⟩
  have HB2 := hide (unhide HB _ hb2)
  clear hb2 x0 x1 x2 x3 HC
  go_wp2
  refine bodyPost_ret (v := .tuple #[.slice none 0 0, .int .i64 0, .int .i64 0, .int .i64 0, .bool false]) (by simp [results, Try.results21, go_sem]) rfl ?_
  rw [unhide HP]
  exact ⟨by rfl, unhide HB2⟩
set_option maxRecDepth 100000 in
set_option maxHeartbeats 4000000 in
theorem split2_any (q : Sp.Net) (v tv nv cv : Value) (s t : Int) (f d0 a jb : Nat) (w : World) (hv : NetI w v q tv nv cv) (hq : Sp.LinkQ q) (hs : Sp.SplitQ q s t f d0 a jb) :
    Calls Try.prog 21 #[v, .int .i64 s, .int .i64 t] w fun e w' => ∃ O oc, e = .returned (.tuple #[.slice (some ⟨O, 0, none⟩) q.tail.length oc, .int .i64 (((max (Sp.faces2 q).2 1 : Nat) : Int) + 1), .int .i64 (f : Int), .int .i64 ((max (Sp.faces2 q).2 1 : Nat) : Int), .bool true]) ∧ OwnI w' w.heap.size (.slice (some ⟨O, 0, none⟩) q.tail.length oc) (Sp.splitL q f d0 a jb) ∧ Below w.heap.size w w' := by
  have hv' := hv
  obtain ⟨rfl, h1, h2, h3⟩ := hv
  obtain ⟨ta, tc, rfl, htc, htm, HTa⟩ := h1.allG
  obtain ⟨na, nc, rfl, -, -⟩ := h2.form
  obtain ⟨ca, cc, rfl, -, -⟩ := h3.form
  clear h1 h2 h3
  have hbm := hq.pm.behind (by rw [hq.nx]; exact hq.ev)
  have hlb : (Sp.behindL q.next).length = q.tail.length := by rw [Sp.behindL_len, hq.nx]
  have hdb : d0 < (Sp.behindL q.next).length := by rw [hlb]; exact hs.d0l
  have hdn : d0 < q.next.length := by rw [hq.nx]; exact hs.d0l
  obtain ⟨m1, m2, m3, m4⟩ := hbm.per hdb
  have hp60 : Sp.per (Sp.behindL q.next) d0 ≤ 60 := by rw [hlb] at m2; have := hq.le; omega
  have hp1 : 1 ≤ Sp.per (Sp.behindL q.next) d0 := m1
  have hd60 : d0 < 60 := by have := hs.d0l; have := hq.le; omega
  obtain ⟨W1, hW1⟩ : ∃ W1, W1 = w.alloc (.cells #[.int .i64 q.n, .slice ta q.tail.length tc, .slice na q.next.length nc, .slice ca q.cap.length cc] 25) := ⟨_, rfl⟩
  have HBX := hide (box_new w q.n (.slice ta q.tail.length tc) (.slice na q.next.length nc) (.slice ca q.cap.length cc))
  rw [← hW1] at HBX
  have hb1 : Below w.heap.size w W1 := by rw [hW1]; exact (Below.refl _ w).alloc (Nat.le_refl _) _
  have hs1 : W1.heap.size = w.heap.size + 1 := by rw [hW1]; simp
  have HW : Hid (∀ w', Below (w.heap.size + 1) W1 w' → Below w.heap.size w w') := hide fun w' hb => hb1.trans (hb.mono (by omega))
  have HV : Hid (∀ w', Below (w.heap.size + 1) W1 w' → NetI w' (.agg #[.int .i64 q.n, .slice ta q.tail.length tc, .slice na q.next.length nc, .slice ca q.cap.length cc]) q (.slice ta q.tail.length tc) (.slice na q.next.length nc) (.slice ca q.cap.length cc)) := hide fun w' hb => hv'.below (unhide HW _ hb)
  have hbr : Below (w.heap.size + 1) W1 W1 := Below.refl _ _
  have HC := hide (shared2_any q _ _ _ _ s t W1 (unhide HV W1 hbr) hq)
  rw [hs.sh] at HC
  have HFc := hide (fun w' (hb : Below (w.heap.size + 1) W1 w') => faces2_any q _ _ _ _ w' (unhide HV w' hb) hq.nx (by have := hq.le; omega) hq.ev hq.pm)
  have HFa := hide (fun w' (hb : Below (w.heap.size + 1) W1 w') => face2_any q _ _ _ _ d0 (Sp.per (Sp.behindL q.next) d0) w' (unhide HV w' hb) (by rw [hq.nx]; have := hq.le; omega) (by rw [hq.nx]; exact hq.ev) hq.pm.bd hdn m1 (by omega) m3 m4)
  have HG : Hid (∀ j, j < Sp.per (Sp.behindL q.next) d0 → (Sp.rounds (Sp.behindL q.next) d0 (Sp.per (Sp.behindL q.next) d0)).getD j 0 = ((itf (Sp.fn (Sp.behindL q.next)) d0 j : Nat) : Int) ∧ itf (Sp.fn (Sp.behindL q.next)) d0 j < q.tail.length) := hide fun j hj => by
    refine ⟨?_, by have := hbm.fnP.it hdb j; rw [hlb] at this; exact this⟩
    rw [Sp.getD_eq _ _ (by rw [Sp.rounds_len]; exact hj)]
    simp only [Sp.rounds, List.getElem_map, List.getElem_range]
    exact hbm.nth_it hdb j
  have HLl : Hid ((Sp.rounds (Sp.behindL q.next) d0 (Sp.per (Sp.behindL q.next) d0)).length = Sp.per (Sp.behindL q.next) d0) := hide (Sp.rounds_len _ _ _)
  have HFi := hide (fun w' lv (hb : Below (w.heap.size + 1) W1 w') (hl : Ints w' lv (Sp.rounds (Sp.behindL q.next) d0 (Sp.per (Sp.behindL q.next) d0))) => first_any q _ _ _ _ _ lv s (Sp.per (Sp.behindL q.next) d0) a w' (unhide HV w' hb) hl (unhide HLl) (by omega) (fun j hj => ⟨_, (unhide HG j hj).1, (unhide HG j hj).2⟩) hs.al (by rw [(unhide HG a hs.al).1, Int.toNat_natCast]; exact hs.at_) (fun j hj => by rw [(unhide HG j (by have := hs.al; omega)).1, Int.toNat_natCast]; exact hs.am j hj))
  have HFl := hide (Sp.faces2_len q)
  have hK60 : max (Sp.faces2 q).2 1 ≤ 1000 := by have := Sp.faces2_le q; have := hq.le; omega
  have HSl : Hid (Sp.splitL q f d0 a jb = Sp.splitAt (fun j => itf (Sp.fn (Sp.behindL q.next)) d0 (a + j)) ((max (Sp.faces2 q).2 1 : Nat) : Int) (f : Int) jb (Sp.faces2 q).1 (Sp.per (Sp.behindL q.next) d0)) := hide rfl
  have HLow : Hid (Sp.splitAt (fun j => itf (Sp.fn (Sp.behindL q.next)) d0 (a + j)) ((max (Sp.faces2 q).2 1 : Nat) : Int) (f : Int) jb (Sp.faces2 q).1 jb = (Sp.faces2 q).1) := hide (Sp.splitAt_low _ _ _ _ _ (fun j => by rw [unhide HFl]; have := hbm.fnP.it hdb (a + j); rw [hlb] at this; exact this) (fun j => by rw [Sp.faces_along hq hs.d0l, hs.d0f]) jb (Nat.le_refl _))
  have HMd : Hid (∀ j, (Sp.rounds (Sp.behindL q.next) d0 (Sp.per (Sp.behindL q.next) d0)).getD ((a + j) % Sp.per (Sp.behindL q.next) d0) 0 = ((itf (Sp.fn (Sp.behindL q.next)) d0 (a + j) : Nat) : Int) ∧ itf (Sp.fn (Sp.behindL q.next)) d0 (a + j) < q.tail.length) := hide fun j => by
    have hm : (a + j) % Sp.per (Sp.behindL q.next) d0 < Sp.per (Sp.behindL q.next) d0 := Nat.mod_lt _ (by omega)
    refine ⟨?_, by have := hbm.fnP.it hdb (a + j); rw [hlb] at this; exact this⟩
    rw [(unhide HG _ hm).1, itf_mod hbm hdb]
  have HBt : Hid (q.tail.getD (itf (Sp.fn (Sp.behindL q.next)) d0 (a + jb)) 0 = t) := hide hs.bt
  have HBm : Hid (∀ j, j < jb → q.tail.getD (itf (Sp.fn (Sp.behindL q.next)) d0 (a + j)) 0 ≠ t) := hide hs.bm
  have hjp := hs.bl
  have hj0 := hs.b0
  have hap := hs.al
  have hd0l := hs.d0l
  have HD0 : Hid ((Sp.faces2 q).1.getD d0 0 = (f : Int) ∧ ∀ j, j < d0 → (Sp.faces2 q).1.getD j 0 ≠ (f : Int)) := hide ⟨hs.d0f, hs.d0m⟩
  generalize Sp.splitL q f d0 a jb = R at *
  generalize Sp.rounds (Sp.behindL q.next) d0 (Sp.per (Sp.behindL q.next) d0) = LA at *
  generalize Sp.per (Sp.behindL q.next) d0 = p at *
  obtain ⟨x, hx⟩ : ∃ x : Nat → Nat, x = fun j => itf (Sp.fn (Sp.behindL q.next)) d0 (a + j) := ⟨_, rfl⟩
  have hx' : ∀ j, itf (Sp.fn (Sp.behindL q.next)) d0 (a + j) = x j := fun j => by rw [hx]
  simp only [hx'] at HMd HBt HBm HSl HLow
  clear hx hx' HG
  generalize (Sp.faces2 q).1 = F at *
  generalize max (Sp.faces2 q).2 1 = K at *
  have HST : Hid (∀ j, Sp.splitAt x (K : Int) (f : Int) jb F (j + 1) = (Sp.splitAt x (K : Int) (f : Int) jb F j).set (x j) (if jb ≤ j then (K : Int) else (f : Int))) := hide fun j => rfl
  have HSL := hide (fun j => Sp.splitAt_len x (K : Int) (f : Int) jb F j)
  generalize Sp.splitAt x (K : Int) (f : Int) jb F = sp at *
  obtain ⟨P, hP⟩ : ∃ P : Ending → World → Prop, P = fun e w' => ∃ O oc, e = .returned (.tuple #[.slice (some ⟨O, 0, none⟩) q.tail.length oc, .int .i64 ((K : Int) + 1), .int .i64 (f : Int), .int .i64 (K : Int), .bool true]) ∧ OwnI w' w.heap.size (.slice (some ⟨O, 0, none⟩) q.tail.length oc) R ∧ Below w.heap.size w w' := ⟨_, rfl⟩
  rw [← hP]
  have HP := hide hP
  have Hs1 := hide hs1
  have HNx : Hid (∀ j, IntKind.i64.wrap ((((a + j) % p : Nat) : Int) + 1) = (((a + j) % p : Nat) : Int) + 1 ∧ ((((a + j) % p : Nat) : Int) + 1).tmod (p : Int) = (((a + (j + 1)) % p : Nat) : Int)) := hide fun j => by
    have hm : (a + j) % p < p := Nat.mod_lt _ (by omega)
    refine ⟨by rw [IntKind.wrap_i64]; omega, ?_⟩
    rw [show ((((a + j) % p : Nat) : Int) + 1) = (((a + j) % p + 1 : Nat) : Int) by omega, ← Int.ofNat_tmod, Nat.mod_add_mod, Nat.add_assoc]
  have hpz : ¬ (p : Int) = 0 := by omega
  obtain ⟨x0, x1, x2, x3, -⟩ := unhide HBX W1 hbr
  clear hv' hP hs1 hb1 hq hs hbm hlb hdb hdn m1 m2 m3 m4
  subst hW1
  go_enter Try.func21, Try.ntmps21
  go_wp2_with fail
  go_at_call 17
  refine (unhide HC).mono ?_
  clear HC x0 x1 x2 x3
  generalize w.alloc (.cells #[.int .i64 q.n, .slice ta q.tail.length tc, .slice na q.next.length nc, .slice ca q.cap.length cc] 25) = W1 at *
  rintro e w2 ⟨rfl, hb2⟩
  rw [unhide Hs1] at hb2
  obtain ⟨x0, x1, x2, x3, hsz2⟩ := unhide HBX w2 hb2
  go_wp2_with fail
  go_at_call 25
  refine (unhide HFc w2 hb2).mono ?_
  clear HFc x0 x1 x2 x3
  rintro e w4 ⟨fv, rfl, hO, hb4⟩
  have hb4' : Below (w.heap.size + 1) W1 w4 := hb2.trans (hb4.mono hsz2)
  obtain ⟨O, oc, hve, hOge, hOlt, hoc, hom⟩ := own_form hO (by rw [unhide HFl]; omega)
  rw [unhide HFl] at hve
  subst hve
  have HO4 : Hid (∀ w', Below w4.heap.size w4 w' → OwnI w' w.heap.size (.slice (some ⟨O, 0, none⟩) q.tail.length oc) F) := hide fun w' hb => own_base (own_below hO hb) (by omega)
  have hs4 : w.heap.size + 1 ≤ w4.heap.size := Nat.le_trans hsz2 hb4.size
  have HBl : Hid (∀ w', Below w4.heap.size w4 w' → Below (w.heap.size + 1) W1 w') := hide fun w' hb => hb4'.trans (hb.mono hs4)
  have HO1 : Hid (w.heap.size + 1 ≤ O ∧ O < w4.heap.size) := hide ⟨by omega, hOlt⟩
  have hOc : ∀ k, k < q.tail.length → w4.cell? ⟨O, k, none⟩ = some (.int .i64 (F.getD k 0)) := fun k hk => by
    have h := own_cell hO k (by rw [unhide HFl]; exact hk)
    rw [← Sp.getD_eq] at h
    exact h
  have HOc := hide hOc
  have hb44 : Below w4.heap.size w4 w4 := Below.refl _ _
  clear hO hb4 hb2 hb4' hs4 hsz2 hOge hOlt hbr hoc hom hOc
  go_wp2
  go_loop [15] (fun s15 => ∃ k : Nat, k ≤ d0 ∧ s15 = .int .i64 (k : Int)) (fun s15 => d0 - (intOf s15).toNat)
  case atStart => exact ⟨0, by omega, rfl⟩
  case round =>
    obtain ⟨k, hk, rfl⟩ := hrel
    have hkl : k < q.tail.length := by omega
    have hkI : (k : Int) < (q.tail.length : Int) := by omega
    have c1 := unhide HOc k hkl
    by_cases hkd : k = d0
    · subst hkd
      rw [(unhide HD0).1] at c1
      have e1 : ((f : Int) != (f : Int)) = false := by simp
      obtain ⟨x0, x1, x2, x3, -⟩ := unhide HBX w4 (unhide HBl w4 hb44)
      go_wp2_with fail
      go_at_call 34
      refine (unhide HFa w4 (unhide HBl w4 hb44)).mono ?_
      clear x0 x1 x2 x3 c1
      rintro e w5 ⟨lv, rfl, hl5, hb5⟩
      obtain ⟨lb, lc, hve, hlg, hllt, -, -⟩ := own_form hl5 (by rw [unhide HLl]; omega)
      rw [unhide HLl] at hve
      subst hve
      obtain ⟨x0, x1, x2, x3, -⟩ := unhide HBX w5 (unhide HBl w5 hb5)
      go_wp2_with fail
      go_at_call 35
      refine (unhide HFi w5 _ (unhide HBl w5 hb5) hl5.ints).mono ?_
      clear x0 x1 x2 x3
      rintro e w7 ⟨rfl, hb57⟩
      have hb7 : Below w4.heap.size w4 w7 := hb5.trans (hb57.mono hb5.size)
      have hlO : lb ≠ O := by have := (unhide HO1).2; omega
      have hcl : ∀ j, j < p → w7.cell? ⟨lb, j, none⟩ = some (.int .i64 (LA.getD j 0)) := fun j hj => by
        have h := own_cell (own_below hl5 hb57) j (by rw [unhide HLl]; exact hj)
        rw [← Sp.getD_eq] at h
        exact h
      have HCL : Hid (∀ wr j, ButRow O w7 wr → wr.cell? ⟨lb, (a + j) % p, none⟩ = some (.int .i64 ((x j : Nat) : Int))) := hide fun wr j h => by
        have h2 := (h.cell (a := ⟨lb, (a + j) % p, none⟩) (by exact hlO)).trans (hcl ((a + j) % p) (Nat.mod_lt _ (by omega)))
        rw [(unhide HMd j).1] at h2
        exact h2
      have HX : Hid (∀ wr, ButRow O w7 wr → wr.cell? ⟨w.heap.size, 1, none⟩ = some (.slice ta q.tail.length tc)) := hide fun wr h => by
        have o1 := (unhide HO1).1
        exact (h.cell (by show w.heap.size ≠ O; omega)).trans (unhide HBX w7 (unhide HBl w7 hb7)).2.1
      have HTl : Hid (∀ wr k, ButRow O w7 wr → k < q.tail.length → ∃ tb to', ta = some ⟨tb, to', none⟩ ∧ wr.cell? ⟨tb, to' + k, none⟩ = some (.int .i64 (q.tail.getD k 0))) := hide fun wr k h hk => by
        obtain ⟨tb, to', e1, e2, e3⟩ := unhide HTa k hk
        have o1 := (unhide HO1).1
        exact ⟨tb, to', e1, (h.cell (by show tb ≠ O; omega)).trans (e3 w7 (unhide HW _ (unhide HBl w7 hb7)))⟩
      have HI0 : Hid (OwnI w7 w.heap.size (.slice (some ⟨O, 0, none⟩) q.tail.length oc) (sp jb) ∧ ButRow O w7 w7 ∧ Below w.heap.size w w7) := hide ⟨by rw [unhide HLow]; exact unhide HO4 w7 hb7, ButRow.refl _ _, unhide HW _ (unhide HBl w7 hb7)⟩
      have HDn : Hid (∀ wr nq, Hid (OwnI wr w.heap.size (.slice (some ⟨O, 0, none⟩) q.tail.length oc) (sp jb) ∧ ButRow O w7 wr ∧ Below w.heap.size w wr) → Hid (OwnI (World.drewN wr nq) w.heap.size (.slice (some ⟨O, 0, none⟩) q.tail.length oc) (sp jb) ∧ ButRow O w7 (World.drewN wr nq) ∧ Below w.heap.size w (World.drewN wr nq))) := hide fun wr nq h => hide ⟨own_below (unhide h).1 (below_dn (Below.refl _ _) nq), (unhide h).2.1.dn nq, below_dn (unhide h).2.2 nq⟩
      have HOw : Hid (w.heap.size ≤ O) := hide (by have := (unhide HO1).1; omega)
      have ha0 : Hid (((a : Nat) : Int) = (((a + 0) % p : Nat) : Int)) := hide (by rw [Nat.add_zero, Nat.mod_eq_of_lt hap])
      clear hl5 hb57 hb7 hb5 hcl hlg hllt HTa HO4 HBl HOc hb44 HFi HFa
      go_wp2
      go_loopg [18] jb (fun g s18 wr => ∃ j : Nat, j + g = jb ∧ s18 = .int .i64 (((a + j) % p : Nat) : Int) ∧ Hid (OwnI wr w.heap.size (.slice (some ⟨O, 0, none⟩) q.tail.length oc) (sp jb) ∧ ButRow O w7 wr ∧ Below w.heap.size w wr))
      case atStart => exact ⟨0, by omega, by rw [← unhide ha0], HI0⟩
      case round =>
        clear HI0
        obtain ⟨j, hjg, rfl, HI⟩ := hrel
        have y1 := unhide HX wr (unhide HI).2.1
        have c1 := unhide HCL wr j (unhide HI).2.1
        have hxl := (unhide HMd j).2
        obtain ⟨tb, t0, rfl, c2⟩ := unhide HTl wr (x j) (unhide HI).2.1 hxl
        have hxI : ((x j : Nat) : Int) < (q.tail.length : Int) := by omega
        have hml : (a + j) % p < p := Nat.mod_lt _ (by omega)
        have hmI : (((a + j) % p : Nat) : Int) < (p : Int) := by omega
        have HI2 := hide (fun nq => unhide HDn wr nq HI)
        obtain ⟨hw1, hw2⟩ := unhide HNx j
        clear HI
        cases gk with
        | succ g' =>
          have ht := unhide HBm j (by omega)
          generalize q.tail.getD (x j) 0 = tz at *
          have e1 : (tz != t) = true := by simpa using ht
          generalize (a + j) % p = bj at *
          go_wp2
          go_quiet (fail)
          have HI3 := unhide HI2 nq
          clear c1 c2 y1 HI2
          generalize wr.drewN nq = wq at *
          go_wp2
          go_roundg g'
          case rel => exact ⟨j + 1, by omega, by rfl, HI3⟩
          case measure => omega
        | zero =>
          obtain rfl : j = jb := by omega
          rw [unhide HBt] at c2
          have e1 : (t != t) = false := by simp
          generalize hbj : (a + j) % p = bj at *
          have Hbj := hide hbj
          clear hbj
          go_wp2
          go_quiet (fail)
          have HI3 := unhide HI2 nq
          clear c1 c2 y1 HI2
          generalize wr.drewN nq = wq at *
          go_wp2
          go_loopg [19] (p - j) (fun g s19 wr => ∃ i : Nat, i + g = p ∧ j ≤ i ∧ s19 = .int .i64 (((a + i) % p : Nat) : Int) ∧ Hid (OwnI wr w.heap.size (.slice (some ⟨O, 0, none⟩) q.tail.length oc) (sp i) ∧ ButRow O w7 wr ∧ Below w.heap.size w wr))
          case atStart => exact ⟨j, by omega, Nat.le_refl _, by rw [unhide Hbj], HI3⟩
          case round =>
            clear HI3
            obtain ⟨i, hig, hji, rfl, HI⟩ := hrel
            cases gk with
            | zero =>
              obtain rfl : i = p := by omega
              have hia : (a + i) % i = a := by rw [Nat.add_mod_right, Nat.mod_eq_of_lt hap]
              rw [hia]
              have e2 : ((a : Int) != (a : Int)) = false := by simp
              have hkw : IntKind.i64.wrap ((K : Int) + 1) = (K : Int) + 1 := by rw [IntKind.wrap_i64]; omega
              have HB := hide (unhide HI).2.2
              have HO := hide (unhide HI).1
              clear HI hia
              go_wp2
              refine bodyPost_ret (v := .tuple #[.slice (some ⟨O, 0, none⟩) q.tail.length oc, .int .i64 ((K : Int) + 1), .int .i64 (f : Int), .int .i64 (K : Int), .bool true]) (by simp [results, Try.results21, go_sem]) rfl ?_
              rw [unhide HP, unhide HSl]
              exact ⟨O, oc, rfl, unhide HO, unhide HB⟩
            | succ g' =>
              have hlt : i < p := by omega
              have hne : ¬ (a + i) % p = a := fun e => by
                rcases Nat.lt_or_ge (a + i) p with h | h
                · rw [Nat.mod_eq_of_lt h] at e; omega
                · rw [Nat.mod_eq_sub_mod h, Nat.mod_eq_of_lt (by omega)] at e; omega
              have hneI : ¬ (((a + i) % p : Nat) : Int) = (a : Int) := by omega
              have e2 : ((((a + i) % p : Nat) : Int) != (a : Int)) = true := by simpa using hneI
              have c1 := unhide HCL wr i (unhide HI).2.1
              have hxl2 := (unhide HMd i).2
              have c3 := own_cell (unhide HI).1 (x i) (by rw [unhide HSL i, unhide HFl]; exact hxl2)
              have f3 := own_frozen (unhide HI).1 (x i)
              have hxI2 : ((x i : Nat) : Int) < (q.tail.length : Int) := by omega
              have hml2 : (a + i) % p < p := Nat.mod_lt _ (by omega)
              have hmI2 : (((a + i) % p : Nat) : Int) < (p : Int) := by omega
              obtain ⟨hw3, hw4⟩ := unhide HNx i
              have HN : Hid (OwnI (wr.setCell ⟨O, x i, none⟩ (.int .i64 (K : Int))) w.heap.size (.slice (some ⟨O, 0, none⟩) q.tail.length oc) (sp (i + 1)) ∧ ButRow O w7 (wr.setCell ⟨O, x i, none⟩ (.int .i64 (K : Int))) ∧ Below w.heap.size w (wr.setCell ⟨O, x i, none⟩ (.int .i64 (K : Int)))) := hide (by
                refine ⟨?_, (unhide HI).2.1.setCell _ _, (unhide HI).2.2.setCell (by exact unhide HOw) _⟩
                rw [unhide HST i, if_pos hji]
                exact own_setCell (unhide HI).1 (x i) K)
              generalize (sp i)[x i]'_ = z at *
              generalize (a + i) % p = bi at *
              clear HI
              go_wp2
              go_roundg g'
              case rel => exact ⟨i + 1, by omega, by omega, by rfl, HN⟩
              case measure => omega
    · have hnf := (unhide HD0).2 k (by omega)
      generalize F.getD k 0 = z at *
      have e1 : (z != (f : Int)) = true := by simpa using hnf
      go_wp2
      go_round
      case rel => exact ⟨k + 1, by omega, by go_num⟩
      case measure => simp [intOf]; omega
end Go.Proofs.Ytoegjnolccabjaa


/- Package dual: the chapter's example and an edge, as the law has them. -/
namespace Go.Proofs.Ytoegjnolccabjaa
open Go Go.RowKit

theorem q0_link : Sp.LinkQ Sp.q0 := ⟨rfl, rfl, by decide, rfl, ⟨by decide, by
  intro i j hi hj e
  have hi' : i < 2 := hi
  have hj' : j < 2 := hj
  rcases (show i = 0 ∨ i = 1 by omega) with rfl | rfl <;> rcases (show j = 0 ∨ j = 1 by omega) with rfl | rfl <;> simp_all [Sp.q0]⟩⟩
theorem q1_link : Sp.LinkQ Sp.q1 := ⟨rfl, rfl, by decide, rfl, ⟨by decide, fun i j hi => absurd hi (Nat.not_lt_zero _)⟩⟩
theorem q0_faces2 : Sp.faces2 Sp.q0 = ([0, 0], 1) := by decide +kernel
theorem q0_per : Sp.per (Sp.behindL Sp.q0.next) 0 = 2 := by decide +kernel
theorem q0_shared : Sp.shared Sp.q0 0 1 = (0, true) := by
  unfold Sp.shared
  rw [if_neg (by decide), q0_faces2]
  show Sp.sharedGo [0, 1] [0, 0] 0 1 1 0 = _
  rw [Sp.sharedGo, if_pos ⟨Sp.meetsB_true ⟨0, by decide, rfl, rfl⟩, Sp.meetsB_true ⟨1, by decide, rfl, rfl⟩⟩]
  rfl
theorem q0_split : Sp.SplitQ Sp.q0 0 1 0 0 0 1 := ⟨q0_shared, by decide, by rw [q0_faces2]; rfl, fun j hj => by omega, by rw [q0_per]; omega, rfl, fun j hj => by omega, by rw [q0_per]; omega, by omega, by decide +kernel, fun j hj => by
  obtain rfl : j = 0 := by omega
  decide +kernel⟩
theorem q0_splitL : Sp.splitL Sp.q0 0 0 0 1 = [0, 1] := by decide +kernel
end Go.Proofs.Ytoegjnolccabjaa


