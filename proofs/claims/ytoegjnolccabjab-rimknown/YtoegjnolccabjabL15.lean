/- What the proof needs, part 15. -/
import Derived.Test.YtoegjnolccabjabL14
/- rim: survey. -/
namespace Go.Proofs.Ytoegjnolccabjab
open Go Go.RowKit

theorem survey_w (w : World) (a b c d : Value) (w' : World) (hb : Below (w.heap.size + 2) ((w.alloc (.cells #[a, b, c, d] 26)).alloc (.cells #[.slice none 0 0, .slice none 0 0, .int .i64 0] 44)) w') : Below w.heap.size w w' :=
  (((Below.refl _ w).alloc (Nat.le_refl _) _).alloc (by simp) _).trans (hb.mono (by omega))
theorem survey_fx (w : World) (a b c d : Value) (w' : World) (hb : Below (w.heap.size + 2) ((w.alloc (.cells #[a, b, c, d] 26)).alloc (.cells #[.slice none 0 0, .slice none 0 0, .int .i64 0] 44)) w') : w'.cell? ⟨w.heap.size, 0, none⟩ = some a ∧ w'.cell? ⟨w.heap.size, 1, none⟩ = some b ∧ w'.cell? ⟨w.heap.size, 2, none⟩ = some c ∧ w'.cell? ⟨w.heap.size, 3, none⟩ = some d := by
  have e : w'.heap[w.heap.size]? = some (.cells #[a, b, c, d] 26) := by
    rw [hb.block w.heap.size (by omega), Below.heap_alloc _ _ _ (by simp), heap_alloc_new]
  refine ⟨?_, ?_, ?_, ?_⟩ <;> rw [cell_of_row _ _ _ _ _ _ e] <;> rfl
theorem survey_z (w : World) (a b c d : Value) (w' : World) (hb : Below (w.heap.size + 2) ((w.alloc (.cells #[a, b, c, d] 26)).alloc (.cells #[.slice none 0 0, .slice none 0 0, .int .i64 0] 44)) w') : w'.heap[w.heap.size + 1]? = some (.cells #[.slice none 0 0, .slice none 0 0, .int .i64 0] 44) := by
  have hs : (w.alloc (.cells #[a, b, c, d] 26)).heap.size = w.heap.size + 1 := by simp
  rw [hb.block (w.heap.size + 1) (by omega), ← hs, heap_alloc_new]
theorem survey_gx (w : World) (a b c d : Value) (w' : World) (hb : Below (w.heap.size + 2) ((w.alloc (.cells #[a, b, c, d] 26)).alloc (.cells #[.slice none 0 0, .slice none 0 0, .int .i64 0] 44)) w') : w'.cell? ⟨w.heap.size + 1, 0, none⟩ = some (.slice none 0 0) ∧ w'.cell? ⟨w.heap.size + 1, 1, none⟩ = some (.slice none 0 0) ∧ w'.cell? ⟨w.heap.size + 1, 2, none⟩ = some (.int .i64 0) ∧ (∀ k, w'.frozen? ⟨w.heap.size + 1, k, none⟩ = false) := by
  have e := survey_z w a b c d w' hb
  refine ⟨?_, ?_, ?_, fun k => ?_⟩
  · rw [cell_of_row _ _ _ _ _ _ e]; rfl
  · rw [cell_of_row _ _ _ _ _ _ e]; rfl
  · rw [cell_of_row _ _ _ _ _ _ e]; rfl
  · simp only [World.frozen?, e]; rfl
theorem land_set {w : World} {b : Nat} {a c d : Value} (h : w.heap[b]? = some (.cells #[a, c, d] 44)) (u v t : Value) : (((w.setCell ⟨b, 0, none⟩ u).setCell ⟨b, 1, none⟩ v).setCell ⟨b, 2, none⟩ t).heap[b]? = some (.cells #[u, v, t] 44) := by
  simp only [World.setCell, Array.getElem?_modify, if_pos, h]; rfl
set_option maxRecDepth 100000 in
set_option maxHeartbeats 4000000 in
theorem survey_bad0 (q : Sp.Net) (v tv nv cv : Value) (s t : Int) (w : World) (hv : NetI w v q tv nv cv) (h0 : ¬ (0 ≤ s ∧ s < q.n)) :
    Calls Try.prog 18 #[v, .int .i64 s, .int .i64 t] w fun e w' => e = .returned (.tuple #[.agg #[.slice none 0 0, .slice none 0 0, .int .i64 0], .int .i64 3]) ∧ Below w.heap.size w w' := by
  obtain ⟨rfl, h1, h2, h3⟩ := hv
  obtain ⟨ta, tc, rfl, -, -⟩ := h1.form
  obtain ⟨na, nc, rfl, -, -⟩ := h2.form
  obtain ⟨ca, cc, rfl, -, -⟩ := h3.form
  have HFX : Hid (∀ w', Below (w.heap.size + 2) ((w.alloc (.cells #[.int .i64 q.n, .slice ta q.tail.length tc, .slice na q.next.length nc, .slice ca q.cap.length cc] 26)).alloc (.cells #[.slice none 0 0, .slice none 0 0, .int .i64 0] 44)) w' → w'.cell? ⟨w.heap.size, 0, none⟩ = some (.int .i64 q.n) ∧ w'.cell? ⟨w.heap.size, 1, none⟩ = some (.slice ta q.tail.length tc) ∧ w'.cell? ⟨w.heap.size, 2, none⟩ = some (.slice na q.next.length nc) ∧ w'.cell? ⟨w.heap.size, 3, none⟩ = some (.slice ca q.cap.length cc)) := hide fun w' hb => survey_fx w _ _ _ _ w' hb
  have HGX : Hid (∀ w', Below (w.heap.size + 2) ((w.alloc (.cells #[.int .i64 q.n, .slice ta q.tail.length tc, .slice na q.next.length nc, .slice ca q.cap.length cc] 26)).alloc (.cells #[.slice none 0 0, .slice none 0 0, .int .i64 0] 44)) w' → w'.cell? ⟨w.heap.size + 1, 0, none⟩ = some (.slice none 0 0) ∧ w'.cell? ⟨w.heap.size + 1, 1, none⟩ = some (.slice none 0 0) ∧ w'.cell? ⟨w.heap.size + 1, 2, none⟩ = some (.int .i64 0) ∧ (∀ k, w'.frozen? ⟨w.heap.size + 1, k, none⟩ = false)) := hide fun w' hb => survey_gx w _ _ _ _ w' hb
  have HW : Hid (∀ w', Below (w.heap.size + 2) ((w.alloc (.cells #[.int .i64 q.n, .slice ta q.tail.length tc, .slice na q.next.length nc, .slice ca q.cap.length cc] 26)).alloc (.cells #[.slice none 0 0, .slice none 0 0, .int .i64 0] 44)) w' → Below w.heap.size w w') := hide fun w' hb => survey_w w _ _ _ _ w' hb
  have HS2 : Hid (((w.alloc (.cells #[.int .i64 q.n, .slice ta q.tail.length tc, .slice na q.next.length nc, .slice ca q.cap.length cc] 26)).alloc (.cells #[.slice none 0 0, .slice none 0 0, .int .i64 0] 44)).heap.size = w.heap.size + 2) := hide (by simp)
  have HV : Hid (∀ w', Below (w.heap.size + 2) ((w.alloc (.cells #[.int .i64 q.n, .slice ta q.tail.length tc, .slice na q.next.length nc, .slice ca q.cap.length cc] 26)).alloc (.cells #[.slice none 0 0, .slice none 0 0, .int .i64 0] 44)) w' → NetI w' (.agg #[.int .i64 q.n, .slice ta q.tail.length tc, .slice na q.next.length nc, .slice ca q.cap.length cc]) q (.slice ta q.tail.length tc) (.slice na q.next.length nc) (.slice ca q.cap.length cc)) := hide fun w' hb => NetI.below ⟨rfl, h1, h2, h3⟩ (unhide HW _ hb)
  have HIs : Hid (∀ w', Below (w.heap.size + 2) ((w.alloc (.cells #[.int .i64 q.n, .slice ta q.tail.length tc, .slice na q.next.length nc, .slice ca q.cap.length cc] 26)).alloc (.cells #[.slice none 0 0, .slice none 0 0, .int .i64 0] 44)) w' → Calls Try.prog 29 #[.agg #[.int .i64 q.n, .slice ta q.tail.length tc, .slice na q.next.length nc, .slice ca q.cap.length cc], .int .i64 s] w' fun e w'' => e = .returned (.bool (decide (0 ≤ s ∧ s < q.n))) ∧ Below w'.heap.size w' w'') := hide fun w' hb => rmvertex_any q _ _ _ _ s w' (unhide HV w' hb)
  have HIt : Hid (∀ w', Below (w.heap.size + 2) ((w.alloc (.cells #[.int .i64 q.n, .slice ta q.tail.length tc, .slice na q.next.length nc, .slice ca q.cap.length cc] 26)).alloc (.cells #[.slice none 0 0, .slice none 0 0, .int .i64 0] 44)) w' → Calls Try.prog 29 #[.agg #[.int .i64 q.n, .slice ta q.tail.length tc, .slice na q.next.length nc, .slice ca q.cap.length cc], .int .i64 t] w' fun e w'' => e = .returned (.bool (decide (0 ≤ t ∧ t < q.n))) ∧ Below w'.heap.size w' w'') := hide fun w' hb => rmvertex_any q _ _ _ _ t w' (unhide HV w' hb)
  clear h1 h2 h3
  rw [decide_eq_false h0] at HIs
  have hbz := Below.refl (w.heap.size + 2) ((w.alloc (.cells #[.int .i64 q.n, .slice ta q.tail.length tc, .slice na q.next.length nc, .slice ca q.cap.length cc] 26)).alloc (.cells #[.slice none 0 0, .slice none 0 0, .int .i64 0] 44))
  obtain ⟨x0, x1, x2, x3⟩ := unhide HFX _ hbz
  obtain ⟨P, hP⟩ : ∃ P : Ending → World → Prop, P = fun e w' => e = .returned (.tuple #[.agg #[.slice none 0 0, .slice none 0 0, .int .i64 0], .int .i64 3]) ∧ Below w.heap.size w w' := ⟨_, rfl⟩
  rw [← hP]
  have HP := hide hP
  clear hP
  go_enter Try.func18, Try.ntmps18
  go_wp2_with fail
  go_at_call 29
  refine (unhide HIs _ hbz).mono ?_
  rintro e wa ⟨rfl, hlwa⟩
  have hbwa := Below.trans hbz (hlwa.mono (by have h1 := Below.size hbz; have h2 := unhide HS2; omega))
  clear x0 x1 x2 x3
  obtain ⟨x0, x1, x2, x3⟩ := unhide HFX _ hbwa
  have HB := hide hbwa
  obtain ⟨z0, z1, z2, zf⟩ := unhide HGX _ (unhide HB)
  have HZ : Hid (∀ w', Below (w.heap.size + 2) ((w.alloc (.cells #[.int .i64 q.n, .slice ta q.tail.length tc, .slice na q.next.length nc, .slice ca q.cap.length cc] 26)).alloc (.cells #[.slice none 0 0, .slice none 0 0, .int .i64 0] 44)) w' → w'.heap[w.heap.size + 1]? = some (.cells #[.slice none 0 0, .slice none 0 0, .int .i64 0] 44)) := hide fun w' hb => survey_z w _ _ _ _ w' hb
  have z1' := fun v : Value => show (wa.setCell ⟨w.heap.size + 1, 0, none⟩ v).cell? ⟨w.heap.size + 1, 1, none⟩ = some (.slice none 0 0) by rw [cell_set_ne (by omega)]; exact z1
  have z2' := fun v v' : Value => show ((wa.setCell ⟨w.heap.size + 1, 0, none⟩ v).setCell ⟨w.heap.size + 1, 1, none⟩ v').cell? ⟨w.heap.size + 1, 2, none⟩ = some (.int .i64 0) by rw [cell_set_ne (by omega), cell_set_ne (by omega)]; exact z2
  clear hbz hlwa hbwa
  go_wp2
  have hfin : ((((wa.setCell ⟨w.heap.size + 1, 0, none⟩ (.slice none 0 0)).setCell ⟨w.heap.size + 1, 1, none⟩ (.slice none 0 0)).setCell ⟨w.heap.size + 1, 2, none⟩ (.int .i64 0))).heap[w.heap.size + 1]? = some (.cells #[.slice none 0 0, .slice none 0 0, .int .i64 0] 44) := land_set (unhide HZ _ (unhide HB)) _ _ _
  have hbf : Below w.heap.size w ((((wa.setCell ⟨w.heap.size + 1, 0, none⟩ (.slice none 0 0)).setCell ⟨w.heap.size + 1, 1, none⟩ (.slice none 0 0)).setCell ⟨w.heap.size + 1, 2, none⟩ (.int .i64 0))) := ((((unhide HW _ (unhide HB)).setCell (p := ⟨w.heap.size + 1, 0, none⟩) (Nat.le_succ _) _).setCell (p := ⟨w.heap.size + 1, 1, none⟩) (Nat.le_succ _) _).setCell (p := ⟨w.heap.size + 1, 2, none⟩) (Nat.le_succ _) _)
  generalize (((wa.setCell ⟨w.heap.size + 1, 0, none⟩ (.slice none 0 0)).setCell ⟨w.heap.size + 1, 1, none⟩ (.slice none 0 0)).setCell ⟨w.heap.size + 1, 2, none⟩ (.int .i64 0)) = WF at *
  have r0 : WF.cell? ⟨w.heap.size + 1, 0, none⟩ = some (.slice none 0 0) := by rw [cell_of_row _ _ _ _ _ _ hfin]; rfl
  have r1 : WF.cell? ⟨w.heap.size + 1, 1, none⟩ = some (.slice none 0 0) := by rw [cell_of_row _ _ _ _ _ _ hfin]; rfl
  have r2 : WF.cell? ⟨w.heap.size + 1, 2, none⟩ = some (.int .i64 0) := by rw [cell_of_row _ _ _ _ _ _ hfin]; rfl
  refine bodyPost_ret (v := .tuple #[.agg #[.slice none 0 0, .slice none 0 0, .int .i64 0], .int .i64 3]) (by simp [results, Try.results18, go_sem, r0, r1, r2]) rfl ?_
  rw [unhide HP]
  exact ⟨rfl, hbf⟩
set_option maxRecDepth 100000 in
set_option maxHeartbeats 4000000 in
theorem survey_bad1 (q : Sp.Net) (v tv nv cv : Value) (s t : Int) (w : World) (hv : NetI w v q tv nv cv) (h0 : 0 ≤ s ∧ s < q.n) (h1 : ¬ (0 ≤ t ∧ t < q.n)) :
    Calls Try.prog 18 #[v, .int .i64 s, .int .i64 t] w fun e w' => e = .returned (.tuple #[.agg #[.slice none 0 0, .slice none 0 0, .int .i64 0], .int .i64 3]) ∧ Below w.heap.size w w' := by
  obtain ⟨rfl, h1, h2, h3⟩ := hv
  obtain ⟨ta, tc, rfl, -, -⟩ := h1.form
  obtain ⟨na, nc, rfl, -, -⟩ := h2.form
  obtain ⟨ca, cc, rfl, -, -⟩ := h3.form
  have HFX : Hid (∀ w', Below (w.heap.size + 2) ((w.alloc (.cells #[.int .i64 q.n, .slice ta q.tail.length tc, .slice na q.next.length nc, .slice ca q.cap.length cc] 26)).alloc (.cells #[.slice none 0 0, .slice none 0 0, .int .i64 0] 44)) w' → w'.cell? ⟨w.heap.size, 0, none⟩ = some (.int .i64 q.n) ∧ w'.cell? ⟨w.heap.size, 1, none⟩ = some (.slice ta q.tail.length tc) ∧ w'.cell? ⟨w.heap.size, 2, none⟩ = some (.slice na q.next.length nc) ∧ w'.cell? ⟨w.heap.size, 3, none⟩ = some (.slice ca q.cap.length cc)) := hide fun w' hb => survey_fx w _ _ _ _ w' hb
  have HGX : Hid (∀ w', Below (w.heap.size + 2) ((w.alloc (.cells #[.int .i64 q.n, .slice ta q.tail.length tc, .slice na q.next.length nc, .slice ca q.cap.length cc] 26)).alloc (.cells #[.slice none 0 0, .slice none 0 0, .int .i64 0] 44)) w' → w'.cell? ⟨w.heap.size + 1, 0, none⟩ = some (.slice none 0 0) ∧ w'.cell? ⟨w.heap.size + 1, 1, none⟩ = some (.slice none 0 0) ∧ w'.cell? ⟨w.heap.size + 1, 2, none⟩ = some (.int .i64 0) ∧ (∀ k, w'.frozen? ⟨w.heap.size + 1, k, none⟩ = false)) := hide fun w' hb => survey_gx w _ _ _ _ w' hb
  have HW : Hid (∀ w', Below (w.heap.size + 2) ((w.alloc (.cells #[.int .i64 q.n, .slice ta q.tail.length tc, .slice na q.next.length nc, .slice ca q.cap.length cc] 26)).alloc (.cells #[.slice none 0 0, .slice none 0 0, .int .i64 0] 44)) w' → Below w.heap.size w w') := hide fun w' hb => survey_w w _ _ _ _ w' hb
  have HS2 : Hid (((w.alloc (.cells #[.int .i64 q.n, .slice ta q.tail.length tc, .slice na q.next.length nc, .slice ca q.cap.length cc] 26)).alloc (.cells #[.slice none 0 0, .slice none 0 0, .int .i64 0] 44)).heap.size = w.heap.size + 2) := hide (by simp)
  have HV : Hid (∀ w', Below (w.heap.size + 2) ((w.alloc (.cells #[.int .i64 q.n, .slice ta q.tail.length tc, .slice na q.next.length nc, .slice ca q.cap.length cc] 26)).alloc (.cells #[.slice none 0 0, .slice none 0 0, .int .i64 0] 44)) w' → NetI w' (.agg #[.int .i64 q.n, .slice ta q.tail.length tc, .slice na q.next.length nc, .slice ca q.cap.length cc]) q (.slice ta q.tail.length tc) (.slice na q.next.length nc) (.slice ca q.cap.length cc)) := hide fun w' hb => NetI.below ⟨rfl, h1, h2, h3⟩ (unhide HW _ hb)
  have HIs : Hid (∀ w', Below (w.heap.size + 2) ((w.alloc (.cells #[.int .i64 q.n, .slice ta q.tail.length tc, .slice na q.next.length nc, .slice ca q.cap.length cc] 26)).alloc (.cells #[.slice none 0 0, .slice none 0 0, .int .i64 0] 44)) w' → Calls Try.prog 29 #[.agg #[.int .i64 q.n, .slice ta q.tail.length tc, .slice na q.next.length nc, .slice ca q.cap.length cc], .int .i64 s] w' fun e w'' => e = .returned (.bool (decide (0 ≤ s ∧ s < q.n))) ∧ Below w'.heap.size w' w'') := hide fun w' hb => rmvertex_any q _ _ _ _ s w' (unhide HV w' hb)
  have HIt : Hid (∀ w', Below (w.heap.size + 2) ((w.alloc (.cells #[.int .i64 q.n, .slice ta q.tail.length tc, .slice na q.next.length nc, .slice ca q.cap.length cc] 26)).alloc (.cells #[.slice none 0 0, .slice none 0 0, .int .i64 0] 44)) w' → Calls Try.prog 29 #[.agg #[.int .i64 q.n, .slice ta q.tail.length tc, .slice na q.next.length nc, .slice ca q.cap.length cc], .int .i64 t] w' fun e w'' => e = .returned (.bool (decide (0 ≤ t ∧ t < q.n))) ∧ Below w'.heap.size w' w'') := hide fun w' hb => rmvertex_any q _ _ _ _ t w' (unhide HV w' hb)
  clear h1 h2 h3
  rw [decide_eq_true h0] at HIs
  rw [decide_eq_false h1] at HIt
  have hbz := Below.refl (w.heap.size + 2) ((w.alloc (.cells #[.int .i64 q.n, .slice ta q.tail.length tc, .slice na q.next.length nc, .slice ca q.cap.length cc] 26)).alloc (.cells #[.slice none 0 0, .slice none 0 0, .int .i64 0] 44))
  obtain ⟨x0, x1, x2, x3⟩ := unhide HFX _ hbz
  obtain ⟨P, hP⟩ : ∃ P : Ending → World → Prop, P = fun e w' => e = .returned (.tuple #[.agg #[.slice none 0 0, .slice none 0 0, .int .i64 0], .int .i64 3]) ∧ Below w.heap.size w w' := ⟨_, rfl⟩
  rw [← hP]
  have HP := hide hP
  clear hP
  go_enter Try.func18, Try.ntmps18
  go_wp2_with fail
  go_at_call 29
  refine (unhide HIs _ hbz).mono ?_
  rintro e wa ⟨rfl, hlwa⟩
  have hbwa := Below.trans hbz (hlwa.mono (by have h1 := Below.size hbz; have h2 := unhide HS2; omega))
  clear x0 x1 x2 x3
  obtain ⟨x0, x1, x2, x3⟩ := unhide HFX _ hbwa
  go_wp2_with fail
  go_at_call 29
  refine (unhide HIt _ hbwa).mono ?_
  rintro e wb ⟨rfl, hlwb⟩
  have hbwb := Below.trans hbwa (hlwb.mono (by have h1 := Below.size hbwa; have h2 := unhide HS2; omega))
  clear x0 x1 x2 x3
  obtain ⟨x0, x1, x2, x3⟩ := unhide HFX _ hbwb
  have HB := hide hbwb
  obtain ⟨z0, z1, z2, zf⟩ := unhide HGX _ (unhide HB)
  have HZ : Hid (∀ w', Below (w.heap.size + 2) ((w.alloc (.cells #[.int .i64 q.n, .slice ta q.tail.length tc, .slice na q.next.length nc, .slice ca q.cap.length cc] 26)).alloc (.cells #[.slice none 0 0, .slice none 0 0, .int .i64 0] 44)) w' → w'.heap[w.heap.size + 1]? = some (.cells #[.slice none 0 0, .slice none 0 0, .int .i64 0] 44)) := hide fun w' hb => survey_z w _ _ _ _ w' hb
  have z1' := fun v : Value => show (wb.setCell ⟨w.heap.size + 1, 0, none⟩ v).cell? ⟨w.heap.size + 1, 1, none⟩ = some (.slice none 0 0) by rw [cell_set_ne (by omega)]; exact z1
  have z2' := fun v v' : Value => show ((wb.setCell ⟨w.heap.size + 1, 0, none⟩ v).setCell ⟨w.heap.size + 1, 1, none⟩ v').cell? ⟨w.heap.size + 1, 2, none⟩ = some (.int .i64 0) by rw [cell_set_ne (by omega), cell_set_ne (by omega)]; exact z2
  clear hbz hlwa hbwa hlwb hbwb
  go_wp2
  have hfin : ((((wb.setCell ⟨w.heap.size + 1, 0, none⟩ (.slice none 0 0)).setCell ⟨w.heap.size + 1, 1, none⟩ (.slice none 0 0)).setCell ⟨w.heap.size + 1, 2, none⟩ (.int .i64 0))).heap[w.heap.size + 1]? = some (.cells #[.slice none 0 0, .slice none 0 0, .int .i64 0] 44) := land_set (unhide HZ _ (unhide HB)) _ _ _
  have hbf : Below w.heap.size w ((((wb.setCell ⟨w.heap.size + 1, 0, none⟩ (.slice none 0 0)).setCell ⟨w.heap.size + 1, 1, none⟩ (.slice none 0 0)).setCell ⟨w.heap.size + 1, 2, none⟩ (.int .i64 0))) := ((((unhide HW _ (unhide HB)).setCell (p := ⟨w.heap.size + 1, 0, none⟩) (Nat.le_succ _) _).setCell (p := ⟨w.heap.size + 1, 1, none⟩) (Nat.le_succ _) _).setCell (p := ⟨w.heap.size + 1, 2, none⟩) (Nat.le_succ _) _)
  generalize (((wb.setCell ⟨w.heap.size + 1, 0, none⟩ (.slice none 0 0)).setCell ⟨w.heap.size + 1, 1, none⟩ (.slice none 0 0)).setCell ⟨w.heap.size + 1, 2, none⟩ (.int .i64 0)) = WF at *
  have r0 : WF.cell? ⟨w.heap.size + 1, 0, none⟩ = some (.slice none 0 0) := by rw [cell_of_row _ _ _ _ _ _ hfin]; rfl
  have r1 : WF.cell? ⟨w.heap.size + 1, 1, none⟩ = some (.slice none 0 0) := by rw [cell_of_row _ _ _ _ _ _ hfin]; rfl
  have r2 : WF.cell? ⟨w.heap.size + 1, 2, none⟩ = some (.int .i64 0) := by rw [cell_of_row _ _ _ _ _ _ hfin]; rfl
  refine bodyPost_ret (v := .tuple #[.agg #[.slice none 0 0, .slice none 0 0, .int .i64 0], .int .i64 3]) (by simp [results, Try.results18, go_sem, r0, r1, r2]) rfl ?_
  rw [unhide HP]
  exact ⟨rfl, hbf⟩
set_option maxRecDepth 100000 in
set_option maxHeartbeats 4000000 in
theorem survey_bad2 (q : Sp.Net) (v tv nv cv : Value) (s t : Int) (w : World) (hv : NetI w v q tv nv cv) (h0 : 0 ≤ s ∧ s < q.n) (h1 : 0 ≤ t ∧ t < q.n) (hst : s = t) :
    Calls Try.prog 18 #[v, .int .i64 s, .int .i64 t] w fun e w' => e = .returned (.tuple #[.agg #[.slice none 0 0, .slice none 0 0, .int .i64 0], .int .i64 9]) ∧ Below w.heap.size w w' := by
  obtain ⟨rfl, h1, h2, h3⟩ := hv
  obtain ⟨ta, tc, rfl, -, -⟩ := h1.form
  obtain ⟨na, nc, rfl, -, -⟩ := h2.form
  obtain ⟨ca, cc, rfl, -, -⟩ := h3.form
  have HFX : Hid (∀ w', Below (w.heap.size + 2) ((w.alloc (.cells #[.int .i64 q.n, .slice ta q.tail.length tc, .slice na q.next.length nc, .slice ca q.cap.length cc] 26)).alloc (.cells #[.slice none 0 0, .slice none 0 0, .int .i64 0] 44)) w' → w'.cell? ⟨w.heap.size, 0, none⟩ = some (.int .i64 q.n) ∧ w'.cell? ⟨w.heap.size, 1, none⟩ = some (.slice ta q.tail.length tc) ∧ w'.cell? ⟨w.heap.size, 2, none⟩ = some (.slice na q.next.length nc) ∧ w'.cell? ⟨w.heap.size, 3, none⟩ = some (.slice ca q.cap.length cc)) := hide fun w' hb => survey_fx w _ _ _ _ w' hb
  have HGX : Hid (∀ w', Below (w.heap.size + 2) ((w.alloc (.cells #[.int .i64 q.n, .slice ta q.tail.length tc, .slice na q.next.length nc, .slice ca q.cap.length cc] 26)).alloc (.cells #[.slice none 0 0, .slice none 0 0, .int .i64 0] 44)) w' → w'.cell? ⟨w.heap.size + 1, 0, none⟩ = some (.slice none 0 0) ∧ w'.cell? ⟨w.heap.size + 1, 1, none⟩ = some (.slice none 0 0) ∧ w'.cell? ⟨w.heap.size + 1, 2, none⟩ = some (.int .i64 0) ∧ (∀ k, w'.frozen? ⟨w.heap.size + 1, k, none⟩ = false)) := hide fun w' hb => survey_gx w _ _ _ _ w' hb
  have HW : Hid (∀ w', Below (w.heap.size + 2) ((w.alloc (.cells #[.int .i64 q.n, .slice ta q.tail.length tc, .slice na q.next.length nc, .slice ca q.cap.length cc] 26)).alloc (.cells #[.slice none 0 0, .slice none 0 0, .int .i64 0] 44)) w' → Below w.heap.size w w') := hide fun w' hb => survey_w w _ _ _ _ w' hb
  have HS2 : Hid (((w.alloc (.cells #[.int .i64 q.n, .slice ta q.tail.length tc, .slice na q.next.length nc, .slice ca q.cap.length cc] 26)).alloc (.cells #[.slice none 0 0, .slice none 0 0, .int .i64 0] 44)).heap.size = w.heap.size + 2) := hide (by simp)
  have HV : Hid (∀ w', Below (w.heap.size + 2) ((w.alloc (.cells #[.int .i64 q.n, .slice ta q.tail.length tc, .slice na q.next.length nc, .slice ca q.cap.length cc] 26)).alloc (.cells #[.slice none 0 0, .slice none 0 0, .int .i64 0] 44)) w' → NetI w' (.agg #[.int .i64 q.n, .slice ta q.tail.length tc, .slice na q.next.length nc, .slice ca q.cap.length cc]) q (.slice ta q.tail.length tc) (.slice na q.next.length nc) (.slice ca q.cap.length cc)) := hide fun w' hb => NetI.below ⟨rfl, h1, h2, h3⟩ (unhide HW _ hb)
  have HIs : Hid (∀ w', Below (w.heap.size + 2) ((w.alloc (.cells #[.int .i64 q.n, .slice ta q.tail.length tc, .slice na q.next.length nc, .slice ca q.cap.length cc] 26)).alloc (.cells #[.slice none 0 0, .slice none 0 0, .int .i64 0] 44)) w' → Calls Try.prog 29 #[.agg #[.int .i64 q.n, .slice ta q.tail.length tc, .slice na q.next.length nc, .slice ca q.cap.length cc], .int .i64 s] w' fun e w'' => e = .returned (.bool (decide (0 ≤ s ∧ s < q.n))) ∧ Below w'.heap.size w' w'') := hide fun w' hb => rmvertex_any q _ _ _ _ s w' (unhide HV w' hb)
  have HIt : Hid (∀ w', Below (w.heap.size + 2) ((w.alloc (.cells #[.int .i64 q.n, .slice ta q.tail.length tc, .slice na q.next.length nc, .slice ca q.cap.length cc] 26)).alloc (.cells #[.slice none 0 0, .slice none 0 0, .int .i64 0] 44)) w' → Calls Try.prog 29 #[.agg #[.int .i64 q.n, .slice ta q.tail.length tc, .slice na q.next.length nc, .slice ca q.cap.length cc], .int .i64 t] w' fun e w'' => e = .returned (.bool (decide (0 ≤ t ∧ t < q.n))) ∧ Below w'.heap.size w' w'') := hide fun w' hb => rmvertex_any q _ _ _ _ t w' (unhide HV w' hb)
  clear h1 h2 h3
  rw [decide_eq_true h0] at HIs
  rw [decide_eq_true h1] at HIt
  subst hst
  have hsb : (s == s) = true := beq_self_eq_true s
  have hbz := Below.refl (w.heap.size + 2) ((w.alloc (.cells #[.int .i64 q.n, .slice ta q.tail.length tc, .slice na q.next.length nc, .slice ca q.cap.length cc] 26)).alloc (.cells #[.slice none 0 0, .slice none 0 0, .int .i64 0] 44))
  obtain ⟨x0, x1, x2, x3⟩ := unhide HFX _ hbz
  obtain ⟨P, hP⟩ : ∃ P : Ending → World → Prop, P = fun e w' => e = .returned (.tuple #[.agg #[.slice none 0 0, .slice none 0 0, .int .i64 0], .int .i64 9]) ∧ Below w.heap.size w w' := ⟨_, rfl⟩
  rw [← hP]
  have HP := hide hP
  clear hP
  go_enter Try.func18, Try.ntmps18
  go_wp2_with fail
  go_at_call 29
  refine (unhide HIs _ hbz).mono ?_
  rintro e wa ⟨rfl, hlwa⟩
  have hbwa := Below.trans hbz (hlwa.mono (by have h1 := Below.size hbz; have h2 := unhide HS2; omega))
  clear x0 x1 x2 x3
  obtain ⟨x0, x1, x2, x3⟩ := unhide HFX _ hbwa
  go_wp2_with fail
  go_at_call 29
  refine (unhide HIt _ hbwa).mono ?_
  rintro e wb ⟨rfl, hlwb⟩
  have hbwb := Below.trans hbwa (hlwb.mono (by have h1 := Below.size hbwa; have h2 := unhide HS2; omega))
  clear x0 x1 x2 x3
  obtain ⟨x0, x1, x2, x3⟩ := unhide HFX _ hbwb
  have HB := hide hbwb
  obtain ⟨z0, z1, z2, zf⟩ := unhide HGX _ (unhide HB)
  have HZ : Hid (∀ w', Below (w.heap.size + 2) ((w.alloc (.cells #[.int .i64 q.n, .slice ta q.tail.length tc, .slice na q.next.length nc, .slice ca q.cap.length cc] 26)).alloc (.cells #[.slice none 0 0, .slice none 0 0, .int .i64 0] 44)) w' → w'.heap[w.heap.size + 1]? = some (.cells #[.slice none 0 0, .slice none 0 0, .int .i64 0] 44)) := hide fun w' hb => survey_z w _ _ _ _ w' hb
  have z1' := fun v : Value => show (wb.setCell ⟨w.heap.size + 1, 0, none⟩ v).cell? ⟨w.heap.size + 1, 1, none⟩ = some (.slice none 0 0) by rw [cell_set_ne (by omega)]; exact z1
  have z2' := fun v v' : Value => show ((wb.setCell ⟨w.heap.size + 1, 0, none⟩ v).setCell ⟨w.heap.size + 1, 1, none⟩ v').cell? ⟨w.heap.size + 1, 2, none⟩ = some (.int .i64 0) by rw [cell_set_ne (by omega), cell_set_ne (by omega)]; exact z2
  clear hbz hlwa hbwa hlwb hbwb
  go_wp2
  have hfin : ((((wb.setCell ⟨w.heap.size + 1, 0, none⟩ (.slice none 0 0)).setCell ⟨w.heap.size + 1, 1, none⟩ (.slice none 0 0)).setCell ⟨w.heap.size + 1, 2, none⟩ (.int .i64 0))).heap[w.heap.size + 1]? = some (.cells #[.slice none 0 0, .slice none 0 0, .int .i64 0] 44) := land_set (unhide HZ _ (unhide HB)) _ _ _
  have hbf : Below w.heap.size w ((((wb.setCell ⟨w.heap.size + 1, 0, none⟩ (.slice none 0 0)).setCell ⟨w.heap.size + 1, 1, none⟩ (.slice none 0 0)).setCell ⟨w.heap.size + 1, 2, none⟩ (.int .i64 0))) := ((((unhide HW _ (unhide HB)).setCell (p := ⟨w.heap.size + 1, 0, none⟩) (Nat.le_succ _) _).setCell (p := ⟨w.heap.size + 1, 1, none⟩) (Nat.le_succ _) _).setCell (p := ⟨w.heap.size + 1, 2, none⟩) (Nat.le_succ _) _)
  generalize (((wb.setCell ⟨w.heap.size + 1, 0, none⟩ (.slice none 0 0)).setCell ⟨w.heap.size + 1, 1, none⟩ (.slice none 0 0)).setCell ⟨w.heap.size + 1, 2, none⟩ (.int .i64 0)) = WF at *
  have r0 : WF.cell? ⟨w.heap.size + 1, 0, none⟩ = some (.slice none 0 0) := by rw [cell_of_row _ _ _ _ _ _ hfin]; rfl
  have r1 : WF.cell? ⟨w.heap.size + 1, 1, none⟩ = some (.slice none 0 0) := by rw [cell_of_row _ _ _ _ _ _ hfin]; rfl
  have r2 : WF.cell? ⟨w.heap.size + 1, 2, none⟩ = some (.int .i64 0) := by rw [cell_of_row _ _ _ _ _ _ hfin]; rfl
  refine bodyPost_ret (v := .tuple #[.agg #[.slice none 0 0, .slice none 0 0, .int .i64 0], .int .i64 9]) (by simp [results, Try.results18, go_sem, r0, r1, r2]) rfl ?_
  rw [unhide HP]
  exact ⟨rfl, hbf⟩
set_option maxRecDepth 100000 in
set_option maxHeartbeats 4000000 in
theorem survey_bad3 (q : Sp.Net) (v tv nv cv : Value) (s t : Int) (w : World) (hv : NetI w v q tv nv cv) (h0 : 0 ≤ s ∧ s < q.n) (h1 : 0 ≤ t ∧ t < q.n) (hst : s ≠ t) (hq : Sp.LinkQ q) (hc : Sp.checkI q = 0) (hn0 : -9223372036854775808 ≤ q.n) (hn1 : q.n ≤ 9223372036854775807) (hsh : (Sp.shared q s t).2 = false) :
    Calls Try.prog 18 #[v, .int .i64 s, .int .i64 t] w fun e w' => e = .returned (.tuple #[.agg #[.slice none 0 0, .slice none 0 0, .int .i64 0], .int .i64 10]) ∧ Below w.heap.size w w' := by
  obtain ⟨rfl, h1, h2, h3⟩ := hv
  obtain ⟨ta, tc, rfl, -, -⟩ := h1.form
  obtain ⟨na, nc, rfl, -, -⟩ := h2.form
  obtain ⟨ca, cc, rfl, -, -⟩ := h3.form
  have HFX : Hid (∀ w', Below (w.heap.size + 2) ((w.alloc (.cells #[.int .i64 q.n, .slice ta q.tail.length tc, .slice na q.next.length nc, .slice ca q.cap.length cc] 26)).alloc (.cells #[.slice none 0 0, .slice none 0 0, .int .i64 0] 44)) w' → w'.cell? ⟨w.heap.size, 0, none⟩ = some (.int .i64 q.n) ∧ w'.cell? ⟨w.heap.size, 1, none⟩ = some (.slice ta q.tail.length tc) ∧ w'.cell? ⟨w.heap.size, 2, none⟩ = some (.slice na q.next.length nc) ∧ w'.cell? ⟨w.heap.size, 3, none⟩ = some (.slice ca q.cap.length cc)) := hide fun w' hb => survey_fx w _ _ _ _ w' hb
  have HGX : Hid (∀ w', Below (w.heap.size + 2) ((w.alloc (.cells #[.int .i64 q.n, .slice ta q.tail.length tc, .slice na q.next.length nc, .slice ca q.cap.length cc] 26)).alloc (.cells #[.slice none 0 0, .slice none 0 0, .int .i64 0] 44)) w' → w'.cell? ⟨w.heap.size + 1, 0, none⟩ = some (.slice none 0 0) ∧ w'.cell? ⟨w.heap.size + 1, 1, none⟩ = some (.slice none 0 0) ∧ w'.cell? ⟨w.heap.size + 1, 2, none⟩ = some (.int .i64 0) ∧ (∀ k, w'.frozen? ⟨w.heap.size + 1, k, none⟩ = false)) := hide fun w' hb => survey_gx w _ _ _ _ w' hb
  have HW : Hid (∀ w', Below (w.heap.size + 2) ((w.alloc (.cells #[.int .i64 q.n, .slice ta q.tail.length tc, .slice na q.next.length nc, .slice ca q.cap.length cc] 26)).alloc (.cells #[.slice none 0 0, .slice none 0 0, .int .i64 0] 44)) w' → Below w.heap.size w w') := hide fun w' hb => survey_w w _ _ _ _ w' hb
  have HS2 : Hid (((w.alloc (.cells #[.int .i64 q.n, .slice ta q.tail.length tc, .slice na q.next.length nc, .slice ca q.cap.length cc] 26)).alloc (.cells #[.slice none 0 0, .slice none 0 0, .int .i64 0] 44)).heap.size = w.heap.size + 2) := hide (by simp)
  have HV : Hid (∀ w', Below (w.heap.size + 2) ((w.alloc (.cells #[.int .i64 q.n, .slice ta q.tail.length tc, .slice na q.next.length nc, .slice ca q.cap.length cc] 26)).alloc (.cells #[.slice none 0 0, .slice none 0 0, .int .i64 0] 44)) w' → NetI w' (.agg #[.int .i64 q.n, .slice ta q.tail.length tc, .slice na q.next.length nc, .slice ca q.cap.length cc]) q (.slice ta q.tail.length tc) (.slice na q.next.length nc) (.slice ca q.cap.length cc)) := hide fun w' hb => NetI.below ⟨rfl, h1, h2, h3⟩ (unhide HW _ hb)
  have HIs : Hid (∀ w', Below (w.heap.size + 2) ((w.alloc (.cells #[.int .i64 q.n, .slice ta q.tail.length tc, .slice na q.next.length nc, .slice ca q.cap.length cc] 26)).alloc (.cells #[.slice none 0 0, .slice none 0 0, .int .i64 0] 44)) w' → Calls Try.prog 29 #[.agg #[.int .i64 q.n, .slice ta q.tail.length tc, .slice na q.next.length nc, .slice ca q.cap.length cc], .int .i64 s] w' fun e w'' => e = .returned (.bool (decide (0 ≤ s ∧ s < q.n))) ∧ Below w'.heap.size w' w'') := hide fun w' hb => rmvertex_any q _ _ _ _ s w' (unhide HV w' hb)
  have HIt : Hid (∀ w', Below (w.heap.size + 2) ((w.alloc (.cells #[.int .i64 q.n, .slice ta q.tail.length tc, .slice na q.next.length nc, .slice ca q.cap.length cc] 26)).alloc (.cells #[.slice none 0 0, .slice none 0 0, .int .i64 0] 44)) w' → Calls Try.prog 29 #[.agg #[.int .i64 q.n, .slice ta q.tail.length tc, .slice na q.next.length nc, .slice ca q.cap.length cc], .int .i64 t] w' fun e w'' => e = .returned (.bool (decide (0 ≤ t ∧ t < q.n))) ∧ Below w'.heap.size w' w'') := hide fun w' hb => rmvertex_any q _ _ _ _ t w' (unhide HV w' hb)
  clear h1 h2 h3
  rw [decide_eq_true h0] at HIs
  rw [decide_eq_true h1] at HIt
  have hsb : (s == t) = false := beq_eq_false_iff_ne.2 hst
  have HSp : Hid (∀ w', Below (w.heap.size + 2) ((w.alloc (.cells #[.int .i64 q.n, .slice ta q.tail.length tc, .slice na q.next.length nc, .slice ca q.cap.length cc] 26)).alloc (.cells #[.slice none 0 0, .slice none 0 0, .int .i64 0] 44)) w' → Calls Try.prog 30 #[.agg #[.int .i64 q.n, .slice ta q.tail.length tc, .slice na q.next.length nc, .slice ca q.cap.length cc], .int .i64 s, .int .i64 t] w' fun e w'' => e = .returned (.tuple #[.slice none 0 0, .int .i64 0, .int .i64 0, .int .i64 0, .bool false]) ∧ Below w'.heap.size w' w'') := hide fun w' hb => splitNone_any q _ _ _ _ s t w' (unhide HV w' hb) hq hc hn0 hn1 hsh
  clear hq hc hsh
  have hbz := Below.refl (w.heap.size + 2) ((w.alloc (.cells #[.int .i64 q.n, .slice ta q.tail.length tc, .slice na q.next.length nc, .slice ca q.cap.length cc] 26)).alloc (.cells #[.slice none 0 0, .slice none 0 0, .int .i64 0] 44))
  obtain ⟨x0, x1, x2, x3⟩ := unhide HFX _ hbz
  obtain ⟨P, hP⟩ : ∃ P : Ending → World → Prop, P = fun e w' => e = .returned (.tuple #[.agg #[.slice none 0 0, .slice none 0 0, .int .i64 0], .int .i64 10]) ∧ Below w.heap.size w w' := ⟨_, rfl⟩
  rw [← hP]
  have HP := hide hP
  clear hP
  go_enter Try.func18, Try.ntmps18
  go_wp2_with fail
  go_at_call 29
  refine (unhide HIs _ hbz).mono ?_
  rintro e wa ⟨rfl, hlwa⟩
  have hbwa := Below.trans hbz (hlwa.mono (by have h1 := Below.size hbz; have h2 := unhide HS2; omega))
  clear x0 x1 x2 x3
  obtain ⟨x0, x1, x2, x3⟩ := unhide HFX _ hbwa
  go_wp2_with fail
  go_at_call 29
  refine (unhide HIt _ hbwa).mono ?_
  rintro e wb ⟨rfl, hlwb⟩
  have hbwb := Below.trans hbwa (hlwb.mono (by have h1 := Below.size hbwa; have h2 := unhide HS2; omega))
  clear x0 x1 x2 x3
  obtain ⟨x0, x1, x2, x3⟩ := unhide HFX _ hbwb
  go_wp2_with fail
  go_at_call 30
  refine (unhide HSp _ hbwb).mono ?_
  rintro e wd ⟨rfl, hld⟩
  have hbwd := Below.trans hbwb (hld.mono (by have h1 := Below.size hbwb; have h2 := unhide HS2; omega))
  clear x0 x1 x2 x3
  have HB := hide hbwd
  obtain ⟨z0, z1, z2, zf⟩ := unhide HGX _ (unhide HB)
  have HZ : Hid (∀ w', Below (w.heap.size + 2) ((w.alloc (.cells #[.int .i64 q.n, .slice ta q.tail.length tc, .slice na q.next.length nc, .slice ca q.cap.length cc] 26)).alloc (.cells #[.slice none 0 0, .slice none 0 0, .int .i64 0] 44)) w' → w'.heap[w.heap.size + 1]? = some (.cells #[.slice none 0 0, .slice none 0 0, .int .i64 0] 44)) := hide fun w' hb => survey_z w _ _ _ _ w' hb
  have z1' := fun v : Value => show (wd.setCell ⟨w.heap.size + 1, 0, none⟩ v).cell? ⟨w.heap.size + 1, 1, none⟩ = some (.slice none 0 0) by rw [cell_set_ne (by omega)]; exact z1
  have z2' := fun v v' : Value => show ((wd.setCell ⟨w.heap.size + 1, 0, none⟩ v).setCell ⟨w.heap.size + 1, 1, none⟩ v').cell? ⟨w.heap.size + 1, 2, none⟩ = some (.int .i64 0) by rw [cell_set_ne (by omega), cell_set_ne (by omega)]; exact z2
  clear hbz hlwa hbwa hlwb hbwb hld hbwd
  go_wp2
  have hfin : ((((wd.setCell ⟨w.heap.size + 1, 0, none⟩ (.slice none 0 0)).setCell ⟨w.heap.size + 1, 1, none⟩ (.slice none 0 0)).setCell ⟨w.heap.size + 1, 2, none⟩ (.int .i64 0))).heap[w.heap.size + 1]? = some (.cells #[.slice none 0 0, .slice none 0 0, .int .i64 0] 44) := land_set (unhide HZ _ (unhide HB)) _ _ _
  have hbf : Below w.heap.size w ((((wd.setCell ⟨w.heap.size + 1, 0, none⟩ (.slice none 0 0)).setCell ⟨w.heap.size + 1, 1, none⟩ (.slice none 0 0)).setCell ⟨w.heap.size + 1, 2, none⟩ (.int .i64 0))) := ((((unhide HW _ (unhide HB)).setCell (p := ⟨w.heap.size + 1, 0, none⟩) (Nat.le_succ _) _).setCell (p := ⟨w.heap.size + 1, 1, none⟩) (Nat.le_succ _) _).setCell (p := ⟨w.heap.size + 1, 2, none⟩) (Nat.le_succ _) _)
  generalize (((wd.setCell ⟨w.heap.size + 1, 0, none⟩ (.slice none 0 0)).setCell ⟨w.heap.size + 1, 1, none⟩ (.slice none 0 0)).setCell ⟨w.heap.size + 1, 2, none⟩ (.int .i64 0)) = WF at *
  have r0 : WF.cell? ⟨w.heap.size + 1, 0, none⟩ = some (.slice none 0 0) := by rw [cell_of_row _ _ _ _ _ _ hfin]; rfl
  have r1 : WF.cell? ⟨w.heap.size + 1, 1, none⟩ = some (.slice none 0 0) := by rw [cell_of_row _ _ _ _ _ _ hfin]; rfl
  have r2 : WF.cell? ⟨w.heap.size + 1, 2, none⟩ = some (.int .i64 0) := by rw [cell_of_row _ _ _ _ _ _ hfin]; rfl
  refine bodyPost_ret (v := .tuple #[.agg #[.slice none 0 0, .slice none 0 0, .int .i64 0], .int .i64 10]) (by simp [results, Try.results18, go_sem, r0, r1, r2]) rfl ?_
  rw [unhide HP]
  exact ⟨rfl, hbf⟩
end Go.Proofs.Ytoegjnolccabjab


/- rim: what a land is; its arcs are arcs. -/
namespace Go.Proofs.Ytoegjnolccabjab
open Go Go.RowKit

/-- What the walks of stage 8 take of a net. -/
structure Sp.RimQ (q : Sp.Net) : Prop where
  link : Sp.LinkQ q
  le : q.tail.length ≤ 48
  n0 : 1 ≤ q.n
  n1 : q.n ≤ 60
  cb : ∀ x ∈ q.cap, 0 ≤ x ∧ x ≤ 2147483648
  fb : ∀ i, i < q.tail.length → 0 ≤ (Sp.faces2 q).1.getD i 0 ∧ (Sp.faces2 q).1.getD i 0 < ((Sp.faces2 q).2 : Int)
  walk : Sp.walkB q = true
  chk : Sp.checkI q = 0
theorem Sp.splitAt_rng {x : Nat → Nat} {K f : Int} {jb : Nat} {F : List Int} {p : Int → Prop} (hK : p K) (hf : p f) (hF : ∀ i, i < F.length → p (F.getD i 0)) : ∀ j i, i < F.length → p ((Sp.splitAt x K f jb F j).getD i 0)
  | 0, i, hi => hF i hi
  | j + 1, i, hi => by
    have ih := Sp.splitAt_rng (x := x) (jb := jb) hK hf hF j i hi
    rw [Sp.splitAt, List.getD_eq_getElem?_getD, List.getElem?_set]
    split
    · rename_i e
      split
      · simp only [Option.getD_some]
        split
        · exact hK
        · exact hf
      · rename_i h2
        rw [Sp.splitAt_len] at h2
        omega
    · rw [← List.getD_eq_getElem?_getD]; exact ih
/-- The faces of a land. -/
def Sp.landK (q : Sp.Net) : Nat := max (Sp.faces2 q).2 1
theorem Sp.RimQ.kle {q : Sp.Net} (h : Sp.RimQ q) : Sp.landK q + 1 ≤ 49 := by
  have := Sp.faces2_le q
  have := h.le
  unfold Sp.landK
  omega
theorem Sp.RimQ.flt {q : Sp.Net} (h : Sp.RimQ q) {s t : Int} {f d0 a jb : Nat} (hs : Sp.SplitQ q s t f d0 a jb) : f < Sp.landK q := by
  have h1 := (h.fb d0 hs.d0l).2
  rw [hs.d0f] at h1
  unfold Sp.landK
  omega
theorem Sp.splitL_len (q : Sp.Net) (f d0 a jb : Nat) : (Sp.splitL q f d0 a jb).length = q.tail.length := by
  unfold Sp.splitL
  rw [Sp.splitAt_len, Sp.faces2_len]
theorem Sp.RimQ.rng {q : Sp.Net} (h : Sp.RimQ q) {s t : Int} {f d0 a jb : Nat} (hs : Sp.SplitQ q s t f d0 a jb) {d : Nat} (hd : d < q.tail.length) : 0 ≤ (Sp.splitL q f d0 a jb).getD d 0 ∧ (Sp.splitL q f d0 a jb).getD d 0 < ((Sp.landK q + 1 : Nat) : Int) := by
  have hf := h.flt hs
  unfold Sp.landK at hf ⊢
  unfold Sp.splitL
  refine Sp.splitAt_rng (p := fun z => 0 ≤ z ∧ z < ((max (Sp.faces2 q).2 1 + 1 : Nat) : Int)) (by omega) (by omega) (fun i hi => ?_) _ d (by rw [Sp.faces2_len]; exact hd)
  rw [Sp.faces2_len] at hi
  have := h.fb i hi
  omega
theorem Sp.RimQ.capd {q : Sp.Net} (h : Sp.RimQ q) (d : Nat) : 0 ≤ q.cap.getD d 0 ∧ q.cap.getD d 0 ≤ 2147483648 := by
  rw [List.getD_eq_getElem?_getD]
  by_cases hd : d < q.cap.length
  · rw [List.getElem?_eq_getElem hd]
    exact h.cb _ (List.getElem_mem hd)
  · rw [List.getElem?_eq_none (by omega)]
    exact ⟨Int.le_refl _, by decide⟩
theorem Sp.RimQ.sndR {q : Sp.Net} (h : Sp.RimQ q) {s t : Int} {f d0 a jb : Nat} (hs : Sp.SplitQ q s t f d0 a jb) : Sp.Snd (Sp.landK q + 1) (Sp.rimR (Sp.splitL q f d0 a jb) q.cap q.tail.length) where
  few := by rw [Sp.rimR_len]; have := h.le; omega
  at_ := fun x hx => by
    obtain ⟨d, hd, rfl⟩ := Sp.mem_rimR.1 hx
    have h1 := h.rng hs hd
    have h2 := h.rng hs (oth_lt hd h.link.ev)
    have h3 := h.capd d
    refine ⟨?_, ?_, ?_, ?_⟩
    · show ((Sp.splitL q f d0 a jb).getD d 0).toNat < _; omega
    · show ((Sp.splitL q f d0 a jb).getD (Sp.oth d) 0).toNat < _; omega
    · show _ ≤ q.cap.getD d 0; omega
    · show q.cap.getD d 0 ≤ _; omega
theorem Sp.RimQ.posR {q : Sp.Net} (h : Sp.RimQ q) (F : List Int) (m : Nat) : ∀ x ∈ Sp.rimR F q.cap m, 0 ≤ x.l := fun x hx => by
  obtain ⟨d, hd, rfl⟩ := Sp.mem_rimR.1 hx
  exact (h.capd d).1
theorem Sp.RimQ.sndL {q : Sp.Net} (h : Sp.RimQ q) {s t : Int} {f d0 a jb : Nat} (hs : Sp.SplitQ q s t f d0 a jb) : Sp.Snd (Sp.landK q + 1) (Sp.rimL (Sp.splitL q f d0 a jb) q.cap q.tail.length) where
  few := by have := Sp.rimL_len (Sp.splitL q f d0 a jb) q.cap q.tail.length; have := h.le; omega
  at_ := fun x hx => (h.sndR hs).at_ x (Sp.rimL_mem _ _ _ x hx)
theorem Sp.RimQ.posL {q : Sp.Net} (h : Sp.RimQ q) (F : List Int) (m : Nat) : ∀ x ∈ Sp.rimL F q.cap m, 0 ≤ x.l := fun x hx => h.posR F m x (Sp.rimL_mem _ _ _ x hx)
theorem Sp.RimQ.of_dual {q : Sp.Net} (h : Sp.DualQ q) (hw : Sp.walkB q = true) (hc : Sp.checkI q = 0) : Sp.RimQ q := ⟨h.link, h.le, h.n0, h.n1, h.cb, fun _ hi => h.fb hi, hw, hc⟩
end Go.Proofs.Ytoegjnolccabjab


/- rim: survey where there is a land. -/
namespace Go.Proofs.Ytoegjnolccabjab
open Go Go.RowKit

set_option maxRecDepth 100000 in
set_option maxHeartbeats 8000000 in
theorem survey_yes (q : Sp.Net) (v tv nv cv : Value) (s t : Int) (w : World) (hv : NetI w v q tv nv cv) (f d0 a jb : Nat) (h0 : 0 ≤ s ∧ s < q.n) (h1 : 0 ≤ t ∧ t < q.n) (hst : s ≠ t) (hq : Sp.RimQ q) (hs : Sp.SplitQ q s t f d0 a jb) :
    Calls Try.prog 18 #[v, .int .i64 s, .int .i64 t] w fun e w' => ∃ O G D, e = .returned (.tuple #[.agg #[.slice (some ⟨O, 0, none⟩) q.tail.length q.tail.length, .slice (some ⟨G, 0, none⟩) (Sp.landK q + 1) (Sp.landK q + 1), .int .i64 ((Sp.landK q : Nat) : Int)], .int .i64 0]) ∧ OwnI w' w.heap.size (.slice (some ⟨O, 0, none⟩) q.tail.length q.tail.length) (Sp.splitL q f d0 a jb) ∧ w.heap.size ≤ G ∧ RowAt w' G (Sp.landK q + 1) D ∧ Below w.heap.size w w' ∧ Sp.Short 1152921504606846976 (Sp.rimR (Sp.splitL q f d0 a jb) q.cap q.tail.length) f (Sp.landK q + 1) D ∧ ∀ v, v < Sp.landK q + 1 → D v ≠ 1152921504606846976 → D v < 1152921504606846976 := by
  have hv' := hv
  obtain ⟨rfl, h1, h2, h3⟩ := hv
  obtain ⟨ta, tc, rfl, -, -⟩ := h1.form
  obtain ⟨na, nc, rfl, -, -⟩ := h2.form
  obtain ⟨ca, cc, rfl, -, -⟩ := h3.form
  have HFX : Hid (∀ w', Below (w.heap.size + 2) ((w.alloc (.cells #[.int .i64 q.n, .slice ta q.tail.length tc, .slice na q.next.length nc, .slice ca q.cap.length cc] 26)).alloc (.cells #[.slice none 0 0, .slice none 0 0, .int .i64 0] 44)) w' → w'.cell? ⟨w.heap.size, 0, none⟩ = some (.int .i64 q.n) ∧ w'.cell? ⟨w.heap.size, 1, none⟩ = some (.slice ta q.tail.length tc) ∧ w'.cell? ⟨w.heap.size, 2, none⟩ = some (.slice na q.next.length nc) ∧ w'.cell? ⟨w.heap.size, 3, none⟩ = some (.slice ca q.cap.length cc)) := hide fun w' hb => survey_fx w _ _ _ _ w' hb
  have HGX : Hid (∀ w', Below (w.heap.size + 2) ((w.alloc (.cells #[.int .i64 q.n, .slice ta q.tail.length tc, .slice na q.next.length nc, .slice ca q.cap.length cc] 26)).alloc (.cells #[.slice none 0 0, .slice none 0 0, .int .i64 0] 44)) w' → w'.cell? ⟨w.heap.size + 1, 0, none⟩ = some (.slice none 0 0) ∧ w'.cell? ⟨w.heap.size + 1, 1, none⟩ = some (.slice none 0 0) ∧ w'.cell? ⟨w.heap.size + 1, 2, none⟩ = some (.int .i64 0) ∧ (∀ k, w'.frozen? ⟨w.heap.size + 1, k, none⟩ = false)) := hide fun w' hb => survey_gx w _ _ _ _ w' hb
  have HW : Hid (∀ w', Below (w.heap.size + 2) ((w.alloc (.cells #[.int .i64 q.n, .slice ta q.tail.length tc, .slice na q.next.length nc, .slice ca q.cap.length cc] 26)).alloc (.cells #[.slice none 0 0, .slice none 0 0, .int .i64 0] 44)) w' → Below w.heap.size w w') := hide fun w' hb => survey_w w _ _ _ _ w' hb
  have HS2 : Hid (((w.alloc (.cells #[.int .i64 q.n, .slice ta q.tail.length tc, .slice na q.next.length nc, .slice ca q.cap.length cc] 26)).alloc (.cells #[.slice none 0 0, .slice none 0 0, .int .i64 0] 44)).heap.size = w.heap.size + 2) := hide (by simp)
  have HV : Hid (∀ w', Below (w.heap.size + 2) ((w.alloc (.cells #[.int .i64 q.n, .slice ta q.tail.length tc, .slice na q.next.length nc, .slice ca q.cap.length cc] 26)).alloc (.cells #[.slice none 0 0, .slice none 0 0, .int .i64 0] 44)) w' → NetI w' (.agg #[.int .i64 q.n, .slice ta q.tail.length tc, .slice na q.next.length nc, .slice ca q.cap.length cc]) q (.slice ta q.tail.length tc) (.slice na q.next.length nc) (.slice ca q.cap.length cc)) := hide fun w' hb => NetI.below ⟨rfl, h1, h2, h3⟩ (unhide HW _ hb)
  have HIs : Hid (∀ w', Below (w.heap.size + 2) ((w.alloc (.cells #[.int .i64 q.n, .slice ta q.tail.length tc, .slice na q.next.length nc, .slice ca q.cap.length cc] 26)).alloc (.cells #[.slice none 0 0, .slice none 0 0, .int .i64 0] 44)) w' → Calls Try.prog 29 #[.agg #[.int .i64 q.n, .slice ta q.tail.length tc, .slice na q.next.length nc, .slice ca q.cap.length cc], .int .i64 s] w' fun e w'' => e = .returned (.bool (decide (0 ≤ s ∧ s < q.n))) ∧ Below w'.heap.size w' w'') := hide fun w' hb => rmvertex_any q _ _ _ _ s w' (unhide HV w' hb)
  have HIt : Hid (∀ w', Below (w.heap.size + 2) ((w.alloc (.cells #[.int .i64 q.n, .slice ta q.tail.length tc, .slice na q.next.length nc, .slice ca q.cap.length cc] 26)).alloc (.cells #[.slice none 0 0, .slice none 0 0, .int .i64 0] 44)) w' → Calls Try.prog 29 #[.agg #[.int .i64 q.n, .slice ta q.tail.length tc, .slice na q.next.length nc, .slice ca q.cap.length cc], .int .i64 t] w' fun e w'' => e = .returned (.bool (decide (0 ≤ t ∧ t < q.n))) ∧ Below w'.heap.size w' w'') := hide fun w' hb => rmvertex_any q _ _ _ _ t w' (unhide HV w' hb)
  clear h1 h2 h3
  rw [decide_eq_true h0] at HIs
  rw [decide_eq_true h1] at HIt
  have hsb : (s == t) = false := beq_eq_false_iff_ne.2 hst
  have HSp : Hid (∀ w', Below (w.heap.size + 2) ((w.alloc (.cells #[.int .i64 q.n, .slice ta q.tail.length tc, .slice na q.next.length nc, .slice ca q.cap.length cc] 26)).alloc (.cells #[.slice none 0 0, .slice none 0 0, .int .i64 0] 44)) w' → Calls Try.prog 30 #[.agg #[.int .i64 q.n, .slice ta q.tail.length tc, .slice na q.next.length nc, .slice ca q.cap.length cc], .int .i64 s, .int .i64 t] w' fun e w'' => ∃ O, e = .returned (.tuple #[.slice (some ⟨O, 0, none⟩) q.tail.length q.tail.length, .int .i64 (((Sp.landK q : Nat) : Int) + 1), .int .i64 (f : Int), .int .i64 ((Sp.landK q : Nat) : Int), .bool true]) ∧ OwnI w'' w'.heap.size (.slice (some ⟨O, 0, none⟩) q.tail.length q.tail.length) (Sp.splitL q f d0 a jb) ∧ Below w'.heap.size w' w'') := hide fun w' hb => dsplit_any q _ _ _ _ s t f d0 a jb w' (unhide HV w' hb) hq.link hq.walk hq.chk (by have := hq.n0; omega) (by have := hq.n1; omega) hs
  have HCp : Hid (∀ w', Below (w.heap.size + 2) ((w.alloc (.cells #[.int .i64 q.n, .slice ta q.tail.length tc, .slice na q.next.length nc, .slice ca q.cap.length cc] 26)).alloc (.cells #[.slice none 0 0, .slice none 0 0, .int .i64 0] 44)) w' → Ints w' (.slice ca q.cap.length cc) q.cap) := hide fun w' hb => (unhide HV w' hb).cap
  have HAr : Hid (∀ w' O, Below (w.heap.size + 2) ((w.alloc (.cells #[.int .i64 q.n, .slice ta q.tail.length tc, .slice na q.next.length nc, .slice ca q.cap.length cc] 26)).alloc (.cells #[.slice none 0 0, .slice none 0 0, .int .i64 0] 44)) w' → Ints w' (.slice (some ⟨O, 0, none⟩) q.tail.length q.tail.length) (Sp.splitL q f d0 a jb) → Calls Try.prog 32 #[.agg #[.slice (some ⟨O, 0, none⟩) q.tail.length q.tail.length, .slice none 0 0, .int .i64 ((Sp.landK q : Nat) : Int)], .slice ca q.cap.length cc] w' fun e w'' => ∃ v, e = .returned v ∧ OwnA w'' w'.heap.size v (Sp.rimL (Sp.splitL q f d0 a jb) q.cap q.tail.length) ∧ Below w'.heap.size w' w'') := hide fun w' O hb hI => rmarcs_any (Sp.splitL q f d0 a jb) q.cap _ _ ((Sp.landK q : Nat) : Int) q.tail.length w' hI (unhide HCp w' hb) (Sp.splitL_len q f d0 a jb) hq.link.cp hq.link.ev (by have := hq.le; omega) (fun d hd => (hq.rng hs hd).1)
  have HFr : Hid (∀ w' v, ArcsI w' v (Sp.rimL (Sp.splitL q f d0 a jb) q.cap q.tail.length) → Calls Try.prog 31 #[.int .i64 (((Sp.landK q : Nat) : Int) + 1), v, .int .i64 (f : Int)] w' fun e w'' => ∃ G D, e = .returned (.slice (some ⟨G, 0, none⟩) (Sp.landK q + 1) (Sp.landK q + 1)) ∧ w'.heap.size ≤ G ∧ RowAt w'' G (Sp.landK q + 1) D ∧ Below w'.heap.size w' w'' ∧ Sp.Short 1152921504606846976 (Sp.rimL (Sp.splitL q f d0 a jb) q.cap q.tail.length) f (Sp.landK q + 1) D ∧ ∀ v, v < Sp.landK q + 1 → D v ≠ 1152921504606846976 → D v < 1152921504606846976) := hide fun w' v hA => by
    have h := from_any (Sp.landK q + 1) _ f v w' hA (hq.sndL hs) (hq.posL _ _) (by have := hq.flt hs; omega) (by have := hq.kle; omega)
    rwa [show ((Sp.landK q + 1 : Nat) : Int) = ((Sp.landK q : Nat) : Int) + 1 by omega] at h
  have HM := hide (show q.tail.length ≤ 48 from hq.le)
  clear hv' hq hs
  have hbz := Below.refl (w.heap.size + 2) ((w.alloc (.cells #[.int .i64 q.n, .slice ta q.tail.length tc, .slice na q.next.length nc, .slice ca q.cap.length cc] 26)).alloc (.cells #[.slice none 0 0, .slice none 0 0, .int .i64 0] 44))
  obtain ⟨x0, x1, x2, x3⟩ := unhide HFX _ hbz
  obtain ⟨P, hP⟩ : ∃ P : Ending → World → Prop, P = fun e w' => ∃ O G D, e = .returned (.tuple #[.agg #[.slice (some ⟨O, 0, none⟩) q.tail.length q.tail.length, .slice (some ⟨G, 0, none⟩) (Sp.landK q + 1) (Sp.landK q + 1), .int .i64 ((Sp.landK q : Nat) : Int)], .int .i64 0]) ∧ OwnI w' w.heap.size (.slice (some ⟨O, 0, none⟩) q.tail.length q.tail.length) (Sp.splitL q f d0 a jb) ∧ w.heap.size ≤ G ∧ RowAt w' G (Sp.landK q + 1) D ∧ Below w.heap.size w w' ∧ Sp.Short 1152921504606846976 (Sp.rimR (Sp.splitL q f d0 a jb) q.cap q.tail.length) f (Sp.landK q + 1) D ∧ ∀ v, v < Sp.landK q + 1 → D v ≠ 1152921504606846976 → D v < 1152921504606846976 := ⟨_, rfl⟩
  rw [← hP]
  have HP := hide hP
  clear hP
  go_enter Try.func18, Try.ntmps18
  go_wp2_with fail
  go_at_call 29
  refine (unhide HIs _ hbz).mono ?_
  rintro e wa ⟨rfl, hlwa⟩
  have hbwa := Below.trans hbz (hlwa.mono (by have h1 := Below.size hbz; have h2 := unhide HS2; omega))
  clear x0 x1 x2 x3
  obtain ⟨x0, x1, x2, x3⟩ := unhide HFX _ hbwa
  go_wp2_with fail
  go_at_call 29
  refine (unhide HIt _ hbwa).mono ?_
  rintro e wb ⟨rfl, hlwb⟩
  have hbwb := Below.trans hbwa (hlwb.mono (by have h1 := Below.size hbwa; have h2 := unhide HS2; omega))
  clear x0 x1 x2 x3
  obtain ⟨x0, x1, x2, x3⟩ := unhide HFX _ hbwb
  go_wp2_with fail
  go_at_call 30
  refine (unhide HSp _ hbwb).mono ?_
  rintro e wd ⟨O, rfl, hOd, hld⟩
  have hbwd := Below.trans hbwb (hld.mono (by have h1 := Below.size hbwb; have h2 := unhide HS2; omega))
  have hszd : w.heap.size + 2 ≤ wd.heap.size := (by have h1 := Below.size hbwd; have h2 := unhide HS2; omega)
  have HO0 := hide (own_base hOd (B' := w.heap.size + 2) (by have h1 := Below.size hbwb; have h2 := unhide HS2; omega))
  obtain ⟨wl, hwl⟩ : ∃ wl, wl = wd.alloc (.cells #[.slice (some ⟨O, 0, none⟩) q.tail.length q.tail.length, .slice none 0 0, .int .i64 ((Sp.landK q : Nat) : Int)] 44) := ⟨_, rfl⟩
  have hbdl : Below wd.heap.size wd wl := by rw [hwl]; exact (Below.refl _ _).alloc (Nat.le_refl _) _
  have hsl : wl.heap.size = wd.heap.size + 1 := by rw [hwl]; simp
  have h13 : wl.heap[wd.heap.size]? = some (.cells #[.slice (some ⟨O, 0, none⟩) q.tail.length q.tail.length, .slice none 0 0, .int .i64 ((Sp.landK q : Nat) : Int)] 44) := by rw [hwl]; exact heap_alloc_new _ _
  have hbwl := Below.trans hbwd (hbdl.mono hszd)
  have HL13 : Hid (∀ w', Below wl.heap.size wl w' → w'.heap[wd.heap.size]? = some (.cells #[.slice (some ⟨O, 0, none⟩) q.tail.length q.tail.length, .slice none 0 0, .int .i64 ((Sp.landK q : Nat) : Int)] 44)) := hide fun w' hb => (hb.block _ (by omega)).trans h13
  have HArl := hide (unhide HAr wl O hbwl (OwnI.ints (own_below hOd hbdl)))
  have HBd := hide hbwd
  have HBl := hide (And.intro hbwl (And.intro hbdl (show wd.heap.size + 1 ≤ wl.heap.size by omega)))
  have y0 : wl.cell? ⟨wd.heap.size, 0, none⟩ = some (.slice (some ⟨O, 0, none⟩) q.tail.length q.tail.length) := by rw [cell_of_row _ _ _ _ _ _ h13]; rfl
  have y1 : wl.cell? ⟨wd.heap.size, 1, none⟩ = some (.slice none 0 0) := by rw [cell_of_row _ _ _ _ _ _ h13]; rfl
  have y2 : wl.cell? ⟨wd.heap.size, 2, none⟩ = some (.int .i64 ((Sp.landK q : Nat) : Int)) := by rw [cell_of_row _ _ _ _ _ _ h13]; rfl
  clear x0 x1 x2 x3
  obtain ⟨x0, x1, x2, x3⟩ := unhide HFX _ hbwl
  clear hbz hlwa hbwa hlwb hbwb hld hbwd hbdl hsl h13 hbwl hOd HSp HAr HCp HIs HIt
  go_upto_region 9 with fail
  rw [← hwl]
  clear hwl
  go_wp2_with fail
  go_at_call 32
  refine (unhide HArl).mono ?_
  rintro e we ⟨av, rfl, hA, hle⟩
  have HAI := hide hA.arcs
  have HBe := hide (And.intro (Below.trans (unhide HBl).1 (hle.mono (by have := (unhide HBl).2.2; omega))) (And.intro hle (Nat.le_trans (unhide HBl).2.2 hle.size)))
  clear hA hle HArl x0 x1 x2 x3 y0 y1 y2
  go_wp2_with fail
  go_at_call 31
  refine (unhide HFr we av (unhide HAI)).mono ?_
  rintro e wf ⟨G, D, rfl, hG, hrow, hlf, hsh, hbd⟩
  have hle := (unhide HBe).2.1
  have hblf : Below wl.heap.size wl wf := hle.trans (hlf.mono hle.size)
  have e13 := unhide HL13 wf hblf
  have HDD := hide (And.intro hsh hbd)
  have hGd : wd.heap.size + 1 ≤ G := Nat.le_trans (unhide HBe).2.2 hG
  have y1 : wf.cell? ⟨wd.heap.size, 1, none⟩ = some (.slice none 0 0) := by rw [cell_of_row _ _ _ _ _ _ e13]; rfl
  have yf : ∀ k, wf.frozen? ⟨wd.heap.size, k, none⟩ = false := fun k => by simp only [World.frozen?, e13]; rfl
  have hbdf : Below wd.heap.size wd wf := (unhide HBl).2.1.trans (hblf.mono (unhide HBl).2.1.size)
  have HBf := hide (And.intro hbdf (And.intro hrow e13))
  have Hszd := hide hszd
  clear hle hblf hbdf hlf hsh hbd hrow e13 HFr HAI HBe HL13 HBl hszd
  go_upto_region 10 with fail
  have e14 : (wf.setCell ⟨wd.heap.size, 1, none⟩ (.slice (some ⟨G, 0, none⟩) (Sp.landK q + 1) (Sp.landK q + 1))).heap[wd.heap.size]? = some (.cells #[.slice (some ⟨O, 0, none⟩) q.tail.length q.tail.length, .slice (some ⟨G, 0, none⟩) (Sp.landK q + 1) (Sp.landK q + 1), .int .i64 ((Sp.landK q : Nat) : Int)] 44) := by
    simp only [World.setCell, Array.getElem?_modify, if_pos, (unhide HBf).2.2]; rfl
  have hbdz : Below wd.heap.size wd (wf.setCell ⟨wd.heap.size, 1, none⟩ (.slice (some ⟨G, 0, none⟩) (Sp.landK q + 1) (Sp.landK q + 1))) := (unhide HBf).1.setCell (p := ⟨wd.heap.size, 1, none⟩) (Nat.le_refl _) _
  have hrz : RowAt (wf.setCell ⟨wd.heap.size, 1, none⟩ (.slice (some ⟨G, 0, none⟩) (Sp.landK q + 1) (Sp.landK q + 1))) G (Sp.landK q + 1) D := (unhide HBf).2.1.set_ne (by omega) _ _ _
  generalize wf.setCell ⟨wd.heap.size, 1, none⟩ (.slice (some ⟨G, 0, none⟩) (Sp.landK q + 1) (Sp.landK q + 1)) = wz at *
  have hbwd : Below (w.heap.size + 2) ((w.alloc (.cells #[.int .i64 q.n, .slice ta q.tail.length tc, .slice na q.next.length nc, .slice ca q.cap.length cc] 26)).alloc (.cells #[.slice none 0 0, .slice none 0 0, .int .i64 0] 44)) wd := unhide HBd
  have HB := hide (Below.trans hbwd (hbdz.mono (unhide Hszd)))
  have HOz := hide (own_below (unhide HO0) hbdz)
  have HRz := hide hrz
  have y0 : wz.cell? ⟨wd.heap.size, 0, none⟩ = some (.slice (some ⟨O, 0, none⟩) q.tail.length q.tail.length) := by rw [cell_of_row _ _ _ _ _ _ e14]; rfl
  have y1 : wz.cell? ⟨wd.heap.size, 1, none⟩ = some (.slice (some ⟨G, 0, none⟩) (Sp.landK q + 1) (Sp.landK q + 1)) := by rw [cell_of_row _ _ _ _ _ _ e14]; rfl
  have y2 : wz.cell? ⟨wd.heap.size, 2, none⟩ = some (.int .i64 ((Sp.landK q : Nat) : Int)) := by rw [cell_of_row _ _ _ _ _ _ e14]; rfl
  obtain ⟨z0, z1, z2, zf⟩ := unhide HGX _ (unhide HB)
  have HZ : Hid (∀ w', Below (w.heap.size + 2) ((w.alloc (.cells #[.int .i64 q.n, .slice ta q.tail.length tc, .slice na q.next.length nc, .slice ca q.cap.length cc] 26)).alloc (.cells #[.slice none 0 0, .slice none 0 0, .int .i64 0] 44)) w' → w'.heap[w.heap.size + 1]? = some (.cells #[.slice none 0 0, .slice none 0 0, .int .i64 0] 44)) := hide fun w' hb => survey_z w _ _ _ _ w' hb
  have z1' := fun v : Value => show (wz.setCell ⟨w.heap.size + 1, 0, none⟩ v).cell? ⟨w.heap.size + 1, 1, none⟩ = some (.slice none 0 0) by rw [cell_set_ne (by omega)]; exact z1
  have z2' := fun v v' : Value => show ((wz.setCell ⟨w.heap.size + 1, 0, none⟩ v).setCell ⟨w.heap.size + 1, 1, none⟩ v').cell? ⟨w.heap.size + 1, 2, none⟩ = some (.int .i64 0) by rw [cell_set_ne (by omega), cell_set_ne (by omega)]; exact z2
  clear e14 hbdz hrz hbwd
  go_wp2
  have hOF : OwnI ((((wz.setCell ⟨w.heap.size + 1, 0, none⟩ (.slice (some ⟨O, 0, none⟩) q.tail.length q.tail.length)).setCell ⟨w.heap.size + 1, 1, none⟩ (.slice (some ⟨G, 0, none⟩) (Sp.landK q + 1) (Sp.landK q + 1))).setCell ⟨w.heap.size + 1, 2, none⟩ (.int .i64 ((Sp.landK q : Nat) : Int)))) (w.heap.size + 2) (.slice (some ⟨O, 0, none⟩) q.tail.length q.tail.length) (Sp.splitL q f d0 a jb) := own_store (own_store (own_store (unhide HOz) (Nat.lt_succ_self _) _ _) (Nat.lt_succ_self _) _ _) (Nat.lt_succ_self _) _ _
  have hRF : RowAt ((((wz.setCell ⟨w.heap.size + 1, 0, none⟩ (.slice (some ⟨O, 0, none⟩) q.tail.length q.tail.length)).setCell ⟨w.heap.size + 1, 1, none⟩ (.slice (some ⟨G, 0, none⟩) (Sp.landK q + 1) (Sp.landK q + 1))).setCell ⟨w.heap.size + 1, 2, none⟩ (.int .i64 ((Sp.landK q : Nat) : Int)))) G (Sp.landK q + 1) D := (((unhide HRz).set_ne (by have := unhide Hszd; omega) _ _ _).set_ne (by have := unhide Hszd; omega) _ _ _).set_ne (by have := unhide Hszd; omega) _ _ _
  have hfin : ((((wz.setCell ⟨w.heap.size + 1, 0, none⟩ (.slice (some ⟨O, 0, none⟩) q.tail.length q.tail.length)).setCell ⟨w.heap.size + 1, 1, none⟩ (.slice (some ⟨G, 0, none⟩) (Sp.landK q + 1) (Sp.landK q + 1))).setCell ⟨w.heap.size + 1, 2, none⟩ (.int .i64 ((Sp.landK q : Nat) : Int)))).heap[w.heap.size + 1]? = some (.cells #[.slice (some ⟨O, 0, none⟩) q.tail.length q.tail.length, .slice (some ⟨G, 0, none⟩) (Sp.landK q + 1) (Sp.landK q + 1), .int .i64 ((Sp.landK q : Nat) : Int)] 44) := land_set (unhide HZ _ (unhide HB)) _ _ _
  have hbf : Below w.heap.size w ((((wz.setCell ⟨w.heap.size + 1, 0, none⟩ (.slice (some ⟨O, 0, none⟩) q.tail.length q.tail.length)).setCell ⟨w.heap.size + 1, 1, none⟩ (.slice (some ⟨G, 0, none⟩) (Sp.landK q + 1) (Sp.landK q + 1))).setCell ⟨w.heap.size + 1, 2, none⟩ (.int .i64 ((Sp.landK q : Nat) : Int)))) := ((((unhide HW _ (unhide HB)).setCell (p := ⟨w.heap.size + 1, 0, none⟩) (Nat.le_succ _) _).setCell (p := ⟨w.heap.size + 1, 1, none⟩) (Nat.le_succ _) _).setCell (p := ⟨w.heap.size + 1, 2, none⟩) (Nat.le_succ _) _)
  generalize (((wz.setCell ⟨w.heap.size + 1, 0, none⟩ (.slice (some ⟨O, 0, none⟩) q.tail.length q.tail.length)).setCell ⟨w.heap.size + 1, 1, none⟩ (.slice (some ⟨G, 0, none⟩) (Sp.landK q + 1) (Sp.landK q + 1))).setCell ⟨w.heap.size + 1, 2, none⟩ (.int .i64 ((Sp.landK q : Nat) : Int))) = WF at *
  have r0 : WF.cell? ⟨w.heap.size + 1, 0, none⟩ = some (.slice (some ⟨O, 0, none⟩) q.tail.length q.tail.length) := by rw [cell_of_row _ _ _ _ _ _ hfin]; rfl
  have r1 : WF.cell? ⟨w.heap.size + 1, 1, none⟩ = some (.slice (some ⟨G, 0, none⟩) (Sp.landK q + 1) (Sp.landK q + 1)) := by rw [cell_of_row _ _ _ _ _ _ hfin]; rfl
  have r2 : WF.cell? ⟨w.heap.size + 1, 2, none⟩ = some (.int .i64 ((Sp.landK q : Nat) : Int)) := by rw [cell_of_row _ _ _ _ _ _ hfin]; rfl
  refine bodyPost_ret (v := .tuple #[.agg #[.slice (some ⟨O, 0, none⟩) q.tail.length q.tail.length, .slice (some ⟨G, 0, none⟩) (Sp.landK q + 1) (Sp.landK q + 1), .int .i64 ((Sp.landK q : Nat) : Int)], .int .i64 0]) (by simp [results, Try.results18, go_sem, r0, r1, r2]) rfl ?_
  rw [unhide HP]
  exact ⟨O, G, D, rfl, own_base hOF (by omega), by have := unhide Hszd; omega, hRF, hbf, Sp.rim_short (unhide HDD).1, (unhide HDD).2⟩
end Go.Proofs.Ytoegjnolccabjab


