/- What the proof needs, part 18. -/
import Derived.Test.YtoegjnolccabjaaL17
/- rim: Heights, Flow. -/
namespace Go.Proofs.Ytoegjnolccabjaa
open Go Go.RowKit

/-- The error of two vertices. -/
noncomputable def Sp.rimE (q : Sp.Net) (s t : Int) : Int := if ¬ ((0 ≤ s ∧ s < q.n) ∧ (0 ≤ t ∧ t < q.n)) then 3 else if s = t then 9 else if (Sp.shared q s t).2 = true then 0 else 10
theorem Sp.wk_nn {L : List Sp.Arc} {s : Nat} (hp : ∀ a ∈ L, 0 ≤ a.l) : ∀ m v x, Sp.Wk L s m v x → 0 ≤ x
  | 0, v, x, hw => by
    obtain ⟨_, rfl⟩ := hw
    exact Int.le_refl _
  | m + 1, v, x, ⟨a, ha, _, hw⟩ => by
    have h1 := Sp.wk_nn hp m a.f _ hw
    have h2 := hp a ha
    omega
theorem Sp.short_nn {L : List Sp.Arc} {s n : Nat} {D : Nat → Int} (h : Sp.Short 1152921504606846976 L s n D) (hp : ∀ a ∈ L, 0 ≤ a.l) {v : Nat} (hv : v < n) : 0 ≤ D v := by
  by_cases e : D v = 1152921504606846976
  · rw [e]; decide
  · obtain ⟨m, hm⟩ := h.att v hv e
    exact Sp.wk_nn hp m v _ hm
theorem survey_err (q : Sp.Net) (v tv nv cv : Value) (s t : Int) (w : World) (hv : NetI w v q tv nv cv) (hq : Sp.RimQ q) (he : Sp.rimE q s t ≠ 0) :
    Calls Try.prog 27 #[v, .int .i64 s, .int .i64 t] w fun e w' => e = .returned (.tuple #[.agg #[.slice none 0 0, .slice none 0 0, .int .i64 0], .int .i64 (Sp.rimE q s t)]) ∧ Below w.heap.size w w' := by
  by_cases h0 : 0 ≤ s ∧ s < q.n
  · by_cases h1 : 0 ≤ t ∧ t < q.n
    · by_cases hst : s = t
      · rw [show Sp.rimE q s t = 9 by unfold Sp.rimE; rw [if_neg (fun hh => hh ⟨h0, h1⟩), if_pos hst]]
        exact survey_bad2 q v tv nv cv s t w hv h0 h1 hst
      · have hsh : (Sp.shared q s t).2 = false := by
          cases hh : (Sp.shared q s t).2 with
          | false => rfl
          | true => exact absurd (by unfold Sp.rimE; rw [if_neg (fun hh => hh ⟨h0, h1⟩), if_neg hst, if_pos hh]) he
        rw [show Sp.rimE q s t = 10 by unfold Sp.rimE; rw [if_neg (fun hh => hh ⟨h0, h1⟩), if_neg hst, if_neg (by rw [hsh]; decide)]]
        exact survey_bad3 q v tv nv cv s t w hv h0 h1 hst hq.link hq.chk (by have := hq.n0; omega) (by have := hq.n1; omega) hsh
    · rw [show Sp.rimE q s t = 3 by unfold Sp.rimE; rw [if_pos (fun hh => h1 hh.2)]]
      exact survey_bad1 q v tv nv cv s t w hv h0 h1
  · rw [show Sp.rimE q s t = 3 by unfold Sp.rimE; rw [if_pos (fun hh => h0 hh.1)]]
    exact survey_bad0 q v tv nv cv s t w hv h0
set_option maxRecDepth 100000 in
set_option maxHeartbeats 4000000 in
theorem rmheights_err (q : Sp.Net) (v tv nv cv : Value) (s t : Int) (w : World) (hv : NetI w v q tv nv cv) (hq : Sp.RimQ q) (he : Sp.rimE q s t ≠ 0) :
    Calls Try.prog 12 #[v, .int .i64 s, .int .i64 t] w fun e w' => e = .returned (.tuple #[.slice none 0 0, .int .i64 (Sp.rimE q s t)]) ∧ Below w.heap.size w w' := by
  obtain ⟨rfl, h1, h2, h3⟩ := hv
  obtain ⟨ta, tc, rfl, -, -⟩ := h1.form
  obtain ⟨na, nc, rfl, -, -⟩ := h2.form
  obtain ⟨ca, cc, rfl, -, -⟩ := h3.form
  obtain ⟨W1, hW1⟩ : ∃ W1, W1 = w.alloc (.cells #[.int .i64 q.n, .slice ta q.tail.length tc, .slice na q.next.length nc, .slice ca q.cap.length cc] 25) := ⟨_, rfl⟩
  have hb1 : Below w.heap.size w W1 := by rw [hW1]; exact (Below.refl _ w).alloc (Nat.le_refl _) _
  have hs1 : W1.heap.size = w.heap.size + 1 := by rw [hW1]; simp
  have hv1 : NetI W1 (.agg #[.int .i64 q.n, .slice ta q.tail.length tc, .slice na q.next.length nc, .slice ca q.cap.length cc]) q (.slice ta q.tail.length tc) (.slice na q.next.length nc) (.slice ca q.cap.length cc) := NetI.below ⟨rfl, h1, h2, h3⟩ hb1
  have e1 : W1.heap[w.heap.size]? = some (.cells #[.int .i64 q.n, .slice ta q.tail.length tc, .slice na q.next.length nc, .slice ca q.cap.length cc] 25) := by rw [hW1]; exact heap_alloc_new _ _
  have x0 : W1.cell? ⟨w.heap.size, 0, none⟩ = some (.int .i64 q.n) := by rw [cell_of_row _ _ _ _ _ _ e1]; rfl
  have x1 : W1.cell? ⟨w.heap.size, 1, none⟩ = some (.slice ta q.tail.length tc) := by rw [cell_of_row _ _ _ _ _ _ e1]; rfl
  have x2 : W1.cell? ⟨w.heap.size, 2, none⟩ = some (.slice na q.next.length nc) := by rw [cell_of_row _ _ _ _ _ _ e1]; rfl
  have x3 : W1.cell? ⟨w.heap.size, 3, none⟩ = some (.slice ca q.cap.length cc) := by rw [cell_of_row _ _ _ _ _ _ e1]; rfl
  have HC := hide (survey_err q _ _ _ _ s t W1 hv1 hq he)
  have HB1 := hide (And.intro hb1 (show w.heap.size ≤ W1.heap.size by omega))
  obtain ⟨P, hP⟩ : ∃ P : Ending → World → Prop, P = fun e w' => e = .returned (.tuple #[.slice none 0 0, .int .i64 (Sp.rimE q s t)]) ∧ Below w.heap.size w w' := ⟨_, rfl⟩
  rw [← hP]
  have HP := hide hP
  clear hP e1 hv1 hs1 hb1 h1 h2 h3
  go_enter Try.func12, Try.ntmps12
  go_upto_region 1 with fail
  rw [← hW1]
  clear hW1
  go_wp2_with fail
  go_at_call 27
  refine (unhide HC).mono ?_
  clear x0 x1 x2 x3
  rintro e w2 ⟨rfl, hb2⟩
  have HB := hide (And.intro ((unhide HB1).1.trans (hb2.mono (unhide HB1).2)) (show w.heap.size ≤ w2.heap.size from Nat.le_trans (unhide HB1).2 hb2.size))
  have heb : (Sp.rimE q s t == 0) = false := beq_eq_false_iff_ne.2 he
  clear hb2 HB1 HC hq he
  generalize Sp.rimE q s t = E at *
  go_wp2
  rw [unhide HP]
  exact ⟨rfl, (unhide HB).1.alloc (unhide HB).2 _⟩
set_option maxRecDepth 100000 in
set_option maxHeartbeats 4000000 in
theorem rmflow_err (q : Sp.Net) (v tv nv cv : Value) (s t : Int) (w : World) (hv : NetI w v q tv nv cv) (hq : Sp.RimQ q) (he : Sp.rimE q s t ≠ 0) :
    Calls Try.prog 14 #[v, .int .i64 s, .int .i64 t] w fun e w' => e = .returned (.tuple #[.slice none 0 0, .int .i64 0, .int .i64 (Sp.rimE q s t)]) ∧ Below w.heap.size w w' := by
  obtain ⟨rfl, h1, h2, h3⟩ := hv
  obtain ⟨ta, tc, rfl, -, -⟩ := h1.form
  obtain ⟨na, nc, rfl, -, -⟩ := h2.form
  obtain ⟨ca, cc, rfl, -, -⟩ := h3.form
  obtain ⟨W1, hW1⟩ : ∃ W1, W1 = w.alloc (.cells #[.int .i64 q.n, .slice ta q.tail.length tc, .slice na q.next.length nc, .slice ca q.cap.length cc] 25) := ⟨_, rfl⟩
  have hb1 : Below w.heap.size w W1 := by rw [hW1]; exact (Below.refl _ w).alloc (Nat.le_refl _) _
  have hs1 : W1.heap.size = w.heap.size + 1 := by rw [hW1]; simp
  have hv1 : NetI W1 (.agg #[.int .i64 q.n, .slice ta q.tail.length tc, .slice na q.next.length nc, .slice ca q.cap.length cc]) q (.slice ta q.tail.length tc) (.slice na q.next.length nc) (.slice ca q.cap.length cc) := NetI.below ⟨rfl, h1, h2, h3⟩ hb1
  have e1 : W1.heap[w.heap.size]? = some (.cells #[.int .i64 q.n, .slice ta q.tail.length tc, .slice na q.next.length nc, .slice ca q.cap.length cc] 25) := by rw [hW1]; exact heap_alloc_new _ _
  have x0 : W1.cell? ⟨w.heap.size, 0, none⟩ = some (.int .i64 q.n) := by rw [cell_of_row _ _ _ _ _ _ e1]; rfl
  have x1 : W1.cell? ⟨w.heap.size, 1, none⟩ = some (.slice ta q.tail.length tc) := by rw [cell_of_row _ _ _ _ _ _ e1]; rfl
  have x2 : W1.cell? ⟨w.heap.size, 2, none⟩ = some (.slice na q.next.length nc) := by rw [cell_of_row _ _ _ _ _ _ e1]; rfl
  have x3 : W1.cell? ⟨w.heap.size, 3, none⟩ = some (.slice ca q.cap.length cc) := by rw [cell_of_row _ _ _ _ _ _ e1]; rfl
  have HC := hide (survey_err q _ _ _ _ s t W1 hv1 hq he)
  have HB1 := hide (And.intro hb1 (show w.heap.size ≤ W1.heap.size by omega))
  obtain ⟨P, hP⟩ : ∃ P : Ending → World → Prop, P = fun e w' => e = .returned (.tuple #[.slice none 0 0, .int .i64 0, .int .i64 (Sp.rimE q s t)]) ∧ Below w.heap.size w w' := ⟨_, rfl⟩
  rw [← hP]
  have HP := hide hP
  clear hP e1 hv1 hs1 hb1 h1 h2 h3
  go_enter Try.func14, Try.ntmps14
  go_upto_region 1 with fail
  rw [← hW1]
  clear hW1
  go_wp2_with fail
  go_at_call 27
  refine (unhide HC).mono ?_
  clear x0 x1 x2 x3
  rintro e w2 ⟨rfl, hb2⟩
  have HB := hide (And.intro ((unhide HB1).1.trans (hb2.mono (unhide HB1).2)) (show w.heap.size ≤ w2.heap.size from Nat.le_trans (unhide HB1).2 hb2.size))
  have heb : (Sp.rimE q s t == 0) = false := beq_eq_false_iff_ne.2 he
  clear hb2 HB1 HC hq he
  generalize Sp.rimE q s t = E at *
  go_wp2
  rw [unhide HP]
  go_ret3
  exact ⟨rfl, (unhide HB).1.alloc (unhide HB).2 _⟩
set_option maxRecDepth 100000 in
set_option maxHeartbeats 4000000 in
theorem rmheights_yes (q : Sp.Net) (v tv nv cv : Value) (s t : Int) (w : World) (hv : NetI w v q tv nv cv) (hq : Sp.RimQ q) (f d0 a jb : Nat) (h0 : 0 ≤ s ∧ s < q.n) (h1' : 0 ≤ t ∧ t < q.n) (hst : s ≠ t) (hs : Sp.SplitQ q s t f d0 a jb) :
    Calls Try.prog 12 #[v, .int .i64 s, .int .i64 t] w fun e w' => ∃ G D, e = .returned (.tuple #[.slice (some ⟨G, 0, none⟩) (Sp.landK q + 1) (Sp.landK q + 1), .int .i64 0]) ∧ w.heap.size ≤ G ∧ RowAt w' G (Sp.landK q + 1) D ∧ Below w.heap.size w w' ∧ Sp.Short 1152921504606846976 (Sp.rimR (Sp.splitL q f d0 a jb) q.cap q.tail.length) f (Sp.landK q + 1) D ∧ ∀ v, v < Sp.landK q + 1 → D v ≠ 1152921504606846976 → D v < 1152921504606846976 := by
  obtain ⟨rfl, h1, h2, h3⟩ := hv
  obtain ⟨ta, tc, rfl, -, -⟩ := h1.form
  obtain ⟨na, nc, rfl, -, -⟩ := h2.form
  obtain ⟨ca, cc, rfl, -, -⟩ := h3.form
  obtain ⟨W1, hW1⟩ : ∃ W1, W1 = w.alloc (.cells #[.int .i64 q.n, .slice ta q.tail.length tc, .slice na q.next.length nc, .slice ca q.cap.length cc] 25) := ⟨_, rfl⟩
  have hb1 : Below w.heap.size w W1 := by rw [hW1]; exact (Below.refl _ w).alloc (Nat.le_refl _) _
  have hs1 : W1.heap.size = w.heap.size + 1 := by rw [hW1]; simp
  have hv1 : NetI W1 (.agg #[.int .i64 q.n, .slice ta q.tail.length tc, .slice na q.next.length nc, .slice ca q.cap.length cc]) q (.slice ta q.tail.length tc) (.slice na q.next.length nc) (.slice ca q.cap.length cc) := NetI.below ⟨rfl, h1, h2, h3⟩ hb1
  have e1 : W1.heap[w.heap.size]? = some (.cells #[.int .i64 q.n, .slice ta q.tail.length tc, .slice na q.next.length nc, .slice ca q.cap.length cc] 25) := by rw [hW1]; exact heap_alloc_new _ _
  have x0 : W1.cell? ⟨w.heap.size, 0, none⟩ = some (.int .i64 q.n) := by rw [cell_of_row _ _ _ _ _ _ e1]; rfl
  have x1 : W1.cell? ⟨w.heap.size, 1, none⟩ = some (.slice ta q.tail.length tc) := by rw [cell_of_row _ _ _ _ _ _ e1]; rfl
  have x2 : W1.cell? ⟨w.heap.size, 2, none⟩ = some (.slice na q.next.length nc) := by rw [cell_of_row _ _ _ _ _ _ e1]; rfl
  have x3 : W1.cell? ⟨w.heap.size, 3, none⟩ = some (.slice ca q.cap.length cc) := by rw [cell_of_row _ _ _ _ _ _ e1]; rfl
  have HC := hide (survey_yes q _ _ _ _ s t W1 hv1 f d0 a jb h0 h1' hst hq hs)
  have HB1 := hide (And.intro hb1 (show w.heap.size ≤ W1.heap.size by omega))
  obtain ⟨P, hP⟩ : ∃ P : Ending → World → Prop, P = fun e w' => ∃ G D, e = .returned (.tuple #[.slice (some ⟨G, 0, none⟩) (Sp.landK q + 1) (Sp.landK q + 1), .int .i64 0]) ∧ w.heap.size ≤ G ∧ RowAt w' G (Sp.landK q + 1) D ∧ Below w.heap.size w w' ∧ Sp.Short 1152921504606846976 (Sp.rimR (Sp.splitL q f d0 a jb) q.cap q.tail.length) f (Sp.landK q + 1) D ∧ ∀ v, v < Sp.landK q + 1 → D v ≠ 1152921504606846976 → D v < 1152921504606846976 := ⟨_, rfl⟩
  rw [← hP]
  have HP := hide hP
  clear hP e1 hv1 hs1 hb1 h1 h2 h3
  go_enter Try.func12, Try.ntmps12
  go_upto_region 1 with fail
  rw [← hW1]
  clear hW1
  go_wp2_with fail
  go_at_call 27
  refine (unhide HC).mono ?_
  clear x0 x1 x2 x3
  rintro e w2 ⟨O, G, D, rfl, hO, hG, hrow, hb2, hD⟩
  have HB := hide (And.intro ((unhide HB1).1.trans (hb2.mono (unhide HB1).2)) (And.intro (show w.heap.size ≤ w2.heap.size from Nat.le_trans (unhide HB1).2 hb2.size) (show w.heap.size ≤ G from Nat.le_trans (unhide HB1).2 hG)))
  have HR := hide (And.intro hrow hD)
  clear hb2 HB1 HC hq hs hO hG hrow hD
  go_wp2
  rw [unhide HP]
  exact ⟨G, D, rfl, (unhide HB).2.2, (unhide HR).1.alloc _, (unhide HB).1.alloc (unhide HB).2.1 _, (unhide HR).2⟩
set_option maxRecDepth 100000 in
set_option maxHeartbeats 8000000 in
theorem rmflow_yes (q : Sp.Net) (v tv nv cv : Value) (s t : Int) (w : World) (hv : NetI w v q tv nv cv) (hq : Sp.RimQ q) (f d0 a jb : Nat) (h0 : 0 ≤ s ∧ s < q.n) (h1' : 0 ≤ t ∧ t < q.n) (hst : s ≠ t) (hs : Sp.SplitQ q s t f d0 a jb) :
    Calls Try.prog 14 #[v, .int .i64 s, .int .i64 t] w fun e w' => ∃ lv D, e = .returned (.tuple #[lv, .int .i64 (D (Sp.landK q)), .int .i64 0]) ∧ OwnI w' w.heap.size lv ((List.range q.tail.length).map (Sp.rise (Sp.splitL q f d0 a jb) ((List.range (Sp.landK q + 1)).map D))) ∧ Below w.heap.size w w' ∧ Sp.Short 1152921504606846976 (Sp.rimR (Sp.splitL q f d0 a jb) q.cap q.tail.length) f (Sp.landK q + 1) D ∧ ∀ v, v < Sp.landK q + 1 → D v ≠ 1152921504606846976 → D v < 1152921504606846976 := by
  have HEa : Hid (∀ w' O G D, OwnI w' 0 (.slice (some ⟨O, 0, none⟩) q.tail.length q.tail.length) (Sp.splitL q f d0 a jb) → RowAt w' G (Sp.landK q + 1) D → (Sp.Short 1152921504606846976 (Sp.rimR (Sp.splitL q f d0 a jb) q.cap q.tail.length) f (Sp.landK q + 1) D ∧ ∀ v, v < Sp.landK q + 1 → D v ≠ 1152921504606846976 → D v < 1152921504606846976) → Calls Try.prog 29 #[.agg #[.slice (some ⟨O, 0, none⟩) q.tail.length q.tail.length, .slice (some ⟨G, 0, none⟩) (Sp.landK q + 1) (Sp.landK q + 1), .int .i64 ((Sp.landK q : Nat) : Int)], .func (.func 30) #[.agg #[.slice (some ⟨O, 0, none⟩) q.tail.length q.tail.length, .slice (some ⟨G, 0, none⟩) (Sp.landK q + 1) (Sp.landK q + 1), .int .i64 ((Sp.landK q : Nat) : Int)]] #[]] w' fun e w'' => ∃ lv, e = .returned lv ∧ OwnI w'' w'.heap.size lv ((List.range q.tail.length).map (Sp.rise (Sp.splitL q f d0 a jb) ((List.range (Sp.landK q + 1)).map D))) ∧ Below w'.heap.size w' w'') := hide fun w' O G D h1 h2 h3 => by
    refine rmeach_any (Sp.splitL q f d0 a jb) ((List.range (Sp.landK q + 1)).map D) _ _ ((Sp.landK q : Nat) : Int) q.tail.length (Sp.landK q + 1) w' h1.ints (h2.ints (by have := hq.kle; omega)) (Sp.splitL_len q f d0 a jb) (by simp) hq.link.ev (by have := hq.le; omega) (fun d hd => hq.rng hs hd) (fun j hj => ?_)
    rw [List.getD_eq_getElem?_getD, List.getElem?_map, List.getElem?_range hj]
    have h4 := Sp.short_nn h3.1 (hq.posR _ _) hj
    refine ⟨h4, ?_⟩
    show D j ≤ _
    by_cases e : D j = 1152921504606846976
    · omega
    · have := h3.2 j hj e; omega
  obtain ⟨rfl, h1, h2, h3⟩ := hv
  obtain ⟨ta, tc, rfl, -, -⟩ := h1.form
  obtain ⟨na, nc, rfl, -, -⟩ := h2.form
  obtain ⟨ca, cc, rfl, -, -⟩ := h3.form
  obtain ⟨W1, hW1⟩ : ∃ W1, W1 = w.alloc (.cells #[.int .i64 q.n, .slice ta q.tail.length tc, .slice na q.next.length nc, .slice ca q.cap.length cc] 25) := ⟨_, rfl⟩
  have hb1 : Below w.heap.size w W1 := by rw [hW1]; exact (Below.refl _ w).alloc (Nat.le_refl _) _
  have hs1 : W1.heap.size = w.heap.size + 1 := by rw [hW1]; simp
  have hv1 : NetI W1 (.agg #[.int .i64 q.n, .slice ta q.tail.length tc, .slice na q.next.length nc, .slice ca q.cap.length cc]) q (.slice ta q.tail.length tc) (.slice na q.next.length nc) (.slice ca q.cap.length cc) := NetI.below ⟨rfl, h1, h2, h3⟩ hb1
  have e1 : W1.heap[w.heap.size]? = some (.cells #[.int .i64 q.n, .slice ta q.tail.length tc, .slice na q.next.length nc, .slice ca q.cap.length cc] 25) := by rw [hW1]; exact heap_alloc_new _ _
  have x0 : W1.cell? ⟨w.heap.size, 0, none⟩ = some (.int .i64 q.n) := by rw [cell_of_row _ _ _ _ _ _ e1]; rfl
  have x1 : W1.cell? ⟨w.heap.size, 1, none⟩ = some (.slice ta q.tail.length tc) := by rw [cell_of_row _ _ _ _ _ _ e1]; rfl
  have x2 : W1.cell? ⟨w.heap.size, 2, none⟩ = some (.slice na q.next.length nc) := by rw [cell_of_row _ _ _ _ _ _ e1]; rfl
  have x3 : W1.cell? ⟨w.heap.size, 3, none⟩ = some (.slice ca q.cap.length cc) := by rw [cell_of_row _ _ _ _ _ _ e1]; rfl
  have HC := hide (survey_yes q _ _ _ _ s t W1 hv1 f d0 a jb h0 h1' hst hq hs)
  have HB1 := hide (And.intro hb1 (show w.heap.size ≤ W1.heap.size by omega))
  obtain ⟨P, hP⟩ : ∃ P : Ending → World → Prop, P = fun e w' => ∃ lv D, e = .returned (.tuple #[lv, .int .i64 (D (Sp.landK q)), .int .i64 0]) ∧ OwnI w' w.heap.size lv ((List.range q.tail.length).map (Sp.rise (Sp.splitL q f d0 a jb) ((List.range (Sp.landK q + 1)).map D))) ∧ Below w.heap.size w w' ∧ Sp.Short 1152921504606846976 (Sp.rimR (Sp.splitL q f d0 a jb) q.cap q.tail.length) f (Sp.landK q + 1) D ∧ ∀ v, v < Sp.landK q + 1 → D v ≠ 1152921504606846976 → D v < 1152921504606846976 := ⟨_, rfl⟩
  rw [← hP]
  have HP := hide hP
  clear hP e1 hv1 hs1 hb1 h1 h2 h3
  go_enter Try.func14, Try.ntmps14
  go_upto_region 1 with fail
  rw [← hW1]
  clear hW1
  go_wp2_with fail
  go_at_call 27
  refine (unhide HC).mono ?_
  clear x0 x1 x2 x3
  rintro e w2 ⟨O, G, D, rfl, hO, hG, hrow, hb2, hD⟩
  have hw2 : w.heap.size ≤ w2.heap.size := Nat.le_trans (unhide HB1).2 hb2.size
  obtain ⟨W2, hW2⟩ : ∃ W2, W2 = w2.alloc (.cells #[.slice (some ⟨O, 0, none⟩) q.tail.length q.tail.length, .slice (some ⟨G, 0, none⟩) (Sp.landK q + 1) (Sp.landK q + 1), .int .i64 ((Sp.landK q : Nat) : Int)] 54) := ⟨_, rfl⟩
  have hb22 : Below w2.heap.size w2 W2 := by rw [hW2]; exact (Below.refl _ _).alloc (Nat.le_refl _) _
  have hs2 : W2.heap.size = w2.heap.size + 1 := by rw [hW2]; simp
  have e9 : W2.heap[w2.heap.size]? = some (.cells #[.slice (some ⟨O, 0, none⟩) q.tail.length q.tail.length, .slice (some ⟨G, 0, none⟩) (Sp.landK q + 1) (Sp.landK q + 1), .int .i64 ((Sp.landK q : Nat) : Int)] 54) := by rw [hW2]; exact heap_alloc_new _ _
  have HS9 : Hid (∀ w', Below W2.heap.size W2 w' → w'.cell? ⟨w2.heap.size, 0, none⟩ = some (.slice (some ⟨O, 0, none⟩) q.tail.length q.tail.length) ∧ w'.cell? ⟨w2.heap.size, 1, none⟩ = some (.slice (some ⟨G, 0, none⟩) (Sp.landK q + 1) (Sp.landK q + 1)) ∧ w'.cell? ⟨w2.heap.size, 2, none⟩ = some (.int .i64 ((Sp.landK q : Nat) : Int)) ∧ w'.cell? ⟨G, Sp.landK q, none⟩ = some (.int .i64 (D (Sp.landK q)))) := hide fun w' hb => by
    have e := (hb.block w2.heap.size (by omega)).trans e9
    refine ⟨?_, ?_, ?_, ((hrow.below hb22).below hb).cell (Nat.lt_succ_self _)⟩ <;> rw [cell_of_row _ _ _ _ _ _ e] <;> rfl
  have HE : Hid (∀ w', Below W2.heap.size W2 w' → Calls Try.prog 29 #[.agg #[.slice (some ⟨O, 0, none⟩) q.tail.length q.tail.length, .slice (some ⟨G, 0, none⟩) (Sp.landK q + 1) (Sp.landK q + 1), .int .i64 ((Sp.landK q : Nat) : Int)], .func (.func 30) #[.agg #[.slice (some ⟨O, 0, none⟩) q.tail.length q.tail.length, .slice (some ⟨G, 0, none⟩) (Sp.landK q + 1) (Sp.landK q + 1), .int .i64 ((Sp.landK q : Nat) : Int)]] #[]] w' fun e w'' => ∃ lv, e = .returned lv ∧ OwnI w'' w'.heap.size lv ((List.range q.tail.length).map (Sp.rise (Sp.splitL q f d0 a jb) ((List.range (Sp.landK q + 1)).map D))) ∧ Below w'.heap.size w' w'') := hide fun w' hb => unhide HEa w' O G D (own_below (own_below (own_base hO (Nat.zero_le _)) hb22) hb) ((hrow.below hb22).below hb) hD
  have HB2 := hide (((unhide HB1).1.trans (hb2.mono (unhide HB1).2)).trans (hb22.mono hw2))
  have HW2 : Hid (w2.heap.size + 1 = W2.heap.size ∧ w.heap.size ≤ W2.heap.size) := hide ⟨hs2.symm, by omega⟩
  have HD := hide hD
  have hKI : ((Sp.landK q : Nat) : Int) < ((Sp.landK q : Nat) : Int) + 1 := by omega
  clear hb2 HB1 HC hq hs hO hG hrow hD hb22 hs2 e9 HEa hw2
  go_upto_region 4 with fail
  rw [← hW2]
  clear hW2
  have hbq := (Below.refl W2.heap.size W2).drew
  refine wp_region_G (fun w' => w'.cell? ⟨w2.heap.size, 0, none⟩ = some (.slice (some ⟨O, 0, none⟩) q.tail.length q.tail.length) ∧ w'.cell? ⟨w2.heap.size, 1, none⟩ = some (.slice (some ⟨G, 0, none⟩) (Sp.landK q + 1) (Sp.landK q + 1)) ∧ w'.cell? ⟨w2.heap.size, 2, none⟩ = some (.int .i64 ((Sp.landK q : Nat) : Int)) ∧ w'.cell? ⟨G, Sp.landK q, none⟩ = some (.int .i64 (D (Sp.landK q)))) (fun _ => false) (by kernel_rfl) (unhide HS9 _ hbq) (fun hHeld => ?_)
  generalize W2.drew = wq at *
  refine wpAnyG_take (v := ?_) 0 (by rfl) (by kernel_rfl) (by kernel_rfl) (by kernel_rfl) (by kernel_rfl) (fun _ _ _ h => h) (Or.inl ⟨by rfl, ?_⟩) (by assumption) ?_
  rotate_left
  · (intro w' hSw; (try dsimp only at hSw); (try simp only [List.getElem_toArray, List.getElem_cons_zero]); go_simp; try (with_reducible rfl))
  simp only [Act.put, List.getElem_toArray, List.getElem_cons_zero, List.setIfInBounds_toArray, List.set_cons_zero, List.set_cons_succ]
  refine wpAnyG_take (v := ?_) 1 (by rfl) (by kernel_rfl) (by kernel_rfl) (by kernel_rfl) (by kernel_rfl) (fun _ _ _ h => h) (Or.inl ⟨by rfl, ?_⟩) (by assumption) ?_
  rotate_left
  · (intro w' hSw; (try dsimp only at hSw); (try simp only [List.getElem_toArray, List.getElem_cons_succ, List.getElem_cons_zero]); go_simp; try (with_reducible rfl))
  simp only [Act.put, List.getElem_toArray, List.getElem_cons_succ, List.getElem_cons_zero, List.setIfInBounds_toArray, List.set_cons_zero, List.set_cons_succ]
  refine wpAnyG_take (v := ?_) 2 (by rfl) (by kernel_rfl) (by kernel_rfl) (by kernel_rfl) (by kernel_rfl) (fun _ _ _ h => h) (Or.inl ⟨by rfl, ?_⟩) (by assumption) ?_
  rotate_left
  · (intro w' hSw; (try dsimp only at hSw); (try simp only [List.getElem_toArray, List.getElem_cons_succ, List.getElem_cons_zero]); go_simp; try (with_reducible rfl))
  simp only [Act.put, List.getElem_toArray, List.getElem_cons_succ, List.getElem_cons_zero, List.setIfInBounds_toArray, List.set_cons_zero, List.set_cons_succ]
  refine wpAnyG_take (v := ?_) 4 (by rfl) (by kernel_rfl) (by kernel_rfl) (by kernel_rfl) (by kernel_rfl) (fun _ _ _ h => h) (Or.inl ⟨by rfl, ?_⟩) (by assumption) ?_
  rotate_left
  · (intro w' hSw; (try dsimp only at hSw); (try simp only [List.getElem_toArray, List.getElem_cons_succ, List.getElem_cons_zero]); go_simp; try (with_reducible rfl))
  simp only [Act.put, List.getElem_toArray, List.getElem_cons_succ, List.getElem_cons_zero, List.setIfInBounds_toArray, List.set_cons_zero, List.set_cons_succ]
  refine wpAnyG_take (v := ?_) 5 (by rfl) (by kernel_rfl) (by kernel_rfl) (by kernel_rfl) (by kernel_rfl) (fun _ _ _ h => h) (Or.inl ⟨by rfl, ?_⟩) (by assumption) ?_
  rotate_left
  · (intro w' hSw; (try dsimp only at hSw); (try simp only [List.getElem_toArray, List.getElem_cons_succ, List.getElem_cons_zero]); go_simp; try (with_reducible rfl))
  simp only [Act.put, List.getElem_toArray, List.getElem_cons_succ, List.getElem_cons_zero, List.setIfInBounds_toArray, List.set_cons_zero, List.set_cons_succ]
  refine wpAnyG_take (v := ?_) 6 (by rfl) (by kernel_rfl) (by kernel_rfl) (by kernel_rfl) (by kernel_rfl) (fun _ _ _ h => h) (Or.inl ⟨by rfl, ?_⟩) (by assumption) ?_
  rotate_left
  · (intro w' hSw; (try dsimp only at hSw); (try simp only [List.getElem_toArray, List.getElem_cons_succ, List.getElem_cons_zero]); go_simp; try (with_reducible rfl))
  simp only [Act.put, List.getElem_toArray, List.getElem_cons_succ, List.getElem_cons_zero, List.setIfInBounds_toArray, List.set_cons_zero, List.set_cons_succ]
  refine wpAnyG_take (v := ?_) 7 (by rfl) (by kernel_rfl) (by kernel_rfl) (by kernel_rfl) (by kernel_rfl) (fun _ _ _ h => h) (Or.inl ⟨by rfl, ?_⟩) (by assumption) ?_
  rotate_left
  · (intro w' hSw; (try dsimp only at hSw); (try simp only [List.getElem_toArray, List.getElem_cons_succ, List.getElem_cons_zero]); go_simp; try (with_reducible rfl))
  simp only [Act.put, List.getElem_toArray, List.getElem_cons_succ, List.getElem_cons_zero, List.setIfInBounds_toArray, List.set_cons_zero, List.set_cons_succ]
  refine wpAnyG_take (v := ?_) 8 (by rfl) (by kernel_rfl) (by kernel_rfl) (by kernel_rfl) (by kernel_rfl) (fun _ _ _ h => h) (Or.inl ⟨by rfl, ?_⟩) (by assumption) ?_
  rotate_left
  · (intro w' hSw; (try dsimp only at hSw); (try simp only [List.getElem_toArray, List.getElem_cons_succ, List.getElem_cons_zero]); go_simp; try (with_reducible rfl))
  simp only [Act.put, List.getElem_toArray, List.getElem_cons_succ, List.getElem_cons_zero, List.setIfInBounds_toArray, List.set_cons_zero, List.set_cons_succ]
  refine wpAnyG_take (v := ?_) 9 (by rfl) (by kernel_rfl) (by kernel_rfl) (by kernel_rfl) (by kernel_rfl) (fun _ _ _ h => h) (Or.inl ⟨by rfl, ?_⟩) (by assumption) ?_
  rotate_left
  · (intro w' hSw; (try dsimp only at hSw); (try simp only [List.getElem_toArray, List.getElem_cons_succ, List.getElem_cons_zero]); go_simp; try (with_reducible rfl))
  simp only [Act.put, List.getElem_toArray, List.getElem_cons_succ, List.getElem_cons_zero, List.setIfInBounds_toArray, List.set_cons_zero, List.set_cons_succ]
  refine wpAnyG_ready [3] (by kernel_rfl) (by simp) ?_
  refine AllReadyG.cons 3 (by rfl) (fun K hK => ?_) ?_
  · simp only [List.getElem_toArray, List.getElem_cons_succ, List.getElem_cons_zero]
    go_simp
    go_at_call 29
    refine (unhide HE _ hbq).mono ?_
    rintro e we ⟨lv, rfl, hO, hle⟩
    have hbe : Below W2.heap.size W2 we := Below.trans hbq (hle.mono hbq.size)
    have hszq := hbq.size
    refine hK.out _ _ (unhide HS9 _ hbe) (fun _ => ?_)
    clear hK K
    try simp only [Act.put, List.setIfInBounds_toArray, List.set_cons_zero, List.set_cons_succ]
    refine wpAnyG_take (v := ?_) 10 (by rfl) (by kernel_rfl) (by kernel_rfl) (by kernel_rfl) (by kernel_rfl) (fun _ _ _ h => h) (Or.inl ⟨by rfl, ?_⟩) (by assumption) ?_
    rotate_left
    · (intro w' hSw; (try dsimp only at hSw); (try simp only [List.getElem_toArray, List.getElem_cons_succ, List.getElem_cons_zero]); go_simp; try (with_reducible rfl))
    simp only [Act.put, List.getElem_toArray, List.getElem_cons_succ, List.getElem_cons_zero, List.setIfInBounds_toArray, List.set_cons_zero, List.set_cons_succ]
    refine wpAnyG_take (v := ?_) 11 (by rfl) (by kernel_rfl) (by kernel_rfl) (by kernel_rfl) (by kernel_rfl) (fun _ _ _ h => h) (Or.inl ⟨by rfl, ?_⟩) (by assumption) ?_
    rotate_left
    · (intro w' hSw; (try dsimp only at hSw); (try simp only [List.getElem_toArray, List.getElem_cons_succ, List.getElem_cons_zero]); go_simp; try (with_reducible rfl))
    simp only [Act.put, List.getElem_toArray, List.getElem_cons_succ, List.getElem_cons_zero, List.setIfInBounds_toArray, List.set_cons_zero, List.set_cons_succ]
    refine wpAnyG_take (v := ?_) 12 (by rfl) (by kernel_rfl) (by kernel_rfl) (by kernel_rfl) (by kernel_rfl) (fun _ _ _ h => h) (Or.inl ⟨by rfl, ?_⟩) (by assumption) ?_
    rotate_left
    · (intro w' hSw; (try dsimp only at hSw); (try simp only [List.getElem_toArray, List.getElem_cons_succ, List.getElem_cons_zero]); go_simp; try (with_reducible rfl))
    simp only [Act.put, List.getElem_toArray, List.getElem_cons_succ, List.getElem_cons_zero, List.setIfInBounds_toArray, List.set_cons_zero, List.set_cons_succ]
    refine wpAnyG_done (by kernel_rfl) ?_ _
    refine NoPanic.normal ?_
    clear hHeld
    have HFi := hide (And.intro (own_base hO (B' := w.heap.size) (by have := unhide HW2; omega)) ((unhide HB2).trans (hbe.mono (unhide HW2).2)))
    clear hO hle hbe hbq
    go_wp2
    rw [unhide HP]
    go_ret3
    exact ⟨lv, D, rfl, (unhide HFi).1, (unhide HFi).2, unhide HD⟩
  exact AllReadyG.nil
end Go.Proofs.Ytoegjnolccabjaa


/- Ways along tight arcs (P601: Way). -/
namespace Go.Proofs.Ytoegjnolccabjaa
open Go Go.RowKit

/-- Whether the way from v may go on by arc i. -/
def Sp.tt (L : List Sp.Arc) (y : Nat → Int) (v i : Nat) : Bool := decide ((L.getD i Sp.arc0).f = v) && (decide (y ((L.getD i Sp.arc0).t * 2) + (L.getD i Sp.arc0).l = y (v * 2)) && decide (y ((L.getD i Sp.arc0).t * 2 + 1) + 1 = y (v * 2 + 1)))
def Sp.WayIs (L : List Sp.Arc) (y : Nat → Int) (t : Nat) : Nat → List Nat → Prop
  | v, [] => v = t
  | v, i :: r => v ≠ t ∧ i < L.length ∧ Sp.tt L y v i = true ∧ (∀ k, k < i → Sp.tt L y v k = false) ∧ Sp.WayIs L y t (L.getD i Sp.arc0).t r
theorem Sp.tt_iff {L : List Sp.Arc} {y : Nat → Int} {v i : Nat} : Sp.tt L y v i = true ↔ (L.getD i Sp.arc0).f = v ∧ y ((L.getD i Sp.arc0).t * 2) + (L.getD i Sp.arc0).l = y (v * 2) ∧ y ((L.getD i Sp.arc0).t * 2 + 1) + 1 = y (v * 2 + 1) := by
  unfold Sp.tt
  rw [Bool.and_eq_true, Bool.and_eq_true, decide_eq_true_eq, decide_eq_true_eq, decide_eq_true_eq]
/-- The row of costs that Way works with: from t on, against the arcs. -/
structure Sp.Tow (L : List Sp.Arc) (t n : Nat) (y : Nat → Int) : Prop where
  sh : Sp.Short 345876451382054092800 (Sp.pairL 300 (L.map Sp.sw)) t n (Sp.rk y)
  bd : Sp.Bd n n y
theorem Sp.Tow.on {L : List Sp.Arc} {t n : Nat} {y : Nat → Int} (h : Sp.Tow L t n y) (hn : n ≤ 200) (hL : ∀ a ∈ L, a.f < n ∧ a.t < n) {v : Nat} (hv : v < n) (hvt : v ≠ t) (hf : y (v * 2) ≠ 1152921504606846976) : ∃ i, i < L.length ∧ Sp.tt L y v i = true := by
  obtain ⟨m, hm⟩ := h.sh.att v hv (fun e => hf ((h.bd.far (by omega) hv).1 e))
  cases m with
  | zero => exact absurd hm.1 hvt
  | succ m =>
    obtain ⟨b, hb, hbt, hw⟩ := hm
    obtain ⟨a', ha', rfl⟩ := Sp.mem_pairL.1 hb
    obtain ⟨a, ha, rfl⟩ := List.mem_map.1 ha'
    have hbt' : a.f = v := hbt
    have h1 : Sp.Wk (Sp.pairL 300 (L.map Sp.sw)) t m a.t (Sp.rk y v - (300 * a.l + 1)) := hw
    obtain ⟨h2, h3⟩ := h.sh.low (by omega) m _ _ h1
    have h4 : Sp.rk y a.f ≤ Sp.rk y a.t + (300 * a.l + 1) := (h.sh.arc _ hb h2).2
    rw [hbt'] at h4
    have h5 : y (a.t * 2) ≠ 1152921504606846976 := fun e => h2 ((h.bd.far (by omega) (hL a ha).2).2 e)
    have b1 := h.bd v hv
    have b2 := h.bd a.t (hL a ha).2
    obtain ⟨i, hi, e⟩ := List.mem_iff_getElem.1 ha
    refine ⟨i, hi, Sp.tt_iff.2 ?_⟩
    have e2 : L.getD i Sp.arc0 = a := by rw [List.getD_eq_getElem?_getD, List.getElem?_eq_getElem hi]; exact e
    rw [e2]
    unfold Sp.rk at h3 h4
    refine ⟨hbt', ?_⟩
    rcases b1 with b1 | b1
    · exact absurd b1.1 hf
    · rcases b2 with b2 | b2
      · exact absurd b2.1 h5
      · omega
theorem Sp.Tow.root {L : List Sp.Arc} {t n : Nat} {y : Nat → Int} (h : Sp.Tow L t n y) (ht : t < n) : y (t * 2) = 0 ∧ y (t * 2 + 1) = 0 := by
  have h0 := h.sh.src
  have h1 := h.bd t ht
  unfold Sp.rk at h0
  rcases h1 with h1 | h1
  · omega
  · omega
theorem Sp.Tow.many {L : List Sp.Arc} {t n : Nat} {y : Nat → Int} (h : Sp.Tow L t n y) {v : Nat} (hv : v < n) : ∃ g : Nat, y (v * 2 + 1) = (g : Int) ∧ g ≤ n := by
  rcases h.bd v hv with h1 | h1
  · exact ⟨0, h1.2, Nat.zero_le _⟩
  · exact ⟨(y (v * 2 + 1)).toNat, by omega, by omega⟩
theorem Sp.WayIs.snoc {L : List Sp.Arc} {y : Nat → Int} {t s v i : Nat} {W : List Nat} (h : ∀ r, Sp.WayIs L y t v r → Sp.WayIs L y t s (W ++ r)) (hv : v ≠ t) (hi : i < L.length) (hb : Sp.tt L y v i = true) (hk : ∀ k, k < i → Sp.tt L y v k = false) : ∀ r, Sp.WayIs L y t (L.getD i Sp.arc0).t r → Sp.WayIs L y t s (W ++ [i] ++ r) := fun r hr => by
  rw [List.append_assoc]
  exact h (i :: r) ⟨hv, hi, hb, hk, hr⟩
/-- Of the same lengths there is one way. -/
theorem Sp.WayIs.uniq {L : List Sp.Arc} {y y' : Nat → Int} {t : Nat} (hy : ∀ v i, Sp.tt L y v i = Sp.tt L y' v i) : ∀ (W W' : List Nat) (v : Nat), Sp.WayIs L y t v W → Sp.WayIs L y' t v W' → W = W'
  | [], [], _, _, _ => rfl
  | [], i :: r, v, h, h' => absurd h h'.1
  | i :: r, [], v, h, h' => absurd h' h.1
  | i :: r, i' :: r', v, h, h' => by
    obtain ⟨-, h2, h3, h4, h5⟩ := h
    obtain ⟨-, k2, k3, k4, k5⟩ := h'
    have e : i = i' := by
      rcases Nat.lt_trichotomy i i' with e | e | e
      · have := k4 i e; rw [← hy, h3] at this; cases this
      · exact e
      · have := h4 i' e; rw [hy, k3] at this; cases this
    subst e
    rw [Sp.WayIs.uniq hy r r' _ h5 k5]
end Go.Proofs.Ytoegjnolccabjaa


/- Passes as the program and the reference make them (P601: Any). -/
namespace Go.Proofs.Ytoegjnolccabjaa
open Go Go.RowKit

def Sp.still (L : List Sp.Arc) (D : Nat → Int) : Prop := ∀ a ∈ L, D a.f ≠ 1152921504606846976 → ¬ D a.f + a.l < D a.t
theorem Sp.rxs_append (far : Int) : ∀ (L L' : List Sp.Arc) (D : Nat → Int), Sp.rxs far (L ++ L') D = Sp.rxs far L' (Sp.rxs far L D)
  | [], _, _ => rfl
  | a :: L, L', D => Sp.rxs_append far L L' (Sp.rx far D a)
theorem Sp.take_arc {L : List Sp.Arc} {i : Nat} (hi : i < L.length) : L.take (i + 1) = L.take i ++ [L.getD i Sp.arc0] := by
  rw [List.take_succ_eq_append_getElem hi, List.getD_eq_getElem?_getD, List.getElem?_eq_getElem hi]; rfl
theorem Sp.pq_fst (L : List Sp.Arc) (D Y : Nat → Int) : ∀ i, i ≤ L.length → (Sp.pq L D Y i).1 = Sp.rxs 1152921504606846976 (L.take i) D
  | 0, _ => by simp [Sp.pq, Sp.rxs]
  | i + 1, hi => by
    rw [Sp.take_arc (by omega), Sp.rxs_append, ← Sp.pq_fst L D Y i (by omega), Sp.pq]
    show _ = Sp.rx _ _ _
    generalize Sp.pq L D Y i = q
    generalize L.getD i Sp.arc0 = a
    funext v
    unfold Sp.rx
    by_cases h : q.1 a.f ≠ 1152921504606846976 ∧ q.1 a.f + a.l < q.1 a.t
    · rw [if_pos h]
      show Sp.upd q.1 a.t _ v = _
      unfold Sp.upd
      by_cases e : v = a.t
      · rw [if_pos e, if_pos ⟨e, h⟩]
      · rw [if_neg e, if_neg (fun hh => e hh.1)]
    · rw [if_neg h, if_neg (fun hh => h hh.2)]
theorem Sp.pq_quiet (L : List Sp.Arc) (D Y : Nat → Int) : ∀ i, (∀ k, k < i → ¬ (D (L.getD k Sp.arc0).f ≠ 1152921504606846976 ∧ D (L.getD k Sp.arc0).f + (L.getD k Sp.arc0).l < D (L.getD k Sp.arc0).t)) → Sp.pq L D Y i = (D, Y, -1)
  | 0, _ => rfl
  | i + 1, h => by
    rw [Sp.pq, Sp.pq_quiet L D Y i (fun k hk => h k (by omega)), if_neg (h i (by omega))]
theorem Sp.pq_none (L : List Sp.Arc) (D Y : Nat → Int) : ∀ i, (Sp.pq L D Y i).2.2 = -1 → ∀ k, k < i → ¬ (D (L.getD k Sp.arc0).f ≠ 1152921504606846976 ∧ D (L.getD k Sp.arc0).f + (L.getD k Sp.arc0).l < D (L.getD k Sp.arc0).t)
  | 0, _ => fun k hk => by omega
  | i + 1, h => by
    rw [Sp.pq] at h
    by_cases hc : (Sp.pq L D Y i).1 (L.getD i Sp.arc0).f ≠ 1152921504606846976 ∧ (Sp.pq L D Y i).1 (L.getD i Sp.arc0).f + (L.getD i Sp.arc0).l < (Sp.pq L D Y i).1 (L.getD i Sp.arc0).t
    · rw [if_pos hc] at h
      have : (((L.getD i Sp.arc0).t : Nat) : Int) = -1 := h
      omega
    · rw [if_neg hc] at h
      have ih := Sp.pq_none L D Y i h
      rw [Sp.pq_quiet L D Y i ih] at hc
      intro k hk
      by_cases e : k = i
      · subst e; exact hc
      · exact ih k (by omega)
theorem Sp.pq_stop (L : List Sp.Arc) (D Y : Nat → Int) : (Sp.pq L D Y L.length).2.2 = -1 ↔ Sp.still L D := by
  constructor
  · intro h a ha hne hlt
    obtain ⟨i, hi, e⟩ := List.mem_iff_getElem.1 ha
    have := Sp.pq_none L D Y _ h i hi
    rw [List.getD_eq_getElem?_getD, List.getElem?_eq_getElem hi] at this
    exact this ⟨by rw [show (some L[i]).getD Sp.arc0 = a from e]; exact hne, by rw [show (some L[i]).getD Sp.arc0 = a from e]; exact hlt⟩
  · intro h
    rw [Sp.pq_quiet L D Y _ (fun k hk hc => h _ (Sp.arc_mem hk) hc.1 hc.2)]
theorem Sp.pq_same {L : List Sp.Arc} {D : Nat → Int} (Y : Nat → Int) (h : Sp.still L D) : Sp.pq L D Y L.length = (D, Y, -1) :=
  Sp.pq_quiet L D Y _ (fun _ hk hc => h _ (Sp.arc_mem hk) hc.1 hc.2)
/-- The row behind k passes. -/
def Sp.pk (L : List Sp.Arc) (s k : Nat) : Nat → Int := Sp.ps 1152921504606846976 L (Sp.d0 1152921504606846976 s) k
theorem Sp.pk_succ (L : List Sp.Arc) (s k : Nat) (Y : Nat → Int) : (Sp.pq L (Sp.pk L s k) Y L.length).1 = Sp.pk L s (k + 1) := by
  rw [Sp.pq_fst L _ _ _ (Nat.le_refl _), List.take_of_length_le (Nat.le_refl _)]; rfl
theorem Sp.pk_bnd {n s : Nat} {L : List Sp.Arc} (hS : Sp.Snd n L) : ∀ k, Sp.Bnd n (((k * L.length : Nat) : Int) * 1099511627776) (Sp.pk L s k)
  | 0 => fun v _ => by
    show Sp.d0 _ s v = _ ∨ (_ ≤ Sp.d0 _ s v ∧ Sp.d0 _ s v ≤ _)
    unfold Sp.d0
    by_cases h : v = s
    · rw [if_pos h]; exact .inr ⟨by simp, by simp⟩
    · rw [if_neg h]; exact .inl rfl
  | k + 1 => by
    have h := Sp.Bnd.pq (fun _ => 0) hS (by omega) (Sp.pk_bnd (s := s) hS k) L.length (Nat.le_refl _)
    rw [Sp.pk_succ] at h
    have e : (((k * L.length : Nat) : Int) * 1099511627776) + (L.length : Int) * 1099511627776 = ((((k + 1) * L.length : Nat) : Int) * 1099511627776) := by
      rw [Nat.succ_mul]; push_cast; omega
    rw [← e]; exact h
theorem Sp.pk_small {k m : Nat} (hk : k ≤ 200) (hm : m ≤ 1000) : (((k * m : Nat) : Int) * 1099511627776) + (m : Int) * 1099511627776 < 1152921504606846976 := by
  have h1 : k * m ≤ 200 * m := Nat.mul_le_mul_right _ hk
  generalize k * m = x at *
  omega
/-- Where a pass changes nothing the row is one of shortest ways. -/
theorem Sp.pk_short {n s k : Nat} {L : List Sp.Arc} (hS : Sp.Snd n L) (hs : s < n) (hk : k ≤ 200) (h : Sp.still L (Sp.pk L s k)) : Sp.Short 1152921504606846976 L s n (Sp.pk L s k) := by
  refine Sp.short_still hs (Sp.Att.ps (by decide) (fun a ha => (hS.at_ a ha).1) (Sp.att0 (by decide)) k) h (fun a ha hne => ?_)
  have h1 := Sp.pk_small hk hS.few
  obtain ⟨h2, -, h3, h4⟩ := hS.at_ a ha
  by_cases h0 : L.length = 0
  · rw [List.length_eq_zero_iff.1 h0] at ha; cases ha
  · rcases Sp.pk_bnd (s := s) hS k a.f h2 with e | e
    · exact absurd e hne
    · have h5 := e.2
      show Sp.pk L s k a.f + a.l < _
      have h6 : 1 ≤ (L.length : Int) := by omega
      generalize ((k * L.length : Nat) : Int) = x at *
      omega
/-- Where there is one the last pass changes nothing. -/
theorem Sp.pk_still {n s k : Nat} {L : List Sp.Arc} {D : Nat → Int} (hS : Sp.Snd n L) (hs : s < n) (hD : Sp.Short 1152921504606846976 L s n D) (hlt : ∀ v, D v ≠ 1152921504606846976 → D v < 1152921504606846976) (hk : n ≤ k + 1) : Sp.still L (Sp.pk L s k) := fun a ha hne hlt2 => by
  obtain ⟨h1, h2, -⟩ := hS.at_ a ha
  have e1 := Sp.ps_short hD (by decide) (fun a ha => ⟨(hS.at_ a ha).1, (hS.at_ a ha).2.1⟩) hlt hs hk h1
  have e2 := Sp.ps_short hD (by decide) (fun a ha => ⟨(hS.at_ a ha).1, (hS.at_ a ha).2.1⟩) hlt hs hk h2
  unfold Sp.pk at hne hlt2
  rw [e1] at hne hlt2
  rw [e2] at hlt2
  have := (hD.arc a ha hne).2
  omega
/-- Beyond the places nothing is asked. -/
theorem Sp.Short.ex {n s : Nat} {L : List Sp.Arc} {D : Nat → Int} (hL : ∀ a ∈ L, a.f < n ∧ a.t < n) (hs : s < n) (hD : Sp.Short 1152921504606846976 L s n D) (hb : ∀ v, v < n → D v ≠ 1152921504606846976 → D v < 1152921504606846976) : ∃ D, Sp.Short 1152921504606846976 L s n D ∧ ∀ v, D v ≠ 1152921504606846976 → D v < 1152921504606846976 := by
  refine ⟨fun v => if v < n then D v else 1152921504606846976, ⟨?_, fun a ha hne => ?_, fun v hv hne => ?_⟩, fun v hne => ?_⟩
  · show (if s < n then D s else _) = 0
    rw [if_pos hs]; exact hD.src
  · have h1 := hL a ha
    rw [if_pos h1.1] at hne
    show (if a.t < n then D a.t else _) ≠ _ ∧ (if a.t < n then D a.t else _) ≤ (if a.f < n then D a.f else _) + a.l
    rw [if_pos h1.1, if_pos h1.2]
    exact hD.arc a ha hne
  · rw [if_pos hv] at hne
    obtain ⟨m, hm⟩ := hD.att v hv hne
    refine ⟨m, ?_⟩
    show Sp.Wk L s m v (if v < n then D v else _)
    rw [if_pos hv]; exact hm
  · have hne1 : (if v < n then D v else (1152921504606846976 : Int)) ≠ 1152921504606846976 := hne
    show (if v < n then D v else (1152921504606846976 : Int)) < 1152921504606846976
    by_cases hv : v < n
    · rw [if_pos hv] at hne1 ⊢; exact hb v hv hne1
    · rw [if_neg hv] at hne1; exact absurd rfl hne1
end Go.Proofs.Ytoegjnolccabjaa


