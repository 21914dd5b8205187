/- What the proof needs, part 16. -/
import Derived.WalkMore
import Derived.Test.YtoegjnolccabjabL15
/- rim: Heights, Flow. -/
namespace Go.Proofs.Ytoegjnolccabjab
open Go Go.RowKit

/-- The error of two vertices. -/
noncomputable def Sp.rimE (q : Sp.Net) (s t : Int) : Int := if ¬ ((0 ≤ s ∧ s < q.n) ∧ (0 ≤ t ∧ t < q.n)) then 3 else if s = t then 9 else if (Sp.shared q s t).2 = true then 0 else 10
theorem Sp.wk_nn {L : List Sp.Arc} {s : Nat} (hp : ∀ a ∈ L, 0 ≤ a.l) : ∀ m v x, Sp.Wk L s m v x → 0 ≤ x
  | 0, v, x, hw => by
    obtain ⟨_, rfl⟩ := hw
    exact Int.le_refl _
  | m + 1, v, x, ⟨a, ha, _, hw⟩ => by
    have h1 := Sp.wk_nn hp m a.f _ hw
    have h2 := hp a ha
    omega
theorem Sp.short_nn {L : List Sp.Arc} {s n : Nat} {D : Nat → Int} (h : Sp.Short 1152921504606846976 L s n D) (hp : ∀ a ∈ L, 0 ≤ a.l) {v : Nat} (hv : v < n) : 0 ≤ D v := by
  by_cases e : D v = 1152921504606846976
  · rw [e]; decide
  · obtain ⟨m, hm⟩ := h.att v hv e
    exact Sp.wk_nn hp m v _ hm
theorem survey_err (q : Sp.Net) (v tv nv cv : Value) (s t : Int) (w : World) (hv : NetI w v q tv nv cv) (hq : Sp.RimQ q) (he : Sp.rimE q s t ≠ 0) :
    Calls Try.prog 18 #[v, .int .i64 s, .int .i64 t] w fun e w' => e = .returned (.tuple #[.agg #[.slice none 0 0, .slice none 0 0, .int .i64 0], .int .i64 (Sp.rimE q s t)]) ∧ Below w.heap.size w w' := by
  by_cases h0 : 0 ≤ s ∧ s < q.n
  · by_cases h1 : 0 ≤ t ∧ t < q.n
    · by_cases hst : s = t
      · rw [show Sp.rimE q s t = 9 by unfold Sp.rimE; rw [if_neg (fun hh => hh ⟨h0, h1⟩), if_pos hst]]
        exact survey_bad2 q v tv nv cv s t w hv h0 h1 hst
      · have hsh : (Sp.shared q s t).2 = false := by
          cases hh : (Sp.shared q s t).2 with
          | false => rfl
          | true => exact absurd (by unfold Sp.rimE; rw [if_neg (fun hh => hh ⟨h0, h1⟩), if_neg hst, if_pos hh]) he
        rw [show Sp.rimE q s t = 10 by unfold Sp.rimE; rw [if_neg (fun hh => hh ⟨h0, h1⟩), if_neg hst, if_neg (by rw [hsh]; decide)]]
        exact survey_bad3 q v tv nv cv s t w hv h0 h1 hst hq.link hq.chk (by have := hq.n0; omega) (by have := hq.n1; omega) hsh
    · rw [show Sp.rimE q s t = 3 by unfold Sp.rimE; rw [if_pos (fun hh => h1 hh.2)]]
      exact survey_bad1 q v tv nv cv s t w hv h0 h1
  · rw [show Sp.rimE q s t = 3 by unfold Sp.rimE; rw [if_pos (fun hh => h0 hh.1)]]
    exact survey_bad0 q v tv nv cv s t w hv h0
set_option maxRecDepth 100000 in
set_option maxHeartbeats 4000000 in
theorem rmheights_err (q : Sp.Net) (v tv nv cv : Value) (s t : Int) (w : World) (hv : NetI w v q tv nv cv) (hq : Sp.RimQ q) (he : Sp.rimE q s t ≠ 0) :
    Calls Try.prog 12 #[v, .int .i64 s, .int .i64 t] w fun e w' => e = .returned (.tuple #[.slice none 0 0, .int .i64 (Sp.rimE q s t)]) ∧ Below w.heap.size w w' := by
  obtain ⟨rfl, h1, h2, h3⟩ := hv
  obtain ⟨ta, tc, rfl, -, -⟩ := h1.form
  obtain ⟨na, nc, rfl, -, -⟩ := h2.form
  obtain ⟨ca, cc, rfl, -, -⟩ := h3.form
  obtain ⟨W1, hW1⟩ : ∃ W1, W1 = w.alloc (.cells #[.int .i64 q.n, .slice ta q.tail.length tc, .slice na q.next.length nc, .slice ca q.cap.length cc] 26) := ⟨_, rfl⟩
  have hb1 : Below w.heap.size w W1 := by rw [hW1]; exact (Below.refl _ w).alloc (Nat.le_refl _) _
  have hs1 : W1.heap.size = w.heap.size + 1 := by rw [hW1]; simp
  have hv1 : NetI W1 (.agg #[.int .i64 q.n, .slice ta q.tail.length tc, .slice na q.next.length nc, .slice ca q.cap.length cc]) q (.slice ta q.tail.length tc) (.slice na q.next.length nc) (.slice ca q.cap.length cc) := NetI.below ⟨rfl, h1, h2, h3⟩ hb1
  have e1 : W1.heap[w.heap.size]? = some (.cells #[.int .i64 q.n, .slice ta q.tail.length tc, .slice na q.next.length nc, .slice ca q.cap.length cc] 26) := by rw [hW1]; exact heap_alloc_new _ _
  have x0 : W1.cell? ⟨w.heap.size, 0, none⟩ = some (.int .i64 q.n) := by rw [cell_of_row _ _ _ _ _ _ e1]; rfl
  have x1 : W1.cell? ⟨w.heap.size, 1, none⟩ = some (.slice ta q.tail.length tc) := by rw [cell_of_row _ _ _ _ _ _ e1]; rfl
  have x2 : W1.cell? ⟨w.heap.size, 2, none⟩ = some (.slice na q.next.length nc) := by rw [cell_of_row _ _ _ _ _ _ e1]; rfl
  have x3 : W1.cell? ⟨w.heap.size, 3, none⟩ = some (.slice ca q.cap.length cc) := by rw [cell_of_row _ _ _ _ _ _ e1]; rfl
  have HC := hide (survey_err q _ _ _ _ s t W1 hv1 hq he)
  have HB1 := hide (And.intro hb1 (show w.heap.size ≤ W1.heap.size by omega))
  obtain ⟨P, hP⟩ : ∃ P : Ending → World → Prop, P = fun e w' => e = .returned (.tuple #[.slice none 0 0, .int .i64 (Sp.rimE q s t)]) ∧ Below w.heap.size w w' := ⟨_, rfl⟩
  rw [← hP]
  have HP := hide hP
  clear hP e1 hv1 hs1 hb1 h1 h2 h3
  go_enter Try.func12, Try.ntmps12
  go_upto_region 1 with fail
  rw [← hW1]
  clear hW1
  go_wp2_with fail
  go_at_call 18
  refine (unhide HC).mono ?_
  clear x0 x1 x2 x3
  rintro e w2 ⟨rfl, hb2⟩
  have HB := hide (And.intro ((unhide HB1).1.trans (hb2.mono (unhide HB1).2)) (show w.heap.size ≤ w2.heap.size from Nat.le_trans (unhide HB1).2 hb2.size))
  have heb : (Sp.rimE q s t == 0) = false := beq_eq_false_iff_ne.2 he
  clear hb2 HB1 HC hq he
  generalize Sp.rimE q s t = E at *
  go_wp2
  rw [unhide HP]
  exact ⟨rfl, (unhide HB).1.alloc (unhide HB).2 _⟩
set_option maxRecDepth 100000 in
set_option maxHeartbeats 4000000 in
theorem rmflow_err (q : Sp.Net) (v tv nv cv : Value) (s t : Int) (w : World) (hv : NetI w v q tv nv cv) (hq : Sp.RimQ q) (he : Sp.rimE q s t ≠ 0) :
    Calls Try.prog 9 #[v, .int .i64 s, .int .i64 t] w fun e w' => e = .returned (.tuple #[.slice none 0 0, .int .i64 0, .int .i64 (Sp.rimE q s t)]) ∧ Below w.heap.size w w' := by
  obtain ⟨rfl, h1, h2, h3⟩ := hv
  obtain ⟨ta, tc, rfl, -, -⟩ := h1.form
  obtain ⟨na, nc, rfl, -, -⟩ := h2.form
  obtain ⟨ca, cc, rfl, -, -⟩ := h3.form
  obtain ⟨W1, hW1⟩ : ∃ W1, W1 = w.alloc (.cells #[.int .i64 q.n, .slice ta q.tail.length tc, .slice na q.next.length nc, .slice ca q.cap.length cc] 26) := ⟨_, rfl⟩
  have hb1 : Below w.heap.size w W1 := by rw [hW1]; exact (Below.refl _ w).alloc (Nat.le_refl _) _
  have hs1 : W1.heap.size = w.heap.size + 1 := by rw [hW1]; simp
  have hv1 : NetI W1 (.agg #[.int .i64 q.n, .slice ta q.tail.length tc, .slice na q.next.length nc, .slice ca q.cap.length cc]) q (.slice ta q.tail.length tc) (.slice na q.next.length nc) (.slice ca q.cap.length cc) := NetI.below ⟨rfl, h1, h2, h3⟩ hb1
  have e1 : W1.heap[w.heap.size]? = some (.cells #[.int .i64 q.n, .slice ta q.tail.length tc, .slice na q.next.length nc, .slice ca q.cap.length cc] 26) := by rw [hW1]; exact heap_alloc_new _ _
  have x0 : W1.cell? ⟨w.heap.size, 0, none⟩ = some (.int .i64 q.n) := by rw [cell_of_row _ _ _ _ _ _ e1]; rfl
  have x1 : W1.cell? ⟨w.heap.size, 1, none⟩ = some (.slice ta q.tail.length tc) := by rw [cell_of_row _ _ _ _ _ _ e1]; rfl
  have x2 : W1.cell? ⟨w.heap.size, 2, none⟩ = some (.slice na q.next.length nc) := by rw [cell_of_row _ _ _ _ _ _ e1]; rfl
  have x3 : W1.cell? ⟨w.heap.size, 3, none⟩ = some (.slice ca q.cap.length cc) := by rw [cell_of_row _ _ _ _ _ _ e1]; rfl
  have HC := hide (survey_err q _ _ _ _ s t W1 hv1 hq he)
  have HB1 := hide (And.intro hb1 (show w.heap.size ≤ W1.heap.size by omega))
  obtain ⟨P, hP⟩ : ∃ P : Ending → World → Prop, P = fun e w' => e = .returned (.tuple #[.slice none 0 0, .int .i64 0, .int .i64 (Sp.rimE q s t)]) ∧ Below w.heap.size w w' := ⟨_, rfl⟩
  rw [← hP]
  have HP := hide hP
  clear hP e1 hv1 hs1 hb1 h1 h2 h3
  go_enter Try.func9, Try.ntmps9
  go_upto_region 1 with fail
  rw [← hW1]
  clear hW1
  go_wp2_with fail
  go_at_call 18
  refine (unhide HC).mono ?_
  clear x0 x1 x2 x3
  rintro e w2 ⟨rfl, hb2⟩
  have HB := hide (And.intro ((unhide HB1).1.trans (hb2.mono (unhide HB1).2)) (show w.heap.size ≤ w2.heap.size from Nat.le_trans (unhide HB1).2 hb2.size))
  have heb : (Sp.rimE q s t == 0) = false := beq_eq_false_iff_ne.2 he
  clear hb2 HB1 HC hq he
  generalize Sp.rimE q s t = E at *
  go_wp2
  rw [unhide HP]
  go_ret3
  exact ⟨rfl, (unhide HB).1.alloc (unhide HB).2 _⟩
set_option maxRecDepth 100000 in
set_option maxHeartbeats 8000000 in
theorem rmflow_yes (q : Sp.Net) (v tv nv cv : Value) (s t : Int) (w : World) (hv : NetI w v q tv nv cv) (hq : Sp.RimQ q) (f d0 a jb : Nat) (h0 : 0 ≤ s ∧ s < q.n) (h1' : 0 ≤ t ∧ t < q.n) (hst : s ≠ t) (hs : Sp.SplitQ q s t f d0 a jb) :
    Calls Try.prog 9 #[v, .int .i64 s, .int .i64 t] w fun e w' => ∃ lv D, e = .returned (.tuple #[lv, .int .i64 (D (Sp.landK q)), .int .i64 0]) ∧ OwnI w' w.heap.size lv ((List.range q.tail.length).map (Sp.rise (Sp.splitL q f d0 a jb) ((List.range (Sp.landK q + 1)).map D))) ∧ Below w.heap.size w w' ∧ Sp.Short 1152921504606846976 (Sp.rimR (Sp.splitL q f d0 a jb) q.cap q.tail.length) f (Sp.landK q + 1) D ∧ ∀ v, v < Sp.landK q + 1 → D v ≠ 1152921504606846976 → D v < 1152921504606846976 := by
  have HEa : Hid (∀ w' O G D, OwnI w' 0 (.slice (some ⟨O, 0, none⟩) q.tail.length q.tail.length) (Sp.splitL q f d0 a jb) → RowAt w' G (Sp.landK q + 1) D → (Sp.Short 1152921504606846976 (Sp.rimR (Sp.splitL q f d0 a jb) q.cap q.tail.length) f (Sp.landK q + 1) D ∧ ∀ v, v < Sp.landK q + 1 → D v ≠ 1152921504606846976 → D v < 1152921504606846976) → Calls Try.prog 19 #[.agg #[.slice (some ⟨O, 0, none⟩) q.tail.length q.tail.length, .slice (some ⟨G, 0, none⟩) (Sp.landK q + 1) (Sp.landK q + 1), .int .i64 ((Sp.landK q : Nat) : Int)], .func (.func 20) #[.agg #[.slice (some ⟨O, 0, none⟩) q.tail.length q.tail.length, .slice (some ⟨G, 0, none⟩) (Sp.landK q + 1) (Sp.landK q + 1), .int .i64 ((Sp.landK q : Nat) : Int)]] #[]] w' fun e w'' => ∃ lv, e = .returned lv ∧ OwnI w'' w'.heap.size lv ((List.range q.tail.length).map (Sp.rise (Sp.splitL q f d0 a jb) ((List.range (Sp.landK q + 1)).map D))) ∧ Below w'.heap.size w' w'') := hide fun w' O G D h1 h2 h3 => by
    refine rmeach_any (Sp.splitL q f d0 a jb) ((List.range (Sp.landK q + 1)).map D) _ _ ((Sp.landK q : Nat) : Int) q.tail.length (Sp.landK q + 1) w' h1.ints (h2.ints (by have := hq.kle; omega)) (Sp.splitL_len q f d0 a jb) (by simp) hq.link.ev (by have := hq.le; omega) (fun d hd => hq.rng hs hd) (fun j hj => ?_)
    rw [List.getD_eq_getElem?_getD, List.getElem?_map, List.getElem?_range hj]
    have h4 := Sp.short_nn h3.1 (hq.posR _ _) hj
    refine ⟨h4, ?_⟩
    show D j ≤ _
    by_cases e : D j = 1152921504606846976
    · omega
    · have := h3.2 j hj e; omega
  obtain ⟨rfl, h1, h2, h3⟩ := hv
  obtain ⟨ta, tc, rfl, -, -⟩ := h1.form
  obtain ⟨na, nc, rfl, -, -⟩ := h2.form
  obtain ⟨ca, cc, rfl, -, -⟩ := h3.form
  obtain ⟨W1, hW1⟩ : ∃ W1, W1 = w.alloc (.cells #[.int .i64 q.n, .slice ta q.tail.length tc, .slice na q.next.length nc, .slice ca q.cap.length cc] 26) := ⟨_, rfl⟩
  have hb1 : Below w.heap.size w W1 := by rw [hW1]; exact (Below.refl _ w).alloc (Nat.le_refl _) _
  have hs1 : W1.heap.size = w.heap.size + 1 := by rw [hW1]; simp
  have hv1 : NetI W1 (.agg #[.int .i64 q.n, .slice ta q.tail.length tc, .slice na q.next.length nc, .slice ca q.cap.length cc]) q (.slice ta q.tail.length tc) (.slice na q.next.length nc) (.slice ca q.cap.length cc) := NetI.below ⟨rfl, h1, h2, h3⟩ hb1
  have e1 : W1.heap[w.heap.size]? = some (.cells #[.int .i64 q.n, .slice ta q.tail.length tc, .slice na q.next.length nc, .slice ca q.cap.length cc] 26) := by rw [hW1]; exact heap_alloc_new _ _
  have x0 : W1.cell? ⟨w.heap.size, 0, none⟩ = some (.int .i64 q.n) := by rw [cell_of_row _ _ _ _ _ _ e1]; rfl
  have x1 : W1.cell? ⟨w.heap.size, 1, none⟩ = some (.slice ta q.tail.length tc) := by rw [cell_of_row _ _ _ _ _ _ e1]; rfl
  have x2 : W1.cell? ⟨w.heap.size, 2, none⟩ = some (.slice na q.next.length nc) := by rw [cell_of_row _ _ _ _ _ _ e1]; rfl
  have x3 : W1.cell? ⟨w.heap.size, 3, none⟩ = some (.slice ca q.cap.length cc) := by rw [cell_of_row _ _ _ _ _ _ e1]; rfl
  have HC := hide (survey_yes q _ _ _ _ s t W1 hv1 f d0 a jb h0 h1' hst hq hs)
  have HB1 := hide (And.intro hb1 (show w.heap.size ≤ W1.heap.size by omega))
  obtain ⟨P, hP⟩ : ∃ P : Ending → World → Prop, P = fun e w' => ∃ lv D, e = .returned (.tuple #[lv, .int .i64 (D (Sp.landK q)), .int .i64 0]) ∧ OwnI w' w.heap.size lv ((List.range q.tail.length).map (Sp.rise (Sp.splitL q f d0 a jb) ((List.range (Sp.landK q + 1)).map D))) ∧ Below w.heap.size w w' ∧ Sp.Short 1152921504606846976 (Sp.rimR (Sp.splitL q f d0 a jb) q.cap q.tail.length) f (Sp.landK q + 1) D ∧ ∀ v, v < Sp.landK q + 1 → D v ≠ 1152921504606846976 → D v < 1152921504606846976 := ⟨_, rfl⟩
  rw [← hP]
  have HP := hide hP
  clear hP e1 hv1 hs1 hb1 h1 h2 h3
  go_enter Try.func9, Try.ntmps9
  go_upto_region 1 with fail
  rw [← hW1]
  clear hW1
  go_wp2_with fail
  go_at_call 18
  refine (unhide HC).mono ?_
  clear x0 x1 x2 x3
  rintro e w2 ⟨O, G, D, rfl, hO, hG, hrow, hb2, hD⟩
  have hw2 : w.heap.size ≤ w2.heap.size := Nat.le_trans (unhide HB1).2 hb2.size
  obtain ⟨W2, hW2⟩ : ∃ W2, W2 = w2.alloc (.cells #[.slice (some ⟨O, 0, none⟩) q.tail.length q.tail.length, .slice (some ⟨G, 0, none⟩) (Sp.landK q + 1) (Sp.landK q + 1), .int .i64 ((Sp.landK q : Nat) : Int)] 44) := ⟨_, rfl⟩
  have hb22 : Below w2.heap.size w2 W2 := by rw [hW2]; exact (Below.refl _ _).alloc (Nat.le_refl _) _
  have hs2 : W2.heap.size = w2.heap.size + 1 := by rw [hW2]; simp
  have e9 : W2.heap[w2.heap.size]? = some (.cells #[.slice (some ⟨O, 0, none⟩) q.tail.length q.tail.length, .slice (some ⟨G, 0, none⟩) (Sp.landK q + 1) (Sp.landK q + 1), .int .i64 ((Sp.landK q : Nat) : Int)] 44) := by rw [hW2]; exact heap_alloc_new _ _
  have HS9 : Hid (∀ w', Below W2.heap.size W2 w' → w'.cell? ⟨w2.heap.size, 0, none⟩ = some (.slice (some ⟨O, 0, none⟩) q.tail.length q.tail.length) ∧ w'.cell? ⟨w2.heap.size, 1, none⟩ = some (.slice (some ⟨G, 0, none⟩) (Sp.landK q + 1) (Sp.landK q + 1)) ∧ w'.cell? ⟨w2.heap.size, 2, none⟩ = some (.int .i64 ((Sp.landK q : Nat) : Int)) ∧ w'.cell? ⟨G, Sp.landK q, none⟩ = some (.int .i64 (D (Sp.landK q)))) := hide fun w' hb => by
    have e := (hb.block w2.heap.size (by omega)).trans e9
    refine ⟨?_, ?_, ?_, ((hrow.below hb22).below hb).cell (Nat.lt_succ_self _)⟩ <;> rw [cell_of_row _ _ _ _ _ _ e] <;> rfl
  have HE : Hid (∀ w', Below W2.heap.size W2 w' → Calls Try.prog 19 #[.agg #[.slice (some ⟨O, 0, none⟩) q.tail.length q.tail.length, .slice (some ⟨G, 0, none⟩) (Sp.landK q + 1) (Sp.landK q + 1), .int .i64 ((Sp.landK q : Nat) : Int)], .func (.func 20) #[.agg #[.slice (some ⟨O, 0, none⟩) q.tail.length q.tail.length, .slice (some ⟨G, 0, none⟩) (Sp.landK q + 1) (Sp.landK q + 1), .int .i64 ((Sp.landK q : Nat) : Int)]] #[]] w' fun e w'' => ∃ lv, e = .returned lv ∧ OwnI w'' w'.heap.size lv ((List.range q.tail.length).map (Sp.rise (Sp.splitL q f d0 a jb) ((List.range (Sp.landK q + 1)).map D))) ∧ Below w'.heap.size w' w'') := hide fun w' hb => unhide HEa w' O G D (own_below (own_below (own_base hO (Nat.zero_le _)) hb22) hb) ((hrow.below hb22).below hb) hD
  have HB2 := hide (((unhide HB1).1.trans (hb2.mono (unhide HB1).2)).trans (hb22.mono hw2))
  have HW2 : Hid (w2.heap.size + 1 = W2.heap.size ∧ w.heap.size ≤ W2.heap.size) := hide ⟨hs2.symm, by omega⟩
  have HD := hide hD
  have hKI : ((Sp.landK q : Nat) : Int) < ((Sp.landK q : Nat) : Int) + 1 := by omega
  clear hb2 HB1 HC hq hs hO hG hrow hD hb22 hs2 e9 HEa hw2
  go_upto_region 4 with fail
  rw [← hW2]
  clear hW2
  have hbq := (Below.refl W2.heap.size W2).drew
  refine wp_region_G (fun w' => w'.cell? ⟨w2.heap.size, 0, none⟩ = some (.slice (some ⟨O, 0, none⟩) q.tail.length q.tail.length) ∧ w'.cell? ⟨w2.heap.size, 1, none⟩ = some (.slice (some ⟨G, 0, none⟩) (Sp.landK q + 1) (Sp.landK q + 1)) ∧ w'.cell? ⟨w2.heap.size, 2, none⟩ = some (.int .i64 ((Sp.landK q : Nat) : Int)) ∧ w'.cell? ⟨G, Sp.landK q, none⟩ = some (.int .i64 (D (Sp.landK q)))) (fun _ => false) (by kernel_rfl) (unhide HS9 _ hbq) (fun hHeld => ?_)
  generalize W2.drew = wq at *
  refine wpAnyG_take (v := ?_) 0 (by rfl) (by kernel_rfl) (by kernel_rfl) (by kernel_rfl) (by kernel_rfl) (fun _ _ _ h => h) (Or.inl ⟨by rfl, ?_⟩) (by assumption) ?_
  rotate_left
  · (intro w' hSw; (try dsimp only at hSw); (try simp only [List.getElem_toArray, List.getElem_cons_zero]); go_simp; try (with_reducible rfl))
  simp only [Act.put, List.getElem_toArray, List.getElem_cons_zero, List.setIfInBounds_toArray, List.set_cons_zero, List.set_cons_succ]
  refine wpAnyG_take (v := ?_) 1 (by rfl) (by kernel_rfl) (by kernel_rfl) (by kernel_rfl) (by kernel_rfl) (fun _ _ _ h => h) (Or.inl ⟨by rfl, ?_⟩) (by assumption) ?_
  rotate_left
  · (intro w' hSw; (try dsimp only at hSw); (try simp only [List.getElem_toArray, List.getElem_cons_succ, List.getElem_cons_zero]); go_simp; try (with_reducible rfl))
  simp only [Act.put, List.getElem_toArray, List.getElem_cons_succ, List.getElem_cons_zero, List.setIfInBounds_toArray, List.set_cons_zero, List.set_cons_succ]
  refine wpAnyG_take (v := ?_) 2 (by rfl) (by kernel_rfl) (by kernel_rfl) (by kernel_rfl) (by kernel_rfl) (fun _ _ _ h => h) (Or.inl ⟨by rfl, ?_⟩) (by assumption) ?_
  rotate_left
  · (intro w' hSw; (try dsimp only at hSw); (try simp only [List.getElem_toArray, List.getElem_cons_succ, List.getElem_cons_zero]); go_simp; try (with_reducible rfl))
  simp only [Act.put, List.getElem_toArray, List.getElem_cons_succ, List.getElem_cons_zero, List.setIfInBounds_toArray, List.set_cons_zero, List.set_cons_succ]
  refine wpAnyG_take (v := ?_) 4 (by rfl) (by kernel_rfl) (by kernel_rfl) (by kernel_rfl) (by kernel_rfl) (fun _ _ _ h => h) (Or.inl ⟨by rfl, ?_⟩) (by assumption) ?_
  rotate_left
  · (intro w' hSw; (try dsimp only at hSw); (try simp only [List.getElem_toArray, List.getElem_cons_succ, List.getElem_cons_zero]); go_simp; try (with_reducible rfl))
  simp only [Act.put, List.getElem_toArray, List.getElem_cons_succ, List.getElem_cons_zero, List.setIfInBounds_toArray, List.set_cons_zero, List.set_cons_succ]
  refine wpAnyG_take (v := ?_) 5 (by rfl) (by kernel_rfl) (by kernel_rfl) (by kernel_rfl) (by kernel_rfl) (fun _ _ _ h => h) (Or.inl ⟨by rfl, ?_⟩) (by assumption) ?_
  rotate_left
  · (intro w' hSw; (try dsimp only at hSw); (try simp only [List.getElem_toArray, List.getElem_cons_succ, List.getElem_cons_zero]); go_simp; try (with_reducible rfl))
  simp only [Act.put, List.getElem_toArray, List.getElem_cons_succ, List.getElem_cons_zero, List.setIfInBounds_toArray, List.set_cons_zero, List.set_cons_succ]
  refine wpAnyG_take (v := ?_) 6 (by rfl) (by kernel_rfl) (by kernel_rfl) (by kernel_rfl) (by kernel_rfl) (fun _ _ _ h => h) (Or.inl ⟨by rfl, ?_⟩) (by assumption) ?_
  rotate_left
  · (intro w' hSw; (try dsimp only at hSw); (try simp only [List.getElem_toArray, List.getElem_cons_succ, List.getElem_cons_zero]); go_simp; try (with_reducible rfl))
  simp only [Act.put, List.getElem_toArray, List.getElem_cons_succ, List.getElem_cons_zero, List.setIfInBounds_toArray, List.set_cons_zero, List.set_cons_succ]
  refine wpAnyG_take (v := ?_) 7 (by rfl) (by kernel_rfl) (by kernel_rfl) (by kernel_rfl) (by kernel_rfl) (fun _ _ _ h => h) (Or.inl ⟨by rfl, ?_⟩) (by assumption) ?_
  rotate_left
  · (intro w' hSw; (try dsimp only at hSw); (try simp only [List.getElem_toArray, List.getElem_cons_succ, List.getElem_cons_zero]); go_simp; try (with_reducible rfl))
  simp only [Act.put, List.getElem_toArray, List.getElem_cons_succ, List.getElem_cons_zero, List.setIfInBounds_toArray, List.set_cons_zero, List.set_cons_succ]
  refine wpAnyG_take (v := ?_) 8 (by rfl) (by kernel_rfl) (by kernel_rfl) (by kernel_rfl) (by kernel_rfl) (fun _ _ _ h => h) (Or.inl ⟨by rfl, ?_⟩) (by assumption) ?_
  rotate_left
  · (intro w' hSw; (try dsimp only at hSw); (try simp only [List.getElem_toArray, List.getElem_cons_succ, List.getElem_cons_zero]); go_simp; try (with_reducible rfl))
  simp only [Act.put, List.getElem_toArray, List.getElem_cons_succ, List.getElem_cons_zero, List.setIfInBounds_toArray, List.set_cons_zero, List.set_cons_succ]
  refine wpAnyG_take (v := ?_) 9 (by rfl) (by kernel_rfl) (by kernel_rfl) (by kernel_rfl) (by kernel_rfl) (fun _ _ _ h => h) (Or.inl ⟨by rfl, ?_⟩) (by assumption) ?_
  rotate_left
  · (intro w' hSw; (try dsimp only at hSw); (try simp only [List.getElem_toArray, List.getElem_cons_succ, List.getElem_cons_zero]); go_simp; try (with_reducible rfl))
  simp only [Act.put, List.getElem_toArray, List.getElem_cons_succ, List.getElem_cons_zero, List.setIfInBounds_toArray, List.set_cons_zero, List.set_cons_succ]
  refine wpAnyG_ready [3] (by kernel_rfl) (by simp) ?_
  refine AllReadyG.cons 3 (by rfl) (fun K hK => ?_) ?_
  · simp only [List.getElem_toArray, List.getElem_cons_succ, List.getElem_cons_zero]
    go_simp
    go_at_call 19
    refine (unhide HE _ hbq).mono ?_
    rintro e we ⟨lv, rfl, hO, hle⟩
    have hbe : Below W2.heap.size W2 we := Below.trans hbq (hle.mono hbq.size)
    have hszq := hbq.size
    refine hK.out _ _ (unhide HS9 _ hbe) (fun _ => ?_)
    clear hK K
    try simp only [Act.put, List.setIfInBounds_toArray, List.set_cons_zero, List.set_cons_succ]
    refine wpAnyG_take (v := ?_) 10 (by rfl) (by kernel_rfl) (by kernel_rfl) (by kernel_rfl) (by kernel_rfl) (fun _ _ _ h => h) (Or.inl ⟨by rfl, ?_⟩) (by assumption) ?_
    rotate_left
    · (intro w' hSw; (try dsimp only at hSw); (try simp only [List.getElem_toArray, List.getElem_cons_succ, List.getElem_cons_zero]); go_simp; try (with_reducible rfl))
    simp only [Act.put, List.getElem_toArray, List.getElem_cons_succ, List.getElem_cons_zero, List.setIfInBounds_toArray, List.set_cons_zero, List.set_cons_succ]
    refine wpAnyG_take (v := ?_) 11 (by rfl) (by kernel_rfl) (by kernel_rfl) (by kernel_rfl) (by kernel_rfl) (fun _ _ _ h => h) (Or.inl ⟨by rfl, ?_⟩) (by assumption) ?_
    rotate_left
    · (intro w' hSw; (try dsimp only at hSw); (try simp only [List.getElem_toArray, List.getElem_cons_succ, List.getElem_cons_zero]); go_simp; try (with_reducible rfl))
    simp only [Act.put, List.getElem_toArray, List.getElem_cons_succ, List.getElem_cons_zero, List.setIfInBounds_toArray, List.set_cons_zero, List.set_cons_succ]
    refine wpAnyG_take (v := ?_) 12 (by rfl) (by kernel_rfl) (by kernel_rfl) (by kernel_rfl) (by kernel_rfl) (fun _ _ _ h => h) (Or.inl ⟨by rfl, ?_⟩) (by assumption) ?_
    rotate_left
    · (intro w' hSw; (try dsimp only at hSw); (try simp only [List.getElem_toArray, List.getElem_cons_succ, List.getElem_cons_zero]); go_simp; try (with_reducible rfl))
    simp only [Act.put, List.getElem_toArray, List.getElem_cons_succ, List.getElem_cons_zero, List.setIfInBounds_toArray, List.set_cons_zero, List.set_cons_succ]
    refine wpAnyG_done (by kernel_rfl) ?_ _
    refine NoPanic.normal ?_
    clear hHeld
    have HFi := hide (And.intro (own_base hO (B' := w.heap.size) (by have := unhide HW2; omega)) ((unhide HB2).trans (hbe.mono (unhide HW2).2)))
    clear hO hle hbe hbq
    go_wp2
    rw [unhide HP]
    go_ret3
    exact ⟨lv, D, rfl, (unhide HFi).1, (unhide HFi).2, unhide HD⟩
  exact AllReadyG.nil
end Go.Proofs.Ytoegjnolccabjab


/- Ways along tight arcs (P601: Way). -/
namespace Go.Proofs.Ytoegjnolccabjab
open Go Go.RowKit

/-- Whether the way from v may go on by arc i. -/
def Sp.tt (L : List Sp.Arc) (y : Nat → Int) (v i : Nat) : Bool := decide ((L.getD i Sp.arc0).f = v) && (decide (y ((L.getD i Sp.arc0).t * 2) + (L.getD i Sp.arc0).l = y (v * 2)) && decide (y ((L.getD i Sp.arc0).t * 2 + 1) + 1 = y (v * 2 + 1)))
def Sp.WayIs (L : List Sp.Arc) (y : Nat → Int) (t : Nat) : Nat → List Nat → Prop
  | v, [] => v = t
  | v, i :: r => v ≠ t ∧ i < L.length ∧ Sp.tt L y v i = true ∧ (∀ k, k < i → Sp.tt L y v k = false) ∧ Sp.WayIs L y t (L.getD i Sp.arc0).t r
theorem Sp.tt_iff {L : List Sp.Arc} {y : Nat → Int} {v i : Nat} : Sp.tt L y v i = true ↔ (L.getD i Sp.arc0).f = v ∧ y ((L.getD i Sp.arc0).t * 2) + (L.getD i Sp.arc0).l = y (v * 2) ∧ y ((L.getD i Sp.arc0).t * 2 + 1) + 1 = y (v * 2 + 1) := by
  unfold Sp.tt
  rw [Bool.and_eq_true, Bool.and_eq_true, decide_eq_true_eq, decide_eq_true_eq, decide_eq_true_eq]
/-- The row of costs that Way works with: from t on, against the arcs. -/
structure Sp.Tow (L : List Sp.Arc) (t n : Nat) (y : Nat → Int) : Prop where
  sh : Sp.Short 345876451382054092800 (Sp.pairL 300 (L.map Sp.sw)) t n (Sp.rk y)
  bd : Sp.Bd n n y
theorem Sp.Tow.on {L : List Sp.Arc} {t n : Nat} {y : Nat → Int} (h : Sp.Tow L t n y) (hn : n ≤ 200) (hL : ∀ a ∈ L, a.f < n ∧ a.t < n) {v : Nat} (hv : v < n) (hvt : v ≠ t) (hf : y (v * 2) ≠ 1152921504606846976) : ∃ i, i < L.length ∧ Sp.tt L y v i = true := by
  obtain ⟨m, hm⟩ := h.sh.att v hv (fun e => hf ((h.bd.far (by omega) hv).1 e))
  cases m with
  | zero => exact absurd hm.1 hvt
  | succ m =>
    obtain ⟨b, hb, hbt, hw⟩ := hm
    obtain ⟨a', ha', rfl⟩ := Sp.mem_pairL.1 hb
    obtain ⟨a, ha, rfl⟩ := List.mem_map.1 ha'
    have hbt' : a.f = v := hbt
    have h1 : Sp.Wk (Sp.pairL 300 (L.map Sp.sw)) t m a.t (Sp.rk y v - (300 * a.l + 1)) := hw
    obtain ⟨h2, h3⟩ := h.sh.low (by omega) m _ _ h1
    have h4 : Sp.rk y a.f ≤ Sp.rk y a.t + (300 * a.l + 1) := (h.sh.arc _ hb h2).2
    rw [hbt'] at h4
    have h5 : y (a.t * 2) ≠ 1152921504606846976 := fun e => h2 ((h.bd.far (by omega) (hL a ha).2).2 e)
    have b1 := h.bd v hv
    have b2 := h.bd a.t (hL a ha).2
    obtain ⟨i, hi, e⟩ := List.mem_iff_getElem.1 ha
    refine ⟨i, hi, Sp.tt_iff.2 ?_⟩
    have e2 : L.getD i Sp.arc0 = a := by rw [List.getD_eq_getElem?_getD, List.getElem?_eq_getElem hi]; exact e
    rw [e2]
    unfold Sp.rk at h3 h4
    refine ⟨hbt', ?_⟩
    rcases b1 with b1 | b1
    · exact absurd b1.1 hf
    · rcases b2 with b2 | b2
      · exact absurd b2.1 h5
      · omega
theorem Sp.Tow.root {L : List Sp.Arc} {t n : Nat} {y : Nat → Int} (h : Sp.Tow L t n y) (ht : t < n) : y (t * 2) = 0 ∧ y (t * 2 + 1) = 0 := by
  have h0 := h.sh.src
  have h1 := h.bd t ht
  unfold Sp.rk at h0
  rcases h1 with h1 | h1
  · omega
  · omega
theorem Sp.Tow.many {L : List Sp.Arc} {t n : Nat} {y : Nat → Int} (h : Sp.Tow L t n y) {v : Nat} (hv : v < n) : ∃ g : Nat, y (v * 2 + 1) = (g : Int) ∧ g ≤ n := by
  rcases h.bd v hv with h1 | h1
  · exact ⟨0, h1.2, Nat.zero_le _⟩
  · exact ⟨(y (v * 2 + 1)).toNat, by omega, by omega⟩
theorem Sp.WayIs.snoc {L : List Sp.Arc} {y : Nat → Int} {t s v i : Nat} {W : List Nat} (h : ∀ r, Sp.WayIs L y t v r → Sp.WayIs L y t s (W ++ r)) (hv : v ≠ t) (hi : i < L.length) (hb : Sp.tt L y v i = true) (hk : ∀ k, k < i → Sp.tt L y v k = false) : ∀ r, Sp.WayIs L y t (L.getD i Sp.arc0).t r → Sp.WayIs L y t s (W ++ [i] ++ r) := fun r hr => by
  rw [List.append_assoc]
  exact h (i :: r) ⟨hv, hi, hb, hk, hr⟩
/-- Of the same lengths there is one way. -/
theorem Sp.WayIs.uniq {L : List Sp.Arc} {y y' : Nat → Int} {t : Nat} (hy : ∀ v i, Sp.tt L y v i = Sp.tt L y' v i) : ∀ (W W' : List Nat) (v : Nat), Sp.WayIs L y t v W → Sp.WayIs L y' t v W' → W = W'
  | [], [], _, _, _ => rfl
  | [], i :: r, v, h, h' => absurd h h'.1
  | i :: r, [], v, h, h' => absurd h' h.1
  | i :: r, i' :: r', v, h, h' => by
    obtain ⟨-, h2, h3, h4, h5⟩ := h
    obtain ⟨-, k2, k3, k4, k5⟩ := h'
    have e : i = i' := by
      rcases Nat.lt_trichotomy i i' with e | e | e
      · have := k4 i e; rw [← hy, h3] at this; cases this
      · exact e
      · have := h4 i' e; rw [hy, k3] at this; cases this
    subst e
    rw [Sp.WayIs.uniq hy r r' _ h5 k5]
end Go.Proofs.Ytoegjnolccabjab


/- Passes as the program and the reference make them (P601: Any). -/
namespace Go.Proofs.Ytoegjnolccabjab
open Go Go.RowKit

def Sp.still (L : List Sp.Arc) (D : Nat → Int) : Prop := ∀ a ∈ L, D a.f ≠ 1152921504606846976 → ¬ D a.f + a.l < D a.t
/-- The row behind k passes. -/
def Sp.pk (L : List Sp.Arc) (s k : Nat) : Nat → Int := Sp.ps 1152921504606846976 L (Sp.d0 1152921504606846976 s) k
/-- Beyond the places nothing is asked. -/
theorem Sp.Short.ex {n s : Nat} {L : List Sp.Arc} {D : Nat → Int} (hL : ∀ a ∈ L, a.f < n ∧ a.t < n) (hs : s < n) (hD : Sp.Short 1152921504606846976 L s n D) (hb : ∀ v, v < n → D v ≠ 1152921504606846976 → D v < 1152921504606846976) : ∃ D, Sp.Short 1152921504606846976 L s n D ∧ ∀ v, D v ≠ 1152921504606846976 → D v < 1152921504606846976 := by
  refine ⟨fun v => if v < n then D v else 1152921504606846976, ⟨?_, fun a ha hne => ?_, fun v hv hne => ?_⟩, fun v hne => ?_⟩
  · show (if s < n then D s else _) = 0
    rw [if_pos hs]; exact hD.src
  · have h1 := hL a ha
    rw [if_pos h1.1] at hne
    show (if a.t < n then D a.t else _) ≠ _ ∧ (if a.t < n then D a.t else _) ≤ (if a.f < n then D a.f else _) + a.l
    rw [if_pos h1.1, if_pos h1.2]
    exact hD.arc a ha hne
  · rw [if_pos hv] at hne
    obtain ⟨m, hm⟩ := hD.att v hv hne
    refine ⟨m, ?_⟩
    show Sp.Wk L s m v (if v < n then D v else _)
    rw [if_pos hv]; exact hm
  · have hne1 : (if v < n then D v else (1152921504606846976 : Int)) ≠ 1152921504606846976 := hne
    show (if v < n then D v else (1152921504606846976 : Int)) < 1152921504606846976
    by_cases hv : v < n
    · rw [if_pos hv] at hne1 ⊢; exact hb v hv hne1
    · rw [if_neg hv] at hne1; exact absurd rfl hne1
end Go.Proofs.Ytoegjnolccabjab


/- The reference's heights. -/
namespace Go.Proofs.Ytoegjnolccabjab
open Go Go.RowKit

def Sp.endsE (q : Sp.Net) (s t : Int) : Int := if ¬ ((0 ≤ s ∧ s < q.n) ∧ (0 ≤ t ∧ t < q.n)) then 3 else if s = t then 9 else 0
theorem Sp.ends_ok {q : Sp.Net} {s t : Int} (h : Sp.endsE q s t = 0) : (0 ≤ s ∧ s < q.n) ∧ (0 ≤ t ∧ t < q.n) ∧ s ≠ t ∧ ((Sp.shared q s t).2 = false → Sp.rimE q s t = 10) := by
  unfold Sp.endsE at h
  unfold Sp.rimE
  split at h
  · cases h
  · rename_i h1
    split at h
    · cases h
    · rename_i h2
      have h3 := Classical.not_not.1 h1
      refine ⟨h3.1, h3.2, h2, fun h4 => ?_⟩
      rw [if_neg h1, if_neg h2, if_neg (by rw [h4]; decide)]
end Go.Proofs.Ytoegjnolccabjab


/- Package rim: the chapter's example and an edge, as the law has them. -/
namespace Go.Proofs.Ytoegjnolccabjab
open Go Go.RowKit

theorem q1_rim : Sp.RimQ Sp.q1 := ⟨q1_link, by decide, by decide, by decide, fun x hx => (by cases hx), fun i hi => absurd hi (Nat.not_lt_zero _), by decide, by decide +kernel⟩
theorem q0_rim : Sp.RimQ Sp.q0 := ⟨q0_link, by decide, by decide, by decide, fun x hx => by
  have h : x ∈ [(5 : Int), 3] := hx
  simp only [List.mem_cons, List.not_mem_nil, or_false] at h
  rcases h with rfl | rfl <;> decide, fun i hi => by
  have hi' : i < 2 := hi
  rw [q0_faces2]
  rcases (show i = 0 ∨ i = 1 by omega) with rfl | rfl <;> decide, q0_walk, q0_check⟩
theorem q1_rimE : Sp.rimE Sp.q1 0 0 = 9 := by unfold Sp.rimE; rw [if_neg (by decide), if_pos rfl]
theorem q0_short : Sp.Short 1152921504606846976 [⟨0, 1, 5⟩, ⟨1, 0, 3⟩] 0 2 (fun v => if v = 0 then 0 else 5) where
  src := rfl
  arc := fun a ha _ => by
    simp only [List.mem_cons, List.not_mem_nil, or_false] at ha
    rcases ha with rfl | rfl <;> decide
  att := fun v hv _ => by
    rcases (show v = 0 ∨ v = 1 by omega) with rfl | rfl
    · exact ⟨0, rfl, rfl⟩
    · exact ⟨1, ⟨0, 1, 5⟩, List.mem_cons_self .., rfl, rfl, rfl⟩
theorem q0_D {D : Nat → Int} (h : Sp.Short 1152921504606846976 (Sp.rimR (Sp.splitL Sp.q0 0 0 0 1) Sp.q0.cap Sp.q0.tail.length) 0 (Sp.landK Sp.q0 + 1) D) : D 0 = 0 ∧ D 1 = 5 := by
  have hk : Sp.landK Sp.q0 + 1 = 2 := by unfold Sp.landK; rw [q0_faces2]; rfl
  rw [q0_splitL, hk] at h
  have h2 : Sp.Short 1152921504606846976 [⟨0, 1, 5⟩, ⟨1, 0, 3⟩] 0 2 D := h
  exact ⟨h2.uniq q0_short (by decide) (by decide), h2.uniq q0_short (by decide) (by decide)⟩
theorem q0_row {D : Nat → Int} (h0 : D 0 = 0) (h1 : D 1 = 5) : (List.range Sp.q0.tail.length).map (Sp.rise (Sp.splitL Sp.q0 0 0 0 1) ((List.range (Sp.landK Sp.q0 + 1)).map D)) = [5, -5] := by
  have hk : Sp.landK Sp.q0 + 1 = 2 := by unfold Sp.landK; rw [q0_faces2]; rfl
  rw [q0_splitL, hk]
  show [D 1 - D 0, D 0 - D 1] = [5, -5]
  rw [h0, h1]
  rfl
set_option maxRecDepth 100000 in
set_option maxHeartbeats 2000000 in
theorem known8_any (w : World) :
    Calls Try.prog 7 #[] w fun e w' => e = .returned (.bool true) ∧ Below w.heap.size w w' := by
  have HL := hide (lit_net w 2 [0, 1] [0, 1] [5, 3] 2 2 2 rfl rfl rfl (by simp))
  obtain ⟨P, hP⟩ : ∃ P : Ending → World → Prop, P = fun e w' => e = .returned (.bool true) ∧ Below w.heap.size w w' := ⟨_, rfl⟩
  rw [← hP]
  have HP := hide hP
  clear hP
  go_enter Try.func7, Try.ntmps7
  go_wp2_with fail
  have hWW : ((((w.alloc (.cells #[.int .i64 0, .int .i64 1] 3)).alloc (.cells #[.int .i64 0, .int .i64 1] 3)).alloc (.cells #[.int .i64 5, .int .i64 3] 3)).alloc (.cells #[.int .i64 2, .slice (some ⟨w.heap.size, 0, none⟩) 2 2, .slice (some ⟨w.heap.size + 1, 0, none⟩) 2 2, .slice (some ⟨w.heap.size + 1 + 1, 0, none⟩) 2 2] 26)) = ((((w.alloc (.cells (([0, 1] : List Int).map (Value.int .i64)).toArray 3)).alloc (.cells (([0, 1] : List Int).map (Value.int .i64)).toArray 3)).alloc (.cells (([5, 3] : List Int).map (Value.int .i64)).toArray 3)).alloc (.cells #[.int .i64 2, .slice (some ⟨w.heap.size, 0, none⟩) 2 2, .slice (some ⟨w.heap.size + 1, 0, none⟩) 2 2, .slice (some ⟨w.heap.size + 1 + 1, 0, none⟩) 2 2] 26)) := rfl
  rw [← hWW] at HL
  clear hWW
  have hs4 : ((((w.alloc (.cells #[.int .i64 0, .int .i64 1] 3)).alloc (.cells #[.int .i64 0, .int .i64 1] 3)).alloc (.cells #[.int .i64 5, .int .i64 3] 3)).alloc (.cells #[.int .i64 2, .slice (some ⟨w.heap.size, 0, none⟩) 2 2, .slice (some ⟨w.heap.size + 1, 0, none⟩) 2 2, .slice (some ⟨w.heap.size + 1 + 1, 0, none⟩) 2 2] 26)).heap.size = w.heap.size + 4 := by simp
  generalize ((((w.alloc (.cells #[.int .i64 0, .int .i64 1] 3)).alloc (.cells #[.int .i64 0, .int .i64 1] 3)).alloc (.cells #[.int .i64 5, .int .i64 3] 3)).alloc (.cells #[.int .i64 2, .slice (some ⟨w.heap.size, 0, none⟩) 2 2, .slice (some ⟨w.heap.size + 1, 0, none⟩) 2 2, .slice (some ⟨w.heap.size + 1 + 1, 0, none⟩) 2 2] 26)) = W4 at *
  have HT : Hid (∀ w2 w3, Below (w.heap.size + 4) W4 w2 → Below w2.heap.size w2 w3 → Below (w.heap.size + 4) W4 w3) := hide fun w2 w3 h2 h3 => h2.trans (h3.mono (unhide HL w2 h2).2.2.1)
  have hb4 : Below (w.heap.size + 4) W4 W4 := Below.refl _ _
  have HX : Hid (∀ w', Below (w.heap.size + 4) W4 w' → w'.cell? ⟨w.heap.size + 1 + 1 + 1, 0, none⟩ = some (.int .i64 2) ∧ w'.cell? ⟨w.heap.size + 1 + 1 + 1, 1, none⟩ = some (.slice (some ⟨w.heap.size, 0, none⟩) 2 2) ∧ w'.cell? ⟨w.heap.size + 1 + 1 + 1, 2, none⟩ = some (.slice (some ⟨w.heap.size + 1, 0, none⟩) 2 2) ∧ w'.cell? ⟨w.heap.size + 1 + 1 + 1, 3, none⟩ = some (.slice (some ⟨w.heap.size + 1 + 1, 0, none⟩) 2 2)) := hide fun w' hb => (unhide HL w' hb).2.2.2
  clear hs4
  go_at_call 12
  refine (rmheights_err Sp.q1 _ _ _ _ 0 0 W4 ⟨rfl, ints_nil _, ints_nil _, ints_nil _⟩ q1_rim (by rw [q1_rimE]; decide)).mono ?_
  rw [q1_rimE]
  rintro e w5 ⟨rfl, hb5⟩
  replace hb5 := unhide HT _ _ hb4 hb5
  clear hb4
  obtain ⟨x0, x1, x2, x3⟩ := unhide HX w5 hb5
  go_wp2_with fail
  go_at_call 9
  refine (rmflow_yes Sp.q0 _ _ _ _ 0 1 w5 (unhide HL w5 hb5).1 q0_rim 0 0 0 1 (by decide) (by decide) (by decide) q0_split).mono ?_
  rintro e w6 ⟨lv, D, rfl, hO, hb6, hD⟩
  obtain ⟨e0, e1⟩ := q0_D hD.1
  rw [q0_row e0 e1] at hO
  have hk : D (Sp.landK Sp.q0) = 5 := by
    have hk1 : Sp.landK Sp.q0 = 1 := by unfold Sp.landK; rw [q0_faces2]; rfl
    rw [hk1]; exact e1
  rw [hk]
  obtain ⟨la, lc, rfl, -, -, HLa⟩ := (OwnI.ints hO).allA
  obtain ⟨b, o, rfl, -, hc0⟩ := unhide HLa 0 (by decide)
  obtain ⟨b', o', e2, -, hc1⟩ := unhide HLa 1 (by decide)
  injection e2 with e2
  injection e2 with q1 q2
  subst q1 q2
  have c0 := hc0 w6 (Below.refl _ _)
  have c1 := hc1 w6 (Below.refl _ _)
  have c0' : w6.cell? ⟨b, o, none⟩ = some (.int .i64 5) := c0
  have c1' : w6.cell? ⟨b, o + 1, none⟩ = some (.int .i64 (-5)) := c1
  have Hb6 := hide (unhide HL w6 (unhide HT _ _ hb5 hb6)).2.1
  have hl2 : ([5, -5] : List Int).length = 2 := rfl
  rw [hl2]
  clear hb5 hb6 hO hD e0 e1 hk HLa hc0 hc1 c0 c1 x0 x1 x2 x3 hl2
  go_wp2
  rw [unhide HP]
  exact ⟨rfl, unhide Hb6⟩
end Go.Proofs.Ytoegjnolccabjab


/- A tree by the order in which vertices are found (P401): what Span tells, as a recursion; what stays along it. -/
namespace Go.Proofs.Ytoegjnolccabjab
open Go Go.RowKit

/-- The darts from d on, c of them, of the vertex u: what is found by them. -/
def Sp.rowGo (T : List Int) (root u : Int) : Nat → Nat → List Int → List Int → List Int × List Int
  | 0, _, fl, up => (fl, up)
  | c + 1, d, fl, up =>
    if T.getD d 0 = u then
      if T.getD (Sp.oth d) 0 = root ∨ up.getD (T.getD (Sp.oth d) 0).toNat 0 ≠ -1 then Sp.rowGo T root u c (d + 1) fl up
      else Sp.rowGo T root u c (d + 1) (fl ++ [T.getD (Sp.oth d) 0]) (up.set (T.getD (Sp.oth d) 0).toNat ((Sp.oth d : Nat) : Int))
    else Sp.rowGo T root u c (d + 1) fl up
/-- What stays along the way. -/
structure Sp.SpSt (T : List Int) (root : Int) (N : Nat) (fl up : List Int) : Prop where
  len : up.length = N
  bd : ∀ x ∈ fl, 0 ≤ x ∧ x < (N : Int)
  nd : fl.Nodup
  hd : ∃ r, fl = root :: r
  rt : up.getD root.toNat 0 = -1
  mem : ∀ v : Nat, v < N → ((v : Int) ∈ fl ↔ (v : Int) = root ∨ up.getD v 0 ≠ -1)
  dart : ∀ v : Nat, v < N → up.getD v 0 ≠ -1 → ∃ d : Nat, d < T.length ∧ up.getD v 0 = (d : Int) ∧ T.getD d 0 = (v : Int) ∧ T.getD (Sp.oth d) 0 ∈ fl
theorem getD_set1 (l : List Int) (i k : Nat) (v : Int) (hi : i < l.length) : (l.set i v).getD k 0 = if i = k then v else l.getD k 0 := by
  rw [List.getD_eq_getElem?_getD, List.getElem?_set, List.getD_eq_getElem?_getD]
  by_cases h : i = k
  · subst h
    rw [if_pos rfl, if_pos hi, if_pos rfl]
    rfl
  · rw [if_neg h, if_neg h]
theorem getD_rep1 (n i : Nat) (x : Int) (h : i < n) : (List.replicate n x).getD i 0 = x := by
  rw [List.getD_eq_getElem?_getD, List.getElem?_replicate, if_pos h]; rfl
theorem Sp.SpSt.first (T : List Int) {root : Int} {N : Nat} (h0 : 0 ≤ root) (h1 : root < (N : Int)) : Sp.SpSt T root N [root] (List.replicate N (-1)) := by
  refine ⟨by simp, fun x hx => ?_, by simp, ⟨[], rfl⟩, getD_rep1 _ _ _ (by omega), fun v hv => ?_, fun v hv e => absurd (getD_rep1 _ _ _ hv) e⟩
  · simp at hx; subst hx; exact ⟨h0, h1⟩
  · rw [getD_rep1 _ _ _ hv]
    simp
/-- A vertex is found. -/
theorem Sp.SpSt.find {T : List Int} {root : Int} {N : Nat} {fl up : List Int} (h : Sp.SpSt T root N fl up) (hT : ∀ x ∈ T, 0 ≤ x ∧ x < (N : Int)) (hev : T.length % 2 = 0) {d : Nat} (hd : d < T.length) (hu : T.getD d 0 ∈ fl) (hn : ¬ (T.getD (Sp.oth d) 0 = root ∨ up.getD (T.getD (Sp.oth d) 0).toNat 0 ≠ -1)) :
    Sp.SpSt T root N (fl ++ [T.getD (Sp.oth d) 0]) (up.set (T.getD (Sp.oth d) 0).toNat ((Sp.oth d : Nat) : Int)) := by
  have ho := oth_lt hd hev
  have hb := hT _ (Sp.getD_mem (l := T) ho)
  have hv : (T.getD (Sp.oth d) 0).toNat < N := by omega
  have hvi : (((T.getD (Sp.oth d) 0).toNat : Nat) : Int) = T.getD (Sp.oth d) 0 := by omega
  have hnm : ¬ T.getD (Sp.oth d) 0 ∈ fl := fun hm => hn (by
    have := (h.mem _ hv).1 (by rw [hvi]; exact hm)
    rw [hvi] at this
    exact this)
  have hnr : T.getD (Sp.oth d) 0 ≠ root := fun e => hn (.inl e)
  obtain ⟨r, hr⟩ := h.hd
  have hrb := h.bd root (by rw [hr]; simp)
  refine ⟨by rw [List.length_set]; exact h.len, fun x hx => ?_, ?_, ⟨r ++ [T.getD (Sp.oth d) 0], by rw [hr]; rfl⟩, ?_, fun v hvN => ?_, fun v hvN e => ?_⟩
  · rcases List.mem_append.1 hx with h1 | h1
    · exact h.bd x h1
    · simp at h1; subst h1; exact hb
  · rw [List.nodup_append]
    refine ⟨h.nd, by simp, fun a ha b hb' e => ?_⟩
    simp at hb'
    subst hb' e
    exact hnm ha
  · rw [getD_set1 _ _ _ _ (by rw [h.len]; exact hv), if_neg (by omega)]
    exact h.rt
  · rw [getD_set1 _ _ _ _ (by rw [h.len]; exact hv), List.mem_append, h.mem v hvN]
    by_cases e : (T.getD (Sp.oth d) 0).toNat = v
    · rw [if_pos e]
      constructor
      · intro _; exact .inr (by omega)
      · intro _; exact .inr (List.mem_singleton.2 (by omega))
    · rw [if_neg e]
      constructor
      · rintro (h1 | h1)
        · exact h1
        · have := List.mem_singleton.1 h1; omega
      · intro h1; exact .inl h1
  · rw [getD_set1 _ _ _ _ (by rw [h.len]; exact hv)] at e ⊢
    by_cases e2 : (T.getD (Sp.oth d) 0).toNat = v
    · rw [if_pos e2]
      exact ⟨Sp.oth d, ho, rfl, by omega, by rw [oth_oth]; exact List.mem_append.2 (.inl hu)⟩
    · rw [if_neg e2] at e ⊢
      obtain ⟨c, c1, c2, c3, c4⟩ := h.dart v hvN e
      exact ⟨c, c1, c2, c3, List.mem_append.2 (.inl c4)⟩
theorem Sp.SpSt.row {T : List Int} {root : Int} {N : Nat} (hT : ∀ x ∈ T, 0 ≤ x ∧ x < (N : Int)) (hev : T.length % 2 = 0) {u : Int} : ∀ c d fl up, d + c = T.length → u ∈ fl → Sp.SpSt T root N fl up → Sp.SpSt T root N (Sp.rowGo T root u c d fl up).1 (Sp.rowGo T root u c d fl up).2 ∧ ∃ r, (Sp.rowGo T root u c d fl up).1 = fl ++ r
  | 0, d, fl, up, _, _, h => ⟨h, [], by simp [Sp.rowGo]⟩
  | c + 1, d, fl, up, hd, hu, h => by
    rw [Sp.rowGo]
    split
    · rename_i e
      split
      · exact Sp.SpSt.row hT hev c (d + 1) fl up (by omega) hu h
      · rename_i hn
        obtain ⟨h1, r, h2⟩ := Sp.SpSt.row hT hev c (d + 1) _ _ (by omega) (List.mem_append.2 (.inl hu)) (h.find hT hev (by omega) (by rw [e]; exact hu) hn)
        exact ⟨h1, [T.getD (Sp.oth d) 0] ++ r, by rw [h2, List.append_assoc]⟩
    · exact Sp.SpSt.row hT hev c (d + 1) fl up (by omega) hu h
/-- As many were found as there are vertices, at most. -/
theorem Sp.SpSt.le {T : List Int} {root : Int} {N : Nat} {fl up : List Int} (h : Sp.SpSt T root N fl up) : fl.length ≤ N := nodup_le N fl h.nd h.bd
end Go.Proofs.Ytoegjnolccabjab


/- The reference's Left (P401). -/
namespace Go.Proofs.Ytoegjnolccabjab
open Go Go.RowKit

/-- Is an edge's dart among the first j of the row? -/
def Sp.usedB (up : List Int) (d : Nat) : Nat → Bool
  | 0 => false
  | j + 1 => Sp.usedB up d j || up.getD j 0 == (d : Int) || up.getD j 0 == (d : Int) + 1
def Sp.leftGo (up : List Int) : Nat → Nat → List Int → List Int
  | 0, _, out => out
  | g + 1, e, out => if Sp.usedB up (2 * e) up.length = true then Sp.leftGo up g (e + 1) out else Sp.leftGo up g (e + 1) (out ++ [((2 * e : Nat) : Int)])
/-- The edges that are left. -/
def Sp.leftL (q : Sp.Net) (up : List Int) : List Int := Sp.leftGo up (q.tail.length / 2) 0 []
end Go.Proofs.Ytoegjnolccabjab


/- The reference's Right (P401). -/
namespace Go.Proofs.Ytoegjnolccabjab
open Go Go.RowKit

/-- Is the root come to from w, in g steps at most? -/
def Sp.reachGo (T up : List Int) (root : Int) : Nat → Nat → Bool
  | 0, w => decide ((w : Int) = root)
  | g + 1, w => if (w : Int) = root then true else Sp.reachGo T up root g (T.getD (Sp.oth (up.getD w 0).toNat) 0).toNat
end Go.Proofs.Ytoegjnolccabjab


/- Ways up: who comes to the root; a way that meets a vertex twice goes round (P401). -/
namespace Go.Proofs.Ytoegjnolccabjab
open Go Go.RowKit

/-- Where a vertex's dart leads. -/
def Sp.nx (T up : List Int) (x : Nat) : Nat := (T.getD (Sp.oth (up.getD x 0).toNat) 0).toNat
/-- In m steps from x to y, none of them from the root. -/
def Sp.Stp (T up : List Int) (root : Int) : Nat → Nat → Nat → Prop
  | 0, x, y => x = y
  | m + 1, x, y => (x : Int) ≠ root ∧ Sp.Stp T up root m (Sp.nx T up x) y
/-- The root is come to. -/
def Sp.Rc (T up : List Int) (root : Int) (x : Nat) : Prop := ∃ g, Sp.reachGo T up root g x = true
theorem Sp.reach_succ (T up : List Int) (root : Int) (g x : Nat) : Sp.reachGo T up root (g + 1) x = if (x : Int) = root then true else Sp.reachGo T up root g (Sp.nx T up x) := rfl
theorem Sp.reach_mono (T up : List Int) (root : Int) : ∀ g x, Sp.reachGo T up root g x = true → Sp.reachGo T up root (g + 1) x = true
  | 0, x, h => by
    rw [Sp.reach_succ, if_pos (of_decide_eq_true h)]
  | g + 1, x, h => by
    rw [Sp.reach_succ] at h ⊢
    split
    · rfl
    · rename_i hx
      rw [if_neg hx] at h
      exact Sp.reach_mono T up root g _ h
theorem Sp.reach_le (T up : List Int) (root : Int) {g g' x : Nat} (h : Sp.reachGo T up root g x = true) (hg : g ≤ g') : Sp.reachGo T up root g' x = true := by
  induction hg with
  | refl => exact h
  | step _ ih => exact Sp.reach_mono _ _ _ _ _ ih
theorem Sp.Stp.reach {T up : List Int} {root : Int} : ∀ {m x y : Nat}, Sp.Stp T up root m x y → ∀ g, Sp.reachGo T up root (g + m) x = Sp.reachGo T up root g y
  | 0, x, y, h, g => by rw [show x = y from h]; rfl
  | m + 1, x, y, h, g => by
    rw [show g + (m + 1) = (g + m) + 1 by omega, Sp.reach_succ, if_neg h.1]
    exact Sp.Stp.reach h.2 g
theorem Sp.Stp.snoc {T up : List Int} {root : Int} : ∀ {m x y : Nat}, Sp.Stp T up root m x y → (y : Int) ≠ root → Sp.Stp T up root (m + 1) x (Sp.nx T up y)
  | 0, x, y, h, hy => by
    obtain rfl : x = y := h
    exact ⟨hy, rfl⟩
  | m + 1, x, y, h, hy => ⟨h.1, Sp.Stp.snoc h.2 hy⟩
theorem Sp.Stp.rc {T up : List Int} {root : Int} {m x y : Nat} (h : Sp.Stp T up root m x y) : Sp.Rc T up root x ↔ Sp.Rc T up root y := by
  constructor
  · rintro ⟨g, hg⟩
    exact ⟨g, by rw [← h.reach]; exact Sp.reach_le _ _ _ hg (by omega)⟩
  · rintro ⟨g, hg⟩
    exact ⟨g + m, by rw [h.reach]; exact hg⟩
/-- What comes round does not come to the root. -/
theorem Sp.Stp.round {T up : List Int} {root : Int} {m x : Nat} (h : Sp.Stp T up root (m + 1) x x) : ¬ Sp.Rc T up root x := by
  rintro ⟨g, hg⟩
  induction g using Nat.strongRecOn with
  | ind g ih =>
    rcases Nat.lt_or_ge g (m + 1) with h1 | h1
    · have := Sp.reach_le _ _ _ hg (show g ≤ 0 + (m + 1) by omega)
      rw [h.reach] at this
      exact h.1 (of_decide_eq_true this)
    · have e := h.reach (g - (m + 1))
      rw [Nat.sub_add_cancel h1] at e
      exact ih (g - (m + 1)) (by omega) (by rw [← e]; exact hg)
/-- The vertices of a way. -/
def Sp.pl (T up : List Int) : Nat → Nat → List Int
  | 0, x => [(x : Int)]
  | g + 1, x => (x : Int) :: Sp.pl T up g (Sp.nx T up x)
/-- The first number of steps by which the root is come to. -/
def Sp.Mn (T up : List Int) (root : Int) (g x : Nat) : Prop := Sp.reachGo T up root g x = true ∧ ∀ g', g' < g → Sp.reachGo T up root g' x = false
theorem Sp.Mn.next {T up : List Int} {root : Int} {g x : Nat} (h : Sp.Mn T up root (g + 1) x) : (x : Int) ≠ root ∧ Sp.Mn T up root g (Sp.nx T up x) := by
  have hx : (x : Int) ≠ root := fun e => by
    have := h.2 0 (by omega)
    rw [show Sp.reachGo T up root 0 x = true from decide_eq_true e] at this
    cases this
  refine ⟨hx, ?_, fun g' hg' => ?_⟩
  · have := h.1
    rw [Sp.reach_succ, if_neg hx] at this
    exact this
  · have := h.2 (g' + 1) (by omega)
    rw [Sp.reach_succ, if_neg hx] at this
    exact this
theorem Sp.Rc.least {T up : List Int} {root : Int} {x : Nat} (h : Sp.Rc T up root x) : ∃ g, Sp.Mn T up root g x := by
  obtain ⟨g, hg⟩ := h
  induction g using Nat.strongRecOn with
  | ind g ih =>
    by_cases hm : ∃ g', g' < g ∧ Sp.reachGo T up root g' x = true
    · obtain ⟨g', h1, h2⟩ := hm
      exact ih g' h1 h2
    · exact ⟨g, hg, fun g' h1 => by
        cases h2 : Sp.reachGo T up root g' x with
        | false => rfl
        | true => exact absurd ⟨g', h1, h2⟩ hm⟩
end Go.Proofs.Ytoegjnolccabjab


/- Package tree: Right. -/
namespace Go.Proofs.Ytoegjnolccabjab
open Go Go.RowKit

/-- What the ways gone so far have left; v: the vertex that is gone up from, at: where it stands. -/
structure Sp.ByI (T up : List Int) (root : Int) (N v : Nat) (L : List Int) (C : Nat → Prop) : Prop where
  len : L.length = N
  mark : ∀ x, x < N → L.getD x 0 ≠ -1 → (0 ≤ L.getD x 0 ∧ L.getD x 0 < (v : Int) ∧ Sp.Rc T up root x) ∨ (L.getD x 0 = (v : Int) ∧ C x)
  all : ∀ y, y < v → Sp.Rc T up root y
/-- The way from v is done: it comes to where one comes to the root. -/
theorem Sp.ByI.done {T up : List Int} {root : Int} {N v t : Nat} {L : List Int} (h : Sp.ByI T up root N v L (fun x => ∃ m, Sp.Stp T up root (m + 1) x t)) (ht : Sp.Rc T up root t) (hv : ∃ m, Sp.Stp T up root m v t) : Sp.ByI T up root N (v + 1) L (fun _ => False) := by
  refine ⟨h.len, fun x hx hne => .inl ?_, fun y hy => ?_⟩
  · rcases h.mark x hx hne with ⟨a, b, c⟩ | ⟨a, m, b⟩
    · exact ⟨a, by omega, c⟩
    · exact ⟨by omega, by omega, b.rc.2 ht⟩
  · by_cases hyv : y = v
    · obtain ⟨m, b⟩ := hv
      rw [hyv]; exact b.rc.2 ht
    · exact h.all y (by omega)
/-- A vertex is marked, and gone on from. -/
theorem Sp.ByI.on {T up : List Int} {root : Int} {N v t : Nat} {L : List Int} (h : Sp.ByI T up root N v L (fun x => ∃ m, Sp.Stp T up root (m + 1) x t)) (ht : t < N) (hr : (t : Int) ≠ root) : Sp.ByI T up root N v (L.set t (v : Int)) (fun x => ∃ m, Sp.Stp T up root (m + 1) x (Sp.nx T up t)) := by
  refine ⟨by rw [List.length_set]; exact h.len, fun x hx hne => ?_, h.all⟩
  have hl := h.len
  rw [getD_set1 _ _ _ _ (by omega)] at hne ⊢
  by_cases hxt : t = x
  · rw [if_pos hxt]
    subst hxt
    exact .inr ⟨rfl, 0, hr, rfl⟩
  · rw [if_neg hxt] at hne ⊢
    rcases h.mark x hx hne with a | ⟨a, m, b⟩
    · exact .inl a
    · exact .inr ⟨a, m + 1, b.snoc hr⟩
end Go.Proofs.Ytoegjnolccabjab


/- What the laws of trees take of a plane net; what a tree's row is. -/
namespace Go.Proofs.Ytoegjnolccabjab
open Go Go.RowKit

/-- A tree's row. -/
structure Sp.RowT (T U : List Int) (r N : Nat) : Prop where
  len : U.length = N
  rN : r < N
  rt : U.getD r 0 = -1
  dart : ∀ v, v < N → v ≠ r → ∃ d : Nat, d < T.length ∧ U.getD v 0 = (d : Int) ∧ T.getD d 0 = (v : Int)
  rc : ∀ v, v < N → Sp.Rc T U (r : Int) v
theorem Sp.RowT.nx {T U : List Int} {r N : Nat} (_h : Sp.RowT T U r N) {v d : Nat} (e : U.getD v 0 = (d : Int)) : Sp.nx T U v = (T.getD (Sp.oth d) 0).toNat := by
  unfold Sp.nx; rw [e, Int.toNat_natCast]
theorem Sp.RowT.below {T U : List Int} {r N : Nat} (h : Sp.RowT T U r N) : ∀ z ∈ U, z < (T.length : Int) := fun z hz => by
  obtain ⟨v, hv, e⟩ := List.getElem_of_mem hz
  have hv' : v < N := by rw [← h.len]; exact hv
  have e2 : U.getD v 0 = z := by rw [Sp.getD_eq _ _ hv, e]
  by_cases hr : v = r
  · subst hr
    have := h.rt
    omega
  · obtain ⟨d, hd, e1, -⟩ := h.dart v hv' hr
    omega
/-- Two vertices do not hang on one edge. -/
theorem Sp.RowT.apart {T U : List Int} {r N : Nat} (h : Sp.RowT T U r N) {v w d e : Nat} (hv : v < N) (hw : w < N) (hvr : v ≠ r) (hwr : w ≠ r) (h1 : U.getD v 0 = (d : Int)) (h2 : U.getD w 0 = (e : Int)) (he : d / 2 = e / 2) : v = w := by
  obtain ⟨d', -, a1, a2⟩ := h.dart v hv hvr
  obtain ⟨e', -, b1, b2⟩ := h.dart w hw hwr
  obtain rfl : d' = d := by omega
  obtain rfl : e' = e := by omega
  by_cases hde : d' = e'
  · subst hde; omega
  · exfalso
    have ho : Sp.oth d' = e' := by unfold Sp.oth; split <;> omega
    have ho2 : Sp.oth e' = d' := by rw [← ho, oth_oth]
    have n1 : Sp.nx T U v = w := by rw [h.nx h1, ho, b2, Int.toNat_natCast]
    have n2 : Sp.nx T U w = v := by rw [h.nx h2, ho2, a2, Int.toNat_natCast]
    have : Sp.Stp T U (r : Int) 2 v v := ⟨by omega, by rw [n1]; exact ⟨by omega, n2⟩⟩
    exact this.round (h.rc v hv)
/-- The edges that are used. -/
theorem Sp.usedB_ex (up : List Int) (d : Nat) : ∀ j, Sp.usedB up d j = true ↔ ∃ i, i < j ∧ (up.getD i 0 = (d : Int) ∨ up.getD i 0 = (d : Int) + 1)
  | 0 => ⟨fun h => (by cases h), fun ⟨i, h, _⟩ => (by omega)⟩
  | j + 1 => by
    rw [Sp.usedB, Bool.or_eq_true, Bool.or_eq_true, Sp.usedB_ex up d j, beq_iff_eq, beq_iff_eq]
    constructor
    · rintro ((⟨i, h1, h2⟩ | h) | h)
      · exact ⟨i, by omega, h2⟩
      · exact ⟨j, by omega, .inl h⟩
      · exact ⟨j, by omega, .inr h⟩
    · rintro ⟨i, h1, h2⟩
      by_cases h : i = j
      · subst h
        rcases h2 with h2 | h2
        · exact .inl (.inr h2)
        · exact .inr h2
      · exact .inl (.inl ⟨i, by omega, h2⟩)
theorem Sp.leftGo_eq (up : List Int) : ∀ g e out, Sp.leftGo up g e out = out ++ ((List.range' e g).filter (fun e => !Sp.usedB up (2 * e) up.length)).map (fun e => ((2 * e : Nat) : Int))
  | 0, e, out => by simp [Sp.leftGo]
  | g + 1, e, out => by
    rw [Sp.leftGo, List.range'_succ, List.filter_cons]
    split
    · rename_i h
      rw [Sp.leftGo_eq up g (e + 1) out, h]
      simp
    · rename_i h
      rw [Sp.leftGo_eq up g (e + 1) _, if_pos (by simpa using h), List.map_cons, List.append_assoc]
      rfl
theorem Sp.leftL_eq (q : Sp.Net) (up : List Int) : Sp.leftL q up = ((List.range (q.tail.length / 2)).filter (fun e => !Sp.usedB up (2 * e) up.length)).map (fun e => ((2 * e : Nat) : Int)) := by
  unfold Sp.leftL
  rw [Sp.leftGo_eq, List.nil_append, List.range_eq_range']
theorem filter_add (p : Nat → Bool) : ∀ l : List Nat, (l.filter p).length + (l.filter (fun x => !p x)).length = l.length
  | [] => rfl
  | x :: l => by
    have := filter_add p l
    rw [List.filter_cons, List.filter_cons]
    cases p x <;> simp <;> omega
/-- What is left is as many as edges, less the vertices but the root. -/
theorem Sp.RowT.left {q : Sp.Net} {U : List Int} {r N : Nat} (h : Sp.RowT q.tail U r N) (hev : q.tail.length % 2 = 0) : (Sp.leftL q U).length + (N - 1) = q.tail.length / 2 := by
  rw [Sp.leftL_eq, List.length_map]
  have h1 := filter_add (fun e => Sp.usedB U (2 * e) U.length) (List.range (q.tail.length / 2))
  rw [List.length_range] at h1
  have hp : (((List.range N).filter (fun v => decide (v ≠ r))).map (fun v => (U.getD v 0).toNat / 2)).Perm ((List.range (q.tail.length / 2)).filter (fun e => Sp.usedB U (2 * e) U.length)) := by
    rw [List.perm_ext_iff_of_nodup]
    · intro e
      rw [List.mem_map, List.mem_filter, List.mem_range, Sp.usedB_ex]
      constructor
      · rintro ⟨v, hv, rfl⟩
        rw [List.mem_filter, List.mem_range, decide_eq_true_eq] at hv
        obtain ⟨d, hd, e1, -⟩ := h.dart v hv.1 hv.2
        refine ⟨by rw [e1, Int.toNat_natCast]; omega, v, by rw [h.len]; exact hv.1, ?_⟩
        rw [e1, Int.toNat_natCast]
        omega
      · rintro ⟨he, v, hv, hc⟩
        rw [h.len] at hv
        refine ⟨v, ?_, by omega⟩
        rw [List.mem_filter, List.mem_range, decide_eq_true_eq]
        refine ⟨hv, fun e => ?_⟩
        subst e
        rw [h.rt] at hc
        omega
    · refine List.pairwise_map.2 (List.Pairwise.imp_of_mem ?_ ((List.nodup_range (n := N)).filter (fun v => decide (v ≠ r))))
      intro v w hv hw hvw e
      refine hvw ?_
      rw [List.mem_filter, List.mem_range, decide_eq_true_eq] at hv hw
      obtain ⟨d, hd, e1, -⟩ := h.dart v hv.1 hv.2
      obtain ⟨d', hd', e1', -⟩ := h.dart w hw.1 hw.2
      exact h.apart hv.1 hw.1 hv.2 hw.2 e1 e1' (by rw [e1, e1', Int.toNat_natCast, Int.toNat_natCast] at e; exact e)
    · exact (List.nodup_range).filter _
  have h2 := hp.length_eq
  rw [List.length_map] at h2
  have h3 := filter_add (fun v => decide (v ≠ r)) (List.range N)
  rw [List.length_range] at h3
  have h4 : ((List.range N).filter (fun v => !decide (v ≠ r))).length = 1 := by
    have hp2 : ((List.range N).filter (fun v => !decide (v ≠ r))).Perm [r] := by
      rw [List.perm_ext_iff_of_nodup ((List.nodup_range).filter _) (by simp)]
      intro v
      rw [List.mem_filter, List.mem_range]
      have hr := h.rN
      constructor
      · rintro ⟨-, e⟩
        simp at e
        simp [e]
      · intro e
        simp at e
        subst e
        exact ⟨hr, by simp⟩
    exact hp2.length_eq
  omega
end Go.Proofs.Ytoegjnolccabjab


/- What the laws of stage 8 take of Plane's nets. -/
namespace Go.Proofs.Ytoegjnolccabjab
open Go Go.RowKit

theorem Sp.rim_split {q : Sp.Net} (hq : Sp.RimQ q) {s t : Int} (h : Sp.rimE q s t = 0) : (0 ≤ s ∧ s < q.n) ∧ (0 ≤ t ∧ t < q.n) ∧ s ≠ t ∧ Sp.endsE q s t = 0 ∧ ∃ f d0 a jb, Sp.SplitQ q s t f d0 a jb := by
  unfold Sp.rimE at h
  split at h
  · cases h
  · rename_i h1
    split at h
    · cases h
    · rename_i h2
      split at h
      · rename_i h3
        have h4 := Classical.not_not.1 h1
        exact ⟨h4.1, h4.2, h2, by unfold Sp.endsE; rw [if_neg h1, if_neg h2], Sp.splitQ_of hq.link h3⟩
      · cases h
/-- What rim and the reference tell of two vertices. -/
theorem Sp.rim_cases {q : Sp.Net} (hq : Sp.RimQ q) (s t : Int) : Sp.rimE q s t ≠ 0 ∨ ((0 ≤ s ∧ s < q.n) ∧ (0 ≤ t ∧ t < q.n) ∧ s ≠ t ∧ Sp.endsE q s t = 0 ∧ ∃ f d0 a jb, Sp.SplitQ q s t f d0 a jb) := by
  by_cases h : Sp.rimE q s t = 0
  · exact .inr (Sp.rim_split hq h)
  · exact .inl h
end Go.Proofs.Ytoegjnolccabjab


/- What RimFalls asks of the rise: no more than the darts hold; both ends' sums. -/
namespace Go.Proofs.Ytoegjnolccabjab

theorem Sp.rowD {D : Nat → Int} {k x : Nat} (hx : x < k) : ((List.range k).map D).getD x 0 = D x := by
  rw [List.getD_eq_getElem?_getD, List.getElem?_map, List.getElem?_range hx]
  rfl
theorem Sp.rise_oth (F P : List Int) (d : Nat) : Sp.rise F P (Sp.oth d) = - Sp.rise F P d := by
  unfold Sp.rise
  rw [oth_oth]
  omega
theorem Sp.RimQ.rise_le {q : Sp.Net} (h : Sp.RimQ q) {s t : Int} {f d0 a jb : Nat} (hs : Sp.SplitQ q s t f d0 a jb) {D : Nat → Int} (hD : Sp.Short 1152921504606846976 (Sp.rimR (Sp.splitL q f d0 a jb) q.cap q.tail.length) f (Sp.landK q + 1) D) (hb : ∀ v, v < Sp.landK q + 1 → D v ≠ 1152921504606846976 → D v < 1152921504606846976) {d : Nat} (hd : d < q.tail.length) :
    Sp.rise (Sp.splitL q f d0 a jb) ((List.range (Sp.landK q + 1)).map D) d ≤ q.cap.getD d 0 := by
  have r1 := h.rng hs hd
  have r2 := h.rng hs (oth_lt hd h.link.ev)
  have hx : ((Sp.splitL q f d0 a jb).getD d 0).toNat < Sp.landK q + 1 := by omega
  have hy : ((Sp.splitL q f d0 a jb).getD (Sp.oth d) 0).toNat < Sp.landK q + 1 := by omega
  unfold Sp.rise
  rw [Sp.rowD hx, Sp.rowD hy]
  have hc := (h.capd d).1
  by_cases e : D ((Sp.splitL q f d0 a jb).getD d 0).toNat = 1152921504606846976
  · have : D ((Sp.splitL q f d0 a jb).getD (Sp.oth d) 0).toNat ≤ 1152921504606846976 := by
      by_cases e2 : D ((Sp.splitL q f d0 a jb).getD (Sp.oth d) 0).toNat = 1152921504606846976
      · omega
      · have := hb _ hy e2; omega
    omega
  · have h3 := (hD.arc (Sp.rimA (Sp.splitL q f d0 a jb) q.cap d) (Sp.mem_rimR.2 ⟨d, hd, rfl⟩) e).2
    have h4 : D ((Sp.splitL q f d0 a jb).getD (Sp.oth d) 0).toNat ≤ D ((Sp.splitL q f d0 a jb).getD d 0).toNat + q.cap.getD d 0 := h3
    omega
theorem Sp.DualQ.value {q : Sp.Net} (h : Sp.DualQ q) {s t : Int} {f d0 a jb : Nat} (hs : Sp.SplitQ q s t f d0 a jb) (hst : s ≠ t) (hf : f < Sp.landK q) {D : Nat → Int} (h0 : D f = 0) :
    Sp.sumN (fun d => if q.tail.getD d 0 = s then Sp.rise (Sp.splitL q f d0 a jb) ((List.range (Sp.landK q + 1)).map D) d else 0) q.tail.length = D (Sp.landK q) ∧
    Sp.sumN (fun d => if q.tail.getD d 0 = t then Sp.rise (Sp.splitL q f d0 a jb) ((List.range (Sp.landK q + 1)).map D) d else 0) q.tail.length = - D (Sp.landK q) := by
  have hk : max (Sp.faces2 q).2 1 = Sp.landK q := rfl
  constructor
  · rw [h.vsum hs, hk, if_neg (fun e => hst e.symm), if_pos rfl, Sp.rowD (Nat.lt_succ_self _), Sp.rowD (by omega), h0]
    omega
  · rw [h.vsum hs, hk, if_pos rfl, if_neg hst, Sp.rowD (Nat.lt_succ_self _), Sp.rowD (by omega), h0]
    omega
end Go.Proofs.Ytoegjnolccabjab


/- No height is far: the split dual hangs together. -/
namespace Go.Proofs.Ytoegjnolccabjab

theorem Sp.DualQ.near {q : Sp.Net} (h : Sp.DualQ q) (hr : Sp.RimQ q) {s t : Int} {f d0 a jb : Nat} (hs : Sp.SplitQ q s t f d0 a jb) (hst : s ≠ t) {D : Nat → Int} (hD : Sp.Short 1152921504606846976 (Sp.rimR (Sp.splitL q f d0 a jb) q.cap q.tail.length) f (Sp.landK q + 1) D) :
    ∀ v, v < Sp.landK q + 1 → D v ≠ 1152921504606846976 := by
  have hv := h.halves hs
  have hk : max (Sp.faces2 q).2 1 = Sp.landK q := rfl
  have ev := h.link.ev
  have hstep : ∀ d, d < q.tail.length → D ((Sp.splitL q f d0 a jb).getD d 0).toNat ≠ 1152921504606846976 → D ((Sp.splitL q f d0 a jb).getD (Sp.oth d) 0).toNat ≠ 1152921504606846976 := fun d hd hn =>
    (hD.arc (Sp.rimA (Sp.splitL q f d0 a jb) q.cap d) (Sp.mem_rimR.2 ⟨d, hd, rfl⟩) hn).1
  have hf0 : D f ≠ 1152921504606846976 := by rw [hD.src]; decide
  have hfk := hr.flt hs
  -- b is reached: else the row of what is far would be a rise of nothing
  have hK : D (Sp.landK q) ≠ 1152921504606846976 := by
    have hz := h.vsum hs ((List.range (Sp.landK q + 1)).map fun v => if D v = 1152921504606846976 then 1 else 0) s
    rw [hk, if_neg (fun e => hst e.symm), if_pos rfl, Sp.rowD (Nat.lt_succ_self _), Sp.rowD (by omega), if_neg hf0] at hz
    have e0 : Sp.sumN (fun d => if q.tail.getD d 0 = s then Sp.rise (Sp.splitL q f d0 a jb) ((List.range (Sp.landK q + 1)).map fun v => if D v = 1152921504606846976 then 1 else 0) d else 0) q.tail.length = 0 := by
      refine (Sp.sumN_congr _ fun d hd => ?_).trans (Sp.sumN_zero q.tail.length)
      have r1 := hr.rng hs hd
      have r2 := hr.rng hs (oth_lt hd ev)
      have h1 := hstep d hd
      have h2 := hstep (Sp.oth d) (oth_lt hd ev)
      rw [oth_oth] at h2
      have e : Sp.rise (Sp.splitL q f d0 a jb) ((List.range (Sp.landK q + 1)).map fun v => if D v = 1152921504606846976 then 1 else 0) d = 0 := by
        unfold Sp.rise
        rw [Sp.rowD (by omega), Sp.rowD (by omega)]
        by_cases g : D ((Sp.splitL q f d0 a jb).getD d 0).toNat = 1152921504606846976
        · rw [if_pos g, if_pos (Classical.byContradiction fun g2 => h2 g2 g)]; rfl
        · rw [if_neg g, if_neg (h1 g)]; rfl
      rw [e]
      split <;> rfl
    rw [e0] at hz
    intro g
    rw [if_pos g] at hz
    omega
  -- and so is every other face
  have hp := h.plain.conn
  have hnear : ∀ d, d < q.tail.length → D ((Sp.faces2 q).1.getD d 0).toNat ≠ 1152921504606846976 → D ((Sp.faces2 q).1.getD (Sp.oth d) 0).toNat ≠ 1152921504606846976 := fun d hd hn => by
    have ho := oth_lt hd ev
    have h1 : D ((Sp.splitL q f d0 a jb).getD d 0).toNat ≠ 1152921504606846976 := by
      by_cases g : (Sp.faces2 q).1.getD d 0 = (f : Int)
      · rcases hv.inn d hd g with e | e
        · rw [e, Int.toNat_natCast]; exact hf0
        · rw [e, Int.toNat_natCast]; exact hK
      · rw [hv.out d hd g]; exact hn
    have h2 := hstep d hd h1
    by_cases g : (Sp.faces2 q).1.getD (Sp.oth d) 0 = (f : Int)
    · rw [g, Int.toNat_natCast]; exact hf0
    · rw [hv.out _ ho g] at h2; exact h2
  have hlen : (Sp.faces2 q).1.length = q.tail.length := Sp.faces2_len q
  have hall : ∀ u v : Int, Sp.Reach (Sp.faces2 q).1 u v → D u.toNat ≠ 1152921504606846976 → D v.toNat ≠ 1152921504606846976 := fun u v hR hu =>
    Sp.Reach.ind (p := fun v => D v.toNat ≠ 1152921504606846976) hu (fun d hd _ hn => hnear d (by rw [← hlen]; exact hd) hn) hR
  intro v hv2
  by_cases e : v = Sp.landK q
  · rw [e]; exact hK
  · have hvK : v < Sp.landK q := by omega
    have c1 : Sp.Reach (Sp.faces2 q).1 0 (v : Int) := hp (v : Int) (by omega) (by show (v : Int) < ((max (Sp.faces2 q).2 1 : Nat) : Int); rw [hk]; omega)
    have c2 : Sp.Reach (Sp.faces2 q).1 0 (f : Int) := hp (f : Int) (by omega) (by show (f : Int) < ((max (Sp.faces2 q).2 1 : Nat) : Int); rw [hk]; omega)
    have c3 := (c2.symm (by rw [hlen]; exact ev)).trans c1
    have := hall _ _ c3 (by rw [Int.toNat_natCast]; exact hf0)
    rwa [Int.toNat_natCast] at this
end Go.Proofs.Ytoegjnolccabjab


/- Heights that rise no more than is held are no bound above the shortest ways; with more held they are no lower. -/
namespace Go.Proofs.Ytoegjnolccabjab

theorem Sp.wk_ub {L : List Sp.Arc} {s : Nat} {P : Nat → Int} (hp : ∀ a ∈ L, P a.t ≤ P a.f + a.l) : ∀ m v x, Sp.Wk L s m v x → P v ≤ P s + x
  | 0, v, x, hw => by
    obtain ⟨rfl, rfl⟩ := hw
    omega
  | m + 1, v, x, ⟨a, ha, e, hw⟩ => by
    have h1 := Sp.wk_ub hp m a.f _ hw
    have h2 := hp a ha
    rw [e] at h2
    omega
/-- A row of heights whose rises are no more than the darts hold: b lies no higher over a than the shortest way is long. -/
theorem Sp.rise_ub {F C : List Int} {m s n : Nat} {D P : Nat → Int} (hD : Sp.Short 1152921504606846976 (Sp.rimR F C m) s n D) (hp : ∀ d, d < m → P (F.getD (Sp.oth d) 0).toNat - P (F.getD d 0).toNat ≤ C.getD d 0) {v : Nat} (hv : v < n) (hn : D v ≠ 1152921504606846976) : P v - P s ≤ D v := by
  obtain ⟨k, hk⟩ := hD.att v hv hn
  have h := Sp.wk_ub (P := P) (fun a ha => by
    obtain ⟨d, hd, rfl⟩ := Sp.mem_rimR.1 ha
    have := hp d hd
    show P (F.getD (Sp.oth d) 0).toNat ≤ P (F.getD d 0).toNat + C.getD d 0
    omega) k v _ hk
  omega
end Go.Proofs.Ytoegjnolccabjab


