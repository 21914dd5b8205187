/- What the proof needs, part 20. -/
import Derived.Test.YtoegjnolccabjaaL19
/- The reference's heights. -/
namespace Go.Proofs.Ytoegjnolccabjaa
open Go Go.RowKit

theorem Sp.short_cut {L : List Sp.Arc} {s n : Nat} {D : Nat → Int} (h : Sp.Short 1152921504606846976 L s n D) (hL : ∀ a ∈ L, a.f < n ∧ a.t < n) (hs : s < n) (hb : ∀ v, v < n → D v ≠ 1152921504606846976 → D v < 1152921504606846976) : Sp.Short 1152921504606846976 L s n (fun v => if v < n then D v else 1152921504606846976) ∧ ∀ v, (fun v => if v < n then D v else 1152921504606846976) v ≠ 1152921504606846976 → (fun v => if v < n then D v else 1152921504606846976) v < 1152921504606846976 := by
  refine ⟨⟨?_, fun a ha hf => ?_, fun v hv hf => ?_⟩, fun v hf => ?_⟩
  · show (if s < n then D s else _) = 0
    rw [if_pos hs]; exact h.src
  · have h1 := hL a ha
    have h2 := h.arc a ha (by simpa only [if_pos h1.1] using hf)
    show (if a.t < n then D a.t else _) ≠ _ ∧ (if a.t < n then D a.t else _) ≤ (if a.f < n then D a.f else _) + a.l
    rw [if_pos h1.1, if_pos h1.2]; exact h2
  · simp only [if_pos hv] at hf ⊢
    exact h.att v hv hf
  · by_cases hv : v < n
    · simp only [if_pos hv] at hf ⊢
      exact hb v hv hf
    · simp only [if_neg hv] at hf
      exact absurd rfl hf
def Sp.endsE (q : Sp.Net) (s t : Int) : Int := if ¬ ((0 ≤ s ∧ s < q.n) ∧ (0 ≤ t ∧ t < q.n)) then 3 else if s = t then 9 else 0
set_option maxRecDepth 100000 in
set_option maxHeartbeats 4000000 in
theorem ends8_any (q : Sp.Net) (v tv nv cv : Value) (s t : Int) (w : World) (hv : NetI w v q tv nv cv) :
    Calls Try.prog 41 #[v, .int .i64 s, .int .i64 t] w fun e w' => e = .returned (.int .i64 (Sp.endsE q s t)) ∧ Below w.heap.size w w' := by
  obtain ⟨rfl, h1, h2, h3⟩ := hv
  obtain ⟨ta, tc, rfl, -, -⟩ := h1.form
  obtain ⟨na, nc, rfl, -, -⟩ := h2.form
  obtain ⟨ca, cc, rfl, -, -⟩ := h3.form
  have HB := hide ((Below.refl _ w).alloc (Nat.le_refl _) (.cells #[.int .i64 q.n, .slice ta q.tail.length tc, .slice na q.next.length nc, .slice ca q.cap.length cc] 25))
  clear h1 h2 h3
  have H3 : Hid (¬ ((0 ≤ s ∧ s < q.n) ∧ (0 ≤ t ∧ t < q.n)) → Sp.endsE q s t = 3) := hide fun h => by unfold Sp.endsE; rw [if_pos h]
  have H9 : Hid (((0 ≤ s ∧ s < q.n) ∧ (0 ≤ t ∧ t < q.n)) → s = t → Sp.endsE q s t = 9) := hide fun h h' => by unfold Sp.endsE; rw [if_neg (fun k => k h), if_pos h']
  have H0 : Hid (((0 ≤ s ∧ s < q.n) ∧ (0 ≤ t ∧ t < q.n)) → s ≠ t → Sp.endsE q s t = 0) := hide fun h h' => by unfold Sp.endsE; rw [if_neg (fun k => k h), if_neg h']
  generalize Sp.endsE q s t = E at *
  by_cases c1 : s < 0
  · have HE := hide (unhide H3 (by omega))
    clear H3 H9 H0
    go_enter Try.func41, Try.ntmps41
    go_wp2
    go_ret
    exact ⟨by rw [unhide HE]; rfl, unhide HB⟩
  · by_cases c2 : t < 0
    · have HE := hide (unhide H3 (by omega))
      clear H3 H9 H0
      go_enter Try.func41, Try.ntmps41
      go_wp2
      go_ret
      exact ⟨by rw [unhide HE]; rfl, unhide HB⟩
    · by_cases c3 : q.n ≤ s
      · have HE := hide (unhide H3 (by omega))
        clear H3 H9 H0
        go_enter Try.func41, Try.ntmps41
        go_wp2
        go_ret
        exact ⟨by rw [unhide HE]; rfl, unhide HB⟩
      · by_cases c4 : q.n ≤ t
        · have HE := hide (unhide H3 (by omega))
          clear H3 H9 H0
          go_enter Try.func41, Try.ntmps41
          go_wp2
          go_ret
          exact ⟨by rw [unhide HE]; rfl, unhide HB⟩
        · by_cases c5 : s = t
          · have HE := hide (unhide H9 (by omega) c5)
            clear H3 H9 H0
            subst c5
            have c6 : (s == s) = true := beq_self_eq_true s
            go_enter Try.func41, Try.ntmps41
            go_wp2
            go_ret
            exact ⟨by rw [unhide HE]; rfl, unhide HB⟩
          · have HE := hide (unhide H0 (by omega) c5)
            clear H3 H9 H0
            have c6 : (s == t) = false := beq_eq_false_iff_ne.2 c5
            go_enter Try.func41, Try.ntmps41
            go_wp2
            go_ret
            exact ⟨by rw [unhide HE]; rfl, unhide HB⟩
theorem Sp.rimE_ends {q : Sp.Net} {s t : Int} (h : Sp.endsE q s t ≠ 0) : Sp.rimE q s t = Sp.endsE q s t := by
  unfold Sp.endsE at h ⊢
  unfold Sp.rimE
  split
  · rfl
  · split
    · rfl
    · rename_i h1 h2
      rw [if_neg h1, if_neg h2] at h
      exact absurd rfl h
theorem Sp.ends_ok {q : Sp.Net} {s t : Int} (h : Sp.endsE q s t = 0) : (0 ≤ s ∧ s < q.n) ∧ (0 ≤ t ∧ t < q.n) ∧ s ≠ t ∧ ((Sp.shared q s t).2 = false → Sp.rimE q s t = 10) := by
  unfold Sp.endsE at h
  unfold Sp.rimE
  split at h
  · cases h
  · rename_i h1
    split at h
    · cases h
    · rename_i h2
      have h3 := Classical.not_not.1 h1
      refine ⟨h3.1, h3.2, h2, fun h4 => ?_⟩
      rw [if_neg h1, if_neg h2, if_neg (by rw [h4]; decide)]
set_option maxRecDepth 100000 in
set_option maxHeartbeats 4000000 in
theorem heights8_err1 (q : Sp.Net) (v tv nv cv : Value) (s t : Int) (w : World) (hv : NetI w v q tv nv cv) (_hq : Sp.RimQ q) (he : Sp.endsE q s t ≠ 0) :
    Calls Try.prog 28 #[v, .int .i64 s, .int .i64 t] w fun e w' => e = .returned (.tuple #[.slice none 0 0, .slice none 0 0, .int .i64 0, .int .i64 (Sp.rimE q s t)]) ∧ Below w.heap.size w w' := by
  have hv0 := hv
  obtain ⟨rfl, h1, h2, h3⟩ := hv
  obtain ⟨ta, tc, rfl, -, -⟩ := h1.form
  obtain ⟨na, nc, rfl, -, -⟩ := h2.form
  obtain ⟨ca, cc, rfl, -, -⟩ := h3.form
  obtain ⟨W1, hW1⟩ : ∃ W1, W1 = w.alloc (.cells #[.int .i64 q.n, .slice ta q.tail.length tc, .slice na q.next.length nc, .slice ca q.cap.length cc] 25) := ⟨_, rfl⟩
  have hb1 : Below w.heap.size w W1 := by rw [hW1]; exact (Below.refl _ w).alloc (Nat.le_refl _) _
  have hs1 : W1.heap.size = w.heap.size + 1 := by rw [hW1]; simp
  have hv1 : NetI W1 (.agg #[.int .i64 q.n, .slice ta q.tail.length tc, .slice na q.next.length nc, .slice ca q.cap.length cc]) q (.slice ta q.tail.length tc) (.slice na q.next.length nc) (.slice ca q.cap.length cc) := NetI.below ⟨rfl, h1, h2, h3⟩ hb1
  have e1 : W1.heap[w.heap.size]? = some (.cells #[.int .i64 q.n, .slice ta q.tail.length tc, .slice na q.next.length nc, .slice ca q.cap.length cc] 25) := by rw [hW1]; exact heap_alloc_new _ _
  have x0 : W1.cell? ⟨w.heap.size, 0, none⟩ = some (.int .i64 q.n) := by rw [cell_of_row _ _ _ _ _ _ e1]; rfl
  have x1 : W1.cell? ⟨w.heap.size, 1, none⟩ = some (.slice ta q.tail.length tc) := by rw [cell_of_row _ _ _ _ _ _ e1]; rfl
  have x2 : W1.cell? ⟨w.heap.size, 2, none⟩ = some (.slice na q.next.length nc) := by rw [cell_of_row _ _ _ _ _ _ e1]; rfl
  have x3 : W1.cell? ⟨w.heap.size, 3, none⟩ = some (.slice ca q.cap.length cc) := by rw [cell_of_row _ _ _ _ _ _ e1]; rfl
  have HC := hide (ends8_any q _ _ _ _ s t W1 hv1)
  have HB1 := hide (And.intro hb1 (show w.heap.size ≤ W1.heap.size by omega))
  have HBX : Hid (∀ w', Below W1.heap.size W1 w' → Below w.heap.size w w' ∧ w'.cell? ⟨w.heap.size, 0, none⟩ = some (.int .i64 q.n) ∧ w'.cell? ⟨w.heap.size, 1, none⟩ = some (.slice ta q.tail.length tc) ∧ w'.cell? ⟨w.heap.size, 2, none⟩ = some (.slice na q.next.length nc) ∧ w'.cell? ⟨w.heap.size, 3, none⟩ = some (.slice ca q.cap.length cc)) := hide fun w' hb => ⟨hb1.trans (hb.mono (by omega)), (hb.cell (p := ⟨w.heap.size, 0, none⟩) (by show w.heap.size < _; omega)).trans x0, (hb.cell (p := ⟨w.heap.size, 1, none⟩) (by show w.heap.size < _; omega)).trans x1, (hb.cell (p := ⟨w.heap.size, 2, none⟩) (by show w.heap.size < _; omega)).trans x2, (hb.cell (p := ⟨w.heap.size, 3, none⟩) (by show w.heap.size < _; omega)).trans x3⟩
  have HS1 := hide hs1
  have HV1 := hide hv1
  obtain ⟨P, hP⟩ : ∃ P : Ending → World → Prop, P = fun e w' => e = .returned (.tuple #[.slice none 0 0, .slice none 0 0, .int .i64 0, .int .i64 (Sp.rimE q s t)]) ∧ Below w.heap.size w w' := ⟨_, rfl⟩
  rw [← hP]
  have HP := hide hP
  clear hP e1 hv1 hs1 hb1 h1 h2 h3 hv0
  go_enter Try.func28, Try.ntmps28
  go_upto_region 1 with fail
  rw [← hW1]
  clear hW1
  go_wp2_with fail
  go_at_call 41
  refine (unhide HC).mono ?_
  rintro e w2 ⟨rfl, hb2⟩
  clear x0 x1 x2 x3
  obtain ⟨hbw2, x0, x1, x2, x3⟩ := unhide HBX _ hb2
  have HB := hide hbw2
  have HE := hide (Sp.rimE_ends he)
  have heb : (Sp.endsE q s t == 0) = false := beq_eq_false_iff_ne.2 he
  clear hbw2 hb2 x0 x1 x2 x3 he
  generalize Sp.endsE q s t = E at *
  go_wp2
  rw [unhide HP]
  refine bodyPost_ret (v := .tuple #[.slice none 0 0, .slice none 0 0, .int .i64 0, .int .i64 E]) (by simp [results, Try.results28, go_sem]) rfl ?_
  exact ⟨by rw [unhide HE], unhide HB⟩
set_option maxRecDepth 100000 in
set_option maxHeartbeats 4000000 in
theorem heights8_err2 (q : Sp.Net) (v tv nv cv : Value) (s t : Int) (w : World) (hv : NetI w v q tv nv cv) (hq : Sp.RimQ q) (he : Sp.endsE q s t = 0) (hsh : (Sp.shared q s t).2 = false) :
    Calls Try.prog 28 #[v, .int .i64 s, .int .i64 t] w fun e w' => e = .returned (.tuple #[.slice none 0 0, .slice none 0 0, .int .i64 0, .int .i64 (Sp.rimE q s t)]) ∧ Below w.heap.size w w' := by
  have hv0 := hv
  obtain ⟨rfl, h1, h2, h3⟩ := hv
  obtain ⟨ta, tc, rfl, -, -⟩ := h1.form
  obtain ⟨na, nc, rfl, -, -⟩ := h2.form
  obtain ⟨ca, cc, rfl, -, -⟩ := h3.form
  obtain ⟨W1, hW1⟩ : ∃ W1, W1 = w.alloc (.cells #[.int .i64 q.n, .slice ta q.tail.length tc, .slice na q.next.length nc, .slice ca q.cap.length cc] 25) := ⟨_, rfl⟩
  have hb1 : Below w.heap.size w W1 := by rw [hW1]; exact (Below.refl _ w).alloc (Nat.le_refl _) _
  have hs1 : W1.heap.size = w.heap.size + 1 := by rw [hW1]; simp
  have hv1 : NetI W1 (.agg #[.int .i64 q.n, .slice ta q.tail.length tc, .slice na q.next.length nc, .slice ca q.cap.length cc]) q (.slice ta q.tail.length tc) (.slice na q.next.length nc) (.slice ca q.cap.length cc) := NetI.below ⟨rfl, h1, h2, h3⟩ hb1
  have e1 : W1.heap[w.heap.size]? = some (.cells #[.int .i64 q.n, .slice ta q.tail.length tc, .slice na q.next.length nc, .slice ca q.cap.length cc] 25) := by rw [hW1]; exact heap_alloc_new _ _
  have x0 : W1.cell? ⟨w.heap.size, 0, none⟩ = some (.int .i64 q.n) := by rw [cell_of_row _ _ _ _ _ _ e1]; rfl
  have x1 : W1.cell? ⟨w.heap.size, 1, none⟩ = some (.slice ta q.tail.length tc) := by rw [cell_of_row _ _ _ _ _ _ e1]; rfl
  have x2 : W1.cell? ⟨w.heap.size, 2, none⟩ = some (.slice na q.next.length nc) := by rw [cell_of_row _ _ _ _ _ _ e1]; rfl
  have x3 : W1.cell? ⟨w.heap.size, 3, none⟩ = some (.slice ca q.cap.length cc) := by rw [cell_of_row _ _ _ _ _ _ e1]; rfl
  have HC := hide (ends8_any q _ _ _ _ s t W1 hv1)
  have HB1 := hide (And.intro hb1 (show w.heap.size ≤ W1.heap.size by omega))
  have HBX : Hid (∀ w', Below W1.heap.size W1 w' → Below w.heap.size w w' ∧ w'.cell? ⟨w.heap.size, 0, none⟩ = some (.int .i64 q.n) ∧ w'.cell? ⟨w.heap.size, 1, none⟩ = some (.slice ta q.tail.length tc) ∧ w'.cell? ⟨w.heap.size, 2, none⟩ = some (.slice na q.next.length nc) ∧ w'.cell? ⟨w.heap.size, 3, none⟩ = some (.slice ca q.cap.length cc)) := hide fun w' hb => ⟨hb1.trans (hb.mono (by omega)), (hb.cell (p := ⟨w.heap.size, 0, none⟩) (by show w.heap.size < _; omega)).trans x0, (hb.cell (p := ⟨w.heap.size, 1, none⟩) (by show w.heap.size < _; omega)).trans x1, (hb.cell (p := ⟨w.heap.size, 2, none⟩) (by show w.heap.size < _; omega)).trans x2, (hb.cell (p := ⟨w.heap.size, 3, none⟩) (by show w.heap.size < _; omega)).trans x3⟩
  have HS1 := hide hs1
  have HV1 := hide hv1
  obtain ⟨P, hP⟩ : ∃ P : Ending → World → Prop, P = fun e w' => e = .returned (.tuple #[.slice none 0 0, .slice none 0 0, .int .i64 0, .int .i64 (Sp.rimE q s t)]) ∧ Below w.heap.size w w' := ⟨_, rfl⟩
  rw [← hP]
  have HP := hide hP
  clear hP e1 hv1 hs1 hb1 h1 h2 h3 hv0
  go_enter Try.func28, Try.ntmps28
  go_upto_region 1 with fail
  rw [← hW1]
  clear hW1
  go_wp2_with fail
  go_at_call 41
  refine (unhide HC).mono ?_
  rintro e w2 ⟨rfl, hb2⟩
  clear x0 x1 x2 x3
  obtain ⟨hbw2, x0, x1, x2, x3⟩ := unhide HBX _ hb2
  have HE := hide ((Sp.ends_ok he).2.2.2 hsh)
  have hz : Sp.endsE q s t = 0 := he
  have HSp := hide (split2None_any q _ _ _ _ s t w2 ((unhide HV1).below hb2) hq.link hsh)
  have HB2 := hide hb2
  rw [hz]
  clear hbw2 hb2 he hq hz hsh HC
  go_wp2_with fail
  go_at_call 21
  refine (unhide HSp).mono ?_
  rintro e w3 ⟨rfl, hb3⟩
  have HB := hide (unhide HBX _ ((unhide HB2).trans (hb3.mono (unhide HB2).size))).1
  clear hb3 HSp x0 x1 x2 x3
  go_wp2
  rw [unhide HP]
  refine bodyPost_ret (v := .tuple #[.slice none 0 0, .slice none 0 0, .int .i64 0, .int .i64 10]) (by simp [results, Try.results28, go_sem]) rfl ?_
  exact ⟨by rw [unhide HE], unhide HB⟩
set_option maxRecDepth 100000 in
set_option maxHeartbeats 8000000 in
theorem heights8_yes (q : Sp.Net) (v tv nv cv : Value) (s t : Int) (w : World) (hv : NetI w v q tv nv cv) (hq : Sp.RimQ q) (f d0 a jb : Nat) (he : Sp.endsE q s t = 0) (hs : Sp.SplitQ q s t f d0 a jb) (D : Nat → Int) (hD : Sp.Short 1152921504606846976 (Sp.rimR (Sp.splitL q f d0 a jb) q.cap q.tail.length) f (Sp.landK q + 1) D ∧ ∀ v, v < Sp.landK q + 1 → D v ≠ 1152921504606846976 → D v < 1152921504606846976) :
    Calls Try.prog 28 #[v, .int .i64 s, .int .i64 t] w fun e w' => ∃ O oc G, e = .returned (.tuple #[.slice (some ⟨G, 0, none⟩) (Sp.landK q + 1) (Sp.landK q + 1), .slice (some ⟨O, 0, none⟩) q.tail.length oc, .int .i64 ((Sp.landK q : Nat) : Int), .int .i64 0]) ∧ OwnI w' w.heap.size (.slice (some ⟨O, 0, none⟩) q.tail.length oc) (Sp.splitL q f d0 a jb) ∧ w.heap.size ≤ G ∧ RowAt w' G (Sp.landK q + 1) D ∧ Below w.heap.size w w' := by
  have hv0 := hv
  obtain ⟨rfl, h1, h2, h3⟩ := hv
  obtain ⟨ta, tc, rfl, -, -⟩ := h1.form
  obtain ⟨na, nc, rfl, -, -⟩ := h2.form
  obtain ⟨ca, cc, rfl, -, -⟩ := h3.form
  obtain ⟨W1, hW1⟩ : ∃ W1, W1 = w.alloc (.cells #[.int .i64 q.n, .slice ta q.tail.length tc, .slice na q.next.length nc, .slice ca q.cap.length cc] 25) := ⟨_, rfl⟩
  have hb1 : Below w.heap.size w W1 := by rw [hW1]; exact (Below.refl _ w).alloc (Nat.le_refl _) _
  have hs1 : W1.heap.size = w.heap.size + 1 := by rw [hW1]; simp
  have hv1 : NetI W1 (.agg #[.int .i64 q.n, .slice ta q.tail.length tc, .slice na q.next.length nc, .slice ca q.cap.length cc]) q (.slice ta q.tail.length tc) (.slice na q.next.length nc) (.slice ca q.cap.length cc) := NetI.below ⟨rfl, h1, h2, h3⟩ hb1
  have e1 : W1.heap[w.heap.size]? = some (.cells #[.int .i64 q.n, .slice ta q.tail.length tc, .slice na q.next.length nc, .slice ca q.cap.length cc] 25) := by rw [hW1]; exact heap_alloc_new _ _
  have x0 : W1.cell? ⟨w.heap.size, 0, none⟩ = some (.int .i64 q.n) := by rw [cell_of_row _ _ _ _ _ _ e1]; rfl
  have x1 : W1.cell? ⟨w.heap.size, 1, none⟩ = some (.slice ta q.tail.length tc) := by rw [cell_of_row _ _ _ _ _ _ e1]; rfl
  have x2 : W1.cell? ⟨w.heap.size, 2, none⟩ = some (.slice na q.next.length nc) := by rw [cell_of_row _ _ _ _ _ _ e1]; rfl
  have x3 : W1.cell? ⟨w.heap.size, 3, none⟩ = some (.slice ca q.cap.length cc) := by rw [cell_of_row _ _ _ _ _ _ e1]; rfl
  have HC := hide (ends8_any q _ _ _ _ s t W1 hv1)
  have HB1 := hide (And.intro hb1 (show w.heap.size ≤ W1.heap.size by omega))
  have HBX : Hid (∀ w', Below W1.heap.size W1 w' → Below w.heap.size w w' ∧ w'.cell? ⟨w.heap.size, 0, none⟩ = some (.int .i64 q.n) ∧ w'.cell? ⟨w.heap.size, 1, none⟩ = some (.slice ta q.tail.length tc) ∧ w'.cell? ⟨w.heap.size, 2, none⟩ = some (.slice na q.next.length nc) ∧ w'.cell? ⟨w.heap.size, 3, none⟩ = some (.slice ca q.cap.length cc)) := hide fun w' hb => ⟨hb1.trans (hb.mono (by omega)), (hb.cell (p := ⟨w.heap.size, 0, none⟩) (by show w.heap.size < _; omega)).trans x0, (hb.cell (p := ⟨w.heap.size, 1, none⟩) (by show w.heap.size < _; omega)).trans x1, (hb.cell (p := ⟨w.heap.size, 2, none⟩) (by show w.heap.size < _; omega)).trans x2, (hb.cell (p := ⟨w.heap.size, 3, none⟩) (by show w.heap.size < _; omega)).trans x3⟩
  have HS1 := hide hs1
  have HV1 := hide hv1
  obtain ⟨P, hP⟩ : ∃ P : Ending → World → Prop, P = fun e w' => ∃ O oc G, e = .returned (.tuple #[.slice (some ⟨G, 0, none⟩) (Sp.landK q + 1) (Sp.landK q + 1), .slice (some ⟨O, 0, none⟩) q.tail.length oc, .int .i64 ((Sp.landK q : Nat) : Int), .int .i64 0]) ∧ OwnI w' w.heap.size (.slice (some ⟨O, 0, none⟩) q.tail.length oc) (Sp.splitL q f d0 a jb) ∧ w.heap.size ≤ G ∧ RowAt w' G (Sp.landK q + 1) D ∧ Below w.heap.size w w' := ⟨_, rfl⟩
  rw [← hP]
  have HP := hide hP
  clear hP e1 hv1 hs1 hb1 h1 h2 h3 hv0
  go_enter Try.func28, Try.ntmps28
  go_upto_region 1 with fail
  rw [← hW1]
  clear hW1
  go_wp2_with fail
  go_at_call 41
  refine (unhide HC).mono ?_
  rw [he]
  rintro e w9 ⟨rfl, hb9⟩
  clear x0 x1 x2 x3
  obtain ⟨-, x0, x1, x2, x3⟩ := unhide HBX _ hb9
  have HSp : Hid (Calls Try.prog 21 #[.agg #[.int .i64 q.n, .slice ta q.tail.length tc, .slice na q.next.length nc, .slice ca q.cap.length cc], .int .i64 s, .int .i64 t] w9 fun e w' => ∃ O oc, e = .returned (.tuple #[.slice (some ⟨O, 0, none⟩) q.tail.length oc, .int .i64 (((Sp.landK q : Nat) : Int) + 1), .int .i64 (f : Int), .int .i64 ((Sp.landK q : Nat) : Int), .bool true]) ∧ OwnI w' w9.heap.size (.slice (some ⟨O, 0, none⟩) q.tail.length oc) (Sp.splitL q f d0 a jb) ∧ Below w9.heap.size w9 w') := hide (split2_any q _ _ _ _ s t f d0 a jb w9 ((unhide HV1).below hb9) hq.link hs)
  have HB9 := hide hb9
  clear hb9 he HC
  go_wp2_with fail
  go_at_call 21
  refine (unhide HSp).mono ?_
  rintro e w2 ⟨O, oc, rfl, hO, hb3⟩
  have HB2 := hide ((unhide HB9).trans (hb3.mono (unhide HB9).size))
  have HSz : Hid (w.heap.size ≤ w2.heap.size) := hide (Nat.le_trans (by have := unhide HS1; omega) (unhide HB2).size)
  have HO := hide (own_base hO (B' := w.heap.size) (Nat.le_trans (by have := unhide HS1; omega) (unhide HB9).size))
  have hlt : ∀ r ∈ Sp.rimR (Sp.splitL q f d0 a jb) q.cap q.tail.length, r.f < Sp.landK q + 1 ∧ r.t < Sp.landK q + 1 := fun r hr => ⟨((hq.sndR hs).at_ r hr).1, ((hq.sndR hs).at_ r hr).2.1⟩
  have hfk : f < Sp.landK q + 1 := by have := hq.flt hs; omega
  have HFr : Hid (∀ w' v, ArcsI w' v (Sp.rimR (Sp.splitL q f d0 a jb) q.cap q.tail.length) → Calls Try.prog 42 #[.int .i64 (((Sp.landK q : Nat) : Int) + 1), v, .int .i64 (f : Int)] w' fun e w'' => ∃ G, e = .returned (.slice (some ⟨G, 0, none⟩) (Sp.landK q + 1) (Sp.landK q + 1)) ∧ w'.heap.size ≤ G ∧ RowAt w'' G (Sp.landK q + 1) D ∧ Below w'.heap.size w' w'') := hide fun w' v hA => by
    have h := rFrom_any (Sp.landK q + 1) _ f v w' hA (hq.sndR hs) hfk (by have := hq.kle; omega) ⟨_, Sp.short_cut hD.1 hlt hfk hD.2⟩
    rw [show ((Sp.landK q + 1 : Nat) : Int) = ((Sp.landK q : Nat) : Int) + 1 by omega] at h
    refine h.mono ?_
    rintro e w'' ⟨G, D', rfl, hG, hr, hb, hD'⟩
    exact ⟨G, rfl, hG, hr.congr fun v hv => hD'.uniq hD.1 (by decide) hv, hb⟩
  have HRg : Hid (∀ d, d < q.tail.length → 0 ≤ (Sp.splitL q f d0 a jb).getD d 0) := hide fun d hd => (hq.rng hs hd).1
  have HFl := hide (Sp.splitL_len q f d0 a jb)
  have hm48 : q.tail.length ≤ 48 := hq.le
  have hev := hq.link.ev
  have hcm := hq.link.cp
  obtain ⟨aq, cq, hce, -, -, HCa⟩ := (unhide HV1).cap.allA
  have hca : ca = aq := by injection hce
  subst hca
  have HOc : Hid (∀ w' d, Below w2.heap.size w2 w' → d < q.tail.length → w'.cell? ⟨O, d, none⟩ = some (.int .i64 ((Sp.splitL q f d0 a jb).getD d 0))) := hide fun w' d hb hd => by
    have h := own_cell (own_below (unhide HO) hb) d (by rw [unhide HFl]; exact hd)
    rw [h, Sp.getD_eq _ _ (by rw [unhide HFl]; exact hd)]
  have HQ : Hid (Below w2.heap.size w2 w2 ∧ OwnA w2 (w2.heap.size + 0) (.slice none 0 0) (Sp.rimR (Sp.splitL q f d0 a jb) q.cap 0)) := hide ⟨Below.refl _ _, OwnA.nil _ _⟩
  clear hO hb3 HSp HB9 hs hD hq x0 x1 x2 x3 hlt hfk hce
  go_wp2
  go_loopg [16, 17] q.tail.length (fun g s16 s17 wr => ∃ d : Nat, d + g = q.tail.length ∧ s17 = .int .i64 (d : Int) ∧ Hid (Below w2.heap.size w2 wr ∧ OwnA wr (w2.heap.size + 0) s16 (Sp.rimR (Sp.splitL q f d0 a jb) q.cap d)))
  case atStart => exact ⟨0, by omega, rfl, HQ⟩
  case round =>
    clear HQ
    obtain ⟨d, hdg, rfl, HI⟩ := hrel
    have HSr : Hid (w2.heap.size ≤ wr.heap.size) := hide (unhide HI).1.size
    obtain ⟨va, vc, hve, -, -⟩ := (unhide HI).2.arcs.form
    rw [Sp.rimR_len] at hve
    subst hve
    cases gk with
    | succ g' =>
      have hd : d < q.tail.length := by omega
      have hdI : (d : Int) < (q.tail.length : Int) := by omega
      have ho := oth_lt hd hev
      have hoI : ((Sp.oth d : Nat) : Int) < (q.tail.length : Int) := by omega
      have hdC : (d : Int) < (q.cap.length : Int) := by omega
      have hX : bits .xor .i64 (d : Int) 1 = ((Sp.oth d : Nat) : Int) := xor_oth ⟨d, by omega⟩
      obtain ⟨x, hx⟩ : ∃ x : Nat, (Sp.splitL q f d0 a jb).getD d 0 = (x : Int) := ⟨_, (Int.toNat_of_nonneg (unhide HRg d hd)).symm⟩
      obtain ⟨y, hy⟩ : ∃ y : Nat, (Sp.splitL q f d0 a jb).getD (Sp.oth d) 0 = (y : Int) := ⟨_, (Int.toNat_of_nonneg (unhide HRg _ ho)).symm⟩
      obtain ⟨z, hz⟩ : ∃ z, q.cap.getD d 0 = z := ⟨_, rfl⟩
      have HAd : Hid (Sp.rimA (Sp.splitL q f d0 a jb) q.cap d = ⟨x, y, z⟩) := hide (by unfold Sp.rimA; rw [hx, hy, hz]; rfl)
      obtain ⟨b3, o3, rfl, -, hc3⟩ := unhide HCa d (by omega)
      have HRE : Hid (∀ w', Below w2.heap.size w2 w' → w'.cell? ⟨w.heap.size, 3, none⟩ = some (.slice (some ⟨b3, o3, none⟩) q.cap.length cc) ∧ w'.cell? ⟨O, d, none⟩ = some (.int .i64 (x : Int)) ∧ w'.cell? ⟨O, Sp.oth d, none⟩ = some (.int .i64 (y : Int)) ∧ w'.cell? ⟨b3, o3 + d, none⟩ = some (.int .i64 z)) := hide fun w' hb => by
        have hb1 : Below W1.heap.size W1 w' := (unhide HB2).trans (hb.mono (unhide HB2).size)
        refine ⟨(unhide HBX w' hb1).2.2.2.2, ?_, ?_, ?_⟩
        · rw [← hx]; exact unhide HOc w' d hb hd
        · rw [← hy]; exact unhide HOc w' _ hb ho
        · rw [← hz]; exact hc3 w' hb1
      have HRD : Hid (∀ w', Below wr.heap.size wr w' → w'.cell? ⟨w.heap.size, 3, none⟩ = some (.slice (some ⟨b3, o3, none⟩) q.cap.length cc) ∧ w'.cell? ⟨O, d, none⟩ = some (.int .i64 (x : Int)) ∧ w'.cell? ⟨O, Sp.oth d, none⟩ = some (.int .i64 (y : Int)) ∧ w'.cell? ⟨b3, o3 + d, none⟩ = some (.int .i64 z)) := hide fun w' hb => unhide HRE w' ((unhide HI).1.trans (hb.mono (unhide HI).1.size))
      obtain ⟨c0, c1, c2, c3⟩ := unhide HRD wr (Below.refl _ _)
      clear hx hy hz hc3
      go_upto_region 11 with fail
      have hbq := (Below.refl wr.heap.size wr).drew
      have hoq : OwnA wr.drew (w2.heap.size + 0) (.slice va d vc) (Sp.rimR (Sp.splitL q f d0 a jb) q.cap d) := (unhide HI).2.drew
      refine wp_region_G (fun w' => w'.cell? ⟨w.heap.size, 3, none⟩ = some (.slice (some ⟨b3, o3, none⟩) q.cap.length cc) ∧ w'.cell? ⟨O, d, none⟩ = some (.int .i64 (x : Int)) ∧ w'.cell? ⟨O, Sp.oth d, none⟩ = some (.int .i64 (y : Int)) ∧ w'.cell? ⟨b3, o3 + d, none⟩ = some (.int .i64 z)) (fun _ => false) (by kernel_rfl) (unhide HRD _ hbq) (fun hHeld => ?_)
      generalize wr.drew = wq at *
      refine wpAnyG_take (v := ?_) 0 (by rfl) (by kernel_rfl) (by kernel_rfl) (by kernel_rfl) (by kernel_rfl) (fun _ _ _ h => h) (Or.inl ⟨by rfl, ?_⟩) (by assumption) ?_
      rotate_left
      · (intro w' hSw; (try dsimp only at hSw); (try simp only [List.getElem_toArray, List.getElem_cons_zero]); go_simp; try (with_reducible rfl))
      simp only [Act.put, List.getElem_toArray, List.getElem_cons_zero, List.setIfInBounds_toArray, List.set_cons_zero, List.set_cons_succ]
      refine wpAnyG_take (v := ?_) 1 (by rfl) (by kernel_rfl) (by kernel_rfl) (by kernel_rfl) (by kernel_rfl) (fun _ _ _ h => h) (Or.inl ⟨by rfl, ?_⟩) (by assumption) ?_
      rotate_left
      · (intro w' hSw; (try dsimp only at hSw); (try simp only [List.getElem_toArray, List.getElem_cons_succ, List.getElem_cons_zero]); go_simp; try (with_reducible rfl))
      simp only [Act.put, List.getElem_toArray, List.getElem_cons_succ, List.getElem_cons_zero, List.setIfInBounds_toArray, List.set_cons_zero, List.set_cons_succ]
      refine wpAnyG_take (v := ?_) 2 (by rfl) (by kernel_rfl) (by kernel_rfl) (by kernel_rfl) (by kernel_rfl) (fun _ _ _ h => h) (Or.inl ⟨by rfl, ?_⟩) (by assumption) ?_
      rotate_left
      · (intro w' hSw; (try dsimp only at hSw); (try simp only [List.getElem_toArray, List.getElem_cons_succ, List.getElem_cons_zero]); go_simp; try (with_reducible rfl))
      simp only [Act.put, List.getElem_toArray, List.getElem_cons_succ, List.getElem_cons_zero, List.setIfInBounds_toArray, List.set_cons_zero, List.set_cons_succ]
      refine wpAnyG_take (v := ?_) 3 (by rfl) (by kernel_rfl) (by kernel_rfl) (by kernel_rfl) (by kernel_rfl) (fun _ _ _ h => h) (Or.inl ⟨by rfl, ?_⟩) (by assumption) ?_
      rotate_left
      · (intro w' hSw; (try dsimp only at hSw); (try simp only [List.getElem_toArray, List.getElem_cons_succ, List.getElem_cons_zero]); go_simp; try (with_reducible rfl))
      simp only [Act.put, List.getElem_toArray, List.getElem_cons_succ, List.getElem_cons_zero, List.setIfInBounds_toArray, List.set_cons_zero, List.set_cons_succ]
      refine wpAnyG_take (v := ?_) 4 (by rfl) (by kernel_rfl) (by kernel_rfl) (by kernel_rfl) (by kernel_rfl) (fun _ _ _ h => h) (Or.inl ⟨by rfl, ?_⟩) (by assumption) ?_
      rotate_left
      · (intro w' hSw; (try dsimp only at hSw); (try simp only [List.getElem_toArray, List.getElem_cons_succ, List.getElem_cons_zero]); go_simp; try (with_reducible rfl))
      simp only [Act.put, List.getElem_toArray, List.getElem_cons_succ, List.getElem_cons_zero, List.setIfInBounds_toArray, List.set_cons_zero, List.set_cons_succ]
      refine wpAnyG_take (v := ?_) 5 (by rfl) (by kernel_rfl) (by kernel_rfl) (by kernel_rfl) (by kernel_rfl) (fun _ _ _ h => h) (Or.inl ⟨by rfl, ?_⟩) (by assumption) ?_
      rotate_left
      · (intro w' hSw; (try dsimp only at hSw); (try simp only [List.getElem_toArray, List.getElem_cons_succ, List.getElem_cons_zero]); go_simp; try (with_reducible rfl))
      simp only [Act.put, List.getElem_toArray, List.getElem_cons_succ, List.getElem_cons_zero, List.setIfInBounds_toArray, List.set_cons_zero, List.set_cons_succ]
      refine wpAnyG_take (v := ?_) 6 (by rfl) (by kernel_rfl) (by kernel_rfl) (by kernel_rfl) (by kernel_rfl) (fun _ _ _ h => h) (Or.inl ⟨by rfl, ?_⟩) (by assumption) ?_
      rotate_left
      · (intro w' hSw; (try dsimp only at hSw); (try simp only [List.getElem_toArray, List.getElem_cons_succ, List.getElem_cons_zero]); go_simp; try (with_reducible rfl))
      simp only [Act.put, List.getElem_toArray, List.getElem_cons_succ, List.getElem_cons_zero, List.setIfInBounds_toArray, List.set_cons_zero, List.set_cons_succ]
      refine wpAnyG_take (v := ?_) 7 (by rfl) (by kernel_rfl) (by kernel_rfl) (by kernel_rfl) (by kernel_rfl) (fun _ _ _ h => h) (Or.inl ⟨by rfl, ?_⟩) (by assumption) ?_
      rotate_left
      · (intro w' hSw; (try dsimp only at hSw); (try simp only [List.getElem_toArray, List.getElem_cons_succ, List.getElem_cons_zero]); go_simp; try (with_reducible rfl))
      simp only [Act.put, List.getElem_toArray, List.getElem_cons_succ, List.getElem_cons_zero, List.setIfInBounds_toArray, List.set_cons_zero, List.set_cons_succ]
      refine wpAnyG_take (v := ?_) 8 (by rfl) (by kernel_rfl) (by kernel_rfl) (by kernel_rfl) (by kernel_rfl) (fun _ _ _ h => h) (Or.inl ⟨by rfl, ?_⟩) (by assumption) ?_
      rotate_left
      · (intro w' hSw; (try dsimp only at hSw); (try simp only [List.getElem_toArray, List.getElem_cons_succ, List.getElem_cons_zero]); go_simp; try (with_reducible rfl))
      simp only [Act.put, List.getElem_toArray, List.getElem_cons_succ, List.getElem_cons_zero, List.setIfInBounds_toArray, List.set_cons_zero, List.set_cons_succ]
      refine wpAnyG_take (v := ?_) 9 (by rfl) (by kernel_rfl) (by kernel_rfl) (by kernel_rfl) (by kernel_rfl) (fun _ _ _ h => h) (Or.inl ⟨by rfl, ?_⟩) (by assumption) ?_
      rotate_left
      · (intro w' hSw; (try dsimp only at hSw); (try simp only [List.getElem_toArray, List.getElem_cons_succ, List.getElem_cons_zero]); go_simp; try (with_reducible rfl))
      simp only [Act.put, List.getElem_toArray, List.getElem_cons_succ, List.getElem_cons_zero, List.setIfInBounds_toArray, List.set_cons_zero, List.set_cons_succ]
      refine wpAnyG_take (v := ?_) 10 (by rfl) (by kernel_rfl) (by kernel_rfl) (by kernel_rfl) (by kernel_rfl) (fun _ _ _ h => h) (Or.inl ⟨by rfl, ?_⟩) (by assumption) ?_
      rotate_left
      · (intro w' hSw; (try dsimp only at hSw); (try simp only [List.getElem_toArray, List.getElem_cons_succ, List.getElem_cons_zero]); go_simp; try (with_reducible rfl))
      simp only [Act.put, List.getElem_toArray, List.getElem_cons_succ, List.getElem_cons_zero, List.setIfInBounds_toArray, List.set_cons_zero, List.set_cons_succ]
      refine wpAnyG_take (v := ?_) 11 (by rfl) (by kernel_rfl) (by kernel_rfl) (by kernel_rfl) (by kernel_rfl) (fun _ _ _ h => h) (Or.inl ⟨by rfl, ?_⟩) (by assumption) ?_
      rotate_left
      · (intro w' hSw; (try dsimp only at hSw); (try simp only [List.getElem_toArray, List.getElem_cons_succ, List.getElem_cons_zero]); go_simp; try (with_reducible rfl))
      simp only [Act.put, List.getElem_toArray, List.getElem_cons_succ, List.getElem_cons_zero, List.setIfInBounds_toArray, List.set_cons_zero, List.set_cons_succ]
      refine wpAnyG_take (v := ?_) 12 (by rfl) (by kernel_rfl) (by kernel_rfl) (by kernel_rfl) (by kernel_rfl) (fun _ _ _ h => h) (Or.inl ⟨by rfl, ?_⟩) (by assumption) ?_
      rotate_left
      · (intro w' hSw; (try dsimp only at hSw); (try simp only [List.getElem_toArray, List.getElem_cons_succ, List.getElem_cons_zero]); go_simp; try (with_reducible rfl))
      simp only [Act.put, List.getElem_toArray, List.getElem_cons_succ, List.getElem_cons_zero, List.setIfInBounds_toArray, List.set_cons_zero, List.set_cons_succ]
      refine wpAnyG_take (v := ?_) 13 (by rfl) (by kernel_rfl) (by kernel_rfl) (by kernel_rfl) (by kernel_rfl) (fun _ _ _ h => h) (Or.inl ⟨by rfl, ?_⟩) (by assumption) ?_
      rotate_left
      · (intro w' hSw; (try dsimp only at hSw); (try simp only [List.getElem_toArray, List.getElem_cons_succ, List.getElem_cons_zero]); go_simp; try (with_reducible rfl))
      simp only [Act.put, List.getElem_toArray, List.getElem_cons_succ, List.getElem_cons_zero, List.setIfInBounds_toArray, List.set_cons_zero, List.set_cons_succ]
      refine wpAnyG_take (v := ?_) 14 (by rfl) (by kernel_rfl) (by kernel_rfl) (by kernel_rfl) (by kernel_rfl) (fun _ _ _ h => h) (Or.inl ⟨by rfl, ?_⟩) (by assumption) ?_
      rotate_left
      · (intro w' hSw; (try dsimp only at hSw); (try simp only [List.getElem_toArray, List.getElem_cons_succ, List.getElem_cons_zero]); go_simp; try (with_reducible rfl))
      simp only [Act.put, List.getElem_toArray, List.getElem_cons_succ, List.getElem_cons_zero, List.setIfInBounds_toArray, List.set_cons_zero, List.set_cons_succ]
      refine wpAnyG_take (v := ?_) 15 (by rfl) (by kernel_rfl) (by kernel_rfl) (by kernel_rfl) (by kernel_rfl) (fun _ _ _ h => h) (Or.inl ⟨by rfl, ?_⟩) (by assumption) ?_
      rotate_left
      · (intro w' hSw; (try dsimp only at hSw); (try simp only [List.getElem_toArray, List.getElem_cons_succ, List.getElem_cons_zero]); go_simp; try (with_reducible rfl))
      simp only [Act.put, List.getElem_toArray, List.getElem_cons_succ, List.getElem_cons_zero, List.setIfInBounds_toArray, List.set_cons_zero, List.set_cons_succ]
      refine wpAnyG_ready [16] (by kernel_rfl) (by simp) ?_
      refine AllReadyG.cons 16 (by rfl) (fun K hK => ?_) ?_
      · simp only [List.getElem_toArray, List.getElem_cons_succ, List.getElem_cons_zero]
        go_simp
        have hba := Below.alloc hbq hbq.size (.cells #[.int .i64 (x : Int), .int .i64 (y : Int), .int .i64 z] 71)
        refine hK.out _ _ (unhide HRD _ hba) (fun _ => ?_)
        clear hK K
        try simp only [Act.put, List.setIfInBounds_toArray, List.set_cons_zero, List.set_cons_succ]
        refine wpAnyG_ready [17] (by kernel_rfl) (by simp) ?_
        refine AllReadyG.cons 17 (by rfl) (fun K hK => ?_) ?_
        · simp only [List.getElem_toArray, List.getElem_cons_succ, List.getElem_cons_zero]
          refine if_wanted (by rfl) (wp_appA (w := wq.alloc (.cells #[.int .i64 (x : Int), .int .i64 (y : Int), .int .i64 z] 71)) _ _ (by rfl) (w2.heap.size + 0) _ _ (Sp.rimR (Sp.splitL q f d0 a jb) q.cap d) [⟨x, y, z⟩] (by rfl) (by rfl) (hoq.alloc _) (OwnA.arcs (own_litA wq 0 _ 1 [⟨x, y, z⟩] _ rfl rfl rfl (Nat.zero_le _) (by simp))) (d + 1) (by rw [Sp.rimR_len]; rfl) (by omega) (by have := hbq.size; have := unhide HSr; simp; omega) ?_)
          intro a9 c9 w9 own9 hg9 ho9
          have hb9 : Below w2.heap.size w2 w9 := Below.grown ((unhide HI).1.trans (hba.mono (unhide HI).1.size)) hg9 (by have := hbq.size; have := unhide HSr; simp; omega) (fun g hg => (hoq.lt g hg).1)
          refine hK.out _ _ (unhide HRE _ hb9) (fun _ => ?_)
          clear hK K
          try simp only [Act.put, List.setIfInBounds_toArray, List.set_cons_zero, List.set_cons_succ]
          refine wpAnyG_take (v := ?_) 18 (by rfl) (by kernel_rfl) (by kernel_rfl) (by kernel_rfl) (by kernel_rfl) (fun _ _ _ h => h) (Or.inl ⟨by rfl, ?_⟩) (by assumption) ?_
          rotate_left
          · (intro w' hSw; (try dsimp only at hSw); (try simp only [List.getElem_toArray, List.getElem_cons_succ, List.getElem_cons_zero]); go_simp; try (with_reducible rfl))
          simp only [Act.put, List.getElem_toArray, List.getElem_cons_succ, List.getElem_cons_zero, List.setIfInBounds_toArray, List.set_cons_zero, List.set_cons_succ]
          refine wpAnyG_done (by kernel_rfl) ?_ _
          refine NoPanic.normal ?_
          clear hHeld
          have HF : Hid (Below w2.heap.size w2 w9 ∧ OwnA w9 (w2.heap.size + 0) (.slice a9 (d + 1) c9) (Sp.rimR (Sp.splitL q f d0 a jb) q.cap (d + 1))) := hide ⟨hb9, by rw [Sp.rimR_succ, unhide HAd]; exact own9⟩
          clear hb9 own9 hg9 ho9 hba hoq
          go_wp2
          go_roundg g'
          case rel => exact ⟨d + 1, by omega, by go_num, HF⟩
          case measure => omega
        exact AllReadyG.nil
      exact AllReadyG.nil
    | zero =>
      obtain rfl : d = q.tail.length := by omega
      have hnn : ¬ (q.tail.length : Int) < (q.tail.length : Int) := by omega
      have HAI := hide (unhide HI).2.arcs
      go_wp2_with fail
      go_at_call 42
      refine (unhide HFr _ _ (unhide HAI)).mono ?_
      rintro e wf ⟨G, rfl, hG, hr, hbf⟩
      have HE := hide (And.intro hr (And.intro (own_below (unhide HO) ((unhide HI).1.trans (hbf.mono (unhide HI).1.size))) (And.intro (unhide HBX _ ((unhide HB2).trans (((unhide HI).1.trans (hbf.mono (unhide HI).1.size)).mono (unhide HB2).size))).1 (Nat.le_trans (unhide HSz) (Nat.le_trans (unhide HSr) hG)))))
      clear hr hbf hG HFr HAI
      go_wp2
      rw [unhide HP]
      refine bodyPost_ret (v := .tuple #[.slice (some ⟨G, 0, none⟩) (Sp.landK q + 1) (Sp.landK q + 1), .slice (some ⟨O, 0, none⟩) q.tail.length oc, .int .i64 ((Sp.landK q : Nat) : Int), .int .i64 0]) (by simp [results, Try.results28, go_sem]) rfl ?_
      exact ⟨O, oc, G, rfl, (unhide HE).2.1, (unhide HE).2.2.2, (unhide HE).1, (unhide HE).2.2.1⟩
end Go.Proofs.Ytoegjnolccabjaa


