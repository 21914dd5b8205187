/- What the proof needs, part 25. -/
import Derived.Test.YtoegjnolccabjabL24
/- The walk of the second reference's Check: it tells what the program's does. -/
namespace Go.Proofs.Ytoegjnolccabjab
open Go Go.RowKit

theorem ck2 {q : Sp.Net} (h : Sp.fewB q = false) : Sp.checkI q = 2 := by unfold Sp.checkI; rw [if_pos h]
theorem ck5 {q : Sp.Net} (h1 : Sp.fewB q = true) (h : Sp.matchedB q = false) : Sp.checkI q = 5 := by unfold Sp.checkI; rw [if_neg (by rw [h1]; decide), if_pos h]
theorem ck3 {q : Sp.Net} (h1 : Sp.fewB q = true) (h2 : Sp.matchedB q = true) (h : q.n < 1 ∨ Sp.placedB q = false) : Sp.checkI q = 3 := by
  unfold Sp.checkI
  rw [if_neg (by rw [h1]; decide), if_neg (by rw [h2]; decide)]
  by_cases hn : q.n < 1
  · rw [if_pos hn]
  · rw [if_neg hn, if_pos (h.resolve_left hn)]
theorem ck6 {q : Sp.Net} (h1 : Sp.fewB q = true) (h2 : Sp.matchedB q = true) (h3 : ¬ q.n < 1) (h4 : Sp.placedB q = true) (h : Sp.turningB q = false) : Sp.checkI q = 6 := by
  unfold Sp.checkI
  rw [if_neg (by rw [h1]; decide), if_neg (by rw [h2]; decide), if_neg h3, if_neg (by rw [h4]; decide), if_pos h]
theorem ck4 {q : Sp.Net} (h1 : Sp.fewB q = true) (h2 : Sp.matchedB q = true) (h3 : ¬ q.n < 1) (h4 : Sp.placedB q = true) (h5 : Sp.turningB q = true) (h : Sp.heldB q = false) : Sp.checkI q = 4 := by
  unfold Sp.checkI
  rw [if_neg (by rw [h1]; decide), if_neg (by rw [h2]; decide), if_neg h3, if_neg (by rw [h4]; decide), if_neg (by rw [h5]; decide), if_pos h]
theorem ck7 {q : Sp.Net} (h1 : Sp.fewB q = true) (h2 : Sp.matchedB q = true) (h3 : ¬ q.n < 1) (h4 : Sp.placedB q = true) (h5 : Sp.turningB q = true) (h6 : Sp.heldB q = true) (h : (Sp.pieces q).2 ≠ 1) : Sp.checkI q = 7 := by
  unfold Sp.checkI
  rw [if_neg (by rw [h1]; decide), if_neg (by rw [h2]; decide), if_neg h3, if_neg (by rw [h4]; decide), if_neg (by rw [h5]; decide), if_neg (by rw [h6]; decide), if_pos h]
theorem ck80 {q : Sp.Net} (h1 : Sp.fewB q = true) (h2 : Sp.matchedB q = true) (h3 : ¬ q.n < 1) (h4 : Sp.placedB q = true) (h5 : Sp.turningB q = true) (h6 : Sp.heldB q = true) (h7 : (Sp.pieces q).2 = 1) : Sp.checkI q = if q.n - ((q.tail.length / 2 : Nat) : Int) + (Sp.facesN q : Int) ≠ 2 then 8 else 0 := by
  unfold Sp.checkI
  rw [if_neg (by rw [h1]; decide), if_neg (by rw [h2]; decide), if_neg h3, if_neg (by rw [h4]; decide), if_neg (by rw [h5]; decide), if_neg (by rw [h6]; decide), if_neg (fun h => h h7)]
theorem all_of_getD {l : List Int} {p : Int → Bool} (h : ∀ j, j < l.length → p (l.getD j 0) = true) : l.all p = true := by
  rw [List.all_eq_true]
  intro x hx
  obtain ⟨i, hi, rfl⟩ := List.mem_iff_getElem.1 hx
  rw [← Sp.getD_eq]
  exact h i hi
theorem not_all_of {l : List Int} {p : Int → Bool} {j : Nat} (hj : j < l.length) (h : p (l.getD j 0) = false) : l.all p = false := by
  cases hb : l.all p with
  | false => rfl
  | true =>
    have := List.all_eq_true.1 hb _ (Sp.getD_mem hj)
    rw [h] at this
    cases this
set_option maxRecDepth 100000 in
set_option maxHeartbeats 4000000 in
theorem check2_any (q : Sp.Net) (v tv nv cv : Value) (w : World) (hv : NetI w v q tv nv cv) (hlo : -9223372036854775808 ≤ q.n) (hhi : q.n ≤ 9223372036854775807) :
    Calls Try.prog 17 #[v] w fun e w' => e = .returned (.int .i64 (Sp.checkI q)) ∧ Below w.heap.size w w' := by
  have hv' := hv
  obtain ⟨rfl, h1, h2, h3⟩ := hv
  obtain ⟨ta, tc, rfl, htc, htm⟩ := h1.form
  obtain ⟨na, nc, rfl, hnc, hnm⟩ := h2.form
  obtain ⟨ca, cc, rfl, hcc, hcm⟩ := h3.form
  clear h1 h2 h3
  have HBX := hide (box_new w q.n (.slice ta q.tail.length tc) (.slice na q.next.length nc) (.slice ca q.cap.length cc))
  obtain ⟨W1, hW1⟩ : ∃ W1, W1 = w.alloc (.cells #[.int .i64 q.n, .slice ta q.tail.length tc, .slice na q.next.length nc, .slice ca q.cap.length cc] 26) := ⟨_, rfl⟩
  rw [← hW1] at HBX
  have hb1 : Below w.heap.size w W1 := by rw [hW1]; exact (Below.refl _ w).alloc (Nat.le_refl _) _
  have hs1 : W1.heap.size = w.heap.size + 1 := by rw [hW1]; simp
  have HW : Hid (∀ w', Below (w.heap.size + 1) W1 w' → Below w.heap.size w w') := hide fun w' hb => hb1.trans (hb.mono (by omega))
  have HTR : Hid (∀ w2 w5, Below (w.heap.size + 1) W1 w2 → Below w2.heap.size w2 w5 → Below (w.heap.size + 1) W1 w5) := hide fun w2 w5 h2 h5 => h2.trans (h5.mono (by have := h2.size; omega))
  have HV : Hid (∀ w', Below (w.heap.size + 1) W1 w' → NetI w' (.agg #[.int .i64 q.n, .slice ta q.tail.length tc, .slice na q.next.length nc, .slice ca q.cap.length cc]) q (.slice ta q.tail.length tc) (.slice na q.next.length nc) (.slice ca q.cap.length cc)) := hide fun w' hb => by
    have hb0 := unhide HW w' hb
    exact ⟨rfl, hv'.tail.below hb0, hv'.next.below hb0, hv'.cap.below hb0⟩
  obtain ⟨P, hP⟩ : ∃ P : Ending → World → Prop, P = fun e w' => e = .returned (.int .i64 (Sp.checkI q)) ∧ Below w.heap.size w w' := ⟨_, rfl⟩
  rw [← hP]
  have HP := hide hP
  have HB1 : Hid (Below (w.heap.size + 1) W1 W1) := hide (Below.refl _ _)
  have HW1 := hide hW1
  have Hf1 := hide (unhide HW _ (unhide HB1))
  clear hP hb1 hv' hW1 hs1
  go_enter Try.func17, Try.ntmps17
  cases hfew : Sp.fewB q with
  | false =>
    have hor : 60 < q.n ∨ 240 < q.tail.length := by
      simp only [Sp.fewB, Bool.and_eq_false_iff, decide_eq_false_iff_not] at hfew
      omega
    have HR := hide (ck2 hfew)
    clear hfew
    by_cases h60 : 60 < q.n
    · have hd : decide (q.n > 60) = true := decide_eq_true h60
      have hd2 : decide (60 < q.n) = true := decide_eq_true h60
      go_wp2
      rw [unhide HP, ← unhide HW1]
      exact ⟨by rw [unhide HR] <;> rfl, unhide Hf1⟩
    · have hd : decide (q.n > 60) = false := decide_eq_false h60
      have hd2 : decide (60 < q.n) = false := decide_eq_false h60
      have h240 : 240 < q.tail.length := hor.resolve_left h60
      have h240I : (240 : Int) < (q.tail.length : Int) := by omega
      clear hor
      go_wp2
      rw [unhide HP, ← unhide HW1]
      exact ⟨by rw [unhide HR] <;> rfl, unhide Hf1⟩
  | true =>
    have hfw : q.n ≤ 60 ∧ q.tail.length ≤ 240 := by
      simp only [Sp.fewB, Bool.and_eq_true, decide_eq_true_eq] at hfew
      exact hfew
    have Hfew := hide hfew
    clear hfew
    obtain ⟨h60, h240⟩ := hfw
    have hd60 : decide (q.n > 60) = false := decide_eq_false (by omega)
    have hd60' : decide (60 < q.n) = false := decide_eq_false (by omega)
    have hn60 : ¬ 60 < q.n := by omega
    have h240I : ¬ (240 : Int) < (q.tail.length : Int) := by omega
    by_cases hlens : q.next.length = q.tail.length ∧ q.cap.length = q.tail.length ∧ q.tail.length % 2 = 0
    · obtain ⟨hnl, hcl, hev⟩ := hlens
      rw [hnl] at hnc
      rw [hcl] at hcc
      rw [hnl, hcl] at HBX HV HW1 ⊢
      have HMt : Hid (Sp.matchedB q = q.next.all (Sp.inB q.tail.length)) := hide (by unfold Sp.matchedB; rw [decide_eq_true ⟨hev, hnl, hcl⟩, Bool.true_and])
      have HPl : Hid (Sp.placedB q = (q.tail.all (Sp.inB q.n) && decide (0 ≤ q.n))) := hide rfl
      have Hnl := hide hnl
      have Hcl := hide hcl
      have Hev := hide hev
      clear hnl hcl hev
      generalize hln : q.tail.length = ln at *
      have Hln := hide hln
      have hev2 : ln % 2 = 0 := unhide Hev
      have hmod : (ln : Int).tmod 2 = 0 := by rw [Int.tmod_eq_emod_of_nonneg (by omega)]; omega
      have hll : ((ln : Int) != (ln : Int)) = false := by simp
      clear hln hev2
      go_wp2_with fail
      rw [← unhide HW1]
      have HNa : Hid (0 < ln → ∃ nb nt, na = some ⟨nb, nt, none⟩) := hide fun h0 => by
        obtain ⟨b, o, c', e⟩ := (unhide HV W1 (unhide HB1)).next.openF (by rw [unhide Hnl]; exact h0)
        injection e with e1
        exact ⟨b, o, e1⟩
      have HTa : Hid (0 < ln → ∃ nb nt, ta = some ⟨nb, nt, none⟩) := hide fun h0 => by
        obtain ⟨b, o, c', e⟩ := (unhide HV W1 (unhide HB1)).tail.openF (by rw [unhide Hln]; exact h0)
        injection e with e1
        exact ⟨b, o, e1⟩
      have HCa : Hid (0 < ln → ∃ nb nt, ca = some ⟨nb, nt, none⟩) := hide fun h0 => by
        obtain ⟨b, o, c', e⟩ := (unhide HV W1 (unhide HB1)).cap.openF (by rw [unhide Hcl]; exact h0)
        injection e with e1
        exact ⟨b, o, e1⟩
      have HNc : Hid (∀ nb nt, na = some ⟨nb, nt, none⟩ → ∀ k w', k < ln → Below (w.heap.size + 1) W1 w' → w'.cell? ⟨nb, nt + k, none⟩ = some (.int .i64 (q.next.getD k 0))) := hide fun nb nt e k w' hk hb => by
        have h := (unhide HV w' hb).next
        rw [e] at h
        exact h.cellF k (by rw [unhide Hnl]; exact hk)
      have HTc : Hid (∀ nb nt, ta = some ⟨nb, nt, none⟩ → ∀ k w', k < ln → Below (w.heap.size + 1) W1 w' → w'.cell? ⟨nb, nt + k, none⟩ = some (.int .i64 (q.tail.getD k 0))) := hide fun nb nt e k w' hk hb => by
        have h := (unhide HV w' hb).tail
        rw [e] at h
        exact h.cellF k (by rw [unhide Hln]; exact hk)
      have HCc : Hid (∀ nb nt, ca = some ⟨nb, nt, none⟩ → ∀ k w', k < ln → Below (w.heap.size + 1) W1 w' → w'.cell? ⟨nb, nt + k, none⟩ = some (.int .i64 (q.cap.getD k 0))) := hide fun nb nt e k w' hk hb => by
        have h := (unhide HV w' hb).cap
        rw [e] at h
        exact h.cellF k (by rw [unhide Hcl]; exact hk)
      have HTu := hide (fun w' (hb : Below (w.heap.size + 1) W1 w') (hw : Sp.walkB q = true) => turns2_any q _ _ _ _ w' (unhide HV w' hb) hw)
      have HPa := hide (fun w' (hb : Below (w.heap.size + 1) W1 w') (hw : Sp.walkB q = true) => parts2_any q _ _ _ _ w' (unhide HV w' hb) hw)
      have HFa := hide (fun w' (hb : Below (w.heap.size + 1) W1 w') (hp : Sp.Perm q.next) => faces2_any q _ _ _ _ w' (unhide HV w' hb) (by rw [unhide Hnl, unhide Hln]) (by rw [unhide Hln]; omega) (by rw [unhide Hln]; exact unhide Hev) hp)
      clear HV
      go_loopg [4] ln (fun g s4 wr => ∃ d : Nat, d + g = ln ∧ s4 = .int .i64 (d : Int) ∧ Hid (Below (w.heap.size + 1) W1 wr ∧ ∀ j, j < d → Sp.inB ln (q.next.getD j 0) = true))
      case atStart => exact ⟨0, by omega, rfl, hide ⟨unhide HB1, fun j hj => by omega⟩⟩
      case round =>
        obtain ⟨d, hdg, rfl, HD⟩ := hrel
        obtain ⟨x0, x1, x2, x3, -⟩ := unhide HBX wr (unhide HD).1
        clear HB1
        cases gk with
        | succ g' =>
          have hdl : d < ln := by omega
          have hdI : (d : Int) < (ln : Int) := by omega
          obtain ⟨nb, nt, hna⟩ := unhide HNa (by omega)
          have c1 := unhide HNc nb nt hna d wr hdl (unhide HD).1
          subst hna
          have Hfin := hide (unhide HW _ (unhide HD).1)
          by_cases hin : Sp.inB ln (q.next.getD d 0) = true
          · have hb : 0 ≤ q.next.getD d 0 ∧ q.next.getD d 0 < (ln : Int) := by simpa [Sp.inB] using hin
            have HD2 : Hid (Below (w.heap.size + 1) W1 wr ∧ ∀ j, j < d + 1 → Sp.inB ln (q.next.getD j 0) = true) := hide ⟨(unhide HD).1, fun j hj => by
              rcases Nat.lt_or_ge j d with h1 | h1
              · exact (unhide HD).2 j h1
              · rw [show j = d by omega]; exact hin⟩
            clear hin HD x0 x1 x3
            generalize q.next.getD d 0 = z at *
            have hb0 : decide (z < 0) = false := decide_eq_false (by omega)
            have hb0n : ¬ z < 0 := by omega
            have hb1 : decide ((ln : Int) ≤ z) = false := decide_eq_false (by omega)
            have hb1n : ¬ (ln : Int) ≤ z := by omega
            have hb1g : decide (z ≥ (ln : Int)) = false := decide_eq_false (by omega)
            clear hb
            go_wp2
            go_roundg g'
            case rel => exact ⟨d + 1, by omega, by go_num, HD2⟩
            case measure => omega
          · have hin' : Sp.inB ln (q.next.getD d 0) = false := by cases hb : Sp.inB ln (q.next.getD d 0) with | false => rfl | true => exact absurd hb hin
            have HM : Hid (Sp.checkI q = 5) := hide (ck5 (unhide Hfew) (by rw [unhide HMt]; exact not_all_of (by rw [unhide Hnl]; exact hdl) hin'))
            have hb : q.next.getD d 0 < 0 ∨ (ln : Int) ≤ q.next.getD d 0 := by
              simp only [Sp.inB, Bool.and_eq_false_iff, decide_eq_false_iff_not] at hin'
              omega
            clear hin hin' HD x0 x1 x3
            generalize q.next.getD d 0 = z at *
            by_cases hz : z < 0
            · have hb0 : decide (z < 0) = true := decide_eq_true hz
              clear hb
              go_wp2
              rw [unhide HP]
              exact ⟨by rw [unhide HM] <;> rfl, unhide Hfin⟩
            · have hb0 : decide (z < 0) = false := decide_eq_false hz
              have hb1 : (ln : Int) ≤ z := hb.resolve_left hz
              have hb1d : decide ((ln : Int) ≤ z) = true := decide_eq_true hb1
              clear hb
              go_wp2
              rw [unhide HP]
              exact ⟨by rw [unhide HM] <;> rfl, unhide Hfin⟩
        | zero =>
          have hde : d = ln := by omega
          rw [hde] at HD ⊢
          have HM : Hid (Sp.matchedB q = true) := hide (by rw [unhide HMt]; exact all_of_getD fun j hj => (unhide HD).2 j (by rw [unhide Hnl] at hj; exact hj))
          have HBd := hide (unhide HD).1
          clear hde hdg HD HMt HNa HNc x1 x2 x3
          have Hfin := hide (unhide HW _ (unhide HBd))
          by_cases hn1 : q.n < 1
          · have HR : Hid (Sp.checkI q = 3) := hide (ck3 (unhide Hfew) (unhide HM) (.inl hn1))
            have hd1 : decide (q.n < 1) = true := decide_eq_true hn1
            go_wp2
            rw [unhide HP]
            exact ⟨by rw [unhide HR] <;> rfl, unhide Hfin⟩
          · have Hn1 := hide hn1
            have hd1 : decide (q.n < 1) = false := decide_eq_false hn1
            clear Hfin
            go_wp2_with fail
            go_loopg [5] ln (fun g s5 wr => ∃ d : Nat, d + g = ln ∧ s5 = .int .i64 (d : Int) ∧ Hid (Below (w.heap.size + 1) W1 wr ∧ ∀ j, j < d → Sp.inB q.n (q.tail.getD j 0) = true))
            case atStart => exact ⟨0, by omega, rfl, hide ⟨unhide HBd, fun j hj => by omega⟩⟩
            case round =>
              obtain ⟨d, hdg, rfl, HD⟩ := hrel
              obtain ⟨x0, x1, x2, x3, -⟩ := unhide HBX wr (unhide HD).1
              clear HBd
              cases gk with
              | succ g' =>
                have hdl : d < ln := by omega
                have hdI : (d : Int) < (ln : Int) := by omega
                obtain ⟨tb, tt, hta⟩ := unhide HTa (by omega)
                have c1 := unhide HTc tb tt hta d wr hdl (unhide HD).1
                subst hta
                have Hfin := hide (fun nq => unhide HW _ (below_dn (unhide HD).1 nq))
                by_cases hin : Sp.inB q.n (q.tail.getD d 0) = true
                · have hb : 0 ≤ q.tail.getD d 0 ∧ q.tail.getD d 0 < q.n := by simpa [Sp.inB] using hin
                  have HD2 : Hid (∀ nq, Below (w.heap.size + 1) W1 (wr.drewN nq) ∧ ∀ j, j < d + 1 → Sp.inB q.n (q.tail.getD j 0) = true) := hide fun nq => ⟨below_dn (unhide HD).1 nq, fun j hj => by
                    rcases Nat.lt_or_ge j d with h1 | h1
                    · exact (unhide HD).2 j h1
                    · rw [show j = d by omega]; exact hin⟩
                  clear hin HD x2 x3
                  generalize q.tail.getD d 0 = z at *
                  have hb0 : decide (z < 0) = false := decide_eq_false (by omega)
                  have hb0n : ¬ z < 0 := by omega
                  have hb1 : decide (q.n ≤ z) = false := decide_eq_false (by omega)
                  have hb1n : ¬ q.n ≤ z := by omega
                  clear hb
                  go_wp2
                  go_quiet (fail)
                  have HDq := hide (unhide HD2 nq)
                  clear c1 x0 x1 HD2 Hfin
                  generalize wr.drewN nq = wq at *
                  go_wp2
                  go_roundg g'
                  case rel => exact ⟨d + 1, by omega, by go_num, HDq⟩
                  case measure => omega
                · have hin' : Sp.inB q.n (q.tail.getD d 0) = false := by cases hb : Sp.inB q.n (q.tail.getD d 0) with | false => rfl | true => exact absurd hb hin
                  have HR : Hid (Sp.checkI q = 3) := hide (ck3 (unhide Hfew) (unhide HM) (.inr (by rw [unhide HPl, not_all_of (by rw [unhide Hln]; exact hdl) hin', Bool.false_and])))
                  have hb : q.tail.getD d 0 < 0 ∨ q.n ≤ q.tail.getD d 0 := by
                    simp only [Sp.inB, Bool.and_eq_false_iff, decide_eq_false_iff_not] at hin'
                    omega
                  clear hin hin' HD x2 x3
                  generalize q.tail.getD d 0 = z at *
                  by_cases hz : z < 0
                  · have hb0 : decide (z < 0) = true := decide_eq_true hz
                    clear hb
                    go_wp2
                    go_quiet (fail)
                    have HFq := hide (unhide Hfin nq)
                    clear c1 x0 x1 Hfin
                    generalize wr.drewN nq = wq at *
                    go_wp2
                    rw [unhide HP]
                    exact ⟨by rw [unhide HR] <;> rfl, unhide HFq⟩
                  · have hb0 : decide (z < 0) = false := decide_eq_false hz
                    have hb1 : q.n ≤ z := hb.resolve_left hz
                    have hb1d : decide (q.n ≤ z) = true := decide_eq_true hb1
                    clear hb
                    go_wp2
                    go_quiet (fail)
                    have HFq := hide (unhide Hfin nq)
                    clear c1 x0 x1 Hfin
                    generalize wr.drewN nq = wq at *
                    go_wp2
                    rw [unhide HP]
                    exact ⟨by rw [unhide HR] <;> rfl, unhide HFq⟩
              | zero =>
                have hde : d = ln := by omega
                rw [hde] at HD ⊢
                have HPd : Hid (Sp.placedB q = true) := hide (by
                  rw [unhide HPl, all_of_getD (fun j hj => (unhide HD).2 j (by rw [unhide Hln] at hj; exact hj)), Bool.true_and]
                  exact decide_eq_true (by omega))
                have HWB : Hid (Sp.walkB q = true) := hide (by unfold Sp.walkB; rw [unhide Hfew, unhide HM, unhide HPd]; rfl)
                have HBd := hide (unhide HD).1
                clear hde hdg HD HPl HTa HTc
                go_wp2_with fail
                go_at_call 27
                refine (unhide HTu wr (unhide HBd) (unhide HWB)).mono ?_
                clear HTu x0 x1 x2 x3
                rintro e w8 ⟨rfl, hl8⟩
                have HB8 := hide (unhide HTR _ _ (unhide HBd) hl8)
                obtain ⟨x0, x1, x2, x3, -⟩ := unhide HBX w8 (unhide HB8)
                clear hl8 HBd
                cases htu : Sp.turningB q with
                | false =>
                  have HR : Hid (Sp.checkI q = 6) := hide (ck6 (unhide Hfew) (unhide HM) (by have := unhide Hn1; omega) (unhide HPd) htu)
                  have Hfin := hide (unhide HW _ (unhide HB8))
                  clear htu
                  go_wp2
                  rw [unhide HP]
                  exact ⟨by rw [unhide HR] <;> rfl, unhide Hfin⟩
                | true =>
                  have HTt := hide htu
                  have HPm := hide (Sp.turning_to (walkQ (unhide HWB)).nb htu).1
                  clear htu
                  go_wp2_with fail
                  clear x0 x1 x2 x3
                  go_loopg [6] ln (fun g s6 wr => ∃ d : Nat, d + g = ln ∧ s6 = .int .i64 (d : Int) ∧ Hid (Below (w.heap.size + 1) W1 wr ∧ ∀ j, j < d → Sp.capB (q.cap.getD j 0) = true))
                  case atStart => exact ⟨0, by omega, rfl, hide ⟨unhide HB8, fun j hj => by omega⟩⟩
                  case round =>
                    obtain ⟨d, hdg, rfl, HD⟩ := hrel
                    obtain ⟨x0, x1, x2, x3, -⟩ := unhide HBX wr (unhide HD).1
                    clear HB8
                    cases gk with
                    | succ g' =>
                      have hdl : d < ln := by omega
                      have hdI : (d : Int) < (ln : Int) := by omega
                      obtain ⟨cb, ct, hca⟩ := unhide HCa (by omega)
                      have c1 := unhide HCc cb ct hca d wr hdl (unhide HD).1
                      subst hca
                      have Hfin := hide (unhide HW _ (unhide HD).1)
                      by_cases hin : Sp.capB (q.cap.getD d 0) = true
                      · have hb : 0 ≤ q.cap.getD d 0 ∧ q.cap.getD d 0 ≤ 2147483648 := by simpa [Sp.capB] using hin
                        have HD2 : Hid (Below (w.heap.size + 1) W1 wr ∧ ∀ j, j < d + 1 → Sp.capB (q.cap.getD j 0) = true) := hide ⟨(unhide HD).1, fun j hj => by
                          rcases Nat.lt_or_ge j d with h1 | h1
                          · exact (unhide HD).2 j h1
                          · rw [show j = d by omega]; exact hin⟩
                        clear hin HD x0 x1 x2
                        generalize q.cap.getD d 0 = z at *
                        have hb0 : decide (z < 0) = false := decide_eq_false (by omega)
                        have hb0n : ¬ z < 0 := by omega
                        have hb1 : decide (2147483648 < z) = false := decide_eq_false (by omega)
                        have hb1n : ¬ 2147483648 < z := by omega
                        clear hb
                        go_wp2
                        go_roundg g'
                        case rel => exact ⟨d + 1, by omega, by go_num, HD2⟩
                        case measure => omega
                      · have hin' : Sp.capB (q.cap.getD d 0) = false := by cases hb : Sp.capB (q.cap.getD d 0) with | false => rfl | true => exact absurd hb hin
                        have HR : Hid (Sp.checkI q = 4) := hide (ck4 (unhide Hfew) (unhide HM) (by have := unhide Hn1; omega) (unhide HPd) (unhide HTt) (not_all_of (by rw [unhide Hcl]; exact hdl) hin'))
                        have hb : q.cap.getD d 0 < 0 ∨ 2147483648 < q.cap.getD d 0 := by
                          simp only [Sp.capB, Bool.and_eq_false_iff, decide_eq_false_iff_not] at hin'
                          omega
                        clear hin hin' HD x0 x1 x2
                        generalize q.cap.getD d 0 = z at *
                        by_cases hz : z < 0
                        · have hb0 : decide (z < 0) = true := decide_eq_true hz
                          clear hb
                          go_wp2
                          rw [unhide HP]
                          exact ⟨by rw [unhide HR] <;> rfl, unhide Hfin⟩
                        · have hb0 : decide (z < 0) = false := decide_eq_false hz
                          have hb1 : 2147483648 < z := hb.resolve_left hz
                          have hb1d : decide (2147483648 < z) = true := decide_eq_true hb1
                          clear hb
                          go_wp2
                          rw [unhide HP]
                          exact ⟨by rw [unhide HR] <;> rfl, unhide Hfin⟩
                    | zero =>
                      have hde : d = ln := by omega
                      rw [hde] at HD ⊢
                      have HHe : Hid (Sp.heldB q = true) := hide (all_of_getD fun j hj => (unhide HD).2 j (by rw [unhide Hcl] at hj; exact hj))
                      have HBd := hide (unhide HD).1
                      clear hde hdg HD HCa HCc
                      go_wp2_with fail
                      go_at_call 28
                      refine (unhide HPa wr (unhide HBd) (unhide HWB)).mono ?_
                      clear HPa x0 x1 x2 x3
                      rintro e w9 ⟨pv, rfl, hpv, hl9⟩
                      have HB9 := hide (unhide HTR _ _ (unhide HBd) hl9)
                      obtain ⟨x0, x1, x2, x3, -⟩ := unhide HBX w9 (unhide HB9)
                      obtain ⟨pa, pc, hpve, -, -⟩ := hpv.ints.form
                      clear hl9 HBd hpv
                      obtain ⟨kp, hkp⟩ : ∃ kp, (Sp.pieces q).2 = kp := ⟨_, rfl⟩
                      rw [hkp]
                      by_cases h1p : kp = 1
                      · have h1b : ((kp : Int) != 1) = false := by rw [h1p]; rfl
                        have HR := hide (ck80 (unhide Hfew) (unhide HM) (by have := unhide Hn1; omega) (unhide HPd) (unhide HTt) (unhide HHe) (hkp.trans h1p))
                        rw [(Sp.faces_eq (unhide HPm) (by rw [unhide Hnl, unhide Hln]) (by rw [unhide Hln]; exact unhide Hev)).2, unhide Hln] at HR
                        have HFm : Hid ((Sp.faces2 q).2 ≤ 241) := hide (by
                          have h := (Sp.faces2_st (unhide HPm) (by rw [unhide Hnl, unhide Hln]) (by rw [unhide Hln]; exact unhide Hev)).cls
                          have h2 := facesN_le q (walkQ (unhide HWB))
                          rw [(Sp.faces_eq (unhide HPm) (by rw [unhide Hnl, unhide Hln]) (by rw [unhide Hln]; exact unhide Hev)).2] at h2
                          omega)
                        have HF1 := hide (unhide HFa w9 (unhide HB9) (unhide HPm))
                        obtain ⟨kf, hkf⟩ : ∃ kf, max (Sp.faces2 q).2 1 = kf := ⟨_, rfl⟩
                        have hkf2 : kf ≤ 241 := by have := unhide HFm; omega
                        rw [hkf] at HF1 HR
                        clear h1p hkp hkf HFa HFm
                        go_wp2_with fail
                        go_at_call 23
                        refine (unhide HF1).mono ?_
                        clear HF1 x0 x1 x2 x3
                        rintro e w10 ⟨fv, rfl, hfv, hl10⟩
                        have HB10 := hide (unhide HTR _ _ (unhide HB9) hl10)
                        obtain ⟨x0, x1, x2, x3, -⟩ := unhide HBX w10 (unhide HB10)
                        have Hfin := hide (unhide HW _ (unhide HB10))
                        have hn1' := unhide Hn1
                        obtain ⟨h2, hh2⟩ : ∃ h2 : Nat, ln / 2 = h2 := ⟨_, rfl⟩
                        rw [hh2] at HR
                        have hd2 : (ln : Int).tdiv 2 = (h2 : Int) := by rw [Int.tdiv_eq_ediv_of_nonneg (by omega)]; omega
                        have hh2b : h2 ≤ 120 := by omega
                        have hwd : IntKind.i64.wrap (h2 : Int) = (h2 : Int) := by rw [IntKind.wrap_i64]; omega
                        have hw1 : IntKind.i64.wrap (q.n - (h2 : Int)) = q.n - (h2 : Int) := by rw [IntKind.wrap_i64]; omega
                        clear hl10 HB9 hfv hh2 x1 x2 x3 hn1'
                        by_cases hE : q.n - (h2 : Int) + (kf : Int) = 2
                        · have hw2 : IntKind.i64.wrap (q.n - (h2 : Int) + (kf : Int)) = 2 := by rw [hE]; rfl
                          have HR0 : Hid (Sp.checkI q = 0) := hide (by rw [unhide HR, if_neg (fun h => h hE)])
                          clear HR hE
                          go_wp2
                          rw [unhide HP]
                          exact ⟨by rw [unhide HR0] <;> rfl, unhide Hfin⟩
                        · have hw2 : IntKind.i64.wrap (q.n - (h2 : Int) + (kf : Int)) = q.n - (h2 : Int) + (kf : Int) := by rw [IntKind.wrap_i64]; omega
                          have HR8 : Hid (Sp.checkI q = 8) := hide (by rw [unhide HR, if_pos hE])
                          have hEb : (q.n - (h2 : Int) + (kf : Int) != 2) = true := by rw [bne_iff_ne]; exact hE
                          clear HR
                          go_wp2
                          rw [unhide HP]
                          exact ⟨by rw [unhide HR8] <;> rfl, unhide Hfin⟩
                      · have h1b : ((kp : Int) != 1) = true := by rw [bne_iff_ne]; omega
                        have HR := hide (ck7 (unhide Hfew) (unhide HM) (by have := unhide Hn1; omega) (unhide HPd) (unhide HTt) (unhide HHe) (by rw [hkp]; exact h1p))
                        have Hfin := hide (unhide HW _ (unhide HB9))
                        clear hkp
                        go_wp2
                        rw [unhide HP]
                        exact ⟨by rw [unhide HR] <;> rfl, unhide Hfin⟩
    · have HM : Hid (Sp.checkI q = 5) := hide (ck5 (unhide Hfew) (by
        unfold Sp.matchedB
        rw [decide_eq_false (fun h => hlens ⟨h.2.1, h.2.2, h.1⟩), Bool.false_and]))
      by_cases hnl : q.next.length = q.tail.length
      · by_cases hcl : q.cap.length = q.tail.length
        · have hodd : ¬ q.tail.length % 2 = 0 := fun h => hlens ⟨hnl, hcl, h⟩
          rw [hnl, hcl] at HBX HV HW1 ⊢
          have hmod : (q.tail.length : Int).tmod 2 = 1 := by rw [Int.tmod_eq_emod_of_nonneg (by omega)]; omega
          have hll : ((q.tail.length : Int) != (q.tail.length : Int)) = false := by simp
          clear hlens hnl hcl hodd
          go_wp2
          rw [unhide HP, ← unhide HW1]
          exact ⟨by rw [unhide HM] <;> rfl, unhide Hf1⟩
        · rw [hnl] at HBX HV HW1 ⊢
          have hcb : ((q.cap.length : Int) != (q.tail.length : Int)) = true := by rw [bne_iff_ne]; omega
          have hll : ((q.tail.length : Int) != (q.tail.length : Int)) = false := by simp
          clear hlens hnl
          go_wp2
          rw [unhide HP, ← unhide HW1]
          exact ⟨by rw [unhide HM] <;> rfl, unhide Hf1⟩
      · have hcb : ((q.next.length : Int) != (q.tail.length : Int)) = true := by rw [bne_iff_ne]; omega
        clear hlens
        go_wp2
        rw [unhide HP, ← unhide HW1]
        exact ⟨by rw [unhide HM] <;> rfl, unhide Hf1⟩
end Go.Proofs.Ytoegjnolccabjab


/- The law RimOwn, walked. -/
namespace Go.Proofs.Ytoegjnolccabjab
open Go Go.RowKit

theorem Sp.RimIs.lenL {q : Sp.Net} (hq : Sp.RimQ q) {s t : Int} {P L : List Int} {x : Int} (h : Sp.RimIs q s t P L x) : L.length ≤ 48 := by
  have := hq.le
  rcases h with ⟨-, -, rfl, -⟩ | ⟨-, -, -, -, -, f, d0, a, jb, D, -, -, -, rfl, -⟩
  · exact Nat.zero_le _
  · rw [List.length_map, List.length_range]; omega
theorem Sp.RimIs.lenP {q : Sp.Net} (hq : Sp.RimQ q) {s t : Int} {P L : List Int} {x : Int} (h : Sp.RimIs q s t P L x) : P.length ≤ 49 := by
  have := hq.kle
  rcases h with ⟨-, rfl, -, -⟩ | ⟨-, -, -, -, -, f, d0, a, jb, D, -, -, rfl, -, -⟩
  · exact Nat.zero_le _
  · rw [List.length_map, List.length_range]; omega
set_option maxRecDepth 100000 in
set_option maxHeartbeats 4000000 in
theorem rimOwn_any (ns : List Int) (x : Value) (s t : Int) (w : World) (hx : Ints w x ns) :
    Calls Try.prog 6 #[x, .int .i64 s, .int .i64 t] w fun e w' => e = .returned (.bool true) ∧ Below w.heap.size w w' := by
  obtain ⟨a, c, rfl, hc, hm⟩ := hx.form
  have HPL := hide (fun w' (hb : Below w.heap.size w w') => plane_any ns (.slice a ns.length c) w' (hx.below hb))
  have HOK := hide (Sp.plane_ok ns)
  have HRQ := hide (Sp.rimQ_plane ns)
  generalize Sp.plane ns = q at *
  generalize ns.length = n at *
  clear hx
  have hl48 : q.tail.length ≤ 48 := (unhide HOK).le
  obtain ⟨ln, hln⟩ : ∃ ln, q.tail.length = ln := ⟨_, rfl⟩
  rw [hln] at hl48
  have hnl : q.next.length = ln := by rw [(unhide HOK).nx, hln]
  have hcl : q.cap.length = ln := by rw [(unhide HOK).cp, hln]
  have hn0 : 1 ≤ q.n := (unhide HOK).n0
  have hn1 : q.n ≤ 100 := by have := (unhide HOK).n1; omega
  obtain ⟨P, hP⟩ : ∃ P : Ending → World → Prop, P = fun e w' => e = .returned (.bool true) ∧ Below w.heap.size w w' := ⟨_, rfl⟩
  rw [← hP]
  have HP := hide hP
  clear hP
  have Hln := hide hln
  have Hnl := hide hnl
  have Hcl := hide hcl
  clear hln hnl hcl
  go_enter Try.func6, Try.ntmps6
  go_wp2_with fail
  go_at_call 7
  refine (known8_any w).mono ?_
  rintro e w2 ⟨rfl, hb2⟩
  have Hb2 := hide hb2
  clear hb2
  go_wp2_with fail
  go_at_call 10
  refine (unhide HPL _ (unhide Hb2)).mono ?_
  rintro e w3 ⟨v, tv, nv, cv, rfl, hnv, hb3⟩
  have hval := hnv.val
  subst hval
  have Hb3 := hide ((unhide Hb2).trans (hb3.mono (unhide Hb2).size))
  obtain ⟨ta, tc, htv, -, -⟩ := hnv.netI.tail.form
  obtain ⟨na, nc, hnv', -, -⟩ := hnv.netI.next.form
  obtain ⟨ca, cc, hcv, -, -⟩ := hnv.netI.cap.form
  rw [unhide Hln] at htv
  rw [unhide Hnl] at hnv'
  rw [unhide Hcl] at hcv
  subst htv hnv' hcv
  have HN3 := hide hnv.netI
  clear hnv hb3 Hb2
  go_wp2_with fail
  go_at_call 10
  refine (unhide HPL _ (unhide Hb3)).mono ?_
  clear HPL
  rintro e w4 ⟨v, tv, nv, cv, rfl, hnv, hb4⟩
  have hval := hnv.val
  subst hval
  obtain ⟨ta2, tc2, htv, -, -⟩ := hnv.netI.tail.form
  obtain ⟨na2, nc2, hnv', -, -⟩ := hnv.netI.next.form
  obtain ⟨ca2, cc2, hcv, -, -⟩ := hnv.netI.cap.form
  rw [unhide Hln] at htv
  rw [unhide Hnl] at hnv'
  rw [unhide Hcl] at hcv
  subst htv hnv' hcv
  obtain ⟨W6, hW6⟩ : ∃ W6, W6 = (w4.alloc (.cells #[.int .i64 q.n, .slice ta ln tc, .slice na ln nc, .slice ca ln cc] 26)).alloc (.cells #[.int .i64 q.n, .slice ta2 ln tc2, .slice na2 ln nc2, .slice ca2 ln cc2] 26) := ⟨_, rfl⟩
  obtain ⟨hBX, hs6, hTR⟩ := boxes2 ((unhide Hb3).trans (hb4.mono (unhide Hb3).size)) (⟨rfl, (unhide HN3).tail.below hb4, (unhide HN3).next.below hb4, (unhide HN3).cap.below hb4⟩ : NetI w4 (.agg #[.int .i64 q.n, .slice ta ln tc, .slice na ln nc, .slice ca ln cc]) q (.slice ta ln tc) (.slice na ln nc) (.slice ca ln cc)) hnv.netI W6 hW6
  have HBX := hide hBX
  have HTR := hide hTR
  have Hs6 := hide hs6
  have HW6 := hide hW6
  clear hnv hb4 Hb3 HN3 hBX hTR hs6 hW6
  have hb6 : Below (w4.heap.size + 2) W6 W6 := Below.refl _ _
  have HIs : Hid (∀ (l : List Int) w' v u, l.length ≤ 48 → Ints w' v l → Ints w' u l → Calls Try.prog 16 #[v, u] w' fun e w'' => e = .returned (.bool true) ∧ Below w'.heap.size w' w'') := hide fun l w' v u hl h1 h2 => by
    refine (rInts_any l l v u w' h1 h2 (by omega) (by omega)).mono fun e w'' ⟨a1, a2⟩ => ⟨?_, a2⟩
    rw [a1, decide_eq_true rfl]
  have HSm : Hid (∀ w', Below (w4.heap.size + 2) W6 w' → Calls Try.prog 15 #[.agg #[.int .i64 q.n, .slice ta ln tc, .slice na ln nc, .slice ca ln cc], .agg #[.int .i64 q.n, .slice ta2 ln tc2, .slice na2 ln nc2, .slice ca2 ln cc2]] w' fun e w'' => e = .returned (.bool true) ∧ Below w'.heap.size w' w'') := by
    refine hide fun w' hb => ?_
    have hnx := unhide Hnl
    have hcp := unhide Hcl
    have htl := unhide Hln
    refine (same_any q q _ _ _ _ _ _ _ _ w' (unhide HBX w' hb).2.2.1 (unhide HBX w' hb).2.2.2.1 ⟨by omega, by omega, by omega⟩ ⟨by omega, by omega, by omega⟩).mono fun e w'' ⟨a1, a2⟩ => ⟨?_, a2⟩
    rw [a1, netEq_refl]
  have HCc : Hid (∀ w', Below (w4.heap.size + 2) W6 w' → Calls Try.prog 17 #[.agg #[.int .i64 q.n, .slice ta ln tc, .slice na ln nc, .slice ca ln cc]] w' fun e w'' => e = .returned (.int .i64 0) ∧ Below w'.heap.size w' w'') := by
    refine hide fun w' hb => ?_
    refine (check2_any q _ _ _ _ w' (unhide HBX w' hb).2.2.1 (by omega) (by omega)).mono fun e w'' ⟨a1, a2⟩ => ⟨?_, a2⟩
    rw [a1, (unhide HRQ).chk]
  have HWs := hide (fun w' => within8_any s q.n w' (by omega) (by omega))
  have HWt := hide (fun w' => within8_any t q.n w' (by omega) (by omega))
  generalize s % q.n = s1 at *
  generalize t % q.n = t1 at *
  have HLe : Hid (∀ P L x, Sp.RimIs q s1 t1 P L x → L.length ≤ 48) := hide fun P L x h => h.lenL (unhide HRQ)
  have HPe : Hid (∀ P L x, Sp.RimIs q s1 t1 P L x → P.length ≤ 49) := hide fun P L x h => h.lenP (unhide HRQ)
  have HFl := hide (fun w' (hb : Below (w4.heap.size + 2) W6 w') => rmflow_any q _ _ _ _ s1 t1 w' (unhide HBX w' hb).2.2.1 (unhide HRQ))
  have HHt := hide (fun w' (hb : Below (w4.heap.size + 2) W6 w') => rmheights_any q _ _ _ _ s1 t1 w' (unhide HBX w' hb).2.2.1 (unhide HRQ))
  have HRf := hide (fun w' P L x (hb : Below (w4.heap.size + 2) W6 w') (hR : Sp.RimIs q s1 t1 P L x) => flow8_any q _ _ _ _ s1 t1 w' (unhide HBX w' hb).2.2.2.1 (unhide HRQ) hR)
  obtain ⟨x0, x1, x2, x3⟩ := (unhide HBX W6 hb6).1
  go_upto_region 4 with fail
  clear x0 x1 x2 x3
  rw [← unhide HW6]
  go_cut [9, 10] (fun s9 s10 w' => s9 = .int .i64 s1 ∧ s10 = .int .i64 t1 ∧ Hid (Below (w4.heap.size + 2) W6 w'))
  case first =>
    have hbq := hb6.drew
    refine wp_region_G (fun w' => (w'.cell? ⟨w4.heap.size, 0, none⟩ = some (.int .i64 q.n) ∧ w'.cell? ⟨w4.heap.size, 1, none⟩ = some (.slice ta ln tc) ∧ w'.cell? ⟨w4.heap.size, 2, none⟩ = some (.slice na ln nc) ∧ w'.cell? ⟨w4.heap.size, 3, none⟩ = some (.slice ca ln cc))) (fun _ => false) (by kernel_rfl) (unhide HBX _ hbq).1 (fun hHeld => ?_)
    generalize W6.drew = wq at *
    refine wpAnyG_take (v := ?_) 0 (by rfl) (by kernel_rfl) (by kernel_rfl) (by kernel_rfl) (by kernel_rfl) (fun _ _ _ h => h) (Or.inl ⟨by rfl, ?_⟩) (by assumption) ?_
    rotate_left
    · (intro w' hSw; (try dsimp only at hSw); (try simp only [List.getElem_toArray, List.getElem_cons_zero]); go_simp; try (with_reducible rfl))
    simp only [Act.put, List.getElem_toArray, List.getElem_cons_zero, List.setIfInBounds_toArray, List.set_cons_zero, List.set_cons_succ]
    refine wpAnyG_take (v := ?_) 1 (by rfl) (by kernel_rfl) (by kernel_rfl) (by kernel_rfl) (by kernel_rfl) (fun _ _ _ h => h) (Or.inl ⟨by rfl, ?_⟩) (by assumption) ?_
    rotate_left
    · (intro w' hSw; (try dsimp only at hSw); (try simp only [List.getElem_toArray, List.getElem_cons_succ, List.getElem_cons_zero]); go_simp; try (with_reducible rfl))
    simp only [Act.put, List.getElem_toArray, List.getElem_cons_succ, List.getElem_cons_zero, List.setIfInBounds_toArray, List.set_cons_zero, List.set_cons_succ]
    refine wpAnyG_take (v := ?_) 2 (by rfl) (by kernel_rfl) (by kernel_rfl) (by kernel_rfl) (by kernel_rfl) (fun _ _ _ h => h) (Or.inl ⟨by rfl, ?_⟩) (by assumption) ?_
    rotate_left
    · (intro w' hSw; (try dsimp only at hSw); (try simp only [List.getElem_toArray, List.getElem_cons_succ, List.getElem_cons_zero]); go_simp; try (with_reducible rfl))
    simp only [Act.put, List.getElem_toArray, List.getElem_cons_succ, List.getElem_cons_zero, List.setIfInBounds_toArray, List.set_cons_zero, List.set_cons_succ]
    refine wpAnyG_take (v := ?_) 4 (by rfl) (by kernel_rfl) (by kernel_rfl) (by kernel_rfl) (by kernel_rfl) (fun _ _ _ h => h) (Or.inl ⟨by rfl, ?_⟩) (by assumption) ?_
    rotate_left
    · (intro w' hSw; (try dsimp only at hSw); (try simp only [List.getElem_toArray, List.getElem_cons_succ, List.getElem_cons_zero]); go_simp; try (with_reducible rfl))
    simp only [Act.put, List.getElem_toArray, List.getElem_cons_succ, List.getElem_cons_zero, List.setIfInBounds_toArray, List.set_cons_zero, List.set_cons_succ]
    refine wpAnyG_take (v := ?_) 5 (by rfl) (by kernel_rfl) (by kernel_rfl) (by kernel_rfl) (by kernel_rfl) (fun _ _ _ h => h) (Or.inl ⟨by rfl, ?_⟩) (by assumption) ?_
    rotate_left
    · (intro w' hSw; (try dsimp only at hSw); (try simp only [List.getElem_toArray, List.getElem_cons_succ, List.getElem_cons_zero]); go_simp; try (with_reducible rfl))
    simp only [Act.put, List.getElem_toArray, List.getElem_cons_succ, List.getElem_cons_zero, List.setIfInBounds_toArray, List.set_cons_zero, List.set_cons_succ]
    refine wpAnyG_take (v := ?_) 6 (by rfl) (by kernel_rfl) (by kernel_rfl) (by kernel_rfl) (by kernel_rfl) (fun _ _ _ h => h) (Or.inl ⟨by rfl, ?_⟩) (by assumption) ?_
    rotate_left
    · (intro w' hSw; (try dsimp only at hSw); (try simp only [List.getElem_toArray, List.getElem_cons_succ, List.getElem_cons_zero]); go_simp; try (with_reducible rfl))
    simp only [Act.put, List.getElem_toArray, List.getElem_cons_succ, List.getElem_cons_zero, List.setIfInBounds_toArray, List.set_cons_zero, List.set_cons_succ]
    refine wpAnyG_ready [3] (by kernel_rfl) (by simp) ?_
    refine AllReadyG.cons 3 (by rfl) (fun K hK => ?_) ?_
    · simp only [List.getElem_toArray, List.getElem_cons_succ, List.getElem_cons_zero]
      go_simp
      go_at_call 8
      refine (unhide HWs _).mono ?_
      rintro e wc1 ⟨rfl, hlc1⟩
      have hlc1' := hlc1.symm
      clear hlc1
      subst hlc1'
      refine hK.out _ _ (unhide HBX _ hbq).1 (fun _ => ?_)
      clear hK K
      try simp only [Act.put, List.setIfInBounds_toArray, List.set_cons_zero, List.set_cons_succ]
      refine wpAnyG_ready [7] (by kernel_rfl) (by simp) ?_
      refine AllReadyG.cons 7 (by rfl) (fun K hK => ?_) ?_
      · simp only [List.getElem_toArray, List.getElem_cons_succ, List.getElem_cons_zero]
        go_simp
        go_at_call 8
        refine (unhide HWt _).mono ?_
        rintro e wc2 ⟨rfl, hlc2⟩
        have hlc2' := hlc2.symm
        clear hlc2
        subst hlc2'
        refine hK.out _ _ (unhide HBX _ hbq).1 (fun _ => ?_)
        clear hK K
        try simp only [Act.put, List.setIfInBounds_toArray, List.set_cons_zero, List.set_cons_succ]
        refine wpAnyG_take (v := ?_) 8 (by rfl) (by kernel_rfl) (by kernel_rfl) (by kernel_rfl) (by kernel_rfl) (fun _ _ _ h => h) (Or.inl ⟨by rfl, ?_⟩) (by assumption) ?_
        rotate_left
        · (intro w' hSw; (try dsimp only at hSw); (try simp only [List.getElem_toArray, List.getElem_cons_succ, List.getElem_cons_zero]); go_simp; try (with_reducible rfl))
        simp only [Act.put, List.getElem_toArray, List.getElem_cons_succ, List.getElem_cons_zero, List.setIfInBounds_toArray, List.set_cons_zero, List.set_cons_succ]
        refine wpAnyG_take (v := ?_) 9 (by rfl) (by kernel_rfl) (by kernel_rfl) (by kernel_rfl) (by kernel_rfl) (fun _ _ _ h => h) (Or.inl ⟨by rfl, ?_⟩) (by assumption) ?_
        rotate_left
        · (intro w' hSw; (try dsimp only at hSw); (try simp only [List.getElem_toArray, List.getElem_cons_succ, List.getElem_cons_zero]); go_simp; try (with_reducible rfl))
        simp only [Act.put, List.getElem_toArray, List.getElem_cons_succ, List.getElem_cons_zero, List.setIfInBounds_toArray, List.set_cons_zero, List.set_cons_succ]
        refine wpAnyG_done (by kernel_rfl) ?_ _
        refine NoPanic.normal ?_
        clear hHeld
        have HBq := hide hbq
        go_wp2
        go_meet
        exact ⟨rfl, rfl, HBq⟩
      exact AllReadyG.nil
    exact AllReadyG.nil
  case rest =>
    obtain ⟨rfl, rfl, HBq⟩ := hcut
    have hb5 := unhide HBq
    clear HBq hb6
    obtain ⟨x0, x1, x2, x3⟩ := (unhide HBX _ hb5).1
    go_wp2_with fail
    go_at_call 9
    refine (unhide HFl _ hb5).mono ?_
    rintro e w8 ⟨lv, P1, L1, x11, rfl, hO1, hR1, hl⟩
    have hb8p := hb5
    have hb8 := unhide HTR _ _ hb5 hl
    clear hl x0 x1 x2 x3
    have hm1 := unhide HLe _ _ _ hR1
    clear hR1
    obtain ⟨la, lc, hlv, -, -⟩ := (OwnI.ints hO1).form
    subst hlv
    have HLg : Hid (0 < L1.length → ∃ g, la = some ⟨g, 0, none⟩ ∧ w4.heap.size + 2 ≤ g) := hide fun h0 => by
      obtain ⟨g, c, e1, e2, e3, -, -⟩ := own_form hO1 h0
      injection e1 with e1 _ _
      exact ⟨g, e1, by have := (unhide HBX _ hb8p).2.2.2.2.2; omega⟩
    have HO0 : Hid (Below (w4.heap.size + 2) W6 w8 ∧ ∀ g, la = some ⟨g, 0, none⟩ → 0 < L1.length → Open' w8 g 0 L1.length) := hide ⟨hb8, fun g e h0 => by
      subst e
      exact own_open hO1⟩
    obtain ⟨m, hm⟩ : ∃ m, L1.length = m := ⟨_, rfl⟩
    rw [hm] at HLg HO0 hm1 ⊢
    clear hm hO1
    go_wp2
    go_loopg [14] m (fun g s14 wr => ∃ i : Nat, i + g = m ∧ s14 = .int .i64 (i : Int) ∧ Hid (Below (w4.heap.size + 2) W6 wr ∧ ∀ g, la = some ⟨g, 0, none⟩ → 0 < m → Open' wr g 0 m))
    case atStart => exact ⟨0, by omega, rfl, HO0⟩
    case round =>
      clear HO0
      obtain ⟨i, hig, rfl, HI⟩ := hrel
      cases gk with
      | succ g' =>
        have hil : i < m := by omega
        have hiI : (i : Int) < (m : Int) := by omega
        obtain ⟨fg, rfl, hfg⟩ := unhide HLg (by omega)
        obtain ⟨vi, ci, fi⟩ := (unhide HI).2 fg rfl (by omega) i hil
        rw [Nat.zero_add] at ci fi
        have HA2 : Hid (∀ v, Below (w4.heap.size + 2) W6 (wr.setCell ⟨fg, i, none⟩ v) ∧ ∀ g, (some ⟨fg, 0, none⟩ : Option Addr) = some ⟨g, 0, none⟩ → 0 < m → Open' (wr.setCell ⟨fg, i, none⟩ v) g 0 m) := hide fun v => ⟨(unhide HI).1.setCell (by exact hfg) v, fun g e h0 => ((unhide HI).2 g e h0).set _ _⟩
        clear HI
        go_wp2
        go_roundg g'
        case rel => exact ⟨i + 1, by omega, by go_num, hide (unhide HA2 _)⟩
        case measure => omega
      | zero =>
        have hie : i = m := by omega
        rw [hie]
        clear hie hig HLg
        have hb9 := (unhide HI).1
        clear HI
        obtain ⟨x0, x1, x2, x3⟩ := (unhide HBX _ hb9).1
        go_wp2_with fail
        go_at_call 12
        refine (unhide HHt _ hb9).mono ?_
        rintro e wA ⟨pv, P3, L3, x33, rfl, hO3, hR3, hl⟩
        have hbAp := hb9
        have hbA := unhide HTR _ _ hb9 hl
        clear hl x0 x1 x2 x3
        have hm3 := unhide HPe _ _ _ hR3
        clear hR3
        obtain ⟨la, lc, hlv, -, -⟩ := (OwnI.ints hO3).form
        subst hlv
        have HLg : Hid (0 < P3.length → ∃ g, la = some ⟨g, 0, none⟩ ∧ w4.heap.size + 2 ≤ g) := hide fun h0 => by
          obtain ⟨g, c, e1, e2, e3, -, -⟩ := own_form hO3 h0
          injection e1 with e1 _ _
          exact ⟨g, e1, by have := (unhide HBX _ hbAp).2.2.2.2.2; omega⟩
        have HO0 : Hid (Below (w4.heap.size + 2) W6 wA ∧ ∀ g, la = some ⟨g, 0, none⟩ → 0 < P3.length → Open' wA g 0 P3.length) := hide ⟨hbA, fun g e h0 => by
          subst e
          exact own_open hO3⟩
        obtain ⟨m, hm⟩ : ∃ m, P3.length = m := ⟨_, rfl⟩
        rw [hm] at HLg HO0 hm3 ⊢
        clear hm hO3
        go_wp2
        go_loopg [17] m (fun g s17 wr => ∃ i : Nat, i + g = m ∧ s17 = .int .i64 (i : Int) ∧ Hid (Below (w4.heap.size + 2) W6 wr ∧ ∀ g, la = some ⟨g, 0, none⟩ → 0 < m → Open' wr g 0 m))
        case atStart => exact ⟨0, by omega, rfl, HO0⟩
        case round =>
          clear HO0
          obtain ⟨i, hig, rfl, HI⟩ := hrel
          cases gk with
          | succ g' =>
            have hil : i < m := by omega
            have hiI : (i : Int) < (m : Int) := by omega
            obtain ⟨fg, rfl, hfg⟩ := unhide HLg (by omega)
            obtain ⟨vi, ci, fi⟩ := (unhide HI).2 fg rfl (by omega) i hil
            rw [Nat.zero_add] at ci fi
            have HA2 : Hid (∀ v, Below (w4.heap.size + 2) W6 (wr.setCell ⟨fg, i, none⟩ v) ∧ ∀ g, (some ⟨fg, 0, none⟩ : Option Addr) = some ⟨g, 0, none⟩ → 0 < m → Open' (wr.setCell ⟨fg, i, none⟩ v) g 0 m) := hide fun v => ⟨(unhide HI).1.setCell (by exact hfg) v, fun g e h0 => ((unhide HI).2 g e h0).set _ _⟩
            clear HI
            go_wp2
            go_roundg g'
            case rel => exact ⟨i + 1, by omega, by go_num, hide (unhide HA2 _)⟩
            case measure => omega
          | zero =>
            have hie : i = m := by omega
            rw [hie]
            clear hie hig HLg
            have hbB := (unhide HI).1
            clear HI
            obtain ⟨x0, x1, x2, x3⟩ := (unhide HBX _ hbB).1
            go_wp2_with fail
            go_at_call 9
            refine (unhide HFl _ hbB).mono ?_
            rintro e wC ⟨lv4, P4, L4, x4, rfl, hO4, hR4, hl⟩
            have hbCp := hbB
            have hbC := unhide HTR _ _ hbB hl
            clear hl x0 x1 x2 x3
            obtain ⟨x0, x1, x2, x3⟩ := (unhide HBX _ hbC).2.1
            go_wp2_with fail
            go_at_call 14
            refine (unhide HRf _ _ _ _ hbC hR4).mono ?_
            rintro e wE ⟨lv5, rfl, hO5, hl⟩
            have hbEp := hbC
            have hbE := unhide HTR _ _ hbC hl
            have hI4 := (OwnI.ints hO4).below hl
            have hI5 := OwnI.ints hO5
            have hL4 := unhide HLe _ _ _ hR4
            clear hl x0 x1 x2 x3
            clear hO4 hO5 hR4
            generalize Sp.rimE q s1 t1 = E at *
            have e4 : (x4 == x4) = true := beq_self_eq_true _
            have eE : (E == E) = true := beq_self_eq_true _
            obtain ⟨x0, x1, x2, x3⟩ := (unhide HBX _ hbE).1
            obtain ⟨y0, y1, y2, y3⟩ := (unhide HBX _ hbE).2.1
            go_wp2_with fail
            go_at_call 15
            refine (unhide HSm _ hbE).mono ?_
            rintro e wF ⟨rfl, hl⟩
            have hbF := unhide HTR _ _ hbE hl
            replace hI4 := hI4.below hl
            replace hI5 := hI5.below hl
            clear hl x0 x1 x2 x3 y0 y1 y2 y3
            obtain ⟨x0, x1, x2, x3⟩ := (unhide HBX _ hbF).1
            obtain ⟨y0, y1, y2, y3⟩ := (unhide HBX _ hbF).2.1
            go_wp2_with fail
            go_at_call 16
            refine (unhide HIs _ _ _ _ hL4 hI4 hI5).mono ?_
            rintro e wG ⟨rfl, hl⟩
            have hbG := unhide HTR _ _ hbF hl
            clear hl x0 x1 x2 x3 y0 y1 y2 y3
            obtain ⟨x0, x1, x2, x3⟩ := (unhide HBX _ hbG).1
            obtain ⟨y0, y1, y2, y3⟩ := (unhide HBX _ hbG).2.1
            go_wp2_with fail
            go_at_call 17
            refine (unhide HCc _ hbG).mono ?_
            rintro e wH ⟨rfl, hl⟩
            have hbH := unhide HTR _ _ hbG hl
            clear hl x0 x1 x2 x3 y0 y1 y2 y3
            have HFin := hide (unhide HBX _ hbH).2.2.2.2.1
            go_wp2
            rw [unhide HP]
            exact ⟨by rfl, unhide HFin⟩
end Go.Proofs.Ytoegjnolccabjab


