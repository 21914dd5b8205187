/- What the proof needs, part 9. -/
import Derived.Test.YtenffkplneimlabL8
/- The walk of the second reference's Check: it tells what the program's does. -/
namespace Go.Proofs.Ytenffkplneimlab
open Go Go.RowKit

theorem ck2 {q : Sp.Net} (h : Sp.fewB q = false) : Sp.checkI q = 2 := by unfold Sp.checkI; rw [if_pos h]
theorem ck5 {q : Sp.Net} (h1 : Sp.fewB q = true) (h : Sp.matchedB q = false) : Sp.checkI q = 5 := by unfold Sp.checkI; rw [if_neg (by rw [h1]; decide), if_pos h]
theorem ck3 {q : Sp.Net} (h1 : Sp.fewB q = true) (h2 : Sp.matchedB q = true) (h : q.n < 1 ∨ Sp.placedB q = false) : Sp.checkI q = 3 := by
  unfold Sp.checkI
  rw [if_neg (by rw [h1]; decide), if_neg (by rw [h2]; decide)]
  by_cases hn : q.n < 1
  · rw [if_pos hn]
  · rw [if_neg hn, if_pos (h.resolve_left hn)]
theorem ck6 {q : Sp.Net} (h1 : Sp.fewB q = true) (h2 : Sp.matchedB q = true) (h3 : ¬ q.n < 1) (h4 : Sp.placedB q = true) (h : Sp.turningB q = false) : Sp.checkI q = 6 := by
  unfold Sp.checkI
  rw [if_neg (by rw [h1]; decide), if_neg (by rw [h2]; decide), if_neg h3, if_neg (by rw [h4]; decide), if_pos h]
theorem ck4 {q : Sp.Net} (h1 : Sp.fewB q = true) (h2 : Sp.matchedB q = true) (h3 : ¬ q.n < 1) (h4 : Sp.placedB q = true) (h5 : Sp.turningB q = true) (h : Sp.heldB q = false) : Sp.checkI q = 4 := by
  unfold Sp.checkI
  rw [if_neg (by rw [h1]; decide), if_neg (by rw [h2]; decide), if_neg h3, if_neg (by rw [h4]; decide), if_neg (by rw [h5]; decide), if_pos h]
theorem ck7 {q : Sp.Net} (h1 : Sp.fewB q = true) (h2 : Sp.matchedB q = true) (h3 : ¬ q.n < 1) (h4 : Sp.placedB q = true) (h5 : Sp.turningB q = true) (h6 : Sp.heldB q = true) (h : (Sp.pieces q).2 ≠ 1) : Sp.checkI q = 7 := by
  unfold Sp.checkI
  rw [if_neg (by rw [h1]; decide), if_neg (by rw [h2]; decide), if_neg h3, if_neg (by rw [h4]; decide), if_neg (by rw [h5]; decide), if_neg (by rw [h6]; decide), if_pos h]
theorem ck80 {q : Sp.Net} (h1 : Sp.fewB q = true) (h2 : Sp.matchedB q = true) (h3 : ¬ q.n < 1) (h4 : Sp.placedB q = true) (h5 : Sp.turningB q = true) (h6 : Sp.heldB q = true) (h7 : (Sp.pieces q).2 = 1) : Sp.checkI q = if q.n - ((q.tail.length / 2 : Nat) : Int) + (Sp.facesN q : Int) ≠ 2 then 8 else 0 := by
  unfold Sp.checkI
  rw [if_neg (by rw [h1]; decide), if_neg (by rw [h2]; decide), if_neg h3, if_neg (by rw [h4]; decide), if_neg (by rw [h5]; decide), if_neg (by rw [h6]; decide), if_neg (fun h => h h7)]
theorem all_of_getD {l : List Int} {p : Int → Bool} (h : ∀ j, j < l.length → p (l.getD j 0) = true) : l.all p = true := by
  rw [List.all_eq_true]
  intro x hx
  obtain ⟨i, hi, rfl⟩ := List.mem_iff_getElem.1 hx
  rw [← Sp.getD_eq]
  exact h i hi
theorem not_all_of {l : List Int} {p : Int → Bool} {j : Nat} (hj : j < l.length) (h : p (l.getD j 0) = false) : l.all p = false := by
  cases hb : l.all p with
  | false => rfl
  | true =>
    have := List.all_eq_true.1 hb _ (Sp.getD_mem hj)
    rw [h] at this
    cases this
set_option maxRecDepth 100000 in
set_option maxHeartbeats 4000000 in
theorem check2_any (q : Sp.Net) (v tv nv cv : Value) (w : World) (hv : NetI w v q tv nv cv) (hlo : -9223372036854775808 ≤ q.n) (hhi : q.n ≤ 9223372036854775807) :
    Calls Try.prog 13 #[v] w fun e w' => e = .returned (.int .i64 (Sp.checkI q)) ∧ Below w.heap.size w w' := by
  have hv' := hv
  obtain ⟨rfl, h1, h2, h3⟩ := hv
  obtain ⟨ta, tc, rfl, htc, htm⟩ := h1.form
  obtain ⟨na, nc, rfl, hnc, hnm⟩ := h2.form
  obtain ⟨ca, cc, rfl, hcc, hcm⟩ := h3.form
  clear h1 h2 h3
  have HBX := hide (box_new w q.n (.slice ta q.tail.length tc) (.slice na q.next.length nc) (.slice ca q.cap.length cc))
  obtain ⟨W1, hW1⟩ : ∃ W1, W1 = w.alloc (.cells #[.int .i64 q.n, .slice ta q.tail.length tc, .slice na q.next.length nc, .slice ca q.cap.length cc] 25) := ⟨_, rfl⟩
  rw [← hW1] at HBX
  have hb1 : Below w.heap.size w W1 := by rw [hW1]; exact (Below.refl _ w).alloc (Nat.le_refl _) _
  have hs1 : W1.heap.size = w.heap.size + 1 := by rw [hW1]; simp
  have HW : Hid (∀ w', Below (w.heap.size + 1) W1 w' → Below w.heap.size w w') := hide fun w' hb => hb1.trans (hb.mono (by omega))
  have HTR : Hid (∀ w2 w5, Below (w.heap.size + 1) W1 w2 → Below w2.heap.size w2 w5 → Below (w.heap.size + 1) W1 w5) := hide fun w2 w5 h2 h5 => h2.trans (h5.mono (by have := h2.size; omega))
  have HV : Hid (∀ w', Below (w.heap.size + 1) W1 w' → NetI w' (.agg #[.int .i64 q.n, .slice ta q.tail.length tc, .slice na q.next.length nc, .slice ca q.cap.length cc]) q (.slice ta q.tail.length tc) (.slice na q.next.length nc) (.slice ca q.cap.length cc)) := hide fun w' hb => by
    have hb0 := unhide HW w' hb
    exact ⟨rfl, hv'.tail.below hb0, hv'.next.below hb0, hv'.cap.below hb0⟩
  obtain ⟨P, hP⟩ : ∃ P : Ending → World → Prop, P = fun e w' => e = .returned (.int .i64 (Sp.checkI q)) ∧ Below w.heap.size w w' := ⟨_, rfl⟩
  rw [← hP]
  have HP := hide hP
  have HB1 : Hid (Below (w.heap.size + 1) W1 W1) := hide (Below.refl _ _)
  have HW1 := hide hW1
  have Hf1 := hide (unhide HW _ (unhide HB1))
  clear hP hb1 hv' hW1 hs1
  go_enter Try.func13, Try.ntmps13
  cases hfew : Sp.fewB q with
  | false =>
    have hor : 60 < q.n ∨ 240 < q.tail.length := by
      simp only [Sp.fewB, Bool.and_eq_false_iff, decide_eq_false_iff_not] at hfew
      omega
    have HR := hide (ck2 hfew)
    clear hfew
    by_cases h60 : 60 < q.n
    · have hd : decide (q.n > 60) = true := decide_eq_true h60
      have hd2 : decide (60 < q.n) = true := decide_eq_true h60
      go_wp2
      rw [unhide HP, ← unhide HW1]
      exact ⟨by rw [unhide HR] <;> rfl, unhide Hf1⟩
    · have hd : decide (q.n > 60) = false := decide_eq_false h60
      have hd2 : decide (60 < q.n) = false := decide_eq_false h60
      have h240 : 240 < q.tail.length := hor.resolve_left h60
      have h240I : (240 : Int) < (q.tail.length : Int) := by omega
      clear hor
      go_wp2
      rw [unhide HP, ← unhide HW1]
      exact ⟨by rw [unhide HR] <;> rfl, unhide Hf1⟩
  | true =>
    have hfw : q.n ≤ 60 ∧ q.tail.length ≤ 240 := by
      simp only [Sp.fewB, Bool.and_eq_true, decide_eq_true_eq] at hfew
      exact hfew
    have Hfew := hide hfew
    clear hfew
    obtain ⟨h60, h240⟩ := hfw
    have hd60 : decide (q.n > 60) = false := decide_eq_false (by omega)
    have hd60' : decide (60 < q.n) = false := decide_eq_false (by omega)
    have hn60 : ¬ 60 < q.n := by omega
    have h240I : ¬ (240 : Int) < (q.tail.length : Int) := by omega
    by_cases hlens : q.next.length = q.tail.length ∧ q.cap.length = q.tail.length ∧ q.tail.length % 2 = 0
    · obtain ⟨hnl, hcl, hev⟩ := hlens
      rw [hnl] at hnc
      rw [hcl] at hcc
      rw [hnl, hcl] at HBX HV HW1 ⊢
      have HMt : Hid (Sp.matchedB q = q.next.all (Sp.inB q.tail.length)) := hide (by unfold Sp.matchedB; rw [decide_eq_true ⟨hev, hnl, hcl⟩, Bool.true_and])
      have HPl : Hid (Sp.placedB q = (q.tail.all (Sp.inB q.n) && decide (0 ≤ q.n))) := hide rfl
      have Hnl := hide hnl
      have Hcl := hide hcl
      have Hev := hide hev
      clear hnl hcl hev
      generalize hln : q.tail.length = ln at *
      have Hln := hide hln
      have hev2 : ln % 2 = 0 := unhide Hev
      have hmod : (ln : Int).tmod 2 = 0 := by rw [Int.tmod_eq_emod_of_nonneg (by omega)]; omega
      have hll : ((ln : Int) != (ln : Int)) = false := by simp
      clear hln hev2
      go_wp2_with fail
      rw [← unhide HW1]
      have HNa : Hid (0 < ln → ∃ nb nt, na = some ⟨nb, nt, none⟩) := hide fun h0 => by
        obtain ⟨b, o, c', e⟩ := (unhide HV W1 (unhide HB1)).next.openF (by rw [unhide Hnl]; exact h0)
        injection e with e1
        exact ⟨b, o, e1⟩
      have HTa : Hid (0 < ln → ∃ nb nt, ta = some ⟨nb, nt, none⟩) := hide fun h0 => by
        obtain ⟨b, o, c', e⟩ := (unhide HV W1 (unhide HB1)).tail.openF (by rw [unhide Hln]; exact h0)
        injection e with e1
        exact ⟨b, o, e1⟩
      have HCa : Hid (0 < ln → ∃ nb nt, ca = some ⟨nb, nt, none⟩) := hide fun h0 => by
        obtain ⟨b, o, c', e⟩ := (unhide HV W1 (unhide HB1)).cap.openF (by rw [unhide Hcl]; exact h0)
        injection e with e1
        exact ⟨b, o, e1⟩
      have HNc : Hid (∀ nb nt, na = some ⟨nb, nt, none⟩ → ∀ k w', k < ln → Below (w.heap.size + 1) W1 w' → w'.cell? ⟨nb, nt + k, none⟩ = some (.int .i64 (q.next.getD k 0))) := hide fun nb nt e k w' hk hb => by
        have h := (unhide HV w' hb).next
        rw [e] at h
        exact h.cellF k (by rw [unhide Hnl]; exact hk)
      have HTc : Hid (∀ nb nt, ta = some ⟨nb, nt, none⟩ → ∀ k w', k < ln → Below (w.heap.size + 1) W1 w' → w'.cell? ⟨nb, nt + k, none⟩ = some (.int .i64 (q.tail.getD k 0))) := hide fun nb nt e k w' hk hb => by
        have h := (unhide HV w' hb).tail
        rw [e] at h
        exact h.cellF k (by rw [unhide Hln]; exact hk)
      have HCc : Hid (∀ nb nt, ca = some ⟨nb, nt, none⟩ → ∀ k w', k < ln → Below (w.heap.size + 1) W1 w' → w'.cell? ⟨nb, nt + k, none⟩ = some (.int .i64 (q.cap.getD k 0))) := hide fun nb nt e k w' hk hb => by
        have h := (unhide HV w' hb).cap
        rw [e] at h
        exact h.cellF k (by rw [unhide Hcl]; exact hk)
      have HTu := hide (fun w' (hb : Below (w.heap.size + 1) W1 w') (hw : Sp.walkB q = true) => turns2_any q _ _ _ _ w' (unhide HV w' hb) hw)
      have HPa := hide (fun w' (hb : Below (w.heap.size + 1) W1 w') (hw : Sp.walkB q = true) => parts2_any q _ _ _ _ w' (unhide HV w' hb) hw)
      have HFa := hide (fun w' (hb : Below (w.heap.size + 1) W1 w') (hp : Sp.Perm q.next) => faces2_any q _ _ _ _ w' (unhide HV w' hb) (by rw [unhide Hnl, unhide Hln]) (by rw [unhide Hln]; omega) (by rw [unhide Hln]; exact unhide Hev) hp)
      clear HV
      go_loopg [4] ln (fun g s4 wr => ∃ d : Nat, d + g = ln ∧ s4 = .int .i64 (d : Int) ∧ Hid (Below (w.heap.size + 1) W1 wr ∧ ∀ j, j < d → Sp.inB ln (q.next.getD j 0) = true))
      case atStart => exact ⟨0, by omega, rfl, hide ⟨unhide HB1, fun j hj => by omega⟩⟩
      case round =>
        obtain ⟨d, hdg, rfl, HD⟩ := hrel
        obtain ⟨x0, x1, x2, x3, -⟩ := unhide HBX wr (unhide HD).1
        clear HB1
        cases gk with
        | succ g' =>
          have hdl : d < ln := by omega
          have hdI : (d : Int) < (ln : Int) := by omega
          obtain ⟨nb, nt, hna⟩ := unhide HNa (by omega)
          have c1 := unhide HNc nb nt hna d wr hdl (unhide HD).1
          subst hna
          have Hfin := hide (unhide HW _ (unhide HD).1)
          by_cases hin : Sp.inB ln (q.next.getD d 0) = true
          · have hb : 0 ≤ q.next.getD d 0 ∧ q.next.getD d 0 < (ln : Int) := by simpa [Sp.inB] using hin
            have HD2 : Hid (Below (w.heap.size + 1) W1 wr ∧ ∀ j, j < d + 1 → Sp.inB ln (q.next.getD j 0) = true) := hide ⟨(unhide HD).1, fun j hj => by
              rcases Nat.lt_or_ge j d with h1 | h1
              · exact (unhide HD).2 j h1
              · rw [show j = d by omega]; exact hin⟩
            clear hin HD x0 x1 x3
            generalize q.next.getD d 0 = z at *
            have hb0 : decide (z < 0) = false := decide_eq_false (by omega)
            have hb0n : ¬ z < 0 := by omega
            have hb1 : decide ((ln : Int) ≤ z) = false := decide_eq_false (by omega)
            have hb1n : ¬ (ln : Int) ≤ z := by omega
            have hb1g : decide (z ≥ (ln : Int)) = false := decide_eq_false (by omega)
            clear hb
            go_wp2
            go_roundg g'
            case rel => exact ⟨d + 1, by omega, by go_num, HD2⟩
            case measure => omega
          · have hin' : Sp.inB ln (q.next.getD d 0) = false := by cases hb : Sp.inB ln (q.next.getD d 0) with | false => rfl | true => exact absurd hb hin
            have HM : Hid (Sp.checkI q = 5) := hide (ck5 (unhide Hfew) (by rw [unhide HMt]; exact not_all_of (by rw [unhide Hnl]; exact hdl) hin'))
            have hb : q.next.getD d 0 < 0 ∨ (ln : Int) ≤ q.next.getD d 0 := by
              simp only [Sp.inB, Bool.and_eq_false_iff, decide_eq_false_iff_not] at hin'
              omega
            clear hin hin' HD x0 x1 x3
            generalize q.next.getD d 0 = z at *
            by_cases hz : z < 0
            · have hb0 : decide (z < 0) = true := decide_eq_true hz
              clear hb
              go_wp2
              rw [unhide HP]
              exact ⟨by rw [unhide HM] <;> rfl, unhide Hfin⟩
            · have hb0 : decide (z < 0) = false := decide_eq_false hz
              have hb1 : (ln : Int) ≤ z := hb.resolve_left hz
              have hb1d : decide ((ln : Int) ≤ z) = true := decide_eq_true hb1
              clear hb
              go_wp2
              rw [unhide HP]
              exact ⟨by rw [unhide HM] <;> rfl, unhide Hfin⟩
        | zero =>
          have hde : d = ln := by omega
          rw [hde] at HD ⊢
          have HM : Hid (Sp.matchedB q = true) := hide (by rw [unhide HMt]; exact all_of_getD fun j hj => (unhide HD).2 j (by rw [unhide Hnl] at hj; exact hj))
          have HBd := hide (unhide HD).1
          clear hde hdg HD HMt HNa HNc x1 x2 x3
          have Hfin := hide (unhide HW _ (unhide HBd))
          by_cases hn1 : q.n < 1
          · have HR : Hid (Sp.checkI q = 3) := hide (ck3 (unhide Hfew) (unhide HM) (.inl hn1))
            have hd1 : decide (q.n < 1) = true := decide_eq_true hn1
            go_wp2
            rw [unhide HP]
            exact ⟨by rw [unhide HR] <;> rfl, unhide Hfin⟩
          · have Hn1 := hide hn1
            have hd1 : decide (q.n < 1) = false := decide_eq_false hn1
            clear Hfin
            go_wp2_with fail
            go_loopg [5] ln (fun g s5 wr => ∃ d : Nat, d + g = ln ∧ s5 = .int .i64 (d : Int) ∧ Hid (Below (w.heap.size + 1) W1 wr ∧ ∀ j, j < d → Sp.inB q.n (q.tail.getD j 0) = true))
            case atStart => exact ⟨0, by omega, rfl, hide ⟨unhide HBd, fun j hj => by omega⟩⟩
            case round =>
              obtain ⟨d, hdg, rfl, HD⟩ := hrel
              obtain ⟨x0, x1, x2, x3, -⟩ := unhide HBX wr (unhide HD).1
              clear HBd
              cases gk with
              | succ g' =>
                have hdl : d < ln := by omega
                have hdI : (d : Int) < (ln : Int) := by omega
                obtain ⟨tb, tt, hta⟩ := unhide HTa (by omega)
                have c1 := unhide HTc tb tt hta d wr hdl (unhide HD).1
                subst hta
                have Hfin := hide (fun nq => unhide HW _ (below_dn (unhide HD).1 nq))
                by_cases hin : Sp.inB q.n (q.tail.getD d 0) = true
                · have hb : 0 ≤ q.tail.getD d 0 ∧ q.tail.getD d 0 < q.n := by simpa [Sp.inB] using hin
                  have HD2 : Hid (∀ nq, Below (w.heap.size + 1) W1 (wr.drewN nq) ∧ ∀ j, j < d + 1 → Sp.inB q.n (q.tail.getD j 0) = true) := hide fun nq => ⟨below_dn (unhide HD).1 nq, fun j hj => by
                    rcases Nat.lt_or_ge j d with h1 | h1
                    · exact (unhide HD).2 j h1
                    · rw [show j = d by omega]; exact hin⟩
                  clear hin HD x2 x3
                  generalize q.tail.getD d 0 = z at *
                  have hb0 : decide (z < 0) = false := decide_eq_false (by omega)
                  have hb0n : ¬ z < 0 := by omega
                  have hb1 : decide (q.n ≤ z) = false := decide_eq_false (by omega)
                  have hb1n : ¬ q.n ≤ z := by omega
                  clear hb
                  go_wp2
                  go_quiet (fail)
                  have HDq := hide (unhide HD2 nq)
                  clear c1 x0 x1 HD2 Hfin
                  generalize wr.drewN nq = wq at *
                  go_wp2
                  go_roundg g'
                  case rel => exact ⟨d + 1, by omega, by go_num, HDq⟩
                  case measure => omega
                · have hin' : Sp.inB q.n (q.tail.getD d 0) = false := by cases hb : Sp.inB q.n (q.tail.getD d 0) with | false => rfl | true => exact absurd hb hin
                  have HR : Hid (Sp.checkI q = 3) := hide (ck3 (unhide Hfew) (unhide HM) (.inr (by rw [unhide HPl, not_all_of (by rw [unhide Hln]; exact hdl) hin', Bool.false_and])))
                  have hb : q.tail.getD d 0 < 0 ∨ q.n ≤ q.tail.getD d 0 := by
                    simp only [Sp.inB, Bool.and_eq_false_iff, decide_eq_false_iff_not] at hin'
                    omega
                  clear hin hin' HD x2 x3
                  generalize q.tail.getD d 0 = z at *
                  by_cases hz : z < 0
                  · have hb0 : decide (z < 0) = true := decide_eq_true hz
                    clear hb
                    go_wp2
                    go_quiet (fail)
                    have HFq := hide (unhide Hfin nq)
                    clear c1 x0 x1 Hfin
                    generalize wr.drewN nq = wq at *
                    go_wp2
                    rw [unhide HP]
                    exact ⟨by rw [unhide HR] <;> rfl, unhide HFq⟩
                  · have hb0 : decide (z < 0) = false := decide_eq_false hz
                    have hb1 : q.n ≤ z := hb.resolve_left hz
                    have hb1d : decide (q.n ≤ z) = true := decide_eq_true hb1
                    clear hb
                    go_wp2
                    go_quiet (fail)
                    have HFq := hide (unhide Hfin nq)
                    clear c1 x0 x1 Hfin
                    generalize wr.drewN nq = wq at *
                    go_wp2
                    rw [unhide HP]
                    exact ⟨by rw [unhide HR] <;> rfl, unhide HFq⟩
              | zero =>
                have hde : d = ln := by omega
                rw [hde] at HD ⊢
                have HPd : Hid (Sp.placedB q = true) := hide (by
                  rw [unhide HPl, all_of_getD (fun j hj => (unhide HD).2 j (by rw [unhide Hln] at hj; exact hj)), Bool.true_and]
                  exact decide_eq_true (by omega))
                have HWB : Hid (Sp.walkB q = true) := hide (by unfold Sp.walkB; rw [unhide Hfew, unhide HM, unhide HPd]; rfl)
                have HBd := hide (unhide HD).1
                clear hde hdg HD HPl HTa HTc
                go_wp2_with fail
                go_at_call 28
                refine (unhide HTu wr (unhide HBd) (unhide HWB)).mono ?_
                clear HTu x0 x1 x2 x3
                rintro e w8 ⟨rfl, hl8⟩
                have HB8 := hide (unhide HTR _ _ (unhide HBd) hl8)
                obtain ⟨x0, x1, x2, x3, -⟩ := unhide HBX w8 (unhide HB8)
                clear hl8 HBd
                cases htu : Sp.turningB q with
                | false =>
                  have HR : Hid (Sp.checkI q = 6) := hide (ck6 (unhide Hfew) (unhide HM) (by have := unhide Hn1; omega) (unhide HPd) htu)
                  have Hfin := hide (unhide HW _ (unhide HB8))
                  clear htu
                  go_wp2
                  rw [unhide HP]
                  exact ⟨by rw [unhide HR] <;> rfl, unhide Hfin⟩
                | true =>
                  have HTt := hide htu
                  have HPm := hide (Sp.turning_to (walkQ (unhide HWB)).nb htu).1
                  clear htu
                  go_wp2_with fail
                  clear x0 x1 x2 x3
                  go_loopg [6] ln (fun g s6 wr => ∃ d : Nat, d + g = ln ∧ s6 = .int .i64 (d : Int) ∧ Hid (Below (w.heap.size + 1) W1 wr ∧ ∀ j, j < d → Sp.capB (q.cap.getD j 0) = true))
                  case atStart => exact ⟨0, by omega, rfl, hide ⟨unhide HB8, fun j hj => by omega⟩⟩
                  case round =>
                    obtain ⟨d, hdg, rfl, HD⟩ := hrel
                    obtain ⟨x0, x1, x2, x3, -⟩ := unhide HBX wr (unhide HD).1
                    clear HB8
                    cases gk with
                    | succ g' =>
                      have hdl : d < ln := by omega
                      have hdI : (d : Int) < (ln : Int) := by omega
                      obtain ⟨cb, ct, hca⟩ := unhide HCa (by omega)
                      have c1 := unhide HCc cb ct hca d wr hdl (unhide HD).1
                      subst hca
                      have Hfin := hide (unhide HW _ (unhide HD).1)
                      by_cases hin : Sp.capB (q.cap.getD d 0) = true
                      · have hb : 0 ≤ q.cap.getD d 0 ∧ q.cap.getD d 0 ≤ 2147483648 := by simpa [Sp.capB] using hin
                        have HD2 : Hid (Below (w.heap.size + 1) W1 wr ∧ ∀ j, j < d + 1 → Sp.capB (q.cap.getD j 0) = true) := hide ⟨(unhide HD).1, fun j hj => by
                          rcases Nat.lt_or_ge j d with h1 | h1
                          · exact (unhide HD).2 j h1
                          · rw [show j = d by omega]; exact hin⟩
                        clear hin HD x0 x1 x2
                        generalize q.cap.getD d 0 = z at *
                        have hb0 : decide (z < 0) = false := decide_eq_false (by omega)
                        have hb0n : ¬ z < 0 := by omega
                        have hb1 : decide (2147483648 < z) = false := decide_eq_false (by omega)
                        have hb1n : ¬ 2147483648 < z := by omega
                        clear hb
                        go_wp2
                        go_roundg g'
                        case rel => exact ⟨d + 1, by omega, by go_num, HD2⟩
                        case measure => omega
                      · have hin' : Sp.capB (q.cap.getD d 0) = false := by cases hb : Sp.capB (q.cap.getD d 0) with | false => rfl | true => exact absurd hb hin
                        have HR : Hid (Sp.checkI q = 4) := hide (ck4 (unhide Hfew) (unhide HM) (by have := unhide Hn1; omega) (unhide HPd) (unhide HTt) (not_all_of (by rw [unhide Hcl]; exact hdl) hin'))
                        have hb : q.cap.getD d 0 < 0 ∨ 2147483648 < q.cap.getD d 0 := by
                          simp only [Sp.capB, Bool.and_eq_false_iff, decide_eq_false_iff_not] at hin'
                          omega
                        clear hin hin' HD x0 x1 x2
                        generalize q.cap.getD d 0 = z at *
                        by_cases hz : z < 0
                        · have hb0 : decide (z < 0) = true := decide_eq_true hz
                          clear hb
                          go_wp2
                          rw [unhide HP]
                          exact ⟨by rw [unhide HR] <;> rfl, unhide Hfin⟩
                        · have hb0 : decide (z < 0) = false := decide_eq_false hz
                          have hb1 : 2147483648 < z := hb.resolve_left hz
                          have hb1d : decide (2147483648 < z) = true := decide_eq_true hb1
                          clear hb
                          go_wp2
                          rw [unhide HP]
                          exact ⟨by rw [unhide HR] <;> rfl, unhide Hfin⟩
                    | zero =>
                      have hde : d = ln := by omega
                      rw [hde] at HD ⊢
                      have HHe : Hid (Sp.heldB q = true) := hide (all_of_getD fun j hj => (unhide HD).2 j (by rw [unhide Hcl] at hj; exact hj))
                      have HBd := hide (unhide HD).1
                      clear hde hdg HD HCa HCc
                      go_wp2_with fail
                      go_at_call 29
                      refine (unhide HPa wr (unhide HBd) (unhide HWB)).mono ?_
                      clear HPa x0 x1 x2 x3
                      rintro e w9 ⟨pv, rfl, hpv, hl9⟩
                      have HB9 := hide (unhide HTR _ _ (unhide HBd) hl9)
                      obtain ⟨x0, x1, x2, x3, -⟩ := unhide HBX w9 (unhide HB9)
                      obtain ⟨pa, pc, hpve, -, -⟩ := hpv.ints.form
                      clear hl9 HBd hpv
                      obtain ⟨kp, hkp⟩ : ∃ kp, (Sp.pieces q).2 = kp := ⟨_, rfl⟩
                      rw [hkp]
                      by_cases h1p : kp = 1
                      · have h1b : ((kp : Int) != 1) = false := by rw [h1p]; rfl
                        have HR := hide (ck80 (unhide Hfew) (unhide HM) (by have := unhide Hn1; omega) (unhide HPd) (unhide HTt) (unhide HHe) (hkp.trans h1p))
                        rw [(Sp.faces_eq (unhide HPm) (by rw [unhide Hnl, unhide Hln]) (by rw [unhide Hln]; exact unhide Hev)).2, unhide Hln] at HR
                        have HFm : Hid ((Sp.faces2 q).2 ≤ 241) := hide (by
                          have h := (Sp.faces2_st (unhide HPm) (by rw [unhide Hnl, unhide Hln]) (by rw [unhide Hln]; exact unhide Hev)).cls
                          have h2 := facesN_le q (walkQ (unhide HWB))
                          rw [(Sp.faces_eq (unhide HPm) (by rw [unhide Hnl, unhide Hln]) (by rw [unhide Hln]; exact unhide Hev)).2] at h2
                          omega)
                        have HF1 := hide (unhide HFa w9 (unhide HB9) (unhide HPm))
                        obtain ⟨kf, hkf⟩ : ∃ kf, max (Sp.faces2 q).2 1 = kf := ⟨_, rfl⟩
                        have hkf2 : kf ≤ 241 := by have := unhide HFm; omega
                        rw [hkf] at HF1 HR
                        clear h1p hkp hkf HFa HFm
                        go_wp2_with fail
                        go_at_call 20
                        refine (unhide HF1).mono ?_
                        clear HF1 x0 x1 x2 x3
                        rintro e w10 ⟨fv, rfl, hfv, hl10⟩
                        have HB10 := hide (unhide HTR _ _ (unhide HB9) hl10)
                        obtain ⟨x0, x1, x2, x3, -⟩ := unhide HBX w10 (unhide HB10)
                        have Hfin := hide (unhide HW _ (unhide HB10))
                        have hn1' := unhide Hn1
                        obtain ⟨h2, hh2⟩ : ∃ h2 : Nat, ln / 2 = h2 := ⟨_, rfl⟩
                        rw [hh2] at HR
                        have hd2 : (ln : Int).tdiv 2 = (h2 : Int) := by rw [Int.tdiv_eq_ediv_of_nonneg (by omega)]; omega
                        have hh2b : h2 ≤ 120 := by omega
                        have hwd : IntKind.i64.wrap (h2 : Int) = (h2 : Int) := by rw [IntKind.wrap_i64]; omega
                        have hw1 : IntKind.i64.wrap (q.n - (h2 : Int)) = q.n - (h2 : Int) := by rw [IntKind.wrap_i64]; omega
                        clear hl10 HB9 hfv hh2 x1 x2 x3 hn1'
                        by_cases hE : q.n - (h2 : Int) + (kf : Int) = 2
                        · have hw2 : IntKind.i64.wrap (q.n - (h2 : Int) + (kf : Int)) = 2 := by rw [hE]; rfl
                          have HR0 : Hid (Sp.checkI q = 0) := hide (by rw [unhide HR, if_neg (fun h => h hE)])
                          clear HR hE
                          go_wp2
                          rw [unhide HP]
                          exact ⟨by rw [unhide HR0] <;> rfl, unhide Hfin⟩
                        · have hw2 : IntKind.i64.wrap (q.n - (h2 : Int) + (kf : Int)) = q.n - (h2 : Int) + (kf : Int) := by rw [IntKind.wrap_i64]; omega
                          have HR8 : Hid (Sp.checkI q = 8) := hide (by rw [unhide HR, if_pos hE])
                          have hEb : (q.n - (h2 : Int) + (kf : Int) != 2) = true := by rw [bne_iff_ne]; exact hE
                          clear HR
                          go_wp2
                          rw [unhide HP]
                          exact ⟨by rw [unhide HR8] <;> rfl, unhide Hfin⟩
                      · have h1b : ((kp : Int) != 1) = true := by rw [bne_iff_ne]; omega
                        have HR := hide (ck7 (unhide Hfew) (unhide HM) (by have := unhide Hn1; omega) (unhide HPd) (unhide HTt) (unhide HHe) (by rw [hkp]; exact h1p))
                        have Hfin := hide (unhide HW _ (unhide HB9))
                        clear hkp
                        go_wp2
                        rw [unhide HP]
                        exact ⟨by rw [unhide HR] <;> rfl, unhide Hfin⟩
    · have HM : Hid (Sp.checkI q = 5) := hide (ck5 (unhide Hfew) (by
        unfold Sp.matchedB
        rw [decide_eq_false (fun h => hlens ⟨h.2.1, h.2.2, h.1⟩), Bool.false_and]))
      by_cases hnl : q.next.length = q.tail.length
      · by_cases hcl : q.cap.length = q.tail.length
        · have hodd : ¬ q.tail.length % 2 = 0 := fun h => hlens ⟨hnl, hcl, h⟩
          rw [hnl, hcl] at HBX HV HW1 ⊢
          have hmod : (q.tail.length : Int).tmod 2 = 1 := by rw [Int.tmod_eq_emod_of_nonneg (by omega)]; omega
          have hll : ((q.tail.length : Int) != (q.tail.length : Int)) = false := by simp
          clear hlens hnl hcl hodd
          go_wp2
          rw [unhide HP, ← unhide HW1]
          exact ⟨by rw [unhide HM] <;> rfl, unhide Hf1⟩
        · rw [hnl] at HBX HV HW1 ⊢
          have hcb : ((q.cap.length : Int) != (q.tail.length : Int)) = true := by rw [bne_iff_ne]; omega
          have hll : ((q.tail.length : Int) != (q.tail.length : Int)) = false := by simp
          clear hlens hnl
          go_wp2
          rw [unhide HP, ← unhide HW1]
          exact ⟨by rw [unhide HM] <;> rfl, unhide Hf1⟩
      · have hcb : ((q.next.length : Int) != (q.tail.length : Int)) = true := by rw [bne_iff_ne]; omega
        clear hlens
        go_wp2
        rw [unhide HP, ← unhide HW1]
        exact ⟨by rw [unhide HM] <;> rfl, unhide Hf1⟩
end Go.Proofs.Ytenffkplneimlab


