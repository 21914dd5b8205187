/- The walk of package rot: Check. -/
import Derived.Test.YtnkkgeammohemabS25
namespace Go.Proofs.Ytnkkgeammohemab
open Go Go.RowKit

/-- What Check tells of any lists. -/
def Sp.checkI (q : Sp.Net) : Int :=
  if Sp.fewB q = false then 2 else if Sp.matchedB q = false then 5 else if q.n < 1 then 3 else if Sp.placedB q = false then 3 else if Sp.turningB q = false then 6 else if Sp.heldB q = false then 4
  else if (Sp.pieces q).2 ≠ 1 then 7 else if q.n - ((q.tail.length / 2 : Nat) : Int) + (Sp.facesN q : Int) ≠ 2 then 8 else 0
theorem facesN_le (q : Sp.Net) (h : WalkQ q) : Sp.facesN q ≤ 241 := by
  unfold Sp.facesN
  have hb := Sp.behindL_bd q.next (by rw [h.nx]; exact h.ev) h.nb
  rw [← Sp.behindL_len q.next] at hb
  have : (Sp.rndsD (Sp.behindL q.next)).2.length ≤ 240 := by
    unfold Sp.rndsD
    cases hr : Sp.rnds (Sp.behindL q.next) with
    | none => simp
    | some rp =>
      obtain ⟨row, ps⟩ := rp
      have := (rnds_ok hb hr).2
      rw [Sp.behindL_len, h.nx] at this
      have := h.big
      simp only [Option.getD_some]
      omega
  omega
set_option maxRecDepth 100000 in
set_option maxHeartbeats 2000000 in
theorem check_any (q : Sp.Net) (v tv nv cv : Value) (w : World) (hv : NetI w v q tv nv cv) (hlo : -9223372036854775808 ≤ q.n) (hhi : q.n ≤ 9223372036854775807) :
    Calls Try.prog 11 #[v] w fun e w' => e = .returned (.int .i64 (Sp.checkI q)) ∧ Below w.heap.size w w' := by
  have hv' := hv
  obtain ⟨rfl, h1, h2, h3⟩ := hv
  obtain ⟨ta, tc, rfl, -, -⟩ := h1.form
  obtain ⟨na, nc, rfl, -, -⟩ := h2.form
  obtain ⟨ca, cc, rfl, -, -⟩ := h3.form
  clear h1 h2 h3
  have HBX := hide (box_new w q.n (.slice ta q.tail.length tc) (.slice na q.next.length nc) (.slice ca q.cap.length cc))
  obtain ⟨W1, hW1⟩ : ∃ W1, W1 = w.alloc (.cells #[.int .i64 q.n, .slice ta q.tail.length tc, .slice na q.next.length nc, .slice ca q.cap.length cc] 25) := ⟨_, rfl⟩
  rw [← hW1] at HBX
  have hb1 : Below w.heap.size w W1 := by rw [hW1]; exact (Below.refl _ w).alloc (Nat.le_refl _) _
  have hs1 : W1.heap.size = w.heap.size + 1 := by rw [hW1]; simp
  have HW : Hid (∀ w', Below (w.heap.size + 1) W1 w' → Below w.heap.size w w') := hide fun w' hb => hb1.trans (hb.mono (by omega))
  have HS1 := hide hs1
  have HV : Hid (∀ w', Below (w.heap.size + 1) W1 w' → NetI w' (.agg #[.int .i64 q.n, .slice ta q.tail.length tc, .slice na q.next.length nc, .slice ca q.cap.length cc]) q (.slice ta q.tail.length tc) (.slice na q.next.length nc) (.slice ca q.cap.length cc)) := hide fun w' hb => hv'.below (unhide HW _ hb)
  have HT : Hid (∀ w2 w3, Below (w.heap.size + 1) W1 w2 → w.heap.size + 1 ≤ w2.heap.size → Below w2.heap.size w2 w3 → Below (w.heap.size + 1) W1 w3) := hide fun w2 w3 h2 hs h3 => h2.trans (h3.mono hs)
  have HC1 := hide (few_any q _ _ _ _ W1 (unhide HV W1 (Below.refl _ _)))
  have HF : Hid (Sp.checkI q = if Sp.fewB q = false then 2 else if Sp.matchedB q = false then 5 else if q.n < 1 then 3 else if Sp.placedB q = false then 3 else if Sp.turningB q = false then 6 else if Sp.heldB q = false then 4 else if (Sp.pieces q).2 ≠ 1 then 7 else if q.n - ((q.tail.length / 2 : Nat) : Int) + (Sp.facesN q : Int) ≠ 2 then 8 else 0) := hide rfl
  generalize Sp.checkI q = R at *
  obtain ⟨P, hP⟩ : ∃ P : Ending → World → Prop, P = fun e w' => e = .returned (.int .i64 R) ∧ Below w.heap.size w w' := ⟨_, rfl⟩
  rw [← hP]
  have HP := hide hP
  obtain ⟨x0, x1, x2, x3, -⟩ := unhide HBX W1 (Below.refl _ _)
  clear hb1 hs1 hv' hP
  subst hW1
  go_enter Try.func11, Try.ntmps11
  go_wp2_with fail
  go_at_call 24
  refine (unhide HC1).mono ?_
  clear HC1 x0 x1 x2 x3
  generalize w.alloc (.cells #[.int .i64 q.n, .slice ta q.tail.length tc, .slice na q.next.length nc, .slice ca q.cap.length cc] 25) = W1 at *
  rintro e w2 ⟨rfl, hb2⟩
  rw [unhide HS1] at hb2
  obtain ⟨x0, x1, x2, x3, hsz2⟩ := unhide HBX w2 hb2
  have HC2 := hide (matched_any q _ _ _ _ w2 (unhide HV w2 hb2))
  have Hb2 := hide hb2
  clear hb2
  cases hb : Sp.fewB q with
  | false =>
    have HF2 : Hid (R = 2) := hide (by rw [unhide HF, if_pos hb])
    clear hb
    go_wp2
    rw [unhide HP]
    exact ⟨by rw [unhide HF2]; rfl, unhide HW _ (unhide Hb2)⟩
  | true =>
    rw [hb] at HF
    have HB1 := hide hb
    clear hb
    go_wp2_with fail
    go_at_call 25
    refine (unhide HC2).mono ?_
    clear HC2
    rintro e w3 ⟨rfl, hb3⟩
    have hb3' := unhide HT _ _ (unhide Hb2) hsz2 hb3
    clear hb3 x0 x1 x2 x3
    obtain ⟨x0, x1, x2, x3, hsz3⟩ := unhide HBX w3 hb3'
    have Hb3 := hide hb3'
    have HC3 := hide (placed_any q _ _ _ _ w3 (unhide HV w3 hb3'))
    clear hb3'
    cases hb : Sp.matchedB q with
    | false =>
      have HF2 : Hid (R = 5) := hide (by rw [unhide HF, if_neg (by simp), if_pos hb])
      clear hb
      go_wp2
      rw [unhide HP]
      exact ⟨by rw [unhide HF2]; rfl, unhide HW _ (unhide Hb3)⟩
    | true =>
      rw [hb] at HF
      have HB2 := hide hb
      clear hb
      by_cases hn1 : q.n < 1
      · have HF2 : Hid (R = 3) := hide (by rw [unhide HF, if_neg (by simp), if_neg (by simp), if_pos hn1])
        go_wp2
        rw [unhide HP]
        exact ⟨by rw [unhide HF2]; rfl, unhide HW _ (unhide Hb3)⟩
      · go_wp2_with fail
        go_at_call 26
        refine (unhide HC3).mono ?_
        clear HC3
        rintro e w4 ⟨rfl, hb4⟩
        have hb4' := unhide HT _ _ (unhide Hb3) hsz3 hb4
        clear hb4 x0 x1 x2 x3
        obtain ⟨x0, x1, x2, x3, hsz4⟩ := unhide HBX w4 hb4'
        have Hb4 := hide hb4'
        have HV4 := hide (unhide HV w4 hb4')
        clear hb4'
        cases hb : Sp.placedB q with
        | false =>
          have HF2 : Hid (R = 3) := hide (by rw [unhide HF, if_neg (by simp), if_neg (by simp), if_neg (by omega), if_pos hb])
          clear hb
          go_wp2
          rw [unhide HP]
          exact ⟨by rw [unhide HF2]; rfl, unhide HW _ (unhide Hb4)⟩
        | true =>
          rw [hb] at HF
          have HWB : Hid (Sp.walkB q = true) := hide (by unfold Sp.walkB; rw [unhide HB1, unhide HB2, hb]; rfl)
          have hQ := walkQ (unhide HWB)
          have HC4 := hide (turning_any q _ _ _ _ w4 (unhide HV4) hQ.nx.symm (by rw [hQ.nx]; exact hQ.big) hQ.nb hQ.n0 hQ.n1 hQ.tb)
          have hn60 := hQ.n1
          have hbig := hQ.big
          have hfn := facesN_le q hQ
          clear hb hQ HV4
          go_wp2_with fail
          go_at_call 27
          refine (unhide HC4).mono ?_
          clear HC4
          rintro e w5 ⟨rfl, hb5⟩
          have hb5' := unhide HT _ _ (unhide Hb4) hsz4 hb5
          clear hb5 x0 x1 x2 x3
          obtain ⟨x0, x1, x2, x3, hsz5⟩ := unhide HBX w5 hb5'
          have Hb5 := hide hb5'
          have HC5 := hide (held_any q _ _ _ _ w5 (unhide HV w5 hb5'))
          clear hb5'
          cases hb : Sp.turningB q with
          | false =>
            have HF2 : Hid (R = 6) := hide (by rw [unhide HF, if_neg (by simp), if_neg (by simp), if_neg (by omega), if_neg (by simp), if_pos hb])
            clear hb
            go_wp2
            rw [unhide HP]
            exact ⟨by rw [unhide HF2]; rfl, unhide HW _ (unhide Hb5)⟩
          | true =>
            rw [hb] at HF
            clear hb
            go_wp2_with fail
            go_at_call 28
            refine (unhide HC5).mono ?_
            clear HC5
            rintro e w6 ⟨rfl, hb6⟩
            have hb6' := unhide HT _ _ (unhide Hb5) hsz5 hb6
            clear hb6 x0 x1 x2 x3
            obtain ⟨x0, x1, x2, x3, hsz6⟩ := unhide HBX w6 hb6'
            have Hb6 := hide hb6'
            have HC6 := hide (parts_any q _ _ _ _ w6 (unhide HV w6 hb6') (unhide HWB))
            clear hb6'
            cases hb : Sp.heldB q with
            | false =>
              have HF2 : Hid (R = 4) := hide (by rw [unhide HF, if_neg (by simp), if_neg (by simp), if_neg (by omega), if_neg (by simp), if_neg (by simp), if_pos hb])
              clear hb
              go_wp2
              rw [unhide HP]
              exact ⟨by rw [unhide HF2]; rfl, unhide HW _ (unhide Hb6)⟩
            | true =>
              rw [hb] at HF
              clear hb
              go_wp2_with fail
              go_at_call 23
              refine (unhide HC6).mono ?_
              clear HC6
              rintro e w7 ⟨pv, rfl, -, hb7⟩
              have hb7' := unhide HT _ _ (unhide Hb6) hsz6 hb7
              clear hb7 x0 x1 x2 x3
              obtain ⟨x0, x1, x2, x3, hsz7⟩ := unhide HBX w7 hb7'
              have Hb7 := hide hb7'
              have HC7 := hide (faces_any q _ _ _ _ w7 (unhide HV w7 hb7') (unhide HWB))
              clear hb7'
              generalize (Sp.pieces q).2 = pk at *
              by_cases hp1 : pk = 1
              · subst hp1
                have hkk : (((1 : Nat) : Int) != (1 : Int)) = false := by simp
                go_wp2_with fail
                go_at_call 16
                refine (unhide HC7).mono ?_
                clear HC7
                rintro e w8 ⟨fv, rfl, -, hb8⟩
                have hb8' := unhide HT _ _ (unhide Hb7) hsz7 hb8
                clear hb8 x0 x1 x2 x3
                obtain ⟨x0, x1, x2, x3, hsz8⟩ := unhide HBX w8 hb8'
                have HB8 := hide (unhide HW _ hb8')
                clear hb8'
                generalize Sp.facesN q = fk at *
                have HD : Hid (((q.tail.length / 2 : Nat) : Int) = (q.tail.length : Int) / 2) := hide (by omega)
                by_cases hs : q.n - ((q.tail.length / 2 : Nat) : Int) + (fk : Int) = 2
                · have HF2 : Hid (R = 0) := hide (by rw [unhide HF, if_neg (by simp), if_neg (by simp), if_neg (by omega), if_neg (by simp), if_neg (by simp), if_neg (by simp), if_neg (by simp), if_neg (by simpa using hs)])
                  have hs2 : q.n - (q.tail.length : Int) / 2 + (fk : Int) = 2 := by omega
                  go_wp2
                  all_goals
                    rw [unhide HP]
                    exact ⟨by rw [unhide HF2]; rfl, unhide HB8⟩
                · have HF2 : Hid (R = 8) := hide (by rw [unhide HF, if_neg (by simp), if_neg (by simp), if_neg (by omega), if_neg (by simp), if_neg (by simp), if_neg (by simp), if_neg (by simp), if_pos (by simpa using hs)])
                  have hs2 : ¬ q.n - (q.tail.length : Int) / 2 + (fk : Int) = 2 := by omega
                  go_wp2
                  all_goals
                    rw [unhide HP]
                    exact ⟨by rw [unhide HF2]; rfl, unhide HB8⟩
              · have HF2 : Hid (R = 7) := hide (by rw [unhide HF, if_neg (by simp), if_neg (by simp), if_neg (by omega), if_neg (by simp), if_neg (by simp), if_neg (by simp), if_pos hp1])
                have hkk : ((pk : Int) != (1 : Int)) = true := by simp; omega
                go_wp2
                rw [unhide HP]
                exact ⟨by rw [unhide HF2]; rfl, unhide HW _ (unhide Hb7)⟩
end Go.Proofs.Ytnkkgeammohemab


