/- What the proof needs, part 7. -/
import Derived.WalkMore
import Derived.Scope
import Derived.Test.YtoegjnolccabjabL6
/- The walk of package rot: Check. -/
namespace Go.Proofs.Ytoegjnolccabjab
open Go Go.RowKit

/-- What Check tells of any lists. -/
def Sp.checkI (q : Sp.Net) : Int :=
  if Sp.fewB q = false then 2 else if Sp.matchedB q = false then 5 else if q.n < 1 then 3 else if Sp.placedB q = false then 3 else if Sp.turningB q = false then 6 else if Sp.heldB q = false then 4
  else if (Sp.pieces q).2 ≠ 1 then 7 else if q.n - ((q.tail.length / 2 : Nat) : Int) + (Sp.facesN q : Int) ≠ 2 then 8 else 0
theorem facesN_le (q : Sp.Net) (h : WalkQ q) : Sp.facesN q ≤ 241 := by
  unfold Sp.facesN
  have hb := Sp.behindL_bd q.next (by rw [h.nx]; exact h.ev) h.nb
  rw [← Sp.behindL_len q.next] at hb
  have : (Sp.rndsD (Sp.behindL q.next)).2.length ≤ 240 := by
    unfold Sp.rndsD
    cases hr : Sp.rnds (Sp.behindL q.next) with
    | none => simp
    | some rp =>
      obtain ⟨row, ps⟩ := rp
      have := (rnds_ok hb hr).2
      rw [Sp.behindL_len, h.nx] at this
      have := h.big
      simp only [Option.getD_some]
      omega
  omega
set_option maxRecDepth 100000 in
set_option maxHeartbeats 2000000 in
theorem check_any (q : Sp.Net) (v tv nv cv : Value) (w : World) (hv : NetI w v q tv nv cv) (hlo : -9223372036854775808 ≤ q.n) (hhi : q.n ≤ 9223372036854775807) :
    Calls Try.prog 48 #[v] w fun e w' => e = .returned (.int .i64 (Sp.checkI q)) ∧ Below w.heap.size w w' := by
  have hv' := hv
  obtain ⟨rfl, h1, h2, h3⟩ := hv
  obtain ⟨ta, tc, rfl, -, -⟩ := h1.form
  obtain ⟨na, nc, rfl, -, -⟩ := h2.form
  obtain ⟨ca, cc, rfl, -, -⟩ := h3.form
  clear h1 h2 h3
  have HBX := hide (box_new w q.n (.slice ta q.tail.length tc) (.slice na q.next.length nc) (.slice ca q.cap.length cc))
  obtain ⟨W1, hW1⟩ : ∃ W1, W1 = w.alloc (.cells #[.int .i64 q.n, .slice ta q.tail.length tc, .slice na q.next.length nc, .slice ca q.cap.length cc] 26) := ⟨_, rfl⟩
  rw [← hW1] at HBX
  have hb1 : Below w.heap.size w W1 := by rw [hW1]; exact (Below.refl _ w).alloc (Nat.le_refl _) _
  have hs1 : W1.heap.size = w.heap.size + 1 := by rw [hW1]; simp
  have HW : Hid (∀ w', Below (w.heap.size + 1) W1 w' → Below w.heap.size w w') := hide fun w' hb => hb1.trans (hb.mono (by omega))
  have HS1 := hide hs1
  have HV : Hid (∀ w', Below (w.heap.size + 1) W1 w' → NetI w' (.agg #[.int .i64 q.n, .slice ta q.tail.length tc, .slice na q.next.length nc, .slice ca q.cap.length cc]) q (.slice ta q.tail.length tc) (.slice na q.next.length nc) (.slice ca q.cap.length cc)) := hide fun w' hb => hv'.below (unhide HW _ hb)
  have HT : Hid (∀ w2 w3, Below (w.heap.size + 1) W1 w2 → w.heap.size + 1 ≤ w2.heap.size → Below w2.heap.size w2 w3 → Below (w.heap.size + 1) W1 w3) := hide fun w2 w3 h2 hs h3 => h2.trans (h3.mono hs)
  have HC1 := hide (few_any q _ _ _ _ W1 (unhide HV W1 (Below.refl _ _)))
  have HF : Hid (Sp.checkI q = if Sp.fewB q = false then 2 else if Sp.matchedB q = false then 5 else if q.n < 1 then 3 else if Sp.placedB q = false then 3 else if Sp.turningB q = false then 6 else if Sp.heldB q = false then 4 else if (Sp.pieces q).2 ≠ 1 then 7 else if q.n - ((q.tail.length / 2 : Nat) : Int) + (Sp.facesN q : Int) ≠ 2 then 8 else 0) := hide rfl
  generalize Sp.checkI q = R at *
  obtain ⟨P, hP⟩ : ∃ P : Ending → World → Prop, P = fun e w' => e = .returned (.int .i64 R) ∧ Below w.heap.size w w' := ⟨_, rfl⟩
  rw [← hP]
  have HP := hide hP
  obtain ⟨x0, x1, x2, x3, -⟩ := unhide HBX W1 (Below.refl _ _)
  clear hb1 hs1 hv' hP
  subst hW1
  go_enter Try.func48, Try.ntmps48
  go_wp2_with fail
  go_at_call 71
  refine (unhide HC1).mono ?_
  clear HC1 x0 x1 x2 x3
  generalize w.alloc (.cells #[.int .i64 q.n, .slice ta q.tail.length tc, .slice na q.next.length nc, .slice ca q.cap.length cc] 26) = W1 at *
  rintro e w2 ⟨rfl, hb2⟩
  rw [unhide HS1] at hb2
  obtain ⟨x0, x1, x2, x3, hsz2⟩ := unhide HBX w2 hb2
  have HC2 := hide (matched_any q _ _ _ _ w2 (unhide HV w2 hb2))
  have Hb2 := hide hb2
  clear hb2
  cases hb : Sp.fewB q with
  | false =>
    have HF2 : Hid (R = 2) := hide (by rw [unhide HF, if_pos hb])
    clear hb
    go_wp2
    rw [unhide HP]
    exact ⟨by rw [unhide HF2]; rfl, unhide HW _ (unhide Hb2)⟩
  | true =>
    rw [hb] at HF
    have HB1 := hide hb
    clear hb
    go_wp2_with fail
    go_at_call 72
    refine (unhide HC2).mono ?_
    clear HC2
    rintro e w3 ⟨rfl, hb3⟩
    have hb3' := unhide HT _ _ (unhide Hb2) hsz2 hb3
    clear hb3 x0 x1 x2 x3
    obtain ⟨x0, x1, x2, x3, hsz3⟩ := unhide HBX w3 hb3'
    have Hb3 := hide hb3'
    have HC3 := hide (placed_any q _ _ _ _ w3 (unhide HV w3 hb3'))
    clear hb3'
    cases hb : Sp.matchedB q with
    | false =>
      have HF2 : Hid (R = 5) := hide (by rw [unhide HF, if_neg (by simp), if_pos hb])
      clear hb
      go_wp2
      rw [unhide HP]
      exact ⟨by rw [unhide HF2]; rfl, unhide HW _ (unhide Hb3)⟩
    | true =>
      rw [hb] at HF
      have HB2 := hide hb
      clear hb
      by_cases hn1 : q.n < 1
      · have HF2 : Hid (R = 3) := hide (by rw [unhide HF, if_neg (by simp), if_neg (by simp), if_pos hn1])
        go_wp2
        rw [unhide HP]
        exact ⟨by rw [unhide HF2]; rfl, unhide HW _ (unhide Hb3)⟩
      · go_wp2_with fail
        go_at_call 73
        refine (unhide HC3).mono ?_
        clear HC3
        rintro e w4 ⟨rfl, hb4⟩
        have hb4' := unhide HT _ _ (unhide Hb3) hsz3 hb4
        clear hb4 x0 x1 x2 x3
        obtain ⟨x0, x1, x2, x3, hsz4⟩ := unhide HBX w4 hb4'
        have Hb4 := hide hb4'
        have HV4 := hide (unhide HV w4 hb4')
        clear hb4'
        cases hb : Sp.placedB q with
        | false =>
          have HF2 : Hid (R = 3) := hide (by rw [unhide HF, if_neg (by simp), if_neg (by simp), if_neg (by omega), if_pos hb])
          clear hb
          go_wp2
          rw [unhide HP]
          exact ⟨by rw [unhide HF2]; rfl, unhide HW _ (unhide Hb4)⟩
        | true =>
          rw [hb] at HF
          have HWB : Hid (Sp.walkB q = true) := hide (by unfold Sp.walkB; rw [unhide HB1, unhide HB2, hb]; rfl)
          have hQ := walkQ (unhide HWB)
          have HC4 := hide (turning_any q _ _ _ _ w4 (unhide HV4) hQ.nx.symm (by rw [hQ.nx]; exact hQ.big) hQ.nb hQ.n0 hQ.n1 hQ.tb)
          have hn60 := hQ.n1
          have hbig := hQ.big
          have hfn := facesN_le q hQ
          clear hb hQ HV4
          go_wp2_with fail
          go_at_call 74
          refine (unhide HC4).mono ?_
          clear HC4
          rintro e w5 ⟨rfl, hb5⟩
          have hb5' := unhide HT _ _ (unhide Hb4) hsz4 hb5
          clear hb5 x0 x1 x2 x3
          obtain ⟨x0, x1, x2, x3, hsz5⟩ := unhide HBX w5 hb5'
          have Hb5 := hide hb5'
          have HC5 := hide (held_any q _ _ _ _ w5 (unhide HV w5 hb5'))
          clear hb5'
          cases hb : Sp.turningB q with
          | false =>
            have HF2 : Hid (R = 6) := hide (by rw [unhide HF, if_neg (by simp), if_neg (by simp), if_neg (by omega), if_neg (by simp), if_pos hb])
            clear hb
            go_wp2
            rw [unhide HP]
            exact ⟨by rw [unhide HF2]; rfl, unhide HW _ (unhide Hb5)⟩
          | true =>
            rw [hb] at HF
            clear hb
            go_wp2_with fail
            go_at_call 75
            refine (unhide HC5).mono ?_
            clear HC5
            rintro e w6 ⟨rfl, hb6⟩
            have hb6' := unhide HT _ _ (unhide Hb5) hsz5 hb6
            clear hb6 x0 x1 x2 x3
            obtain ⟨x0, x1, x2, x3, hsz6⟩ := unhide HBX w6 hb6'
            have Hb6 := hide hb6'
            have HC6 := hide (parts_any q _ _ _ _ w6 (unhide HV w6 hb6') (unhide HWB))
            clear hb6'
            cases hb : Sp.heldB q with
            | false =>
              have HF2 : Hid (R = 4) := hide (by rw [unhide HF, if_neg (by simp), if_neg (by simp), if_neg (by omega), if_neg (by simp), if_neg (by simp), if_pos hb])
              clear hb
              go_wp2
              rw [unhide HP]
              exact ⟨by rw [unhide HF2]; rfl, unhide HW _ (unhide Hb6)⟩
            | true =>
              rw [hb] at HF
              clear hb
              go_wp2_with fail
              go_at_call 76
              refine (unhide HC6).mono ?_
              clear HC6
              rintro e w7 ⟨pv, rfl, -, hb7⟩
              have hb7' := unhide HT _ _ (unhide Hb6) hsz6 hb7
              clear hb7 x0 x1 x2 x3
              obtain ⟨x0, x1, x2, x3, hsz7⟩ := unhide HBX w7 hb7'
              have Hb7 := hide hb7'
              have HC7 := hide (faces_any q _ _ _ _ w7 (unhide HV w7 hb7') (unhide HWB))
              clear hb7'
              generalize (Sp.pieces q).2 = pk at *
              by_cases hp1 : pk = 1
              · subst hp1
                have hkk : (((1 : Nat) : Int) != (1 : Int)) = false := by simp
                go_wp2_with fail
                go_at_call 77
                refine (unhide HC7).mono ?_
                clear HC7
                rintro e w8 ⟨fv, rfl, -, hb8⟩
                have hb8' := unhide HT _ _ (unhide Hb7) hsz7 hb8
                clear hb8 x0 x1 x2 x3
                obtain ⟨x0, x1, x2, x3, hsz8⟩ := unhide HBX w8 hb8'
                have HB8 := hide (unhide HW _ hb8')
                clear hb8'
                generalize Sp.facesN q = fk at *
                have HD : Hid (((q.tail.length / 2 : Nat) : Int) = (q.tail.length : Int) / 2) := hide (by omega)
                by_cases hs : q.n - ((q.tail.length / 2 : Nat) : Int) + (fk : Int) = 2
                · have HF2 : Hid (R = 0) := hide (by rw [unhide HF, if_neg (by simp), if_neg (by simp), if_neg (by omega), if_neg (by simp), if_neg (by simp), if_neg (by simp), if_neg (by simp), if_neg (by simpa using hs)])
                  have hs2 : q.n - (q.tail.length : Int) / 2 + (fk : Int) = 2 := by omega
                  go_wp2
                  all_goals
                    rw [unhide HP]
                    exact ⟨by rw [unhide HF2]; rfl, unhide HB8⟩
                · have HF2 : Hid (R = 8) := hide (by rw [unhide HF, if_neg (by simp), if_neg (by simp), if_neg (by omega), if_neg (by simp), if_neg (by simp), if_neg (by simp), if_neg (by simp), if_pos (by simpa using hs)])
                  have hs2 : ¬ q.n - (q.tail.length : Int) / 2 + (fk : Int) = 2 := by omega
                  go_wp2
                  all_goals
                    rw [unhide HP]
                    exact ⟨by rw [unhide HF2]; rfl, unhide HB8⟩
              · have HF2 : Hid (R = 7) := hide (by rw [unhide HF, if_neg (by simp), if_neg (by simp), if_neg (by omega), if_neg (by simp), if_neg (by simp), if_neg (by simp), if_pos hp1])
                have hkk : ((pk : Int) != (1 : Int)) = true := by simp; omega
                go_wp2
                rw [unhide HP]
                exact ⟨by rw [unhide HF2]; rfl, unhide HW _ (unhide Hb7)⟩
end Go.Proofs.Ytoegjnolccabjab


/- Package dual: Shared; the reference's. -/
namespace Go.Proofs.Ytoegjnolccabjab
open Go Go.RowKit

noncomputable def Sp.sharedGo (T F : List Int) (s t : Int) : Nat → Nat → Int × Bool
  | 0, _ => (0, false)
  | g + 1, f => if Sp.meetsB T F f s = true ∧ Sp.meetsB T F f t = true then ((f : Int), true) else Sp.sharedGo T F s t g (f + 1)
/-- The least face that two share (P301). -/
noncomputable def Sp.shared (q : Sp.Net) (s t : Int) : Int × Bool := if s = t then (0, false) else Sp.sharedGo q.tail (Sp.faces2 q).1 s t (max (Sp.faces2 q).2 1) 0
theorem Sp.faces2Go_le (st : List Int) : ∀ g d of k, (Sp.faces2Go st g d of k).2 ≤ k + g
  | 0, _, _, _ => by rw [Sp.faces2Go]; omega
  | g + 1, d, of, k => by
    rw [Sp.faces2Go]
    split
    · have := Sp.faces2Go_le st g (d + 1) of k; omega
    · have := Sp.faces2Go_le st g (d + 1) (Sp.paint k of (Sp.rounds st d (Sp.per st d))) (k + 1); omega
theorem Sp.faces2_le (q : Sp.Net) : (Sp.faces2 q).2 ≤ q.tail.length := by
  have := Sp.faces2Go_le (Sp.behindL q.next) q.tail.length 0 (List.replicate q.tail.length (-1)) 0
  unfold Sp.faces2
  omega
theorem ret_two {a : Int} {x : Bool} {p : Int × Bool} (h : p = (a, x)) : Ending.returned (.tuple #[.int .i64 a, .bool x]) = .returned (.tuple #[.int .i64 p.1, .bool p.2]) := by rw [h]
set_option maxRecDepth 100000 in
set_option maxHeartbeats 4000000 in
theorem shared_any (q : Sp.Net) (v tv nv cv : Value) (s t : Int) (w : World) (hv : NetI w v q tv nv cv) (hq : Sp.LinkQ q) (hc : Sp.checkI q = 0) (hn0 : -9223372036854775808 ≤ q.n) (hn1 : q.n ≤ 9223372036854775807) :
    Calls Try.prog 40 #[v, .int .i64 s, .int .i64 t] w fun e w' => e = .returned (.tuple #[.int .i64 (Sp.shared q s t).1, .bool (Sp.shared q s t).2]) ∧ Below w.heap.size w w' := by
  have hv' := hv
  obtain ⟨rfl, h1, h2, h3⟩ := hv
  obtain ⟨ta, tc, rfl, htc, htm⟩ := h1.form
  obtain ⟨na, nc, rfl, -, -⟩ := h2.form
  obtain ⟨ca, cc, rfl, -, -⟩ := h3.form
  clear h1 h2 h3
  obtain ⟨W1, hW1⟩ : ∃ W1, W1 = w.alloc (.cells #[.int .i64 q.n, .slice ta q.tail.length tc, .slice na q.next.length nc, .slice ca q.cap.length cc] 26) := ⟨_, rfl⟩
  have HBX := hide (box_new w q.n (.slice ta q.tail.length tc) (.slice na q.next.length nc) (.slice ca q.cap.length cc))
  rw [← hW1] at HBX
  have hb1 : Below w.heap.size w W1 := by rw [hW1]; exact (Below.refl _ w).alloc (Nat.le_refl _) _
  have hs1 : W1.heap.size = w.heap.size + 1 := by rw [hW1]; simp
  have HW : Hid (∀ w', Below (w.heap.size + 1) W1 w' → Below w.heap.size w w') := hide fun w' hb => hb1.trans (hb.mono (by omega))
  have HV : Hid (∀ w', Below (w.heap.size + 1) W1 w' → NetI w' (.agg #[.int .i64 q.n, .slice ta q.tail.length tc, .slice na q.next.length nc, .slice ca q.cap.length cc]) q (.slice ta q.tail.length tc) (.slice na q.next.length nc) (.slice ca q.cap.length cc)) := hide fun w' hb => hv'.below (unhide HW _ hb)
  have HCk : Hid (∀ w', Below (w.heap.size + 1) W1 w' → Calls Try.prog 48 #[.agg #[.int .i64 q.n, .slice ta q.tail.length tc, .slice na q.next.length nc, .slice ca q.cap.length cc]] w' fun e w'' => e = .returned (.int .i64 0) ∧ Below w'.heap.size w' w'') := hide fun w' hb => by
    have h := check_any q _ _ _ _ w' (unhide HV w' hb) hn0 hn1
    rw [hc] at h
    exact h
  have HMo := hide (fun w' (hb : Below (w.heap.size + 1) W1 w') => meshOf_any q _ _ _ _ w' (unhide HV w' hb) hq.nx hq.le hq.ev hq.pm)
  have HFl := hide (Sp.faces2_len q)
  have HSh : Hid (Sp.shared q s t = if s = t then (0, false) else Sp.sharedGo q.tail (Sp.faces2 q).1 s t (max (Sp.faces2 q).2 1) 0) := hide rfl
  have HQ := hide hq
  generalize Sp.shared q s t = R at *
  generalize (Sp.faces2 q).1 = F at *
  have hKl : max (Sp.faces2 q).2 1 ≤ 1000 := by have := Sp.faces2_le q; have := hq.le; omega
  generalize max (Sp.faces2 q).2 1 = K at *
  obtain ⟨P, hP⟩ : ∃ P : Ending → World → Prop, P = fun e w' => e = .returned (.tuple #[.int .i64 R.1, .bool R.2]) ∧ Below w.heap.size w w' := ⟨_, rfl⟩
  rw [← hP]
  have HP := hide hP
  have Hs1 := hide hs1
  have hbr : Below (w.heap.size + 1) W1 W1 := Below.refl _ _
  obtain ⟨x0, x1, x2, x3, -⟩ := unhide HBX W1 hbr
  clear hv' hP hs1 hb1 hq hc
  by_cases hst : s = t
  · subst hst
    rw [if_pos rfl] at HSh
    have e1 : (s == s) = true := beq_self_eq_true _
    have HFi := hide (unhide HW W1 hbr)
    clear HBX HV HMo HCk hbr HW
    subst hW1
    go_enter Try.func40, Try.ntmps40
    go_wp2
    go_step3
    go_wp2
    try rw [Exit.noGoto_ret]
    rw [unhide HP]
    exact ⟨ret_two (unhide HSh), unhide HFi⟩
  · rw [if_neg hst] at HSh
    have e1 : (s == t) = false := beq_eq_false_iff_ne.2 hst
    subst hW1
    go_enter Try.func40, Try.ntmps40
    go_wp2
    go_step3
    go_wp2_with fail
    go_at_call 48
    refine (unhide HCk _ hbr).mono ?_
    clear HCk x0 x1 x2 x3
    generalize w.alloc (.cells #[.int .i64 q.n, .slice ta q.tail.length tc, .slice na q.next.length nc, .slice ca q.cap.length cc] 26) = W1 at *
    rintro e w2 ⟨rfl, hb2⟩
    rw [unhide Hs1] at hb2
    obtain ⟨x0, x1, x2, x3, hsz2⟩ := unhide HBX w2 hb2
    go_wp2_with fail
    go_at_call 41
    refine (unhide HMo w2 hb2).mono ?_
    clear HMo x0 x1 x2 x3
    rintro e w4 ⟨O, rfl, hO, hb4⟩
    have hb4' : Below (w.heap.size + 1) W1 w4 := hb2.trans (hb4.mono hsz2)
    have hs4 : w.heap.size + 1 ≤ w4.heap.size := Nat.le_trans hsz2 hb4.size
    obtain ⟨W5, hW5⟩ : ∃ W5, W5 = w4.alloc (.cells #[.int .i64 q.n, .slice ta q.tail.length tc, .slice na q.next.length nc, .slice ca q.cap.length cc, .slice (some ⟨O, 0, none⟩) q.tail.length q.tail.length, .int .i64 (K : Int)] 68) := ⟨_, rfl⟩
    have hb45 : Below w4.heap.size w4 W5 := by rw [hW5]; exact (Below.refl _ w4).alloc (Nat.le_refl _) _
    have hs5 : W5.heap.size = w4.heap.size + 1 := by rw [hW5]; simp
    have HS : Hid (∀ w', Below W5.heap.size W5 w' → w'.cell? ⟨w4.heap.size, 0, none⟩ = some (.int .i64 q.n) ∧ w'.cell? ⟨w4.heap.size, 1, none⟩ = some (.slice ta q.tail.length tc) ∧ w'.cell? ⟨w4.heap.size, 2, none⟩ = some (.slice na q.next.length nc) ∧ w'.cell? ⟨w4.heap.size, 3, none⟩ = some (.slice ca q.cap.length cc) ∧ w'.cell? ⟨w4.heap.size, 4, none⟩ = some (.slice (some ⟨O, 0, none⟩) q.tail.length q.tail.length) ∧ w'.cell? ⟨w4.heap.size, 5, none⟩ = some (.int .i64 (K : Int))) := hide fun w' hb => by
      rw [hs5] at hb
      rw [hW5] at hb
      obtain ⟨e0, e1, e2, e3, e4, e5, -⟩ := mesh_new w4 q.n _ _ _ _ _ w' hb
      exact ⟨e0, e1, e2, e3, e4, e5⟩
    have HBl : Hid (∀ w', Below W5.heap.size W5 w' → Below w.heap.size w w') := hide fun w' hb => unhide HW _ ((hb4'.trans (hb45.mono hs4)).trans (hb.mono (by omega)))
    have HMI : Hid (∀ w', Below W5.heap.size W5 w' → MeshI w' (.agg #[.int .i64 q.n, .slice ta q.tail.length tc, .slice na q.next.length nc, .slice ca q.cap.length cc, .slice (some ⟨O, 0, none⟩) q.tail.length q.tail.length, .int .i64 (K : Int)]) q F K (.slice ta q.tail.length tc) (.slice na q.next.length nc) (.slice ca q.cap.length cc) (.slice (some ⟨O, 0, none⟩) q.tail.length q.tail.length)) := hide fun w' hb => by
      have h := unhide HV w' ((hb4'.trans (hb45.mono hs4)).trans (hb.mono (by omega)))
      exact ⟨rfl, h.tail, h.next, h.cap, (hO.ints.below hb45).below (hb.mono (by omega))⟩
    have HMe := hide (fun (f x : Int) w' (hb : Below W5.heap.size W5 w') => meets_any q F K _ _ _ _ _ f x w' (unhide HMI w' hb) (unhide HFl) (by have := (unhide HQ).le; omega))
    have HTR : Hid (∀ w' w'', Below W5.heap.size W5 w' → Below w'.heap.size w' w'' → Below W5.heap.size W5 w'') := hide fun w' w'' h h' => h.trans (h'.mono h.size)
    have HW5 := hide hW5
    have hb5 : Below W5.heap.size W5 W5 := Below.refl _ _
    clear hW5 hs5 hb45 hO hb4 hb2 hbr hb4' hs4 HFl hsz2 HMI HV HBX
    obtain ⟨x0, x1, x2, x3, x4, x5⟩ := unhide HS W5 hb5
    go_wp2
    go_step3
    go_wp2
    rw [← unhide HW5]
    clear x0 x1 x2 x3 x4 x5
    go_loopg [24] K (fun g s24 wr => ∃ f : Nat, f + g = K ∧ s24 = .int .i64 (f : Int) ∧ Hid (Below W5.heap.size W5 wr ∧ R = Sp.sharedGo q.tail F s t g f))
    case atStart => exact ⟨0, by omega, rfl, hide ⟨hb5, unhide HSh⟩⟩
    case round =>
      clear hb5 HSh
      obtain ⟨f, hfg, rfl, HI⟩ := hrel
      cases gk with
      | zero =>
        obtain rfl : f = K := by omega
        have HF : Hid (R = (0, false)) := hide (unhide HI).2
        have HB := hide (unhide HBl _ (unhide HI).1)
        clear HI
        go_wp2
        rw [unhide HP]
        exact ⟨ret_two (unhide HF), unhide HB⟩
      | succ g' =>
        have hlt : f < K := by omega
        have hltI : (f : Int) < (K : Int) := by omega
        have HR : Hid (R = if Sp.meetsB q.tail F f s = true ∧ Sp.meetsB q.tail F f t = true then ((f : Int), true) else Sp.sharedGo q.tail F s t g' (f + 1)) := hide (unhide HI).2
        have HMs := hide (unhide HMe (f : Int) s)
        have HMt := hide (unhide HMe (f : Int) t)
        have HB := hide (unhide HI).1
        clear HI
        generalize Sp.meetsB q.tail F f s = ms at *
        generalize Sp.meetsB q.tail F f t = mt at *
        go_wp2
        have i0 : ∀ w, (Instr.index 81 (.agg #[.int .i64 s, .int .i64 t]) (.int .i64 0)).run Try.prog w = .ok (.int .i64 s) w := fun _ => by rfl
        have i1 : ∀ w, (Instr.index 81 (.agg #[.int .i64 s, .int .i64 t]) (.int .i64 1)).run Try.prog w = .ok (.int .i64 t) w := fun _ => by rfl
        go_loopg [30] 2 (fun g2 s30 wr => ∃ i : Nat, i + g2 = 2 ∧ s30 = .int .i64 (i : Int) ∧ (1 ≤ i → ms = true) ∧ (2 ≤ i → mt = true) ∧ Hid (Below W5.heap.size W5 wr))
        case atStart => exact ⟨0, by omega, rfl, by omega, by omega, HB⟩
        case round =>
          clear HB
          obtain ⟨i, hig, rfl, hi1, hi2, HB⟩ := hrel
          obtain ⟨x0, x1, x2, x3, x4, x5⟩ := unhide HS wr (unhide HB)
          rcases (show i = 0 ∨ i = 1 ∨ i = 2 by omega) with rfl | rfl | rfl
          · clear hi1 hi2
            go_wp2_with fail
            go_at_call 49
            refine (unhide HMs wr (unhide HB)).mono ?_
            clear x0 x1 x2 x3 x4 x5
            rintro e w7 ⟨rfl, hl7⟩
            have HB7 := hide (unhide HTR _ _ (unhide HB) hl7)
            clear HB hl7
            cases ms with
            | false =>
              have HR2 : Hid (R = Sp.sharedGo q.tail F s t g' (f + 1)) := hide (by rw [unhide HR, if_neg (by simp)])
              go_wp2
              go_roundg g'
              case rel => exact ⟨f + 1, by omega, by go_num, hide ⟨unhide HB7, unhide HR2⟩⟩
              case measure => omega
            | true =>
              go_wp2
              go_roundg 1
              case rel => exact ⟨1, by omega, rfl, by simp, by omega, HB7⟩
              case measure => omega
          · have hms := hi1 (by omega)
            subst hms
            clear hi1 hi2
            go_wp2_with fail
            go_at_call 49
            refine (unhide HMt wr (unhide HB)).mono ?_
            clear x0 x1 x2 x3 x4 x5
            rintro e w7 ⟨rfl, hl7⟩
            have HB7 := hide (unhide HTR _ _ (unhide HB) hl7)
            clear HB hl7
            cases mt with
            | false =>
              have HR2 : Hid (R = Sp.sharedGo q.tail F s t g' (f + 1)) := hide (by rw [unhide HR, if_neg (by simp)])
              go_wp2
              go_roundg g'
              case rel => exact ⟨f + 1, by omega, by go_num, hide ⟨unhide HB7, unhide HR2⟩⟩
              case measure => omega
            | true =>
              go_wp2
              go_roundg 0
              case rel => exact ⟨2, by omega, rfl, by simp, by simp, HB7⟩
              case measure => omega
          · have hms := hi1 (by omega)
            have hmt := hi2 (by omega)
            subst hms hmt
            have HF : Hid (R = ((f : Int), true)) := hide (by rw [unhide HR, if_pos (by simp)])
            have HB2 := hide (unhide HBl _ (unhide HB))
            clear hi1 hi2 HB
            go_wp2
            try rw [Exit.noGoto_ret]
            rw [unhide HP]
            exact ⟨ret_two (unhide HF), unhide HB2⟩
end Go.Proofs.Ytoegjnolccabjab


/- A face that is split: its arithmetic. -/
namespace Go.Proofs.Ytoegjnolccabjab
open Go Go.RowKit

theorem per_along {st : List Int} (hp : Sp.Perm st) {d : Nat} (hd : d < st.length) (a : Nat) : Sp.per st (itf (Sp.fn st) d a) = Sp.per st d := by
  obtain ⟨p1, p2, p3, p4⟩ := hp.per hd
  have hx := hp.fnP.it hd a
  have e0 : itf (Sp.fn st) d (Sp.per st d) = d := by
    have h := hp.nth_it hd (Sp.per st d)
    rw [p3] at h
    omega
  have e1 : Sp.nth st (itf (Sp.fn st) d a : Nat) (Sp.per st d) = (itf (Sp.fn st) d a : Nat) := by
    rw [hp.nth_it hx, ← itf_add, Nat.add_comm, itf_add, e0]
  have e2 : ∀ i, 0 < i → i < Sp.per st d → Sp.nth st (itf (Sp.fn st) d a : Nat) i ≠ (itf (Sp.fn st) d a : Nat) := fun i h0 h1 e => by
    rw [hp.nth_it hx, ← itf_add] at e
    have e3 : Sp.nth st d (a + i) = Sp.nth st d a := by rw [hp.nth_it hd, hp.nth_it hd, e]
    exact p4 i h0 h1 (hp.back hd a i e3)
  exact Sp.perGo_eq st _ _ e1 e2 st.length 1 (by omega) p1 (by omega)
theorem itf_mod {st : List Int} (hp : Sp.Perm st) {d : Nat} (hd : d < st.length) (i : Nat) : itf (Sp.fn st) d (i % Sp.per st d) = itf (Sp.fn st) d i := by
  obtain ⟨p1, p2, p3, p4⟩ := hp.per hd
  have e0 : itf (Sp.fn st) d (Sp.per st d) = d := by
    have h := hp.nth_it hd (Sp.per st d)
    rw [p3] at h
    omega
  have e1 : ∀ m, itf (Sp.fn st) d (Sp.per st d * m) = d := fun m => by
    induction m with
    | zero => rfl
    | succ m ih => rw [Nat.mul_succ, itf_add, ih, e0]
  conv => rhs; rw [← Nat.div_add_mod i (Sp.per st d), itf_add, e1]
/-- The row of the faces, the first j darts from x on laid. -/
def Sp.splitAt (x : Nat → Nat) (K f : Int) (jb : Nat) (F : List Int) : Nat → List Int
  | 0 => F
  | j + 1 => (Sp.splitAt x K f jb F j).set (x j) (if jb ≤ j then K else f)
theorem Sp.splitAt_len (x : Nat → Nat) (K f : Int) (jb : Nat) (F : List Int) : ∀ j, (Sp.splitAt x K f jb F j).length = F.length
  | 0 => rfl
  | j + 1 => by rw [Sp.splitAt, List.length_set, Sp.splitAt_len]
/-- Where a face is split. -/
structure Sp.SplitQ (q : Sp.Net) (s t : Int) (f d0 a jb : Nat) : Prop where
  sh : Sp.shared q s t = ((f : Int), true)
  d0l : d0 < q.tail.length
  d0f : (Sp.faces2 q).1.getD d0 0 = (f : Int)
  d0m : ∀ j, j < d0 → (Sp.faces2 q).1.getD j 0 ≠ (f : Int)
  al : a < Sp.per (Sp.behindL q.next) d0
  at_ : q.tail.getD (itf (Sp.fn (Sp.behindL q.next)) d0 a) 0 = s
  am : ∀ j, j < a → q.tail.getD (itf (Sp.fn (Sp.behindL q.next)) d0 j) 0 ≠ s
  bl : jb < Sp.per (Sp.behindL q.next) d0
  b0 : 0 < jb
  bt : q.tail.getD (itf (Sp.fn (Sp.behindL q.next)) d0 (a + jb)) 0 = t
  bm : ∀ j, j < jb → q.tail.getD (itf (Sp.fn (Sp.behindL q.next)) d0 (a + j)) 0 ≠ t
theorem Sp.sharedGo_true {T F : List Int} {s t : Int} : ∀ g f x, Sp.sharedGo T F s t g f = (x, true) → ∃ c : Nat, x = (c : Int) ∧ f ≤ c ∧ c < f + g ∧ Sp.meets T F c s ∧ Sp.meets T F c t ∧ ∀ e : Nat, f ≤ e → e < c → ¬ (Sp.meets T F e s ∧ Sp.meets T F e t)
  | 0, f, x, h => by rw [Sp.sharedGo] at h; simp at h
  | g + 1, f, x, h => by
    rw [Sp.sharedGo] at h
    split at h
    · rename_i h1
      injection h with h2 h3
      exact ⟨f, h2.symm, by omega, by omega, Sp.meetsB_of h1.1, Sp.meetsB_of h1.2, fun e h4 h5 => by omega⟩
    · rename_i h1
      obtain ⟨c, e1, e2, e3, e4, e5, e6⟩ := Sp.sharedGo_true g (f + 1) x h
      refine ⟨c, e1, by omega, by omega, e4, e5, fun e h4 h5 => ?_⟩
      by_cases he : e = f
      · subst he
        rintro ⟨h6, h7⟩
        exact h1 ⟨Sp.meetsB_true h6, Sp.meetsB_true h7⟩
      · exact e6 e (by omega) h5
theorem Sp.faces_orb {q : Sp.Net} (hq : Sp.LinkQ q) {d y : Nat} (hd : d < q.tail.length) (hy : y < q.tail.length) (e : (Sp.faces2 q).1.getD y 0 = (Sp.faces2 q).1.getD d 0) : ∃ i, i < Sp.per (Sp.behindL q.next) d ∧ itf (Sp.fn (Sp.behindL q.next)) d i = y := by
  have hst := Sp.faces2_st hq.pm hq.nx hq.ev
  have hb := hq.pm.behind (by rw [hq.nx]; exact hq.ev)
  have hlb : (Sp.behindL q.next).length = q.tail.length := by rw [Sp.behindL_len, hq.nx]
  obtain ⟨m, hm⟩ := hst.sep d y (by rw [hlb]; exact hd) (by rw [hlb]; exact hy) (hst.done d (by rw [hlb]; exact hd)) e.symm
  refine ⟨m % Sp.per (Sp.behindL q.next) d, Nat.mod_lt _ (hb.per (by rw [hlb]; exact hd)).1, ?_⟩
  rw [itf_mod hb (by rw [hlb]; exact hd), hm]
theorem Sp.faces_along {q : Sp.Net} (hq : Sp.LinkQ q) {d : Nat} (hd : d < q.tail.length) (i : Nat) : (Sp.faces2 q).1.getD (itf (Sp.fn (Sp.behindL q.next)) d i) 0 = (Sp.faces2 q).1.getD d 0 := by
  have hst := Sp.faces2_st hq.pm hq.nx hq.ev
  have hb := hq.pm.behind (by rw [hq.nx]; exact hq.ev)
  have hlb : (Sp.behindL q.next).length = q.tail.length := by rw [Sp.behindL_len, hq.nx]
  exact hst.orb hb (by rw [hlb]; exact hd) i
theorem Sp.splitQ_of {q : Sp.Net} (hq : Sp.LinkQ q) {s t : Int} (h : (Sp.shared q s t).2 = true) : ∃ f d0 a jb, Sp.SplitQ q s t f d0 a jb := by
  have hb := hq.pm.behind (by rw [hq.nx]; exact hq.ev)
  have hlb : (Sp.behindL q.next).length = q.tail.length := by rw [Sp.behindL_len, hq.nx]
  have e : Sp.shared q s t = ((Sp.shared q s t).1, true) := by rw [← h]
  have e' := e
  unfold Sp.shared at e
  split at e
  · simp at e
  · rename_i hst
    obtain ⟨f, hf1, -, hf2, ⟨y, hy1, hy2, hy3⟩, ⟨z, hz1, hz2, hz3⟩, -⟩ := Sp.sharedGo_true _ _ _ e
    have hs : (Sp.shared q s t).1 = (f : Int) := by
      rw [← hf1]
      unfold Sp.shared
      rw [if_neg hst]
    obtain ⟨d0, ⟨hd1, hd2⟩, hd3⟩ := least_of (p := fun d => d < q.tail.length ∧ (Sp.faces2 q).1.getD d 0 = (f : Int)) ⟨y, hy1, hy3⟩
    have hdb : d0 < (Sp.behindL q.next).length := by rw [hlb]; exact hd1
    have hp1 := (hb.per hdb).1
    obtain ⟨i, hi1, hi2⟩ := Sp.faces_orb hq hd1 hy1 (by rw [hy3, hd2])
    obtain ⟨a, ⟨ha1, ha2⟩, ha3⟩ := least_of (p := fun j => j < Sp.per (Sp.behindL q.next) d0 ∧ q.tail.getD (itf (Sp.fn (Sp.behindL q.next)) d0 j) 0 = s) ⟨i, hi1, by rw [hi2]; exact hy2⟩
    have hxl : itf (Sp.fn (Sp.behindL q.next)) d0 a < q.tail.length := by have := hb.fnP.it hdb a; rw [hlb] at this; exact this
    obtain ⟨k, hk1, hk2⟩ := Sp.faces_orb hq hxl hz1 (by rw [hz3, Sp.faces_along hq hd1 a, hd2])
    rw [per_along hb hdb] at hk1
    rw [← itf_add] at hk2
    obtain ⟨jb, ⟨hj1, hj2⟩, hj3⟩ := least_of (p := fun j => j < Sp.per (Sp.behindL q.next) d0 ∧ q.tail.getD (itf (Sp.fn (Sp.behindL q.next)) d0 (a + j)) 0 = t) ⟨k, hk1, by rw [hk2]; exact hz2⟩
    refine ⟨f, d0, a, jb, by rw [e', hs], hd1, hd2, fun j hj ej => ?_, ha1, ha2, fun j hj ej => ?_, hj1, ?_, hj2, fun j hj ej => ?_⟩
    · have := hd3 j ⟨by omega, ej⟩; omega
    · have := ha3 j ⟨by omega, ej⟩; omega
    · rcases Nat.eq_zero_or_pos jb with h0 | h0
      · rw [h0, Nat.add_zero, ha2] at hj2
        exact absurd hj2 hst
      · exact h0
    · have := hj3 j ⟨by omega, ej⟩; omega
end Go.Proofs.Ytoegjnolccabjab


/- The program's rounds, faces, a dart's round: as the reference's. -/
namespace Go.Proofs.Ytoegjnolccabjab
open Go Go.RowKit

/-- The rounds, each from its least dart on. -/
def Sp.cyc (st : List Int) : Nat → Nat → List Int → List (List Int)
  | 0, _, _ => []
  | f + 1, d, row => if (d : Int) ∈ row then Sp.cyc st f (d + 1) row else Sp.rounds st d (Sp.per st d) :: Sp.cyc st f (d + 1) (row ++ Sp.rounds st d (Sp.per st d))
/-- Where each of some rows begins and ends, one behind the other. -/
def Sp.offs : Nat → List (List Int) → List (Nat × Nat)
  | _, [] => []
  | o, r :: c => (o, o + r.length) :: Sp.offs (o + r.length) c
def Sp.paintAll : Nat → List Int → List (List Int) → List Int
  | _, of, [] => of
  | k, of, r :: c => Sp.paintAll (k + 1) (Sp.paint k of r) c
theorem Sp.offs_len : ∀ (c : List (List Int)) (o : Nat), (Sp.offs o c).length = c.length
  | [], _ => rfl
  | r :: c, o => by simp [Sp.offs, Sp.offs_len c]
/-- Closed under next ones. -/
def Sp.Shut (st row : List Int) : Prop := ∀ i, i < st.length → (i : Int) ∈ row → ((Sp.fn st i : Nat) : Int) ∈ row
theorem Sp.Shut.orb {st row : List Int} (hp : Sp.Perm st) (h : Sp.Shut st row) {i j : Nat} (hi : i < st.length) (hm : (i : Int) ∈ row) (ho : OrbF (Sp.fn st) i j) : (j : Int) ∈ row := by
  obtain ⟨m, rfl⟩ := ho
  induction m with
  | zero => exact hm
  | succ m ih => exact h _ (hp.fnP.it hi m) ih
theorem Sp.Shut.add {st row : List Int} (hp : Sp.Perm st) (h : Sp.Shut st row) {d : Nat} (hd : d < st.length) : Sp.Shut st (row ++ Sp.rounds st d (Sp.per st d)) := by
  intro i hi hm
  rcases List.mem_append.1 hm with h1 | h1
  · exact List.mem_append_left _ (h i hi h1)
  · refine List.mem_append_right _ ?_
    obtain ⟨j, e, o⟩ := (hp.mem_rounds hd _).1 h1
    have : i = j := by omega
    subst this
    exact (hp.mem_rounds hd _).2 ⟨_, rfl, o.trans (OrbF.one _ _)⟩
theorem Sp.walkR_round {st : List Int} (hp : Sp.Perm st) {d : Nat} (hd : d < st.length) (row : List Int) (hs : Sp.Shut st row) (hn : ¬ (d : Int) ∈ row) :
    ∀ j f, j ≤ Sp.per st d → Sp.per st d < j + f → Sp.walkR st d f (Sp.nth st d j) (row ++ Sp.rounds st d j) = some (row ++ Sp.rounds st d (Sp.per st d)) := by
  obtain ⟨p1, p2, p3, p4⟩ := hp.per hd
  intro j f
  induction f generalizing j with
  | zero => intro h1 h2; omega
  | succ f ih =>
    intro h1 h2
    rw [Sp.walkR]
    rcases Nat.lt_or_ge j (Sp.per st d) with hj | hj
    · have hnm : ¬ Sp.nth st d j ∈ row ++ Sp.rounds st d j := by
        intro hm
        rcases List.mem_append.1 hm with h3 | h3
        · rw [hp.nth_it hd] at h3
          exact hn (hs.orb hp (hp.fnP.it hd j) h3 (hp.sym hd ⟨j, rfl⟩))
        · obtain ⟨i, hi, e⟩ := List.mem_map.1 h3
          rw [List.mem_range] at hi
          have e2 : Sp.nth st d (i + (j - i)) = Sp.nth st d i := by rw [show i + (j - i) = j by omega]; exact e.symm
          exact p4 (j - i) (by omega) (by omega) (hp.back hd i (j - i) e2)
      rw [if_neg hnm]
      have e1 : st.getD (Sp.nth st d j).toNat 0 = Sp.nth st d (j + 1) := rfl
      have e2 : row ++ Sp.rounds st d j ++ [Sp.nth st d j] = row ++ Sp.rounds st d (j + 1) := by rw [Sp.rounds_succ, List.append_assoc]
      rw [e1, e2]
      exact ih (j + 1) (by omega) (by omega)
    · obtain rfl : j = Sp.per st d := by omega
      have hm : Sp.nth st d (Sp.per st d) ∈ row ++ Sp.rounds st d (Sp.per st d) := by
        rw [p3]
        exact List.mem_append_right _ ((hp.mem_rounds hd _).2 ⟨d, rfl, OrbF.refl _ _⟩)
      rw [if_pos hm, if_pos p3]
theorem Sp.rgo_cyc {st : List Int} (hp : Sp.Perm st) : ∀ f d row ps, d + f = st.length → Sp.Shut st row → RFit st.length row →
    Sp.rgo st f d row ps = some (row ++ (Sp.cyc st f d row).flatten, ps ++ Sp.offs row.length (Sp.cyc st f d row))
  | 0, d, row, ps, _, _, _ => by simp [Sp.rgo, Sp.cyc, Sp.offs]
  | f + 1, d, row, ps, hd, hs, hf => by
    rw [Sp.rgo, Sp.cyc]
    by_cases hm : (d : Int) ∈ row
    · rw [if_pos hm, if_pos hm]
      exact Sp.rgo_cyc hp f (d + 1) row ps (by omega) hs hf
    · rw [if_neg hm, if_neg hm]
      have hdl : d < st.length := by omega
      obtain ⟨p1, p2, p3, p4⟩ := hp.per hdl
      have hw : Sp.walkR st d (st.length + 1 - row.length) d row = some (row ++ Sp.rounds st d (Sp.per st d)) := by
        have hfit : (row ++ Sp.rounds st d (Sp.per st d)).length ≤ st.length := by
          refine nodup_le _ _ ?_ ?_
          · rw [List.nodup_append]
            refine ⟨hf.nd, ?_, ?_⟩
            · unfold List.Nodup
              rw [List.pairwise_iff_getElem]
              intro i j hi hj hij e
              rw [Sp.rounds_len] at hi hj
              simp only [Sp.rounds, List.getElem_map, List.getElem_range] at e
              have e2 : Sp.nth st d (i + (j - i)) = Sp.nth st d i := by rw [show i + (j - i) = j by omega]; exact e.symm
              exact p4 (j - i) (by omega) (by omega) (hp.back hdl i (j - i) e2)
            · intro a ha b hb e
              subst e
              obtain ⟨j, rfl, o⟩ := (hp.mem_rounds hdl _).1 hb
              obtain ⟨m, hj⟩ := o
              exact hm (hs.orb hp (by rw [← hj]; exact hp.fnP.it hdl m) ha (hp.sym hdl ⟨m, hj⟩))
          · intro x hx
            rcases List.mem_append.1 hx with h1 | h1
            · exact hf.bd x h1
            · obtain ⟨j, rfl, m, hj⟩ := (hp.mem_rounds hdl _).1 h1
              have := hp.fnP.it hdl m
              omega
        rw [List.length_append, Sp.rounds_len] at hfit
        have h := Sp.walkR_round hp hdl row hs hm 0 (st.length + 1 - row.length) (by omega) (by omega)
        have e0 : Sp.rounds st d 0 = [] := rfl
        rw [e0, List.append_nil] at h
        exact h
      obtain ⟨r1, -, -⟩ := walkR_ok rfl hp.bd d _ _ _ _ hw (by omega) (by omega) hf
      rw [hw]
      show Sp.rgo st f (d + 1) (row ++ Sp.rounds st d (Sp.per st d)) (ps ++ [(row.length, (row ++ Sp.rounds st d (Sp.per st d)).length)]) = _
      rw [Sp.rgo_cyc hp f (d + 1) _ _ (by omega) (hs.add hp hdl) r1]
      simp [Sp.offs, List.append_assoc]
/-- All rounds of a row. -/
def Sp.cycs (st : List Int) : List (List Int) := Sp.cyc st st.length 0 []
theorem Sp.rnds_cyc {st : List Int} (hp : Sp.Perm st) : Sp.rnds st = some ((Sp.cycs st).flatten, Sp.offs 0 (Sp.cycs st)) := by
  have h := Sp.rgo_cyc hp st.length 0 [] [] (by omega) (fun i _ h => by simp at h) ⟨by simp, by simp⟩
  simpa [Sp.rnds, Sp.cycs] using h
theorem Sp.rndsD_cyc {st : List Int} (hp : Sp.Perm st) : Sp.rndsD st = ((Sp.cycs st).flatten, Sp.offs 0 (Sp.cycs st)) := by
  unfold Sp.rndsD
  rw [Sp.rnds_cyc hp]
  rfl
theorem Sp.piece_at (a r b : List Int) : Sp.piece (a ++ (r ++ b)) (a.length, a.length + r.length) = r := by
  simp [Sp.piece]
theorem Sp.facesGo_paint : ∀ (c : List (List Int)) (a : List Int) (k : Nat) (of : List Int), Sp.facesGo (a ++ c.flatten) (Sp.offs a.length c) k of = Sp.paintAll k of c
  | [], _, _, _ => rfl
  | r :: c, a, k, of => by
    have e : a ++ (r :: c).flatten = a ++ (r ++ c.flatten) := by simp
    show Sp.facesGo (a ++ (r :: c).flatten) (Sp.offs (a.length + r.length) c) (k + 1) (Sp.paint k of (Sp.piece (a ++ (r :: c).flatten) (a.length, a.length + r.length))) = _
    rw [e, Sp.piece_at]
    have h := Sp.facesGo_paint c (a ++ r) (k + 1) (Sp.paint k of r)
    rw [List.length_append, List.append_assoc] at h
    exact h
theorem Sp.paintAll_len : ∀ (c : List (List Int)) (k : Nat) (of : List Int), (Sp.paintAll k of c).length = of.length
  | [], _, _ => rfl
  | r :: c, k, of => by
    show (Sp.paintAll (k + 1) (Sp.paint k of r) c).length = _
    rw [Sp.paintAll_len c, Sp.paint_len]
theorem Sp.paintAll_same : ∀ (c : List (List Int)) (k : Nat) (of1 of2 : List Int) (i : Nat), (∀ r ∈ c, ∀ x ∈ r, 0 ≤ x) → i < of1.length → i < of2.length →
    (Sp.paintAll k of1 c).getD i 0 = (Sp.paintAll k of2 c).getD i 0 ∨ ((Sp.paintAll k of1 c).getD i 0 = of1.getD i 0 ∧ (Sp.paintAll k of2 c).getD i 0 = of2.getD i 0)
  | [], _, _, _, _, _, _, _ => .inr ⟨rfl, rfl⟩
  | r :: c, k, of1, of2, i, h, h1, h2 => by
    have h0 := h r (by simp)
    have g1 := Sp.paint_get k r of1 i h0 h1
    have g2 := Sp.paint_get k r of2 i h0 h2
    rcases Sp.paintAll_same c (k + 1) (Sp.paint k of1 r) (Sp.paint k of2 r) i (fun r' hr => h r' (by simp [hr])) (by rw [Sp.paint_len]; exact h1) (by rw [Sp.paint_len]; exact h2) with e | ⟨e1, e2⟩
    · exact .inl e
    · rw [g1] at e1
      rw [g2] at e2
      by_cases hm : (i : Int) ∈ r
      · rw [if_pos hm] at e1 e2
        exact .inl (e1.trans e2.symm)
      · rw [if_neg hm] at e1 e2
        exact .inr ⟨e1, e2⟩
theorem Sp.faces2Go_cyc {st : List Int} (hp : Sp.Perm st) : ∀ f d of k row, d + f = st.length → of.length = st.length → (∀ i, i < st.length → ((i : Int) ∈ row ↔ 0 ≤ of.getD i 0)) →
    Sp.faces2Go st f d of k = (Sp.paintAll k of (Sp.cyc st f d row), k + (Sp.cyc st f d row).length)
  | 0, _, _, _, _, _, _, _ => rfl
  | f + 1, d, of, k, row, hd, hl, hr => by
    rw [Sp.faces2Go, Sp.cyc]
    have hdl : d < st.length := by omega
    by_cases h0 : 0 ≤ of.getD d 0
    · rw [if_pos h0, if_pos ((hr d hdl).2 h0)]
      exact Sp.faces2Go_cyc hp f (d + 1) of k row (by omega) hl hr
    · rw [if_neg h0, if_neg (fun h => h0 ((hr d hdl).1 h))]
      have h1 := Sp.faces2Go_cyc hp f (d + 1) (Sp.paint k of (Sp.rounds st d (Sp.per st d))) (k + 1) (row ++ Sp.rounds st d (Sp.per st d)) (by omega) (by rw [Sp.paint_len]; exact hl) (fun i hi => by
        rw [Sp.paint_get k _ of i (fun x hx => by obtain ⟨j, rfl, -⟩ := (hp.mem_rounds hdl x).1 hx; omega) (by omega), List.mem_append, hr i hi]
        by_cases hm : (i : Int) ∈ Sp.rounds st d (Sp.per st d)
        · rw [if_pos hm]
          exact ⟨fun _ => by omega, fun _ => .inr hm⟩
        · rw [if_neg hm]
          exact ⟨fun h => h.resolve_right hm, fun h => .inl h⟩)
      rw [h1]
      simp [Sp.paintAll]
      omega
theorem Sp.cyc_pos {st : List Int} (hp : Sp.Perm st) : ∀ f d row, d + f = st.length → ∀ r ∈ Sp.cyc st f d row, ∃ e : Nat, e < st.length ∧ r = Sp.rounds st e (Sp.per st e)
  | 0, _, _, _, r, h => by simp [Sp.cyc] at h
  | f + 1, d, row, hd, r, h => by
    rw [Sp.cyc] at h
    split at h
    · exact Sp.cyc_pos hp f (d + 1) row (by omega) r h
    · rcases List.mem_cons.1 h with e | e
      · exact ⟨d, by omega, e⟩
      · exact Sp.cyc_pos hp f (d + 1) _ (by omega) r e
/-- The program's Faces and the reference's tell the same. -/
theorem Sp.faces_eq {q : Sp.Net} (hp : Sp.Perm q.next) (hl : q.next.length = q.tail.length) (hev : q.tail.length % 2 = 0) : Sp.facesL q = (Sp.faces2 q).1 ∧ Sp.facesN q = max (Sp.faces2 q).2 1 := by
  have hb := hp.behind (by rw [hl]; exact hev)
  have hlb : (Sp.behindL q.next).length = q.tail.length := by rw [Sp.behindL_len, hl]
  have hst := (Sp.faces2_st hp hl hev)
  have h2 := Sp.faces2Go_cyc hb (Sp.behindL q.next).length 0 (List.replicate (Sp.behindL q.next).length (-1)) 0 [] (by omega) (by simp) (fun i hi => by rw [getD_rep _ _ _ hi]; simp)
  have e2 : Sp.faces2 q = (Sp.paintAll 0 (List.replicate q.tail.length (-1)) (Sp.cycs (Sp.behindL q.next)), 0 + (Sp.cycs (Sp.behindL q.next)).length) := by
    rw [hlb] at h2
    unfold Sp.faces2 Sp.cycs
    rw [h2, hlb]
  have e1 : Sp.facesL q = Sp.paintAll 0 (List.replicate q.tail.length 0) (Sp.cycs (Sp.behindL q.next)) := by
    unfold Sp.facesL
    rw [Sp.rndsD_cyc hb]
    have h := Sp.facesGo_paint (Sp.cycs (Sp.behindL q.next)) [] 0 (List.replicate q.tail.length 0)
    rw [List.nil_append] at h
    exact h
  refine ⟨?_, ?_⟩
  · apply List.ext_getElem
    · rw [e1, Sp.paintAll_len, Sp.faces2_len, List.length_replicate]
    · intro i h3 h4
      have hi : i < q.tail.length := by rw [Sp.faces2_len] at h4; exact h4
      rw [← Sp.getD_eq _ _ h3, ← Sp.getD_eq _ _ h4]
      have hd := hst.done i (by rw [hlb]; exact hi)
      rw [e2] at hd ⊢
      rw [e1]
      rcases Sp.paintAll_same (Sp.cycs (Sp.behindL q.next)) 0 (List.replicate q.tail.length 0) (List.replicate q.tail.length (-1)) i (fun r hr x hx => by
        obtain ⟨e, he, rfl⟩ := Sp.cyc_pos hb _ 0 [] (by omega) r hr
        obtain ⟨j, rfl, -⟩ := (hb.mem_rounds he x).1 hx
        omega) (by simpa using hi) (by simpa using hi) with h5 | ⟨-, h5⟩
      · exact h5
      · rw [getD_rep _ _ _ hi] at h5
        have hd' : 0 ≤ (Sp.paintAll 0 (List.replicate q.tail.length (-1)) (Sp.cycs (Sp.behindL q.next))).getD i 0 := hd
        omega
  · unfold Sp.facesN
    rw [Sp.rndsD_cyc hb, e2]
    show max (Sp.offs 0 (Sp.cycs (Sp.behindL q.next))).length 1 = max (0 + (Sp.cycs (Sp.behindL q.next)).length) 1
    rw [Sp.offs_len, Nat.zero_add]
/-- Each dart is in one of the rounds. -/
theorem Sp.cyc_all {st : List Int} (hp : Sp.Perm st) : ∀ f d row, d + f = st.length → (∀ i, i < d → (i : Int) ∈ row) → ∀ i : Nat, i < st.length → (i : Int) ∈ row ∨ ∃ r ∈ Sp.cyc st f d row, (i : Int) ∈ r
  | 0, d, row, hd, hr, i, hi => .inl (hr i (by omega))
  | f + 1, d, row, hd, hr, i, hi => by
    rw [Sp.cyc]
    by_cases hm : (d : Int) ∈ row
    · rw [if_pos hm]
      exact Sp.cyc_all hp f (d + 1) row (by omega) (fun j hj => by
        rcases Nat.lt_or_ge j d with h1 | h1
        · exact hr j h1
        · rw [show j = d by omega]; exact hm) i hi
    · rw [if_neg hm]
      have hdd : (d : Int) ∈ Sp.rounds st d (Sp.per st d) := (hp.mem_rounds (by omega) _).2 ⟨d, rfl, OrbF.refl _ _⟩
      rcases Sp.cyc_all hp f (d + 1) (row ++ Sp.rounds st d (Sp.per st d)) (by omega) (fun j hj => by
        rcases Nat.lt_or_ge j d with h1 | h1
        · exact List.mem_append_left _ (hr j h1)
        · rw [show j = d by omega]; exact List.mem_append_right _ hdd) i hi with h1 | ⟨r, h1, h2⟩
      · rcases List.mem_append.1 h1 with h2 | h2
        · exact .inl h2
        · exact .inr ⟨_, List.mem_cons_self, h2⟩
      · exact .inr ⟨r, List.mem_cons_of_mem _ h1, h2⟩
theorem Sp.ofGo_find : ∀ (c : List (List Int)) (a : List Int) (d : Int), Sp.ofGo (a ++ c.flatten) d (Sp.offs a.length c) = match c.find? (fun r => decide (d ∈ r)) with | some r => Sp.rot2 r (r.idxOf d) | none => []
  | [], _, _ => rfl
  | r :: c, a, d => by
    have e : a ++ (r :: c).flatten = a ++ (r ++ c.flatten) := by simp
    show (if d ∈ Sp.piece (a ++ (r :: c).flatten) (a.length, a.length + r.length) then _ else Sp.ofGo (a ++ (r :: c).flatten) d (Sp.offs (a.length + r.length) c)) = _
    rw [e, Sp.piece_at]
    by_cases hd : d ∈ r
    · rw [if_pos hd]
      simp [hd]
    · rw [if_neg hd]
      have h := Sp.ofGo_find c (a ++ r) d
      rw [List.length_append, List.append_assoc] at h
      rw [h]
      simp [hd]
/-- A dart's round, as the program tells it. -/
theorem Sp.roundOf_eq {st : List Int} (hp : Sp.Perm st) {d : Nat} (hd : d < st.length) : Sp.roundOf st d = Sp.rounds st d (Sp.per st d) := by
  unfold Sp.roundOf
  rw [Sp.rndsD_cyc hp]
  have h := Sp.ofGo_find (Sp.cycs st) [] d
  rw [List.nil_append] at h
  rw [show Sp.offs 0 (Sp.cycs st) = Sp.offs ([] : List Int).length (Sp.cycs st) from rfl, h]
  have hex : ∃ r ∈ Sp.cycs st, (d : Int) ∈ r := by
    rcases Sp.cyc_all hp st.length 0 [] (by omega) (fun i hi => by omega) d hd with h1 | h1
    · simp at h1
    · exact h1
  cases hf : (Sp.cycs st).find? (fun r => decide ((d : Int) ∈ r)) with
  | none =>
    obtain ⟨r, h1, h2⟩ := hex
    have := List.find?_eq_none.1 hf r h1
    simp [h2] at this
  | some r =>
    have hm := List.mem_of_find?_eq_some hf
    have hdr : (d : Int) ∈ r := by have := List.find?_some hf; simpa using this
    obtain ⟨e, he, rfl⟩ := Sp.cyc_pos hp _ 0 [] (by omega) r hm
    show Sp.rot2 (Sp.rounds st e (Sp.per st e)) ((Sp.rounds st e (Sp.per st e)).idxOf (d : Int)) = _
    obtain ⟨p1, p2, p3, p4⟩ := hp.per he
    obtain ⟨j, hj, ej⟩ := List.mem_map.1 hdr
    rw [List.mem_range] at hj
    have hper : itf (Sp.fn st) e (Sp.per st e) = e := by have := hp.nth_it he (Sp.per st e); omega
    have hde : itf (Sp.fn st) e j = d := by have := hp.nth_it he j; omega
    have hidx : (Sp.rounds st e (Sp.per st e)).idxOf (d : Int) = j := by
      refine idxOf_of _ _ j (by rw [Sp.rounds_len]; exact hj) (by simp only [Sp.rounds, List.getElem_map, List.getElem_range]; exact ej) (fun i hi hij ei => ?_)
      simp only [Sp.rounds, List.getElem_map, List.getElem_range] at ei
      have e2 : Sp.nth st e (i + (j - i)) = Sp.nth st e i := by rw [show i + (j - i) = j by omega, ej, ei]
      exact p4 (j - i) (by omega) (by omega) (hp.back he i (j - i) e2)
    have hpd : Sp.per st d = Sp.per st e := by
      obtain ⟨s1, s2, s3, s4⟩ := hp.per hd
      have hperd : itf (Sp.fn st) d (Sp.per st d) = d := by have := hp.nth_it hd (Sp.per st d); omega
      have a1 : itf (Sp.fn st) d (Sp.per st e) = d := by
        rw [← hde, ← itf_add, Nat.add_comm, itf_add, hper]
      have a2 : itf (Sp.fn st) e (Sp.per st d) = e := by
        have b1 : itf (Sp.fn st) d (Sp.per st e - j) = e := by rw [← hde, ← itf_add, show j + (Sp.per st e - j) = Sp.per st e by omega, hper]
        rw [← b1, ← itf_add, Nat.add_comm, itf_add, hperd]
      rcases Nat.lt_trichotomy (Sp.per st d) (Sp.per st e) with h1 | h1 | h1
      · exact absurd (by rw [hp.nth_it he, a2]) (p4 (Sp.per st d) (by omega) h1)
      · exact h1
      · exact absurd (by rw [hp.nth_it hd, a1]) (s4 (Sp.per st e) (by omega) h1)
    rw [hidx, hpd]
    unfold Sp.rot2
    apply List.ext_getElem
    · simp [Sp.rounds_len]; omega
    · intro i h1 h2
      rw [Sp.rounds_len] at h2
      have g2 : (Sp.rounds st d (Sp.per st e))[i] = ((itf (Sp.fn st) e (j + i) : Nat) : Int) := by
        simp only [Sp.rounds, List.getElem_map, List.getElem_range]
        rw [hp.nth_it hd, itf_add, hde]
      rw [g2]
      rcases Nat.lt_or_ge i (Sp.per st e - j) with h3 | h3
      · rw [List.getElem_append_left (by rw [List.length_drop, Sp.rounds_len]; exact h3), List.getElem_drop]
        simp only [Sp.rounds, List.getElem_map, List.getElem_range]
        exact hp.nth_it he (j + i)
      · rw [List.getElem_append_right (by rw [List.length_drop, Sp.rounds_len]; exact h3), List.getElem_take]
        simp only [Sp.rounds, List.getElem_map, List.getElem_range, List.length_drop, List.length_map, List.length_range]
        rw [hp.nth_it he]
        have e5 : j + i = Sp.per st e + (i - (Sp.per st e - j)) := by omega
        rw [e5, itf_add, hper]
end Go.Proofs.Ytoegjnolccabjab


/- The walk of the second law's Plane. -/
namespace Go.Proofs.Ytoegjnolccabjab
open Go Go.RowKit

/-- Plane's frame: its net, grown so far. -/
structure PlAt (w wr : World) (i : Nat) (q : Sp.Net) (tv nv cv : Value) : Prop where
  net : NetV wr (w.heap.size + 2) (.agg #[.int .i64 q.n, tv, nv, cv]) q tv nv cv
  at' : MakeAt w wr q.n tv nv cv
  ok : Sp.PlaneQ q i
theorem PlAt.of {w X : World} {i : Nat} {q : Sp.Net} {m : Int} {l1 l2 l3 : List Int} {tv nv cv : Value} (hq : q = ⟨m, l1, l2, l3⟩) (h1 : NetV X (w.heap.size + 2) (.agg #[.int .i64 m, tv, nv, cv]) ⟨m, l1, l2, l3⟩ tv nv cv) (h2 : MakeAt w X m tv nv cv) (h3 : Sp.PlaneQ q i) : PlAt w X i q tv nv cv := by
  subst hq
  exact ⟨h1, h2, h3⟩
theorem PlAt.below {w wr wy : World} {i : Nat} {q : Sp.Net} {tv nv cv : Value} (h : PlAt w wr i q tv nv cv) (hb : Below wr.heap.size wr wy) : PlAt w wy i q tv nv cv := ⟨h.net.keep hb, h.at'.below hb, h.ok⟩
theorem MakeAt.cells3 {w wx : World} {n : Int} {tv nv cv : Value} (h : MakeAt w wx n tv nv cv) (o1 o2 o3 : Obj) :
    (((wx.alloc o1).alloc o2).alloc o3).cell? ⟨w.heap.size + 1, 0, none⟩ = some (.int .i64 n) ∧ (((wx.alloc o1).alloc o2).alloc o3).cell? ⟨w.heap.size + 1, 1, none⟩ = some tv ∧ (((wx.alloc o1).alloc o2).alloc o3).cell? ⟨w.heap.size + 1, 2, none⟩ = some nv ∧ (((wx.alloc o1).alloc o2).alloc o3).cell? ⟨w.heap.size + 1, 3, none⟩ = some cv ∧
      (((wx.alloc o1).alloc o2).alloc o3).frozen? ⟨w.heap.size + 1, 0, none⟩ = false ∧ (((wx.alloc o1).alloc o2).alloc o3).frozen? ⟨w.heap.size + 1, 1, none⟩ = false ∧ (((wx.alloc o1).alloc o2).alloc o3).frozen? ⟨w.heap.size + 1, 2, none⟩ = false ∧ (((wx.alloc o1).alloc o2).alloc o3).frozen? ⟨w.heap.size + 1, 3, none⟩ = false :=
  obj_cells (h.below ((((Below.refl _ _).alloc (Nat.le_refl _) _).alloc (by simp) _).alloc (by simp; omega) _)).b1
end Go.Proofs.Ytoegjnolccabjab


/- The second law's known. -/
namespace Go.Proofs.Ytoegjnolccabjab
open Go Go.RowKit

def Sp.q0 : Sp.Net := ⟨2, [0, 1], [0, 1], [5, 3]⟩
def Sp.q1 : Sp.Net := ⟨1, [], [], []⟩
theorem q0_walk : Sp.walkB Sp.q0 = true := by decide +kernel
theorem q0_check : Sp.checkI Sp.q0 = 0 := by decide +kernel
/-- A net of literals in a block of its own. -/
theorem lit_net (w : World) (N : Int) (t n c : List Int) (a b d : Nat) (ht : t.length = a) (hn : n.length = b) (hc : c.length = d) (hs : t.length ≤ 1000 ∧ n.length ≤ 1000 ∧ c.length ≤ 1000) (w' : World)
    (hb : Below (w.heap.size + 4) ((((w.alloc (.cells (t.map (Value.int .i64)).toArray 3)).alloc (.cells (n.map (Value.int .i64)).toArray 3)).alloc (.cells (c.map (Value.int .i64)).toArray 3)).alloc (.cells #[.int .i64 N, .slice (some ⟨w.heap.size, 0, none⟩) a a, .slice (some ⟨w.heap.size + 1, 0, none⟩) b b, .slice (some ⟨w.heap.size + 1 + 1, 0, none⟩) d d] 26)) w') :
    NetI w' (.agg #[.int .i64 N, .slice (some ⟨w.heap.size, 0, none⟩) a a, .slice (some ⟨w.heap.size + 1, 0, none⟩) b b, .slice (some ⟨w.heap.size + 1 + 1, 0, none⟩) d d]) ⟨N, t, n, c⟩ (.slice (some ⟨w.heap.size, 0, none⟩) a a) (.slice (some ⟨w.heap.size + 1, 0, none⟩) b b) (.slice (some ⟨w.heap.size + 1 + 1, 0, none⟩) d d) ∧
    Below w.heap.size w w' ∧ w.heap.size + 4 ≤ w'.heap.size ∧ w'.cell? ⟨w.heap.size + 1 + 1 + 1, 0, none⟩ = some (.int .i64 N) ∧ w'.cell? ⟨w.heap.size + 1 + 1 + 1, 1, none⟩ = some (.slice (some ⟨w.heap.size, 0, none⟩) a a) ∧ w'.cell? ⟨w.heap.size + 1 + 1 + 1, 2, none⟩ = some (.slice (some ⟨w.heap.size + 1, 0, none⟩) b b) ∧ w'.cell? ⟨w.heap.size + 1 + 1 + 1, 3, none⟩ = some (.slice (some ⟨w.heap.size + 1 + 1, 0, none⟩) d d) := by
  have o1 := own_lit w w.heap.size w.heap.size a t rfl ht (Nat.le_refl _) (by omega)
  generalize hA : w.alloc (.cells (t.map (Value.int .i64)).toArray 3) = A at *
  have sA : A.heap.size = w.heap.size + 1 := by rw [← hA]; simp
  have bA : Below w.heap.size w A := by rw [← hA]; exact (Below.refl _ w).alloc (Nat.le_refl _) _
  have o2 := own_lit A w.heap.size (w.heap.size + 1) b n sA hn (by omega) (by omega)
  have o1' := World.ownsRow.alloc o1 (.cells (n.map (Value.int .i64)).toArray 3)
  generalize hB : A.alloc (.cells (n.map (Value.int .i64)).toArray 3) = B at *
  have sB : B.heap.size = w.heap.size + 1 + 1 := by rw [← hB, World.size_alloc, sA]
  have bB : Below w.heap.size w B := by rw [← hB]; exact bA.alloc (by omega) _
  have o3 := own_lit B w.heap.size (w.heap.size + 1 + 1) d c sB hc (by omega) (by omega)
  have o1'' := World.ownsRow.alloc o1' (.cells (c.map (Value.int .i64)).toArray 3)
  have o2' := World.ownsRow.alloc o2 (.cells (c.map (Value.int .i64)).toArray 3)
  generalize hC : B.alloc (.cells (c.map (Value.int .i64)).toArray 3) = C at *
  have sC : C.heap.size = w.heap.size + 1 + 1 + 1 := by rw [← hC, World.size_alloc, sB]
  have bC : Below w.heap.size w C := by rw [← hC]; exact bB.alloc (by omega) _
  obtain ⟨k0, k1, k2, k3⟩ := net_new C (.int .i64 N) (.slice (some ⟨w.heap.size, 0, none⟩) a a) (.slice (some ⟨w.heap.size + 1, 0, none⟩) b b) (.slice (some ⟨w.heap.size + 1 + 1, 0, none⟩) d d) 26
  rw [sC] at k0 k1 k2 k3
  have p1 := World.ownsRow.alloc o1'' (.cells #[.int .i64 N, .slice (some ⟨w.heap.size, 0, none⟩) a a, .slice (some ⟨w.heap.size + 1, 0, none⟩) b b, .slice (some ⟨w.heap.size + 1 + 1, 0, none⟩) d d] 26)
  have p2 := World.ownsRow.alloc o2' (.cells #[.int .i64 N, .slice (some ⟨w.heap.size, 0, none⟩) a a, .slice (some ⟨w.heap.size + 1, 0, none⟩) b b, .slice (some ⟨w.heap.size + 1 + 1, 0, none⟩) d d] 26)
  have p3 := World.ownsRow.alloc o3 (.cells #[.int .i64 N, .slice (some ⟨w.heap.size, 0, none⟩) a a, .slice (some ⟨w.heap.size + 1, 0, none⟩) b b, .slice (some ⟨w.heap.size + 1 + 1, 0, none⟩) d d] 26)
  have bD : Below w.heap.size w (C.alloc (.cells #[.int .i64 N, .slice (some ⟨w.heap.size, 0, none⟩) a a, .slice (some ⟨w.heap.size + 1, 0, none⟩) b b, .slice (some ⟨w.heap.size + 1 + 1, 0, none⟩) d d] 26)) := bC.alloc (by omega) _
  have sD : (C.alloc (.cells #[.int .i64 N, .slice (some ⟨w.heap.size, 0, none⟩) a a, .slice (some ⟨w.heap.size + 1, 0, none⟩) b b, .slice (some ⟨w.heap.size + 1 + 1, 0, none⟩) d d] 26)).heap.size = w.heap.size + 4 := by rw [World.size_alloc, sC]
  generalize C.alloc (.cells #[.int .i64 N, .slice (some ⟨w.heap.size, 0, none⟩) a a, .slice (some ⟨w.heap.size + 1, 0, none⟩) b b, .slice (some ⟨w.heap.size + 1 + 1, 0, none⟩) d d] 26) = D at *
  have hb' : Below D.heap.size D w' := by rw [sD]; exact hb
  have hsz := hb.size
  exact ⟨⟨rfl, (OwnI.ints p1).below hb', (OwnI.ints p2).below hb', (OwnI.ints p3).below hb'⟩, bD.trans (hb.mono (by omega)), by omega,
    (hb.cell (by show w.heap.size + 1 + 1 + 1 < _; omega)).trans k0, (hb.cell (by show w.heap.size + 1 + 1 + 1 < _; omega)).trans k1, (hb.cell (by show w.heap.size + 1 + 1 + 1 < _; omega)).trans k2, (hb.cell (by show w.heap.size + 1 + 1 + 1 < _; omega)).trans k3⟩
theorem ints_nil (w : World) : Ints w (.slice none 0 0) [] := ⟨none, 0, rfl, by simp, by unfold maxLen; omega, fun k hk => by simp at hk⟩
end Go.Proofs.Ytoegjnolccabjab


/- The law RotHeads, walked. -/
namespace Go.Proofs.Ytoegjnolccabjab
open Go Go.RowKit

theorem Ints.allD {w : World} {v : Value} {l : List Int} (h : Ints w v l) : ∃ (a : Option Addr) (c : Nat), v = .slice a l.length c ∧ l.length ≤ c ∧ c ≤ maxLen ∧ Hid (∀ k, k < l.length → ∃ b o, a = some ⟨b, o, none⟩ ∧ b < w.heap.size ∧ ∀ w', Below w.heap.size w w' → w'.cell? ⟨b, o + k, none⟩ = some (.int .i64 (l.getD k 0))) := by
  obtain ⟨a, c, e, h1, h2, h3⟩ := h.all
  refine ⟨a, c, e, h1, h2, hide fun k hk => ?_⟩
  obtain ⟨b, o, e1, e2, e3⟩ := unhide h3 k hk
  exact ⟨b, o, e1, e2, fun w' hb => by rw [Sp.getD_eq _ _ hk]; exact e3 w' hb⟩
end Go.Proofs.Ytoegjnolccabjab


