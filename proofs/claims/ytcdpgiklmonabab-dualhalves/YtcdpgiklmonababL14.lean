/- What the proof needs, part 14. -/
import Derived.Test.YtcdpgiklmonababL13
/- The law DualBack, walked. -/
namespace Go.Proofs.Ytcdpgiklmonabab
open Go Go.RowKit

theorem Sp.SplitQ.dual {ns : List Int} {s t : Int} {f d0 a jb : Nat} (hs : Sp.SplitQ (Sp.plane ns) s t f d0 a jb) : Sp.DualQ (Sp.plane ns) := by
  rcases Sp.dualQ_plane ns with e | h
  · have := hs.d0l
    rw [e] at this
    exact absurd this (Nat.not_lt_zero _)
  · exact h
theorem more_pos {L : List Int} {v : Int} {i n m : Nat} (h : ∀ k, k < i → L.getD k 0 = v → 0 < n) (hm : n ≤ m) (hi : L.getD i 0 = v → 0 < m) : ∀ k, k < i + 1 → L.getD k 0 = v → 0 < m := fun k hk e => by
  rcases Nat.lt_or_ge k i with h1 | h1
  · have := h k h1 e; omega
  · obtain rfl : k = i := by omega
    exact hi e
set_option maxRecDepth 100000 in
set_option maxHeartbeats 4000000 in
theorem dualBack_any (ns : List Int) (x : Value) (s t : Int) (w : World) (hx : Ints w x ns) :
    Calls Try.prog 7 #[x, .int .i64 s, .int .i64 t] w fun e w' => e = .returned (.bool true) ∧ Below w.heap.size w w' := by
  obtain ⟨a, c, rfl, hc, hm⟩ := hx.form
  have HPL := hide (fun w' (hb : Below w.heap.size w w') => plane_any ns (.slice a ns.length c) w' (hx.below hb))
  have HOK := hide (Sp.plane_ok ns)
  have HLQ := hide (Sp.linkQ_plane ns)
  have HCk := hide (Sp.check_plane ns)
  have HDq := hide (fun (s t : Int) f d0 a jb (h : Sp.SplitQ (Sp.plane ns) s t f d0 a jb) => h.dual)
  generalize Sp.plane ns = q at *
  generalize ns.length = n at *
  clear hx
  obtain ⟨P, hP⟩ : ∃ P : Ending → World → Prop, P = fun e w' => e = .returned (.bool true) ∧ Below w.heap.size w w' := ⟨_, rfl⟩
  rw [← hP]
  have HP := hide hP
  clear hP
  go_enter Try.func7, Try.ntmps7
  go_wp2_with fail
  go_at_call 9
  refine (known3_any w).mono ?_
  rintro e w2 ⟨rfl, hb2⟩
  have Hb2 := hide hb2
  clear hb2
  go_wp2_with fail
  go_at_call 10
  refine (unhide HPL _ (unhide Hb2)).mono ?_
  clear HPL
  rintro e w3 ⟨v, tv, nv, cv, rfl, hnv, hb3⟩
  have hval := hnv.val
  subst hval
  obtain ⟨ta, tc, rfl, htc, htm, HT⟩ := hnv.netI.tail.allD
  obtain ⟨na, nc, rfl, -, -⟩ := hnv.netI.next.form
  obtain ⟨ca, cc, rfl, -, -⟩ := hnv.netI.cap.form
  obtain ⟨W4, hW4⟩ : ∃ W4, W4 = w3.alloc (.cells #[.int .i64 q.n, .slice ta q.tail.length tc, .slice na q.next.length nc, .slice ca q.cap.length cc] 25) := ⟨_, rfl⟩
  obtain ⟨hBX, hs4, hTR⟩ := boxed ((unhide Hb2).trans (hb3.mono (unhide Hb2).size)) hnv.netI W4 hW4
  have HBX := hide hBX
  have HTR := hide hTR
  have Hs4 := hide hs4
  have HW4 := hide hW4
  clear hnv hb3 Hb2 hBX hTR hs4 hW4
  have hb4 : Below (w3.heap.size + 1) W4 W4 := Below.refl _ _
  have HWK := hide ((unhide HOK).walk (by omega))
  have hn0 : 1 ≤ q.n := (unhide HOK).n0
  have hn1 : q.n ≤ 100 := by have := (unhide HOK).n1; omega
  have HWs := hide (fun w' => within3_any s q.n w' (by omega) (by omega))
  have HWt := hide (fun w' => within3_any t q.n w' (by omega) (by omega))
  clear htc htm HT
  obtain ⟨x0, x1, x2, x3⟩ := (unhide HBX W4 hb4).1
  go_upto_region 4 with fail
  rw [← unhide HW4]
  generalize s % q.n = s1 at *
  generalize t % q.n = t1 at *
  go_quiet (first
    | (go_at_call_of 11 s
       exact Calls.quiet_of_same (unhide HWs _))
    | (go_at_call_of 11 t
       exact Calls.quiet_of_same (unhide HWt _)))
  have hb5 := below_dn hb4 nq
  clear x0 x1 x2 x3 hb4
  generalize W4.drewN nq = w5 at *
  cases hsh : (Sp.shared q s1 t1).2 with
  | false =>
    have hsh2 : (Sp.shared q t1 s1).2 = false := by rw [Sp.shared_comm]; exact hsh
    have HA := hide (fun w' (hb : Below (w3.heap.size + 1) W4 w') => splitNone_any q _ _ _ _ s1 t1 w' (unhide HBX w' hb).2.1 (unhide HLQ) (unhide HCk) (by omega) (by omega) hsh)
    have HB := hide (fun w' (hb : Below (w3.heap.size + 1) W4 w') => splitNone_any q _ _ _ _ t1 s1 w' (unhide HBX w' hb).2.1 (unhide HLQ) (unhide HCk) (by omega) (by omega) hsh2)
    clear hsh hsh2
    obtain ⟨x0, x1, x2, x3⟩ := (unhide HBX w5 hb5).1
    go_wp2_with fail
    go_at_call 12
    refine (unhide HA w5 hb5).mono ?_
    clear x0 x1 x2 x3
    rintro e w6 ⟨rfl, hl6⟩
    have hb6 := unhide HTR _ _ hb5 hl6
    obtain ⟨x0, x1, x2, x3⟩ := (unhide HBX w6 hb6).1
    go_wp2_with fail
    go_at_call 12
    refine (unhide HB w6 hb6).mono ?_
    clear x0 x1 x2 x3
    rintro e w7 ⟨rfl, hl7⟩
    have HF := hide (unhide HBX _ (unhide HTR _ _ hb6 hl7)).2.2.1
    clear hl6 hl7 hb5 hb6
    go_wp2
    go_loopg [20, 21, 22] 0 (fun g s20 s21 s22 wr => g = 0 ∧ s20 = .int .i64 0 ∧ s21 = .int .i64 0 ∧ s22 = .int .i64 0 ∧ wr = w7)
    case atStart => exact ⟨rfl, rfl, rfl, rfl, rfl⟩
    case round =>
      obtain ⟨-, rfl, rfl, rfl, hwr⟩ := hrel
      subst hwr
      go_wp2
      rw [unhide HP]
      exact ⟨by rfl, unhide HF⟩
  | true =>
    obtain ⟨f, d0, a, jb, hs⟩ := Sp.splitQ_of (unhide HLQ) hsh
    obtain ⟨f', d0', a', jb', hs'⟩ := Sp.splitQ_of (unhide HLQ) (s := t1) (t := s1) (by rw [Sp.shared_comm]; exact hsh)
    have hff : f' = f := by
      have h1 := hs.sh
      have h2 := hs'.sh
      rw [Sp.shared_comm, h1] at h2
      injection h2 with h2 _
      omega
    subst hff
    have hdq := unhide HDq _ _ _ _ _ _ hs
    have hh1 := hdq.halves hs
    have hh2 := hdq.halves hs'
    have HA := hide (fun w' (hb : Below (w3.heap.size + 1) W4 w') => dsplit_any q _ _ _ _ s1 t1 f' d0 a jb w' (unhide HBX w' hb).2.1 (unhide HLQ) (unhide HWK) (unhide HCk) (by omega) (by omega) hs)
    have HB := hide (fun w' (hb : Below (w3.heap.size + 1) W4 w') => dsplit_any q _ _ _ _ t1 s1 f' d0' a' jb' w' (unhide HBX w' hb).2.1 (unhide HLQ) (unhide HWK) (unhide HCk) (by omega) (by omega) hs')
    have hl60 : q.tail.length ≤ 60 := (unhide HLQ).le
    have hK60 : max (Sp.faces2 q).2 1 ≤ 1000 := by have := Sp.faces2_le q; omega
    generalize Sp.splitL q f' d0 a jb = L1 at *
    generalize Sp.splitL q f' d0' a' jb' = L2 at *
    have HH1 := hide hh1
    have HH2 := hide hh2
    clear hsh hs hs' hdq hh1 hh2 HDq
    generalize max (Sp.faces2 q).2 1 = K at *
    have hfK : f' < K := (unhide HH1).fK
    obtain ⟨x0, x1, x2, x3⟩ := (unhide HBX w5 hb5).1
    go_wp2_with fail
    go_at_call 12
    refine (unhide HA w5 hb5).mono ?_
    clear x0 x1 x2 x3 HA
    rintro e w6 ⟨O1, rfl, hO1, hl6⟩
    have hb6 := unhide HTR _ _ hb5 hl6
    obtain ⟨x0, x1, x2, x3⟩ := (unhide HBX w6 hb6).1
    go_wp2_with fail
    go_at_call 12
    refine (unhide HB w6 hb6).mono ?_
    clear x0 x1 x2 x3 HB
    rintro e w7 ⟨O2, rfl, hO2, hl7⟩
    have hb7 := unhide HTR _ _ hb6 hl7
    have HL1 : Hid (∀ w' k, Below w7.heap.size w7 w' → k < q.tail.length → w'.cell? ⟨O1, k, none⟩ = some (.int .i64 (L1.getD k 0))) := hide fun w' k hb hk => by
      have h := own_cell (own_below (own_below hO1 hl7) hb) k (by rw [(unhide HH1).len]; exact hk)
      rw [← Sp.getD_eq] at h
      exact h
    have HL2 : Hid (∀ w' k, Below w7.heap.size w7 w' → k < q.tail.length → w'.cell? ⟨O2, k, none⟩ = some (.int .i64 (L2.getD k 0))) := hide fun w' k hb hk => by
      have h := own_cell (own_below hO2 hb) k (by rw [(unhide HH2).len]; exact hk)
      rw [← Sp.getD_eq] at h
      exact h
    have HFi : Hid (∀ w', Below w7.heap.size w7 w' → Below w.heap.size w w') := hide fun w' hb => (unhide HBX _ (unhide HTR _ _ hb7 hb)).2.2.1
    have hb77 : Below w7.heap.size w7 w7 := Below.refl _ _
    clear hO1 hO2 hl6 hl7 hb5 hb6 hb7
    have e1 : (((K : Int) + 1) != ((K : Int) + 1)) = false := by simp
    have e2 : ((f' : Int) != (f' : Int)) = false := by simp
    have e3 : ((K : Int) != (K : Int)) = false := by simp
    have e4 : ((q.tail.length : Int) != (q.tail.length : Int)) = false := by simp
    go_wp2
    go_loopg [20, 21, 22] q.tail.length (fun g s20 s21 s22 wr => ∃ i n1 n2 : Nat, i + g = q.tail.length ∧ s22 = .int .i64 (i : Int) ∧ s20 = .int .i64 (n1 : Int) ∧ s21 = .int .i64 (n2 : Int) ∧ n1 ≤ i ∧ n2 ≤ i ∧ Hid ((∀ k, k < i → L1.getD k 0 = (f' : Int) → 0 < n1) ∧ (∀ k, k < i → L1.getD k 0 = (K : Int) → 0 < n2) ∧ Below w7.heap.size w7 wr))
    case atStart => exact ⟨0, 0, 0, by omega, rfl, rfl, rfl, by omega, by omega, hide ⟨fun k hk => by omega, fun k hk => by omega, hb77⟩⟩
    case round =>
      clear hb77
      obtain ⟨i, n1, n2, hig, rfl, rfl, rfl, hn1, hn2, HI⟩ := hrel
      cases gk with
      | zero =>
        obtain rfl : i = q.tail.length := by omega
        have p1 : 0 < n1 := by
          obtain ⟨k, hk, e⟩ := (unhide HH1).has1
          exact (unhide HI).1 k hk e
        have p2 : 0 < n2 := by
          obtain ⟨k, hk, e⟩ := (unhide HH1).has2
          exact (unhide HI).2.1 k hk e
        have q1 : (0 : Int) < (n1 : Int) := by omega
        have q2 : (0 : Int) < (n2 : Int) := by omega
        have HF := hide (unhide HFi _ (unhide HI).2.2)
        clear HI
        go_wp2
        rw [unhide HP]
        exact ⟨by rfl, unhide HF⟩
      | succ g' =>
        have hil : i < q.tail.length := by omega
        have hiI : (i : Int) < (q.tail.length : Int) := by omega
        have hbr := (unhide HI).2.2
        have c1 := unhide HL1 wr i hbr hil
        have c2 := unhide HL2 wr i hbr hil
        have HM1 := hide (unhide HI).1
        have HM2 := hide (unhide HI).2.1
        clear HI
        by_cases hF : (Sp.faces2 q).1.getD i 0 = (f' : Int)
        · have h1 := (unhide HH1).inn i hil hF
          have h2 := (unhide HH2).inn i hil hF
          have kf : ((K : Int) == (f' : Int)) = false := beq_eq_false_iff_ne.2 (by omega)
          have fk : ((f' : Int) == (K : Int)) = false := beq_eq_false_iff_ne.2 (by omega)
          have ff : ((f' : Int) == (f' : Int)) = true := beq_self_eq_true _
          have kk : ((K : Int) == (K : Int)) = true := beq_self_eq_true _
          have hfKI : ¬ (f' : Int) = (K : Int) := by omega
          have hfKI' : ¬ (K : Int) = (f' : Int) := by omega
          rcases h1 with hv1 | hv1
          · rw [hv1] at c1
            have HN1 : Hid (∀ k, k < i + 1 → L1.getD k 0 = (f' : Int) → 0 < n1 + 1) := hide (more_pos (unhide HM1) (by omega) fun _ => by omega)
            have HN2 : Hid (∀ k, k < i + 1 → L1.getD k 0 = (K : Int) → 0 < n2) := hide (more_pos (unhide HM2) (by omega) fun e => by rw [hv1] at e; omega)
            rcases h2 with hv2 | hv2
            · rw [hv2] at c2
              go_wp2
              go_quiet (fail)
              have hbq := below_dn hbr nq
              clear c1 c2 hbr
              generalize wr.drewN nq = wq at *
              have c1 := unhide HL1 wq i hbq hil
              rw [hv1] at c1
              go_wp2
              go_roundg g'
              case rel => exact ⟨i + 1, n1 + 1, n2, by omega, by go_num, by go_num, by go_num, by omega, by omega, hide ⟨unhide HN1, unhide HN2, hbq⟩⟩
              case measure => omega
            · rw [hv2] at c2
              go_wp2
              go_quiet (fail)
              have hbq := below_dn hbr nq
              clear c1 c2 hbr
              generalize wr.drewN nq = wq at *
              have c1 := unhide HL1 wq i hbq hil
              rw [hv1] at c1
              go_wp2
              go_roundg g'
              case rel => exact ⟨i + 1, n1 + 1, n2, by omega, by go_num, by go_num, by go_num, by omega, by omega, hide ⟨unhide HN1, unhide HN2, hbq⟩⟩
              case measure => omega
          · rw [hv1] at c1
            have HN1 : Hid (∀ k, k < i + 1 → L1.getD k 0 = (f' : Int) → 0 < n1) := hide (more_pos (unhide HM1) (by omega) fun e => by rw [hv1] at e; omega)
            have HN2 : Hid (∀ k, k < i + 1 → L1.getD k 0 = (K : Int) → 0 < n2 + 1) := hide (more_pos (unhide HM2) (by omega) fun _ => by omega)
            rcases h2 with hv2 | hv2
            · rw [hv2] at c2
              go_wp2
              go_quiet (fail)
              have hbq := below_dn hbr nq
              clear c1 c2 hbr
              generalize wr.drewN nq = wq at *
              have c1 := unhide HL1 wq i hbq hil
              rw [hv1] at c1
              go_wp2
              go_roundg g'
              case rel => exact ⟨i + 1, n1, n2 + 1, by omega, by go_num, by go_num, by go_num, by omega, by omega, hide ⟨unhide HN1, unhide HN2, hbq⟩⟩
              case measure => omega
            · rw [hv2] at c2
              go_wp2
              go_quiet (fail)
              have hbq := below_dn hbr nq
              clear c1 c2 hbr
              generalize wr.drewN nq = wq at *
              have c1 := unhide HL1 wq i hbq hil
              rw [hv1] at c1
              go_wp2
              go_roundg g'
              case rel => exact ⟨i + 1, n1, n2 + 1, by omega, by go_num, by go_num, by go_num, by omega, by omega, hide ⟨unhide HN1, unhide HN2, hbq⟩⟩
              case measure => omega
        · have hv1 := (unhide HH1).out i hil hF
          have hv2 := (unhide HH2).out i hil hF
          have hlt := (unhide HH1).lt i hil
          rw [hv1] at c1
          rw [hv2] at c2
          have HN1 : Hid (∀ k, k < i + 1 → L1.getD k 0 = (f' : Int) → 0 < n1) := hide (more_pos (unhide HM1) (by omega) fun e => by rw [hv1] at e; exact absurd e hF)
          have HN2 : Hid (∀ k, k < i + 1 → L1.getD k 0 = (K : Int) → 0 < n2) := hide (more_pos (unhide HM2) (by omega) fun e => by rw [hv1] at e; omega)
          generalize (Sp.faces2 q).1.getD i 0 = z at *
          have zf : (z == (f' : Int)) = false := beq_eq_false_iff_ne.2 hF
          have zk : (z == (K : Int)) = false := beq_eq_false_iff_ne.2 (by omega)
          have zkI : ¬ z = (K : Int) := by omega
          go_wp2
          go_quiet (fail)
          have hbq := below_dn hbr nq
          clear c1 c2 hbr
          generalize wr.drewN nq = wq at *
          have c1 := unhide HL1 wq i hbq hil
          rw [hv1] at c1
          go_wp2
          go_roundg g'
          case rel => exact ⟨i + 1, n1, n2, by omega, by go_num, by go_num, by go_num, by omega, by omega, hide ⟨unhide HN1, unhide HN2, hbq⟩⟩
          case measure => omega
end Go.Proofs.Ytcdpgiklmonabab


/- The law DualHalves, walked. -/
namespace Go.Proofs.Ytcdpgiklmonabab
open Go Go.RowKit

set_option maxRecDepth 100000 in
set_option maxHeartbeats 4000000 in
theorem dualHalves_any (ns : List Int) (x : Value) (s t : Int) (w : World) (hx : Ints w x ns) :
    Calls Try.prog 3 #[x, .int .i64 s, .int .i64 t] w fun e w' => e = .returned (.bool true) ∧ Below w.heap.size w w' := by
  obtain ⟨a, c, rfl, hc, hm⟩ := hx.form
  have HPL := hide (fun w' (hb : Below w.heap.size w w') => plane_any ns (.slice a ns.length c) w' (hx.below hb))
  have HOK := hide (Sp.plane_ok ns)
  have HLQ := hide (Sp.linkQ_plane ns)
  have HCk := hide (Sp.check_plane ns)
  have HDq := hide (fun (s t : Int) f d0 a jb (h : Sp.SplitQ (Sp.plane ns) s t f d0 a jb) => h.dual)
  generalize Sp.plane ns = q at *
  generalize ns.length = n at *
  clear hx
  obtain ⟨P, hP⟩ : ∃ P : Ending → World → Prop, P = fun e w' => e = .returned (.bool true) ∧ Below w.heap.size w w' := ⟨_, rfl⟩
  rw [← hP]
  have HP := hide hP
  clear hP
  go_enter Try.func3, Try.ntmps3
  go_wp2_with fail
  go_at_call 9
  refine (known3_any w).mono ?_
  rintro e w2 ⟨rfl, hb2⟩
  have Hb2 := hide hb2
  clear hb2
  go_wp2_with fail
  go_at_call 10
  refine (unhide HPL _ (unhide Hb2)).mono ?_
  clear HPL
  rintro e w3 ⟨v, tv, nv, cv, rfl, hnv, hb3⟩
  have hval := hnv.val
  subst hval
  obtain ⟨ta, tc, rfl, htc, htm, HT⟩ := hnv.netI.tail.allD
  obtain ⟨na, nc, rfl, -, -⟩ := hnv.netI.next.form
  obtain ⟨ca, cc, rfl, -, -⟩ := hnv.netI.cap.form
  obtain ⟨W4, hW4⟩ : ∃ W4, W4 = w3.alloc (.cells #[.int .i64 q.n, .slice ta q.tail.length tc, .slice na q.next.length nc, .slice ca q.cap.length cc] 25) := ⟨_, rfl⟩
  obtain ⟨hBX, hs4, hTR⟩ := boxed ((unhide Hb2).trans (hb3.mono (unhide Hb2).size)) hnv.netI W4 hW4
  have HBX := hide hBX
  have HTR := hide hTR
  have Hs4 := hide hs4
  have HW4 := hide hW4
  clear hnv hb3 Hb2 hBX hTR hs4 hW4
  have hb4 : Below (w3.heap.size + 1) W4 W4 := Below.refl _ _
  have HWK := hide ((unhide HOK).walk (by omega))
  have hn0 : 1 ≤ q.n := (unhide HOK).n0
  have hn1 : q.n ≤ 100 := by have := (unhide HOK).n1; omega
  have HWs := hide (fun w' => within3_any s q.n w' (by omega) (by omega))
  have HWt := hide (fun w' => within3_any t q.n w' (by omega) (by omega))
  have HFc := hide (fun w' (hb : Below (w3.heap.size + 1) W4 w') => faces2_any q _ _ _ _ w' (unhide HBX w' hb).2.1 (unhide HLQ).nx (by have := (unhide HLQ).le; omega) (unhide HLQ).ev (unhide HLQ).pm)
  have HShc := hide (fun (s t : Int) w' (hb : Below (w3.heap.size + 1) W4 w') => shared_any q _ _ _ _ s t w' (unhide HBX w' hb).2.1 (unhide HLQ) (unhide HCk) (by omega) (by omega))
  have HFl := hide (Sp.faces2_len q)
  clear htc htm
  obtain ⟨x0, x1, x2, x3⟩ := (unhide HBX W4 hb4).1
  go_upto_region 4 with fail
  rw [← unhide HW4]
  generalize s % q.n = s1 at *
  generalize t % q.n = t1 at *
  go_quiet (first
    | (go_at_call_of 11 s
       exact Calls.quiet_of_same (unhide HWs _))
    | (go_at_call_of 11 t
       exact Calls.quiet_of_same (unhide HWt _)))
  have hb5 := below_dn hb4 nq
  clear x0 x1 x2 x3 hb4
  generalize W4.drewN nq = w5 at *
  cases hsh : (Sp.shared q s1 t1).2 with
  | false =>
    have HA := hide (fun w' (hb : Below (w3.heap.size + 1) W4 w') => splitNone_any q _ _ _ _ s1 t1 w' (unhide HBX w' hb).2.1 (unhide HLQ) (unhide HCk) (by omega) (by omega) hsh)
    have HS1 := hide (unhide HShc s1 t1)
    rw [hsh] at HS1
    generalize (Sp.shared q s1 t1).1 = g0 at *
    clear hsh HT HDq
    obtain ⟨x0, x1, x2, x3⟩ := (unhide HBX w5 hb5).1
    go_wp2_with fail
    go_at_call 12
    refine (unhide HA w5 hb5).mono ?_
    clear x0 x1 x2 x3
    rintro e w6 ⟨rfl, hl6⟩
    have hb6 := unhide HTR _ _ hb5 hl6
    obtain ⟨x0, x1, x2, x3⟩ := (unhide HBX w6 hb6).1
    go_wp2_with fail
    go_at_call 13
    refine (unhide HFc w6 hb6).mono ?_
    clear x0 x1 x2 x3
    rintro e w7 ⟨fv, rfl, hf7, hl7⟩
    have hb7 := unhide HTR _ _ hb6 hl7
    obtain ⟨fa, fc, rfl, -, -⟩ := hf7.ints.form
    clear hf7 hl7 hl6 hb5 hb6
    obtain ⟨x0, x1, x2, x3⟩ := (unhide HBX w7 hb7).1
    go_wp2_with fail
    go_at_call 14
    refine (unhide HS1 w7 hb7).mono ?_
    clear x0 x1 x2 x3
    rintro e w8 ⟨rfl, hl8⟩
    have HF := hide (unhide HBX _ (unhide HTR _ _ hb7 hl8)).2.2.1
    clear hl8 hb7
    go_wp2
    rw [unhide HP]
    exact ⟨by rfl, unhide HF⟩
  | true =>
    obtain ⟨f, d0, a, jb, hs⟩ := Sp.splitQ_of (unhide HLQ) hsh
    have hdq := unhide HDq _ _ _ _ _ _ hs
    have hh1 := hdq.halves hs
    have HA := hide (fun w' (hb : Below (w3.heap.size + 1) W4 w') => dsplit_any q _ _ _ _ s1 t1 f d0 a jb w' (unhide HBX w' hb).2.1 (unhide HLQ) (unhide HWK) (unhide HCk) (by omega) (by omega) hs)
    have hl60 : q.tail.length ≤ 60 := (unhide HLQ).le
    have hK60 : max (Sp.faces2 q).2 1 ≤ 1000 := by have := Sp.faces2_le q; omega
    generalize Sp.splitL q f d0 a jb = L at *
    have HH1 := hide hh1
    have HMp := hide hdq.mp
    have HNg : Hid (∀ d, d < q.tail.length → q.next.getD (Sp.oth d) 0 = ((Sp.fn (Sp.behindL q.next) d : Nat) : Int) ∧ Sp.oth d < q.next.length) := hide fun d hd => by
      have ho : Sp.oth d < q.next.length := by rw [(unhide HLQ).nx]; exact oth_lt hd (unhide HLQ).ev
      refine ⟨?_, ho⟩
      have hb := (unhide HLQ).pm.bd _ (Sp.getD_mem (l := q.next) ho)
      unfold Sp.fn
      rw [Sp.behindL_get _ _ (by rw [(unhide HLQ).nx]; exact hd)]
      omega
    clear hsh hs hdq hh1 HDq HShc
    generalize max (Sp.faces2 q).2 1 = K at *
    have hfK : f < K := (unhide HH1).fK
    obtain ⟨x0, x1, x2, x3⟩ := (unhide HBX w5 hb5).1
    go_wp2_with fail
    go_at_call 12
    refine (unhide HA w5 hb5).mono ?_
    clear x0 x1 x2 x3 HA
    rintro e w6 ⟨O1, rfl, hO1, hl6⟩
    have hb6 := unhide HTR _ _ hb5 hl6
    obtain ⟨x0, x1, x2, x3⟩ := (unhide HBX w6 hb6).1
    go_wp2_with fail
    go_at_call 13
    refine (unhide HFc w6 hb6).mono ?_
    clear x0 x1 x2 x3 HFc
    rintro e w7 ⟨fv, rfl, hf7, hl7⟩
    have hb7 := unhide HTR _ _ hb6 hl7
    obtain ⟨fa, fc, hve, -, -, HFa⟩ := hf7.ints.allD
    rw [unhide HFl] at hve
    subst hve
    rw [unhide HFl] at HFa
    have HL1 : Hid (∀ w' k, Below w7.heap.size w7 w' → k < q.tail.length → w'.cell? ⟨O1, k, none⟩ = some (.int .i64 (L.getD k 0))) := hide fun w' k hb hk => by
      have h := own_cell (own_below (own_below hO1 hl7) hb) k (by rw [(unhide HH1).len]; exact hk)
      rw [← Sp.getD_eq] at h
      exact h
    have HFt : Hid (∀ w' k, Below w7.heap.size w7 w' → k < q.tail.length → ∃ b o, fa = some ⟨b, o, none⟩ ∧ w'.cell? ⟨b, o + k, none⟩ = some (.int .i64 ((Sp.faces2 q).1.getD k 0))) := hide fun w' k hb hk => by
      obtain ⟨b, o, e1, -, e2⟩ := unhide HFa k hk
      exact ⟨b, o, e1, e2 w' hb⟩
    have HTt : Hid (∀ w' k, Below w7.heap.size w7 w' → k < q.tail.length → ∃ b o, ta = some ⟨b, o, none⟩ ∧ w'.cell? ⟨b, o + k, none⟩ = some (.int .i64 (q.tail.getD k 0))) := hide fun w' k hb hk => by
      obtain ⟨b, o, e1, -, e2⟩ := unhide HT k hk
      exact ⟨b, o, e1, e2 w' (unhide HBX w' (unhide HTR _ _ hb7 hb)).2.2.2.2⟩
    obtain ⟨na', nc', hne, -, -, HNa⟩ := (unhide HBX w7 hb7).2.1.next.allD
    injection hne with hne1 hne2 hne3
    subst hne1 hne3
    have HNt : Hid (∀ w' k, Below w7.heap.size w7 w' → k < q.next.length → ∃ b o, na = some ⟨b, o, none⟩ ∧ w'.cell? ⟨b, o + k, none⟩ = some (.int .i64 (q.next.getD k 0))) := hide fun w' k hb hk => by
      obtain ⟨b, o, e1, -, e2⟩ := unhide HNa k hk
      exact ⟨b, o, e1, e2 w' hb⟩
    have HXt := hide (fun w' (hb : Below w7.heap.size w7 w') => (unhide HBX _ (unhide HTR _ _ hb7 hb)).1)
    have HFi : Hid (∀ w', Below w7.heap.size w7 w' → Below w.heap.size w w') := hide fun w' hb => (unhide HBX _ (unhide HTR _ _ hb7 hb)).2.2.1
    have hb77 : Below w7.heap.size w7 w7 := Below.refl _ _
    clear hO1 hf7 hl6 hl7 hb5 hb6 hb7 HFa HT HNa
    have hkw : IntKind.i64.wrap ((K : Int) + 1) = (K : Int) + 1 := by rw [IntKind.wrap_i64]; omega
    have e1 : (((K : Int) + 1) != ((K : Int) + 1)) = false := by simp
    have e3 : ((K : Int) != (K : Int)) = false := by simp
    have e4 : ((q.tail.length : Int) != (q.tail.length : Int)) = false := by simp
    have HC0 := hide (unhide HH1).turns
    have HCs := hide (fun i => Sp.cnt_succ (fun d => L.getD d 0 != L.getD (Sp.fn (Sp.behindL q.next) d) 0) i)
    have HCl := hide (fun i => Sp.cnt_le (fun d => L.getD d 0 != L.getD (Sp.fn (Sp.behindL q.next) d) 0) i)
    have HCz : Hid (Sp.cnt (fun d => L.getD d 0 != L.getD (Sp.fn (Sp.behindL q.next) d) 0) 0 = 0) := hide rfl
    generalize Sp.cnt (fun d => L.getD d 0 != L.getD (Sp.fn (Sp.behindL q.next) d) 0) = C at *
    go_wp2
    go_loopg [19, 20] q.tail.length (fun g s19 s20 wr => ∃ i : Nat, i + g = q.tail.length ∧ s20 = .int .i64 (i : Int) ∧ s19 = .int .i64 ((C i : Nat) : Int) ∧ Hid (Below w7.heap.size w7 wr))
    case atStart => exact ⟨0, by omega, rfl, by rw [unhide HCz]; rfl, hide hb77⟩
    case round =>
      clear hb77
      obtain ⟨i, hig, rfl, rfl, HI⟩ := hrel
      cases gk with
      | zero =>
        obtain rfl : i = q.tail.length := by omega
        rw [unhide HC0]
        have HF := hide (unhide HFi _ (unhide HI))
        clear HI
        go_wp2
        rw [unhide HP]
        exact ⟨by rfl, unhide HF⟩
      | succ g' =>
        have hil : i < q.tail.length := by omega
        have hiI : (i : Int) < (q.tail.length : Int) := by omega
        have hci := unhide HCl i
        have hcs := unhide HCs i
        generalize hCi : C i = ci at *
        clear hCi
        go_upto_region 16 with fail
        go_cut [131] (fun s131 wx => s131 = .bool false ∧ Hid (Below w7.heap.size w7 wx))
        case first =>
          have hbr := unhide HI
          have c1 := unhide HL1 wr i hbr hil
          obtain ⟨fb, f0, rfl, c2⟩ := unhide HFt wr i hbr hil
          by_cases hF : (Sp.faces2 q).1.getD i 0 = (f : Int)
          · rw [hF] at c2
            have kf : ((K : Int) != (f : Int)) = true := by simpa using (show ¬ (K : Int) = (f : Int) by omega)
            have ff : ((f : Int) != (f : Int)) = false := by simp
            have ff2 : ((f : Int) == (f : Int)) = true := beq_self_eq_true _
            rcases (unhide HH1).inn i hil hF with hv1 | hv1
            · rw [hv1] at c1
              go_quiet (fail)
              go_wp2
              go_meet
              exact ⟨rfl, hide (below_dn hbr _)⟩
            · rw [hv1] at c1
              go_quiet (fail)
              go_wp2
              go_meet
              exact ⟨rfl, hide (below_dn hbr _)⟩
          · have hv1 := (unhide HH1).out i hil hF
            rw [hv1] at c1
            generalize (Sp.faces2 q).1.getD i 0 = z at *
            have zf : (z != (f : Int)) = true := by simpa using hF
            have zf2 : (z == (f : Int)) = false := beq_eq_false_iff_ne.2 hF
            have zz : (z != z) = false := by simp
            go_quiet (fail)
            go_wp2
            go_meet
            exact ⟨rfl, hide (below_dn hbr _)⟩
        case rest =>
          obtain ⟨wA, rfl⟩ : ∃ wA, wA = wc := ⟨_, rfl⟩
          obtain ⟨rfl, HIA⟩ := hcut
          clear HI
          have hbr := unhide HIA
          have c1 := unhide HL1 wA i hbr hil
          have hng := unhide HNg i hil
          have hX := xor_oth ⟨i, by omega⟩
          simp only at hX
          have hel := unhide HMp i hil
          obtain ⟨nb, n0, rfl, c3⟩ := unhide HNt wA (Sp.oth i) hbr hng.2
          rw [hng.1] at c3
          have c4 := unhide HL1 wA (Sp.fn (Sp.behindL q.next) i) hbr hel
          have hst := (unhide HH1).step i hil
          have hoI : ((Sp.oth i : Nat) : Int) < (q.next.length : Int) := by have := hng.2; omega
          generalize Sp.oth i = oi at *
          generalize Sp.fn (Sp.behindL q.next) i = ei at *
          have heI : (ei : Int) < (q.tail.length : Int) := by omega
          obtain ⟨x0, x1, x2, x3⟩ := unhide HXt wA hbr
          clear hng x0 x3
          generalize L.getD i 0 = l1 at *
          by_cases hl : l1 = L.getD ei 0
          · rw [← hl] at c4 hcs
            have e5 : (l1 == l1) = true := beq_self_eq_true _
            have HN : Hid (C (i + 1) = ci) := hide (by rw [hcs]; simp)
            clear hst hcs
            go_wp2
            go_quiet (fail)
            have hbq := below_dn hbr nq
            clear c1 c3 c4 x1 x2 hbr
            generalize wA.drewN nq = wq at *
            go_wp2
            go_roundg g'
            case rel => exact ⟨i + 1, by omega, by go_num, by rw [unhide HN], hide hbq⟩
            case measure => omega
          · have HN : Hid (C (i + 1) = ci + 1) := hide (by rw [hcs, if_pos (by simpa using hl)])
            obtain ⟨tb, t0, rfl, -⟩ := unhide HTt wA ei hbr hel
            have HCe : Hid (∀ w', Below w7.heap.size w7 w' → w'.cell? ⟨tb, t0 + ei, none⟩ = some (.int .i64 (q.tail.getD ei 0)) ∧ w'.cell? ⟨O1, ei, none⟩ = some (.int .i64 (L.getD ei 0))) := hide fun w' hb => by
              obtain ⟨b, o, e1, e2⟩ := unhide HTt w' ei hb hel
              injection e1 with e1
              injection e1 with e1 e1'
              subst e1 e1'
              exact ⟨e2, unhide HL1 w' ei hb hel⟩
            have kf : ((K : Int) == (f : Int)) = false := beq_eq_false_iff_ne.2 (by omega)
            have fk : ((f : Int) == (K : Int)) = false := beq_eq_false_iff_ne.2 (by omega)
            have ff : ((f : Int) == (f : Int)) = true := beq_self_eq_true _
            have kk : ((K : Int) == (K : Int)) = true := beq_self_eq_true _
            have ss : (s1 != s1) = false := by simp
            have tt : (t1 != t1) = false := by simp
            have hciI : ci ≤ 60 := by omega
            rcases hst with h | h | h
            · exact absurd h hl
            · rw [h.1] at c4 hl
              rw [h.1, h.2] at HCe
              have e5 : (l1 == (K : Int)) = false := beq_eq_false_iff_ne.2 hl
              clear hcs h
              go_wp2
              go_quiet (fail)
              have hbq := below_dn hbr nq
              clear c1 c3 c4 x1 x2 hbr
              generalize wA.drewN nq = wq at *
              obtain ⟨c5, c6⟩ := unhide HCe wq hbq
              have x1 := (unhide HXt wq hbq).2.1
              go_wp2
              go_roundg g'
              case rel => exact ⟨i + 1, by omega, by go_num, by rw [unhide HN]; go_num, hide hbq⟩
              case measure => omega
            · rw [h.1] at c4 hl
              rw [h.1, h.2] at HCe
              have e5 : (l1 == (f : Int)) = false := beq_eq_false_iff_ne.2 hl
              clear hcs h
              go_wp2
              go_quiet (fail)
              have hbq := below_dn hbr nq
              clear c1 c3 c4 x1 x2 hbr
              generalize wA.drewN nq = wq at *
              obtain ⟨c5, c6⟩ := unhide HCe wq hbq
              have x1 := (unhide HXt wq hbq).2.1
              go_wp2
              go_roundg g'
              case rel => exact ⟨i + 1, by omega, by go_num, by rw [unhide HN]; go_num, hide hbq⟩
              case measure => omega
end Go.Proofs.Ytcdpgiklmonabab


