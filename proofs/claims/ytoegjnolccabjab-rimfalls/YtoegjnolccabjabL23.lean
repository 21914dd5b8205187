/- What the proof needs, part 23. -/
import Derived.Test.YtoegjnolccabjabL22
/- The law RimFalls, walked. -/
namespace Go.Proofs.Ytoegjnolccabjab
open Go Go.RowKit

set_option maxRecDepth 100000 in
set_option maxHeartbeats 4000000 in
theorem rimFalls_any (ns : List Int) (x : Value) (s t : Int) (w : World) (hx : Ints w x ns) :
    Calls Try.prog 5 #[x, .int .i64 s, .int .i64 t] w fun e w' => e = .returned (.bool true) ∧ Below w.heap.size w w' := by
  obtain ⟨a, c, rfl, hc, hm⟩ := hx.form
  have HPL := hide (fun w' (hb : Below w.heap.size w w') => plane_any ns (.slice a ns.length c) w' (hx.below hb))
  have HOK := hide (Sp.plane_ok ns)
  have HLQ := hide (Sp.linkQ_plane ns)
  have HCk := hide (Sp.check_plane ns)
  have HRQ := hide (Sp.rimQ_plane ns)
  have HDQ := hide (Sp.dualQ_pos ns)
  generalize Sp.plane ns = q at *
  generalize ns.length = n at *
  clear hx
  obtain ⟨P, hP⟩ : ∃ P : Ending → World → Prop, P = fun e w' => e = .returned (.bool true) ∧ Below w.heap.size w w' := ⟨_, rfl⟩
  rw [← hP]
  have HP := hide hP
  clear hP
  go_enter Try.func5, Try.ntmps5
  go_wp2_with fail
  go_at_call 7
  refine (known8_any w).mono ?_
  rintro e w2 ⟨rfl, hb2⟩
  have Hb2 := hide hb2
  clear hb2
  go_wp2_with fail
  go_at_call 10
  refine (unhide HPL _ (unhide Hb2)).mono ?_
  clear HPL
  rintro e w3 ⟨v, tv, nv, cv, rfl, hnv, hb3⟩
  have hval := hnv.val
  subst hval
  obtain ⟨ta, tc, rfl, htc, htm, HT⟩ := hnv.netI.tail.allD
  obtain ⟨na, nc, rfl, -, -⟩ := hnv.netI.next.form
  obtain ⟨ca, cc, rfl, -, -⟩ := hnv.netI.cap.form
  obtain ⟨W4, hW4⟩ : ∃ W4, W4 = w3.alloc (.cells #[.int .i64 q.n, .slice ta q.tail.length tc, .slice na q.next.length nc, .slice ca q.cap.length cc] 26) := ⟨_, rfl⟩
  obtain ⟨hBX, hs4, hTR⟩ := boxed ((unhide Hb2).trans (hb3.mono (unhide Hb2).size)) hnv.netI W4 hW4
  have HBX := hide hBX
  have HTR := hide hTR
  have Hs4 := hide hs4
  have HW4 := hide hW4
  clear hnv hb3 Hb2 hBX hTR hs4 hW4
  have hb4 : Below (w3.heap.size + 1) W4 W4 := Below.refl _ _
  have HWK := hide ((unhide HOK).walk (by omega))
  have hn0 : 1 ≤ q.n := (unhide HOK).n0
  have hn1 : q.n ≤ 100 := by have := (unhide HOK).n1; omega
  have hs0 : 0 ≤ s % q.n := Int.emod_nonneg s (by omega)
  have hs1 : s % q.n < q.n := Int.emod_lt_of_pos s (by omega)
  have ht0 : 0 ≤ t % q.n := Int.emod_nonneg t (by omega)
  have ht1 : t % q.n < q.n := Int.emod_lt_of_pos t (by omega)
  have HWs := hide (fun w' => within8_any s q.n w' (by omega) (by omega))
  have HWt := hide (fun w' => within8_any t q.n w' (by omega) (by omega))
  have HC := hide (Sp.rimE_cases (unhide HRQ) ⟨hs0, hs1⟩ ⟨ht0, ht1⟩)
  generalize s % q.n = s1 at *
  generalize t % q.n = t1 at *
  have HD := hide (fun w' (hb : Below (w3.heap.size + 1) W4 w') => rmflow_any q _ _ _ _ s1 t1 w' (unhide HBX w' hb).2.1 (unhide HRQ))
  go_upto_region 4 with fail
  rw [← unhide HW4]
  go_cut [8, 9, 10] (fun s8 s9 s10 w' => ∃ (x : Int) (P1 L1 : List Int), s9 = .int .i64 x ∧ s10 = .int .i64 (Sp.rimE q s1 t1) ∧ Hid (OwnI w' (w3.heap.size + 1) s8 L1 ∧ Sp.RimIs q s1 t1 P1 L1 x ∧ Below (w3.heap.size + 1) W4 w'))
  case first =>
    have hbq : Below (w3.heap.size + 1) W4 W4.drew := hb4.drew
    refine wp_region_G (fun w' => w'.cell? ⟨w3.heap.size, 0, none⟩ = some (.int .i64 q.n) ∧ w'.cell? ⟨w3.heap.size, 1, none⟩ = some (.slice ta q.tail.length tc) ∧ w'.cell? ⟨w3.heap.size, 2, none⟩ = some (.slice na q.next.length nc) ∧ w'.cell? ⟨w3.heap.size, 3, none⟩ = some (.slice ca q.cap.length cc)) (fun _ => false) (by kernel_rfl) (unhide HBX _ hbq).1 (fun hHeld => ?_)
    generalize W4.drew = wq at *
    refine wpAnyG_take (v := ?_) 0 (by rfl) (by kernel_rfl) (by kernel_rfl) (by kernel_rfl) (by kernel_rfl) (fun _ _ _ h => h) (Or.inl ⟨by rfl, ?_⟩) (by assumption) ?_
    rotate_left
    · (intro w' hSw; (try dsimp only at hSw); (try simp only [List.getElem_toArray, List.getElem_cons_zero]); go_simp; try (with_reducible rfl))
    simp only [Act.put, List.getElem_toArray, List.getElem_cons_zero, List.setIfInBounds_toArray, List.set_cons_zero, List.set_cons_succ]
    refine wpAnyG_take (v := ?_) 1 (by rfl) (by kernel_rfl) (by kernel_rfl) (by kernel_rfl) (by kernel_rfl) (fun _ _ _ h => h) (Or.inl ⟨by rfl, ?_⟩) (by assumption) ?_
    rotate_left
    · (intro w' hSw; (try dsimp only at hSw); (try simp only [List.getElem_toArray, List.getElem_cons_succ, List.getElem_cons_zero]); go_simp; try (with_reducible rfl))
    simp only [Act.put, List.getElem_toArray, List.getElem_cons_succ, List.getElem_cons_zero, List.setIfInBounds_toArray, List.set_cons_zero, List.set_cons_succ]
    refine wpAnyG_take (v := ?_) 2 (by rfl) (by kernel_rfl) (by kernel_rfl) (by kernel_rfl) (by kernel_rfl) (fun _ _ _ h => h) (Or.inl ⟨by rfl, ?_⟩) (by assumption) ?_
    rotate_left
    · (intro w' hSw; (try dsimp only at hSw); (try simp only [List.getElem_toArray, List.getElem_cons_succ, List.getElem_cons_zero]); go_simp; try (with_reducible rfl))
    simp only [Act.put, List.getElem_toArray, List.getElem_cons_succ, List.getElem_cons_zero, List.setIfInBounds_toArray, List.set_cons_zero, List.set_cons_succ]
    refine wpAnyG_take (v := ?_) 3 (by rfl) (by kernel_rfl) (by kernel_rfl) (by kernel_rfl) (by kernel_rfl) (fun _ _ _ h => h) (Or.inl ⟨by rfl, ?_⟩) (by assumption) ?_
    rotate_left
    · (intro w' hSw; (try dsimp only at hSw); (try simp only [List.getElem_toArray, List.getElem_cons_succ, List.getElem_cons_zero]); go_simp; try (with_reducible rfl))
    simp only [Act.put, List.getElem_toArray, List.getElem_cons_succ, List.getElem_cons_zero, List.setIfInBounds_toArray, List.set_cons_zero, List.set_cons_succ]
    refine wpAnyG_take (v := ?_) 5 (by rfl) (by kernel_rfl) (by kernel_rfl) (by kernel_rfl) (by kernel_rfl) (fun _ _ _ h => h) (Or.inl ⟨by rfl, ?_⟩) (by assumption) ?_
    rotate_left
    · (intro w' hSw; (try dsimp only at hSw); (try simp only [List.getElem_toArray, List.getElem_cons_succ, List.getElem_cons_zero]); go_simp; try (with_reducible rfl))
    simp only [Act.put, List.getElem_toArray, List.getElem_cons_succ, List.getElem_cons_zero, List.setIfInBounds_toArray, List.set_cons_zero, List.set_cons_succ]
    refine wpAnyG_take (v := ?_) 6 (by rfl) (by kernel_rfl) (by kernel_rfl) (by kernel_rfl) (by kernel_rfl) (fun _ _ _ h => h) (Or.inl ⟨by rfl, ?_⟩) (by assumption) ?_
    rotate_left
    · (intro w' hSw; (try dsimp only at hSw); (try simp only [List.getElem_toArray, List.getElem_cons_succ, List.getElem_cons_zero]); go_simp; try (with_reducible rfl))
    simp only [Act.put, List.getElem_toArray, List.getElem_cons_succ, List.getElem_cons_zero, List.setIfInBounds_toArray, List.set_cons_zero, List.set_cons_succ]
    refine wpAnyG_take (v := ?_) 7 (by rfl) (by kernel_rfl) (by kernel_rfl) (by kernel_rfl) (by kernel_rfl) (fun _ _ _ h => h) (Or.inl ⟨by rfl, ?_⟩) (by assumption) ?_
    rotate_left
    · (intro w' hSw; (try dsimp only at hSw); (try simp only [List.getElem_toArray, List.getElem_cons_succ, List.getElem_cons_zero]); go_simp; try (with_reducible rfl))
    simp only [Act.put, List.getElem_toArray, List.getElem_cons_succ, List.getElem_cons_zero, List.setIfInBounds_toArray, List.set_cons_zero, List.set_cons_succ]
    refine wpAnyG_ready [4] (by kernel_rfl) (by simp) ?_
    refine AllReadyG.cons 4 (by rfl) (fun K hK => ?_) ?_
    · simp only [List.getElem_toArray, List.getElem_cons_succ, List.getElem_cons_zero]
      go_simp
      go_at_call 8
      refine (unhide HWs _).mono ?_
      rintro e wc1 ⟨rfl, hlc1⟩
      have hlc1' := hlc1.symm
      clear hlc1
      subst hlc1'
      refine hK.out _ _ (unhide HBX _ hbq).1 (fun _ => ?_)
      clear hK K
      try simp only [Act.put, List.setIfInBounds_toArray, List.set_cons_zero, List.set_cons_succ]
      refine wpAnyG_ready [8] (by kernel_rfl) (by simp) ?_
      refine AllReadyG.cons 8 (by rfl) (fun K hK => ?_) ?_
      · simp only [List.getElem_toArray, List.getElem_cons_succ, List.getElem_cons_zero]
        go_simp
        go_at_call 8
        refine (unhide HWt _).mono ?_
        rintro e wc2 ⟨rfl, hlc2⟩
        have hlc2' := hlc2.symm
        clear hlc2
        subst hlc2'
        refine hK.out _ _ (unhide HBX _ hbq).1 (fun _ => ?_)
        clear hK K
        try simp only [Act.put, List.setIfInBounds_toArray, List.set_cons_zero, List.set_cons_succ]
        refine wpAnyG_ready [9] (by kernel_rfl) (by simp) ?_
        refine AllReadyG.cons 9 (by rfl) (fun K hK => ?_) ?_
        · simp only [List.getElem_toArray, List.getElem_cons_succ, List.getElem_cons_zero]
          go_simp
          go_at_call 9
          refine (unhide HD _ hbq).mono ?_
          rintro e wc3 ⟨lv, P1, L1, x9, rfl, hO, hR, hlc3⟩
          have hbc3 := unhide HTR _ _ hbq hlc3
          refine hK.out _ _ (unhide HBX _ hbc3).1 (fun _ => ?_)
          clear hK K
          try simp only [Act.put, List.setIfInBounds_toArray, List.set_cons_zero, List.set_cons_succ]
          refine wpAnyG_take (v := ?_) 10 (by rfl) (by kernel_rfl) (by kernel_rfl) (by kernel_rfl) (by kernel_rfl) (fun _ _ _ h => h) (Or.inl ⟨by rfl, ?_⟩) (by assumption) ?_
          rotate_left
          · (intro w' hSw; (try dsimp only at hSw); (try simp only [List.getElem_toArray, List.getElem_cons_succ, List.getElem_cons_zero]); go_simp; try (with_reducible rfl))
          simp only [Act.put, List.getElem_toArray, List.getElem_cons_succ, List.getElem_cons_zero, List.setIfInBounds_toArray, List.set_cons_zero, List.set_cons_succ]
          refine wpAnyG_take (v := ?_) 11 (by rfl) (by kernel_rfl) (by kernel_rfl) (by kernel_rfl) (by kernel_rfl) (fun _ _ _ h => h) (Or.inl ⟨by rfl, ?_⟩) (by assumption) ?_
          rotate_left
          · (intro w' hSw; (try dsimp only at hSw); (try simp only [List.getElem_toArray, List.getElem_cons_succ, List.getElem_cons_zero]); go_simp; try (with_reducible rfl))
          simp only [Act.put, List.getElem_toArray, List.getElem_cons_succ, List.getElem_cons_zero, List.setIfInBounds_toArray, List.set_cons_zero, List.set_cons_succ]
          refine wpAnyG_take (v := ?_) 12 (by rfl) (by kernel_rfl) (by kernel_rfl) (by kernel_rfl) (by kernel_rfl) (fun _ _ _ h => h) (Or.inl ⟨by rfl, ?_⟩) (by assumption) ?_
          rotate_left
          · (intro w' hSw; (try dsimp only at hSw); (try simp only [List.getElem_toArray, List.getElem_cons_succ, List.getElem_cons_zero]); go_simp; try (with_reducible rfl))
          simp only [Act.put, List.getElem_toArray, List.getElem_cons_succ, List.getElem_cons_zero, List.setIfInBounds_toArray, List.set_cons_zero, List.set_cons_succ]
          refine wpAnyG_take (v := ?_) 13 (by rfl) (by kernel_rfl) (by kernel_rfl) (by kernel_rfl) (by kernel_rfl) (fun _ _ _ h => h) (Or.inl ⟨by rfl, ?_⟩) (by assumption) ?_
          rotate_left
          · (intro w' hSw; (try dsimp only at hSw); (try simp only [List.getElem_toArray, List.getElem_cons_succ, List.getElem_cons_zero]); go_simp; try (with_reducible rfl))
          simp only [Act.put, List.getElem_toArray, List.getElem_cons_succ, List.getElem_cons_zero, List.setIfInBounds_toArray, List.set_cons_zero, List.set_cons_succ]
          refine wpAnyG_take (v := ?_) 14 (by rfl) (by kernel_rfl) (by kernel_rfl) (by kernel_rfl) (by kernel_rfl) (fun _ _ _ h => h) (Or.inl ⟨by rfl, ?_⟩) (by assumption) ?_
          rotate_left
          · (intro w' hSw; (try dsimp only at hSw); (try simp only [List.getElem_toArray, List.getElem_cons_succ, List.getElem_cons_zero]); go_simp; try (with_reducible rfl))
          simp only [Act.put, List.getElem_toArray, List.getElem_cons_succ, List.getElem_cons_zero, List.setIfInBounds_toArray, List.set_cons_zero, List.set_cons_succ]
          refine wpAnyG_take (v := ?_) 15 (by rfl) (by kernel_rfl) (by kernel_rfl) (by kernel_rfl) (by kernel_rfl) (fun _ _ _ h => h) (Or.inl ⟨by rfl, ?_⟩) (by assumption) ?_
          rotate_left
          · (intro w' hSw; (try dsimp only at hSw); (try simp only [List.getElem_toArray, List.getElem_cons_succ, List.getElem_cons_zero]); go_simp; try (with_reducible rfl))
          simp only [Act.put, List.getElem_toArray, List.getElem_cons_succ, List.getElem_cons_zero, List.setIfInBounds_toArray, List.set_cons_zero, List.set_cons_succ]
          refine wpAnyG_take (v := ?_) 16 (by rfl) (by kernel_rfl) (by kernel_rfl) (by kernel_rfl) (by kernel_rfl) (fun _ _ _ h => h) (Or.inl ⟨by rfl, ?_⟩) (by assumption) ?_
          rotate_left
          · (intro w' hSw; (try dsimp only at hSw); (try simp only [List.getElem_toArray, List.getElem_cons_succ, List.getElem_cons_zero]); go_simp; try (with_reducible rfl))
          simp only [Act.put, List.getElem_toArray, List.getElem_cons_succ, List.getElem_cons_zero, List.setIfInBounds_toArray, List.set_cons_zero, List.set_cons_succ]
          refine wpAnyG_done (by kernel_rfl) ?_ _
          refine NoPanic.normal ?_
          clear hHeld
          have HBq := hide (And.intro (own_mono hO (unhide HBX _ hbq).2.2.2.1) (And.intro hR hbc3))
          go_wp2
          go_meet
          exact ⟨x9, P1, L1, rfl, rfl, HBq⟩
        exact AllReadyG.nil
      exact AllReadyG.nil
    exact AllReadyG.nil
  case rest =>
    obtain ⟨x9, P1, L1, rfl, rfl, HB5⟩ := hcut
    clear hb4 HD
    generalize wc = w5 at *
    by_cases hE : Sp.rimE q s1 t1 = 0
    · have hF := (unhide HB5).2.1.flow (unhide HDQ) (unhide HRQ) hE
      have hml : 0 < q.tail.length := by
        rcases (unhide HB5).2.1 with h | ⟨-, -, -, -, -, f, d0, a, jb, D, h, -⟩
        · exact absurd hE h.1
        · have := h.d0l; omega
      have hm48 : q.tail.length ≤ 48 := (unhide HRQ).le
      have hev := (unhide HRQ).link.ev
      have hcl : q.cap.length = q.tail.length := (unhide HOK).cp
      have HFl := hide hF.1
      have hx0 := hF.2.1
      have hx1 := hF.2.2
      have hll := hF.1.len
      obtain ⟨gl, cl, hvl, hgB, -, -, -⟩ := own_form (unhide HB5).1 (by omega)
      rw [hll] at hvl
      subst hvl
      have HI5 := hide (unhide HB5).1.ints
      have hb5 := (unhide HB5).2.2
      have HLc : Hid (∀ w', Below w5.heap.size w5 w' → ∀ d, d < q.tail.length → w'.cell? ⟨gl, d, none⟩ = some (.int .i64 (L1.getD d 0))) := hide fun w' hb d hd => by
        obtain ⟨fa, fc, hfe, -, -, HFa⟩ := (unhide HI5).allA
        injection hfe with q1 q2 q3
        obtain ⟨b, o, e2, -, hc⟩ := unhide HFa d (by omega)
        rw [← q1] at e2
        injection e2 with e2
        injection e2 with q4 q5
        have h1 := hc w' hb
        rw [← q4, ← q5, Nat.zero_add] at h1
        exact h1
      have HCp := hide ((unhide HBX w5 hb5).2.1.cap.allA)
      have HCb : Hid (∀ d, d < q.tail.length → 0 ≤ q.cap.getD d 0 ∧ q.cap.getD d 0 ≤ 2147483648) := hide fun d hd => (unhide HRQ).cb _ (Sp.getD_mem (by omega))
      have HT5 : Hid (∀ w' w'', Below w5.heap.size w5 w' → Below w'.heap.size w' w'' → Below w5.heap.size w5 w'') := hide fun w' w'' h1 h2 => h1.trans (h2.mono h1.size)
      have HV1 := hide (fun w' (hb : Below (w3.heap.size + 1) W4 w') (hb5 : Below w5.heap.size w5 w') => rvalue9_is q _ _ _ _ _ s1 L1 x9 w' (unhide HBX w' hb).2.1 ((unhide HI5).below hb5) hll (by omega) (unhide HFl).src (by omega) (by omega))
      have HV2 := hide (fun w' (hb : Below (w3.heap.size + 1) W4 w') (hb5 : Below w5.heap.size w5 w') => rvalue9_is q _ _ _ _ _ t1 L1 (-x9) w' (unhide HBX w' hb).2.1 ((unhide HI5).below hb5) hll (by omega) (unhide HFl).snk (by omega) (by omega))
      have hw8 : IntKind.i64.wrap (-x9) = -x9 := by rw [IntKind.wrap_i64]; omega
      have hw9 : IntKind.i64.wrap (0 - x9) = -x9 := by rw [IntKind.wrap_i64]; omega
      have e6 : (x9 == x9) = true := beq_self_eq_true _
      have e7 : (-x9 == -x9) = true := beq_self_eq_true _
      have e8 : decide (x9 < 0) = false := decide_eq_false (by omega)
      have hlI : ¬ (x9 < 0) := by omega
      rw [hE]
      obtain ⟨x0, x1, x2, x3⟩ := (unhide HBX w5 hb5).1
      clear hF hE HC hs0 hs1 ht0 ht1
      clear HCp
      go_wp2
      clear x0 x1 x2 x3
      go_loopg [11] q.tail.length (fun g s11 wr => ∃ d : Nat, d + g = q.tail.length ∧ s11 = .int .i64 (d : Int) ∧ Hid (Below (w3.heap.size + 1) W4 wr ∧ Below w5.heap.size w5 wr))
      case atStart => exact ⟨0, by omega, rfl, hide ⟨hb5, Below.refl _ _⟩⟩
      case round =>
        obtain ⟨d, hdg, rfl, HB6⟩ := hrel
        obtain ⟨x0, x1, x2, x3⟩ := (unhide HBX wr (unhide HB6).1).1
        cases gk with
        | succ g' =>
          have hd : d < q.tail.length := by omega
          have hdI : (d : Int) < (q.tail.length : Int) := by omega
          have ho := oth_lt hd hev
          have hoI : ((Sp.oth d : Nat) : Int) < (q.tail.length : Int) := by omega
          have hdC : (d : Int) < (q.cap.length : Int) := by omega
          have hoC : ((Sp.oth d : Nat) : Int) < (q.cap.length : Int) := by omega
          have hX : bits .xor .i64 (d : Int) 1 = ((Sp.oth d : Nat) : Int) := xor_oth ⟨d, by omega⟩
          obtain ⟨bc, oc, rfl, -, hcc⟩ := (unhide HBX w5 hb5).2.1.cap.at2 (j := d) (k := Sp.oth d) (by omega) (by omega)
          obtain ⟨c3, c4⟩ := hcc wr (unhide HB6).2
          have c1 := unhide HLc wr (unhide HB6).2 d hd
          have c2 := unhide HLc wr (unhide HB6).2 _ ho
          have b1 := (unhide HFl).le d hd
          have b2 := (unhide HFl).ge hev hd
          have b3 := unhide HCb d hd
          have b4 := unhide HCb _ ho
          rw [(unhide HFl).op d hd] at c2
          generalize L1.getD d 0 = fd at *
          generalize q.cap.getD d 0 = cz at *
          generalize q.cap.getD (Sp.oth d) 0 = cy at *
          have hw1 : IntKind.i64.wrap (0 - -fd) = fd := by rw [IntKind.wrap_i64]; omega
          have hw2 : IntKind.i64.wrap (0 - cy) = -cy := by rw [IntKind.wrap_i64]; omega
          have hw3 : IntKind.i64.wrap fd = fd := by rw [IntKind.wrap_i64]; omega
          have hw4 : IntKind.i64.wrap (-cy) = -cy := by rw [IntKind.wrap_i64]; omega
          have n1 : ¬ cz < fd := by omega
          have n2 : ¬ fd < -cy := by omega
          have e1 : decide (fd > cz) = false := decide_eq_false (by omega)
          have e2 : decide (fd < -cy) = false := decide_eq_false (by omega)
          have e3 : (fd != fd) = false := bne_self_eq_false _
          have HB7 : Hid (∀ n, Below (w3.heap.size + 1) W4 (wr.drewN n) ∧ Below w5.heap.size w5 (wr.drewN n)) := hide fun n => ⟨below_dn (unhide HB6).1 n, below_dn (unhide HB6).2 n⟩
          clear hcc HCb HFl HLc HB6 HV1 HV2 HWs HWt b3 b4
          go_wp2
          go_quiet (fail)
          have HB8 := hide (unhide HB7 nq)
          clear HB7 c1 c2 c3 c4 x0 x1 x2 x3
          generalize wr.drewN nq = wq at *
          go_wp2
          go_roundg g'
          case rel => exact ⟨d + 1, by omega, by go_num, HB8⟩
          case measure => omega
        | zero =>
          have hie : d = q.tail.length := by omega
          rw [hie]
          clear hie hdg HCb HLc hcl hll
          go_upto_region 14 with fail
          clear x0 x1 x2 x3
          have hbq := (unhide HB6).1.drew
          have hbq5 := (unhide HB6).2.drew
          refine wp_region_G (fun w' => w'.cell? ⟨w3.heap.size, 0, none⟩ = some (.int .i64 q.n) ∧ w'.cell? ⟨w3.heap.size, 1, none⟩ = some (.slice ta q.tail.length tc) ∧ w'.cell? ⟨w3.heap.size, 2, none⟩ = some (.slice na q.next.length nc) ∧ w'.cell? ⟨w3.heap.size, 3, none⟩ = some (.slice ca q.cap.length cc)) (fun _ => false) (by kernel_rfl) (unhide HBX _ hbq).1 (fun hHeld => ?_)
          generalize wr.drew = wq at *
          refine wpAnyG_take (v := ?_) 0 (by rfl) (by kernel_rfl) (by kernel_rfl) (by kernel_rfl) (by kernel_rfl) (fun _ _ _ h => h) (Or.inl ⟨by rfl, ?_⟩) (by assumption) ?_
          rotate_left
          · (intro w' hSw; (try dsimp only at hSw); (try simp only [List.getElem_toArray, List.getElem_cons_zero]); go_simp; try (with_reducible rfl))
          simp only [Act.put, List.getElem_toArray, List.getElem_cons_zero, List.setIfInBounds_toArray, List.set_cons_zero, List.set_cons_succ]
          refine wpAnyG_take (v := ?_) 1 (by rfl) (by kernel_rfl) (by kernel_rfl) (by kernel_rfl) (by kernel_rfl) (fun _ _ _ h => h) (Or.inl ⟨by rfl, ?_⟩) (by assumption) ?_
          rotate_left
          · (intro w' hSw; (try dsimp only at hSw); (try simp only [List.getElem_toArray, List.getElem_cons_succ, List.getElem_cons_zero]); go_simp; try (with_reducible rfl))
          simp only [Act.put, List.getElem_toArray, List.getElem_cons_succ, List.getElem_cons_zero, List.setIfInBounds_toArray, List.set_cons_zero, List.set_cons_succ]
          refine wpAnyG_take (v := ?_) 2 (by rfl) (by kernel_rfl) (by kernel_rfl) (by kernel_rfl) (by kernel_rfl) (fun _ _ _ h => h) (Or.inl ⟨by rfl, ?_⟩) (by assumption) ?_
          rotate_left
          · (intro w' hSw; (try dsimp only at hSw); (try simp only [List.getElem_toArray, List.getElem_cons_succ, List.getElem_cons_zero]); go_simp; try (with_reducible rfl))
          simp only [Act.put, List.getElem_toArray, List.getElem_cons_succ, List.getElem_cons_zero, List.setIfInBounds_toArray, List.set_cons_zero, List.set_cons_succ]
          refine wpAnyG_take (v := ?_) 3 (by rfl) (by kernel_rfl) (by kernel_rfl) (by kernel_rfl) (by kernel_rfl) (fun _ _ _ h => h) (Or.inl ⟨by rfl, ?_⟩) (by assumption) ?_
          rotate_left
          · (intro w' hSw; (try dsimp only at hSw); (try simp only [List.getElem_toArray, List.getElem_cons_succ, List.getElem_cons_zero]); go_simp; try (with_reducible rfl))
          simp only [Act.put, List.getElem_toArray, List.getElem_cons_succ, List.getElem_cons_zero, List.setIfInBounds_toArray, List.set_cons_zero, List.set_cons_succ]
          refine wpAnyG_take (v := ?_) 5 (by rfl) (by kernel_rfl) (by kernel_rfl) (by kernel_rfl) (by kernel_rfl) (fun _ _ _ h => h) (Or.inl ⟨by rfl, ?_⟩) (by assumption) ?_
          rotate_left
          · (intro w' hSw; (try dsimp only at hSw); (try simp only [List.getElem_toArray, List.getElem_cons_succ, List.getElem_cons_zero]); go_simp; try (with_reducible rfl))
          simp only [Act.put, List.getElem_toArray, List.getElem_cons_succ, List.getElem_cons_zero, List.setIfInBounds_toArray, List.set_cons_zero, List.set_cons_succ]
          refine wpAnyG_take (v := ?_) 7 (by rfl) (by kernel_rfl) (by kernel_rfl) (by kernel_rfl) (by kernel_rfl) (fun _ _ _ h => h) (Or.inl ⟨by rfl, ?_⟩) (by assumption) ?_
          rotate_left
          · (intro w' hSw; (try dsimp only at hSw); (try simp only [List.getElem_toArray, List.getElem_cons_succ, List.getElem_cons_zero]); go_simp; try (with_reducible rfl))
          simp only [Act.put, List.getElem_toArray, List.getElem_cons_succ, List.getElem_cons_zero, List.setIfInBounds_toArray, List.set_cons_zero, List.set_cons_succ]
          refine wpAnyG_ready [4] (by kernel_rfl) (by simp) ?_
          refine AllReadyG.cons 4 (by rfl) (fun K hK => ?_) ?_
          · simp only [List.getElem_toArray, List.getElem_cons_succ, List.getElem_cons_zero]
            go_simp
            go_at_call 8
            refine (unhide HWs _).mono ?_
            rintro e wc1 ⟨rfl, hlc1⟩
            have hlc1' := hlc1.symm
            clear hlc1
            subst hlc1'
            refine hK.out _ _ (unhide HBX _ hbq).1 (fun _ => ?_)
            clear hK K
            try simp only [Act.put, List.setIfInBounds_toArray, List.set_cons_zero, List.set_cons_succ]
            refine wpAnyG_ready [6] (by kernel_rfl) (by simp) ?_
            refine AllReadyG.cons 6 (by rfl) (fun K hK => ?_) ?_
            · simp only [List.getElem_toArray, List.getElem_cons_succ, List.getElem_cons_zero]
              go_simp
              go_at_call 13
              refine (unhide HV1 _ hbq hbq5).mono ?_
              rintro e wc2 ⟨rfl, hlc2⟩
              have hbc2 := unhide HTR _ _ hbq hlc2
              have hbq5' := (unhide HT5 _ _ hbq5 hlc2)
              refine hK.out _ _ (unhide HBX _ hbc2).1 (fun _ => ?_)
              clear hK K
              try simp only [Act.put, List.setIfInBounds_toArray, List.set_cons_zero, List.set_cons_succ]
              refine wpAnyG_take (v := ?_) 8 (by rfl) (by kernel_rfl) (by kernel_rfl) (by kernel_rfl) (by kernel_rfl) (fun _ _ _ h => h) (Or.inl ⟨by rfl, ?_⟩) (by assumption) ?_
              rotate_left
              · (intro w' hSw; (try dsimp only at hSw); (try simp only [List.getElem_toArray, List.getElem_cons_succ, List.getElem_cons_zero]); go_simp; try (with_reducible rfl))
              simp only [Act.put, List.getElem_toArray, List.getElem_cons_succ, List.getElem_cons_zero, List.setIfInBounds_toArray, List.set_cons_zero, List.set_cons_succ]
              refine wpAnyG_take (v := ?_) 9 (by rfl) (by kernel_rfl) (by kernel_rfl) (by kernel_rfl) (by kernel_rfl) (fun _ _ _ h => h) (Or.inl ⟨by rfl, ?_⟩) (by assumption) ?_
              rotate_left
              · (intro w' hSw; (try dsimp only at hSw); (try simp only [List.getElem_toArray, List.getElem_cons_succ, List.getElem_cons_zero]); go_simp; try (with_reducible rfl))
              simp only [Act.put, List.getElem_toArray, List.getElem_cons_succ, List.getElem_cons_zero, List.setIfInBounds_toArray, List.set_cons_zero, List.set_cons_succ]
              refine wpAnyG_take (v := ?_) 10 (by rfl) (by kernel_rfl) (by kernel_rfl) (by kernel_rfl) (by kernel_rfl) (fun _ _ _ h => h) (Or.inl ⟨by rfl, ?_⟩) (by assumption) ?_
              rotate_left
              · (intro w' hSw; (try dsimp only at hSw); (try simp only [List.getElem_toArray, List.getElem_cons_succ, List.getElem_cons_zero]); go_simp; try (with_reducible rfl))
              simp only [Act.put, List.getElem_toArray, List.getElem_cons_succ, List.getElem_cons_zero, List.setIfInBounds_toArray, List.set_cons_zero, List.set_cons_succ]
              refine wpAnyG_take (v := ?_) 11 (by rfl) (by kernel_rfl) (by kernel_rfl) (by kernel_rfl) (by kernel_rfl) (fun _ _ _ h => h) (Or.inl ⟨by rfl, ?_⟩) (by assumption) ?_
              rotate_left
              · (intro w' hSw; (try dsimp only at hSw); (try simp only [List.getElem_toArray, List.getElem_cons_succ, List.getElem_cons_zero]); go_simp; try (with_reducible rfl))
              simp only [Act.put, List.getElem_toArray, List.getElem_cons_succ, List.getElem_cons_zero, List.setIfInBounds_toArray, List.set_cons_zero, List.set_cons_succ]
              refine wpAnyG_take (v := ?_) 12 (by rfl) (by kernel_rfl) (by kernel_rfl) (by kernel_rfl) (by kernel_rfl) (fun _ _ _ h => h) (Or.inl ⟨by rfl, ?_⟩) (by assumption) ?_
              rotate_left
              · (intro w' hSw; (try dsimp only at hSw); (try simp only [List.getElem_toArray, List.getElem_cons_succ, List.getElem_cons_zero]); go_simp; try (with_reducible rfl))
              simp only [Act.put, List.getElem_toArray, List.getElem_cons_succ, List.getElem_cons_zero, List.setIfInBounds_toArray, List.set_cons_zero, List.set_cons_succ]
              refine wpAnyG_take (v := ?_) 13 (by rfl) (by kernel_rfl) (by kernel_rfl) (by kernel_rfl) (by kernel_rfl) (fun _ _ _ h => h) (Or.inl ⟨by rfl, ?_⟩) (by assumption) ?_
              rotate_left
              · (intro w' hSw; (try dsimp only at hSw); (try simp only [List.getElem_toArray, List.getElem_cons_succ, List.getElem_cons_zero]); go_simp; try (with_reducible rfl))
              simp only [Act.put, List.getElem_toArray, List.getElem_cons_succ, List.getElem_cons_zero, List.setIfInBounds_toArray, List.set_cons_zero, List.set_cons_succ]
              refine wpAnyG_take (v := ?_) 15 (by rfl) (by kernel_rfl) (by kernel_rfl) (by kernel_rfl) (by kernel_rfl) (fun _ _ _ h => h) (Or.inl ⟨by rfl, ?_⟩) (by assumption) ?_
              rotate_left
              · (intro w' hSw; (try dsimp only at hSw); (try simp only [List.getElem_toArray, List.getElem_cons_succ, List.getElem_cons_zero]); go_simp; try (with_reducible rfl))
              simp only [Act.put, List.getElem_toArray, List.getElem_cons_succ, List.getElem_cons_zero, List.setIfInBounds_toArray, List.set_cons_zero, List.set_cons_succ]
              refine wpAnyG_take (v := ?_) 17 (by rfl) (by kernel_rfl) (by kernel_rfl) (by kernel_rfl) (by kernel_rfl) (fun _ _ _ h => h) (Or.inl ⟨by rfl, ?_⟩) (by assumption) ?_
              rotate_left
              · (intro w' hSw; (try dsimp only at hSw); (try simp only [List.getElem_toArray, List.getElem_cons_succ, List.getElem_cons_zero]); go_simp; try (with_reducible rfl))
              simp only [Act.put, List.getElem_toArray, List.getElem_cons_succ, List.getElem_cons_zero, List.setIfInBounds_toArray, List.set_cons_zero, List.set_cons_succ]
              refine wpAnyG_take (v := ?_) 18 (by rfl) (by kernel_rfl) (by kernel_rfl) (by kernel_rfl) (by kernel_rfl) (fun _ _ _ h => h) (Or.inl ⟨by rfl, ?_⟩) (by assumption) ?_
              rotate_left
              · (intro w' hSw; (try dsimp only at hSw); (try simp only [List.getElem_toArray, List.getElem_cons_succ, List.getElem_cons_zero]); go_simp; try (with_reducible rfl))
              simp only [Act.put, List.getElem_toArray, List.getElem_cons_succ, List.getElem_cons_zero, List.setIfInBounds_toArray, List.set_cons_zero, List.set_cons_succ]
              refine wpAnyG_ready [14] (by kernel_rfl) (by simp) ?_
              refine AllReadyG.cons 14 (by rfl) (fun K hK => ?_) ?_
              · simp only [List.getElem_toArray, List.getElem_cons_succ, List.getElem_cons_zero]
                go_simp
                go_at_call 8
                refine (unhide HWt _).mono ?_
                rintro e wc3 ⟨rfl, hlc3⟩
                have hlc3' := hlc3.symm
                clear hlc3
                subst hlc3'
                refine hK.out _ _ (unhide HBX _ hbc2).1 (fun _ => ?_)
                clear hK K
                try simp only [Act.put, List.setIfInBounds_toArray, List.set_cons_zero, List.set_cons_succ]
                refine wpAnyG_ready [16] (by kernel_rfl) (by simp) ?_
                refine AllReadyG.cons 16 (by rfl) (fun K hK => ?_) ?_
                · simp only [List.getElem_toArray, List.getElem_cons_succ, List.getElem_cons_zero]
                  go_simp
                  go_at_call 13
                  refine (unhide HV2 _ hbc2 hbq5').mono ?_
                  rintro e wc4 ⟨rfl, hlc4⟩
                  have hbc4 := unhide HTR _ _ hbc2 hlc4
                  refine hK.out _ _ (unhide HBX _ hbc4).1 (fun _ => ?_)
                  clear hK K
                  try simp only [Act.put, List.setIfInBounds_toArray, List.set_cons_zero, List.set_cons_succ]
                  refine wpAnyG_take (v := ?_) 19 (by rfl) (by kernel_rfl) (by kernel_rfl) (by kernel_rfl) (by kernel_rfl) (fun _ _ _ h => h) (Or.inl ⟨by rfl, ?_⟩) (by assumption) ?_
                  rotate_left
                  · (intro w' hSw; (try dsimp only at hSw); (try simp only [List.getElem_toArray, List.getElem_cons_succ, List.getElem_cons_zero]); go_simp; try (with_reducible rfl))
                  simp only [Act.put, List.getElem_toArray, List.getElem_cons_succ, List.getElem_cons_zero, List.setIfInBounds_toArray, List.set_cons_zero, List.set_cons_succ]
                  refine wpAnyG_take (v := ?_) 20 (by rfl) (by kernel_rfl) (by kernel_rfl) (by kernel_rfl) (by kernel_rfl) (fun _ _ _ h => h) (Or.inl ⟨by rfl, ?_⟩) (by assumption) ?_
                  rotate_left
                  · (intro w' hSw; (try dsimp only at hSw); (try simp only [List.getElem_toArray, List.getElem_cons_succ, List.getElem_cons_zero]); go_simp; try (with_reducible rfl))
                  simp only [Act.put, List.getElem_toArray, List.getElem_cons_succ, List.getElem_cons_zero, List.setIfInBounds_toArray, List.set_cons_zero, List.set_cons_succ]
                  refine wpAnyG_take (v := ?_) 21 (by rfl) (by kernel_rfl) (by kernel_rfl) (by kernel_rfl) (by kernel_rfl) (fun _ _ _ h => h) (Or.inl ⟨by rfl, ?_⟩) (by assumption) ?_
                  rotate_left
                  · (intro w' hSw; (try dsimp only at hSw); (try simp only [List.getElem_toArray, List.getElem_cons_succ, List.getElem_cons_zero]); go_simp; try (with_reducible rfl))
                  simp only [Act.put, List.getElem_toArray, List.getElem_cons_succ, List.getElem_cons_zero, List.setIfInBounds_toArray, List.set_cons_zero, List.set_cons_succ]
                  refine wpAnyG_done (by kernel_rfl) ?_ _
                  refine NoPanic.normal ?_
                  go_wp2
                  rw [unhide HP]
                  exact ⟨by rfl, (unhide HBX _ hbc4).2.2.1⟩
                exact AllReadyG.nil
              exact AllReadyG.nil
            exact AllReadyG.nil
          exact AllReadyG.nil
    · have e1 : (Sp.rimE q s1 t1 == 0) = false := beq_eq_false_iff_ne.2 hE
      have HF := hide (unhide HBX _ (unhide HB5).2.2).2.2.1
      generalize Sp.rimE q s1 t1 = E at *
      go_wp2
      rw [unhide HP]
      exact ⟨by rfl, unhide HF⟩
end Go.Proofs.Ytoegjnolccabjab


/- The law RotOwn, walked. -/
namespace Go.Proofs.Ytoegjnolccabjab
open Go Go.RowKit

theorem Open'.below {w w' : World} {B g o n : Nat} (h : Open' w g o n) (hb : Below B w w') (hg : g < B) : Open' w' g o n := fun j hj => by
  obtain ⟨v, h1, h2⟩ := h j hj
  exact ⟨v, (hb.cell (by exact hg)).trans h1, (hb.frozen (by exact hg)).trans h2⟩
/-- The net that was turned, on the way: what stays. -/
structure MAt (X bm ln g1 g2 g3 : Nat) (W6 wr : World) (o : Obj) : Prop where
  bel : Below X W6 wr
  box : wr.heap[bm]? = some o
  o1 : Open' wr g1 0 ln
  o2 : Open' wr g2 0 ln
  o3 : Open' wr g3 0 ln
theorem MAt.drew {X bm ln g1 g2 g3 : Nat} {W6 wr : World} {o : Obj} (h : MAt X bm ln g1 g2 g3 W6 wr o) : MAt X bm ln g1 g2 g3 W6 wr.drew o := ⟨h.bel.drew, h.box, h.o1, h.o2, h.o3⟩
end Go.Proofs.Ytoegjnolccabjab


/- What the reference's Parts comes to: the same as the program's. -/
namespace Go.Proofs.Ytoegjnolccabjab
open Go Go.RowKit

def isum : List Int → Int
  | [] => 0
  | a :: t => a + isum t
theorem isum_set : ∀ (l : List Int) (i : Nat) (x : Int), i < l.length → isum (l.set i x) = isum l - l.getD i 0 + x
  | [], _, _, h => by simp at h
  | a :: t, 0, x, _ => by
    show x + isum t = a + isum t - a + x
    omega
  | a :: t, i + 1, x, h => by
    show a + isum (t.set i x) = a + isum t - t.getD i 0 + x
    rw [isum_set t i x (by simpa using h)]
    omega
theorem isum_nn : ∀ (l : List Int), (∀ x ∈ l, 0 ≤ x) → 0 ≤ isum l
  | [], _ => Int.le_refl _
  | a :: t, h => by
    have h1 := h a (by simp)
    have h2 := isum_nn t (fun x hx => h x (by simp [hx]))
    show 0 ≤ a + isum t
    omega
theorem isum_le (b : Nat) : ∀ (l : List Int), (∀ x ∈ l, x ≤ (b : Int)) → isum l ≤ ((l.length * b : Nat) : Int)
  | [], _ => by simp [isum]
  | a :: t, h => by
    have h1 := h a (by simp)
    have h2 := isum_le b t (fun x hx => h x (by simp [hx]))
    show a + isum t ≤ (((t.length + 1) * b : Nat) : Int)
    rw [Nat.succ_mul]
    omega
/-- Each vertex's label: one that is reached, no greater. -/
structure Sp.RInv (tl of : List Int) (N : Nat) : Prop where
  len : of.length = N
  bd : ∀ v, v < N → 0 ≤ of.getD v 0 ∧ of.getD v 0 ≤ (v : Int)
  rch : ∀ v : Nat, v < N → Sp.Reach tl v (of.getD v 0)
theorem Sp.RInv.nn {tl of : List Int} {N : Nat} (h : Sp.RInv tl of N) : 0 ≤ isum of := isum_nn of fun x hx => by
  obtain ⟨i, hi, rfl⟩ := List.mem_iff_getElem.1 hx
  rw [← Sp.getD_eq]
  exact (h.bd i (by rw [← h.len]; exact hi)).1
theorem Sp.RInv.le {tl of : List Int} {N : Nat} (h : Sp.RInv tl of N) : isum of ≤ ((N * N : Nat) : Int) := by
  have := isum_le N of fun x hx => by
    obtain ⟨i, hi, rfl⟩ := List.mem_iff_getElem.1 hx
    rw [← Sp.getD_eq]
    have hi' : i < N := by rw [← h.len]; exact hi
    have := (h.bd i hi').2
    omega
  rw [h.len] at this
  exact this
theorem Sp.RInv.set {tl of : List Int} {N : Nat} (h : Sp.RInv tl of N) (ht : ∀ x ∈ tl, 0 ≤ x ∧ x < (N : Int)) (hev : tl.length % 2 = 0) {d : Nat} (hd : d < tl.length) (hlt : of.getD (tl.getD d 0).toNat 0 < of.getD (tl.getD (Sp.oth d) 0).toNat 0) :
    Sp.RInv tl (of.set (tl.getD (Sp.oth d) 0).toNat (of.getD (tl.getD d 0).toNat 0)) N ∧ isum (of.set (tl.getD (Sp.oth d) 0).toNat (of.getD (tl.getD d 0).toNat 0)) < isum of := by
  have ho := oth_lt hd hev
  have ha := ht _ (Sp.getD_mem hd)
  have hb := ht _ (Sp.getD_mem ho)
  have haN : (tl.getD d 0).toNat < N := by omega
  have hbN : (tl.getD (Sp.oth d) 0).toNat < N := by omega
  have hba : Sp.Reach tl (tl.getD (Sp.oth d) 0) (tl.getD d 0) := by
    have h1 : Sp.Reach tl (tl.getD (Sp.oth d) 0) (tl.getD (Sp.oth (Sp.oth d)) 0) := (Sp.Reach.refl _).step ho
    rw [oth_oth] at h1
    exact h1
  refine ⟨⟨by rw [List.length_set]; exact h.len, fun v hv => ?_, fun v hv => ?_⟩, ?_⟩
  · rw [getD_set_eq _ _ _ _ (by rw [h.len]; exact hbN)]
    by_cases e : v = (tl.getD (Sp.oth d) 0).toNat
    · rw [if_pos e]
      have h1 := h.bd _ haN
      have h2 := h.bd _ hbN
      omega
    · rw [if_neg e]
      exact h.bd v hv
  · rw [getD_set_eq _ _ _ _ (by rw [h.len]; exact hbN)]
    by_cases e : v = (tl.getD (Sp.oth d) 0).toNat
    · rw [if_pos e, show (v : Int) = tl.getD (Sp.oth d) 0 by omega]
      have h1 := h.rch _ haN
      rw [show (((tl.getD d 0).toNat : Nat) : Int) = tl.getD d 0 by omega] at h1
      exact hba.trans h1
    · rw [if_neg e]
      exact h.rch v hv
  · rw [isum_set _ _ _ (by rw [h.len]; exact hbN)]
    omega
/-- No dart leads to a greater label. -/
def Sp.Still (tl of : List Int) (n : Nat) : Prop := ∀ d, d < n → of.getD (tl.getD (Sp.oth d) 0).toNat 0 ≤ of.getD (tl.getD d 0).toNat 0
theorem Sp.Still.reach {tl of : List Int} (h : Sp.Still tl of tl.length) (hev : tl.length % 2 = 0) {u v : Int} (hr : Sp.Reach tl u v) : of.getD u.toNat 0 = of.getD v.toNat 0 := by
  refine hr.ind (p := fun v => of.getD u.toNat 0 = of.getD v.toNat 0) rfl (fun d hd _ ih => ?_)
  have h1 := h d hd
  have h2 := h (Sp.oth d) (oth_lt hd hev)
  rw [oth_oth] at h2
  omega
/-- The numbers, laid so far. -/
structure Sp.NumS (of num : List Int) (N v k : Nat) : Prop where
  len : num.length = N
  bd : ∀ i, i < v → 0 ≤ num.getD i 0 ∧ num.getD i 0 < (k : Int)
  same : ∀ i j, i < v → j < v → (num.getD i 0 = num.getD j 0 ↔ of.getD i 0 = of.getD j 0)
  rg : ∀ i, i < v → ∀ c, 0 ≤ c → c < num.getD i 0 → ∃ j, j < i ∧ num.getD j 0 = c
  on : ∀ c : Nat, c < k → ∃ i, i < v ∧ num.getD i 0 = (c : Int)
theorem Sp.NumS.first (of : List Int) (N : Nat) : Sp.NumS of (List.replicate N 0) N 0 0 := ⟨by simp, fun i hi => by omega, fun i j hi => by omega, fun i hi => by omega, fun c hc => by omega⟩
theorem Sp.NumS.new {tl of num : List Int} {N v k : Nat} (h : Sp.NumS of num N v k) (hi : Sp.RInv tl of N) (hv : v < N) (he : of.getD v 0 = (v : Int)) : Sp.NumS of (num.set v (k : Int)) N (v + 1) (k + 1) := by
  have hg : ∀ i, (num.set v (k : Int)).getD i 0 = if i = v then (k : Int) else num.getD i 0 := fun i => getD_set_eq num i v k (by rw [h.len]; exact hv)
  have hne : ∀ i, i < v → of.getD i 0 ≠ of.getD v 0 := fun i h1 => by have := (hi.bd i (by omega)).2; omega
  refine ⟨by rw [List.length_set]; exact h.len, fun i h1 => ?_, fun i j h1 h2 => ?_, fun i h1 c c0 c1 => ?_, fun c hc => ?_⟩
  · rw [hg]
    split
    · omega
    · have := h.bd i (by omega); omega
  · rw [hg, hg]
    by_cases e1 : i = v <;> by_cases e2 : j = v
    · rw [if_pos e1, if_pos e2, e1, e2]; exact ⟨fun _ => rfl, fun _ => rfl⟩
    · rw [if_pos e1, if_neg e2, e1]
      have := h.bd j (by omega)
      have := hne j (by omega)
      exact ⟨fun e => by omega, fun e => absurd e.symm this⟩
    · rw [if_neg e1, if_pos e2, e2]
      have := h.bd i (by omega)
      have := hne i (by omega)
      exact ⟨fun e => by omega, fun e => absurd e this⟩
    · rw [if_neg e1, if_neg e2]; exact h.same i j (by omega) (by omega)
  · rw [hg] at c1
    by_cases e1 : i = v
    · rw [if_pos e1] at c1
      obtain ⟨j, h2, h3⟩ := h.on c.toNat (by omega)
      exact ⟨j, by omega, by rw [hg, if_neg (by omega), h3]; omega⟩
    · rw [if_neg e1] at c1
      obtain ⟨j, h2, h3⟩ := h.rg i (by omega) c c0 c1
      exact ⟨j, h2, by rw [hg, if_neg (by omega)]; exact h3⟩
  · by_cases e : c = k
    · exact ⟨v, by omega, by rw [hg, if_pos rfl, e]⟩
    · obtain ⟨i, h2, h3⟩ := h.on c (by omega)
      exact ⟨i, by omega, by rw [hg, if_neg (by omega)]; exact h3⟩
theorem Sp.NumS.old {tl of num : List Int} {N v k u : Nat} (h : Sp.NumS of num N v k) (hi : Sp.RInv tl of N) (hs : Sp.Still tl of tl.length) (hev : tl.length % 2 = 0) (hv : v < N) (hu : of.getD v 0 = (u : Int)) (hne : u ≠ v) : u < v ∧ Sp.NumS of (num.set v (num.getD u 0)) N (v + 1) k := by
  have huv : u < v := by have := (hi.bd v hv).2; omega
  have he : of.getD u 0 = of.getD v 0 := by
    have h1 := hs.reach hev (hi.rch v hv)
    rw [hu, Int.toNat_natCast, Int.toNat_natCast] at h1
    exact h1.symm
  have hg : ∀ i, (num.set v (num.getD u 0)).getD i 0 = if i = v then num.getD u 0 else num.getD i 0 := fun i => getD_set_eq num i v _ (by rw [h.len]; exact hv)
  refine ⟨huv, by rw [List.length_set]; exact h.len, fun i h1 => ?_, fun i j h1 h2 => ?_, fun i h1 c c0 c1 => ?_, fun c hc => ?_⟩
  · rw [hg]
    split
    · exact h.bd u huv
    · exact h.bd i (by omega)
  · rw [hg, hg]
    by_cases e1 : i = v <;> by_cases e2 : j = v
    · rw [if_pos e1, if_pos e2, e1, e2]; exact ⟨fun _ => rfl, fun _ => rfl⟩
    · rw [if_pos e1, if_neg e2, e1, ← he]; exact h.same u j huv (by omega)
    · rw [if_neg e1, if_pos e2, e2, ← he]; exact h.same i u (by omega) huv
    · rw [if_neg e1, if_neg e2]; exact h.same i j (by omega) (by omega)
  · rw [hg] at c1
    by_cases e1 : i = v
    · rw [if_pos e1] at c1
      obtain ⟨j, h2, h3⟩ := h.rg u huv c c0 c1
      exact ⟨j, by omega, by rw [hg, if_neg (by omega)]; exact h3⟩
    · rw [if_neg e1] at c1
      obtain ⟨j, h2, h3⟩ := h.rg i (by omega) c c0 c1
      exact ⟨j, h2, by rw [hg, if_neg (by omega)]; exact h3⟩
  · obtain ⟨i, h2, h3⟩ := h.on c hc
    exact ⟨i, by omega, by rw [hg, if_neg (by omega)]; exact h3⟩
theorem Sp.NumS.last {tl of num : List Int} {N k : Nat} (h : Sp.NumS of num N N k) (hi : Sp.RInv tl of N) (hs : Sp.Still tl of tl.length) (hev : tl.length % 2 = 0) : Sp.NSt N (fun i j => Sp.Reach tl i j) N num k := by
  refine ⟨h.len, fun i hi' => .inr (h.bd i hi'), fun i hi' => (h.bd i hi').1, fun i j h1 h2 hr => ?_, fun i j h1 h2 _ e => ?_, h.rg, h.on⟩
  · refine (h.same i j h1 h2).2 ?_
    have := hs.reach hev hr
    rw [Int.toNat_natCast, Int.toNat_natCast] at this
    exact this
  · have e2 := (h.same i j h1 h2).1 e
    have a1 := hi.rch i h1
    have a2 := hi.rch j h2
    rw [← e2] at a2
    exact a1.trans (a2.symm hev)
/-- The labels at first: each vertex its own. -/
theorem Sp.RInv.first {tl of : List Int} {N : Nat} (hl : of.length = N) (h : ∀ v, v < N → of.getD v 0 = (v : Int)) : Sp.RInv tl of N :=
  ⟨hl, fun v hv => by rw [h v hv]; omega, fun v hv => by rw [h v hv]; exact .refl _⟩
end Go.Proofs.Ytoegjnolccabjab


/- The walk of the second reference's Parts. -/
namespace Go.Proofs.Ytoegjnolccabjab
open Go Go.RowKit

theorem range_set (n j : Nat) (hj : j < n) : (((List.range j).map fun v : Nat => (v : Int)) ++ List.replicate (n - j) 0).set j (j : Int) = ((List.range (j + 1)).map fun v : Nat => (v : Int)) ++ List.replicate (n - (j + 1)) 0 := by
  rw [List.set_append_right _ _ (by simp), List.range_succ, List.map_append, List.append_assoc]
  congr 1
  obtain ⟨m, hm⟩ : ∃ m, n - j = m + 1 := ⟨n - j - 1, by omega⟩
  rw [hm, show n - (j + 1) = m by omega, List.replicate_succ]
  simp
theorem range_getD (n v : Nat) (hv : v < n) : ((List.range n).map fun v : Nat => (v : Int)).getD v 0 = (v : Int) := by
  rw [Sp.getD_eq _ _ (by simpa using hv)]
  simp
theorem PKeep.far {B O N : Nat} {W wr : World} {of : List Int} (h : PKeep B O N W wr of) {g : Nat} (hg : O < g) (i : Nat) (x : Value) : PKeep B O N W (wr.setCell ⟨g, i, none⟩ x) of := by
  have hge := h.ge
  exact ⟨h.len, own_but h.own ((ButRow.refl g wr).setCell i x) (fun e => by injection e with e; have e' : O = g := e; omega), h.bel.setCell (by show B ≤ g; omega) _, by simpa using h.lt, h.ge⟩
set_option maxRecDepth 100000 in
set_option maxHeartbeats 4000000 in
theorem parts2_any (q : Sp.Net) (v tv nv cv : Value) (w : World) (hv : NetI w v q tv nv cv) (hw : Sp.walkB q = true) :
    Calls Try.prog 28 #[v] w fun e w' => ∃ fv, e = .returned (.tuple #[fv, .int .i64 (((Sp.pieces q).2 : Nat) : Int)]) ∧ OwnI w' w.heap.size fv (Sp.pieces q).1 ∧ Below w.heap.size w w' := by
  have hq := walkQ hw
  have hv' := hv
  obtain ⟨rfl, h1, h2, h3⟩ := hv
  obtain ⟨ta, tc, rfl, htc, htm⟩ := h1.form
  obtain ⟨na, nc, rfl, -, -⟩ := h2.form
  obtain ⟨ca, cc, rfl, -, -⟩ := h3.form
  clear h1 h2 h3
  obtain ⟨N, hN⟩ : ∃ N : Nat, q.n = (N : Int) := ⟨q.n.toNat, by have := hq.n0; omega⟩
  have hN60 : N ≤ 60 := by have := hq.n1; omega
  have HPS := hide (Sp.pieces_st hq.n0 hq.tb hq.ev)
  rw [hN, Int.toNat_natCast] at HPS
  have HBX := hide (box_new w q.n (.slice ta q.tail.length tc) (.slice na q.next.length nc) (.slice ca q.cap.length cc))
  obtain ⟨W1, hW1⟩ : ∃ W1, W1 = w.alloc (.cells #[.int .i64 q.n, .slice ta q.tail.length tc, .slice na q.next.length nc, .slice ca q.cap.length cc] 26) := ⟨_, rfl⟩
  rw [← hW1] at HBX
  have hb1 : Below w.heap.size w W1 := by rw [hW1]; exact (Below.refl _ w).alloc (Nat.le_refl _) _
  have hs1 : W1.heap.size = w.heap.size + 1 := by rw [hW1]; simp
  have HW : Hid (∀ w', Below (w.heap.size + 1) W1 w' → Below w.heap.size w w') := hide fun w' hb => hb1.trans (hb.mono (by omega))
  have HS1 := hide hs1
  have HV : Hid (∀ w', Below (w.heap.size + 1) W1 w' → NetI w' (.agg #[.int .i64 q.n, .slice ta q.tail.length tc, .slice na q.next.length nc, .slice ca q.cap.length cc]) q (.slice ta q.tail.length tc) (.slice na q.next.length nc) (.slice ca q.cap.length cc)) := hide fun w' hb => by
    have hb0 := unhide HW w' hb
    exact ⟨rfl, hv'.tail.below hb0, hv'.next.below hb0, hv'.cap.below hb0⟩
  have HQ := hide hq
  have HTb : Hid (∀ x ∈ q.tail, 0 ≤ x ∧ x < (N : Int)) := hide (by rw [← hN]; exact hq.tb)
  obtain ⟨P, hP⟩ : ∃ P : Ending → World → Prop, P = fun e w' => ∃ fv, e = .returned (.tuple #[fv, .int .i64 (((Sp.pieces q).2 : Nat) : Int)]) ∧ OwnI w' w.heap.size fv (Sp.pieces q).1 ∧ Below w.heap.size w w' := ⟨_, rfl⟩
  rw [← hP]
  have HP := hide hP
  clear hP
  rw [hN] at HBX HV hW1 ⊢
  obtain ⟨x0, x1, x2, x3, -⟩ := unhide HBX W1 (Below.refl _ _)
  have HHd := hide (fun (y : Nat) w' (hy : y < q.tail.length) (hb : Below (w.heap.size + 1) W1 w') => head2_any q _ _ _ _ y w' (unhide HV w' hb) hy hq.ev hq.big)
  have HTc := hide (fun w' (hb : Below (w.heap.size + 1) W1 w') => (unhide HV w' hb).tail)
  have hb240 := hq.big
  generalize hln : q.tail.length = ln at *
  have Hln := hide hln
  clear hb1 hs1 hv' hq hN hln
  subst hW1
  go_enter Try.func28, Try.ntmps28
  go_wp2_with (at_make; refine wpList_mk rfl _ _ rfl (w.heap.size + 1) N rfl rfl (by omega) (by simp) ?_)
  intro w5 hown5 hb5 hlt5
  clear x0 x1 x2 x3
  generalize w.alloc (.cells #[.int .i64 (N : Int), .slice ta ln tc, .slice na q.next.length nc, .slice ca q.cap.length cc] 26) = W1 at *
  have HK0 : Hid (PKeep (w.heap.size + 1) (w.heap.size + 1) N W1 w5 (List.replicate N 0)) := hide ⟨List.length_replicate, hown5, hb5, by have := (hown5.lt (w.heap.size + 1) rfl).2; exact this, Nat.le_refl _⟩
  clear hown5 hb5 hlt5
  obtain ⟨x0, -, -, -, -⟩ := unhide HBX w5 (unhide HK0).bel
  go_wp2
  go_loopg [5] N (fun g i wr => ∃ j : Nat, j + g = N ∧ i = .int .i64 (j : Int) ∧ Hid (PKeep (w.heap.size + 1) (w.heap.size + 1) N W1 wr (((List.range j).map fun v : Nat => (v : Int)) ++ List.replicate (N - j) 0)))
  case atStart => exact ⟨0, by omega, rfl, by simpa using HK0⟩
  case round =>
    obtain ⟨j, hjg, rfl, HJ⟩ := hrel
    obtain ⟨x0, x1, x2, x3, -⟩ := unhide HBX wr (unhide HJ).bel
    cases gk with
    | succ g' =>
      have hjN : j < N := by omega
      have hjI : (j : Int) < (N : Int) := by omega
      have c1 := own_cell (unhide HJ).own j (by rw [(unhide HJ).len]; exact hjN)
      have f1 := own_frozen (unhide HJ).own j
      generalize (((List.range j).map fun v : Nat => (v : Int)) ++ List.replicate (N - j) 0)[j]'_ = z at *
      have HJ2 := hide ((unhide HJ).set j (j : Int))
      rw [range_set N j hjN] at HJ2
      clear HK0 HJ
      go_wp2
      go_roundg g'
      case rel => exact ⟨j + 1, by omega, by go_num, HJ2⟩
      case measure => omega
    | zero =>
      have hje : j = N := by omega
      rw [hje] at HJ ⊢
      rw [Nat.sub_self, List.replicate_zero, List.append_nil] at HJ
      have HI0 : Hid (Sp.RInv q.tail ((List.range N).map fun v : Nat => (v : Int)) N) := hide (Sp.RInv.first (by simp) fun v hv => range_getD N v hv)
      clear hje hjg HK0 x1 x2 x3
      generalize ((List.range N).map fun v : Nat => (v : Int)) = of0 at *
      have hG : isum of0 < (3601 : Nat) := by
        have h1 := (unhide HI0).le
        have h2 : N * N ≤ 60 * 60 := Nat.mul_le_mul hN60 hN60
        omega
      go_wp2_with fail
      go_loopg [6] 3601 (fun g s6 wr => ∃ (b : Bool) (of : List Int), s6 = .bool b ∧ Hid (PKeep (w.heap.size + 1) (w.heap.size + 1) N W1 wr of ∧ Sp.RInv q.tail of N ∧ (b = true → isum of < (g : Int)) ∧ (b = false → Sp.Still q.tail of ln)))
      case atStart => exact ⟨true, of0, rfl, hide ⟨unhide HJ, unhide HI0, fun _ => hG, fun h => by cases h⟩⟩
      case round =>
        obtain ⟨b, of, rfl, HO⟩ := hrel
        clear HJ HI0 hG
        cases b with
        | true =>
          cases gk with
          | zero =>
            have h1 := (unhide HO).2.2.1 rfl
            have h2 := (unhide HO).2.1.nn
            omega
          | succ g' =>
            have hsO := (unhide HO).2.2.1 rfl
            go_wp2_with fail
            go_loopg [6, 7] ln (fun g s6 s7 wr => ∃ (d : Nat) (b : Bool) (of' : List Int), d + g = ln ∧ s7 = .int .i64 (d : Int) ∧ s6 = .bool b ∧ Hid (PKeep (w.heap.size + 1) (w.heap.size + 1) N W1 wr of' ∧ Sp.RInv q.tail of' N ∧ isum of' ≤ isum of ∧ (b = true → isum of' < isum of) ∧ (b = false → Sp.Still q.tail of' d)))
            case atStart => exact ⟨0, false, of, by omega, rfl, rfl, hide ⟨(unhide HO).1, (unhide HO).2.1, Int.le_refl _, (fun h => by cases h), fun _ d hd => by omega⟩⟩
            case round =>
              obtain ⟨d, b, of', hdg, rfl, rfl, HD⟩ := hrel
              obtain ⟨x0, x1, x2, x3, -⟩ := unhide HBX wr (unhide HD).1.bel
              cases gk with
              | zero =>
                have hde : d = ln := by omega
                rw [hde] at HD ⊢
                clear hde hdg
                have HR : Hid (PKeep (w.heap.size + 1) (w.heap.size + 1) N W1 wr of' ∧ Sp.RInv q.tail of' N ∧ (b = true → isum of' < (g' : Int)) ∧ (b = false → Sp.Still q.tail of' ln)) := hide ⟨(unhide HD).1, (unhide HD).2.1, fun hb => by have := (unhide HD).2.2.2.1 hb; omega, (unhide HD).2.2.2.2⟩
                clear HD HO hsO x0 x2 x3
                go_wp2
                go_roundg g'
                case rel => exact ⟨b, of', rfl, HR⟩
                case measure => omega
              | succ g2 =>
                have hdl : d < ln := by omega
                have hdI : (d : Int) < (ln : Int) := by omega
                have hdt : d < q.tail.length := by rw [unhide Hln]; exact hdl
                have hot : Sp.oth d < q.tail.length := oth_lt hdt (unhide HQ).ev
                have hA := unhide HTb _ (Sp.getD_mem hdt)
                have hB := unhide HTb _ (Sp.getD_mem hot)
                have HSet := hide (fun h => (unhide HD).2.1.set (unhide HTb) (unhide HQ).ev hdt h)
                obtain ⟨A, hAe⟩ : ∃ A : Nat, q.tail.getD d 0 = (A : Int) := ⟨(q.tail.getD d 0).toNat, by omega⟩
                obtain ⟨Bn, hBe⟩ : ∃ Bn : Nat, q.tail.getD (Sp.oth d) 0 = (Bn : Int) := ⟨(q.tail.getD (Sp.oth d) 0).toNat, by omega⟩
                have HH := hide (fun w' hb => unhide HHd d w' hdl hb)
                have HStl : Hid (of'.getD Bn 0 ≤ of'.getD A 0 → b = false → Sp.Still q.tail of' (d + 1)) := hide fun h1 h2 d' hd' => by
                  rcases Nat.lt_or_ge d' d with h3 | h3
                  · exact (unhide HD).2.2.2.2 h2 d' h3
                  · rw [show d' = d by omega, hAe, hBe, Int.toNat_natCast, Int.toNat_natCast]; exact h1
                rw [hAe, hBe, Int.toNat_natCast, Int.toNat_natCast] at HSet
                rw [hBe] at HH
                rw [hAe] at hA
                rw [hBe] at hB
                obtain ⟨tb, tt, hta, HTd⟩ : ∃ tb tt, ta = some ⟨tb, tt, none⟩ ∧ Hid (∀ w', Below (w.heap.size + 1) W1 w' → w'.cell? ⟨tb, tt + d, none⟩ = some (.int .i64 (A : Int))) := by
                  obtain ⟨a', c', e, -, -, hc⟩ := (unhide HTc W1 (Below.refl _ _)).all
                  obtain ⟨b', o', e2, -, -⟩ := unhide hc d hdt
                  injection e with e1
                  rw [← e1] at e2
                  refine ⟨b', o', e2, hide fun w' hb => ?_⟩
                  obtain ⟨a3, c3, e3, -, -, hc3⟩ := (unhide HTc w' hb).all
                  obtain ⟨b4, o4, e4, -, h4⟩ := unhide hc3 d hdt
                  injection e3 with e3
                  rw [← e3, e2] at e4
                  injection e4 with e4
                  injection e4 with e5 e6
                  subst e5 e6
                  rw [h4 w' (Below.refl _ _), ← Sp.getD_eq, hAe]
                subst hta
                have HbW := hide (unhide HD).1.bel
                have HLow : Hid (∀ wx, Below wr.heap.size wr wx → Below (w.heap.size + 1) W1 wx) := hide fun wx hb => (unhide HbW).trans (hb.mono (by have := (unhide HbW).size; rw [unhide HS1] at this; exact this))
                have hAN : A < N := by omega
                have hBN : Bn < N := by omega
                have hbr : Below wr.heap.size wr wr.drew := (Below.refl _ _).drew
                clear hA hB hAe hBe HO hsO x0 x1 x2 x3
                obtain ⟨x0, x1, x2, x3, -⟩ := unhide HBX wr (unhide HbW)
                go_upto_region 12 with fail
                clear x0 x1 x2 x3
                go_cut [8, 9] (fun s8 s9 wx => s8 = .int .i64 (A : Int) ∧ s9 = .int .i64 (Bn : Int) ∧ Hid (Below wr.heap.size wr wx))
                case first =>
                  go_region_held3 (fun w' => w'.cell? ⟨w.heap.size, 0, none⟩ = some (.int .i64 (N : Int)) ∧ w'.cell? ⟨w.heap.size, 1, none⟩ = some (.slice (some ⟨tb, tt, none⟩) ln tc) ∧ w'.cell? ⟨w.heap.size, 2, none⟩ = some (.slice na q.next.length nc) ∧ w'.cell? ⟨w.heap.size, 3, none⟩ = some (.slice ca q.cap.length cc) ∧ w'.cell? ⟨tb, tt + d, none⟩ = some (.int .i64 (A : Int)))
                    (first
                      | exact ⟨(unhide HBX _ (unhide HLow _ hb8)).1, (unhide HBX _ (unhide HLow _ hb8)).2.1, (unhide HBX _ (unhide HLow _ hb8)).2.2.1, (unhide HBX _ (unhide HLow _ hb8)).2.2.2.1, unhide HTd _ (unhide HLow _ hb8)⟩
                      | exact ⟨(unhide HBX _ (unhide HLow _ hbr)).1, (unhide HBX _ (unhide HLow _ hbr)).2.1, (unhide HBX _ (unhide HLow _ hbr)).2.2.1, (unhide HBX _ (unhide HLow _ hbr)).2.2.2.1, unhide HTd _ (unhide HLow _ hbr)⟩)
                    (first
                      | (go_at_call 39
                         refine (unhide HH _ (unhide HLow _ hbr)).mono ?_
                         rintro e w8 ⟨rfl, hl8⟩
                         have hb8 : Below wr.heap.size wr w8 := hbr.trans hl8))
                  all_goals
                    go_wp2
                    go_meet
                    exact ⟨rfl, rfl, hide hb8⟩
                case rest =>
                  obtain ⟨wP, rfl⟩ : ∃ wP, wP = wc := ⟨_, rfl⟩
                  obtain ⟨rfl, rfl, HbP⟩ := hcut
                  have HKp := hide ((unhide HD).1.below (unhide HbP))
                  have HRi := hide (And.intro (unhide HD).2.1 (And.intro (unhide HD).2.2.1 (unhide HD).2.2.2.1))
                  have hlo := (unhide HD).2.1.len
                  have c1 := own_cell (unhide HKp).own Bn (by rw [hlo]; exact hBN)
                  have c2 := own_cell (unhide HKp).own A (by rw [hlo]; exact hAN)
                  rw [← Sp.getD_eq] at c1 c2
                  have f1 := own_frozen (unhide HKp).own Bn
                  have HK2 := hide (fun nq => (unhide HKp).below (below_dn (Below.refl _ _) nq))
                  have hAI : (A : Int) < (N : Int) := by omega
                  have hBI : (Bn : Int) < (N : Int) := by omega
                  clear HD hlo hbr HbW HLow HbP
                  by_cases hlt : of'.getD A 0 < of'.getD Bn 0
                  · have HS2 := hide (unhide HSet hlt)
                    have HK3 := hide (fun nq => (unhide HK2 nq).set Bn (of'.getD A 0))
                    clear HSet HStl
                    generalize of'.getD A 0 = oA at *
                    generalize of'.getD Bn 0 = oB at *
                    have hd1 : decide (oA < oB) = true := decide_eq_true hlt
                    have hd2 : decide (oB > oA) = true := decide_eq_true hlt
                    go_wp2
                    go_quiet (fail)
                    have c1' : (wP.drewN nq).cell? ⟨w.heap.size + 1, Bn, none⟩ = some (.int .i64 oB) := c1
                    have c2' : (wP.drewN nq).cell? ⟨w.heap.size + 1, A, none⟩ = some (.int .i64 oA) := c2
                    have f1' : (wP.drewN nq).frozen? ⟨w.heap.size + 1, Bn, none⟩ = false := f1
                    have HK4 := hide (unhide HK3 nq)
                    clear c1 c2 f1 HK3 HK2 HKp
                    generalize wP.drewN nq = wq at *
                    go_wp2
                    go_roundg g2
                    case rel => exact ⟨d + 1, true, _, by omega, by go_num, rfl, hide ⟨unhide HK4, (unhide HS2).1, by have := (unhide HS2).2; have := (unhide HRi).2.1; omega, fun _ => by have := (unhide HS2).2; have := (unhide HRi).2.1; omega, fun h => by cases h⟩⟩
                    case measure => omega
                  · have HS2 := hide (unhide HStl (by omega))
                    clear HSet HStl
                    generalize of'.getD A 0 = oA at *
                    generalize of'.getD Bn 0 = oB at *
                    have hd1 : decide (oA < oB) = false := decide_eq_false hlt
                    have hd2 : decide (oB > oA) = false := decide_eq_false hlt
                    go_wp2
                    go_quiet (fail)
                    have HK4 := hide (unhide HK2 nq)
                    clear c1 c2 f1 HK2 HKp
                    generalize wP.drewN nq = wq at *
                    go_wp2
                    go_roundg g2
                    case rel => exact ⟨d + 1, b, of', by omega, by go_num, rfl, hide ⟨unhide HK4, (unhide HRi).1, (unhide HRi).2.1, (unhide HRi).2.2, unhide HS2⟩⟩
                    case measure => omega
        | false =>
          have HKO := hide (unhide HO).1
          have HRI := hide (unhide HO).2.1
          have HSt : Hid (Sp.Still q.tail of q.tail.length) := hide (by rw [unhide Hln]; exact (unhide HO).2.2.2 rfl)
          obtain ⟨x0, x1, x2, x3, -⟩ := unhide HBX wr (unhide HKO).bel
          have hOG : w.heap.size + 1 < wr.heap.size := (unhide HKO).lt
          clear HO x1 x2 x3
          go_wp2_with (at_make; refine wpList_mk rfl _ _ rfl wr.heap.size N rfl rfl (by omega) (Nat.le_refl _) ?_)
          intro w6 hown6 hb6 hlt6
          have HK6 : Hid (PKeep (w.heap.size + 1) (w.heap.size + 1) N W1 w6 of ∧ OwnI w6 wr.heap.size (.slice (some ⟨wr.heap.size, 0, none⟩) N N) (List.replicate N 0) ∧ Sp.NumS of (List.replicate N 0) N 0 0) := hide ⟨(unhide HKO).below hb6, hown6, Sp.NumS.first of N⟩
          clear hown6 hb6 hlt6 x0 HKO
          generalize wr.heap.size = G at *
          obtain ⟨x0, -, -, -, -⟩ := unhide HBX w6 (unhide HK6).1.bel
          go_wp2
          go_loopg [10, 12] N (fun g s10 s12 wy => ∃ (v k : Nat) (num : List Int), v + g = N ∧ k ≤ v ∧ s12 = .int .i64 (v : Int) ∧ s10 = .int .i64 (k : Int) ∧ Hid (PKeep (w.heap.size + 1) (w.heap.size + 1) N W1 wy of ∧ OwnI wy G (.slice (some ⟨G, 0, none⟩) N N) num ∧ Sp.NumS of num N v k))
          case atStart => exact ⟨0, 0, _, by omega, by omega, rfl, rfl, HK6⟩
          case round =>
            obtain ⟨v, k, num, hvg, hkv, rfl, rfl, HN⟩ := hrel
            obtain ⟨x0, -, -, -, -⟩ := unhide HBX wr (unhide HN).1.bel
            clear HK6
            cases gk with
            | zero =>
              have hve : v = N := by omega
              rw [hve] at HN ⊢
              clear hve hvg
              have HE := hide (((unhide HN).2.2.last (unhide HRI) (unhide HSt) (unhide HQ).ev).uniq (unhide HPS))
              have HOw := hide (unhide HN).2.1
              have HBl := hide (unhide HW _ (unhide HN).1.bel)
              clear HN
              go_wp2
              rw [unhide HP]
              exact ⟨_, by rw [← (unhide HE).2]; rfl, by rw [← (unhide HE).1]; exact own_base (unhide HOw) (by omega), unhide HBl⟩
            | succ g' =>
              have hvN : v < N := by omega
              have hvI : (v : Int) < (N : Int) := by omega
              have hbd := (unhide HRI).bd v hvN
              have c1 := own_cell (unhide HN).1.own v (by rw [(unhide HRI).len]; exact hvN)
              rw [← Sp.getD_eq] at c1
              obtain ⟨u, hu⟩ : ∃ u : Nat, of.getD v 0 = (u : Int) := ⟨(of.getD v 0).toNat, by omega⟩
              have hnl := (unhide HN).2.2.len
              have c2 := own_cell (unhide HN).2.1 v (by rw [hnl]; exact hvN)
              have f2 := own_frozen (unhide HN).2.1 v
              generalize num[v]'_ = z2 at *
              rw [hu] at c1
              by_cases huv : u = v
              · subst huv
                have huB : ((u : Int) == (u : Int)) = true := beq_self_eq_true _
                have HN2 : Hid (PKeep (w.heap.size + 1) (w.heap.size + 1) N W1 (wr.setCell ⟨G, u, none⟩ (.int .i64 (k : Int))) of ∧ OwnI (wr.setCell ⟨G, u, none⟩ (.int .i64 (k : Int))) G (.slice (some ⟨G, 0, none⟩) N N) (num.set u (k : Int)) ∧ Sp.NumS of (num.set u (k : Int)) N (u + 1) (k + 1)) := hide ⟨(unhide HN).1.far hOG _ _, own_setCell (unhide HN).2.1 u (k : Int), (unhide HN).2.2.new (unhide HRI) hvN hu⟩
                clear HN hbd hu hnl
                go_wp2
                go_roundg g'
                case rel => exact ⟨u + 1, k + 1, _, by omega, by omega, by go_num, by go_num, HN2⟩
                case measure => omega
              · have huB : ((u : Int) == (v : Int)) = false := beq_eq_false_iff_ne.2 (by omega)
                have huI : ¬ (u : Int) = (v : Int) := by omega
                obtain ⟨huv', hns⟩ := (unhide HN).2.2.old (unhide HRI) (unhide HSt) (unhide HQ).ev hvN hu huv
                have c3 := own_cell (unhide HN).2.1 u (by rw [hnl]; omega)
                rw [← Sp.getD_eq] at c3
                have HN2 : Hid (PKeep (w.heap.size + 1) (w.heap.size + 1) N W1 (wr.setCell ⟨G, v, none⟩ (.int .i64 (num.getD u 0))) of ∧ OwnI (wr.setCell ⟨G, v, none⟩ (.int .i64 (num.getD u 0))) G (.slice (some ⟨G, 0, none⟩) N N) (num.set v (num.getD u 0)) ∧ Sp.NumS of (num.set v (num.getD u 0)) N (v + 1) k) := hide ⟨(unhide HN).1.far hOG _ _, own_setCell (unhide HN).2.1 v (num.getD u 0), hns⟩
                have huN : (u : Int) < (N : Int) := by omega
                clear HN hbd hu hnl hns
                generalize num.getD u 0 = z3 at *
                go_wp2
                go_roundg g'
                case rel => exact ⟨v + 1, k, _, by omega, by omega, by go_num, rfl, HN2⟩
                case measure => omega
end Go.Proofs.Ytoegjnolccabjab


