/- What the proof needs, part 14. -/
import Derived.Test.YtcdpgiklmonabaaL13
/- The law DualMakes, walked. -/
namespace Go.Proofs.Ytcdpgiklmonabaa
open Go Go.RowKit

/-- What is told of the dual of a plane net. -/
structure Sp.DualOk (D : Sp.Net) (n : Int) : Prop where
  link : Sp.LinkQ D
  check : Sp.checkI D = 0
  n0 : 1 ≤ D.n
  n1 : D.n ≤ 100
  count : ((max (Sp.faces2 D).2 1 : Nat) : Int) = n
  walk : Sp.walkB D = true
theorem Sp.dualOk_plane (ns : List Int) : Sp.DualOk (Sp.dual (Sp.plane ns)) (Sp.plane ns).n := by
  rcases Sp.dualQ_plane ns with e | h
  · rw [e]
    have e2 : Sp.dual ⟨1, [], [], []⟩ = Sp.q1 := q1_dual
    refine ⟨?_, ?_, ?_, ?_, ?_, ?_⟩
    · rw [e2]; exact q1_link
    · rw [e2]; exact q1_check
    · rw [e2]; decide
    · rw [e2]; decide
    · rw [e2, q1_faces2]; rfl
    · rw [e2]; decide +kernel
  · have hd := h.dualQ
    exact ⟨hd.link, hd.check, hd.n0, by have := hd.n1; omega, h.count, hd.walk⟩
set_option maxRecDepth 100000 in
set_option maxHeartbeats 4000000 in
theorem dualMakes_any (ns : List Int) (x : Value) (w : World) (hx : Ints w x ns) :
    Calls Try.prog 5 #[x] w fun e w' => e = .returned (.bool true) ∧ Below w.heap.size w w' := by
  obtain ⟨a, c, rfl, hc, hm⟩ := hx.form
  have HPL := hide (fun w' (hb : Below w.heap.size w w') => plane_any ns (.slice a ns.length c) w' (hx.below hb))
  have HOK := hide (Sp.plane_ok ns)
  have HLQ := hide (Sp.linkQ_plane ns)
  have HCk := hide (Sp.check_plane ns)
  have HDk := hide (Sp.dualOk_plane ns)
  generalize Sp.plane ns = q at *
  generalize ns.length = n at *
  clear hx
  obtain ⟨P, hP⟩ : ∃ P : Ending → World → Prop, P = fun e w' => e = .returned (.bool true) ∧ Below w.heap.size w w' := ⟨_, rfl⟩
  rw [← hP]
  have HP := hide hP
  clear hP
  go_enter Try.func5, Try.ntmps5
  go_wp2_with fail
  go_at_call 29
  refine (known3_any w).mono ?_
  rintro e w2 ⟨rfl, hb2⟩
  have Hb2 := hide hb2
  clear hb2
  go_wp2_with fail
  go_at_call 10
  refine (unhide HPL _ (unhide Hb2)).mono ?_
  clear HPL
  rintro e w3 ⟨v, tv, nv, cv, rfl, hnv, hb3⟩
  have hval := hnv.val
  subst hval
  obtain ⟨ta, tc, rfl, htc, htm, HT⟩ := hnv.netI.tail.allD
  obtain ⟨na, nc, rfl, -, -⟩ := hnv.netI.next.form
  obtain ⟨ca, cc, rfl, -, -⟩ := hnv.netI.cap.form
  obtain ⟨W4, hW4⟩ : ∃ W4, W4 = w3.alloc (.cells #[.int .i64 q.n, .slice ta q.tail.length tc, .slice na q.next.length nc, .slice ca q.cap.length cc] 25) := ⟨_, rfl⟩
  obtain ⟨hBX, hs4, hTR⟩ := boxed ((unhide Hb2).trans (hb3.mono (unhide Hb2).size)) hnv.netI W4 hW4
  have HBX := hide hBX
  have HTR := hide hTR
  have Hs4 := hide hs4
  have HW4 := hide hW4
  clear hnv hb3 Hb2 hBX hTR hs4 hW4
  have hb4 : Below (w3.heap.size + 1) W4 W4 := Below.refl _ _
  have HWK := hide ((unhide HOK).walk (by omega))
  have hn0 : 1 ≤ q.n := (unhide HOK).n0
  have hn1 : q.n ≤ 100 := by have := (unhide HOK).n1; omega
  have HMk := hide (fun w' (hb : Below (w3.heap.size + 1) W4 w') => dmake_any q _ _ _ _ w' (unhide HBX w' hb).2.1 (unhide HLQ))
  have HDn : Hid ((Sp.dual q).n = ((max (Sp.faces2 q).2 1 : Nat) : Int) ∧ (Sp.dual q).cap = q.cap) := hide ⟨rfl, rfl⟩
  have HMr0 := hide (fun w' v tv nv cv (h : NetI w' v q tv nv cv) => dmake2_any q v tv nv cv w' h (unhide HLQ))
  generalize hD : Sp.dual q = D at *
  clear hD
  clear htc htm HT
  obtain ⟨x0, x1, x2, x3⟩ := (unhide HBX W4 hb4).1
  go_wp2_with fail
  rw [← unhide HW4]
  go_at_call 30
  refine (unhide HMk W4 hb4).mono ?_
  clear x0 x1 x2 x3
  rintro e w5 ⟨v2, dv, ev, gv, rfl, hd5, hl5⟩
  have hval := hd5.val
  subst hval
  have hb5 := unhide HTR _ _ hb4 hl5
  obtain ⟨da, dc, rfl, -, -⟩ := hd5.netI.tail.form
  obtain ⟨ea, ec, rfl, -, -⟩ := hd5.netI.next.form
  obtain ⟨ga, gc, rfl, -, -⟩ := hd5.netI.cap.form
  clear hl5 hb4
  obtain ⟨W6, hW6⟩ : ∃ W6, W6 = w5.alloc (.cells #[.int .i64 D.n, .slice da D.tail.length dc, .slice ea D.next.length ec, .slice ga D.cap.length gc] 25) := ⟨_, rfl⟩
  obtain ⟨hBX2, hs6, hTR2⟩ := boxed (unhide HBX w5 hb5).2.2.1 hd5.netI W6 hW6
  have hs5 := (unhide HBX w5 hb5).2.2.2.1
  have HUP : Hid (∀ w', Below (w5.heap.size + 1) W6 w' → Below (w3.heap.size + 1) W4 w') := hide fun w' hb => hb5.trans ((hBX2 w' hb).2.2.2.2.mono hs5)
  have HBX2 := hide hBX2
  have HTR2 := hide hTR2
  have HW6 := hide hW6
  have Hs6 := hide hs6
  have HX1 := hide (fun w' (hb : Below (w5.heap.size + 1) W6 w') => (unhide HBX w' (unhide HUP w' hb)).1)
  have HX2 := hide (fun w' (hb : Below (w5.heap.size + 1) W6 w') => (unhide HBX2 w' hb).1)
  have HN1 := hide (fun w' (hb : Below (w5.heap.size + 1) W6 w') => (unhide HBX w' (unhide HUP w' hb)).2.1)
  have HN2 := hide (fun w' (hb : Below (w5.heap.size + 1) W6 w') => (unhide HBX2 w' hb).2.1)
  have HFi := hide (fun w' (hb : Below (w5.heap.size + 1) W6 w') => (unhide HBX w' (unhide HUP w' hb)).2.2.1)
  clear hd5 hb5 hBX2 hs6 hTR2 hW6 hs5 HUP HBX HTR HBX2
  have hb6 : Below (w5.heap.size + 1) W6 W6 := Below.refl _ _
  have HMr := hide (fun w' (hb : Below (w5.heap.size + 1) W6 w') => unhide HMr0 w' _ _ _ _ (unhide HN1 w' hb))
  have HSm : Hid (∀ w' v2 tv nv cv, Below (w5.heap.size + 1) W6 w' → NetI w' v2 D tv nv cv → Calls Try.prog 20 #[.agg #[.int .i64 D.n, .slice da D.tail.length dc, .slice ea D.next.length ec, .slice ga D.cap.length gc], v2] w' fun e w'' => e = .returned (.bool true) ∧ Below w'.heap.size w' w'') := hide fun w' v2 tv nv cv hb h2 => by
    have l1 : D.tail.length ≤ 1000001 := by have := (unhide HDk).link.le; omega
    have l2 : D.next.length ≤ 1000001 := by rw [(unhide HDk).link.nx]; exact l1
    have l3 : D.cap.length ≤ 1000001 := by rw [(unhide HDk).link.cp]; exact l1
    refine (same_any D D _ v2 _ _ _ _ _ _ w' (unhide HN2 w' hb) h2 ⟨l1, l2, l3⟩ ⟨l1, l2, l3⟩).mono fun e w'' ⟨a1, a2⟩ => ⟨?_, a2⟩
    rw [a1, netEq_refl]
  have HCd : Hid (∀ w', Below (w5.heap.size + 1) W6 w' → Calls Try.prog 13 #[.agg #[.int .i64 D.n, .slice da D.tail.length dc, .slice ea D.next.length ec, .slice ga D.cap.length gc]] w' fun e w'' => e = .returned (.int .i64 0) ∧ Below w'.heap.size w' w'') := hide fun w' hb => by
    have h := check2_any D _ _ _ _ w' (unhide HN2 w' hb) (by have := (unhide HDk).n0; omega) (by have := (unhide HDk).n1; omega)
    rw [(unhide HDk).check] at h
    exact h
  have HFm : Hid (∀ w', Below (w5.heap.size + 1) W6 w' → Calls Try.prog 16 #[.agg #[.int .i64 D.n, .slice da D.tail.length dc, .slice ea D.next.length ec, .slice ga D.cap.length gc]] w' fun e w'' => ∃ fv, e = .returned (.tuple #[fv, .int .i64 q.n]) ∧ Below w'.heap.size w' w'') := hide fun w' hb => by
    have h := faces2_any D _ _ _ _ w' (unhide HN2 w' hb) (unhide HDk).link.nx (by have := (unhide HDk).link.le; omega) (unhide HDk).link.ev (unhide HDk).link.pm
    rw [(unhide HDk).count] at h
    exact h.mono fun e w'' ⟨fv, a1, a2, a3⟩ => ⟨fv, a1, a3⟩
  have HFn : Hid (∀ w', Below (w5.heap.size + 1) W6 w' → Calls Try.prog 16 #[.agg #[.int .i64 q.n, .slice ta q.tail.length tc, .slice na q.next.length nc, .slice ca q.cap.length cc]] w' fun e w'' => ∃ fv, e = .returned (.tuple #[fv, .int .i64 D.n]) ∧ Below w'.heap.size w' w'') := hide fun w' hb => by
    have h := faces2_any q _ _ _ _ w' (unhide HN1 w' hb) (unhide HLQ).nx (by have := (unhide HLQ).le; omega) (unhide HLQ).ev (unhide HLQ).pm
    rw [← (unhide HDn).1] at h
    exact h.mono fun e w'' ⟨fv, a1, a2, a3⟩ => ⟨fv, a1, a3⟩
  have HIs : Hid (∀ w', Below (w5.heap.size + 1) W6 w' → Calls Try.prog 19 #[.slice ga D.cap.length gc, .slice ca q.cap.length cc] w' fun e w'' => e = .returned (.bool true) ∧ Below w'.heap.size w' w'') := hide fun w' hb => by
    have h1 := (unhide HN2 w' hb).cap
    have h2 := (unhide HN1 w' hb).cap
    have hl : q.cap.length ≤ 1000001 := by rw [(unhide HLQ).cp]; have := (unhide HLQ).le; omega
    refine (rInts_any D.cap q.cap _ _ w' h1 h2 (by rw [(unhide HDn).2]; exact hl) hl).mono fun e w'' ⟨a1, a2⟩ => ⟨?_, a2⟩
    rw [a1, decide_eq_true (unhide HDn).2]
  have e1 : (q.n == q.n) = true := beq_self_eq_true _
  have e2 : (D.n == D.n) = true := beq_self_eq_true _
  clear HMr0 HDk HDn HMk
  go_upto_region 5 with fail
  rw [← unhide HW6]
  go_cut [24] (fun s24 wx => s24 = .bool false ∧ Hid (Below (w5.heap.size + 1) W6 wx))
  case first =>
    have hb6 := hb6.drew
    refine wp_region_G (fun w' => (w'.cell? ⟨w3.heap.size, 0, none⟩ = some (.int .i64 q.n) ∧ w'.cell? ⟨w3.heap.size, 1, none⟩ = some (.slice ta q.tail.length tc) ∧ w'.cell? ⟨w3.heap.size, 2, none⟩ = some (.slice na q.next.length nc) ∧ w'.cell? ⟨w3.heap.size, 3, none⟩ = some (.slice ca q.cap.length cc)) ∧ w'.cell? ⟨w5.heap.size, 0, none⟩ = some (.int .i64 D.n) ∧ w'.cell? ⟨w5.heap.size, 1, none⟩ = some (.slice da D.tail.length dc) ∧ w'.cell? ⟨w5.heap.size, 2, none⟩ = some (.slice ea D.next.length ec) ∧ w'.cell? ⟨w5.heap.size, 3, none⟩ = some (.slice ga D.cap.length gc)) (fun _ => false) (by kernel_rfl) ⟨unhide HX1 _ hb6, unhide HX2 _ hb6⟩ (fun hHeld => ?_)
    generalize W6.drew = W7 at *
    refine wpAnyG_take (v := ?_) 0 (by rfl) (by kernel_rfl) (by kernel_rfl) (by kernel_rfl) (by kernel_rfl) (fun _ _ _ h => h) (Or.inl ⟨by rfl, ?_⟩) (by assumption) ?_
    rotate_left
    · (intro w' hSw; (try dsimp only at hSw); (try simp only [List.getElem_toArray, List.getElem_cons_zero]); go_simp; try (with_reducible rfl))
    simp only [Act.put, List.getElem_toArray, List.getElem_cons_zero, List.setIfInBounds_toArray, List.set_cons_zero, List.set_cons_succ]
    refine wpAnyG_take (v := ?_) 1 (by rfl) (by kernel_rfl) (by kernel_rfl) (by kernel_rfl) (by kernel_rfl) (fun _ _ _ h => h) (Or.inl ⟨by rfl, ?_⟩) (by assumption) ?_
    rotate_left
    · (intro w' hSw; (try dsimp only at hSw); (try simp only [List.getElem_toArray, List.getElem_cons_succ, List.getElem_cons_zero]); go_simp; try (with_reducible rfl))
    simp only [Act.put, List.getElem_toArray, List.getElem_cons_succ, List.getElem_cons_zero, List.setIfInBounds_toArray, List.set_cons_zero, List.set_cons_succ]
    refine wpAnyG_ready [2] (by kernel_rfl) (by simp) ?_
    refine AllReadyG.cons 2 (by rfl) (fun K hK => ?_) ?_
    · simp only [List.getElem_toArray, List.getElem_cons_succ, List.getElem_cons_zero]
      go_simp
      go_at_call 31
      refine (unhide HMr _ hb6).mono ?_
      rintro e w7 ⟨v7, tv7, nv7, cv7, rfl, hM7, hl7⟩
      have hb7 := unhide HTR2 _ _ hb6 hl7
      refine hK.out _ _ ⟨unhide HX1 _ hb7, unhide HX2 _ hb7⟩ (fun _ => ?_)
      clear hK K
      try simp only [Act.put, List.setIfInBounds_toArray, List.set_cons_zero, List.set_cons_succ]
      refine wpAnyG_ready [3] (by kernel_rfl) (by simp) ?_
      refine AllReadyG.cons 3 (by rfl) (fun K hK => ?_) ?_
      · simp only [List.getElem_toArray, List.getElem_cons_succ, List.getElem_cons_zero]
        go_simp
        go_at_call 20
        refine (unhide HSm _ _ _ _ _ hb7 hM7).mono ?_
        rintro e w8 ⟨rfl, hl8⟩
        have hb8 := unhide HTR2 _ _ hb7 hl8
        refine hK.out _ _ ⟨unhide HX1 _ hb8, unhide HX2 _ hb8⟩ (fun _ => ?_)
        clear hK K
        try simp only [Act.put, List.setIfInBounds_toArray, List.set_cons_zero, List.set_cons_succ]
        refine wpAnyG_take (v := ?_) 4 (by rfl) (by kernel_rfl) (by kernel_rfl) (by kernel_rfl) (by kernel_rfl) (fun _ _ _ h => h) (Or.inl ⟨by rfl, ?_⟩) (by assumption) ?_
        rotate_left
        · (intro w' hSw; (try dsimp only at hSw); (try simp only [List.getElem_toArray, List.getElem_cons_succ, List.getElem_cons_zero]); go_simp; try (with_reducible rfl))
        simp only [Act.put, List.getElem_toArray, List.getElem_cons_succ, List.getElem_cons_zero, List.setIfInBounds_toArray, List.set_cons_zero, List.set_cons_succ]
        refine wpAnyG_take (v := ?_) 5 (by rfl) (by kernel_rfl) (by kernel_rfl) (by kernel_rfl) (by kernel_rfl) (fun _ _ _ h => h) (Or.inl ⟨by rfl, ?_⟩) (by assumption) ?_
        rotate_left
        · (intro w' hSw; (try dsimp only at hSw); (try simp only [List.getElem_toArray, List.getElem_cons_succ, List.getElem_cons_zero]); go_simp; try (with_reducible rfl))
        simp only [Act.put, List.getElem_toArray, List.getElem_cons_succ, List.getElem_cons_zero, List.setIfInBounds_toArray, List.set_cons_zero, List.set_cons_succ]
        refine wpAnyG_take (v := ?_) 6 (by rfl) (by kernel_rfl) (by kernel_rfl) (by kernel_rfl) (by kernel_rfl) (fun _ _ _ h => h) (Or.inl ⟨by rfl, ?_⟩) (by assumption) ?_
        rotate_left
        · (intro w' hSw; (try dsimp only at hSw); (try simp only [List.getElem_toArray, List.getElem_cons_succ, List.getElem_cons_zero]); go_simp; try (with_reducible rfl))
        simp only [Act.put, List.getElem_toArray, List.getElem_cons_succ, List.getElem_cons_zero, List.setIfInBounds_toArray, List.set_cons_zero, List.set_cons_succ]
        refine wpAnyG_ready [7] (by kernel_rfl) (by simp) ?_
        refine AllReadyG.cons 7 (by rfl) (fun K hK => ?_) ?_
        · simp only [List.getElem_toArray, List.getElem_cons_succ, List.getElem_cons_zero]
          go_simp
          go_at_call 13
          refine (unhide HCd _ hb8).mono ?_
          rintro e w9 ⟨rfl, hl9⟩
          have hb9 := unhide HTR2 _ _ hb8 hl9
          refine hK.out _ _ ⟨unhide HX1 _ hb9, unhide HX2 _ hb9⟩ (fun _ => ?_)
          clear hK K
          try simp only [Act.put, List.setIfInBounds_toArray, List.set_cons_zero, List.set_cons_succ]
          refine wpAnyG_take (v := ?_) 8 (by rfl) (by kernel_rfl) (by kernel_rfl) (by kernel_rfl) (by kernel_rfl) (fun _ _ _ h => h) (Or.inl ⟨by rfl, ?_⟩) (by assumption) ?_
          rotate_left
          · (intro w' hSw; (try dsimp only at hSw); (try simp only [List.getElem_toArray, List.getElem_cons_succ, List.getElem_cons_zero]); go_simp; try (with_reducible rfl))
          simp only [Act.put, List.getElem_toArray, List.getElem_cons_succ, List.getElem_cons_zero, List.setIfInBounds_toArray, List.set_cons_zero, List.set_cons_succ]
          refine wpAnyG_take (v := ?_) 9 (by rfl) (by kernel_rfl) (by kernel_rfl) (by kernel_rfl) (by kernel_rfl) (fun _ _ _ h => h) (Or.inl ⟨by rfl, ?_⟩) (by assumption) ?_
          rotate_left
          · (intro w' hSw; (try dsimp only at hSw); (try simp only [List.getElem_toArray, List.getElem_cons_succ, List.getElem_cons_zero]); go_simp; try (with_reducible rfl))
          simp only [Act.put, List.getElem_toArray, List.getElem_cons_succ, List.getElem_cons_zero, List.setIfInBounds_toArray, List.set_cons_zero, List.set_cons_succ]
          refine wpAnyG_done (by kernel_rfl) ?_ _
          refine NoPanic.normal ?_
          go_wp2
          go_meet
          exact ⟨rfl, hide hb9⟩
        exact AllReadyG.nil
      exact AllReadyG.nil
    exact AllReadyG.nil
  case rest =>
    obtain ⟨wP, rfl⟩ : ∃ wP, wP = wc := ⟨_, rfl⟩
    obtain ⟨rfl, HBP⟩ := hcut
    clear hb6
    obtain ⟨y0, y1, y2, y3⟩ := unhide HX2 wP (unhide HBP)
    go_wp2_with fail
    go_at_call 16
    refine (unhide HFm wP (unhide HBP)).mono ?_
    rintro e w10 ⟨fv, rfl, hl10⟩
    have hb10 := unhide HTR2 _ _ (unhide HBP) hl10
    clear y0 y1 y2 y3 hl10 HBP
    obtain ⟨y0, y1, y2, y3⟩ := unhide HX1 w10 hb10
    go_wp2_with fail
    go_at_call 16
    refine (unhide HFn w10 hb10).mono ?_
    rintro e w11 ⟨fv2, rfl, hl11⟩
    have hb11 := unhide HTR2 _ _ hb10 hl11
    clear y0 y1 y2 y3 hl11 hb10
    obtain ⟨y0, y1, y2, y3⟩ := unhide HX1 w11 hb11
    obtain ⟨z0, z1, z2, z3⟩ := unhide HX2 w11 hb11
    go_wp2_with fail
    go_at_call 19
    refine (unhide HIs w11 hb11).mono ?_
    rintro e w12 ⟨rfl, hl12⟩
    have HF := hide (unhide HFi _ (unhide HTR2 _ _ hb11 hl12))
    clear y0 y1 y2 y3 z0 z1 z2 z3 hl12 hb11
    go_wp2
    rw [unhide HP]
    exact ⟨by rfl, unhide HF⟩
end Go.Proofs.Ytcdpgiklmonabaa


/- The law DualTwice, walked. -/
namespace Go.Proofs.Ytcdpgiklmonabaa
open Go Go.RowKit

/-- What is told of the dual's dual. -/
structure Sp.TwiceOk (q D : Sp.Net) : Prop where
  n : D.n = q.n
  nx : D.next = q.next
  tl : D.tail.length = q.tail.length
  same : ∀ x y, x < q.tail.length → y < q.tail.length → (D.tail.getD x 0 == D.tail.getD y 0) = (q.tail.getD x 0 == q.tail.getD y 0)
theorem Sp.DualQ.twice {q : Sp.Net} (h : Sp.DualQ q) : Sp.TwiceOk q (Sp.dual (Sp.dual q)) := by
  have hd := h.dualQ
  have hx : (Sp.dual (Sp.dual q)).next = q.next := by
    show Sp.behindL (Sp.behindL q.next) = q.next
    exact Sp.behind_twice (by rw [h.link.nx]; exact h.link.ev)
  have hl : (Sp.dual (Sp.dual q)).tail.length = q.tail.length := by
    show (Sp.faces2 (Sp.dual q)).1.length = _
    rw [Sp.faces2_len]
    exact Sp.faces2_len q
  refine ⟨h.count, hx, hl, fun x y hxl hyl => ?_⟩
  have hl1 : (Sp.dual q).tail.length = q.tail.length := Sp.faces2_len q
  have c1 := hd.cls
  have hb : Sp.behindL (Sp.dual q).next = q.next := hx
  rw [hb, hl1] at c1
  have c2 := h.pl.vert
  have hmp := h.mpN
  have b1 := hd.fb (i := x) (by rw [hl1]; exact hxl)
  have b2 := hd.fb (i := y) (by rw [hl1]; exact hyl)
  have b3 := h.tb _ (Sp.getD_mem (l := q.tail) hxl)
  have b4 := h.tb _ (Sp.getD_mem (l := q.tail) hyl)
  show ((Sp.faces2 (Sp.dual q)).1.getD x 0 == (Sp.faces2 (Sp.dual q)).1.getD y 0) = _
  rw [Bool.eq_iff_iff, beq_iff_eq, beq_iff_eq]
  constructor
  · intro e
    have ho := c1.sep x y hxl hyl (by show ((Sp.faces2 (Sp.dual q)).1.getD x 0).toNat = ((Sp.faces2 (Sp.dual q)).1.getD y 0).toNat; rw [e])
    have := c2.orb hmp hxl ho
    omega
  · intro e
    have ho := c2.sep x y hxl hyl (by show (q.tail.getD x 0).toNat = (q.tail.getD y 0).toNat; rw [e])
    have := c1.orb hmp hxl ho
    omega
theorem Sp.twiceOk_plane (ns : List Int) : Sp.TwiceOk (Sp.plane ns) (Sp.dual (Sp.dual (Sp.plane ns))) := by
  rcases Sp.dualQ_plane ns with e | h
  · rw [e]
    have e2 : Sp.dual ⟨1, [], [], []⟩ = Sp.q1 := q1_dual
    rw [e2, q1_dual]
    exact ⟨rfl, rfl, rfl, fun x y hx => absurd hx (Nat.not_lt_zero _)⟩
  · exact h.twice
set_option maxRecDepth 100000 in
set_option maxHeartbeats 4000000 in
theorem dualTwice_any (ns : List Int) (x : Value) (d e : Int) (w : World) (hx : Ints w x ns) :
    Calls Try.prog 6 #[x, .int .i64 d, .int .i64 e] w fun e w' => e = .returned (.bool true) ∧ Below w.heap.size w w' := by
  obtain ⟨a, c, rfl, hc, hm⟩ := hx.form
  have HPL := hide (fun w' (hb : Below w.heap.size w w') => plane_any ns (.slice a ns.length c) w' (hx.below hb))
  have HOK := hide (Sp.plane_ok ns)
  have HLQ := hide (Sp.linkQ_plane ns)
  have HCk := hide (Sp.check_plane ns)
  have HDk := hide (Sp.dualOk_plane ns)
  have HTw := hide (Sp.twiceOk_plane ns)
  generalize Sp.plane ns = q at *
  generalize ns.length = n at *
  clear hx
  obtain ⟨P, hP⟩ : ∃ P : Ending → World → Prop, P = fun e w' => e = .returned (.bool true) ∧ Below w.heap.size w w' := ⟨_, rfl⟩
  rw [← hP]
  have HP := hide hP
  clear hP
  go_enter Try.func6, Try.ntmps6
  go_wp2_with fail
  go_at_call 29
  refine (known3_any w).mono ?_
  rintro e w2 ⟨rfl, hb2⟩
  have Hb2 := hide hb2
  clear hb2
  go_wp2_with fail
  go_at_call 10
  refine (unhide HPL _ (unhide Hb2)).mono ?_
  clear HPL
  rintro e w3 ⟨v, tv, nv, cv, rfl, hnv, hb3⟩
  have hval := hnv.val
  subst hval
  obtain ⟨ta, tc, rfl, htc, htm, HT⟩ := hnv.netI.tail.allD
  obtain ⟨na, nc, rfl, -, -⟩ := hnv.netI.next.form
  obtain ⟨ca, cc, rfl, -, -⟩ := hnv.netI.cap.form
  obtain ⟨W4, hW4⟩ : ∃ W4, W4 = w3.alloc (.cells #[.int .i64 q.n, .slice ta q.tail.length tc, .slice na q.next.length nc, .slice ca q.cap.length cc] 25) := ⟨_, rfl⟩
  obtain ⟨hBX, hs4, hTR⟩ := boxed ((unhide Hb2).trans (hb3.mono (unhide Hb2).size)) hnv.netI W4 hW4
  have HBX := hide hBX
  have HTR := hide hTR
  have Hs4 := hide hs4
  have HW4 := hide hW4
  clear hnv hb3 Hb2 hBX hTR hs4 hW4
  have hb4 : Below (w3.heap.size + 1) W4 W4 := Below.refl _ _
  have HWK := hide ((unhide HOK).walk (by omega))
  have hn0 : 1 ≤ q.n := (unhide HOK).n0
  have hn1 : q.n ≤ 100 := by have := (unhide HOK).n1; omega
  have HMk := hide (fun w' (hb : Below (w3.heap.size + 1) W4 w') => dmake_any q _ _ _ _ w' (unhide HBX w' hb).2.1 (unhide HLQ))
  have HMd := hide (fun w' v tv nv cv (h : NetI w' v (Sp.dual q) tv nv cv) => dmake_any (Sp.dual q) v tv nv cv w' h (unhide HDk).link)
  generalize Sp.dual (Sp.dual q) = D at *
  generalize Sp.dual q = D1 at *
  clear htc htm
  obtain ⟨x0, x1, x2, x3⟩ := (unhide HBX W4 hb4).1
  go_wp2_with fail
  rw [← unhide HW4]
  go_at_call 30
  refine (unhide HMk W4 hb4).mono ?_
  clear x0 x1 x2 x3
  rintro e' w4 ⟨v1, dv1, ev1, gv1, rfl, hd4, hl4⟩
  have hb4' := unhide HTR _ _ hb4 hl4
  have HC1 := hide (unhide HMd w4 _ _ _ _ hd4.netI)
  clear hl4 hb4 hd4
  go_wp2_with fail
  go_at_call 30
  refine (unhide HC1).mono ?_
  rintro e' w5 ⟨v2, dv, ev, gv, rfl, hd5, hl5⟩
  have hval := hd5.val
  subst hval
  have hb5 := unhide HTR _ _ hb4' hl5
  obtain ⟨da, dc, rfl, -, -, HDt⟩ := hd5.netI.tail.allD
  obtain ⟨ea, ec, rfl, -, -⟩ := hd5.netI.next.form
  obtain ⟨ga, gc, rfl, -, -⟩ := hd5.netI.cap.form
  clear hl5 hb4' HC1 HMd HMk
  obtain ⟨W6, hW6⟩ : ∃ W6, W6 = w5.alloc (.cells #[.int .i64 D.n, .slice da D.tail.length dc, .slice ea D.next.length ec, .slice ga D.cap.length gc] 25) := ⟨_, rfl⟩
  obtain ⟨hBX2, hs6, hTR2⟩ := boxed (unhide HBX w5 hb5).2.2.1 hd5.netI W6 hW6
  have hs5 := (unhide HBX w5 hb5).2.2.2.1
  have HUP : Hid (∀ w', Below (w5.heap.size + 1) W6 w' → Below (w3.heap.size + 1) W4 w') := hide fun w' hb => hb5.trans ((hBX2 w' hb).2.2.2.2.mono hs5)
  have HBX2 := hide hBX2
  have HTR2 := hide hTR2
  have HW6 := hide hW6
  have HX1 := hide (fun w' (hb : Below (w5.heap.size + 1) W6 w') => (unhide HBX w' (unhide HUP w' hb)).1)
  have HX2 := hide (fun w' (hb : Below (w5.heap.size + 1) W6 w') => (unhide HBX2 w' hb).1)
  have HN1 := hide (fun w' (hb : Below (w5.heap.size + 1) W6 w') => (unhide HBX w' (unhide HUP w' hb)).2.1)
  have HN2 := hide (fun w' (hb : Below (w5.heap.size + 1) W6 w') => (unhide HBX2 w' hb).2.1)
  have HFi := hide (fun w' (hb : Below (w5.heap.size + 1) W6 w') => (unhide HBX w' (unhide HUP w' hb)).2.2.1)
  have HQt : Hid (∀ w' k, Below (w5.heap.size + 1) W6 w' → k < q.tail.length → ∃ b o, ta = some ⟨b, o, none⟩ ∧ w'.cell? ⟨b, o + k, none⟩ = some (.int .i64 (q.tail.getD k 0))) := hide fun w' k hb hk => by
    obtain ⟨b, o, e1, -, e2⟩ := unhide HT k hk
    exact ⟨b, o, e1, e2 w' (unhide HBX w' (unhide HUP w' hb)).2.2.2.2⟩
  have HDc : Hid (∀ w' k, Below (w5.heap.size + 1) W6 w' → k < q.tail.length → ∃ b o, da = some ⟨b, o, none⟩ ∧ w'.cell? ⟨b, o + k, none⟩ = some (.int .i64 (D.tail.getD k 0))) := hide fun w' k hb hk => by
    obtain ⟨b, o, e1, -, e2⟩ := unhide HDt k (by rw [(unhide HTw).tl]; exact hk)
    exact ⟨b, o, e1, e2 w' (unhide HBX2 w' hb).2.2.2.2⟩
  clear hd5 hb5 hBX2 hs6 hTR2 hW6 hs5 HUP HBX HTR HBX2 HT HDt
  have hb6 : Below (w5.heap.size + 1) W6 W6 := Below.refl _ _
  have HIs : Hid (∀ w', Below (w5.heap.size + 1) W6 w' → Calls Try.prog 19 #[.slice ea D.next.length ec, .slice na q.next.length nc] w' fun e w'' => e = .returned (.bool true) ∧ Below w'.heap.size w' w'') := hide fun w' hb => by
    have h1 := (unhide HN2 w' hb).next
    have h2 := (unhide HN1 w' hb).next
    have hl : q.next.length ≤ 1000001 := by rw [(unhide HLQ).nx]; have := (unhide HLQ).le; omega
    refine (rInts_any D.next q.next _ _ w' h1 h2 (by rw [(unhide HTw).nx]; exact hl) hl).mono fun e w'' ⟨a1, a2⟩ => ⟨?_, a2⟩
    rw [a1, decide_eq_true (unhide HTw).nx]
  have hDn : D.n = q.n := (unhide HTw).n
  have hDl : D.tail.length = q.tail.length := (unhide HTw).tl
  have HSm : Hid (∀ x y, x < q.tail.length → y < q.tail.length → (D.tail.getD x 0 == D.tail.getD y 0) = (q.tail.getD x 0 == q.tail.getD y 0)) := hide (unhide HTw).same
  have hl48 : q.tail.length ≤ 60 := (unhide HLQ).le
  rw [hDn, hDl] at HX2 HW6
  rw [hDn, hDl]
  generalize q.tail.length = ln at *
  have e1 : (q.n != q.n) = false := by simp
  have e2 : ((ln : Int) != (ln : Int)) = false := by simp
  clear HTw HN1 HN2 hDn hDl HDk
  obtain ⟨y0, y1, y2, y3⟩ := unhide HX1 W6 hb6
  obtain ⟨z0, z1, z2, z3⟩ := unhide HX2 W6 hb6
  go_upto_region 5 with fail
  rw [← unhide HW6]
  go_wp2_with fail
  go_at_call 19
  refine (unhide HIs W6 hb6).mono ?_
  rintro e' w7 ⟨rfl, hl7⟩
  have hb7 := unhide HTR2 _ _ hb6 hl7
  clear y0 y1 y2 y3 z0 z1 z2 z3 hl7 hb6
  obtain ⟨y0, y1, y2, y3⟩ := unhide HX1 w7 hb7
  obtain ⟨z0, z1, z2, z3⟩ := unhide HX2 w7 hb7
  by_cases hz : ln = 0
  · subst hz
    have HF := hide (unhide HFi _ hb7)
    go_wp2
    rw [unhide HP]
    exact ⟨by rfl, unhide HF⟩
  · have hzI : ¬ (ln : Int) = 0 := by omega
    have hzB : ((ln : Int) == 0) = false := beq_eq_false_iff_ne.2 hzI
    have HWd := hide (fun w' => within3_any d ln w' (by omega) (by omega))
    have HWe := hide (fun w' => within3_any e ln w' (by omega) (by omega))
    have d0 := Int.emod_nonneg d hzI
    have d1 : d % (ln : Int) < ln := Int.emod_lt_of_pos _ (by omega)
    have f0 := Int.emod_nonneg e hzI
    have f1 : e % (ln : Int) < ln := Int.emod_lt_of_pos _ (by omega)
    obtain ⟨xd, hxd⟩ : ∃ y : Nat, d % (ln : Int) = (y : Int) := ⟨(d % (ln : Int)).toNat, by omega⟩
    obtain ⟨xe, hxe⟩ : ∃ y : Nat, e % (ln : Int) = (y : Int) := ⟨(e % (ln : Int)).toNat, by omega⟩
    rw [hxd] at HWd d1
    rw [hxe] at HWe f1
    clear d0 f0 hxd hxe
    go_wp2
    go_quiet (first
      | (go_at_call_of 32 d
         exact Calls.quiet_of_same (unhide HWd _))
      | (go_at_call_of 32 e
         exact Calls.quiet_of_same (unhide HWe _)))
    have hb8 := below_dn hb7 nq
    clear y0 y1 y2 y3 z0 z1 z2 z3 hb7
    generalize w7.drewN nq = w8 at *
    obtain ⟨y0, y1, y2, y3⟩ := unhide HX1 w8 hb8
    obtain ⟨z0, z1, z2, z3⟩ := unhide HX2 w8 hb8
    have ld : xd < ln := by omega
    have le : xe < ln := by omega
    obtain ⟨tb, t0, rfl, c1⟩ := unhide HQt w8 xd hb8 ld
    obtain ⟨tb', t0', et, c2⟩ := unhide HQt w8 xe hb8 le
    injection et with et
    injection et with et1 et2
    subst et1 et2
    obtain ⟨sb, s0, rfl, c3⟩ := unhide HDc w8 xd hb8 ld
    obtain ⟨sb', s0', et, c4⟩ := unhide HDc w8 xe hb8 le
    injection et with et
    injection et with et1 et2
    subst et1 et2
    have hsm := unhide HSm xd xe ld le
    have HF := hide (fun k => unhide HFi _ (below_dn hb8 k))
    clear hb8 y0 y2 y3 z0 z2 z3
    generalize D.tail.getD xd 0 = p1 at *
    generalize D.tail.getD xe 0 = p2 at *
    generalize q.tail.getD xd 0 = p3 at *
    generalize q.tail.getD xe 0 = p4 at *
    by_cases hp : p3 = p4
    · subst hp
      have e3 : (p3 == p3) = true := beq_self_eq_true _
      rw [e3] at hsm
      go_wp2
      go_quiet (fail)
      go_wp2
      rw [unhide HP]
      exact ⟨by rfl, unhide HF _⟩
    · have e3 : (p3 == p4) = false := beq_eq_false_iff_ne.2 hp
      rw [e3] at hsm
      go_wp2
      go_quiet (fail)
      go_wp2
      rw [unhide HP]
      exact ⟨by rfl, unhide HF _⟩
end Go.Proofs.Ytcdpgiklmonabaa


