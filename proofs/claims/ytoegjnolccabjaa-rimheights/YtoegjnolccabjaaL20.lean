/- What the proof needs, part 20. -/
import Derived.Test.YtoegjnolccabjaaL19
/- The law RimHeights, walked. -/
namespace Go.Proofs.Ytoegjnolccabjaa
open Go Go.RowKit

/-- All is reached along arcs that are just as long as heights rise. -/
theorem Sp.Short.allT {far : Int} {L : List Sp.Arc} {s n : Nat} {D : Nat → Int} (hf : far ≠ 0) (h : Sp.Short far L s n D) {B : Nat → Bool} (h0 : B s = true) (hB : ∀ a ∈ L, B a.f = true → D a.t = D a.f + a.l → B a.t = true) :
    ∀ m v, Sp.Wk L s m v (D v) → B v = true
  | 0, v, hw => by
    obtain ⟨rfl, -⟩ := hw
    exact h0
  | m + 1, v, hw => by
    obtain ⟨a, ha, rfl, hw⟩ := hw
    have h1 := h.low hf m a.f _ hw
    have h2 := h.arc a ha h1.1
    have h3 : D a.t - a.l = D a.f := by omega
    rw [h3] at hw
    exact hB a ha (Sp.Short.allT hf h h0 hB m a.f hw) (by omega)
theorem Sp.shared_same (q : Sp.Net) (s : Int) : (Sp.shared q s s).2 = false := by
  unfold Sp.shared
  rw [if_pos rfl]
set_option maxRecDepth 100000 in
set_option maxHeartbeats 16000000 in
theorem rimHeights_any (ns : List Int) (x : Value) (s t : Int) (w : World) (hx : Ints w x ns) :
    Calls Try.prog 5 #[x, .int .i64 s, .int .i64 t] w fun e w' => e = .returned (.bool true) ∧ Below w.heap.size w w' := by
  obtain ⟨a, c, rfl, hc, hm⟩ := hx.form
  have HPL := hide (fun w' (hb : Below w.heap.size w w') => plane_any ns (.slice a ns.length c) w' (hx.below hb))
  have HOK := hide (Sp.plane_ok ns)
  have HLQ := hide (Sp.linkQ_plane ns)
  have HCk := hide (Sp.check_plane ns)
  have HRQ := hide (Sp.rimQ_plane ns)
  have HDQ := hide (Sp.dualQ_pos ns)
  generalize Sp.plane ns = q at *
  generalize ns.length = n at *
  clear hx
  obtain ⟨P, hP⟩ : ∃ P : Ending → World → Prop, P = fun e w' => e = .returned (.bool true) ∧ Below w.heap.size w w' := ⟨_, rfl⟩
  rw [← hP]
  have HP := hide hP
  clear hP
  go_enter Try.func5, Try.ntmps5
  go_wp2_with fail
  go_at_call 9
  refine (known8_any w).mono ?_
  rintro e w2 ⟨rfl, hb2⟩
  have Hb2 := hide hb2
  clear hb2
  go_wp2_with fail
  go_at_call 10
  refine (unhide HPL _ (unhide Hb2)).mono ?_
  clear HPL
  rintro e w3 ⟨v, tv, nv, cv, rfl, hnv, hb3⟩
  have hval := hnv.val
  subst hval
  obtain ⟨ta, tc, rfl, htc, htm, HT⟩ := hnv.netI.tail.allD
  obtain ⟨na, nc, rfl, -, -⟩ := hnv.netI.next.form
  obtain ⟨ca, cc, rfl, -, -⟩ := hnv.netI.cap.form
  obtain ⟨W4, hW4⟩ : ∃ W4, W4 = w3.alloc (.cells #[.int .i64 q.n, .slice ta q.tail.length tc, .slice na q.next.length nc, .slice ca q.cap.length cc] 25) := ⟨_, rfl⟩
  obtain ⟨hBX, hs4, hTR⟩ := boxed ((unhide Hb2).trans (hb3.mono (unhide Hb2).size)) hnv.netI W4 hW4
  have HBX := hide hBX
  have HTR := hide hTR
  have Hs4 := hide hs4
  have HW4 := hide hW4
  clear hnv hb3 Hb2 hBX hTR hs4 hW4
  have hb4 : Below (w3.heap.size + 1) W4 W4 := Below.refl _ _
  have HWK := hide ((unhide HOK).walk (by omega))
  have hn0 : 1 ≤ q.n := (unhide HOK).n0
  have hn1 : q.n ≤ 100 := by have := (unhide HOK).n1; omega
  go_upto_region 4 with fail
  rw [← unhide HW4]
  go_cut [8, 9] (fun s8 s9 w' => s8 = .int .i64 (s % q.n) ∧ s9 = .int .i64 (t % q.n) ∧ Hid (Below (w3.heap.size + 1) W4 w'))
  case first =>
    have hbq : Below (w3.heap.size + 1) W4 W4.drew := hb4.drew
    refine wp_region_G (fun w' => w'.cell? ⟨w3.heap.size, 0, none⟩ = some (.int .i64 q.n) ∧ w'.cell? ⟨w3.heap.size, 1, none⟩ = some (.slice ta q.tail.length tc) ∧ w'.cell? ⟨w3.heap.size, 2, none⟩ = some (.slice na q.next.length nc) ∧ w'.cell? ⟨w3.heap.size, 3, none⟩ = some (.slice ca q.cap.length cc)) (fun _ => false) (by kernel_rfl) (unhide HBX _ hbq).1 (fun hHeld => ?_)
    generalize W4.drew = wq at *
    refine wpAnyG_take (v := ?_) 0 (by rfl) (by kernel_rfl) (by kernel_rfl) (by kernel_rfl) (by kernel_rfl) (fun _ _ _ h => h) (Or.inl ⟨by rfl, ?_⟩) (by assumption) ?_
    rotate_left
    · (intro w' hSw; (try dsimp only at hSw); (try simp only [List.getElem_toArray, List.getElem_cons_zero]); go_simp; try (with_reducible rfl))
    simp only [Act.put, List.getElem_toArray, List.getElem_cons_zero, List.setIfInBounds_toArray, List.set_cons_zero, List.set_cons_succ]
    refine wpAnyG_take (v := ?_) 1 (by rfl) (by kernel_rfl) (by kernel_rfl) (by kernel_rfl) (by kernel_rfl) (fun _ _ _ h => h) (Or.inl ⟨by rfl, ?_⟩) (by assumption) ?_
    rotate_left
    · (intro w' hSw; (try dsimp only at hSw); (try simp only [List.getElem_toArray, List.getElem_cons_succ, List.getElem_cons_zero]); go_simp; try (with_reducible rfl))
    simp only [Act.put, List.getElem_toArray, List.getElem_cons_succ, List.getElem_cons_zero, List.setIfInBounds_toArray, List.set_cons_zero, List.set_cons_succ]
    refine wpAnyG_take (v := ?_) 2 (by rfl) (by kernel_rfl) (by kernel_rfl) (by kernel_rfl) (by kernel_rfl) (fun _ _ _ h => h) (Or.inl ⟨by rfl, ?_⟩) (by assumption) ?_
    rotate_left
    · (intro w' hSw; (try dsimp only at hSw); (try simp only [List.getElem_toArray, List.getElem_cons_succ, List.getElem_cons_zero]); go_simp; try (with_reducible rfl))
    simp only [Act.put, List.getElem_toArray, List.getElem_cons_succ, List.getElem_cons_zero, List.setIfInBounds_toArray, List.set_cons_zero, List.set_cons_succ]
    refine wpAnyG_take (v := ?_) 4 (by rfl) (by kernel_rfl) (by kernel_rfl) (by kernel_rfl) (by kernel_rfl) (fun _ _ _ h => h) (Or.inl ⟨by rfl, ?_⟩) (by assumption) ?_
    rotate_left
    · (intro w' hSw; (try dsimp only at hSw); (try simp only [List.getElem_toArray, List.getElem_cons_succ, List.getElem_cons_zero]); go_simp; try (with_reducible rfl))
    simp only [Act.put, List.getElem_toArray, List.getElem_cons_succ, List.getElem_cons_zero, List.setIfInBounds_toArray, List.set_cons_zero, List.set_cons_succ]
    refine wpAnyG_take (v := ?_) 5 (by rfl) (by kernel_rfl) (by kernel_rfl) (by kernel_rfl) (by kernel_rfl) (fun _ _ _ h => h) (Or.inl ⟨by rfl, ?_⟩) (by assumption) ?_
    rotate_left
    · (intro w' hSw; (try dsimp only at hSw); (try simp only [List.getElem_toArray, List.getElem_cons_succ, List.getElem_cons_zero]); go_simp; try (with_reducible rfl))
    simp only [Act.put, List.getElem_toArray, List.getElem_cons_succ, List.getElem_cons_zero, List.setIfInBounds_toArray, List.set_cons_zero, List.set_cons_succ]
    refine wpAnyG_take (v := ?_) 6 (by rfl) (by kernel_rfl) (by kernel_rfl) (by kernel_rfl) (by kernel_rfl) (fun _ _ _ h => h) (Or.inl ⟨by rfl, ?_⟩) (by assumption) ?_
    rotate_left
    · (intro w' hSw; (try dsimp only at hSw); (try simp only [List.getElem_toArray, List.getElem_cons_succ, List.getElem_cons_zero]); go_simp; try (with_reducible rfl))
    simp only [Act.put, List.getElem_toArray, List.getElem_cons_succ, List.getElem_cons_zero, List.setIfInBounds_toArray, List.set_cons_zero, List.set_cons_succ]
    refine wpAnyG_ready [3] (by kernel_rfl) (by simp) ?_
    refine AllReadyG.cons 3 (by rfl) (fun K hK => ?_) ?_
    · simp only [List.getElem_toArray, List.getElem_cons_succ, List.getElem_cons_zero]
      go_simp
      go_at_call 11
      refine (within8_any s q.n _ (by omega) (by omega)).mono ?_
      rintro e wc1 ⟨rfl, hlc1⟩
      have hlc1' := hlc1.symm
      clear hlc1
      subst hlc1'
      refine hK.out _ _ (unhide HBX _ hbq).1 (fun _ => ?_)
      clear hK K
      try simp only [Act.put, List.setIfInBounds_toArray, List.set_cons_zero, List.set_cons_succ]
      refine wpAnyG_ready [7] (by kernel_rfl) (by simp) ?_
      refine AllReadyG.cons 7 (by rfl) (fun K hK => ?_) ?_
      · simp only [List.getElem_toArray, List.getElem_cons_succ, List.getElem_cons_zero]
        go_simp
        go_at_call 11
        refine (within8_any t q.n _ (by omega) (by omega)).mono ?_
        rintro e wc2 ⟨rfl, hlc2⟩
        have hlc2' := hlc2.symm
        clear hlc2
        subst hlc2'
        refine hK.out _ _ (unhide HBX _ hbq).1 (fun _ => ?_)
        clear hK K
        try simp only [Act.put, List.setIfInBounds_toArray, List.set_cons_zero, List.set_cons_succ]
        refine wpAnyG_take (v := ?_) 8 (by rfl) (by kernel_rfl) (by kernel_rfl) (by kernel_rfl) (by kernel_rfl) (fun _ _ _ h => h) (Or.inl ⟨by rfl, ?_⟩) (by assumption) ?_
        rotate_left
        · (intro w' hSw; (try dsimp only at hSw); (try simp only [List.getElem_toArray, List.getElem_cons_succ, List.getElem_cons_zero]); go_simp; try (with_reducible rfl))
        simp only [Act.put, List.getElem_toArray, List.getElem_cons_succ, List.getElem_cons_zero, List.setIfInBounds_toArray, List.set_cons_zero, List.set_cons_succ]
        refine wpAnyG_take (v := ?_) 9 (by rfl) (by kernel_rfl) (by kernel_rfl) (by kernel_rfl) (by kernel_rfl) (fun _ _ _ h => h) (Or.inl ⟨by rfl, ?_⟩) (by assumption) ?_
        rotate_left
        · (intro w' hSw; (try dsimp only at hSw); (try simp only [List.getElem_toArray, List.getElem_cons_succ, List.getElem_cons_zero]); go_simp; try (with_reducible rfl))
        simp only [Act.put, List.getElem_toArray, List.getElem_cons_succ, List.getElem_cons_zero, List.setIfInBounds_toArray, List.set_cons_zero, List.set_cons_succ]
        refine wpAnyG_done (by kernel_rfl) ?_ _
        refine NoPanic.normal ?_
        clear hHeld
        have HBq := hide hbq
        go_wp2
        go_meet
        exact ⟨rfl, rfl, HBq⟩
      exact AllReadyG.nil
    exact AllReadyG.nil
  case rest =>
    obtain ⟨rfl, rfl, HBq⟩ := hcut
    have hb5 := unhide HBq
    clear HBq hb4
    generalize wc = w5 at *
    have hs0 : 0 ≤ s % q.n := Int.emod_nonneg s (by omega)
    have hs1 : s % q.n < q.n := Int.emod_lt_of_pos s (by omega)
    have ht0 : 0 ≤ t % q.n := Int.emod_nonneg t (by omega)
    have ht1 : t % q.n < q.n := Int.emod_lt_of_pos t (by omega)
    generalize s % q.n = s1 at *
    generalize t % q.n = t1 at *
    obtain ⟨x0, x1, x2, x3⟩ := (unhide HBX _ hb5).1
    go_wp2_with fail
    go_at_call 12
    rcases Sp.rim_cases (unhide HRQ) s1 t1 with he | ⟨-, -, hst, hE, f, d0, a, jb, hs⟩
    · have hsh : (Sp.shared q s1 t1).2 = false := by
        rcases Sp.rimE_none ⟨hs0, hs1⟩ ⟨ht0, ht1⟩ he with h | h
        · rw [h.2]; exact Sp.shared_same q t1
        · exact h.2.2
      have e1 : (Sp.rimE q s1 t1 != 0) = true := bne_iff_ne.2 he
      refine (rmheights_err q _ _ _ _ s1 t1 _ (unhide HBX _ hb5).2.1 (unhide HRQ) he).mono ?_
      rintro e w6 ⟨rfl, hl⟩
      have hb6 := unhide HTR _ _ hb5 hl
      have HS2 := hide (split2None_any q _ _ _ _ s1 t1 w6 (unhide HBX _ hb6).2.1 (unhide HLQ) hsh)
      clear x0 x1 x2 x3 hl he hsh
      generalize Sp.rimE q s1 t1 = E at *
      obtain ⟨x0, x1, x2, x3⟩ := (unhide HBX _ hb6).1
      go_wp2_with fail
      go_at_call 21
      refine (unhide HS2).mono ?_
      rintro e w7 ⟨rfl, hl⟩
      have hb7 := unhide HTR _ _ hb6 hl
      have HF := hide (unhide HBX _ hb7).2.2.1
      clear x0 x1 x2 x3 hl HS2
      go_wp2
      rw [unhide HP]
      exact ⟨by rfl, unhide HF⟩
    · refine (rmheights_yes q _ _ _ _ s1 t1 _ (unhide HBX _ hb5).2.1 (unhide HRQ) f d0 a jb ⟨hs0, hs1⟩ ⟨ht0, ht1⟩ hst hs).mono ?_
      rintro e w6 ⟨G, D, rfl, hG, hR, hl, hD⟩
      have hb6 := unhide HTR _ _ hb5 hl
      have HS2 := hide (split2_any q _ _ _ _ s1 t1 f d0 a jb w6 (unhide HBX _ hb6).2.1 (unhide HLQ) hs)
      clear x0 x1 x2 x3 hl
      have hml : 0 < q.tail.length := by have := hs.d0l; omega
      have hm48 : q.tail.length ≤ 48 := (unhide HRQ).le
      have hev := (unhide HRQ).link.ev
      have hq2 := unhide HDQ hml
      have hcl : q.cap.length = q.tail.length := (unhide HOK).cp
      have Hcl := hide hcl
      have hkk : max (Sp.faces2 q).2 1 = Sp.landK q := rfl
      have hfK : f < Sp.landK q := by rw [← hkk]; exact (hq2.halves hs).fK
      have hN49 := (unhide HRQ).kle
      have hnear := hq2.near (unhide HRQ) hs hst hD.1
      have hD0 : D f = 0 := hD.1.src
      have HDb : Hid (∀ v, v < Sp.landK q + 1 → 0 ≤ D v ∧ D v < 1152921504606846976) := hide fun v hv => ⟨Sp.short_nn hD.1 ((unhide HRQ).posR _ _) hv, hD.2 v hv (hnear v hv)⟩
      have HFr : Hid (∀ d, d < q.tail.length → 0 ≤ (Sp.splitL q f d0 a jb).getD d 0 ∧ (Sp.splitL q f d0 a jb).getD d 0 < ((Sp.landK q + 1 : Nat) : Int)) := hide fun d hd => (unhide HRQ).rng hs hd
      have HSh : Hid (∀ d, d < q.tail.length → D ((Sp.splitL q f d0 a jb).getD (Sp.oth d) 0).toNat ≤ D ((Sp.splitL q f d0 a jb).getD d 0).toNat + q.cap.getD d 0) := hide fun d hd => by
        have h1 := unhide HFr d hd
        exact (hD.1.arc (Sp.rimA _ _ d) (Sp.mem_rimR.2 ⟨d, hd, rfl⟩) (hnear _ (by show ((Sp.splitL q f d0 a jb).getD d 0).toNat < _; omega))).2
      have HTi : Hid (∀ B : Nat → Bool, B f = true → (∀ d, d < q.tail.length → B ((Sp.splitL q f d0 a jb).getD d 0).toNat = true → D ((Sp.splitL q f d0 a jb).getD (Sp.oth d) 0).toNat = D ((Sp.splitL q f d0 a jb).getD d 0).toNat + q.cap.getD d 0 → B ((Sp.splitL q f d0 a jb).getD (Sp.oth d) 0).toNat = true) → ∀ v, v < Sp.landK q + 1 → B v = true) := hide fun B h0 hB v hv => by
        obtain ⟨m, hm⟩ := hD.1.att v hv (hnear v hv)
        refine hD.1.allT (by decide) h0 (fun x hx => ?_) m v hm
        obtain ⟨d, hd, rfl⟩ := Sp.mem_rimR.1 hx
        exact hB d hd
      have HCb : Hid (∀ d, d < q.tail.length → 0 ≤ q.cap.getD d 0 ∧ q.cap.getD d 0 ≤ 2147483648) := hide fun d hd => (unhide HRQ).cb _ (Sp.getD_mem (by omega))
      have HFl : Hid ((Sp.splitL q f d0 a jb).length = q.tail.length) := hide (Sp.splitL_len q f d0 a jb)
      clear hD hnear hq2 HDQ hE HOK HWK HCk HLQ hs
      generalize Sp.splitL q f d0 a jb = FO at *
      rw [hkk] at HS2
      obtain ⟨K, hK⟩ : ∃ K, Sp.landK q = K := ⟨_, rfl⟩
      obtain ⟨N, hN⟩ : ∃ N, K + 1 = N := ⟨_, rfl⟩
      have hNI : ((K : Nat) : Int) + 1 = (N : Int) := by omega
      rw [hK, hNI] at HS2
      rw [hK] at hfK hN49 HDb HFr HTi hR ⊢
      rw [hN] at hN49 HDb HFr HTi hR ⊢
      have hKN : K < N := by omega
      have hfN : f < N := by omega
      have hfI : (f : Int) < (N : Int) := by omega
      have hKI : (K : Int) < (N : Int) := by omega
      clear hkk hK hN hNI hcl
      obtain ⟨x0, x1, x2, x3⟩ := (unhide HBX _ hb6).1
      go_wp2_with fail
      go_at_call 21
      refine (unhide HS2).mono ?_
      rintro e w7 ⟨O, oc, rfl, hO, hl⟩
      have hb7 := unhide HTR _ _ hb6 hl
      have Hb7 := hide hb7
      have HR7 : Hid (∀ w', Below w7.heap.size w7 w' → RowAt w' G N D) := hide fun w' hb => (hR.below hl).below hb
      have HOc : Hid (∀ w', Below w7.heap.size w7 w' → ∀ d, d < q.tail.length → w'.cell? ⟨O, d, none⟩ = some (.int .i64 (FO.getD d 0))) := hide fun w' hb d hd => by
        obtain ⟨b, o, e, -, h1⟩ := hO.ints.at_ d (by rw [unhide HFl]; exact hd)
        injection e with e
        injection e with q1 q2
        have h2 := h1 w' hb
        rw [← q1, ← q2, Nat.zero_add] at h2
        exact h2
      have HT7 : Hid (∀ w', Below w7.heap.size w7 w' → Below (w3.heap.size + 1) W4 w') := hide fun w' hb => unhide HTR _ _ (unhide Hb7) hb
      clear x0 x1 x2 x3 hl HS2 hR hO hb5 hb6 hb7 HFl HT HTR
      have c0 := (unhide HR7 w7 (Below.refl _ _)).cell hfN
      rw [hD0] at c0
      have e2 : (((N : Nat) : Int) != ((N : Nat) : Int)) = false := bne_self_eq_false _
      go_wp2_with (at_make; refine wpList_mkB rfl _ _ rfl w7.heap.size N rfl rfl (by omega) (Nat.le_refl _) ?_)
      intro w8 hr8 hb8
      obtain ⟨M, hM⟩ : ∃ M, w7.heap.size = M := ⟨_, rfl⟩
      rw [hM] at hr8 ⊢
      have HMe := hide (show w7.heap.size ≤ M by omega)
      have c9 := hr8.cell hfN
      have f9 := fun i => hr8.frozen i none
      obtain ⟨w9, hw9⟩ : ∃ w9, w9 = w8.setCell ⟨M, f, none⟩ (.bool true) := ⟨_, rfl⟩
      have HI9 : Hid (Below w7.heap.size w7 w9 ∧ RowB w9 M N (Sp.updB (fun _ => false) f true) ∧ Sp.updB (fun _ => false) f true f = true) := hide (by
        rw [hw9]
        exact ⟨hb8.setCell (p := ⟨M, f, none⟩) (unhide HMe) _, hr8.set f true, by simp [Sp.updB]⟩)
      clear hr8 hb8 hM c0
      go_wp2
      rw [← hw9]
      clear hw9 c9 f9
      obtain ⟨B0, hB0⟩ : ∃ B0 : Nat → Bool, Sp.updB (fun _ => false) f true = B0 := ⟨_, rfl⟩
      rw [hB0] at HI9
      clear hB0
      have HDz := hide hD0
      clear hD0
      go_loopg [18] q.tail.length (fun g s18 wr => ∃ d : Nat, d + g = q.tail.length ∧ s18 = .int .i64 (d : Int) ∧ Hid (Below w7.heap.size w7 wr ∧ RowB wr M N B0 ∧ B0 f = true))
      case atStart => exact ⟨0, by omega, rfl, HI9⟩
      case round =>
        clear HI9
        obtain ⟨d, hdg, rfl, HI⟩ := hrel
        obtain ⟨x0, x1, x2, x3⟩ := (unhide HBX wr (unhide HT7 _ (unhide HI).1)).1
        cases gk with
        | succ g' =>
          have hd : d < q.tail.length := by omega
          have hdI : (d : Int) < (q.tail.length : Int) := by omega
          have ho := oth_lt hd hev
          have hoI : ((Sp.oth d : Nat) : Int) < (q.tail.length : Int) := by omega
          have hdC : (d : Int) < (q.cap.length : Int) := by rw [unhide Hcl]; omega
          have hX : bits .xor .i64 (d : Int) 1 = ((Sp.oth d : Nat) : Int) := xor_oth ⟨d, by omega⟩
          obtain ⟨bc, oc2, rfl, -, hcc⟩ := (unhide HBX w7 (unhide Hb7)).2.1.cap.at_ d (by rw [unhide Hcl]; exact hd)
          have r1 := unhide HFr d hd
          have r2 := unhide HFr _ ho
          obtain ⟨x, hx⟩ : ∃ x : Nat, FO.getD d 0 = (x : Int) := ⟨_, (Int.toNat_of_nonneg r1.1).symm⟩
          obtain ⟨y, hy⟩ : ∃ y : Nat, FO.getD (Sp.oth d) 0 = (y : Int) := ⟨_, (Int.toNat_of_nonneg r2.1).symm⟩
          have hx1 : x < N := by omega
          have hy1 : y < N := by omega
          have hxI : (x : Int) < (N : Int) := by omega
          have hyI : (y : Int) < (N : Int) := by omega
          have b1 := unhide HSh d hd
          rw [hx, hy, Int.toNat_natCast, Int.toNat_natCast] at b1
          have b2 := unhide HDb x hx1
          have b3 := unhide HDb y hy1
          have b4 := unhide HCb d hd
          have c5 := hcc wr (unhide HI).1
          have c1 := unhide HOc wr (unhide HI).1 d hd
          have c2 := unhide HOc wr (unhide HI).1 _ ho
          have c3 := (unhide HR7 wr (unhide HI).1).cell hx1
          have c4 := (unhide HR7 wr (unhide HI).1).cell hy1
          rw [hx] at c1
          rw [hy] at c2
          generalize q.cap.getD d 0 = z at *
          generalize D x = px at *
          generalize D y = py at *
          have hw1 : IntKind.i64.wrap (py - px) = py - px := by rw [IntKind.wrap_i64]; omega
          have n1 : ¬ z < py - px := by omega
          have n2 : decide (py - px > z) = false := decide_eq_false (by omega)
          have HI2 : Hid (∀ n, Below w7.heap.size w7 (wr.drewN n) ∧ RowB (wr.drewN n) M N B0 ∧ B0 f = true) := hide fun n => ⟨below_dn (unhide HI).1 n, (unhide HI).2.1.of_block rfl, (unhide HI).2.2⟩
          clear hcc HI b1 b2 b3 b4 hx hy r1 r2
          go_wp2
          go_quiet (fail)
          have HI3 := hide (unhide HI2 nq)
          clear HI2 c1 c2 c3 c4 c5 x0 x1 x2 x3
          generalize wr.drewN nq = wq at *
          go_wp2
          go_roundg g'
          case rel => exact ⟨d + 1, by omega, by go_num, HI3⟩
          case measure => omega
        | zero =>
          have hie : d = q.tail.length := by omega
          rw [hie]
          clear hie hdg
          go_wp2
          clear x0 x1 x2 x3
          go_loopg [19] (N + 1) (fun g s19 wr => ∃ (B : Nat → Bool) (ag : Bool), s19 = .bool ag ∧ Hid (Below w7.heap.size w7 wr ∧ RowB wr M N B ∧ B f = true) ∧ Hid ((ag = true → Sp.ct (fun v => !B v) N + 1 ≤ g) ∧ (ag = false → ∀ v, v < N → B v = true)))
          case atStart => exact ⟨B0, true, rfl, HI, hide ⟨fun _ => by have := Sp.ct_le (fun v => !B0 v) N; omega, fun h => by cases h⟩⟩
          case round =>
            clear HI
            obtain ⟨B, ag, rfl, HI, HM⟩ := hrel
            cases ag with
            | false =>
              have HC := hide ((unhide HM).2 rfl)
              clear HM
              go_wp2
              go_loopg [21] N (fun g s21 wr => ∃ i : Nat, i + g = N ∧ s21 = .int .i64 (i : Int) ∧ Hid (Below w7.heap.size w7 wr ∧ RowB wr M N B))
              case atStart => exact ⟨0, by omega, rfl, hide ⟨(unhide HI).1, (unhide HI).2.1⟩⟩
              case round =>
                clear HI
                obtain ⟨i, hig, rfl, HI⟩ := hrel
                cases gk with
                | succ g' =>
                  have hi : i < N := by omega
                  have hiI : (i : Int) < (N : Int) := by omega
                  have c1 := (unhide HI).2.cell hi
                  rw [unhide HC i hi] at c1
                  go_wp2
                  go_roundg g'
                  case rel => exact ⟨i + 1, by omega, by go_num, HI⟩
                  case measure => omega
                | zero =>
                  have hie : i = N := by omega
                  rw [hie]
                  clear hie hig
                  have c1 := (unhide HR7 wr (unhide HI).1).cell hKN
                  have b1 := unhide HDb K hKN
                  have n1 : decide (D K ≥ 0) = true := decide_eq_true b1.1
                  have HF := hide (unhide HBX _ (unhide HT7 _ (unhide HI).1)).2.2.1
                  generalize D K = dk at *
                  have n2 : 0 ≤ dk := b1.1
                  go_wp2
                  rw [unhide HP]
                  exact ⟨by rfl, unhide HF⟩
            | true =>
              cases gk with
              | zero => exact absurd ((unhide HM).1 rfl) (by omega)
              | succ g1 =>
                have HM1 : Hid (Sp.ct (fun v => !B v) N ≤ g1) := hide (by have := (unhide HM).1 rfl; omega)
                clear HM
                go_wp2
                go_loopg [19, 20] q.tail.length (fun g s19 s20 wr => ∃ (d : Nat) (B' : Nat → Bool) (ag : Bool), d + g = q.tail.length ∧ s19 = .bool ag ∧ s20 = .int .i64 (d : Int) ∧ Hid (Below w7.heap.size w7 wr ∧ RowB wr M N B' ∧ B' f = true) ∧ Hid ((ag = true → Sp.ct (fun v => !B' v) N + 1 ≤ g1) ∧ (ag = false → ∀ k, k < d → B' (FO.getD k 0).toNat = true → D (FO.getD (Sp.oth k) 0).toNat = D (FO.getD k 0).toNat + q.cap.getD k 0 → B' (FO.getD (Sp.oth k) 0).toNat = true) ∧ Sp.ct (fun v => !B' v) N ≤ g1))
                case atStart => exact ⟨0, B, false, by omega, rfl, rfl, HI, hide ⟨fun h => by (cases h), fun _ k hk => by omega, unhide HM1⟩⟩
                case round =>
                  clear HI HM1
                  obtain ⟨d, B', ag, hdg, rfl, rfl, HI, HM⟩ := hrel
                  cases gk with
                  | zero =>
                    have hie : d = q.tail.length := by omega
                    rw [hie] at HM ⊢
                    clear hie hdg
                    go_wp2
                    go_roundg g1
                    case rel => exact ⟨B', ag, rfl, HI, hide ⟨(unhide HM).1, fun h => unhide HTi B' (unhide HI).2.2 ((unhide HM).2.1 h)⟩⟩
                    case measure => omega
                  | succ g2 =>
                    obtain ⟨x0, x1, x2, x3⟩ := (unhide HBX wr (unhide HT7 _ (unhide HI).1)).1
                    have hd : d < q.tail.length := by omega
                    have hdI : (d : Int) < (q.tail.length : Int) := by omega
                    have ho := oth_lt hd hev
                    have hoI : ((Sp.oth d : Nat) : Int) < (q.tail.length : Int) := by omega
                    have hdC : (d : Int) < (q.cap.length : Int) := by rw [unhide Hcl]; omega
                    have hX : bits .xor .i64 (d : Int) 1 = ((Sp.oth d : Nat) : Int) := xor_oth ⟨d, by omega⟩
                    obtain ⟨bc, oc2, rfl, -, hcc⟩ := (unhide HBX w7 (unhide Hb7)).2.1.cap.at_ d (by rw [unhide Hcl]; exact hd)
                    have r1 := unhide HFr d hd
                    have r2 := unhide HFr _ ho
                    obtain ⟨x, hx⟩ : ∃ x : Nat, FO.getD d 0 = (x : Int) := ⟨_, (Int.toNat_of_nonneg r1.1).symm⟩
                    obtain ⟨y, hy⟩ : ∃ y : Nat, FO.getD (Sp.oth d) 0 = (y : Int) := ⟨_, (Int.toNat_of_nonneg r2.1).symm⟩
                    have hx1 : x < N := by omega
                    have hy1 : y < N := by omega
                    have hxI : (x : Int) < (N : Int) := by omega
                    have hyI : (y : Int) < (N : Int) := by omega
                    have b1 := unhide HSh d hd
                    rw [hx, hy, Int.toNat_natCast, Int.toNat_natCast] at b1
                    have b2 := unhide HDb x hx1
                    have b3 := unhide HDb y hy1
                    have b4 := unhide HCb d hd
                    have c5 := hcc wr (unhide HI).1
                    have c1 := unhide HOc wr (unhide HI).1 d hd
                    have c2 := unhide HOc wr (unhide HI).1 _ ho
                    have c3 := (unhide HR7 wr (unhide HI).1).cell hx1
                    have c4 := (unhide HR7 wr (unhide HI).1).cell hy1
                    rw [hx] at c1
                    rw [hy] at c2
                    have c6 := (unhide HI).2.1.cell hx1
                    have c7 := (unhide HI).2.1.cell hy1
                    have f7 := fun i => (unhide HI).2.1.frozen i none
                    have HStep : Hid (∀ B'' : Nat → Bool, (∀ k, k < d → B'' (FO.getD k 0).toNat = true → D (FO.getD (Sp.oth k) 0).toNat = D (FO.getD k 0).toNat + q.cap.getD k 0 → B'' (FO.getD (Sp.oth k) 0).toNat = true) → (B'' x = true → D y = D x + q.cap.getD d 0 → B'' y = true) → ∀ k, k < d + 1 → B'' (FO.getD k 0).toNat = true → D (FO.getD (Sp.oth k) 0).toNat = D (FO.getD k 0).toNat + q.cap.getD k 0 → B'' (FO.getD (Sp.oth k) 0).toNat = true) := hide fun B'' h1 h2 k hk => by
                      by_cases e : k = d
                      · rw [e, hx, hy, Int.toNat_natCast, Int.toNat_natCast]; exact h2
                      · exact h1 k (by omega)
                    have HI2 : Hid (∀ n, Below w7.heap.size w7 (wr.drewN n) ∧ RowB (wr.drewN n) M N B' ∧ B' f = true) := hide fun n => ⟨below_dn (unhide HI).1 n, (unhide HI).2.1.of_block rfl, (unhide HI).2.2⟩
                    have HDe := hide (Eq.refl (D y = D x + q.cap.getD d 0))
                    obtain ⟨z, hz⟩ : ∃ z, q.cap.getD d 0 = z := ⟨_, rfl⟩
                    obtain ⟨px, hpx⟩ : ∃ px, D x = px := ⟨_, rfl⟩
                    obtain ⟨py, hpy⟩ : ∃ py, D y = py := ⟨_, rfl⟩
                    rw [hz] at c5 b1 b4 HStep
                    rw [hpx] at c3 b1 b2 HStep
                    rw [hpy] at c4 b1 b3 HStep
                    have hw1 : IntKind.i64.wrap (px + z) = px + z := by rw [IntKind.wrap_i64]; omega
                    obtain ⟨bx, hbx⟩ : ∃ bx, B' x = bx := ⟨_, rfl⟩
                    obtain ⟨b_y, hby⟩ : ∃ b_y, B' y = b_y := ⟨_, rfl⟩
                    rw [hbx] at c6
                    rw [hby] at c7
                    clear hcc HI b1 b2 b3 b4 hx hy r1 r2 hz hpx hpy HDe
                    cases bx with
                    | false =>
                      have HM2 : Hid ((ag = true → Sp.ct (fun v => !B' v) N + 1 ≤ g1) ∧ (ag = false → ∀ k, k < d + 1 → B' (FO.getD k 0).toNat = true → D (FO.getD (Sp.oth k) 0).toNat = D (FO.getD k 0).toNat + q.cap.getD k 0 → B' (FO.getD (Sp.oth k) 0).toNat = true) ∧ Sp.ct (fun v => !B' v) N ≤ g1) := hide ⟨(unhide HM).1, fun h => unhide HStep B' ((unhide HM).2.1 h) (fun h => by rw [hbx] at h; cases h), (unhide HM).2.2⟩
                      clear hbx hby HM HStep f7 c7
                      go_wp2
                      go_quiet (fail)
                      have HI3 := hide (unhide HI2 nq)
                      clear HI2 c1 c2 c3 c4 c5 c6 x0 x1 x2 x3
                      generalize wr.drewN nq = wq at *
                      go_wp2
                      go_roundg g2
                      case rel => exact ⟨d + 1, B', ag, by omega, rfl, by go_num, HI3, HM2⟩
                      case measure => omega
                    | true =>
                      cases b_y with
                      | true =>
                        have HM2 : Hid ((ag = true → Sp.ct (fun v => !B' v) N + 1 ≤ g1) ∧ (ag = false → ∀ k, k < d + 1 → B' (FO.getD k 0).toNat = true → D (FO.getD (Sp.oth k) 0).toNat = D (FO.getD k 0).toNat + q.cap.getD k 0 → B' (FO.getD (Sp.oth k) 0).toNat = true) ∧ Sp.ct (fun v => !B' v) N ≤ g1) := hide ⟨(unhide HM).1, fun h => unhide HStep B' ((unhide HM).2.1 h) (fun _ _ => hby), (unhide HM).2.2⟩
                        clear hbx hby HM HStep f7
                        go_wp2
                        go_quiet (fail)
                        have HI3 := hide (unhide HI2 nq)
                        clear HI2 c1 c2 c3 c4 c5 c6 c7 x0 x1 x2 x3
                        generalize wr.drewN nq = wq at *
                        go_wp2
                        go_roundg g2
                        case rel => exact ⟨d + 1, B', ag, by omega, rfl, by go_num, HI3, HM2⟩
                        case measure => omega
                      | false =>
                        by_cases hT : py = px + z
                        · have eT : (py == px + z) = true := by rw [hT]; exact beq_self_eq_true _
                          have HM2 : Hid (Sp.ct (fun v => !Sp.updB B' y true v) N + 1 ≤ g1) := hide (by have h1 := Sp.updB_lt hy1 hby; have h2 := (unhide HM).2.2; omega)
                          have HB3 : Hid (∀ n, Below w7.heap.size w7 ((wr.drewN n).setCell ⟨M, y, none⟩ (.bool true)) ∧ RowB ((wr.drewN n).setCell ⟨M, y, none⟩ (.bool true)) M N (Sp.updB B' y true) ∧ Sp.updB B' y true f = true) := hide (fun n => ⟨(unhide HI2 n).1.setCell (p := ⟨M, y, none⟩) (unhide HMe) _, (unhide HI2 n).2.1.set y true, by
                            unfold Sp.updB
                            split
                            · rfl
                            · exact (unhide HI2 n).2.2⟩)
                          clear hbx hby HM HStep hT
                          go_wp2
                          go_quiet (fail)
                          have HI3 := hide (unhide HI2 nq)
                          have HB4 := hide (unhide HB3 nq)
                          have HOc2 : Hid ((wr.drewN nq).cell? ⟨O, Sp.oth d, none⟩ = some (.int .i64 (y : Int))) := hide c2
                          have HF7 : Hid ((wr.drewN nq).cell? ⟨M, y, none⟩ = some (.bool false)) := hide c7
                          clear HI2 HB3 c1 c2 c3 c4 c5 c6 c7 x0 x1 x2 x3 f7
                          generalize wr.drewN nq = wq at *
                          have c2 := unhide HOc2
                          have c7 := unhide HF7
                          have f7 := fun i => (unhide HI3).2.1.frozen i none
                          clear HI3 HOc2 HF7
                          go_wp2
                          go_roundg g2
                          case rel => exact ⟨d + 1, Sp.updB B' y true, true, by omega, rfl, by go_num, HB4, hide ⟨fun _ => unhide HM2, (fun h => by (cases h)), Nat.le_of_succ_le (unhide HM2)⟩⟩
                          case measure => omega
                        · have eT : (py == px + z) = false := beq_eq_false_iff_ne.2 hT
                          have HM2 : Hid ((ag = true → Sp.ct (fun v => !B' v) N + 1 ≤ g1) ∧ (ag = false → ∀ k, k < d + 1 → B' (FO.getD k 0).toNat = true → D (FO.getD (Sp.oth k) 0).toNat = D (FO.getD k 0).toNat + q.cap.getD k 0 → B' (FO.getD (Sp.oth k) 0).toNat = true) ∧ Sp.ct (fun v => !B' v) N ≤ g1) := hide ⟨(unhide HM).1, fun h => unhide HStep B' ((unhide HM).2.1 h) (fun _ h => absurd h hT), (unhide HM).2.2⟩
                          clear hbx hby HM HStep f7 hT
                          go_wp2
                          go_quiet (fail)
                          have HI3 := hide (unhide HI2 nq)
                          clear HI2 c1 c2 c3 c4 c5 c6 c7 x0 x1 x2 x3
                          generalize wr.drewN nq = wq at *
                          go_wp2
                          go_roundg g2
                          case rel => exact ⟨d + 1, B', ag, by omega, rfl, by go_num, HI3, HM2⟩
                          case measure => omega
end Go.Proofs.Ytoegjnolccabjaa


