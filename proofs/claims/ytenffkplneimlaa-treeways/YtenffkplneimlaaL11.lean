/- What the proof needs, part 11. -/
import Derived.Test.YtenffkplneimlaaL10
/- The law TreeWays, walked. -/
namespace Go.Proofs.Ytenffkplneimlaa
open Go Go.RowKit

set_option maxRecDepth 100000 in
set_option maxHeartbeats 20000000 in
theorem treeWays_any (ns : List Int) (x : Value) (root v : Int) (w : World) (hx : Ints w x ns) :
    Calls Try.prog 6 #[x, .int .i64 root, .int .i64 v] w fun e w' => e = .returned (.bool true) ∧ Below w.heap.size w w' := by
  obtain ⟨a, c, rfl, hc, hm⟩ := hx.form
  have HPL := hide (fun w' (hb : Below w.heap.size w w') => plane_any ns (.slice a ns.length c) w' (hx.below hb))
  have HOK := hide (Sp.plane_ok ns)
  have HTQ := hide (Sp.treeQ_plane ns)
  generalize Sp.plane ns = q at *
  generalize ns.length = n at *
  clear hx
  obtain ⟨P, hP⟩ : ∃ P : Ending → World → Prop, P = fun e w' => e = .returned (.bool true) ∧ Below w.heap.size w w' := ⟨_, rfl⟩
  rw [← hP]
  have HP := hide hP
  clear hP
  go_enter Try.func6, Try.ntmps6
  go_wp2_with fail
  go_at_call 9
  refine (known4_any w).mono ?_
  rintro e w2 ⟨rfl, hb2⟩
  have Hb2 := hide hb2
  clear hb2
  go_wp2_with fail
  go_at_call 10
  refine (unhide HPL _ (unhide Hb2)).mono ?_
  clear HPL
  rintro e w3 ⟨v, tv, nv, cv, rfl, hnv, hb3⟩
  have hval := hnv.val
  subst hval
  obtain ⟨ta, tc, rfl, htc, htm, HT⟩ := hnv.netI.tail.allD
  obtain ⟨na, nc, rfl, -, -⟩ := hnv.netI.next.form
  obtain ⟨ca, cc, rfl, -, -⟩ := hnv.netI.cap.form
  obtain ⟨W4, hW4⟩ : ∃ W4, W4 = w3.alloc (.cells #[.int .i64 q.n, .slice ta q.tail.length tc, .slice na q.next.length nc, .slice ca q.cap.length cc] 25) := ⟨_, rfl⟩
  obtain ⟨hBX, hs4, hTR⟩ := boxed ((unhide Hb2).trans (hb3.mono (unhide Hb2).size)) hnv.netI W4 hW4
  have HBX := hide hBX
  have HTR := hide hTR
  have Hs4 := hide hs4
  have HW4 := hide hW4
  clear hnv hb3 Hb2 hBX hTR hs4 hW4
  have hb4 : Below (w3.heap.size + 1) W4 W4 := Below.refl _ _
  have HWK := hide ((unhide HOK).walk (by omega))
  have hn0 : 1 ≤ q.n := (unhide HOK).n0
  have hn1 : q.n ≤ 100 := by have := (unhide HOK).n1; omega
  obtain ⟨N, hN⟩ : ∃ N : Nat, q.n = (N : Int) := ⟨q.n.toNat, by omega⟩
  have hN60 : N ≤ 60 := by have := (unhide HTQ).n1; omega
  have hN1 : 1 ≤ N := by omega
  have hl48 : q.tail.length ≤ 48 := (unhide HTQ).le
  have HNN := hide hN
  have HTn : Hid (∀ x ∈ q.tail, 0 ≤ x ∧ x < (N : Int)) := hide fun x hx => by have := (unhide HTQ).tb x hx; omega
  have HIs : Hid (∀ (l : List Int) w' v u, l.length ≤ 1000001 → Ints w' v l → Ints w' u l → Calls Try.prog 13 #[v, u] w' fun e w'' => e = .returned (.bool true) ∧ Below w'.heap.size w' w'') := hide fun l w' v u hl h1 h2 => by
    refine (rInts_any l l v u w' h1 h2 hl hl).mono fun e w'' ⟨a1, a2⟩ => ⟨?_, a2⟩
    rw [a1, decide_eq_true rfl]
  have hnI : (0 : Int) < q.n := by omega
  have HWr := hide (fun w' => within4_any root q.n w' (by omega) (by omega))
  obtain ⟨r, hr⟩ : ∃ r : Nat, root % q.n = (r : Int) := ⟨(root % q.n).toNat, by have := Int.emod_nonneg root (show q.n ≠ 0 by omega); omega⟩
  have hrN : r < N := by have := Int.emod_lt_of_pos root hnI; omega
  rw [hr] at HWr
  clear hr hnI
  have HU0 := hide ((unhide HTQ).span (unhide HNN) hrN)
  have HUF := hide ((unhide HTQ).spanF (unhide HNN) hrN)
  have HSp : Hid (∀ w', Below (w3.heap.size + 1) W4 w' → Calls Try.prog 12 #[.agg #[.int .i64 q.n, .slice ta q.tail.length tc, .slice na q.next.length nc, .slice ca q.cap.length cc], .int .i64 (r : Int)] w' fun e w'' => ∃ lv, e = .returned lv ∧ OwnI w'' w'.heap.size lv (Sp.span q (r : Int)) ∧ Below w'.heap.size w' w'') := hide fun w' hb =>
    span_any q r N _ _ _ _ w' (unhide HBX w' hb).2.1 (unhide HTQ).ev (by omega) (unhide HNN) hN60 (unhide HTQ).nE hrN (unhide HTn)
  have HSr : Hid (∀ w', Below (w3.heap.size + 1) W4 w' → Calls Try.prog 14 #[.agg #[.int .i64 q.n, .slice ta q.tail.length tc, .slice na q.next.length nc, .slice ca q.cap.length cc], .int .i64 (r : Int)] w' fun e w'' => ∃ lv, e = .returned lv ∧ Ints w'' lv (Sp.span q (r : Int)) ∧ Below w'.heap.size w' w'') := hide fun w' hb =>
    (span2_any q r N _ _ _ _ w' (unhide HBX w' hb).2.1 (unhide HTQ).ev (by omega) (unhide HNN) (by omega) hrN (unhide HTn)).mono fun e w'' ⟨lv, a1, a2, a3⟩ => ⟨lv, a1, OwnI.ints a2, a3⟩
  have HRt : Hid (∀ w' uv, Below (w3.heap.size + 1) W4 w' → Ints w' uv (Sp.span q (r : Int)) → Calls Try.prog 15 #[.agg #[.int .i64 q.n, .slice ta q.tail.length tc, .slice na q.next.length nc, .slice ca q.cap.length cc], uv, .int .i64 (r : Int)] w' fun e w'' => e = .returned (.bool true) ∧ Below w'.heap.size w' w'') := hide fun w' uv hb hu => by
    have h := right_any q _ (r : Int) N _ _ _ _ uv w' (unhide HBX w' hb).2.1 hu (unhide HTQ).ev (by omega) (unhide HNN) hN60 (unhide HTQ).nE (unhide HTQ).tb
    rw [unhide HU0] at h
    exact h
  have HLp : Hid (∀ w' uv, Below (w3.heap.size + 1) W4 w' → Ints w' uv (Sp.span q (r : Int)) → Calls Try.prog 16 #[.agg #[.int .i64 q.n, .slice ta q.tail.length tc, .slice na q.next.length nc, .slice ca q.cap.length cc], uv] w' fun e w'' => ∃ lv, e = .returned lv ∧ OwnI w'' w'.heap.size lv (Sp.leftL q (Sp.span q (r : Int))) ∧ Below w'.heap.size w' w'') := hide fun w' uv hb hu =>
    left_any q _ r N _ _ _ _ uv w' (unhide HBX w' hb).2.1 hu (unhide HTQ).ev (by omega) (unhide HNN) hN60 (unhide HTQ).nE (unhide HTQ).tb (unhide HU0)
  have HLr : Hid (∀ w' uv, Below (w3.heap.size + 1) W4 w' → Ints w' uv (Sp.span q (r : Int)) → Calls Try.prog 17 #[.agg #[.int .i64 q.n, .slice ta q.tail.length tc, .slice na q.next.length nc, .slice ca q.cap.length cc], uv] w' fun e w'' => ∃ lv, e = .returned lv ∧ Ints w'' lv (Sp.leftL q (Sp.span q (r : Int))) ∧ Below w'.heap.size w' w'') := hide fun w' uv hb hu =>
    (left2_any q _ _ _ _ _ uv w' (unhide HBX w' hb).2.1 hu (unhide HTQ).ev (by omega) (by rw [(unhide HUF).row.len]; omega)).mono fun e w'' ⟨lv, a1, a2, a3⟩ => ⟨lv, a1, OwnI.ints a2, a3⟩
  have HUl : Hid ((Sp.span q (r : Int)).length = N) := hide (unhide HUF).row.len
  have HLl : Hid ((Sp.leftL q (Sp.span q (r : Int))).length + (N - 1) = q.tail.length / 2) := hide ((unhide HUF).row.left (unhide HTQ).ev)
  have HWx := hide (fun w' => within4_any v q.n w' (by omega) (by omega))
  obtain ⟨x, hx⟩ : ∃ x : Nat, v % q.n = (x : Int) := ⟨(v % q.n).toNat, by have := Int.emod_nonneg v (show q.n ≠ 0 by omega); omega⟩
  have hxN : x < N := by have := Int.emod_lt_of_pos v (show 0 < q.n by omega); omega
  rw [hx] at HWx
  clear hx
  obtain ⟨R, hR⟩ := Sp.way_ends (unhide HNN) (unhide HTn) (unhide HU0) hxN
  have HR := hide hR
  clear hR
  have HWp : Hid (∀ w' uv, Below (w3.heap.size + 1) W4 w' → Ints w' uv (Sp.span q (r : Int)) → Calls Try.prog 18 #[.agg #[.int .i64 q.n, .slice ta q.tail.length tc, .slice na q.next.length nc, .slice ca q.cap.length cc], uv, .int .i64 (x : Int)] w' fun e w'' => ∃ lv, e = .returned lv ∧ OwnI w'' w'.heap.size lv R ∧ Below w'.heap.size w' w'') := hide fun w' uv hb hu =>
    way_any q _ r N x (N + 1) R _ _ _ _ uv w' (unhide HBX w' hb).2.1 hu (unhide HTQ).ev (by omega) (unhide HNN) hN60 (unhide HTQ).nE (unhide HTQ).tb (unhide HU0) hxN (by omega) (unhide HR)
  have hev := (unhide HTQ).ev
  have HHd : Hid (∀ (y : Nat) w', Below (w3.heap.size + 1) W4 w' → y < q.tail.length → Calls Try.prog 23 #[.agg #[.int .i64 q.n, .slice ta q.tail.length tc, .slice na q.next.length nc, .slice ca q.cap.length cc], .int .i64 (y : Int)] w' fun e w'' => e = .returned (.int .i64 (q.tail.getD (Sp.oth y) 0)) ∧ Below w'.heap.size w' w'') := hide fun y w' hb hy =>
    head2_any q _ _ _ _ y w' (unhide HBX w' hb).2.1 hy hev (by omega)
  have HEv := hide hev
  have HWF := hide (Sp.wayF_of (unhide HUF).row (unhide HTn) hev hxN (unhide HR))
  obtain ⟨X, hX⟩ : ∃ X, itf (Sp.nx q.tail (Sp.span q (r : Int))) x = X := ⟨_, rfl⟩
  rw [hX] at HWF
  have hRl : R.length ≤ 100 := by have := Sp.way_le (unhide HR); omega
  have HNx : Hid (∀ y, y < N → Sp.nx q.tail (Sp.span q (r : Int)) y < N) := hide fun y _ => Sp.nx_bd (unhide HTn) (by omega) y
  clear hev hX hN HSr HRt HLp HLr HLl HIs HU0 HOK
  obtain ⟨x0, x1, x2, x3⟩ := (unhide HBX W4 hb4).1
  go_upto_region 4 with fail
  rw [← unhide HW4]
  go_wp2
  go_quiet (first
    | (go_at_call_of 11 root
       exact Calls.quiet_of_same (unhide HWr _))
    | (go_at_call_of 11 v
       exact Calls.quiet_of_same (unhide HWx _)))
  have hb5 := below_dn hb4 nq
  clear x0 x1 x2 x3
  generalize W4.drewN nq = w5 at *
  obtain ⟨x0, x1, x2, x3⟩ := (unhide HBX w5 hb5).1
  go_upto_region 5 with fail
  clear x0 x1 x2 x3
  refine wp_region_G (fun w' => w'.cell? ⟨w3.heap.size, 0, none⟩ = some (.int .i64 q.n) ∧ w'.cell? ⟨w3.heap.size, 1, none⟩ = some (.slice ta q.tail.length tc) ∧ w'.cell? ⟨w3.heap.size, 2, none⟩ = some (.slice na q.next.length nc) ∧ w'.cell? ⟨w3.heap.size, 3, none⟩ = some (.slice ca q.cap.length cc)) (fun _ => false) (by kernel_rfl) (unhide HBX _ hb5.drew).1 (fun hHeld => ?_)
  have hbq := hb5.drew
  generalize w5.drew = wq at *
  refine wpAnyG_take (v := ?_) 0 (by rfl) (by kernel_rfl) (by kernel_rfl) (by kernel_rfl) (by kernel_rfl) (fun _ _ _ h => h) (Or.inl ⟨by rfl, ?_⟩) (by assumption) ?_
  rotate_left
  · (intro w' hSw; (try dsimp only at hSw); (try simp only [List.getElem_toArray, List.getElem_cons_zero]); go_simp; try (with_reducible rfl))
  simp only [Act.put, List.getElem_toArray, List.getElem_cons_zero, List.setIfInBounds_toArray, List.set_cons_zero, List.set_cons_succ]
  refine wpAnyG_take (v := ?_) 1 (by rfl) (by kernel_rfl) (by kernel_rfl) (by kernel_rfl) (by kernel_rfl) (fun _ _ _ h => h) (Or.inl ⟨by rfl, ?_⟩) (by assumption) ?_
  rotate_left
  · (intro w' hSw; (try dsimp only at hSw); (try simp only [List.getElem_toArray, List.getElem_cons_succ, List.getElem_cons_zero]); go_simp; try (with_reducible rfl))
  simp only [Act.put, List.getElem_toArray, List.getElem_cons_succ, List.getElem_cons_zero, List.setIfInBounds_toArray, List.set_cons_zero, List.set_cons_succ]
  refine wpAnyG_take (v := ?_) 2 (by rfl) (by kernel_rfl) (by kernel_rfl) (by kernel_rfl) (by kernel_rfl) (fun _ _ _ h => h) (Or.inl ⟨by rfl, ?_⟩) (by assumption) ?_
  rotate_left
  · (intro w' hSw; (try dsimp only at hSw); (try simp only [List.getElem_toArray, List.getElem_cons_succ, List.getElem_cons_zero]); go_simp; try (with_reducible rfl))
  simp only [Act.put, List.getElem_toArray, List.getElem_cons_succ, List.getElem_cons_zero, List.setIfInBounds_toArray, List.set_cons_zero, List.set_cons_succ]
  refine wpAnyG_take (v := ?_) 4 (by rfl) (by kernel_rfl) (by kernel_rfl) (by kernel_rfl) (by kernel_rfl) (fun _ _ _ h => h) (Or.inl ⟨by rfl, ?_⟩) (by assumption) ?_
  rotate_left
  · (intro w' hSw; (try dsimp only at hSw); (try simp only [List.getElem_toArray, List.getElem_cons_succ, List.getElem_cons_zero]); go_simp; try (with_reducible rfl))
  simp only [Act.put, List.getElem_toArray, List.getElem_cons_succ, List.getElem_cons_zero, List.setIfInBounds_toArray, List.set_cons_zero, List.set_cons_succ]
  refine wpAnyG_ready [3] (by kernel_rfl) (by simp) ?_
  refine AllReadyG.cons 3 (by rfl) (fun K hK => ?_) ?_
  · simp only [List.getElem_toArray, List.getElem_cons_succ, List.getElem_cons_zero]
    go_simp
    go_at_call 12
    refine (unhide HSp _ hbq).mono ?_
    rintro e wc1 ⟨uv, rfl, hO6, hlc1⟩
    have hbc1 := unhide HTR _ _ hbq hlc1
    have hU := OwnI.ints hO6
    clear hO6
    refine hK.out _ _ (unhide HBX _ hbc1).1 (fun _ => ?_)
    clear hK K
    try simp only [Act.put, List.setIfInBounds_toArray, List.set_cons_zero, List.set_cons_succ]
    refine wpAnyG_ready [5] (by kernel_rfl) (by simp) ?_
    refine AllReadyG.cons 5 (by rfl) (fun K hK => ?_) ?_
    · simp only [List.getElem_toArray, List.getElem_cons_succ, List.getElem_cons_zero]
      go_simp
      go_at_call 18
      refine (unhide HWp _ _ hbc1 hU).mono ?_
      rintro e wc2 ⟨lv, rfl, hO7, hlc2⟩
      have hbc2 := unhide HTR _ _ hbc1 hlc2
      have hL := OwnI.ints hO7
      clear hO7
      refine hK.out _ _ (unhide HBX _ hbc2).1 (fun _ => ?_)
      clear hK K
      try simp only [Act.put, List.setIfInBounds_toArray, List.set_cons_zero, List.set_cons_succ]
      refine wpAnyG_take (v := ?_) 6 (by rfl) (by kernel_rfl) (by kernel_rfl) (by kernel_rfl) (by kernel_rfl) (fun _ _ _ h => h) (Or.inl ⟨by rfl, ?_⟩) (by assumption) ?_
      rotate_left
      · (intro w' hSw; (try dsimp only at hSw); (try simp only [List.getElem_toArray, List.getElem_cons_succ, List.getElem_cons_zero]); go_simp; try (with_reducible rfl))
      simp only [Act.put, List.getElem_toArray, List.getElem_cons_succ, List.getElem_cons_zero, List.setIfInBounds_toArray, List.set_cons_zero, List.set_cons_succ]
      refine wpAnyG_done (by kernel_rfl) ?_ _
      refine NoPanic.normal ?_
      obtain ⟨la, lc, rfl, -, -⟩ := hL.form
      obtain ⟨x0, x1, x2, x3⟩ := (unhide HBX _ hbc2).1
      have HI0 : Hid (Below (w3.heap.size + 1) W4 wc2 ∧ Ints wc2 (.slice la R.length lc) R) := hide ⟨hbc2, hL⟩
      clear hbc1 hbc2 hU hL hlc1 hlc2 hHeld
      go_wp2
      go_loopg [9, 11] R.length (fun g s9 s11 wr => ∃ i : Nat, i + g = R.length ∧ s11 = .int .i64 (i : Int) ∧ s9 = .int .i64 (X i : Int) ∧ Hid (Below (w3.heap.size + 1) W4 wr ∧ Ints wr (.slice la R.length lc) R))
      case atStart => exact ⟨0, by omega, rfl, by rw [(unhide HWF).x0], HI0⟩
      case round =>
        clear HI0 x0 x1 x2 x3
        obtain ⟨i, hig, rfl, rfl, HI⟩ := hrel
        cases gk with
        | succ g' =>
          have hiR : i < R.length := by omega
          have hiI : (i : Int) < (R.length : Int) := by omega
          obtain ⟨c, hct, hcR, hcT, hxr, hcN⟩ := (unhide HWF).at_ i hiR
          obtain ⟨la', lc', e1, -, -, HLc⟩ := (unhide HI).2.allD
          injection e1 with e1 e2 e3
          subst e1 e3
          obtain ⟨lb, lo, rfl, hlb, hlc⟩ := unhide HLc i hiR
          rw [hcR] at hlc
          have c1 := hlc wr.drew (Below.refl _ _).drew
          have c1x := hlc wr.drew.drew (Below.refl _ _).drew.drew
          have hlbx : lb < wr.drew.drew.heap.size := hlb
          obtain ⟨tb, t0, rfl, -, htc'⟩ := unhide HT c hct
          rw [hcT] at htc'
          have c2 := htc' wr.drew (unhide HBX _ (unhide HI).1.drew).2.2.2.2
          obtain ⟨xn, hxn⟩ : ∃ xn, X (i + 1) = xn := ⟨_, rfl⟩
          rw [hxn] at hcN
          have HXn := hide hxn
          have hnx : q.tail.getD (Sp.oth c) 0 = (xn : Int) := hcN
          have hxN' := (unhide HWF).bd i
          obtain ⟨xi, hxi⟩ : ∃ xi, X i = xi := ⟨_, rfl⟩
          rw [hxi] at c2 hxr hxN' ⊢
          have hxx : ((xi : Int) != (xi : Int)) = false := by simp
          have hxrB : ((xi : Int) == (r : Int)) = false := beq_eq_false_iff_ne.2 (by omega)
          have hctI : (c : Int) < (q.tail.length : Int) := by omega
          have hcD : decide ((c : Int) < 0) = false := decide_eq_false (by omega)
          have hcE : ¬ q.tail.length ≤ c := by omega
          have hcEd : decide (q.tail.length ≤ c) = false := decide_eq_false hcE
          have hcG : decide ((q.tail.length : Int) ≤ (c : Int)) = false := decide_eq_false (by omega)
          obtain ⟨x0, x1, x2, x3⟩ := (unhide HBX _ (unhide HI).1.drew).1
          have HIx : Hid (Below (w3.heap.size + 1) W4 wr.drew ∧ Ints wr.drew (.slice (some ⟨lb, lo, none⟩) R.length lc) R) := hide ⟨(unhide HI).1.drew, (unhide HI).2.below (Below.refl _ _).drew⟩
          clear hlc htc' hcT hcR hcN hxr hxi hxn hlb
          go_upto_region 9 with fail
          go_cut [71] (fun s71 wx => s71 = .bool false ∧ wx = wr.drew)
          case first =>
            refine wp_region_G (fun w' => w'.cell? ⟨w3.heap.size, 0, none⟩ = some (.int .i64 q.n) ∧ w'.cell? ⟨w3.heap.size, 1, none⟩ = some (.slice (some ⟨tb, t0, none⟩) q.tail.length tc) ∧ w'.cell? ⟨w3.heap.size, 2, none⟩ = some (.slice na q.next.length nc) ∧ w'.cell? ⟨w3.heap.size, 3, none⟩ = some (.slice ca q.cap.length cc) ∧ w'.cell? ⟨lb, lo + i, none⟩ = some (.int .i64 (c : Int)) ∧ w'.cell? ⟨tb, t0 + c, none⟩ = some (.int .i64 (xi : Int))) (fun _ => false) (by kernel_rfl) ⟨x0, x1, x2, x3, c1, c2⟩ (fun hHeld => ?_)
            refine wpAnyG_take (v := ?_) 0 (by rfl) (by kernel_rfl) (by kernel_rfl) (by kernel_rfl) (by kernel_rfl) (fun _ _ _ h => h) (Or.inl ⟨by rfl, ?_⟩) (by assumption) ?_
            rotate_left
            · (intro w' hSw; (try dsimp only at hSw); (try simp only [List.getElem_toArray, List.getElem_cons_zero]); go_simp; try (with_reducible rfl))
            simp only [Act.put, List.getElem_toArray, List.getElem_cons_zero, List.setIfInBounds_toArray, List.set_cons_zero, List.set_cons_succ]
            refine wpAnyG_take (v := ?_) 1 (by rfl) (by kernel_rfl) (by kernel_rfl) (by kernel_rfl) (by kernel_rfl) (fun _ _ _ h => h) (Or.inl ⟨by rfl, ?_⟩) (by assumption) ?_
            rotate_left
            · (intro w' hSw; (try dsimp only at hSw); (try simp only [List.getElem_toArray, List.getElem_cons_succ, List.getElem_cons_zero]); go_simp; try (with_reducible rfl))
            simp only [Act.put, List.getElem_toArray, List.getElem_cons_succ, List.getElem_cons_zero, List.setIfInBounds_toArray, List.set_cons_zero, List.set_cons_succ]
            refine wpAnyG_take (v := ?_) 2 (by rfl) (by kernel_rfl) (by kernel_rfl) (by kernel_rfl) (by kernel_rfl) (fun _ _ _ h => h) (Or.inl ⟨by rfl, ?_⟩) (by assumption) ?_
            rotate_left
            · (intro w' hSw; (try dsimp only at hSw); (try simp only [List.getElem_toArray, List.getElem_cons_succ, List.getElem_cons_zero]); go_simp; try (with_reducible rfl))
            simp only [Act.put, List.getElem_toArray, List.getElem_cons_succ, List.getElem_cons_zero, List.setIfInBounds_toArray, List.set_cons_zero, List.set_cons_succ]
            refine wpAnyG_take (v := ?_) 3 (by rfl) (by kernel_rfl) (by kernel_rfl) (by kernel_rfl) (by kernel_rfl) (fun _ _ _ h => h) (Or.inl ⟨by rfl, ?_⟩) (by assumption) ?_
            rotate_left
            · (intro w' hSw; (try dsimp only at hSw); (try simp only [List.getElem_toArray, List.getElem_cons_succ, List.getElem_cons_zero]); go_simp; try (with_reducible rfl))
            simp only [Act.put, List.getElem_toArray, List.getElem_cons_succ, List.getElem_cons_zero, List.setIfInBounds_toArray, List.set_cons_zero, List.set_cons_succ]
            refine wpAnyG_take (v := ?_) 4 (by rfl) (by kernel_rfl) (by kernel_rfl) (by kernel_rfl) (by kernel_rfl) (fun _ _ _ h => h) (Or.inl ⟨by rfl, ?_⟩) (by assumption) ?_
            rotate_left
            · (intro w' hSw; (try dsimp only at hSw); (try simp only [List.getElem_toArray, List.getElem_cons_succ, List.getElem_cons_zero]); go_simp; try (with_reducible rfl))
            simp only [Act.put, List.getElem_toArray, List.getElem_cons_succ, List.getElem_cons_zero, List.setIfInBounds_toArray, List.set_cons_zero, List.set_cons_succ]
            refine wpAnyG_take (v := ?_) 5 (by rfl) (by kernel_rfl) (by kernel_rfl) (by kernel_rfl) (by kernel_rfl) (fun _ _ _ h => h) (Or.inl ⟨by rfl, ?_⟩) (by assumption) ?_
            rotate_left
            · (intro w' hSw; (try dsimp only at hSw); (try simp only [List.getElem_toArray, List.getElem_cons_succ, List.getElem_cons_zero]); go_simp; try (with_reducible rfl))
            simp only [Act.put, List.getElem_toArray, List.getElem_cons_succ, List.getElem_cons_zero, List.setIfInBounds_toArray, List.set_cons_zero, List.set_cons_succ]
            refine wpAnyG_take (v := ?_) 6 (by rfl) (by kernel_rfl) (by kernel_rfl) (by kernel_rfl) (by kernel_rfl) (fun _ _ _ h => h) (Or.inl ⟨by rfl, ?_⟩) (by assumption) ?_
            rotate_left
            · (intro w' hSw; (try dsimp only at hSw); (try simp only [List.getElem_toArray, List.getElem_cons_succ, List.getElem_cons_zero]); go_simp; try (with_reducible rfl))
            simp only [Act.put, List.getElem_toArray, List.getElem_cons_succ, List.getElem_cons_zero, List.setIfInBounds_toArray, List.set_cons_zero, List.set_cons_succ]
            refine wpAnyG_take (v := ?_) 7 (by rfl) (by kernel_rfl) (by kernel_rfl) (by kernel_rfl) (by kernel_rfl) (fun _ _ _ h => h) (Or.inl ⟨by rfl, ?_⟩) (by assumption) ?_
            rotate_left
            · (intro w' hSw; (try dsimp only at hSw); (try simp only [List.getElem_toArray, List.getElem_cons_succ, List.getElem_cons_zero]); go_simp; try (with_reducible rfl))
            simp only [Act.put, List.getElem_toArray, List.getElem_cons_succ, List.getElem_cons_zero, List.setIfInBounds_toArray, List.set_cons_zero, List.set_cons_succ]
            refine wpAnyG_take (v := ?_) 8 (by rfl) (by kernel_rfl) (by kernel_rfl) (by kernel_rfl) (by kernel_rfl) (fun _ _ _ h => h) (Or.inl ⟨by rfl, ?_⟩) (by assumption) ?_
            rotate_left
            · (intro w' hSw; (try dsimp only at hSw); (try simp only [List.getElem_toArray, List.getElem_cons_succ, List.getElem_cons_zero]); go_simp; try (with_reducible rfl))
            simp only [Act.put, List.getElem_toArray, List.getElem_cons_succ, List.getElem_cons_zero, List.setIfInBounds_toArray, List.set_cons_zero, List.set_cons_succ]
            refine wpAnyG_take (v := ?_) 9 (by rfl) (by kernel_rfl) (by kernel_rfl) (by kernel_rfl) (by kernel_rfl) (fun _ _ _ h => h) (Or.inl ⟨by rfl, ?_⟩) (by assumption) ?_
            rotate_left
            · (intro w' hSw; (try dsimp only at hSw); (try simp only [List.getElem_toArray, List.getElem_cons_succ, List.getElem_cons_zero]); go_simp; try (with_reducible rfl))
            simp only [Act.put, List.getElem_toArray, List.getElem_cons_succ, List.getElem_cons_zero, List.setIfInBounds_toArray, List.set_cons_zero, List.set_cons_succ]
            refine wpAnyG_take (v := ?_) 10 (by rfl) (by kernel_rfl) (by kernel_rfl) (by kernel_rfl) (by kernel_rfl) (fun _ _ _ h => h) (Or.inl ⟨by rfl, ?_⟩) (by assumption) ?_
            rotate_left
            · (intro w' hSw; (try dsimp only at hSw); (try simp only [List.getElem_toArray, List.getElem_cons_succ, List.getElem_cons_zero]); go_simp; try (with_reducible rfl))
            simp only [Act.put, List.getElem_toArray, List.getElem_cons_succ, List.getElem_cons_zero, List.setIfInBounds_toArray, List.set_cons_zero, List.set_cons_succ]
            refine wpAnyG_take (v := ?_) 11 (by rfl) (by kernel_rfl) (by kernel_rfl) (by kernel_rfl) (by kernel_rfl) (fun _ _ _ h => h) (Or.inl ⟨by rfl, ?_⟩) (by assumption) ?_
            rotate_left
            · (intro w' hSw; (try dsimp only at hSw); (try simp only [List.getElem_toArray, List.getElem_cons_succ, List.getElem_cons_zero]); go_simp; try (with_reducible rfl))
            simp only [Act.put, List.getElem_toArray, List.getElem_cons_succ, List.getElem_cons_zero, List.setIfInBounds_toArray, List.set_cons_zero, List.set_cons_succ]
            refine wpAnyG_take (v := ?_) 12 (by rfl) (by kernel_rfl) (by kernel_rfl) (by kernel_rfl) (by kernel_rfl) (fun _ _ _ h => h) (Or.inl ⟨by rfl, ?_⟩) (by assumption) ?_
            rotate_left
            · (intro w' hSw; (try dsimp only at hSw); (try simp only [List.getElem_toArray, List.getElem_cons_succ, List.getElem_cons_zero]); go_simp; try (with_reducible rfl))
            simp only [Act.put, List.getElem_toArray, List.getElem_cons_succ, List.getElem_cons_zero, List.setIfInBounds_toArray, List.set_cons_zero, List.set_cons_succ]
            refine wpAnyG_take (v := ?_) 13 (by rfl) (by kernel_rfl) (by kernel_rfl) (by kernel_rfl) (by kernel_rfl) (fun _ _ _ h => h) (Or.inl ⟨by rfl, ?_⟩) (by assumption) ?_
            rotate_left
            · (intro w' hSw; (try dsimp only at hSw); (try simp only [List.getElem_toArray, List.getElem_cons_succ, List.getElem_cons_zero]); go_simp; try (with_reducible rfl))
            simp only [Act.put, List.getElem_toArray, List.getElem_cons_succ, List.getElem_cons_zero, List.setIfInBounds_toArray, List.set_cons_zero, List.set_cons_succ]
            refine wpAnyG_take (v := ?_) 14 (by rfl) (by kernel_rfl) (by kernel_rfl) (by kernel_rfl) (by kernel_rfl) (fun _ _ _ h => h) (Or.inl ⟨by rfl, ?_⟩) (by assumption) ?_
            rotate_left
            · (intro w' hSw; (try dsimp only at hSw); (try simp only [List.getElem_toArray, List.getElem_cons_succ, List.getElem_cons_zero]); go_simp; try (with_reducible rfl))
            simp only [Act.put, List.getElem_toArray, List.getElem_cons_succ, List.getElem_cons_zero, List.setIfInBounds_toArray, List.set_cons_zero, List.set_cons_succ]
            refine wpAnyG_take (v := ?_) 15 (by rfl) (by kernel_rfl) (by kernel_rfl) (by kernel_rfl) (by kernel_rfl) (fun _ _ _ h => h) (Or.inl ⟨by rfl, ?_⟩) (by assumption) ?_
            rotate_left
            · (intro w' hSw; (try dsimp only at hSw); (try simp only [List.getElem_toArray, List.getElem_cons_succ, List.getElem_cons_zero]); go_simp; try (with_reducible rfl))
            simp only [Act.put, List.getElem_toArray, List.getElem_cons_succ, List.getElem_cons_zero, List.setIfInBounds_toArray, List.set_cons_zero, List.set_cons_succ]
            refine wpAnyG_take (v := ?_) 16 (by rfl) (by kernel_rfl) (by kernel_rfl) (by kernel_rfl) (by kernel_rfl) (fun _ _ _ h => h) (Or.inl ⟨by rfl, ?_⟩) (by assumption) ?_
            rotate_left
            · (intro w' hSw; (try dsimp only at hSw); (try simp only [List.getElem_toArray, List.getElem_cons_succ, List.getElem_cons_zero]); go_simp; try (with_reducible rfl))
            simp only [Act.put, List.getElem_toArray, List.getElem_cons_succ, List.getElem_cons_zero, List.setIfInBounds_toArray, List.set_cons_zero, List.set_cons_succ]
            refine wpAnyG_take (v := ?_) 17 (by rfl) (by kernel_rfl) (by kernel_rfl) (by kernel_rfl) (by kernel_rfl) (fun _ _ _ h => h) (Or.inl ⟨by rfl, ?_⟩) (by assumption) ?_
            rotate_left
            · (intro w' hSw; (try dsimp only at hSw); (try simp only [List.getElem_toArray, List.getElem_cons_succ, List.getElem_cons_zero]); go_simp; try (with_reducible rfl))
            simp only [Act.put, List.getElem_toArray, List.getElem_cons_succ, List.getElem_cons_zero, List.setIfInBounds_toArray, List.set_cons_zero, List.set_cons_succ]
            refine wpAnyG_take (v := ?_) 18 (by rfl) (by kernel_rfl) (by kernel_rfl) (by kernel_rfl) (by kernel_rfl) (fun _ _ _ h => h) (Or.inl ⟨by rfl, ?_⟩) (by assumption) ?_
            rotate_left
            · (intro w' hSw; (try dsimp only at hSw); (try simp only [List.getElem_toArray, List.getElem_cons_succ, List.getElem_cons_zero]); go_simp; try (with_reducible rfl))
            simp only [Act.put, List.getElem_toArray, List.getElem_cons_succ, List.getElem_cons_zero, List.setIfInBounds_toArray, List.set_cons_zero, List.set_cons_succ]
            refine wpAnyG_take (v := ?_) 19 (by rfl) (by kernel_rfl) (by kernel_rfl) (by kernel_rfl) (by kernel_rfl) (fun _ _ _ h => h) (Or.inl ⟨by rfl, ?_⟩) (by assumption) ?_
            rotate_left
            · (intro w' hSw; (try dsimp only at hSw); (try simp only [List.getElem_toArray, List.getElem_cons_succ, List.getElem_cons_zero]); go_simp; try (with_reducible rfl))
            simp only [Act.put, List.getElem_toArray, List.getElem_cons_succ, List.getElem_cons_zero, List.setIfInBounds_toArray, List.set_cons_zero, List.set_cons_succ]
            refine wpAnyG_take (v := ?_) 20 (by rfl) (by kernel_rfl) (by kernel_rfl) (by kernel_rfl) (by kernel_rfl) (fun _ _ _ h => h) (Or.inl ⟨by rfl, ?_⟩) (by assumption) ?_
            rotate_left
            · (intro w' hSw; (try dsimp only at hSw); (try simp only [List.getElem_toArray, List.getElem_cons_succ, List.getElem_cons_zero]); go_simp; try (with_reducible rfl))
            simp only [Act.put, List.getElem_toArray, List.getElem_cons_succ, List.getElem_cons_zero, List.setIfInBounds_toArray, List.set_cons_zero, List.set_cons_succ]
            refine wpAnyG_take (v := ?_) 21 (by rfl) (by kernel_rfl) (by kernel_rfl) (by kernel_rfl) (by kernel_rfl) (fun _ _ _ h => h) (Or.inl ⟨by rfl, ?_⟩) (by assumption) ?_
            rotate_left
            · (intro w' hSw; (try dsimp only at hSw); (try simp only [List.getElem_toArray, List.getElem_cons_succ, List.getElem_cons_zero]); go_simp; try (with_reducible rfl))
            simp only [Act.put, List.getElem_toArray, List.getElem_cons_succ, List.getElem_cons_zero, List.setIfInBounds_toArray, List.set_cons_zero, List.set_cons_succ]
            refine wpAnyG_take (v := ?_) 22 (by rfl) (by kernel_rfl) (by kernel_rfl) (by kernel_rfl) (by kernel_rfl) (fun _ _ _ h => h) (Or.inl ⟨by rfl, ?_⟩) (by assumption) ?_
            rotate_left
            · (intro w' hSw; (try dsimp only at hSw); (try simp only [List.getElem_toArray, List.getElem_cons_succ, List.getElem_cons_zero]); go_simp; try (with_reducible rfl))
            simp only [Act.put, List.getElem_toArray, List.getElem_cons_succ, List.getElem_cons_zero, List.setIfInBounds_toArray, List.set_cons_zero, List.set_cons_succ]
            refine wpAnyG_take (v := ?_) 23 (by rfl) (by kernel_rfl) (by kernel_rfl) (by kernel_rfl) (by kernel_rfl) (fun _ _ _ h => h) (Or.inl ⟨by rfl, ?_⟩) (by assumption) ?_
            rotate_left
            · (intro w' hSw; (try dsimp only at hSw); (try simp only [List.getElem_toArray, List.getElem_cons_succ, List.getElem_cons_zero]); go_simp; try (with_reducible rfl))
            simp only [Act.put, List.getElem_toArray, List.getElem_cons_succ, List.getElem_cons_zero, List.setIfInBounds_toArray, List.set_cons_zero, List.set_cons_succ]
            refine wpAnyG_take (v := ?_) 24 (by rfl) (by kernel_rfl) (by kernel_rfl) (by kernel_rfl) (by kernel_rfl) (fun _ _ _ h => h) (Or.inl ⟨by rfl, ?_⟩) (by assumption) ?_
            rotate_left
            · (intro w' hSw; (try dsimp only at hSw); (try simp only [List.getElem_toArray, List.getElem_cons_succ, List.getElem_cons_zero]); go_simp; try (with_reducible rfl))
            simp only [Act.put, List.getElem_toArray, List.getElem_cons_succ, List.getElem_cons_zero, List.setIfInBounds_toArray, List.set_cons_zero, List.set_cons_succ]
            refine wpAnyG_take (v := ?_) 25 (by rfl) (by kernel_rfl) (by kernel_rfl) (by kernel_rfl) (by kernel_rfl) (fun _ _ _ h => h) (Or.inl ⟨by rfl, ?_⟩) (by assumption) ?_
            rotate_left
            · (intro w' hSw; (try dsimp only at hSw); (try simp only [List.getElem_toArray, List.getElem_cons_succ, List.getElem_cons_zero]); go_simp; try (with_reducible rfl))
            simp only [Act.put, List.getElem_toArray, List.getElem_cons_succ, List.getElem_cons_zero, List.setIfInBounds_toArray, List.set_cons_zero, List.set_cons_succ]
            refine wpAnyG_take (v := ?_) 26 (by rfl) (by kernel_rfl) (by kernel_rfl) (by kernel_rfl) (by kernel_rfl) (fun _ _ _ h => h) (Or.inl ⟨by rfl, ?_⟩) (by assumption) ?_
            rotate_left
            · (intro w' hSw; (try dsimp only at hSw); (try simp only [List.getElem_toArray, List.getElem_cons_succ, List.getElem_cons_zero]); go_simp; try (with_reducible rfl))
            simp only [Act.put, List.getElem_toArray, List.getElem_cons_succ, List.getElem_cons_zero, List.setIfInBounds_toArray, List.set_cons_zero, List.set_cons_succ]
            refine wpAnyG_take (v := ?_) 27 (by rfl) (by kernel_rfl) (by kernel_rfl) (by kernel_rfl) (by kernel_rfl) (fun _ _ _ h => h) (Or.inl ⟨by rfl, ?_⟩) (by assumption) ?_
            rotate_left
            · (intro w' hSw; (try dsimp only at hSw); (try simp only [List.getElem_toArray, List.getElem_cons_succ, List.getElem_cons_zero]); go_simp; try (with_reducible rfl))
            simp only [Act.put, List.getElem_toArray, List.getElem_cons_succ, List.getElem_cons_zero, List.setIfInBounds_toArray, List.set_cons_zero, List.set_cons_succ]
            refine wpAnyG_take (v := ?_) 28 (by rfl) (by kernel_rfl) (by kernel_rfl) (by kernel_rfl) (by kernel_rfl) (fun _ _ _ h => h) (Or.inl ⟨by rfl, ?_⟩) (by assumption) ?_
            rotate_left
            · (intro w' hSw; (try dsimp only at hSw); (try simp only [List.getElem_toArray, List.getElem_cons_succ, List.getElem_cons_zero]); go_simp; try (with_reducible rfl))
            simp only [Act.put, List.getElem_toArray, List.getElem_cons_succ, List.getElem_cons_zero, List.setIfInBounds_toArray, List.set_cons_zero, List.set_cons_succ]
            refine wpAnyG_take (v := ?_) 29 (by rfl) (by kernel_rfl) (by kernel_rfl) (by kernel_rfl) (by kernel_rfl) (fun _ _ _ h => h) (Or.inl ⟨by rfl, ?_⟩) (by assumption) ?_
            rotate_left
            · (intro w' hSw; (try dsimp only at hSw); (try simp only [List.getElem_toArray, List.getElem_cons_succ, List.getElem_cons_zero]); go_simp; try (with_reducible rfl))
            simp only [Act.put, List.getElem_toArray, List.getElem_cons_succ, List.getElem_cons_zero, List.setIfInBounds_toArray, List.set_cons_zero, List.set_cons_succ]
            refine wpAnyG_take (v := ?_) 30 (by rfl) (by kernel_rfl) (by kernel_rfl) (by kernel_rfl) (by kernel_rfl) (fun _ _ _ h => h) (Or.inl ⟨by rfl, ?_⟩) (by assumption) ?_
            rotate_left
            · (intro w' hSw; (try dsimp only at hSw); (try simp only [List.getElem_toArray, List.getElem_cons_succ, List.getElem_cons_zero]); go_simp; try (with_reducible rfl))
            simp only [Act.put, List.getElem_toArray, List.getElem_cons_succ, List.getElem_cons_zero, List.setIfInBounds_toArray, List.set_cons_zero, List.set_cons_succ]
            refine wpAnyG_take (v := ?_) 31 (by rfl) (by kernel_rfl) (by kernel_rfl) (by kernel_rfl) (by kernel_rfl) (fun _ _ _ h => h) (Or.inl ⟨by rfl, ?_⟩) (by assumption) ?_
            rotate_left
            · (intro w' hSw; (try dsimp only at hSw); (try simp only [List.getElem_toArray, List.getElem_cons_succ, List.getElem_cons_zero]); go_simp; try (with_reducible rfl))
            simp only [Act.put, List.getElem_toArray, List.getElem_cons_succ, List.getElem_cons_zero, List.setIfInBounds_toArray, List.set_cons_zero, List.set_cons_succ]
            refine wpAnyG_done (by kernel_rfl) ?_ _
            refine NoPanic.normal ?_
            go_wp2
            go_meet
            exact ⟨rfl, rfl⟩
          case rest =>
            obtain ⟨rfl, hwc⟩ := hcut
            have hwc' := hwc.symm
            subst hwc'
            clear hwc c1 c2 x0 x1 x2 x3 HI
            go_upto_region 11 with fail
            have hbq := (unhide HIx).1.drew
            have hL := (unhide HIx).2.below (Below.refl _ _).drew
            have cq : wr.drew.drew.cell? ⟨lb, lo + i, none⟩ = some (.int .i64 (c : Int)) := c1x
            have hlbq : lb < wr.drew.drew.heap.size := hlbx
            refine wp_region_G (fun w' => (w'.cell? ⟨w3.heap.size, 0, none⟩ = some (.int .i64 q.n) ∧ w'.cell? ⟨w3.heap.size, 1, none⟩ = some (.slice (some ⟨tb, t0, none⟩) q.tail.length tc) ∧ w'.cell? ⟨w3.heap.size, 2, none⟩ = some (.slice na q.next.length nc) ∧ w'.cell? ⟨w3.heap.size, 3, none⟩ = some (.slice ca q.cap.length cc)) ∧ w'.cell? ⟨lb, lo + i, none⟩ = some (.int .i64 (c : Int))) (fun _ => false) (by kernel_rfl) ⟨(unhide HBX _ hbq).1, cq⟩ (fun hHeld => ?_)
            generalize wr.drew.drew = wq at *
            refine wpAnyG_take (v := ?_) 0 (by rfl) (by kernel_rfl) (by kernel_rfl) (by kernel_rfl) (by kernel_rfl) (fun _ _ _ h => h) (Or.inl ⟨by rfl, ?_⟩) (by assumption) ?_
            rotate_left
            · (intro w' hSw; (try dsimp only at hSw); (try simp only [List.getElem_toArray, List.getElem_cons_zero]); go_simp; try (with_reducible rfl))
            simp only [Act.put, List.getElem_toArray, List.getElem_cons_zero, List.setIfInBounds_toArray, List.set_cons_zero, List.set_cons_succ]
            refine wpAnyG_take (v := ?_) 1 (by rfl) (by kernel_rfl) (by kernel_rfl) (by kernel_rfl) (by kernel_rfl) (fun _ _ _ h => h) (Or.inl ⟨by rfl, ?_⟩) (by assumption) ?_
            rotate_left
            · (intro w' hSw; (try dsimp only at hSw); (try simp only [List.getElem_toArray, List.getElem_cons_succ, List.getElem_cons_zero]); go_simp; try (with_reducible rfl))
            simp only [Act.put, List.getElem_toArray, List.getElem_cons_succ, List.getElem_cons_zero, List.setIfInBounds_toArray, List.set_cons_zero, List.set_cons_succ]
            refine wpAnyG_take (v := ?_) 2 (by rfl) (by kernel_rfl) (by kernel_rfl) (by kernel_rfl) (by kernel_rfl) (fun _ _ _ h => h) (Or.inl ⟨by rfl, ?_⟩) (by assumption) ?_
            rotate_left
            · (intro w' hSw; (try dsimp only at hSw); (try simp only [List.getElem_toArray, List.getElem_cons_succ, List.getElem_cons_zero]); go_simp; try (with_reducible rfl))
            simp only [Act.put, List.getElem_toArray, List.getElem_cons_succ, List.getElem_cons_zero, List.setIfInBounds_toArray, List.set_cons_zero, List.set_cons_succ]
            refine wpAnyG_take (v := ?_) 3 (by rfl) (by kernel_rfl) (by kernel_rfl) (by kernel_rfl) (by kernel_rfl) (fun _ _ _ h => h) (Or.inl ⟨by rfl, ?_⟩) (by assumption) ?_
            rotate_left
            · (intro w' hSw; (try dsimp only at hSw); (try simp only [List.getElem_toArray, List.getElem_cons_succ, List.getElem_cons_zero]); go_simp; try (with_reducible rfl))
            simp only [Act.put, List.getElem_toArray, List.getElem_cons_succ, List.getElem_cons_zero, List.setIfInBounds_toArray, List.set_cons_zero, List.set_cons_succ]
            refine wpAnyG_take (v := ?_) 4 (by rfl) (by kernel_rfl) (by kernel_rfl) (by kernel_rfl) (by kernel_rfl) (fun _ _ _ h => h) (Or.inl ⟨by rfl, ?_⟩) (by assumption) ?_
            rotate_left
            · (intro w' hSw; (try dsimp only at hSw); (try simp only [List.getElem_toArray, List.getElem_cons_succ, List.getElem_cons_zero]); go_simp; try (with_reducible rfl))
            simp only [Act.put, List.getElem_toArray, List.getElem_cons_succ, List.getElem_cons_zero, List.setIfInBounds_toArray, List.set_cons_zero, List.set_cons_succ]
            refine wpAnyG_ready [5] (by kernel_rfl) (by simp) ?_
            refine AllReadyG.cons 5 (by rfl) (fun K hK => ?_) ?_
            · simp only [List.getElem_toArray, List.getElem_cons_succ, List.getElem_cons_zero]
              go_simp
              go_at_call 23
              refine (unhide HHd c _ hbq hct).mono ?_
              rintro e wc3 ⟨rfl, hlc3⟩
              rw [hnx]
              have hbc3 := unhide HTR _ _ hbq hlc3
              have hLc3 := hL.below hlc3
              have cq3 := (hlc3.cell (by exact hlbq)).trans cq
              refine hK.out _ _ ⟨(unhide HBX _ hbc3).1, cq3⟩ (fun _ => ?_)
              clear hK K
              try simp only [Act.put, List.setIfInBounds_toArray, List.set_cons_zero, List.set_cons_succ]
              refine wpAnyG_take (v := ?_) 6 (by rfl) (by kernel_rfl) (by kernel_rfl) (by kernel_rfl) (by kernel_rfl) (fun _ _ _ h => h) (Or.inl ⟨by rfl, ?_⟩) (by assumption) ?_
              rotate_left
              · (intro w' hSw; (try dsimp only at hSw); (try simp only [List.getElem_toArray, List.getElem_cons_succ, List.getElem_cons_zero]); go_simp; try (with_reducible rfl))
              simp only [Act.put, List.getElem_toArray, List.getElem_cons_succ, List.getElem_cons_zero, List.setIfInBounds_toArray, List.set_cons_zero, List.set_cons_succ]
              refine wpAnyG_done (by kernel_rfl) ?_ _
              refine NoPanic.normal ?_
              have HI2 := hide (And.intro hbc3 hLc3)
              clear hbc3 hLc3 cq3 hlc3 HIx c1x hlbx cq hlbq hL hbq hHeld
              go_wp2
              go_roundg g'
              case rel => exact ⟨i + 1, by omega, by go_num, by rw [unhide HXn], HI2⟩
              case measure => omega
            exact AllReadyG.nil
        | zero =>
          have hiR : i = R.length := by omega
          subst hiR
          rw [(unhide HWF).stop]
          have HB6 := hide (unhide HI).1
          clear HI hig
          obtain ⟨x0, x1, x2, x3⟩ := (unhide HBX _ (unhide HB6)).1
          have hNq := unhide HNN
          rw [hNq] at x0
          have hszr := (unhide HBX _ (unhide HB6)).2.2.2.1
          obtain ⟨w10, hw10⟩ : ∃ w10, w10 = wr := ⟨_, rfl⟩
          rw [← hw10] at HB6 x0 x1 x2 x3 hszr ⊢
          clear hw10
          clear HSp HWp
          go_wp2_with (at_make; refine wpList_mk rfl _ _ rfl w10.heap.size N rfl rfl (by omega) (Nat.le_refl _) ?_)
          rintro w11 hown11 hb11 -
          rename_i sJ sK2 sa3 sa2 sK1 sa1 sK sa
          clear sa3 sa2 sa1
          have H11 : Hid (Below w10.heap.size w10 w11 ∧ OwnI w11 w10.heap.size (.slice (some ⟨w10.heap.size, 0, none⟩) N N) (List.replicate N 0)) := hide ⟨hb11, hown11⟩
          obtain ⟨G, hG⟩ : ∃ G, w10.heap.size = G := ⟨_, rfl⟩
          have H11' : Hid (Below w10.heap.size w10 w11 ∧ OwnI w11 w10.heap.size (.slice (some ⟨G, 0, none⟩) N N) (List.replicate N 0)) := by rw [← hG]; exact H11
          have HGG : Hid (w10.heap.size ≤ G) := hide (by omega)
          have HB10 : Hid (∀ w', Below w10.heap.size w10 w' → Below (w3.heap.size + 1) W4 w') := hide fun w' hb => unhide HTR _ _ (unhide HB6) hb
          clear hown11 hb11 H11 hszr x0 x1 x2 x3 hNq
          obtain ⟨x0, x1, x2, x3⟩ := (unhide HBX _ (unhide HB10 _ (unhide H11').1)).1
          rw [hG]
          clear hG
          go_wp2
          go_loopg [13] N (fun g s13 wr => ∃ (i : Nat) (ol : List Int), i + g = N ∧ s13 = .int .i64 (i : Int) ∧ ol.length = N ∧ Hid (Below w10.heap.size w10 wr ∧ OwnI wr w10.heap.size (.slice (some ⟨G, 0, none⟩) N N) ol) ∧ Hid (∀ j : Nat, j < i → ol.getD j 0 = 1000))
          case atStart => exact ⟨0, _, by omega, rfl, List.length_replicate, H11', hide fun j hj => by omega⟩
          case round =>
            clear H11' x0 x1 x2 x3
            obtain ⟨i, ol, hig, rfl, hol, HI, HJ⟩ := hrel
            obtain ⟨x0, x1, x2, x3⟩ := (unhide HBX _ (unhide HB10 _ (unhide HI).1)).1
            cases gk with
            | succ g' =>
              have hiN : i < N := by omega
              have hiI : (i : Int) < (N : Int) := by omega
              have hiq : (i : Int) < q.n := by rw [unhide HNN]; exact hiI
              have c0 := own_getD (unhide HI).2 i (by omega)
              have f0 := own_frozen (unhide HI).2 i
              have HI2 : Hid (Below w10.heap.size w10 (wr.setCell ⟨G, i, none⟩ (.int .i64 1000)) ∧ OwnI (wr.setCell ⟨G, i, none⟩ (.int .i64 1000)) w10.heap.size (.slice (some ⟨G, 0, none⟩) N N) (ol.set i 1000)) := hide ⟨(unhide HI).1.setCell (by exact unhide HGG) _, own_setCell (unhide HI).2 i _⟩
              have HJ2 : Hid (∀ j : Nat, j < i + 1 → (ol.set i 1000).getD j 0 = 1000) := hide fun j hj => by
                rw [getD_set1 _ _ _ _ (by omega)]
                by_cases h : i = j
                · rw [if_pos h]
                · rw [if_neg h]; exact unhide HJ j (by omega)
              clear HI HJ
              go_wp2
              go_roundg g'
              case rel => exact ⟨i + 1, _, by omega, by go_num, by rw [List.length_set]; exact hol, HI2, HJ2⟩
              case measure => omega
            | zero =>
              have hiN : i = N := by omega
              have hiq : ¬ (i : Int) < q.n := by rw [unhide HNN]; omega
              have c0 := own_getD (unhide HI).2 r (by omega)
              have f0 := own_frozen (unhide HI).2 r
              have hrI : (r : Int) < (N : Int) := by omega
              have hD : Sp.Ds q.tail (Sp.span q (r : Int)) r N 0 0 (ol.set r 0) := Sp.Ds.first (unhide HNx) hN60 _ (by rw [List.length_set]; exact hol) hrN fun v hv => by
                rw [getD_set1 _ _ _ _ (by omega)]
                by_cases h : r = v
                · rw [if_pos h, if_pos h.symm]
                · rw [if_neg h, if_neg (fun e => h e.symm)]; exact unhide HJ v (by omega)
              have HI2 : Hid (Sp.Ds q.tail (Sp.span q (r : Int)) r N 0 0 (ol.set r 0) ∧ Below w10.heap.size w10 (wr.setCell ⟨G, r, none⟩ (.int .i64 0)) ∧ OwnI (wr.setCell ⟨G, r, none⟩ (.int .i64 0)) w10.heap.size (.slice (some ⟨G, 0, none⟩) N N) (ol.set r 0)) := hide ⟨hD, (unhide HI).1.setCell (by exact unhide HGG) _, own_setCell (unhide HI).2 r _⟩
              clear HI HJ hD hiN hig
              go_wp2
              rename_i sJ sK2 sa3 sa2 sK1 sa1 sK sa
              clear sa3 sa2 sa1
              go_loopg [14] N (fun g s14 wr => ∃ (k : Nat) (z : List Int), k + g = N ∧ s14 = .int .i64 (k : Int) ∧ Hid (Sp.Ds q.tail (Sp.span q (r : Int)) r N k 0 z ∧ Below w10.heap.size w10 wr ∧ OwnI wr w10.heap.size (.slice (some ⟨G, 0, none⟩) N N) z))
              case atStart => exact ⟨0, _, by omega, rfl, HI2⟩
              case round =>
                clear HI2 c0 f0 x0 x1 x2 x3
                obtain ⟨k, z, hkg, rfl, HI⟩ := hrel
                obtain ⟨x0, x1, x2, x3⟩ := (unhide HBX _ (unhide HB10 _ (unhide HI).2.1)).1
                cases gk with
                | zero =>
                  have hkN : k = N := by omega
                  have hkq : ¬ (k : Int) < q.n := by rw [unhide HNN]; omega
                  have hD := (unhide HI).1
                  rw [hkN] at hD
                  have hz := hD.last (unhide HNx) hxN (unhide HWF).mn
                  have c0 := own_getD (unhide HI).2.2 x (by rw [hD.len]; exact hxN)
                  rw [hz] at c0
                  have hrr : ((r : Int) == (r : Int)) = true := beq_self_eq_true _
                  have hRR : (((R.length : Nat) : Int) == ((R.length : Nat) : Int)) = true := beq_self_eq_true _
                  have hxI : (x : Int) < (N : Int) := by omega
                  have HF := hide (unhide HBX _ (unhide HB10 _ (unhide HI).2.1)).2.2.1
                  clear hD hz HI hkN hkg
                  go_wp2_with fail
                  go_at_call 11
                  refine (unhide HWx _).mono ?_
                  rintro e wz ⟨rfl, hwz⟩
                  have hwz' := hwz.symm
                  subst hwz'
                  clear hwz
                  go_wp2
                  rw [unhide HP]
                  exact ⟨rfl, unhide HF⟩
                | succ g' =>
                  have hkN : k < N := by omega
                  have hkI : (k : Int) < (N : Int) := by omega
                  have hkq : (k : Int) < q.n := by rw [unhide HNN]; exact hkI
                  go_wp2
                  go_loopg [15] q.tail.length (fun g s15 wr => ∃ (d : Nat) (z : List Int), d + g = q.tail.length ∧ s15 = .int .i64 (d : Int) ∧ Hid (Sp.Ds q.tail (Sp.span q (r : Int)) r N k d z ∧ Below w10.heap.size w10 wr ∧ OwnI wr w10.heap.size (.slice (some ⟨G, 0, none⟩) N N) z))
                  case atStart => exact ⟨0, z, by omega, rfl, HI⟩
                  case round =>
                    clear HI x0 x1 x2 x3
                    obtain ⟨d, z, hdg, rfl, HI3⟩ := hrel
                    obtain ⟨x0, x1, x2, x3⟩ := (unhide HBX _ (unhide HB10 _ (unhide HI3).2.1)).1
                    cases gk with
                    | zero =>
                      have hdT : d = q.tail.length := by omega
                      have HI4 : Hid (Sp.Ds q.tail (Sp.span q (r : Int)) r N (k + 1) 0 z ∧ Below w10.heap.size w10 wr ∧ OwnI wr w10.heap.size (.slice (some ⟨G, 0, none⟩) N N) z) := hide ⟨by have h := (unhide HI3).1; rw [hdT] at h; exact h.round (unhide HUF), (unhide HI3).2⟩
                      rw [hdT]
                      clear HI3 hdT hdg
                      go_wp2
                      go_roundg g'
                      case rel => exact ⟨k + 1, z, by omega, by go_num, HI4⟩
                      case measure => omega
                    | succ g2 =>
                      have hdt : d < q.tail.length := by omega
                      have hdI : (d : Int) < (q.tail.length : Int) := by omega
                      have hD := (unhide HI3).1
                      have HZn := hide (hD.step (unhide HUF) (unhide HTn) (unhide HEv) hdt)
                      have hzl := hD.len
                      have ho := oth_lt hdt (unhide HEv)
                      have bt := unhide HTn _ (Sp.getD_mem (l := q.tail) hdt)
                      have bh := unhide HTn _ (Sp.getD_mem (l := q.tail) ho)
                      obtain ⟨tb, t0, rfl, htb, htc'⟩ := unhide HT d hdt
                      have hbq : Below (w3.heap.size + 1) W4 wr.drew := (unhide HB10 _ (unhide HI3).2.1).drew
                      have cqt := htc' wr.drew (unhide HBX _ hbq).2.2.2.2
                      obtain ⟨t, ht⟩ : ∃ t : Nat, q.tail.getD d 0 = (t : Int) := ⟨(q.tail.getD d 0).toNat, by omega⟩
                      obtain ⟨h, hth⟩ : ∃ h : Nat, q.tail.getD (Sp.oth d) 0 = (h : Int) := ⟨(q.tail.getD (Sp.oth d) 0).toNat, by omega⟩
                      rw [ht] at bt cqt HZn
                      rw [hth] at bh HZn
                      rw [Int.toNat_natCast, Int.toNat_natCast] at HZn
                      have htN : t < N := by omega
                      have hhN : h < N := by omega
                      have htI : (t : Int) < (N : Int) := bt.2
                      have hhI : (h : Int) < (N : Int) := bh.2
                      have top := hD.top h hhN
                      obtain ⟨gh, hgh⟩ := ((unhide HUF).row.rc h hhN).least
                      have low := hD.lo h gh hhN hgh
                      have hOq : OwnI wr.drew w10.heap.size (.slice (some ⟨G, 0, none⟩) N N) z := own_drew (unhide HI3).2.2
                      have hXq : Below w10.heap.size w10 wr.drew := (unhide HI3).2.1.drew
                      have htbq : tb < wr.drew.heap.size := Nat.lt_of_lt_of_le htb (unhide HBX _ hbq).2.2.2.2.size
                      have k1q := own_getD hOq t (by omega)
                      have k2q := own_getD hOq h (by omega)
                      obtain ⟨zt, hzt⟩ : ∃ zt, z.getD t 0 = zt := ⟨_, rfl⟩
                      obtain ⟨zh, hzh⟩ : ∃ zh, z.getD h 0 = zh := ⟨_, rfl⟩
                      rw [hzt] at k1q HZn
                      rw [hzh] at k2q HZn top low
                      have hwz : IntKind.i64.wrap (zh + 1) = zh + 1 := by rw [IntKind.wrap_i64]; omega
                      clear hD htc' ht bt bh top low hgh HI3
                      go_upto_region 24 with fail
                      clear x0 x1 x2 x3
                      refine wp_region_G (fun w' => (w'.cell? ⟨w3.heap.size, 0, none⟩ = some (.int .i64 q.n) ∧ w'.cell? ⟨w3.heap.size, 1, none⟩ = some (.slice (some ⟨tb, t0, none⟩) q.tail.length tc) ∧ w'.cell? ⟨w3.heap.size, 2, none⟩ = some (.slice na q.next.length nc) ∧ w'.cell? ⟨w3.heap.size, 3, none⟩ = some (.slice ca q.cap.length cc)) ∧ w'.cell? ⟨tb, t0 + d, none⟩ = some (.int .i64 (t : Int)) ∧ w'.cell? ⟨G, t, none⟩ = some (.int .i64 zt) ∧ w'.cell? ⟨G, h, none⟩ = some (.int .i64 zh)) (fun i => i == 23) (by kernel_rfl) ⟨(unhide HBX _ hbq).1, cqt, k1q, k2q⟩ (fun hHeld => ?_)
                      generalize wr.drew = wq at *
                      refine wpAnyG_take (v := ?_) 0 (by rfl) (by kernel_rfl) (by kernel_rfl) (by kernel_rfl) (by kernel_rfl) (fun _ _ _ h => h) (Or.inl ⟨by rfl, ?_⟩) (by assumption) ?_
                      rotate_left
                      · (intro w' hSw; (try dsimp only at hSw); (try simp only [List.getElem_toArray, List.getElem_cons_zero]); go_simp; try (with_reducible rfl))
                      simp only [Act.put, List.getElem_toArray, List.getElem_cons_zero, List.setIfInBounds_toArray, List.set_cons_zero, List.set_cons_succ]
                      refine wpAnyG_take (v := ?_) 1 (by rfl) (by kernel_rfl) (by kernel_rfl) (by kernel_rfl) (by kernel_rfl) (fun _ _ _ h => h) (Or.inl ⟨by rfl, ?_⟩) (by assumption) ?_
                      rotate_left
                      · (intro w' hSw; (try dsimp only at hSw); (try simp only [List.getElem_toArray, List.getElem_cons_succ, List.getElem_cons_zero]); go_simp; try (with_reducible rfl))
                      simp only [Act.put, List.getElem_toArray, List.getElem_cons_succ, List.getElem_cons_zero, List.setIfInBounds_toArray, List.set_cons_zero, List.set_cons_succ]
                      refine wpAnyG_take (v := ?_) 2 (by rfl) (by kernel_rfl) (by kernel_rfl) (by kernel_rfl) (by kernel_rfl) (fun _ _ _ h => h) (Or.inl ⟨by rfl, ?_⟩) (by assumption) ?_
                      rotate_left
                      · (intro w' hSw; (try dsimp only at hSw); (try simp only [List.getElem_toArray, List.getElem_cons_succ, List.getElem_cons_zero]); go_simp; try (with_reducible rfl))
                      simp only [Act.put, List.getElem_toArray, List.getElem_cons_succ, List.getElem_cons_zero, List.setIfInBounds_toArray, List.set_cons_zero, List.set_cons_succ]
                      refine wpAnyG_take (v := ?_) 3 (by rfl) (by kernel_rfl) (by kernel_rfl) (by kernel_rfl) (by kernel_rfl) (fun _ _ _ h => h) (Or.inl ⟨by rfl, ?_⟩) (by assumption) ?_
                      rotate_left
                      · (intro w' hSw; (try dsimp only at hSw); (try simp only [List.getElem_toArray, List.getElem_cons_succ, List.getElem_cons_zero]); go_simp; try (with_reducible rfl))
                      simp only [Act.put, List.getElem_toArray, List.getElem_cons_succ, List.getElem_cons_zero, List.setIfInBounds_toArray, List.set_cons_zero, List.set_cons_succ]
                      refine wpAnyG_take (v := ?_) 4 (by rfl) (by kernel_rfl) (by kernel_rfl) (by kernel_rfl) (by kernel_rfl) (fun _ _ _ h => h) (Or.inl ⟨by rfl, ?_⟩) (by assumption) ?_
                      rotate_left
                      · (intro w' hSw; (try dsimp only at hSw); (try simp only [List.getElem_toArray, List.getElem_cons_succ, List.getElem_cons_zero]); go_simp; try (with_reducible rfl))
                      simp only [Act.put, List.getElem_toArray, List.getElem_cons_succ, List.getElem_cons_zero, List.setIfInBounds_toArray, List.set_cons_zero, List.set_cons_succ]
                      refine wpAnyG_take (v := ?_) 5 (by rfl) (by kernel_rfl) (by kernel_rfl) (by kernel_rfl) (by kernel_rfl) (fun _ _ _ h => h) (Or.inl ⟨by rfl, ?_⟩) (by assumption) ?_
                      rotate_left
                      · (intro w' hSw; (try dsimp only at hSw); (try simp only [List.getElem_toArray, List.getElem_cons_succ, List.getElem_cons_zero]); go_simp; try (with_reducible rfl))
                      simp only [Act.put, List.getElem_toArray, List.getElem_cons_succ, List.getElem_cons_zero, List.setIfInBounds_toArray, List.set_cons_zero, List.set_cons_succ]
                      refine wpAnyG_take (v := ?_) 6 (by rfl) (by kernel_rfl) (by kernel_rfl) (by kernel_rfl) (by kernel_rfl) (fun _ _ _ h => h) (Or.inl ⟨by rfl, ?_⟩) (by assumption) ?_
                      rotate_left
                      · (intro w' hSw; (try dsimp only at hSw); (try simp only [List.getElem_toArray, List.getElem_cons_succ, List.getElem_cons_zero]); go_simp; try (with_reducible rfl))
                      simp only [Act.put, List.getElem_toArray, List.getElem_cons_succ, List.getElem_cons_zero, List.setIfInBounds_toArray, List.set_cons_zero, List.set_cons_succ]
                      refine wpAnyG_take (v := ?_) 7 (by rfl) (by kernel_rfl) (by kernel_rfl) (by kernel_rfl) (by kernel_rfl) (fun _ _ _ h => h) (Or.inl ⟨by rfl, ?_⟩) (by assumption) ?_
                      rotate_left
                      · (intro w' hSw; (try dsimp only at hSw); (try simp only [List.getElem_toArray, List.getElem_cons_succ, List.getElem_cons_zero]); go_simp; try (with_reducible rfl))
                      simp only [Act.put, List.getElem_toArray, List.getElem_cons_succ, List.getElem_cons_zero, List.setIfInBounds_toArray, List.set_cons_zero, List.set_cons_succ]
                      refine wpAnyG_take (v := ?_) 8 (by rfl) (by kernel_rfl) (by kernel_rfl) (by kernel_rfl) (by kernel_rfl) (fun _ _ _ h => h) (Or.inl ⟨by rfl, ?_⟩) (by assumption) ?_
                      rotate_left
                      · (intro w' hSw; (try dsimp only at hSw); (try simp only [List.getElem_toArray, List.getElem_cons_succ, List.getElem_cons_zero]); go_simp; try (with_reducible rfl))
                      simp only [Act.put, List.getElem_toArray, List.getElem_cons_succ, List.getElem_cons_zero, List.setIfInBounds_toArray, List.set_cons_zero, List.set_cons_succ]
                      refine wpAnyG_take (v := ?_) 9 (by rfl) (by kernel_rfl) (by kernel_rfl) (by kernel_rfl) (by kernel_rfl) (fun _ _ _ h => h) (Or.inl ⟨by rfl, ?_⟩) (by assumption) ?_
                      rotate_left
                      · (intro w' hSw; (try dsimp only at hSw); (try simp only [List.getElem_toArray, List.getElem_cons_succ, List.getElem_cons_zero]); go_simp; try (with_reducible rfl))
                      simp only [Act.put, List.getElem_toArray, List.getElem_cons_succ, List.getElem_cons_zero, List.setIfInBounds_toArray, List.set_cons_zero, List.set_cons_succ]
                      refine wpAnyG_take (v := ?_) 10 (by rfl) (by kernel_rfl) (by kernel_rfl) (by kernel_rfl) (by kernel_rfl) (fun _ _ _ h => h) (Or.inl ⟨by rfl, ?_⟩) (by assumption) ?_
                      rotate_left
                      · (intro w' hSw; (try dsimp only at hSw); (try simp only [List.getElem_toArray, List.getElem_cons_succ, List.getElem_cons_zero]); go_simp; try (with_reducible rfl))
                      simp only [Act.put, List.getElem_toArray, List.getElem_cons_succ, List.getElem_cons_zero, List.setIfInBounds_toArray, List.set_cons_zero, List.set_cons_succ]
                      refine wpAnyG_take (v := ?_) 11 (by rfl) (by kernel_rfl) (by kernel_rfl) (by kernel_rfl) (by kernel_rfl) (fun _ _ _ h => h) (Or.inl ⟨by rfl, ?_⟩) (by assumption) ?_
                      rotate_left
                      · (intro w' hSw; (try dsimp only at hSw); (try simp only [List.getElem_toArray, List.getElem_cons_succ, List.getElem_cons_zero]); go_simp; try (with_reducible rfl))
                      simp only [Act.put, List.getElem_toArray, List.getElem_cons_succ, List.getElem_cons_zero, List.setIfInBounds_toArray, List.set_cons_zero, List.set_cons_succ]
                      refine wpAnyG_take (v := ?_) 12 (by rfl) (by kernel_rfl) (by kernel_rfl) (by kernel_rfl) (by kernel_rfl) (fun _ _ _ h => h) (Or.inl ⟨by rfl, ?_⟩) (by assumption) ?_
                      rotate_left
                      · (intro w' hSw; (try dsimp only at hSw); (try simp only [List.getElem_toArray, List.getElem_cons_succ, List.getElem_cons_zero]); go_simp; try (with_reducible rfl))
                      simp only [Act.put, List.getElem_toArray, List.getElem_cons_succ, List.getElem_cons_zero, List.setIfInBounds_toArray, List.set_cons_zero, List.set_cons_succ]
                      refine wpAnyG_take (v := ?_) 13 (by rfl) (by kernel_rfl) (by kernel_rfl) (by kernel_rfl) (by kernel_rfl) (fun _ _ _ h => h) (Or.inl ⟨by rfl, ?_⟩) (by assumption) ?_
                      rotate_left
                      · (intro w' hSw; (try dsimp only at hSw); (try simp only [List.getElem_toArray, List.getElem_cons_succ, List.getElem_cons_zero]); go_simp; try (with_reducible rfl))
                      simp only [Act.put, List.getElem_toArray, List.getElem_cons_succ, List.getElem_cons_zero, List.setIfInBounds_toArray, List.set_cons_zero, List.set_cons_succ]
                      refine wpAnyG_take (v := ?_) 14 (by rfl) (by kernel_rfl) (by kernel_rfl) (by kernel_rfl) (by kernel_rfl) (fun _ _ _ h => h) (Or.inl ⟨by rfl, ?_⟩) (by assumption) ?_
                      rotate_left
                      · (intro w' hSw; (try dsimp only at hSw); (try simp only [List.getElem_toArray, List.getElem_cons_succ, List.getElem_cons_zero]); go_simp; try (with_reducible rfl))
                      simp only [Act.put, List.getElem_toArray, List.getElem_cons_succ, List.getElem_cons_zero, List.setIfInBounds_toArray, List.set_cons_zero, List.set_cons_succ]
                      refine wpAnyG_take (v := ?_) 15 (by rfl) (by kernel_rfl) (by kernel_rfl) (by kernel_rfl) (by kernel_rfl) (fun _ _ _ h => h) (Or.inl ⟨by rfl, ?_⟩) (by assumption) ?_
                      rotate_left
                      · (intro w' hSw; (try dsimp only at hSw); (try simp only [List.getElem_toArray, List.getElem_cons_succ, List.getElem_cons_zero]); go_simp; try (with_reducible rfl))
                      simp only [Act.put, List.getElem_toArray, List.getElem_cons_succ, List.getElem_cons_zero, List.setIfInBounds_toArray, List.set_cons_zero, List.set_cons_succ]
                      refine wpAnyG_take (v := ?_) 16 (by rfl) (by kernel_rfl) (by kernel_rfl) (by kernel_rfl) (by kernel_rfl) (fun _ _ _ h => h) (Or.inl ⟨by rfl, ?_⟩) (by assumption) ?_
                      rotate_left
                      · (intro w' hSw; (try dsimp only at hSw); (try simp only [List.getElem_toArray, List.getElem_cons_succ, List.getElem_cons_zero]); go_simp; try (with_reducible rfl))
                      simp only [Act.put, List.getElem_toArray, List.getElem_cons_succ, List.getElem_cons_zero, List.setIfInBounds_toArray, List.set_cons_zero, List.set_cons_succ]
                      refine wpAnyG_ready [17] (by kernel_rfl) (by simp) ?_
                      refine AllReadyG.cons 17 (by rfl) (fun K hK => ?_) ?_
                      · simp only [List.getElem_toArray, List.getElem_cons_succ, List.getElem_cons_zero]
                        go_simp
                        go_at_call 23
                        refine (unhide HHd d _ hbq hdt).mono ?_
                        rintro e wc4 ⟨rfl, hlc4⟩
                        rw [hth]
                        have hbc4 := unhide HTR _ _ hbq hlc4
                        have hOc4 := own_below hOq hlc4
                        have hXc4 := hXq.trans (hlc4.mono hXq.size)
                        have k1 := own_getD hOc4 t (by omega)
                        have k2 := own_getD hOc4 h (by omega)
                        rw [hzt] at k1
                        rw [hzh] at k2
                        have f0 := own_frozen hOc4 t
                        refine hK.out _ _ ⟨(unhide HBX _ hbc4).1, (hlc4.cell (by exact htbq)).trans cqt, k1, k2⟩ (fun _ => ?_)
                        clear hK K
                        try simp only [Act.put, List.setIfInBounds_toArray, List.set_cons_zero, List.set_cons_succ]
                        refine wpAnyG_take (v := ?_) 18 (by rfl) (by kernel_rfl) (by kernel_rfl) (by kernel_rfl) (by kernel_rfl) (fun _ _ _ h => h) (Or.inl ⟨by rfl, ?_⟩) (by assumption) ?_
                        rotate_left
                        · (intro w' hSw; (try dsimp only at hSw); (try simp only [List.getElem_toArray, List.getElem_cons_succ, List.getElem_cons_zero]); go_simp; try (with_reducible rfl))
                        simp only [Act.put, List.getElem_toArray, List.getElem_cons_succ, List.getElem_cons_zero, List.setIfInBounds_toArray, List.set_cons_zero, List.set_cons_succ]
                        refine wpAnyG_take (v := ?_) 19 (by rfl) (by kernel_rfl) (by kernel_rfl) (by kernel_rfl) (by kernel_rfl) (fun _ _ _ h => h) (Or.inl ⟨by rfl, ?_⟩) (by assumption) ?_
                        rotate_left
                        · (intro w' hSw; (try dsimp only at hSw); (try simp only [List.getElem_toArray, List.getElem_cons_succ, List.getElem_cons_zero]); go_simp; try (with_reducible rfl))
                        simp only [Act.put, List.getElem_toArray, List.getElem_cons_succ, List.getElem_cons_zero, List.setIfInBounds_toArray, List.set_cons_zero, List.set_cons_succ]
                        refine wpAnyG_take (v := ?_) 20 (by rfl) (by kernel_rfl) (by kernel_rfl) (by kernel_rfl) (by kernel_rfl) (fun _ _ _ h => h) (Or.inl ⟨by rfl, ?_⟩) (by assumption) ?_
                        rotate_left
                        · (intro w' hSw; (try dsimp only at hSw); (try simp only [List.getElem_toArray, List.getElem_cons_succ, List.getElem_cons_zero]); go_simp; try (with_reducible rfl))
                        simp only [Act.put, List.getElem_toArray, List.getElem_cons_succ, List.getElem_cons_zero, List.setIfInBounds_toArray, List.set_cons_zero, List.set_cons_succ]
                        refine wpAnyG_take (v := ?_) 21 (by rfl) (by kernel_rfl) (by kernel_rfl) (by kernel_rfl) (by kernel_rfl) (fun _ _ _ h => h) (Or.inl ⟨by rfl, ?_⟩) (by assumption) ?_
                        rotate_left
                        · (intro w' hSw; (try dsimp only at hSw); (try simp only [List.getElem_toArray, List.getElem_cons_succ, List.getElem_cons_zero]); go_simp; try (with_reducible rfl))
                        simp only [Act.put, List.getElem_toArray, List.getElem_cons_succ, List.getElem_cons_zero, List.setIfInBounds_toArray, List.set_cons_zero, List.set_cons_succ]
                        refine wpAnyG_take (v := ?_) 22 (by rfl) (by kernel_rfl) (by kernel_rfl) (by kernel_rfl) (by kernel_rfl) (fun _ _ _ h => h) (Or.inl ⟨by rfl, ?_⟩) (by assumption) ?_
                        rotate_left
                        · (intro w' hSw; (try dsimp only at hSw); (try simp only [List.getElem_toArray, List.getElem_cons_succ, List.getElem_cons_zero]); go_simp; try (with_reducible rfl))
                        simp only [Act.put, List.getElem_toArray, List.getElem_cons_succ, List.getElem_cons_zero, List.setIfInBounds_toArray, List.set_cons_zero, List.set_cons_succ]
                        refine wpAnyG_ready [23] (by kernel_rfl) (by simp) ?_
                        refine AllReadyG.last 23 (by rfl) (by kernel_rfl) (fun K hK => ?_) ?_
                        · simp only [List.getElem_toArray, List.getElem_cons_succ, List.getElem_cons_zero]
                          go_simp
                          refine hK.out _ _ ?_
                          clear hK K
                          try simp only [Act.put, List.setIfInBounds_toArray, List.set_cons_zero, List.set_cons_succ]
                          refine wpAnyG_done (by kernel_rfl) ?_ _
                          refine NoPanic.normal ?_
                          go_wp2
                          all_goals
                            go_roundg g2
                            case rel =>
                              refine ⟨d + 1, _, by omega, by go_num, hide ⟨?_, hXc4.setCell (by exact unhide HGG) _, own_setCell hOc4 t _⟩⟩
                              have h9 := unhide HZn
                              first
                                | (rw [show min zt (zh + 1) = zh + 1 by omega] at h9; exact h9)
                                | (rw [show min zt (zh + 1) = zt by omega] at h9; exact h9)
                            case measure => omega
                        exact AllReadyG.nil
                      exact AllReadyG.nil
    exact AllReadyG.nil
  exact AllReadyG.nil
end Go.Proofs.Ytenffkplneimlaa


