/- What the proof needs, part 5. -/
import Derived.Test.YtohfmohkaaidpaaL4
/- The law LinkLeast, walked. -/
namespace Go.Proofs.Ytohfmohkaaidpaa
open Go Go.RowKit

set_option maxRecDepth 100000 in
set_option maxHeartbeats 16000000 in
theorem linkLeast_any (size v : Int) (ns : List Int) (nv : Value) (w : World) (hv : Ints w nv ns) :
    Calls Try.prog 6 #[.int .i64 size, nv, .int .i64 v] w fun e w' => e = .returned (.bool true) ∧ Below w.heap.size w w' := by
  obtain ⟨P, hP⟩ : ∃ P : Ending → World → Prop, P = fun e w' => e = .returned (.bool true) ∧ Below w.heap.size w w' := ⟨_, rfl⟩
  rw [← hP]
  have HP := hide hP
  clear hP
  have HNs : Hid (∀ w', Below w.heap.size w w' → Ints w' nv ns) := hide fun w' hb => hv.below hb
  obtain ⟨na, nc, rfl, -, -, HNa⟩ := hv.allA
  have HN0 := hide (fun w' => within7_any size 15 w' (by omega) (by omega))
  have hm0 : 0 ≤ size % 15 := Int.emod_nonneg _ (by omega)
  have hm1 : size % 15 < 15 := Int.emod_lt_of_pos _ (by omega)
  obtain ⟨n, hN⟩ : ∃ n : Nat, 1 + size % 15 = (n : Int) := ⟨(1 + size % 15).toNat, by omega⟩
  have hn1 : 1 ≤ n := by omega
  have hn2 : n ≤ 15 := by omega
  generalize size % 15 = sz at *
  go_enter Try.func6, Try.ntmps6
  go_wp2_with fail
  go_at_call 9
  refine (known7_any w).mono ?_
  rintro e w1 ⟨rfl, hb1⟩
  have HB1 := hide hb1
  clear hb1
  go_wp2_with fail
  go_at_call 10
  refine (unhide HN0 _).mono ?_
  rintro e wz ⟨rfl, hwz⟩
  have hwz' := hwz.symm
  subst hwz'
  clear hwz
  clear HN0
  have HC1 := hide (lknew_any n w1 hn1 (by omega))
  go_wp2_with fail
  go_at_call 11
  refine (unhide HC1).mono ?_
  rintro e w2 ⟨f, g, rfl, hp2, hb2, hf2, hg2⟩
  have HB2 := hide ((unhide HB1).trans (hb2.mono (unhide HB1).size))
  have hgl2 := hp2.lt
  have HP2 := hide hp2
  have hfw : w.heap.size ≤ f := Nat.le_trans (unhide HB1).size hf2
  have hgw : w.heap.size ≤ g := Nat.le_trans (unhide HB1).size hg2
  clear hp2 hb2 HC1 HB1
  have HQ : Hid (Below w.heap.size w w2 ∧ LkP w2 f g n (fun _ => -1) (fun _ => 0) ∧ Sp.Fo n (fun _ => -1)) := hide ⟨unhide HB2, unhide HP2, Sp.fo_new n⟩
  clear HB2 HP2
  have ha0a : 0 ≤ v % (n : Int) := Int.emod_nonneg _ (by omega)
  have ha1a : v % (n : Int) < (n : Int) := Int.emod_lt_of_pos _ (by omega)
  obtain ⟨a, haa⟩ : ∃ a : Nat, v % (n : Int) = (a : Int) := ⟨(v % (n : Int)).toNat, by omega⟩
  have han : a < n := by omega
  have HWa : Hid (∀ w', Calls Try.prog 10 #[.int .i64 v, .int .i64 (n : Int)] w' fun e w'' => e = .returned (.int .i64 (a : Int)) ∧ w'' = w') := hide (fun w' => by rw [← haa]; exact within7_any v (n : Int) w' (by omega) (by omega))
  clear ha0a ha1a haa
  have HWn := hide (fun (z : Int) (w' : World) => within7_any z 1099511627776 w' (by omega) (by omega))
  go_wp2
  go_loopg [9] ns.length (fun g' s10 wr => ∃ (i : Nat) (U W : Nat → Int), i + g' = ns.length ∧ s10 = .int .i64 (i : Int) ∧ Hid (Below w.heap.size w wr ∧ LkP wr f g n U W ∧ Sp.Fo n U))
  case atStart => exact ⟨0, _, _, by omega, rfl, HQ⟩
  case round =>
    clear HQ
    obtain ⟨i, U, W, hig, rfl, HQ⟩ := hrel
    by_cases hi : i < ns.length ∧ i < 60
    · obtain ⟨g', rfl⟩ : ∃ g', gk = g' + 1 := ⟨gk - 1, by omega⟩
      have hiI : (i : Int) < (ns.length : Int) := by omega
      have hi2 : (i : Int) < 60 := by omega
      obtain ⟨b, o', rfl, -, hcx⟩ := unhide HNa i hi.1
      have c1 := hcx wr (unhide HQ).1
      obtain ⟨z, hz⟩ : ∃ z, ns.getD i 0 = z := ⟨_, rfl⟩
      rw [hz] at c1
      have hz0 : 0 ≤ z % 1099511627776 := Int.emod_nonneg _ (by omega)
      have hz1 : z % 1099511627776 < 1099511627776 := Int.emod_lt_of_pos _ (by omega)
      obtain ⟨m, hm⟩ : ∃ m : Nat, z % 1099511627776 = (m : Int) := ⟨(z % 1099511627776).toNat, by omega⟩
      have hml : m < 1099511627776 := by omega
      have HC := hide (unhide HWn z wr)
      rw [hm] at HC
      obtain ⟨v0, hv0⟩ : ∃ v0, m % n = v0 := ⟨_, rfl⟩
      obtain ⟨K2, hK2⟩ : ∃ K2, m / n = K2 := ⟨_, rfl⟩
      obtain ⟨u1, hu1⟩ : ∃ u1, K2 % n = u1 := ⟨_, rfl⟩
      obtain ⟨K4, hK4⟩ : ∃ K4, m / 900 = K4 := ⟨_, rfl⟩
      obtain ⟨j4, hj4⟩ : ∃ j4, K4 % 5 = j4 := ⟨_, rfl⟩
      have e2 : Int.tmod (m : Int) (n : Int) = (v0 : Int) := by rw [← hv0]; exact Sp.rem_nat m n
      have e3 : Int.tdiv (m : Int) (n : Int) = (K2 : Int) := by rw [← hK2]; exact Sp.quo_nat m n
      have e4 : Int.tmod (K2 : Int) (n : Int) = (u1 : Int) := by rw [← hu1]; exact Sp.rem_nat K2 n
      have e8 : Int.tdiv (m : Int) 900 = (K4 : Int) := by rw [← hK4]; exact Sp.quo_nat m 900
      have e9 : Int.tmod (K4 : Int) 5 = (j4 : Int) := by rw [← hj4]; exact Sp.rem_nat K4 5
      have hK2l : K2 < 1099511627776 := by rw [← hK2]; exact Nat.lt_of_le_of_lt (Nat.div_le_self _ _) hml
      have hK4l : K4 < 1099511627776 := by omega
      have hwk2 : IntKind.i64.wrap (K2 : Int) = (K2 : Int) := by rw [IntKind.wrap_i64]; omega
      have hwk4 : IntKind.i64.wrap (K4 : Int) = (K4 : Int) := by rw [IntKind.wrap_i64]; omega
      have hnz : ¬ n = 0 := by omega
      have hw0 : v0 < n := by rw [← hv0]; exact Nat.mod_lt _ (by omega)
      have hw1 : u1 < n := by rw [← hu1]; exact Nat.mod_lt _ (by omega)
      clear hz hz0 hz1 hcx hm hv0 hK2 hu1 hK4 hj4
      go_wp2_with fail
      go_at_call 10
      refine (unhide HC).mono ?_
      rintro e wz ⟨rfl, hwz⟩
      have hwz' := hwz.symm
      subst hwz'
      clear hwz
      clear HC
      go_upto_region 11 with fail
      have hdq := Below.refl wr.heap.size wr |>.drew
      refine wp_region_G (fun w' => True) (fun _ => false) (by kernel_rfl) trivial (fun hHeld => ?_)
      generalize wr.drew = wq at *
      refine wpAnyG_take (v := ?_) 0 (by rfl) (by kernel_rfl) (by kernel_rfl) (by kernel_rfl) (by kernel_rfl) (fun _ _ _ h => h) (Or.inl ⟨by rfl, ?_⟩) (by assumption) ?_
      rotate_left
      · (intro w' hSw; (try dsimp only at hSw); (try simp only [List.getElem_toArray, List.getElem_cons_zero]); go_simp; try (with_reducible rfl))
      simp only [Act.put, List.getElem_toArray, List.getElem_cons_zero, List.setIfInBounds_toArray, List.set_cons_zero, List.set_cons_succ]
      refine wpAnyG_take (v := ?_) 1 (by rfl) (by kernel_rfl) (by kernel_rfl) (by kernel_rfl) (by kernel_rfl) (fun _ _ _ h => h) (Or.inl ⟨by rfl, ?_⟩) (by assumption) ?_
      rotate_left
      · (intro w' hSw; (try dsimp only at hSw); (try simp only [List.getElem_toArray, List.getElem_cons_succ, List.getElem_cons_zero]); go_simp; try (with_reducible rfl))
      simp only [Act.put, List.getElem_toArray, List.getElem_cons_succ, List.getElem_cons_zero, List.setIfInBounds_toArray, List.set_cons_zero, List.set_cons_succ]
      refine wpAnyG_take (v := ?_) 2 (by rfl) (by kernel_rfl) (by kernel_rfl) (by kernel_rfl) (by kernel_rfl) (fun _ _ _ h => h) (Or.inl ⟨by rfl, ?_⟩) (by assumption) ?_
      rotate_left
      · (intro w' hSw; (try dsimp only at hSw); (try simp only [List.getElem_toArray, List.getElem_cons_succ, List.getElem_cons_zero]); go_simp; try (with_reducible rfl))
      simp only [Act.put, List.getElem_toArray, List.getElem_cons_succ, List.getElem_cons_zero, List.setIfInBounds_toArray, List.set_cons_zero, List.set_cons_succ]
      refine wpAnyG_take (v := ?_) 3 (by rfl) (by kernel_rfl) (by kernel_rfl) (by kernel_rfl) (by kernel_rfl) (fun _ _ _ h => h) (Or.inl ⟨by rfl, ?_⟩) (by assumption) ?_
      rotate_left
      · (intro w' hSw; (try dsimp only at hSw); (try simp only [List.getElem_toArray, List.getElem_cons_succ, List.getElem_cons_zero]); go_simp; try (with_reducible rfl))
      simp only [Act.put, List.getElem_toArray, List.getElem_cons_succ, List.getElem_cons_zero, List.setIfInBounds_toArray, List.set_cons_zero, List.set_cons_succ]
      refine wpAnyG_take (v := ?_) 4 (by rfl) (by kernel_rfl) (by kernel_rfl) (by kernel_rfl) (by kernel_rfl) (fun _ _ _ h => h) (Or.inl ⟨by rfl, ?_⟩) (by assumption) ?_
      rotate_left
      · (intro w' hSw; (try dsimp only at hSw); (try simp only [List.getElem_toArray, List.getElem_cons_succ, List.getElem_cons_zero]); go_simp; try (with_reducible rfl))
      simp only [Act.put, List.getElem_toArray, List.getElem_cons_succ, List.getElem_cons_zero, List.setIfInBounds_toArray, List.set_cons_zero, List.set_cons_succ]
      refine wpAnyG_take (v := ?_) 5 (by rfl) (by kernel_rfl) (by kernel_rfl) (by kernel_rfl) (by kernel_rfl) (fun _ _ _ h => h) (Or.inl ⟨by rfl, ?_⟩) (by assumption) ?_
      rotate_left
      · (intro w' hSw; (try dsimp only at hSw); (try simp only [List.getElem_toArray, List.getElem_cons_succ, List.getElem_cons_zero]); go_simp; try (with_reducible rfl))
      simp only [Act.put, List.getElem_toArray, List.getElem_cons_succ, List.getElem_cons_zero, List.setIfInBounds_toArray, List.set_cons_zero, List.set_cons_succ]
      refine wpAnyG_take (v := ?_) 6 (by rfl) (by kernel_rfl) (by kernel_rfl) (by kernel_rfl) (by kernel_rfl) (fun _ _ _ h => h) (Or.inl ⟨by rfl, ?_⟩) (by assumption) ?_
      rotate_left
      · (intro w' hSw; (try dsimp only at hSw); (try simp only [List.getElem_toArray, List.getElem_cons_succ, List.getElem_cons_zero]); go_simp; try (with_reducible rfl))
      simp only [Act.put, List.getElem_toArray, List.getElem_cons_succ, List.getElem_cons_zero, List.setIfInBounds_toArray, List.set_cons_zero, List.set_cons_succ]
      refine wpAnyG_take (v := ?_) 7 (by rfl) (by kernel_rfl) (by kernel_rfl) (by kernel_rfl) (by kernel_rfl) (fun _ _ _ h => h) (Or.inl ⟨by rfl, ?_⟩) (by assumption) ?_
      rotate_left
      · (intro w' hSw; (try dsimp only at hSw); (try simp only [List.getElem_toArray, List.getElem_cons_succ, List.getElem_cons_zero]); go_simp; try (with_reducible rfl))
      simp only [Act.put, List.getElem_toArray, List.getElem_cons_succ, List.getElem_cons_zero, List.setIfInBounds_toArray, List.set_cons_zero, List.set_cons_succ]
      refine wpAnyG_take (v := ?_) 8 (by rfl) (by kernel_rfl) (by kernel_rfl) (by kernel_rfl) (by kernel_rfl) (fun _ _ _ h => h) (Or.inl ⟨by rfl, ?_⟩) (by assumption) ?_
      rotate_left
      · (intro w' hSw; (try dsimp only at hSw); (try simp only [List.getElem_toArray, List.getElem_cons_succ, List.getElem_cons_zero]); go_simp; try (with_reducible rfl))
      simp only [Act.put, List.getElem_toArray, List.getElem_cons_succ, List.getElem_cons_zero, List.setIfInBounds_toArray, List.set_cons_zero, List.set_cons_succ]
      refine wpAnyG_take (v := ?_) 9 (by rfl) (by kernel_rfl) (by kernel_rfl) (by kernel_rfl) (by kernel_rfl) (fun _ _ _ h => h) (Or.inl ⟨by rfl, ?_⟩) (by assumption) ?_
      rotate_left
      · (intro w' hSw; (try dsimp only at hSw); (try simp only [List.getElem_toArray, List.getElem_cons_succ, List.getElem_cons_zero]); go_simp; try (with_reducible rfl))
      simp only [Act.put, List.getElem_toArray, List.getElem_cons_succ, List.getElem_cons_zero, List.setIfInBounds_toArray, List.set_cons_zero, List.set_cons_succ]
      refine wpAnyG_take (v := ?_) 10 (by rfl) (by kernel_rfl) (by kernel_rfl) (by kernel_rfl) (by kernel_rfl) (fun _ _ _ h => h) (Or.inl ⟨by rfl, ?_⟩) (by assumption) ?_
      rotate_left
      · (intro w' hSw; (try dsimp only at hSw); (try simp only [List.getElem_toArray, List.getElem_cons_succ, List.getElem_cons_zero]); go_simp; try (with_reducible rfl))
      simp only [Act.put, List.getElem_toArray, List.getElem_cons_succ, List.getElem_cons_zero, List.setIfInBounds_toArray, List.set_cons_zero, List.set_cons_succ]
      refine wpAnyG_take (v := ?_) 11 (by rfl) (by kernel_rfl) (by kernel_rfl) (by kernel_rfl) (by kernel_rfl) (fun _ _ _ h => h) (Or.inl ⟨by rfl, ?_⟩) (by assumption) ?_
      rotate_left
      · (intro w' hSw; (try dsimp only at hSw); (try simp only [List.getElem_toArray, List.getElem_cons_succ, List.getElem_cons_zero]); go_simp; try (with_reducible rfl))
      simp only [Act.put, List.getElem_toArray, List.getElem_cons_succ, List.getElem_cons_zero, List.setIfInBounds_toArray, List.set_cons_zero, List.set_cons_succ]
      refine wpAnyG_ready [12] (by kernel_rfl) (by simp) ?_
      refine AllReadyG.cons 12 (by rfl) (fun K hK => ?_) ?_
      · simp only [List.getElem_toArray, List.getElem_cons_succ, List.getElem_cons_zero]
        go_simp
        go_at_call 15
        refine (lklink_any (unhide HQ).2.2 (v0 : Int) (u1 : Int) (j4 : Int) wq ((unhide HQ).2.1.below hdq)).mono ?_
        rintro e wc ⟨rfl, hp1, hb1⟩
        refine hK.out _ _ trivial (fun _ => ?_)
        clear hK K
        try simp only [Act.put, List.setIfInBounds_toArray, List.set_cons_zero, List.set_cons_succ]
        refine wpAnyG_done (by kernel_rfl) ?_ _
        refine NoPanic.normal ?_
        have HQ2 : Hid (Below w.heap.size w wc ∧ LkP wc f g n (Sp.lkU n U (v0 : Int) (u1 : Int)) (Sp.lkW n U W (v0 : Int) (u1 : Int) (j4 : Int)) ∧ Sp.Fo n (Sp.lkU n U (v0 : Int) (u1 : Int))) := hide ⟨(unhide HQ).1.trans (((Bt.of hdq).trans hb1).below (fun k e => by rw [e]; exact hgw) (unhide HQ).1.size), hp1, (unhide HQ).2.2.lk _ _⟩
        clear hp1 hb1 hdq hHeld
        go_wp2
        go_roundg g'
        case rel => exact ⟨i + 1, _, _, by omega, by go_num, HQ2⟩
        case measure => omega
      exact AllReadyG.nil
    · have hdone : (¬ (i : Int) < (ns.length : Int)) ∨ ((i : Int) < (ns.length : Int) ∧ ¬ (i : Int) < 60) := by omega
      clear HWn hi hig
      clear HNa HNs hv
      obtain ⟨km, b, hkr, hr0, hrn⟩ := (unhide HQ).2.2.ex han
      have HPr := hide (unhide HQ).2.1
      have HQ1 := hide (unhide HQ).1
      have HF := hide (unhide HQ).2.2
      have hCl := lkleast_any (unhide HF) (a : Int) wr (unhide HPr)
      clear HQ
      cases km with
      | zero =>
        have e : b = a := hkr
        subst e
        have hhg : Sp.hg n U (b : Int) = false := Sp.hg_root hr0
        rw [hhg, if_neg (by decide), if_neg (by decide)] at hCl
        have HCl := hide hCl
        clear hCl hkr hr0
        rcases hdone with hdone | ⟨hdone, hdone2⟩
        · go_wp2_with fail
          go_at_call 10
          refine (unhide HWa _).mono ?_
          rintro e wz ⟨rfl, hwz⟩
          have hwz' := hwz.symm
          subst hwz'
          clear hwz
          go_wp2_with fail
          go_at_call 23
          refine (unhide HCl).mono ?_
          rintro e w4 ⟨rfl, hb4⟩
          have HB4 := hide ((unhide HQ1).trans (hb4.mono (unhide HQ1).size))
          have HP4 := hide ((unhide HPr).below hb4)
          clear hb4 HCl HQ1 HPr
          have hU := lkup_any (b : Int) w4 (unhide HP4)
          rw [hhg, if_neg (by decide)] at hU
          have HCUp := hide hU
          have hW := lkweight_any (b : Int) w4 (unhide HP4)
          rw [hhg, if_neg (by decide)] at hW
          have HCWeight := hide hW
          have hn0 : (0 : Int) < (n : Int) := by omega
          clear hU hW hhg
          go_wp2
          go_loopg [11, 15, 16] 0 (fun _g s11 s15 s16 wr => s11 = .int .i64 (b : Int) ∧ s15 = .bool false ∧ s16 = .int .i64 0 ∧ wr = w4)
          case atStart => exact ⟨rfl, rfl, rfl, rfl⟩
          case round =>
            obtain ⟨rfl, rfl, rfl, hwr⟩ := hrel
            subst hwr
            go_wp2_with fail
            go_at_call 21
            refine (unhide HCUp).mono ?_
            rintro e wz ⟨rfl, hw⟩
            have hw' := hw.symm
            subst hw'
            clear hw
            go_wp2_with fail
            go_at_call 20
            refine (unhide HCWeight).mono ?_
            rintro e wz ⟨rfl, hw⟩
            have hw' := hw.symm
            subst hw'
            clear hw
            go_wp2
            rw [unhide HP]
            exact ⟨rfl, unhide HB4⟩
        · go_wp2_with fail
          go_at_call 10
          refine (unhide HWa _).mono ?_
          rintro e wz ⟨rfl, hwz⟩
          have hwz' := hwz.symm
          subst hwz'
          clear hwz
          go_wp2_with fail
          go_at_call 23
          refine (unhide HCl).mono ?_
          rintro e w4 ⟨rfl, hb4⟩
          have HB4 := hide ((unhide HQ1).trans (hb4.mono (unhide HQ1).size))
          have HP4 := hide ((unhide HPr).below hb4)
          clear hb4 HCl HQ1 HPr
          have hU := lkup_any (b : Int) w4 (unhide HP4)
          rw [hhg, if_neg (by decide)] at hU
          have HCUp := hide hU
          have hW := lkweight_any (b : Int) w4 (unhide HP4)
          rw [hhg, if_neg (by decide)] at hW
          have HCWeight := hide hW
          have hn0 : (0 : Int) < (n : Int) := by omega
          clear hU hW hhg
          go_wp2
          go_loopg [11, 15, 16] 0 (fun _g s11 s15 s16 wr => s11 = .int .i64 (b : Int) ∧ s15 = .bool false ∧ s16 = .int .i64 0 ∧ wr = w4)
          case atStart => exact ⟨rfl, rfl, rfl, rfl⟩
          case round =>
            obtain ⟨rfl, rfl, rfl, hwr⟩ := hrel
            subst hwr
            go_wp2_with fail
            go_at_call 21
            refine (unhide HCUp).mono ?_
            rintro e wz ⟨rfl, hw⟩
            have hw' := hw.symm
            subst hw'
            clear hw
            go_wp2_with fail
            go_at_call 20
            refine (unhide HCWeight).mono ?_
            rintro e wz ⟨rfl, hw⟩
            have hw' := hw.symm
            subst hw'
            clear hw
            go_wp2
            rw [unhide HP]
            exact ⟨rfl, unhide HB4⟩
      | succ km =>
        have hkn : km + 1 < n := (unhide HF).depth han hkr
        obtain ⟨A, hA⟩ : ∃ A, Sp.ls U W (a : Int) = A := ⟨_, rfl⟩
        obtain ⟨j, hj1, hj2, hj3, hj4⟩ := Sp.ls_on (W := W) hkr hr0
        rw [hA] at hj2 hj3 hj4 hCl
        have hne : U a ≠ -1 := by
          obtain ⟨u, e, -⟩ := hkr
          omega
        rw [Sp.hg_yes han hne, if_pos rfl, if_pos rfl] at hCl
        have HCl := hide hCl
        have Hup := hide (And.intro hkr hr0)
        have Hls := hide (And.intro hj2 (And.intro hj3 hj4))
        clear hCl hkr hr0 hA hj2 hj3 hj4 hne
        rcases hdone with hdone | ⟨hdone, hdone2⟩
        · go_wp2_with fail
          go_at_call 10
          refine (unhide HWa _).mono ?_
          rintro e wz ⟨rfl, hwz⟩
          have hwz' := hwz.symm
          subst hwz'
          clear hwz
          go_wp2_with fail
          go_at_call 23
          refine (unhide HCl).mono ?_
          rintro e w4 ⟨rfl, hb4⟩
          have HB4 := hide ((unhide HQ1).trans (hb4.mono (unhide HQ1).size))
          have HP4 := hide ((unhide HPr).below hb4)
          clear hb4 HCl HQ1 HPr
          go_wp2
          go_loopg [11, 15, 16] (km + 1) (fun g' s11 s15 s16 wr => ∃ (i v1 : Nat) (met : Bool), i + g' = km + 1 ∧ s11 = .int .i64 (v1 : Int) ∧ s15 = .bool met ∧ s16 = .int .i64 (i : Int) ∧ Hid (Sp.Upw U i a v1 ∧ met = decide (j < i)) ∧ wr = w4)
          case atStart => exact ⟨0, a, false, by omega, rfl, rfl, rfl, hide ⟨rfl, by simp⟩, rfl⟩
          case round =>
            obtain ⟨i, v1, met, hig, rfl, rfl, rfl, HV, hwr⟩ := hrel
            subst hwr
            have hv1n : v1 < n := (unhide HF).up_lt han (unhide HV).1
            have hiI : (i : Int) < (n : Int) := by omega
            have hU := lkup_any (v1 : Int) wr (unhide HP4)
            have hW := lkweight_any (v1 : Int) wr (unhide HP4)
            cases gk with
            | zero =>
              have hi : i = km + 1 := by omega
              have hvb : v1 = b := by
                have h1 := (unhide HV).1
                rw [hi] at h1
                exact h1.one (unhide Hup).1
              have hg0 : Sp.hg n U (v1 : Int) = false := Sp.hg_root (by rw [hvb]; exact (unhide Hup).2)
              have hmet : met = true := by rw [(unhide HV).2, decide_eq_true_eq]; omega
              subst hmet
              rw [hg0, if_neg (by decide)] at hU hW
              have HCUp := hide hU
              have HCWeight := hide hW
              clear hU hW hg0 hi hvb
              go_wp2_with fail
              go_at_call 21
              refine (unhide HCUp).mono ?_
              rintro e wz ⟨rfl, hw⟩
              have hw' := hw.symm
              subst hw'
              clear hw
              go_wp2_with fail
              go_at_call 20
              refine (unhide HCWeight).mono ?_
              rintro e wz ⟨rfl, hw⟩
              have hw' := hw.symm
              subst hw'
              clear hw
              go_wp2
              rw [unhide HP]
              exact ⟨rfl, unhide HB4⟩
            | succ g' =>
              have hi : i < km + 1 := by omega
              obtain ⟨y, h1, h2⟩ := (unhide Hup).1.part (j := i) (by omega)
              obtain rfl : v1 = y := (unhide HV).1.one h1
              obtain ⟨d, hd⟩ : ∃ d, km + 1 - i = d + 1 := ⟨km - i, by omega⟩
              rw [hd] at h2
              obtain ⟨u, e, h3⟩ := h2
              have hg1 : Sp.hg n U (v1 : Int) = true := Sp.hg_yes hv1n (by omega)
              rw [hg1, if_pos rfl, Int.toNat_natCast] at hU hW
              rw [e] at hU
              have HV2 := hide ((unhide HV).1.snoc e)
              have hle := (unhide Hls).2.1 i v1 hi (unhide HV).1
              have hlt := fun hji : j < i => (unhide Hls).2.2 i v1 hji hi (unhide HV).1
              have HAj : Hid (v1 = A ↔ i = j) := hide (by
                constructor
                · intro e2
                  subst e2
                  rcases Nat.lt_trichotomy i j with hij | hij | hij
                  · exfalso
                    obtain ⟨y, q1, q2⟩ := (unhide Hls).1.part (j := i) (by omega)
                    rw [← (unhide HV).1.one q1] at q2
                    obtain ⟨d2, hd2⟩ : ∃ d2, j - i = d2 + 1 := ⟨j - i - 1, by omega⟩
                    rw [hd2] at q2
                    exact (unhide HF).no_round hv1n q2
                  · exact hij
                  · exfalso
                    obtain ⟨y, q1, q2⟩ := (unhide HV).1.part (j := j) (by omega)
                    rw [← (unhide Hls).1.one q1] at q2
                    obtain ⟨d2, hd2⟩ : ∃ d2, i - j = d2 + 1 := ⟨i - j - 1, by omega⟩
                    rw [hd2] at q2
                    exact (unhide HF).no_round hv1n q2
                · intro e2
                  subst e2
                  exact (unhide HV).1.one (unhide Hls).1)
              have hmet := (unhide HV).2
              have HCUp := hide hU
              have HCWeight := hide hW
              clear hU hW h1 h3 e hg1 hd
              have hnl : ¬ W v1 < W A := by omega
              by_cases hji : j < i
              · obtain rfl : met = true := by rw [hmet]; exact decide_eq_true hji
                have hnl2 : ¬ W v1 ≤ W A := by have := hlt hji; omega
                have hne : ((v1 : Int) == (A : Int)) = false := beq_eq_false_iff_ne.2 (fun e2 => by have := (unhide HAj).1 (by omega); omega)
                have HM : Hid (true = decide (j < i + 1)) := hide (decide_eq_true (by omega)).symm
                clear hlt hle hmet HAj
                go_wp2_with fail
                go_at_call 21
                refine (unhide HCUp).mono ?_
                rintro e wz ⟨rfl, hw⟩
                have hw' := hw.symm
                subst hw'
                clear hw
                go_wp2_with fail
                go_at_call 20
                refine (unhide HCWeight).mono ?_
                rintro e wz ⟨rfl, hw⟩
                have hw' := hw.symm
                subst hw'
                clear hw
                go_wp2
                go_roundg g'
                case rel => exact ⟨i + 1, u, true, by omega, rfl, rfl, by go_num, hide ⟨unhide HV2, unhide HM⟩, rfl⟩
                case measure => omega
              · obtain rfl : met = false := by rw [hmet]; exact decide_eq_false hji
                by_cases hvA : v1 = A
                · have hij := (unhide HAj).1 hvA
                  subst hvA
                  have heq : ((v1 : Int) == (v1 : Int)) = true := by simp
                  have hww : (W v1 != W v1) = false := by simp
                  have HM : Hid (true = decide (j < i + 1)) := hide (decide_eq_true (by omega)).symm
                  clear hlt hle hmet HAj hij
                  go_wp2_with fail
                  go_at_call 21
                  refine (unhide HCUp).mono ?_
                  rintro e wz ⟨rfl, hw⟩
                  have hw' := hw.symm
                  subst hw'
                  clear hw
                  go_wp2_with fail
                  go_at_call 20
                  refine (unhide HCWeight).mono ?_
                  rintro e wz ⟨rfl, hw⟩
                  have hw' := hw.symm
                  subst hw'
                  clear hw
                  go_wp2
                  go_roundg g'
                  case rel => exact ⟨i + 1, u, true, by omega, rfl, rfl, by go_num, hide ⟨unhide HV2, unhide HM⟩, rfl⟩
                  case measure => omega
                · have hne : ((v1 : Int) == (A : Int)) = false := beq_eq_false_iff_ne.2 (fun e2 => hvA (by omega))
                  have HM : Hid (false = decide (j < i + 1)) := hide (decide_eq_false (fun h4 => hvA ((unhide HAj).2 (by omega)))).symm
                  clear hlt hle hmet HAj
                  go_wp2_with fail
                  go_at_call 21
                  refine (unhide HCUp).mono ?_
                  rintro e wz ⟨rfl, hw⟩
                  have hw' := hw.symm
                  subst hw'
                  clear hw
                  go_wp2_with fail
                  go_at_call 20
                  refine (unhide HCWeight).mono ?_
                  rintro e wz ⟨rfl, hw⟩
                  have hw' := hw.symm
                  subst hw'
                  clear hw
                  go_wp2
                  go_roundg g'
                  case rel => exact ⟨i + 1, u, false, by omega, rfl, rfl, by go_num, hide ⟨unhide HV2, unhide HM⟩, rfl⟩
                  case measure => omega
        · go_wp2_with fail
          go_at_call 10
          refine (unhide HWa _).mono ?_
          rintro e wz ⟨rfl, hwz⟩
          have hwz' := hwz.symm
          subst hwz'
          clear hwz
          go_wp2_with fail
          go_at_call 23
          refine (unhide HCl).mono ?_
          rintro e w4 ⟨rfl, hb4⟩
          have HB4 := hide ((unhide HQ1).trans (hb4.mono (unhide HQ1).size))
          have HP4 := hide ((unhide HPr).below hb4)
          clear hb4 HCl HQ1 HPr
          go_wp2
          go_loopg [11, 15, 16] (km + 1) (fun g' s11 s15 s16 wr => ∃ (i v1 : Nat) (met : Bool), i + g' = km + 1 ∧ s11 = .int .i64 (v1 : Int) ∧ s15 = .bool met ∧ s16 = .int .i64 (i : Int) ∧ Hid (Sp.Upw U i a v1 ∧ met = decide (j < i)) ∧ wr = w4)
          case atStart => exact ⟨0, a, false, by omega, rfl, rfl, rfl, hide ⟨rfl, by simp⟩, rfl⟩
          case round =>
            obtain ⟨i, v1, met, hig, rfl, rfl, rfl, HV, hwr⟩ := hrel
            subst hwr
            have hv1n : v1 < n := (unhide HF).up_lt han (unhide HV).1
            have hiI : (i : Int) < (n : Int) := by omega
            have hU := lkup_any (v1 : Int) wr (unhide HP4)
            have hW := lkweight_any (v1 : Int) wr (unhide HP4)
            cases gk with
            | zero =>
              have hi : i = km + 1 := by omega
              have hvb : v1 = b := by
                have h1 := (unhide HV).1
                rw [hi] at h1
                exact h1.one (unhide Hup).1
              have hg0 : Sp.hg n U (v1 : Int) = false := Sp.hg_root (by rw [hvb]; exact (unhide Hup).2)
              have hmet : met = true := by rw [(unhide HV).2, decide_eq_true_eq]; omega
              subst hmet
              rw [hg0, if_neg (by decide)] at hU hW
              have HCUp := hide hU
              have HCWeight := hide hW
              clear hU hW hg0 hi hvb
              go_wp2_with fail
              go_at_call 21
              refine (unhide HCUp).mono ?_
              rintro e wz ⟨rfl, hw⟩
              have hw' := hw.symm
              subst hw'
              clear hw
              go_wp2_with fail
              go_at_call 20
              refine (unhide HCWeight).mono ?_
              rintro e wz ⟨rfl, hw⟩
              have hw' := hw.symm
              subst hw'
              clear hw
              go_wp2
              rw [unhide HP]
              exact ⟨rfl, unhide HB4⟩
            | succ g' =>
              have hi : i < km + 1 := by omega
              obtain ⟨y, h1, h2⟩ := (unhide Hup).1.part (j := i) (by omega)
              obtain rfl : v1 = y := (unhide HV).1.one h1
              obtain ⟨d, hd⟩ : ∃ d, km + 1 - i = d + 1 := ⟨km - i, by omega⟩
              rw [hd] at h2
              obtain ⟨u, e, h3⟩ := h2
              have hg1 : Sp.hg n U (v1 : Int) = true := Sp.hg_yes hv1n (by omega)
              rw [hg1, if_pos rfl, Int.toNat_natCast] at hU hW
              rw [e] at hU
              have HV2 := hide ((unhide HV).1.snoc e)
              have hle := (unhide Hls).2.1 i v1 hi (unhide HV).1
              have hlt := fun hji : j < i => (unhide Hls).2.2 i v1 hji hi (unhide HV).1
              have HAj : Hid (v1 = A ↔ i = j) := hide (by
                constructor
                · intro e2
                  subst e2
                  rcases Nat.lt_trichotomy i j with hij | hij | hij
                  · exfalso
                    obtain ⟨y, q1, q2⟩ := (unhide Hls).1.part (j := i) (by omega)
                    rw [← (unhide HV).1.one q1] at q2
                    obtain ⟨d2, hd2⟩ : ∃ d2, j - i = d2 + 1 := ⟨j - i - 1, by omega⟩
                    rw [hd2] at q2
                    exact (unhide HF).no_round hv1n q2
                  · exact hij
                  · exfalso
                    obtain ⟨y, q1, q2⟩ := (unhide HV).1.part (j := j) (by omega)
                    rw [← (unhide Hls).1.one q1] at q2
                    obtain ⟨d2, hd2⟩ : ∃ d2, i - j = d2 + 1 := ⟨i - j - 1, by omega⟩
                    rw [hd2] at q2
                    exact (unhide HF).no_round hv1n q2
                · intro e2
                  subst e2
                  exact (unhide HV).1.one (unhide Hls).1)
              have hmet := (unhide HV).2
              have HCUp := hide hU
              have HCWeight := hide hW
              clear hU hW h1 h3 e hg1 hd
              have hnl : ¬ W v1 < W A := by omega
              by_cases hji : j < i
              · obtain rfl : met = true := by rw [hmet]; exact decide_eq_true hji
                have hnl2 : ¬ W v1 ≤ W A := by have := hlt hji; omega
                have hne : ((v1 : Int) == (A : Int)) = false := beq_eq_false_iff_ne.2 (fun e2 => by have := (unhide HAj).1 (by omega); omega)
                have HM : Hid (true = decide (j < i + 1)) := hide (decide_eq_true (by omega)).symm
                clear hlt hle hmet HAj
                go_wp2_with fail
                go_at_call 21
                refine (unhide HCUp).mono ?_
                rintro e wz ⟨rfl, hw⟩
                have hw' := hw.symm
                subst hw'
                clear hw
                go_wp2_with fail
                go_at_call 20
                refine (unhide HCWeight).mono ?_
                rintro e wz ⟨rfl, hw⟩
                have hw' := hw.symm
                subst hw'
                clear hw
                go_wp2
                go_roundg g'
                case rel => exact ⟨i + 1, u, true, by omega, rfl, rfl, by go_num, hide ⟨unhide HV2, unhide HM⟩, rfl⟩
                case measure => omega
              · obtain rfl : met = false := by rw [hmet]; exact decide_eq_false hji
                by_cases hvA : v1 = A
                · have hij := (unhide HAj).1 hvA
                  subst hvA
                  have heq : ((v1 : Int) == (v1 : Int)) = true := by simp
                  have hww : (W v1 != W v1) = false := by simp
                  have HM : Hid (true = decide (j < i + 1)) := hide (decide_eq_true (by omega)).symm
                  clear hlt hle hmet HAj hij
                  go_wp2_with fail
                  go_at_call 21
                  refine (unhide HCUp).mono ?_
                  rintro e wz ⟨rfl, hw⟩
                  have hw' := hw.symm
                  subst hw'
                  clear hw
                  go_wp2_with fail
                  go_at_call 20
                  refine (unhide HCWeight).mono ?_
                  rintro e wz ⟨rfl, hw⟩
                  have hw' := hw.symm
                  subst hw'
                  clear hw
                  go_wp2
                  go_roundg g'
                  case rel => exact ⟨i + 1, u, true, by omega, rfl, rfl, by go_num, hide ⟨unhide HV2, unhide HM⟩, rfl⟩
                  case measure => omega
                · have hne : ((v1 : Int) == (A : Int)) = false := beq_eq_false_iff_ne.2 (fun e2 => hvA (by omega))
                  have HM : Hid (false = decide (j < i + 1)) := hide (decide_eq_false (fun h4 => hvA ((unhide HAj).2 (by omega)))).symm
                  clear hlt hle hmet HAj
                  go_wp2_with fail
                  go_at_call 21
                  refine (unhide HCUp).mono ?_
                  rintro e wz ⟨rfl, hw⟩
                  have hw' := hw.symm
                  subst hw'
                  clear hw
                  go_wp2_with fail
                  go_at_call 20
                  refine (unhide HCWeight).mono ?_
                  rintro e wz ⟨rfl, hw⟩
                  have hw' := hw.symm
                  subst hw'
                  clear hw
                  go_wp2
                  go_roundg g'
                  case rel => exact ⟨i + 1, u, false, by omega, rfl, rfl, by go_num, hide ⟨unhide HV2, unhide HM⟩, rfl⟩
                  case measure => omega
end Go.Proofs.Ytohfmohkaaidpaa


