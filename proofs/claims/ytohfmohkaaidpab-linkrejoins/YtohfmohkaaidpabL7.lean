/- What the proof needs, part 7. -/
import Derived.Test.YtohfmohkaaidpabL6
/- The law LinkRejoins, walked. -/
namespace Go.Proofs.Ytohfmohkaaidpab
open Go Go.RowKit

theorem Sp.upd_back (U : Nat → Int) (a : Nat) (z : Int) : Sp.upd (Sp.upd U a z) a (U a) = U := funext fun x => by
  unfold Sp.upd
  by_cases e : x = a
  · rw [if_pos e, e]
  · rw [if_neg e, if_neg e]
/-- What was cut may be linked again. -/
theorem Sp.rejoin {n a u : Nat} {U W : Nat → Int} (hF : Sp.Fo n U) (ha : a < n) (hu : U a = (u : Int)) : Sp.ctE n U (a : Int) = 0 ∧ Sp.rt n (Sp.ctU n U (a : Int)) (a : Int) = (a : Int) ∧ Sp.lkE n (Sp.ctU n U (a : Int)) (a : Int) (u : Int) = 0 ∧ Sp.lkU n (Sp.ctU n U (a : Int)) (a : Int) (u : Int) = U ∧ Sp.lkW n (Sp.ctU n U (a : Int)) (Sp.ctW n U W (a : Int)) (a : Int) (u : Int) (W a) = W := by
  have hun : u < n := hF.up_lt ha (k := 1) ⟨u, hu, rfl⟩
  have hg := Sp.hg_yes ha (show U a ≠ -1 by omega)
  have eU : Sp.ctU n U (a : Int) = Sp.upd U a (-1) := by unfold Sp.ctU; rw [if_pos hg, Int.toNat_natCast]
  have eW : Sp.ctW n U W (a : Int) = Sp.upd W a 0 := by unfold Sp.ctW; rw [if_pos hg, Int.toNat_natCast]
  have hnv : ∀ j, ¬ Sp.Upw U j u a := fun j hj => hF.no_round ha (k := j) ⟨u, hu, hj⟩
  obtain ⟨k, b, h1, h2, -⟩ := hF.ex hun
  have hr : Sp.Rt (Sp.upd U a (-1)) u b := Sp.Rt.keep ⟨k, h1, h2⟩ hnv
  have hba : b ≠ a := fun e => hnv k (by rw [← e]; exact h1)
  have hl : Sp.lkE n (Sp.upd U a (-1)) (a : Int) (u : Int) = 0 := Sp.lk_ok ha hun (Sp.upd_same _ _ _) hr hba
  rw [eU, eW]
  refine ⟨by unfold Sp.ctE; rw [if_pos (Sp.hs_yes ha), if_pos hg], Sp.rt_is ha ⟨0, rfl, Sp.upd_same _ _ _⟩, hl, ?_, ?_⟩
  · rw [Sp.lkU_ok hl, ← hu]; exact Sp.upd_back U a (-1)
  · rw [Sp.lkW_ok hl]; exact Sp.upd_back W a 0
set_option maxRecDepth 100000 in
set_option maxHeartbeats 16000000 in
theorem linkRejoins_any (size v : Int) (ns : List Int) (nv : Value) (w : World) (hv : Ints w nv ns) :
    Calls Try.prog 4 #[.int .i64 size, nv, .int .i64 v] w fun e w' => e = .returned (.bool true) ∧ Below w.heap.size w w' := by
  obtain ⟨P, hP⟩ : ∃ P : Ending → World → Prop, P = fun e w' => e = .returned (.bool true) ∧ Below w.heap.size w w' := ⟨_, rfl⟩
  rw [← hP]
  have HP := hide hP
  clear hP
  have HNs : Hid (∀ w', Below w.heap.size w w' → Ints w' nv ns) := hide fun w' hb => hv.below hb
  obtain ⟨na, nc, rfl, -, -, HNa⟩ := hv.allA
  have HN0 := hide (fun w' => within7_any size 15 w' (by omega) (by omega))
  have hm0 : 0 ≤ size % 15 := Int.emod_nonneg _ (by omega)
  have hm1 : size % 15 < 15 := Int.emod_lt_of_pos _ (by omega)
  obtain ⟨n, hN⟩ : ∃ n : Nat, 1 + size % 15 = (n : Int) := ⟨(1 + size % 15).toNat, by omega⟩
  have hn1 : 1 ≤ n := by omega
  have hn2 : n ≤ 15 := by omega
  generalize size % 15 = sz at *
  go_enter Try.func4, Try.ntmps4
  go_wp2_with fail
  go_at_call 6
  refine (known7_any w).mono ?_
  rintro e w1 ⟨rfl, hb1⟩
  have HB1 := hide hb1
  clear hb1
  go_wp2_with fail
  go_at_call 9
  refine (unhide HN0 _).mono ?_
  rintro e wz ⟨rfl, hwz⟩
  have hwz' := hwz.symm
  subst hwz'
  clear hwz
  clear HN0
  have HC1 := hide (lknew_any n w1 hn1 (by omega))
  go_wp2_with fail
  go_at_call 7
  refine (unhide HC1).mono ?_
  rintro e w2 ⟨f, g, rfl, hp2, hb2, hf2, hg2⟩
  have HB2 := hide ((unhide HB1).trans (hb2.mono (unhide HB1).size))
  have hgl2 := hp2.lt
  have HP2 := hide hp2
  have hfw : w.heap.size ≤ f := Nat.le_trans (unhide HB1).size hf2
  have hgw : w.heap.size ≤ g := Nat.le_trans (unhide HB1).size hg2
  clear hp2 hb2 HC1 HB1
  have HC2 := hide (lkrnew_any n w2 hn1 (by omega))
  go_wp2_with fail
  go_at_call 15
  refine (unhide HC2).mono ?_
  rintro e w3 ⟨x, o, c, co, cw, rfl, hr3, hb3, hx3, ho3, hc3⟩
  have HQ : Hid (Below w.heap.size w w3 ∧ LkB w3 f g x o c n co cw (fun _ => -1) (fun _ => 0)) := hide ⟨(unhide HB2).trans (hb3.mono (unhide HB2).size), ⟨(unhide HP2).below hb3, hr3, by omega, by omega, by omega, by omega, by omega, Sp.fo_new n⟩⟩
  have hxw : w.heap.size ≤ x := Nat.le_trans (unhide HB2).size hx3
  have how : w.heap.size ≤ o := Nat.le_trans (unhide HB2).size ho3
  have hcw : w.heap.size ≤ c := Nat.le_trans (unhide HB2).size hc3
  have HGo : Hid (∀ k, (k = g ∨ k = o ∨ k = c) → w.heap.size ≤ k) := hide fun k hk => by rcases hk with rfl | rfl | rfl <;> assumption
  clear hr3 hb3 hx3 ho3 hc3 HC2 HB2 HP2 hgl2 hf2 hg2
  have ha0a : 0 ≤ v % (n : Int) := Int.emod_nonneg _ (by omega)
  have ha1a : v % (n : Int) < (n : Int) := Int.emod_lt_of_pos _ (by omega)
  obtain ⟨a, haa⟩ : ∃ a : Nat, v % (n : Int) = (a : Int) := ⟨(v % (n : Int)).toNat, by omega⟩
  have han : a < n := by omega
  have HWa : Hid (∀ w', Calls Try.prog 9 #[.int .i64 v, .int .i64 (n : Int)] w' fun e w'' => e = .returned (.int .i64 (a : Int)) ∧ w'' = w') := hide (fun w' => by rw [← haa]; exact within7_any v (n : Int) w' (by omega) (by omega))
  clear ha0a ha1a haa
  have HWn := hide (fun (z : Int) (w' : World) => within7_any z 1099511627776 w' (by omega) (by omega))
  go_wp2
  go_loopg [10] ns.length (fun g' s10 wr => ∃ (i : Nat) (U W : Nat → Int), i + g' = ns.length ∧ s10 = .int .i64 (i : Int) ∧ Hid (Below w.heap.size w wr ∧ LkB wr f g x o c n co cw U W))
  case atStart => exact ⟨0, _, _, by omega, rfl, HQ⟩
  case round =>
    clear HQ
    obtain ⟨i, U, W, hig, rfl, HQ⟩ := hrel
    by_cases hi : i < ns.length ∧ i < 60
    · obtain ⟨g', rfl⟩ : ∃ g', gk = g' + 1 := ⟨gk - 1, by omega⟩
      have hiI : (i : Int) < (ns.length : Int) := by omega
      have hi2 : (i : Int) < 60 := by omega
      obtain ⟨b, o', rfl, -, hcx⟩ := unhide HNa i hi.1
      have c1 := hcx wr (unhide HQ).1
      obtain ⟨z, hz⟩ : ∃ z, ns.getD i 0 = z := ⟨_, rfl⟩
      rw [hz] at c1
      have hz0 : 0 ≤ z % 1099511627776 := Int.emod_nonneg _ (by omega)
      have hz1 : z % 1099511627776 < 1099511627776 := Int.emod_lt_of_pos _ (by omega)
      obtain ⟨m, hm⟩ : ∃ m : Nat, z % 1099511627776 = (m : Int) := ⟨(z % 1099511627776).toNat, by omega⟩
      have hml : m < 1099511627776 := by omega
      have HC := hide (unhide HWn z wr)
      rw [hm] at HC
      obtain ⟨v0, hv0⟩ : ∃ v0, m % n = v0 := ⟨_, rfl⟩
      obtain ⟨K2, hK2⟩ : ∃ K2, m / n = K2 := ⟨_, rfl⟩
      obtain ⟨u1, hu1⟩ : ∃ u1, K2 % n = u1 := ⟨_, rfl⟩
      obtain ⟨K4, hK4⟩ : ∃ K4, m / 900 = K4 := ⟨_, rfl⟩
      obtain ⟨j4, hj4⟩ : ∃ j4, K4 % 50 = j4 := ⟨_, rfl⟩
      have e2 : Int.tmod (m : Int) (n : Int) = (v0 : Int) := by rw [← hv0]; exact Sp.rem_nat m n
      have e3 : Int.tdiv (m : Int) (n : Int) = (K2 : Int) := by rw [← hK2]; exact Sp.quo_nat m n
      have e4 : Int.tmod (K2 : Int) (n : Int) = (u1 : Int) := by rw [← hu1]; exact Sp.rem_nat K2 n
      have e8 : Int.tdiv (m : Int) 900 = (K4 : Int) := by rw [← hK4]; exact Sp.quo_nat m 900
      have e9 : Int.tmod (K4 : Int) 50 = (j4 : Int) := by rw [← hj4]; exact Sp.rem_nat K4 50
      have hK2l : K2 < 1099511627776 := by rw [← hK2]; exact Nat.lt_of_le_of_lt (Nat.div_le_self _ _) hml
      have hK4l : K4 < 1099511627776 := by omega
      have hwk2 : IntKind.i64.wrap (K2 : Int) = (K2 : Int) := by rw [IntKind.wrap_i64]; omega
      have hwk4 : IntKind.i64.wrap (K4 : Int) = (K4 : Int) := by rw [IntKind.wrap_i64]; omega
      have hnz : ¬ n = 0 := by omega
      have hw0 : v0 < n := by rw [← hv0]; exact Nat.mod_lt _ (by omega)
      have hw1 : u1 < n := by rw [← hu1]; exact Nat.mod_lt _ (by omega)
      clear hz hz0 hz1 hcx hm hv0 hK2 hu1 hK4 hj4
      go_wp2_with fail
      go_at_call 9
      refine (unhide HC).mono ?_
      rintro e wz ⟨rfl, hwz⟩
      have hwz' := hwz.symm
      subst hwz'
      clear hwz
      clear HC
      go_upto_region 11 with fail
      go_cut [] (fun w9 => ∃ wx, wx = w9 ∧ Hid (Bt (fun b => b = g) wr wx ∧ LkP wx f g n (Sp.lkU n U (v0 : Int) (u1 : Int)) (Sp.lkW n U W (v0 : Int) (u1 : Int) (j4 : Int))))
      case first =>
        have hdq := Below.refl wr.heap.size wr |>.drew
        refine wp_region_G (fun w' => True) (fun _ => false) (by kernel_rfl) trivial (fun hHeld => ?_)
        generalize wr.drew = wq at *
        refine wpAnyG_take (v := ?_) 0 (by rfl) (by kernel_rfl) (by kernel_rfl) (by kernel_rfl) (by kernel_rfl) (fun _ _ _ h => h) (Or.inl ⟨by rfl, ?_⟩) (by assumption) ?_
        rotate_left
        · (intro w' hSw; (try dsimp only at hSw); (try simp only [List.getElem_toArray, List.getElem_cons_zero]); go_simp; try (with_reducible rfl))
        simp only [Act.put, List.getElem_toArray, List.getElem_cons_zero, List.setIfInBounds_toArray, List.set_cons_zero, List.set_cons_succ]
        refine wpAnyG_take (v := ?_) 1 (by rfl) (by kernel_rfl) (by kernel_rfl) (by kernel_rfl) (by kernel_rfl) (fun _ _ _ h => h) (Or.inl ⟨by rfl, ?_⟩) (by assumption) ?_
        rotate_left
        · (intro w' hSw; (try dsimp only at hSw); (try simp only [List.getElem_toArray, List.getElem_cons_succ, List.getElem_cons_zero]); go_simp; try (with_reducible rfl))
        simp only [Act.put, List.getElem_toArray, List.getElem_cons_succ, List.getElem_cons_zero, List.setIfInBounds_toArray, List.set_cons_zero, List.set_cons_succ]
        refine wpAnyG_take (v := ?_) 2 (by rfl) (by kernel_rfl) (by kernel_rfl) (by kernel_rfl) (by kernel_rfl) (fun _ _ _ h => h) (Or.inl ⟨by rfl, ?_⟩) (by assumption) ?_
        rotate_left
        · (intro w' hSw; (try dsimp only at hSw); (try simp only [List.getElem_toArray, List.getElem_cons_succ, List.getElem_cons_zero]); go_simp; try (with_reducible rfl))
        simp only [Act.put, List.getElem_toArray, List.getElem_cons_succ, List.getElem_cons_zero, List.setIfInBounds_toArray, List.set_cons_zero, List.set_cons_succ]
        refine wpAnyG_take (v := ?_) 3 (by rfl) (by kernel_rfl) (by kernel_rfl) (by kernel_rfl) (by kernel_rfl) (fun _ _ _ h => h) (Or.inl ⟨by rfl, ?_⟩) (by assumption) ?_
        rotate_left
        · (intro w' hSw; (try dsimp only at hSw); (try simp only [List.getElem_toArray, List.getElem_cons_succ, List.getElem_cons_zero]); go_simp; try (with_reducible rfl))
        simp only [Act.put, List.getElem_toArray, List.getElem_cons_succ, List.getElem_cons_zero, List.setIfInBounds_toArray, List.set_cons_zero, List.set_cons_succ]
        refine wpAnyG_take (v := ?_) 4 (by rfl) (by kernel_rfl) (by kernel_rfl) (by kernel_rfl) (by kernel_rfl) (fun _ _ _ h => h) (Or.inl ⟨by rfl, ?_⟩) (by assumption) ?_
        rotate_left
        · (intro w' hSw; (try dsimp only at hSw); (try simp only [List.getElem_toArray, List.getElem_cons_succ, List.getElem_cons_zero]); go_simp; try (with_reducible rfl))
        simp only [Act.put, List.getElem_toArray, List.getElem_cons_succ, List.getElem_cons_zero, List.setIfInBounds_toArray, List.set_cons_zero, List.set_cons_succ]
        refine wpAnyG_take (v := ?_) 5 (by rfl) (by kernel_rfl) (by kernel_rfl) (by kernel_rfl) (by kernel_rfl) (fun _ _ _ h => h) (Or.inl ⟨by rfl, ?_⟩) (by assumption) ?_
        rotate_left
        · (intro w' hSw; (try dsimp only at hSw); (try simp only [List.getElem_toArray, List.getElem_cons_succ, List.getElem_cons_zero]); go_simp; try (with_reducible rfl))
        simp only [Act.put, List.getElem_toArray, List.getElem_cons_succ, List.getElem_cons_zero, List.setIfInBounds_toArray, List.set_cons_zero, List.set_cons_succ]
        refine wpAnyG_take (v := ?_) 6 (by rfl) (by kernel_rfl) (by kernel_rfl) (by kernel_rfl) (by kernel_rfl) (fun _ _ _ h => h) (Or.inl ⟨by rfl, ?_⟩) (by assumption) ?_
        rotate_left
        · (intro w' hSw; (try dsimp only at hSw); (try simp only [List.getElem_toArray, List.getElem_cons_succ, List.getElem_cons_zero]); go_simp; try (with_reducible rfl))
        simp only [Act.put, List.getElem_toArray, List.getElem_cons_succ, List.getElem_cons_zero, List.setIfInBounds_toArray, List.set_cons_zero, List.set_cons_succ]
        refine wpAnyG_take (v := ?_) 7 (by rfl) (by kernel_rfl) (by kernel_rfl) (by kernel_rfl) (by kernel_rfl) (fun _ _ _ h => h) (Or.inl ⟨by rfl, ?_⟩) (by assumption) ?_
        rotate_left
        · (intro w' hSw; (try dsimp only at hSw); (try simp only [List.getElem_toArray, List.getElem_cons_succ, List.getElem_cons_zero]); go_simp; try (with_reducible rfl))
        simp only [Act.put, List.getElem_toArray, List.getElem_cons_succ, List.getElem_cons_zero, List.setIfInBounds_toArray, List.set_cons_zero, List.set_cons_succ]
        refine wpAnyG_take (v := ?_) 8 (by rfl) (by kernel_rfl) (by kernel_rfl) (by kernel_rfl) (by kernel_rfl) (fun _ _ _ h => h) (Or.inl ⟨by rfl, ?_⟩) (by assumption) ?_
        rotate_left
        · (intro w' hSw; (try dsimp only at hSw); (try simp only [List.getElem_toArray, List.getElem_cons_succ, List.getElem_cons_zero]); go_simp; try (with_reducible rfl))
        simp only [Act.put, List.getElem_toArray, List.getElem_cons_succ, List.getElem_cons_zero, List.setIfInBounds_toArray, List.set_cons_zero, List.set_cons_succ]
        refine wpAnyG_take (v := ?_) 9 (by rfl) (by kernel_rfl) (by kernel_rfl) (by kernel_rfl) (by kernel_rfl) (fun _ _ _ h => h) (Or.inl ⟨by rfl, ?_⟩) (by assumption) ?_
        rotate_left
        · (intro w' hSw; (try dsimp only at hSw); (try simp only [List.getElem_toArray, List.getElem_cons_succ, List.getElem_cons_zero]); go_simp; try (with_reducible rfl))
        simp only [Act.put, List.getElem_toArray, List.getElem_cons_succ, List.getElem_cons_zero, List.setIfInBounds_toArray, List.set_cons_zero, List.set_cons_succ]
        refine wpAnyG_take (v := ?_) 10 (by rfl) (by kernel_rfl) (by kernel_rfl) (by kernel_rfl) (by kernel_rfl) (fun _ _ _ h => h) (Or.inl ⟨by rfl, ?_⟩) (by assumption) ?_
        rotate_left
        · (intro w' hSw; (try dsimp only at hSw); (try simp only [List.getElem_toArray, List.getElem_cons_succ, List.getElem_cons_zero]); go_simp; try (with_reducible rfl))
        simp only [Act.put, List.getElem_toArray, List.getElem_cons_succ, List.getElem_cons_zero, List.setIfInBounds_toArray, List.set_cons_zero, List.set_cons_succ]
        refine wpAnyG_take (v := ?_) 11 (by rfl) (by kernel_rfl) (by kernel_rfl) (by kernel_rfl) (by kernel_rfl) (fun _ _ _ h => h) (Or.inl ⟨by rfl, ?_⟩) (by assumption) ?_
        rotate_left
        · (intro w' hSw; (try dsimp only at hSw); (try simp only [List.getElem_toArray, List.getElem_cons_succ, List.getElem_cons_zero]); go_simp; try (with_reducible rfl))
        simp only [Act.put, List.getElem_toArray, List.getElem_cons_succ, List.getElem_cons_zero, List.setIfInBounds_toArray, List.set_cons_zero, List.set_cons_succ]
        refine wpAnyG_ready [12] (by kernel_rfl) (by simp) ?_
        refine AllReadyG.cons 12 (by rfl) (fun K hK => ?_) ?_
        · simp only [List.getElem_toArray, List.getElem_cons_succ, List.getElem_cons_zero]
          go_simp
          go_at_call 8
          refine (lklink_any (unhide HQ).2.fo (v0 : Int) (u1 : Int) (j4 : Int) wq ((unhide HQ).2.p.below hdq)).mono ?_
          rintro e wc ⟨rfl, hp1, hb1⟩
          refine hK.out _ _ trivial (fun _ => ?_)
          clear hK K
          try simp only [Act.put, List.setIfInBounds_toArray, List.set_cons_zero, List.set_cons_succ]
          refine wpAnyG_done (by kernel_rfl) ?_ _
          refine NoPanic.normal ?_
          have HX : Hid (Bt (fun b => b = g) wr wc ∧ LkP wc f g n (Sp.lkU n U (v0 : Int) (u1 : Int)) (Sp.lkW n U W (v0 : Int) (u1 : Int) (j4 : Int))) := hide ⟨(Bt.of hdq).trans hb1, hp1⟩
          clear hp1 hb1 hdq hHeld
          go_wp2
          go_meet
          exact ⟨_, rfl, HX⟩
        exact AllReadyG.nil
      case rest =>
        obtain ⟨wx, rfl, HX⟩ := hcut
        have hr1 := (unhide HQ).2.r.bt (unhide HX).1 (fun e => (unhide HQ).2.gx e.symm) (fun e => (unhide HQ).2.go_ e.symm) (fun e => (unhide HQ).2.gc e.symm)
        go_upto_region 12 with fail
        have hdq := Below.refl wx.heap.size wx |>.drew
        refine wp_region_G (fun w' => True) (fun _ => false) (by kernel_rfl) trivial (fun hHeld => ?_)
        generalize wx.drew = wq at *
        refine wpAnyG_take (v := ?_) 0 (by rfl) (by kernel_rfl) (by kernel_rfl) (by kernel_rfl) (by kernel_rfl) (fun _ _ _ h => h) (Or.inl ⟨by rfl, ?_⟩) (by assumption) ?_
        rotate_left
        · (intro w' hSw; (try dsimp only at hSw); (try simp only [List.getElem_toArray, List.getElem_cons_zero]); go_simp; try (with_reducible rfl))
        simp only [Act.put, List.getElem_toArray, List.getElem_cons_zero, List.setIfInBounds_toArray, List.set_cons_zero, List.set_cons_succ]
        refine wpAnyG_take (v := ?_) 1 (by rfl) (by kernel_rfl) (by kernel_rfl) (by kernel_rfl) (by kernel_rfl) (fun _ _ _ h => h) (Or.inl ⟨by rfl, ?_⟩) (by assumption) ?_
        rotate_left
        · (intro w' hSw; (try dsimp only at hSw); (try simp only [List.getElem_toArray, List.getElem_cons_succ, List.getElem_cons_zero]); go_simp; try (with_reducible rfl))
        simp only [Act.put, List.getElem_toArray, List.getElem_cons_succ, List.getElem_cons_zero, List.setIfInBounds_toArray, List.set_cons_zero, List.set_cons_succ]
        refine wpAnyG_take (v := ?_) 2 (by rfl) (by kernel_rfl) (by kernel_rfl) (by kernel_rfl) (by kernel_rfl) (fun _ _ _ h => h) (Or.inl ⟨by rfl, ?_⟩) (by assumption) ?_
        rotate_left
        · (intro w' hSw; (try dsimp only at hSw); (try simp only [List.getElem_toArray, List.getElem_cons_succ, List.getElem_cons_zero]); go_simp; try (with_reducible rfl))
        simp only [Act.put, List.getElem_toArray, List.getElem_cons_succ, List.getElem_cons_zero, List.setIfInBounds_toArray, List.set_cons_zero, List.set_cons_succ]
        refine wpAnyG_take (v := ?_) 3 (by rfl) (by kernel_rfl) (by kernel_rfl) (by kernel_rfl) (by kernel_rfl) (fun _ _ _ h => h) (Or.inl ⟨by rfl, ?_⟩) (by assumption) ?_
        rotate_left
        · (intro w' hSw; (try dsimp only at hSw); (try simp only [List.getElem_toArray, List.getElem_cons_succ, List.getElem_cons_zero]); go_simp; try (with_reducible rfl))
        simp only [Act.put, List.getElem_toArray, List.getElem_cons_succ, List.getElem_cons_zero, List.setIfInBounds_toArray, List.set_cons_zero, List.set_cons_succ]
        refine wpAnyG_take (v := ?_) 4 (by rfl) (by kernel_rfl) (by kernel_rfl) (by kernel_rfl) (by kernel_rfl) (fun _ _ _ h => h) (Or.inl ⟨by rfl, ?_⟩) (by assumption) ?_
        rotate_left
        · (intro w' hSw; (try dsimp only at hSw); (try simp only [List.getElem_toArray, List.getElem_cons_succ, List.getElem_cons_zero]); go_simp; try (with_reducible rfl))
        simp only [Act.put, List.getElem_toArray, List.getElem_cons_succ, List.getElem_cons_zero, List.setIfInBounds_toArray, List.set_cons_zero, List.set_cons_succ]
        refine wpAnyG_take (v := ?_) 5 (by rfl) (by kernel_rfl) (by kernel_rfl) (by kernel_rfl) (by kernel_rfl) (fun _ _ _ h => h) (Or.inl ⟨by rfl, ?_⟩) (by assumption) ?_
        rotate_left
        · (intro w' hSw; (try dsimp only at hSw); (try simp only [List.getElem_toArray, List.getElem_cons_succ, List.getElem_cons_zero]); go_simp; try (with_reducible rfl))
        simp only [Act.put, List.getElem_toArray, List.getElem_cons_succ, List.getElem_cons_zero, List.setIfInBounds_toArray, List.set_cons_zero, List.set_cons_succ]
        refine wpAnyG_take (v := ?_) 6 (by rfl) (by kernel_rfl) (by kernel_rfl) (by kernel_rfl) (by kernel_rfl) (fun _ _ _ h => h) (Or.inl ⟨by rfl, ?_⟩) (by assumption) ?_
        rotate_left
        · (intro w' hSw; (try dsimp only at hSw); (try simp only [List.getElem_toArray, List.getElem_cons_succ, List.getElem_cons_zero]); go_simp; try (with_reducible rfl))
        simp only [Act.put, List.getElem_toArray, List.getElem_cons_succ, List.getElem_cons_zero, List.setIfInBounds_toArray, List.set_cons_zero, List.set_cons_succ]
        refine wpAnyG_take (v := ?_) 7 (by rfl) (by kernel_rfl) (by kernel_rfl) (by kernel_rfl) (by kernel_rfl) (fun _ _ _ h => h) (Or.inl ⟨by rfl, ?_⟩) (by assumption) ?_
        rotate_left
        · (intro w' hSw; (try dsimp only at hSw); (try simp only [List.getElem_toArray, List.getElem_cons_succ, List.getElem_cons_zero]); go_simp; try (with_reducible rfl))
        simp only [Act.put, List.getElem_toArray, List.getElem_cons_succ, List.getElem_cons_zero, List.setIfInBounds_toArray, List.set_cons_zero, List.set_cons_succ]
        refine wpAnyG_take (v := ?_) 8 (by rfl) (by kernel_rfl) (by kernel_rfl) (by kernel_rfl) (by kernel_rfl) (fun _ _ _ h => h) (Or.inl ⟨by rfl, ?_⟩) (by assumption) ?_
        rotate_left
        · (intro w' hSw; (try dsimp only at hSw); (try simp only [List.getElem_toArray, List.getElem_cons_succ, List.getElem_cons_zero]); go_simp; try (with_reducible rfl))
        simp only [Act.put, List.getElem_toArray, List.getElem_cons_succ, List.getElem_cons_zero, List.setIfInBounds_toArray, List.set_cons_zero, List.set_cons_succ]
        refine wpAnyG_take (v := ?_) 9 (by rfl) (by kernel_rfl) (by kernel_rfl) (by kernel_rfl) (by kernel_rfl) (fun _ _ _ h => h) (Or.inl ⟨by rfl, ?_⟩) (by assumption) ?_
        rotate_left
        · (intro w' hSw; (try dsimp only at hSw); (try simp only [List.getElem_toArray, List.getElem_cons_succ, List.getElem_cons_zero]); go_simp; try (with_reducible rfl))
        simp only [Act.put, List.getElem_toArray, List.getElem_cons_succ, List.getElem_cons_zero, List.setIfInBounds_toArray, List.set_cons_zero, List.set_cons_succ]
        refine wpAnyG_take (v := ?_) 10 (by rfl) (by kernel_rfl) (by kernel_rfl) (by kernel_rfl) (by kernel_rfl) (fun _ _ _ h => h) (Or.inl ⟨by rfl, ?_⟩) (by assumption) ?_
        rotate_left
        · (intro w' hSw; (try dsimp only at hSw); (try simp only [List.getElem_toArray, List.getElem_cons_succ, List.getElem_cons_zero]); go_simp; try (with_reducible rfl))
        simp only [Act.put, List.getElem_toArray, List.getElem_cons_succ, List.getElem_cons_zero, List.setIfInBounds_toArray, List.set_cons_zero, List.set_cons_succ]
        refine wpAnyG_take (v := ?_) 11 (by rfl) (by kernel_rfl) (by kernel_rfl) (by kernel_rfl) (by kernel_rfl) (fun _ _ _ h => h) (Or.inl ⟨by rfl, ?_⟩) (by assumption) ?_
        rotate_left
        · (intro w' hSw; (try dsimp only at hSw); (try simp only [List.getElem_toArray, List.getElem_cons_succ, List.getElem_cons_zero]); go_simp; try (with_reducible rfl))
        simp only [Act.put, List.getElem_toArray, List.getElem_cons_succ, List.getElem_cons_zero, List.setIfInBounds_toArray, List.set_cons_zero, List.set_cons_succ]
        refine wpAnyG_ready [12] (by kernel_rfl) (by simp) ?_
        refine AllReadyG.cons 12 (by rfl) (fun K hK => ?_) ?_
        · simp only [List.getElem_toArray, List.getElem_cons_succ, List.getElem_cons_zero]
          go_simp
          go_at_call 16
          refine (lkrlink_any (unhide HQ).2.fo (v0 : Int) (u1 : Int) (j4 : Int) wq (hr1.below hdq)).mono ?_
          rintro e wc ⟨rfl, hp1, hb1⟩
          refine hK.out _ _ trivial (fun _ => ?_)
          clear hK K
          try simp only [Act.put, List.setIfInBounds_toArray, List.set_cons_zero, List.set_cons_succ]
          refine wpAnyG_done (by kernel_rfl) ?_ _
          refine NoPanic.normal ?_
          have HQ2 : Hid (Below w.heap.size w wc ∧ LkB wc f g x o c n co cw (Sp.lkU n U (v0 : Int) (u1 : Int)) (Sp.lkW n U W (v0 : Int) (u1 : Int) (j4 : Int))) := hide (by
            have hbb : Bt (fun b => b = o ∨ b = c) wx wc := (Bt.of hdq).trans hb1
            exact ⟨((unhide HQ).1.trans ((unhide HX).1.below (fun k e => unhide HGo k (.inl e)) (unhide HQ).1.size)).trans (hbb.below (fun k e => unhide HGo k (.inr e)) (Nat.le_trans (unhide HQ).1.size (unhide HX).1.size)), ⟨(unhide HX).2.bt hbb (fun e => e.elim (unhide HQ).2.fo_ (unhide HQ).2.fc) (fun e => e.elim (unhide HQ).2.go_ (unhide HQ).2.gc), hp1, (unhide HQ).2.gx, (unhide HQ).2.go_, (unhide HQ).2.gc, (unhide HQ).2.fo_, (unhide HQ).2.fc, (unhide HQ).2.fo.lk _ _⟩⟩)
          clear hp1 hb1 hdq hHeld hr1
          go_wp2
          go_roundg g'
          case rel => exact ⟨i + 1, _, _, by omega, by go_num, HQ2⟩
          case measure => omega
        exact AllReadyG.nil
    · have hdone : (¬ (i : Int) < (ns.length : Int)) ∨ ((i : Int) < (ns.length : Int) ∧ ¬ (i : Int) < 60) := by omega
      clear HWn hi hig
      clear HNa HNs hv
      have hB := (unhide HQ).2
      have HQ1 := hide (unhide HQ).1
      have HF := hide hB.fo
      have HB := hide hB
      clear HQ hB
      rcases (unhide HF).at_ han with e | ⟨u, e, hun⟩
      · have Hhg : Hid (Sp.hg n U (a : Int) = false) := hide (Sp.hg_root e)
        clear e
        rcases hdone with hdone | ⟨hdone, hdone2⟩
        · go_wp2_with fail
          go_at_call 9
          refine (unhide HWa _).mono ?_
          rintro e wz ⟨rfl, hwz⟩
          have hwz' := hwz.symm
          subst hwz'
          clear hwz
          have hU := lkup_any (a : Int) wr (unhide HB).p
          have hW := lkweight_any (a : Int) wr (unhide HB).p
          rw [unhide Hhg, if_neg (by decide)] at hU hW
          have HCU := hide hU
          have HCW := hide hW
          have hc := lkcut_any (a : Int) wr (unhide HB).p
          unfold Sp.ctE Sp.ctU Sp.ctW at hc
          rw [unhide Hhg, Sp.hs_yes han, if_pos rfl, if_neg (by decide), if_neg (by decide), if_neg (by decide)] at hc
          have HCc := hide hc
          clear hU hW hc
          go_wp2_with fail
          go_at_call 17
          refine (unhide HCU).mono ?_
          rintro e wz ⟨rfl, hw⟩
          have hw' := hw.symm
          subst hw'
          clear hw
          go_wp2_with fail
          go_at_call 18
          refine (unhide HCW).mono ?_
          rintro e wz ⟨rfl, hw⟩
          have hw' := hw.symm
          subst hw'
          clear hw
          go_wp2_with fail
          go_at_call 12
          refine (unhide HCc).mono ?_
          rintro e wS ⟨rfl, hpS, hbS⟩
          have HCs := hide (same7_any (unhide HF) wS (by omega) hpS ((unhide HB).r.bt hbS (fun e => (unhide HB).gx e.symm) (fun e => (unhide HB).go_ e.symm) (fun e => (unhide HB).gc e.symm)))
          have HBs := hide ((unhide HQ1).trans (hbS.below (fun k e => by rw [e]; exact hgw) (unhide HQ1).size))
          clear hpS hbS
          go_wp2_with fail
          go_at_call 19
          refine (unhide HCs).mono ?_
          rintro e wE ⟨rfl, hbE⟩
          have HE := hide ((unhide HBs).trans (hbE.mono (unhide HBs).size))
          clear hbE
          go_wp2
          rw [unhide HP]
          exact ⟨rfl, unhide HE⟩
        · go_wp2_with fail
          go_at_call 9
          refine (unhide HWa _).mono ?_
          rintro e wz ⟨rfl, hwz⟩
          have hwz' := hwz.symm
          subst hwz'
          clear hwz
          have hU := lkup_any (a : Int) wr (unhide HB).p
          have hW := lkweight_any (a : Int) wr (unhide HB).p
          rw [unhide Hhg, if_neg (by decide)] at hU hW
          have HCU := hide hU
          have HCW := hide hW
          have hc := lkcut_any (a : Int) wr (unhide HB).p
          unfold Sp.ctE Sp.ctU Sp.ctW at hc
          rw [unhide Hhg, Sp.hs_yes han, if_pos rfl, if_neg (by decide), if_neg (by decide), if_neg (by decide)] at hc
          have HCc := hide hc
          clear hU hW hc
          go_wp2_with fail
          go_at_call 17
          refine (unhide HCU).mono ?_
          rintro e wz ⟨rfl, hw⟩
          have hw' := hw.symm
          subst hw'
          clear hw
          go_wp2_with fail
          go_at_call 18
          refine (unhide HCW).mono ?_
          rintro e wz ⟨rfl, hw⟩
          have hw' := hw.symm
          subst hw'
          clear hw
          go_wp2_with fail
          go_at_call 12
          refine (unhide HCc).mono ?_
          rintro e wS ⟨rfl, hpS, hbS⟩
          have HCs := hide (same7_any (unhide HF) wS (by omega) hpS ((unhide HB).r.bt hbS (fun e => (unhide HB).gx e.symm) (fun e => (unhide HB).go_ e.symm) (fun e => (unhide HB).gc e.symm)))
          have HBs := hide ((unhide HQ1).trans (hbS.below (fun k e => by rw [e]; exact hgw) (unhide HQ1).size))
          clear hpS hbS
          go_wp2_with fail
          go_at_call 19
          refine (unhide HCs).mono ?_
          rintro e wE ⟨rfl, hbE⟩
          have HE := hide ((unhide HBs).trans (hbE.mono (unhide HBs).size))
          clear hbE
          go_wp2
          rw [unhide HP]
          exact ⟨rfl, unhide HE⟩
      · have Hhg : Hid (Sp.hg n U (a : Int) = true) := hide (Sp.hg_yes han (by omega))
        have HJ := hide (Sp.rejoin (W := W) (unhide HF) han e)
        have Hu := hide e
        clear e
        rcases hdone with hdone | ⟨hdone, hdone2⟩
        · go_wp2_with fail
          go_at_call 9
          refine (unhide HWa _).mono ?_
          rintro e wz ⟨rfl, hwz⟩
          have hwz' := hwz.symm
          subst hwz'
          clear hwz
          have hU := lkup_any (a : Int) wr (unhide HB).p
          have hW := lkweight_any (a : Int) wr (unhide HB).p
          rw [unhide Hhg, if_pos rfl, Int.toNat_natCast] at hU hW
          rw [unhide Hu] at hU
          have HCU := hide hU
          have HCW := hide hW
          have hc := lkcut_any (a : Int) wr (unhide HB).p
          rw [(unhide HJ).1] at hc
          have HCc := hide hc
          have haa : ((a : Int) == (a : Int)) = true := by simp
          clear hU hW hc
          go_wp2_with fail
          go_at_call 17
          refine (unhide HCU).mono ?_
          rintro e wz ⟨rfl, hw⟩
          have hw' := hw.symm
          subst hw'
          clear hw
          go_wp2_with fail
          go_at_call 18
          refine (unhide HCW).mono ?_
          rintro e wz ⟨rfl, hw⟩
          have hw' := hw.symm
          subst hw'
          clear hw
          go_wp2_with fail
          go_at_call 12
          refine (unhide HCc).mono ?_
          rintro e w5 ⟨rfl, hp5, hb5⟩
          have hr := lkroot_any ((unhide HF).ct (a : Int)) (a : Int) w5 hp5
          rw [(unhide HJ).2.1] at hr
          have HCr := hide hr
          have hl := lklink_any ((unhide HF).ct (a : Int)) (a : Int) (u : Int) (W a) w5 hp5
          rw [(unhide HJ).2.2.1, (unhide HJ).2.2.2.1, (unhide HJ).2.2.2.2] at hl
          have HCl := hide hl
          have Hb5 := hide hb5
          clear hr hl hp5 hb5 HCc
          go_wp2_with fail
          go_at_call 13
          refine (unhide HCr).mono ?_
          rintro e wz ⟨rfl, hw⟩
          have hw' := hw.symm
          subst hw'
          clear hw
          go_wp2_with fail
          go_at_call 8
          refine (unhide HCl).mono ?_
          rintro e wS ⟨rfl, hpS, hb6⟩
          have hbS := (unhide Hb5).trans hb6
          clear hb6 HCl
          have HCs := hide (same7_any (unhide HF) wS (by omega) hpS ((unhide HB).r.bt hbS (fun e => (unhide HB).gx e.symm) (fun e => (unhide HB).go_ e.symm) (fun e => (unhide HB).gc e.symm)))
          have HBs := hide ((unhide HQ1).trans (hbS.below (fun k e => by rw [e]; exact hgw) (unhide HQ1).size))
          clear hpS hbS
          go_wp2_with fail
          go_at_call 19
          refine (unhide HCs).mono ?_
          rintro e wE ⟨rfl, hbE⟩
          have HE := hide ((unhide HBs).trans (hbE.mono (unhide HBs).size))
          clear hbE
          go_wp2
          rw [unhide HP]
          exact ⟨rfl, unhide HE⟩
        · go_wp2_with fail
          go_at_call 9
          refine (unhide HWa _).mono ?_
          rintro e wz ⟨rfl, hwz⟩
          have hwz' := hwz.symm
          subst hwz'
          clear hwz
          have hU := lkup_any (a : Int) wr (unhide HB).p
          have hW := lkweight_any (a : Int) wr (unhide HB).p
          rw [unhide Hhg, if_pos rfl, Int.toNat_natCast] at hU hW
          rw [unhide Hu] at hU
          have HCU := hide hU
          have HCW := hide hW
          have hc := lkcut_any (a : Int) wr (unhide HB).p
          rw [(unhide HJ).1] at hc
          have HCc := hide hc
          have haa : ((a : Int) == (a : Int)) = true := by simp
          clear hU hW hc
          go_wp2_with fail
          go_at_call 17
          refine (unhide HCU).mono ?_
          rintro e wz ⟨rfl, hw⟩
          have hw' := hw.symm
          subst hw'
          clear hw
          go_wp2_with fail
          go_at_call 18
          refine (unhide HCW).mono ?_
          rintro e wz ⟨rfl, hw⟩
          have hw' := hw.symm
          subst hw'
          clear hw
          go_wp2_with fail
          go_at_call 12
          refine (unhide HCc).mono ?_
          rintro e w5 ⟨rfl, hp5, hb5⟩
          have hr := lkroot_any ((unhide HF).ct (a : Int)) (a : Int) w5 hp5
          rw [(unhide HJ).2.1] at hr
          have HCr := hide hr
          have hl := lklink_any ((unhide HF).ct (a : Int)) (a : Int) (u : Int) (W a) w5 hp5
          rw [(unhide HJ).2.2.1, (unhide HJ).2.2.2.1, (unhide HJ).2.2.2.2] at hl
          have HCl := hide hl
          have Hb5 := hide hb5
          clear hr hl hp5 hb5 HCc
          go_wp2_with fail
          go_at_call 13
          refine (unhide HCr).mono ?_
          rintro e wz ⟨rfl, hw⟩
          have hw' := hw.symm
          subst hw'
          clear hw
          go_wp2_with fail
          go_at_call 8
          refine (unhide HCl).mono ?_
          rintro e wS ⟨rfl, hpS, hb6⟩
          have hbS := (unhide Hb5).trans hb6
          clear hb6 HCl
          have HCs := hide (same7_any (unhide HF) wS (by omega) hpS ((unhide HB).r.bt hbS (fun e => (unhide HB).gx e.symm) (fun e => (unhide HB).go_ e.symm) (fun e => (unhide HB).gc e.symm)))
          have HBs := hide ((unhide HQ1).trans (hbS.below (fun k e => by rw [e]; exact hgw) (unhide HQ1).size))
          clear hpS hbS
          go_wp2_with fail
          go_at_call 19
          refine (unhide HCs).mono ?_
          rintro e wE ⟨rfl, hbE⟩
          have HE := hide ((unhide HBs).trans (hbE.mono (unhide HBs).size))
          clear hbE
          go_wp2
          rw [unhide HP]
          exact ⟨rfl, unhide HE⟩
end Go.Proofs.Ytohfmohkaaidpab


/- The law LinkApart, walked. -/
namespace Go.Proofs.Ytohfmohkaaidpab
open Go Go.RowKit

set_option maxRecDepth 100000 in
set_option maxHeartbeats 16000000 in
theorem linkApart_any (raw : Int) (ns ms : List Int) (nv mv : Value) (w : World) (hv : Ints w nv ns) (hu : Ints w mv ms) :
    Calls Try.prog 5 #[nv, mv, .int .i64 raw] w fun e w' => e = .returned (.bool true) ∧ Below w.heap.size w w' := by
  obtain ⟨P, hP⟩ : ∃ P : Ending → World → Prop, P = fun e w' => e = .returned (.bool true) ∧ Below w.heap.size w w' := ⟨_, rfl⟩
  rw [← hP]
  have HP := hide hP
  clear hP
  obtain ⟨na, nc, rfl, -, -, HNa⟩ := hv.allA
  obtain ⟨ma, mc, rfl, -, -, HMa⟩ := hu.allA
  clear hv hu
  go_enter Try.func5, Try.ntmps5
  go_wp2_with fail
  go_at_call 6
  refine (known7_any w).mono ?_
  rintro e w1 ⟨rfl, hb1⟩
  have HB1 := hide hb1
  clear hb1
  have HC1 := hide (lknew_any 9 w1 (by decide) (by decide))
  go_wp2_with fail
  go_at_call 7
  refine (unhide HC1).mono ?_
  rintro e w2 ⟨f, g, rfl, hp2, hb2, hf2, hg2⟩
  have HB2 := hide ((unhide HB1).trans (hb2.mono (unhide HB1).size))
  have hgl2 := hp2.lt
  have HP2 := hide hp2
  have hfw : w.heap.size ≤ f := Nat.le_trans (unhide HB1).size hf2
  have hgw : w.heap.size ≤ g := Nat.le_trans (unhide HB1).size hg2
  clear hp2 hb2 HC1 HB1
  have HC2 := hide (lkrnew_any 9 w2 (by decide) (by decide))
  go_wp2_with fail
  go_at_call 15
  refine (unhide HC2).mono ?_
  rintro e w3 ⟨x, o, c, co, cw, rfl, hr3, hb3, hx3, ho3, hc3⟩
  have HQ : Hid (Below w.heap.size w w3 ∧ LkB w3 f g x o c 9 co cw (fun _ => -1) (fun _ => 0)) := hide ⟨(unhide HB2).trans (hb3.mono (unhide HB2).size), ⟨(unhide HP2).below hb3, hr3, by omega, by omega, by omega, by omega, by omega, Sp.fo_new 9⟩⟩
  have hxw : w.heap.size ≤ x := Nat.le_trans (unhide HB2).size hx3
  have how : w.heap.size ≤ o := Nat.le_trans (unhide HB2).size ho3
  have hcw : w.heap.size ≤ c := Nat.le_trans (unhide HB2).size hc3
  have HGo : Hid (∀ k, (k = g ∨ k = o ∨ k = c) → w.heap.size ≤ k) := hide fun k hk => by rcases hk with rfl | rfl | rfl <;> assumption
  clear hr3 hb3 hx3 ho3 hc3 HC2 HB2 HP2 hgl2 hf2 hg2
  have HCn := hide (lknew_any 7 w3 (by decide) (by decide))
  have HL3 := hide (And.intro (unhide HQ).2.p.lt (unhide HQ).2.r.lt)
  go_wp2_with fail
  go_at_call 7
  refine (unhide HCn).mono ?_
  rintro e w4 ⟨f2, g2, rfl, hp4, hb4, hf4, hg4⟩
  have HP4 := hide hp4
  have HQ4 := hide (And.intro ((unhide HQ).1.trans (hb4.mono (unhide HQ).1.size)) ((unhide HQ).2.below hb4))
  have hs4 := hb4.size
  have hl4 := hp4.lt
  clear hp4 hb4 HQ HCn
  have HCr := hide (lkrnew_any 7 w4 (by decide) (by decide))
  go_wp2_with fail
  go_at_call 15
  refine (unhide HCr).mono ?_
  rintro e w5 ⟨x2, o2, c2, co2, cw2, rfl, hr5, hb5, hx5, ho5, hc5⟩
  have HOrd : Hid (f < w3.heap.size ∧ g < w3.heap.size ∧ x < w3.heap.size ∧ o < w3.heap.size ∧ c < w3.heap.size ∧ w3.heap.size ≤ f2 ∧ w3.heap.size ≤ g2 ∧ w3.heap.size ≤ x2 ∧ w3.heap.size ≤ o2 ∧ w3.heap.size ≤ c2) := hide (by have := unhide HL3; omega)
  have HGo2 : Hid (∀ k, (k = g2 ∨ k = o2 ∨ k = c2) → w.heap.size ≤ k) := hide fun k hk => by
    have h1 := unhide HOrd
    have h2 := unhide HL3
    rcases hk with rfl | rfl | rfl <;> omega
  have HQ : Hid (Below w.heap.size w w5 ∧ LkB w5 f g x o c 9 co cw (fun _ => -1) (fun _ => 0) ∧ LkB w5 f2 g2 x2 o2 c2 7 co2 cw2 (fun _ => -1) (fun _ => 0)) := hide ⟨(unhide HQ4).1.trans (hb5.mono (unhide HQ4).1.size), (unhide HQ4).2.below hb5, ⟨(unhide HP4).below hb5, hr5, by omega, by omega, by omega, by omega, by omega, Sp.fo_new 7⟩⟩
  clear hr5 hb5 hx5 ho5 hc5 HCr HP4 HQ4 hf4 hg4 hl4 hs4 HL3
  have HWn := hide (fun (z : Int) (w' : World) => within7_any z 1099511627776 w' (by omega) (by omega))
  go_wp2
  go_loopg [11] 50 (fun g' s11 wr => ∃ (k : Nat) (U W U2 W2 : Nat → Int), k + g' = 50 ∧ s11 = .int .i64 (k : Int) ∧ Hid (Below w.heap.size w wr ∧ LkB wr f g x o c 9 co cw U W ∧ LkB wr f2 g2 x2 o2 c2 7 co2 cw2 U2 W2))
  case atStart => exact ⟨0, _, _, _, _, by omega, rfl, HQ⟩
  case round =>
    clear HQ
    obtain ⟨k, U, W, U2, W2, hkg, rfl, HQ⟩ := hrel
    cases gk with
    | succ g' =>
      have hk50 : (k : Int) < 50 := by omega
      by_cases hk1 : k < ns.length
      · have hk1I : (k : Int) < (ns.length : Int) := by omega
        obtain ⟨b, o', rfl, -, hcx⟩ := unhide HNa k hk1
        have c1 := hcx wr (unhide HQ).1
        obtain ⟨z, hz⟩ : ∃ z, ns.getD k 0 = z := ⟨_, rfl⟩
        rw [hz] at c1
        have hz0 : 0 ≤ z % 1099511627776 := Int.emod_nonneg _ (by omega)
        have hz1 : z % 1099511627776 < 1099511627776 := Int.emod_lt_of_pos _ (by omega)
        obtain ⟨m, hm⟩ : ∃ m : Nat, z % 1099511627776 = (m : Int) := ⟨(z % 1099511627776).toNat, by omega⟩
        have HC := hide (unhide HWn z wr)
        rw [hm] at HC
        have HSt := hide (step7_any m raw wr (by omega) (by decide) (by decide) (unhide HQ).2.1)
        clear hz hz0 hz1 hcx hm
        go_wp2_with fail
        go_at_call 9
        refine (unhide HC).mono ?_
        rintro e wz ⟨rfl, hwz⟩
        have hwz' := hwz.symm
        subst hwz'
        clear hwz
        clear HC
        go_wp2_with fail
        go_at_call 20
        refine (unhide HSt).mono ?_
        rintro e w4 ⟨rfl, U', W', hB, hb4⟩
        have HQ2 : Hid (Below w.heap.size w w4 ∧ LkB w4 f g x o c 9 co cw U' W' ∧ LkB w4 f2 g2 x2 o2 c2 7 co2 cw2 U2 W2) := hide ⟨(unhide HQ).1.trans (hb4.below (unhide HGo) (unhide HQ).1.size), hB, (unhide HQ).2.2.bt hb4 (fun e => by have := unhide HOrd; omega) (fun e => by have := unhide HOrd; omega) (fun e => by have := unhide HOrd; omega) (fun e => by have := unhide HOrd; omega) (fun e => by have := unhide HOrd; omega)⟩
        clear hB hb4 HSt c1
        clear HQ
        by_cases hk2 : k < ms.length
        · have hk2I : (k : Int) < (ms.length : Int) := by omega
          obtain ⟨b', o'', rfl, -, hcx'⟩ := unhide HMa k hk2
          have c2' := hcx' w4 (unhide HQ2).1
          obtain ⟨y, hy⟩ : ∃ y, ms.getD k 0 = y := ⟨_, rfl⟩
          rw [hy] at c2'
          have hy0 : 0 ≤ y % 1099511627776 := Int.emod_nonneg _ (by omega)
          have hy1 : y % 1099511627776 < 1099511627776 := Int.emod_lt_of_pos _ (by omega)
          obtain ⟨m2, hm2⟩ : ∃ m2 : Nat, y % 1099511627776 = (m2 : Int) := ⟨(y % 1099511627776).toNat, by omega⟩
          have HC2 := hide (unhide HWn y w4)
          rw [hm2] at HC2
          have HSt2 := hide (step7_any m2 raw w4 (by omega) (by decide) (by decide) (unhide HQ2).2.2)
          clear hy hy0 hy1 hcx' hm2
          go_wp2_with fail
          go_at_call 9
          refine (unhide HC2).mono ?_
          rintro e wz ⟨rfl, hwz⟩
          have hwz' := hwz.symm
          subst hwz'
          clear hwz
          clear HC2
          go_wp2_with fail
          go_at_call 20
          refine (unhide HSt2).mono ?_
          rintro e w5 ⟨rfl, U3, W3, hB, hb5⟩
          have HQ3 : Hid (Below w.heap.size w w5 ∧ LkB w5 f g x o c 9 co cw U' W' ∧ LkB w5 f2 g2 x2 o2 c2 7 co2 cw2 U3 W3) := hide ⟨(unhide HQ2).1.trans (hb5.below (unhide HGo2) (unhide HQ2).1.size), (unhide HQ2).2.1.bt hb5 (fun e => by have := unhide HOrd; omega) (fun e => by have := unhide HOrd; omega) (fun e => by have := unhide HOrd; omega) (fun e => by have := unhide HOrd; omega) (fun e => by have := unhide HOrd; omega), hB⟩
          clear hB hb5 HSt2 c2'
          clear HQ2
          go_wp2
          go_roundg g'
          case rel => exact ⟨k + 1, _, _, _, _, by omega, by go_num, HQ3⟩
          case measure => omega
        · have hk2I : ¬ (k : Int) < (ms.length : Int) := by omega
          go_wp2
          go_roundg g'
          case rel => exact ⟨k + 1, _, _, _, _, by omega, by go_num, HQ2⟩
          case measure => omega
      · have hk1I : ¬ (k : Int) < (ns.length : Int) := by omega
        by_cases hk2 : k < ms.length
        · have hk2I : (k : Int) < (ms.length : Int) := by omega
          obtain ⟨b', o'', rfl, -, hcx'⟩ := unhide HMa k hk2
          have c2' := hcx' wr (unhide HQ).1
          obtain ⟨y, hy⟩ : ∃ y, ms.getD k 0 = y := ⟨_, rfl⟩
          rw [hy] at c2'
          have hy0 : 0 ≤ y % 1099511627776 := Int.emod_nonneg _ (by omega)
          have hy1 : y % 1099511627776 < 1099511627776 := Int.emod_lt_of_pos _ (by omega)
          obtain ⟨m2, hm2⟩ : ∃ m2 : Nat, y % 1099511627776 = (m2 : Int) := ⟨(y % 1099511627776).toNat, by omega⟩
          have HC2 := hide (unhide HWn y wr)
          rw [hm2] at HC2
          have HSt2 := hide (step7_any m2 raw wr (by omega) (by decide) (by decide) (unhide HQ).2.2)
          clear hy hy0 hy1 hcx' hm2
          go_wp2_with fail
          go_at_call 9
          refine (unhide HC2).mono ?_
          rintro e wz ⟨rfl, hwz⟩
          have hwz' := hwz.symm
          subst hwz'
          clear hwz
          clear HC2
          go_wp2_with fail
          go_at_call 20
          refine (unhide HSt2).mono ?_
          rintro e w5 ⟨rfl, U3, W3, hB, hb5⟩
          have HQ3 : Hid (Below w.heap.size w w5 ∧ LkB w5 f g x o c 9 co cw U W ∧ LkB w5 f2 g2 x2 o2 c2 7 co2 cw2 U3 W3) := hide ⟨(unhide HQ).1.trans (hb5.below (unhide HGo2) (unhide HQ).1.size), (unhide HQ).2.1.bt hb5 (fun e => by have := unhide HOrd; omega) (fun e => by have := unhide HOrd; omega) (fun e => by have := unhide HOrd; omega) (fun e => by have := unhide HOrd; omega) (fun e => by have := unhide HOrd; omega), hB⟩
          clear hB hb5 HSt2 c2'
          clear HQ
          go_wp2
          go_roundg g'
          case rel => exact ⟨k + 1, _, _, _, _, by omega, by go_num, HQ3⟩
          case measure => omega
        · have hk2I : ¬ (k : Int) < (ms.length : Int) := by omega
          go_wp2
          go_roundg g'
          case rel => exact ⟨k + 1, _, _, _, _, by omega, by go_num, HQ⟩
          case measure => omega
    | zero =>
      have hk50 : ¬ (k : Int) < 50 := by omega
      have HC := hide (same7_any (unhide HQ).2.1.fo wr (by decide) (unhide HQ).2.1.p (unhide HQ).2.1.r)
      go_wp2_with fail
      go_at_call 19
      refine (unhide HC).mono ?_
      rintro e w6 ⟨rfl, hb6⟩
      have h2 := (unhide HQ).2.2.below hb6
      have HC2 := hide (same7_any h2.fo w6 (by decide) h2.p h2.r)
      have HB6 := hide ((unhide HQ).1.trans (hb6.mono (unhide HQ).1.size))
      clear h2 hb6 HC HQ
      go_wp2_with fail
      go_at_call 19
      refine (unhide HC2).mono ?_
      rintro e w7 ⟨rfl, hb7⟩
      have HE := hide ((unhide HB6).trans (hb7.mono (unhide HB6).size))
      clear hb7
      go_wp2
      rw [unhide HP]
      exact ⟨rfl, unhide HE⟩
end Go.Proofs.Ytohfmohkaaidpab


