/- What the proof needs, part 8. -/
import Derived.Test.YtohfmohkaaidpaaL7
/- The law LinkErrs, walked. -/
namespace Go.Proofs.Ytohfmohkaaidpaa
open Go Go.RowKit

theorem lklink_no {f g n : Nat} {U W : Nat → Int} (hF : Sp.Fo n U) (v u x cd : Int) (w : World) (h : LkP w f g n U W) (he : Sp.lkE n U v u = cd) (h0 : cd ≠ 0) :
    Calls Try.prog 15 #[.pointer (some ⟨f, 0, none⟩), .int .i64 v, .int .i64 u, .int .i64 x] w fun e w' => e = .returned (.int .i64 cd) ∧ LkP w' f g n U W ∧ Bt (fun b => b = g) w w' := by
  have h2 := lklink_any hF v u x w h
  unfold Sp.lkU Sp.lkW at h2
  rw [he, if_neg h0, if_neg h0] at h2
  exact h2
theorem lkcut_no {f g n : Nat} {U W : Nat → Int} (v cd : Int) (w : World) (h : LkP w f g n U W) (he : Sp.ctE n U v = cd) (h0 : Sp.hg n U v = false) :
    Calls Try.prog 24 #[.pointer (some ⟨f, 0, none⟩), .int .i64 v] w fun e w' => e = .returned (.int .i64 cd) ∧ LkP w' f g n U W ∧ Bt (fun b => b = g) w w' := by
  have h2 := lkcut_any v w h
  unfold Sp.ctU Sp.ctW at h2
  rw [he, h0, if_neg (by decide), if_neg (by decide)] at h2
  exact h2
theorem lkturn_no {f g n : Nat} {U W : Nat → Int} (hF : Sp.Fo n U) (v : Int) (w : World) (h : LkP w f g n U W) (he : Sp.hs n v = false) :
    Calls Try.prog 18 #[.pointer (some ⟨f, 0, none⟩), .int .i64 v] w fun e w' => e = .returned (.bool false) ∧ LkP w' f g n U W ∧ Bt (fun b => b = g) w w' := by
  have h2 := lkturn_any hF v w h
  unfold Sp.tn at h2
  rw [he, if_neg (by decide)] at h2
  exact h2
theorem lkadd_no {f g n : Nat} {U W : Nat → Int} (hF : Sp.Fo n U) (v x : Int) (w : World) (h : LkP w f g n U W) (he : Sp.hs n v = false) :
    Calls Try.prog 22 #[.pointer (some ⟨f, 0, none⟩), .int .i64 v, .int .i64 x] w fun e w' => e = .returned (.bool false) ∧ LkP w' f g n U W ∧ Bt (fun b => b = g) w w' := by
  have h2 := lkadd_any hF v x w h
  unfold Sp.ad at h2
  rw [he, if_neg (by decide)] at h2
  exact h2
set_option maxRecDepth 100000 in
set_option maxHeartbeats 16000000 in
theorem linkErrs_any (size v w0 far : Int) (ns : List Int) (nv : Value) (w : World) (hv : Ints w nv ns) :
    Calls Try.prog 7 #[.int .i64 size, nv, .int .i64 v, .int .i64 w0, .int .i64 far] w fun e w' => e = .returned (.bool true) ∧ Below w.heap.size w w' := by
  obtain ⟨P, hP⟩ : ∃ P : Ending → World → Prop, P = fun e w' => e = .returned (.bool true) ∧ Below w.heap.size w w' := ⟨_, rfl⟩
  rw [← hP]
  have HP := hide hP
  clear hP
  have HNs : Hid (∀ w', Below w.heap.size w w' → Ints w' nv ns) := hide fun w' hb => hv.below hb
  obtain ⟨na, nc, rfl, -, -, HNa⟩ := hv.allA
  have HN0 := hide (fun w' => within7_any size 15 w' (by omega) (by omega))
  have hm0 : 0 ≤ size % 15 := Int.emod_nonneg _ (by omega)
  have hm1 : size % 15 < 15 := Int.emod_lt_of_pos _ (by omega)
  obtain ⟨n, hN⟩ : ∃ n : Nat, 1 + size % 15 = (n : Int) := ⟨(1 + size % 15).toNat, by omega⟩
  have hn1 : 1 ≤ n := by omega
  have hn2 : n ≤ 15 := by omega
  generalize size % 15 = sz at *
  go_enter Try.func7, Try.ntmps7
  go_wp2_with fail
  go_at_call 9
  refine (known7_any w).mono ?_
  rintro e w1 ⟨rfl, hb1⟩
  have HB1 := hide hb1
  clear hb1
  go_wp2_with fail
  go_at_call 10
  refine (unhide HN0 _).mono ?_
  rintro e wz ⟨rfl, hwz⟩
  have hwz' := hwz.symm
  subst hwz'
  clear hwz
  clear HN0
  have HC1 := hide (lknew_any n w1 hn1 (by omega))
  go_wp2_with fail
  go_at_call 11
  refine (unhide HC1).mono ?_
  rintro e w2 ⟨f, g, rfl, hp2, hb2, hf2, hg2⟩
  have HB2 := hide ((unhide HB1).trans (hb2.mono (unhide HB1).size))
  have hgl2 := hp2.lt
  have HP2 := hide hp2
  have hfw : w.heap.size ≤ f := Nat.le_trans (unhide HB1).size hf2
  have hgw : w.heap.size ≤ g := Nat.le_trans (unhide HB1).size hg2
  clear hp2 hb2 HC1 HB1
  have HC2 := hide (lkrnew_any n w2 hn1 (by omega))
  go_wp2_with fail
  go_at_call 12
  refine (unhide HC2).mono ?_
  rintro e w3 ⟨x, o, c, co, cw, rfl, hr3, hb3, hx3, ho3, hc3⟩
  have HQ : Hid (Below w.heap.size w w3 ∧ LkB w3 f g x o c n co cw (fun _ => -1) (fun _ => 0)) := hide ⟨(unhide HB2).trans (hb3.mono (unhide HB2).size), ⟨(unhide HP2).below hb3, hr3, by omega, by omega, by omega, by omega, by omega, Sp.fo_new n⟩⟩
  have hxw : w.heap.size ≤ x := Nat.le_trans (unhide HB2).size hx3
  have how : w.heap.size ≤ o := Nat.le_trans (unhide HB2).size ho3
  have hcw : w.heap.size ≤ c := Nat.le_trans (unhide HB2).size hc3
  have HGo : Hid (∀ k, (k = g ∨ k = o ∨ k = c) → w.heap.size ≤ k) := hide fun k hk => by rcases hk with rfl | rfl | rfl <;> assumption
  clear hr3 hb3 hx3 ho3 hc3 HC2 HB2 HP2 hgl2 hf2 hg2
  have ha0a : 0 ≤ v % (n : Int) := Int.emod_nonneg _ (by omega)
  have ha1a : v % (n : Int) < (n : Int) := Int.emod_lt_of_pos _ (by omega)
  obtain ⟨a, haa⟩ : ∃ a : Nat, v % (n : Int) = (a : Int) := ⟨(v % (n : Int)).toNat, by omega⟩
  have han : a < n := by omega
  have HWa : Hid (∀ w', Calls Try.prog 10 #[.int .i64 v, .int .i64 (n : Int)] w' fun e w'' => e = .returned (.int .i64 (a : Int)) ∧ w'' = w') := hide (fun w' => by rw [← haa]; exact within7_any v (n : Int) w' (by omega) (by omega))
  clear ha0a ha1a haa
  have ha0b : 0 ≤ w0 % (n : Int) := Int.emod_nonneg _ (by omega)
  have ha1b : w0 % (n : Int) < (n : Int) := Int.emod_lt_of_pos _ (by omega)
  obtain ⟨b, hab⟩ : ∃ b : Nat, w0 % (n : Int) = (b : Int) := ⟨(w0 % (n : Int)).toNat, by omega⟩
  have hbn : b < n := by omega
  have HWb : Hid (∀ w', Calls Try.prog 10 #[.int .i64 w0, .int .i64 (n : Int)] w' fun e w'' => e = .returned (.int .i64 (b : Int)) ∧ w'' = w') := hide (fun w' => by rw [← hab]; exact within7_any w0 (n : Int) w' (by omega) (by omega))
  clear ha0b ha1b hab
  have HWn := hide (fun (z : Int) (w' : World) => within7_any z 1099511627776 w' (by omega) (by omega))
  go_wp2
  go_loopg [14] ns.length (fun g' s10 wr => ∃ (i : Nat) (U W : Nat → Int), i + g' = ns.length ∧ s10 = .int .i64 (i : Int) ∧ Hid (Below w.heap.size w wr ∧ LkB wr f g x o c n co cw U W))
  case atStart => exact ⟨0, _, _, by omega, rfl, HQ⟩
  case round =>
    clear HQ
    obtain ⟨i, U, W, hig, rfl, HQ⟩ := hrel
    by_cases hi : i < ns.length ∧ i < 60
    · obtain ⟨g', rfl⟩ : ∃ g', gk = g' + 1 := ⟨gk - 1, by omega⟩
      have hiI : (i : Int) < (ns.length : Int) := by omega
      have hi2 : (i : Int) < 60 := by omega
      obtain ⟨b, o', rfl, -, hcx⟩ := unhide HNa i hi.1
      have c1 := hcx wr (unhide HQ).1
      obtain ⟨z, hz⟩ : ∃ z, ns.getD i 0 = z := ⟨_, rfl⟩
      rw [hz] at c1
      have hz0 : 0 ≤ z % 1099511627776 := Int.emod_nonneg _ (by omega)
      have hz1 : z % 1099511627776 < 1099511627776 := Int.emod_lt_of_pos _ (by omega)
      obtain ⟨m, hm⟩ : ∃ m : Nat, z % 1099511627776 = (m : Int) := ⟨(z % 1099511627776).toNat, by omega⟩
      have hml : m < 1099511627776 := by omega
      have HC := hide (unhide HWn z wr)
      rw [hm] at HC
      obtain ⟨v0, hv0⟩ : ∃ v0, m % n = v0 := ⟨_, rfl⟩
      obtain ⟨K2, hK2⟩ : ∃ K2, m / n = K2 := ⟨_, rfl⟩
      obtain ⟨u1, hu1⟩ : ∃ u1, K2 % n = u1 := ⟨_, rfl⟩
      obtain ⟨K4, hK4⟩ : ∃ K4, m / 900 = K4 := ⟨_, rfl⟩
      obtain ⟨j4, hj4⟩ : ∃ j4, K4 % 50 = j4 := ⟨_, rfl⟩
      have e2 : Int.tmod (m : Int) (n : Int) = (v0 : Int) := by rw [← hv0]; exact Sp.rem_nat m n
      have e3 : Int.tdiv (m : Int) (n : Int) = (K2 : Int) := by rw [← hK2]; exact Sp.quo_nat m n
      have e4 : Int.tmod (K2 : Int) (n : Int) = (u1 : Int) := by rw [← hu1]; exact Sp.rem_nat K2 n
      have e8 : Int.tdiv (m : Int) 900 = (K4 : Int) := by rw [← hK4]; exact Sp.quo_nat m 900
      have e9 : Int.tmod (K4 : Int) 50 = (j4 : Int) := by rw [← hj4]; exact Sp.rem_nat K4 50
      have hK2l : K2 < 1099511627776 := by rw [← hK2]; exact Nat.lt_of_le_of_lt (Nat.div_le_self _ _) hml
      have hK4l : K4 < 1099511627776 := by omega
      have hwk2 : IntKind.i64.wrap (K2 : Int) = (K2 : Int) := by rw [IntKind.wrap_i64]; omega
      have hwk4 : IntKind.i64.wrap (K4 : Int) = (K4 : Int) := by rw [IntKind.wrap_i64]; omega
      have hnz : ¬ n = 0 := by omega
      have hw0 : v0 < n := by rw [← hv0]; exact Nat.mod_lt _ (by omega)
      have hw1 : u1 < n := by rw [← hu1]; exact Nat.mod_lt _ (by omega)
      clear hz hz0 hz1 hcx hm hv0 hK2 hu1 hK4 hj4
      go_wp2_with fail
      go_at_call 10
      refine (unhide HC).mono ?_
      rintro e wz ⟨rfl, hwz⟩
      have hwz' := hwz.symm
      subst hwz'
      clear hwz
      clear HC
      go_upto_region 11 with fail
      go_cut [] (fun w9 => ∃ wx, wx = w9 ∧ Hid (Bt (fun b => b = g) wr wx ∧ LkP wx f g n (Sp.lkU n U (v0 : Int) (u1 : Int)) (Sp.lkW n U W (v0 : Int) (u1 : Int) 1)))
      case first =>
        have hdq := Below.refl wr.heap.size wr |>.drew
        refine wp_region_G (fun w' => True) (fun _ => false) (by kernel_rfl) trivial (fun hHeld => ?_)
        generalize wr.drew = wq at *
        refine wpAnyG_take (v := ?_) 0 (by rfl) (by kernel_rfl) (by kernel_rfl) (by kernel_rfl) (by kernel_rfl) (fun _ _ _ h => h) (Or.inl ⟨by rfl, ?_⟩) (by assumption) ?_
        rotate_left
        · (intro w' hSw; (try dsimp only at hSw); (try simp only [List.getElem_toArray, List.getElem_cons_zero]); go_simp; try (with_reducible rfl))
        simp only [Act.put, List.getElem_toArray, List.getElem_cons_zero, List.setIfInBounds_toArray, List.set_cons_zero, List.set_cons_succ]
        refine wpAnyG_take (v := ?_) 1 (by rfl) (by kernel_rfl) (by kernel_rfl) (by kernel_rfl) (by kernel_rfl) (fun _ _ _ h => h) (Or.inl ⟨by rfl, ?_⟩) (by assumption) ?_
        rotate_left
        · (intro w' hSw; (try dsimp only at hSw); (try simp only [List.getElem_toArray, List.getElem_cons_succ, List.getElem_cons_zero]); go_simp; try (with_reducible rfl))
        simp only [Act.put, List.getElem_toArray, List.getElem_cons_succ, List.getElem_cons_zero, List.setIfInBounds_toArray, List.set_cons_zero, List.set_cons_succ]
        refine wpAnyG_take (v := ?_) 2 (by rfl) (by kernel_rfl) (by kernel_rfl) (by kernel_rfl) (by kernel_rfl) (fun _ _ _ h => h) (Or.inl ⟨by rfl, ?_⟩) (by assumption) ?_
        rotate_left
        · (intro w' hSw; (try dsimp only at hSw); (try simp only [List.getElem_toArray, List.getElem_cons_succ, List.getElem_cons_zero]); go_simp; try (with_reducible rfl))
        simp only [Act.put, List.getElem_toArray, List.getElem_cons_succ, List.getElem_cons_zero, List.setIfInBounds_toArray, List.set_cons_zero, List.set_cons_succ]
        refine wpAnyG_take (v := ?_) 3 (by rfl) (by kernel_rfl) (by kernel_rfl) (by kernel_rfl) (by kernel_rfl) (fun _ _ _ h => h) (Or.inl ⟨by rfl, ?_⟩) (by assumption) ?_
        rotate_left
        · (intro w' hSw; (try dsimp only at hSw); (try simp only [List.getElem_toArray, List.getElem_cons_succ, List.getElem_cons_zero]); go_simp; try (with_reducible rfl))
        simp only [Act.put, List.getElem_toArray, List.getElem_cons_succ, List.getElem_cons_zero, List.setIfInBounds_toArray, List.set_cons_zero, List.set_cons_succ]
        refine wpAnyG_take (v := ?_) 4 (by rfl) (by kernel_rfl) (by kernel_rfl) (by kernel_rfl) (by kernel_rfl) (fun _ _ _ h => h) (Or.inl ⟨by rfl, ?_⟩) (by assumption) ?_
        rotate_left
        · (intro w' hSw; (try dsimp only at hSw); (try simp only [List.getElem_toArray, List.getElem_cons_succ, List.getElem_cons_zero]); go_simp; try (with_reducible rfl))
        simp only [Act.put, List.getElem_toArray, List.getElem_cons_succ, List.getElem_cons_zero, List.setIfInBounds_toArray, List.set_cons_zero, List.set_cons_succ]
        refine wpAnyG_take (v := ?_) 5 (by rfl) (by kernel_rfl) (by kernel_rfl) (by kernel_rfl) (by kernel_rfl) (fun _ _ _ h => h) (Or.inl ⟨by rfl, ?_⟩) (by assumption) ?_
        rotate_left
        · (intro w' hSw; (try dsimp only at hSw); (try simp only [List.getElem_toArray, List.getElem_cons_succ, List.getElem_cons_zero]); go_simp; try (with_reducible rfl))
        simp only [Act.put, List.getElem_toArray, List.getElem_cons_succ, List.getElem_cons_zero, List.setIfInBounds_toArray, List.set_cons_zero, List.set_cons_succ]
        refine wpAnyG_take (v := ?_) 6 (by rfl) (by kernel_rfl) (by kernel_rfl) (by kernel_rfl) (by kernel_rfl) (fun _ _ _ h => h) (Or.inl ⟨by rfl, ?_⟩) (by assumption) ?_
        rotate_left
        · (intro w' hSw; (try dsimp only at hSw); (try simp only [List.getElem_toArray, List.getElem_cons_succ, List.getElem_cons_zero]); go_simp; try (with_reducible rfl))
        simp only [Act.put, List.getElem_toArray, List.getElem_cons_succ, List.getElem_cons_zero, List.setIfInBounds_toArray, List.set_cons_zero, List.set_cons_succ]
        refine wpAnyG_take (v := ?_) 7 (by rfl) (by kernel_rfl) (by kernel_rfl) (by kernel_rfl) (by kernel_rfl) (fun _ _ _ h => h) (Or.inl ⟨by rfl, ?_⟩) (by assumption) ?_
        rotate_left
        · (intro w' hSw; (try dsimp only at hSw); (try simp only [List.getElem_toArray, List.getElem_cons_succ, List.getElem_cons_zero]); go_simp; try (with_reducible rfl))
        simp only [Act.put, List.getElem_toArray, List.getElem_cons_succ, List.getElem_cons_zero, List.setIfInBounds_toArray, List.set_cons_zero, List.set_cons_succ]
        refine wpAnyG_take (v := ?_) 8 (by rfl) (by kernel_rfl) (by kernel_rfl) (by kernel_rfl) (by kernel_rfl) (fun _ _ _ h => h) (Or.inl ⟨by rfl, ?_⟩) (by assumption) ?_
        rotate_left
        · (intro w' hSw; (try dsimp only at hSw); (try simp only [List.getElem_toArray, List.getElem_cons_succ, List.getElem_cons_zero]); go_simp; try (with_reducible rfl))
        simp only [Act.put, List.getElem_toArray, List.getElem_cons_succ, List.getElem_cons_zero, List.setIfInBounds_toArray, List.set_cons_zero, List.set_cons_succ]
        refine wpAnyG_ready [9] (by kernel_rfl) (by simp) ?_
        refine AllReadyG.cons 9 (by rfl) (fun K hK => ?_) ?_
        · simp only [List.getElem_toArray, List.getElem_cons_succ, List.getElem_cons_zero]
          go_simp
          go_at_call 15
          refine (lklink_any (unhide HQ).2.fo (v0 : Int) (u1 : Int) 1 wq ((unhide HQ).2.p.below hdq)).mono ?_
          rintro e wc ⟨rfl, hp1, hb1⟩
          refine hK.out _ _ trivial (fun _ => ?_)
          clear hK K
          try simp only [Act.put, List.setIfInBounds_toArray, List.set_cons_zero, List.set_cons_succ]
          refine wpAnyG_done (by kernel_rfl) ?_ _
          refine NoPanic.normal ?_
          have HX : Hid (Bt (fun b => b = g) wr wc ∧ LkP wc f g n (Sp.lkU n U (v0 : Int) (u1 : Int)) (Sp.lkW n U W (v0 : Int) (u1 : Int) 1)) := hide ⟨(Bt.of hdq).trans hb1, hp1⟩
          clear hp1 hb1 hdq hHeld
          go_wp2
          go_meet
          exact ⟨_, rfl, HX⟩
        exact AllReadyG.nil
      case rest =>
        obtain ⟨wx, rfl, HX⟩ := hcut
        have hr1 := (unhide HQ).2.r.bt (unhide HX).1 (fun e => (unhide HQ).2.gx e.symm) (fun e => (unhide HQ).2.go_ e.symm) (fun e => (unhide HQ).2.gc e.symm)
        go_upto_region 12 with fail
        have hdq := Below.refl wx.heap.size wx |>.drew
        refine wp_region_G (fun w' => True) (fun _ => false) (by kernel_rfl) trivial (fun hHeld => ?_)
        generalize wx.drew = wq at *
        refine wpAnyG_take (v := ?_) 0 (by rfl) (by kernel_rfl) (by kernel_rfl) (by kernel_rfl) (by kernel_rfl) (fun _ _ _ h => h) (Or.inl ⟨by rfl, ?_⟩) (by assumption) ?_
        rotate_left
        · (intro w' hSw; (try dsimp only at hSw); (try simp only [List.getElem_toArray, List.getElem_cons_zero]); go_simp; try (with_reducible rfl))
        simp only [Act.put, List.getElem_toArray, List.getElem_cons_zero, List.setIfInBounds_toArray, List.set_cons_zero, List.set_cons_succ]
        refine wpAnyG_take (v := ?_) 1 (by rfl) (by kernel_rfl) (by kernel_rfl) (by kernel_rfl) (by kernel_rfl) (fun _ _ _ h => h) (Or.inl ⟨by rfl, ?_⟩) (by assumption) ?_
        rotate_left
        · (intro w' hSw; (try dsimp only at hSw); (try simp only [List.getElem_toArray, List.getElem_cons_succ, List.getElem_cons_zero]); go_simp; try (with_reducible rfl))
        simp only [Act.put, List.getElem_toArray, List.getElem_cons_succ, List.getElem_cons_zero, List.setIfInBounds_toArray, List.set_cons_zero, List.set_cons_succ]
        refine wpAnyG_take (v := ?_) 2 (by rfl) (by kernel_rfl) (by kernel_rfl) (by kernel_rfl) (by kernel_rfl) (fun _ _ _ h => h) (Or.inl ⟨by rfl, ?_⟩) (by assumption) ?_
        rotate_left
        · (intro w' hSw; (try dsimp only at hSw); (try simp only [List.getElem_toArray, List.getElem_cons_succ, List.getElem_cons_zero]); go_simp; try (with_reducible rfl))
        simp only [Act.put, List.getElem_toArray, List.getElem_cons_succ, List.getElem_cons_zero, List.setIfInBounds_toArray, List.set_cons_zero, List.set_cons_succ]
        refine wpAnyG_take (v := ?_) 3 (by rfl) (by kernel_rfl) (by kernel_rfl) (by kernel_rfl) (by kernel_rfl) (fun _ _ _ h => h) (Or.inl ⟨by rfl, ?_⟩) (by assumption) ?_
        rotate_left
        · (intro w' hSw; (try dsimp only at hSw); (try simp only [List.getElem_toArray, List.getElem_cons_succ, List.getElem_cons_zero]); go_simp; try (with_reducible rfl))
        simp only [Act.put, List.getElem_toArray, List.getElem_cons_succ, List.getElem_cons_zero, List.setIfInBounds_toArray, List.set_cons_zero, List.set_cons_succ]
        refine wpAnyG_take (v := ?_) 4 (by rfl) (by kernel_rfl) (by kernel_rfl) (by kernel_rfl) (by kernel_rfl) (fun _ _ _ h => h) (Or.inl ⟨by rfl, ?_⟩) (by assumption) ?_
        rotate_left
        · (intro w' hSw; (try dsimp only at hSw); (try simp only [List.getElem_toArray, List.getElem_cons_succ, List.getElem_cons_zero]); go_simp; try (with_reducible rfl))
        simp only [Act.put, List.getElem_toArray, List.getElem_cons_succ, List.getElem_cons_zero, List.setIfInBounds_toArray, List.set_cons_zero, List.set_cons_succ]
        refine wpAnyG_take (v := ?_) 5 (by rfl) (by kernel_rfl) (by kernel_rfl) (by kernel_rfl) (by kernel_rfl) (fun _ _ _ h => h) (Or.inl ⟨by rfl, ?_⟩) (by assumption) ?_
        rotate_left
        · (intro w' hSw; (try dsimp only at hSw); (try simp only [List.getElem_toArray, List.getElem_cons_succ, List.getElem_cons_zero]); go_simp; try (with_reducible rfl))
        simp only [Act.put, List.getElem_toArray, List.getElem_cons_succ, List.getElem_cons_zero, List.setIfInBounds_toArray, List.set_cons_zero, List.set_cons_succ]
        refine wpAnyG_take (v := ?_) 6 (by rfl) (by kernel_rfl) (by kernel_rfl) (by kernel_rfl) (by kernel_rfl) (fun _ _ _ h => h) (Or.inl ⟨by rfl, ?_⟩) (by assumption) ?_
        rotate_left
        · (intro w' hSw; (try dsimp only at hSw); (try simp only [List.getElem_toArray, List.getElem_cons_succ, List.getElem_cons_zero]); go_simp; try (with_reducible rfl))
        simp only [Act.put, List.getElem_toArray, List.getElem_cons_succ, List.getElem_cons_zero, List.setIfInBounds_toArray, List.set_cons_zero, List.set_cons_succ]
        refine wpAnyG_take (v := ?_) 7 (by rfl) (by kernel_rfl) (by kernel_rfl) (by kernel_rfl) (by kernel_rfl) (fun _ _ _ h => h) (Or.inl ⟨by rfl, ?_⟩) (by assumption) ?_
        rotate_left
        · (intro w' hSw; (try dsimp only at hSw); (try simp only [List.getElem_toArray, List.getElem_cons_succ, List.getElem_cons_zero]); go_simp; try (with_reducible rfl))
        simp only [Act.put, List.getElem_toArray, List.getElem_cons_succ, List.getElem_cons_zero, List.setIfInBounds_toArray, List.set_cons_zero, List.set_cons_succ]
        refine wpAnyG_take (v := ?_) 8 (by rfl) (by kernel_rfl) (by kernel_rfl) (by kernel_rfl) (by kernel_rfl) (fun _ _ _ h => h) (Or.inl ⟨by rfl, ?_⟩) (by assumption) ?_
        rotate_left
        · (intro w' hSw; (try dsimp only at hSw); (try simp only [List.getElem_toArray, List.getElem_cons_succ, List.getElem_cons_zero]); go_simp; try (with_reducible rfl))
        simp only [Act.put, List.getElem_toArray, List.getElem_cons_succ, List.getElem_cons_zero, List.setIfInBounds_toArray, List.set_cons_zero, List.set_cons_succ]
        refine wpAnyG_ready [9] (by kernel_rfl) (by simp) ?_
        refine AllReadyG.cons 9 (by rfl) (fun K hK => ?_) ?_
        · simp only [List.getElem_toArray, List.getElem_cons_succ, List.getElem_cons_zero]
          go_simp
          go_at_call 16
          refine (lkrlink_any (unhide HQ).2.fo (v0 : Int) (u1 : Int) 1 wq (hr1.below hdq)).mono ?_
          rintro e wc ⟨rfl, hp1, hb1⟩
          refine hK.out _ _ trivial (fun _ => ?_)
          clear hK K
          try simp only [Act.put, List.setIfInBounds_toArray, List.set_cons_zero, List.set_cons_succ]
          refine wpAnyG_done (by kernel_rfl) ?_ _
          refine NoPanic.normal ?_
          have HQ2 : Hid (Below w.heap.size w wc ∧ LkB wc f g x o c n co cw (Sp.lkU n U (v0 : Int) (u1 : Int)) (Sp.lkW n U W (v0 : Int) (u1 : Int) 1)) := hide (by
            have hbb : Bt (fun b => b = o ∨ b = c) wx wc := (Bt.of hdq).trans hb1
            exact ⟨((unhide HQ).1.trans ((unhide HX).1.below (fun k e => unhide HGo k (.inl e)) (unhide HQ).1.size)).trans (hbb.below (fun k e => unhide HGo k (.inr e)) (Nat.le_trans (unhide HQ).1.size (unhide HX).1.size)), ⟨(unhide HX).2.bt hbb (fun e => e.elim (unhide HQ).2.fo_ (unhide HQ).2.fc) (fun e => e.elim (unhide HQ).2.go_ (unhide HQ).2.gc), hp1, (unhide HQ).2.gx, (unhide HQ).2.go_, (unhide HQ).2.gc, (unhide HQ).2.fo_, (unhide HQ).2.fc, (unhide HQ).2.fo.lk _ _⟩⟩)
          clear hp1 hb1 hdq hHeld hr1
          go_wp2
          go_roundg g'
          case rel => exact ⟨i + 1, _, _, by omega, by go_num, HQ2⟩
          case measure => omega
        exact AllReadyG.nil
    · have hdone : (¬ (i : Int) < (ns.length : Int)) ∨ ((i : Int) < (ns.length : Int) ∧ ¬ (i : Int) < 60) := by omega
      clear HWn hi hig
      clear HNa HNs hv
      obtain ⟨km, r, hkr, hr0, hrn⟩ := (unhide HQ).2.fo.ex han
      have hB := (unhide HQ).2
      have HQ1 := hide (unhide HQ).1
      have HF := hide hB.fo
      have HRa : Hid (Sp.rt n U (a : Int) = (r : Int)) := hide (Sp.rt_is han ⟨km, hkr, hr0⟩)
      have HG7 : Hid (Sp.hg n U (r : Int) = false) := hide (Sp.hg_root hr0)
      have HK8 : Hid (Sp.lkE n U (r : Int) (a : Int) = 8) := hide (by unfold Sp.lkE; rw [if_pos ⟨Sp.hs_yes hrn, Sp.hs_yes han⟩, unhide HG7, if_neg (by decide), if_pos (unhide HRa)])
      have HB := hide hB
      clear HQ hkr hr0 hB
      rcases hdone with hdone | ⟨hdone, hdone2⟩
      · go_wp2_with fail
        go_at_call 10
        refine (unhide HWa _).mono ?_
        rintro e wz ⟨rfl, hwz⟩
        have hwz' := hwz.symm
        subst hwz'
        clear hwz
        go_wp2_with fail
        go_at_call 10
        refine (unhide HWb _).mono ?_
        rintro e wz ⟨rfl, hwz⟩
        have hwz' := hwz.symm
        subst hwz'
        clear hwz
        clear HWa HWb
        obtain ⟨wk, hwk⟩ : ∃ wk, wk = wr := ⟨wr, rfl⟩
        have HS0 : Hid (Bt (fun b => b = g) wr wk ∧ LkP wk f g n U W) := hide (by rw [hwk]; exact ⟨Bt.refl _ _, (unhide HB).p⟩)
        rw [← hwk]
        clear hwk
        by_cases hfar : 0 ≤ far ∧ far < (n : Int)
        · have hf0 : far ≥ 0 := hfar.1
          have hf1 := hfar.2
          have HNf : Hid (¬ (0 ≤ (n : Int) ∧ (n : Int) < (n : Int))) := hide (by omega)
          have hno : Sp.hs n (n : Int) = false := Sp.hs_no (unhide HNf)
          have HS : Hid (Bt (fun b => b = g) wr wk ∧ LkP wk f g n U W) := HS0
          clear HS0
          have hc0 := lklink_no (unhide HF) (n : Int) (b : Int) 1 3 wk (unhide HS).2 (by unfold Sp.lkE; rw [if_neg (fun hh => by rw [hno] at hh; cases hh.1)]) (by decide)
          have HC := hide hc0
          clear hc0
          go_wp2_with fail
          go_at_call 15
          refine (unhide HC).mono ?_
          rintro e wn ⟨rfl, hpn, hbn⟩
          have HS2 : Hid (Bt (fun b => b = g) wr wn ∧ LkP wn f g n U W) := hide ⟨(unhide HS).1.trans hbn, hpn⟩
          clear hpn hbn HC HS
          obtain ⟨HS, hHS⟩ : ∃ HS, HS = HS2 := ⟨HS2, rfl⟩
          clear hHS HS2
          obtain ⟨wk, hwk⟩ : ∃ wk, wk = wn := ⟨wn, rfl⟩
          subst hwk
          have hc1 := lklink_no (unhide HF) (a : Int) (n : Int) 1 3 wk (unhide HS).2 (by unfold Sp.lkE; rw [if_neg (fun hh => by rw [hno] at hh; cases hh.2)]) (by decide)
          have HC := hide hc1
          clear hc1
          go_wp2_with fail
          go_at_call 15
          refine (unhide HC).mono ?_
          rintro e wn ⟨rfl, hpn, hbn⟩
          have HS2 : Hid (Bt (fun b => b = g) wr wn ∧ LkP wn f g n U W) := hide ⟨(unhide HS).1.trans hbn, hpn⟩
          clear hpn hbn HC HS
          obtain ⟨HS, hHS⟩ : ∃ HS, HS = HS2 := ⟨HS2, rfl⟩
          clear hHS HS2
          obtain ⟨wk, hwk⟩ : ∃ wk, wk = wn := ⟨wn, rfl⟩
          subst hwk
          have hc2 := lkcut_no (n : Int) 3 wk (unhide HS).2 (by unfold Sp.ctE; rw [hno, if_neg (by decide)]) (Sp.hg_no (unhide HNf))
          have HC := hide hc2
          clear hc2
          go_wp2_with fail
          go_at_call 24
          refine (unhide HC).mono ?_
          rintro e wn ⟨rfl, hpn, hbn⟩
          have HS2 : Hid (Bt (fun b => b = g) wr wn ∧ LkP wn f g n U W) := hide ⟨(unhide HS).1.trans hbn, hpn⟩
          clear hpn hbn HC HS
          obtain ⟨HS, hHS⟩ : ∃ HS, HS = HS2 := ⟨HS2, rfl⟩
          clear hHS HS2
          obtain ⟨wk, hwk⟩ : ∃ wk, wk = wn := ⟨wn, rfl⟩
          subst hwk
          have hc3 := (by have h := lkroot_any (unhide HF) (n : Int) wk (unhide HS).2; rw [Sp.rt_no (unhide HNf)] at h; exact h : Calls Try.prog 17 #[.pointer (some ⟨f, 0, none⟩), .int .i64 (n : Int)] wk fun e w' => e = .returned (.int .i64 (-1)) ∧ w' = wk)
          have HC := hide hc3
          clear hc3
          go_wp2_with fail
          go_at_call 17
          refine (unhide HC).mono ?_
          rintro e wn ⟨rfl, hw⟩
          have hw' := hw.symm
          subst hw'
          clear hw HC
          have hc4 := lkturn_no (unhide HF) (n : Int) wk (unhide HS).2 hno
          have HC := hide hc4
          clear hc4
          go_wp2_with fail
          go_at_call 18
          refine (unhide HC).mono ?_
          rintro e wn ⟨rfl, hpn, hbn⟩
          have HS2 : Hid (Bt (fun b => b = g) wr wn ∧ LkP wn f g n U W) := hide ⟨(unhide HS).1.trans hbn, hpn⟩
          clear hpn hbn HC HS
          obtain ⟨HS, hHS⟩ : ∃ HS, HS = HS2 := ⟨HS2, rfl⟩
          clear hHS HS2
          obtain ⟨wk, hwk⟩ : ∃ wk, wk = wn := ⟨wn, rfl⟩
          subst hwk
          have hc5 := lkadd_no (unhide HF) (n : Int) 1 wk (unhide HS).2 hno
          have HC := hide hc5
          clear hc5
          go_wp2_with fail
          go_at_call 22
          refine (unhide HC).mono ?_
          rintro e wn ⟨rfl, hpn, hbn⟩
          have HS2 : Hid (Bt (fun b => b = g) wr wn ∧ LkP wn f g n U W) := hide ⟨(unhide HS).1.trans hbn, hpn⟩
          clear hpn hbn HC HS
          obtain ⟨HS, hHS⟩ : ∃ HS, HS = HS2 := ⟨HS2, rfl⟩
          clear hHS HS2
          obtain ⟨wk, hwk⟩ : ∃ wk, wk = wn := ⟨wn, rfl⟩
          subst hwk
          have hc6 := (by have h := lkroot_any (unhide HF) (a : Int) wk (unhide HS).2; rw [unhide HRa] at h; exact h : Calls Try.prog 17 #[.pointer (some ⟨f, 0, none⟩), .int .i64 (a : Int)] wk fun e w' => e = .returned (.int .i64 (r : Int)) ∧ w' = wk)
          have HC := hide hc6
          clear hc6
          go_wp2_with fail
          go_at_call 17
          refine (unhide HC).mono ?_
          rintro e wn ⟨rfl, hw⟩
          have hw' := hw.symm
          subst hw'
          clear hw HC
          have hc7 := lklink_no (unhide HF) (r : Int) (a : Int) 1 8 wk (unhide HS).2 (unhide HK8) (by decide)
          have HC := hide hc7
          clear hc7
          go_wp2_with fail
          go_at_call 15
          refine (unhide HC).mono ?_
          rintro e wn ⟨rfl, hpn, hbn⟩
          have HS2 : Hid (Bt (fun b => b = g) wr wn ∧ LkP wn f g n U W) := hide ⟨(unhide HS).1.trans hbn, hpn⟩
          clear hpn hbn HC HS
          obtain ⟨HS, hHS⟩ : ∃ HS, HS = HS2 := ⟨HS2, rfl⟩
          clear hHS HS2
          obtain ⟨wk, hwk⟩ : ∃ wk, wk = wn := ⟨wn, rfl⟩
          subst hwk
          have hc8 := (by have h := lkroot_any (unhide HF) (a : Int) wk (unhide HS).2; rw [unhide HRa] at h; exact h : Calls Try.prog 17 #[.pointer (some ⟨f, 0, none⟩), .int .i64 (a : Int)] wk fun e w' => e = .returned (.int .i64 (r : Int)) ∧ w' = wk)
          have HC := hide hc8
          clear hc8
          go_wp2_with fail
          go_at_call 17
          refine (unhide HC).mono ?_
          rintro e wn ⟨rfl, hw⟩
          have hw' := hw.symm
          subst hw'
          clear hw HC
          have hc9 := lkcut_no (r : Int) 7 wk (unhide HS).2 (by unfold Sp.ctE; rw [Sp.hs_yes hrn, if_pos rfl, unhide HG7, if_neg (by decide)]) (unhide HG7)
          have HC := hide hc9
          clear hc9
          go_wp2_with fail
          go_at_call 24
          refine (unhide HC).mono ?_
          rintro e wn ⟨rfl, hpn, hbn⟩
          have HS2 : Hid (Bt (fun b => b = g) wr wn ∧ LkP wn f g n U W) := hide ⟨(unhide HS).1.trans hbn, hpn⟩
          clear hpn hbn HC HS
          obtain ⟨HS, hHS⟩ : ∃ HS, HS = HS2 := ⟨HS2, rfl⟩
          clear hHS HS2
          obtain ⟨wk, hwk⟩ : ∃ wk, wk = wn := ⟨wn, rfl⟩
          subst hwk
          obtain ⟨R, hR⟩ : ∃ R, Sp.hg n U (a : Int) = R := ⟨_, rfl⟩
          have hU := lkup_any (a : Int) wk (unhide HS).2
          rw [hR] at hU
          have HU := hide hU
          clear hU
          go_wp2_with fail
          go_at_call 21
          refine (unhide HU).mono ?_
          rintro e wn ⟨rfl, hw⟩
          have hw' := hw.symm
          subst hw'
          clear hw HU
          have HSa : Hid (∀ w' , Bt (fun b => b = g) wr w' → LkP w' f g n U W → Calls Try.prog 14 #[.pointer (some ⟨f, 0, none⟩), .pointer (some ⟨x, 0, none⟩), .int .i64 (n : Int)] w' fun e w'' => e = .returned (.bool true) ∧ Below w.heap.size w w'') := hide fun w' hb hp => by
            refine (same7_any (unhide HF) w' (by omega) hp ((unhide HB).r.bt hb (fun e => (unhide HB).gx e.symm) (fun e => (unhide HB).go_ e.symm) (fun e => (unhide HB).gc e.symm))).mono ?_
            rintro e w'' ⟨rfl, hb2⟩
            have h1 := (unhide HQ1).trans (hb.below (fun k e => by rw [e]; exact hgw) (unhide HQ1).size)
            exact ⟨rfl, h1.trans (hb2.mono h1.size)⟩
          cases R with
          | false =>
            have HC := hide (unhide HSa wk (unhide HS).1 (unhide HS).2)
            rw [if_neg (by decide)]
            go_wp2_with fail
            go_at_call 14
            refine (unhide HC).mono ?_
            rintro e wn ⟨rfl, hE⟩
            have HE := hide hE
            clear hE
            go_wp2
            rw [unhide HP]
            exact ⟨rfl, unhide HE⟩
          | true =>
            rw [if_pos rfl]
            have hc10 := lklink_no (unhide HF) (a : Int) (b : Int) 1 11 wk (unhide HS).2 (by unfold Sp.lkE; rw [if_pos ⟨Sp.hs_yes han, Sp.hs_yes hbn⟩, if_pos hR]) (by decide)
            have HC := hide hc10
            clear hc10
            go_wp2_with fail
            go_at_call 15
            refine (unhide HC).mono ?_
            rintro e wn ⟨rfl, hpn, hbn⟩
            have HS2 : Hid (Bt (fun b => b = g) wr wn ∧ LkP wn f g n U W) := hide ⟨(unhide HS).1.trans hbn, hpn⟩
            clear hpn hbn HC HS
            obtain ⟨HS, hHS⟩ : ∃ HS, HS = HS2 := ⟨HS2, rfl⟩
            clear hHS HS2
            obtain ⟨wk, hwk⟩ : ∃ wk, wk = wn := ⟨wn, rfl⟩
            subst hwk
            have HC := hide (unhide HSa wk (unhide HS).1 (unhide HS).2)
            go_wp2_with fail
            go_at_call 14
            refine (unhide HC).mono ?_
            rintro e wn ⟨rfl, hE⟩
            have HE := hide hE
            clear hE
            go_wp2
            rw [unhide HP]
            exact ⟨rfl, unhide HE⟩
        · have HNf : Hid (¬ (0 ≤ far ∧ far < (n : Int))) := hide hfar
          have hno : Sp.hs n far = false := Sp.hs_no (unhide HNf)
          by_cases hf0 : far ≥ 0
          · have hf1 : ¬ far < (n : Int) := fun e => hfar ⟨hf0, e⟩
            clear hfar
            have HS : Hid (Bt (fun b => b = g) wr wk ∧ LkP wk f g n U W) := HS0
            clear HS0
            have hc11 := lklink_no (unhide HF) far (b : Int) 1 3 wk (unhide HS).2 (by unfold Sp.lkE; rw [if_neg (fun hh => by rw [hno] at hh; cases hh.1)]) (by decide)
            have HC := hide hc11
            clear hc11
            go_wp2_with fail
            go_at_call 15
            refine (unhide HC).mono ?_
            rintro e wn ⟨rfl, hpn, hbn⟩
            have HS2 : Hid (Bt (fun b => b = g) wr wn ∧ LkP wn f g n U W) := hide ⟨(unhide HS).1.trans hbn, hpn⟩
            clear hpn hbn HC HS
            obtain ⟨HS, hHS⟩ : ∃ HS, HS = HS2 := ⟨HS2, rfl⟩
            clear hHS HS2
            obtain ⟨wk, hwk⟩ : ∃ wk, wk = wn := ⟨wn, rfl⟩
            subst hwk
            have hc12 := lklink_no (unhide HF) (a : Int) far 1 3 wk (unhide HS).2 (by unfold Sp.lkE; rw [if_neg (fun hh => by rw [hno] at hh; cases hh.2)]) (by decide)
            have HC := hide hc12
            clear hc12
            go_wp2_with fail
            go_at_call 15
            refine (unhide HC).mono ?_
            rintro e wn ⟨rfl, hpn, hbn⟩
            have HS2 : Hid (Bt (fun b => b = g) wr wn ∧ LkP wn f g n U W) := hide ⟨(unhide HS).1.trans hbn, hpn⟩
            clear hpn hbn HC HS
            obtain ⟨HS, hHS⟩ : ∃ HS, HS = HS2 := ⟨HS2, rfl⟩
            clear hHS HS2
            obtain ⟨wk, hwk⟩ : ∃ wk, wk = wn := ⟨wn, rfl⟩
            subst hwk
            have hc13 := lkcut_no far 3 wk (unhide HS).2 (by unfold Sp.ctE; rw [hno, if_neg (by decide)]) (Sp.hg_no (unhide HNf))
            have HC := hide hc13
            clear hc13
            go_wp2_with fail
            go_at_call 24
            refine (unhide HC).mono ?_
            rintro e wn ⟨rfl, hpn, hbn⟩
            have HS2 : Hid (Bt (fun b => b = g) wr wn ∧ LkP wn f g n U W) := hide ⟨(unhide HS).1.trans hbn, hpn⟩
            clear hpn hbn HC HS
            obtain ⟨HS, hHS⟩ : ∃ HS, HS = HS2 := ⟨HS2, rfl⟩
            clear hHS HS2
            obtain ⟨wk, hwk⟩ : ∃ wk, wk = wn := ⟨wn, rfl⟩
            subst hwk
            have hc14 := (by have h := lkroot_any (unhide HF) far wk (unhide HS).2; rw [Sp.rt_no (unhide HNf)] at h; exact h : Calls Try.prog 17 #[.pointer (some ⟨f, 0, none⟩), .int .i64 far] wk fun e w' => e = .returned (.int .i64 (-1)) ∧ w' = wk)
            have HC := hide hc14
            clear hc14
            go_wp2_with fail
            go_at_call 17
            refine (unhide HC).mono ?_
            rintro e wn ⟨rfl, hw⟩
            have hw' := hw.symm
            subst hw'
            clear hw HC
            have hc15 := lkturn_no (unhide HF) far wk (unhide HS).2 hno
            have HC := hide hc15
            clear hc15
            go_wp2_with fail
            go_at_call 18
            refine (unhide HC).mono ?_
            rintro e wn ⟨rfl, hpn, hbn⟩
            have HS2 : Hid (Bt (fun b => b = g) wr wn ∧ LkP wn f g n U W) := hide ⟨(unhide HS).1.trans hbn, hpn⟩
            clear hpn hbn HC HS
            obtain ⟨HS, hHS⟩ : ∃ HS, HS = HS2 := ⟨HS2, rfl⟩
            clear hHS HS2
            obtain ⟨wk, hwk⟩ : ∃ wk, wk = wn := ⟨wn, rfl⟩
            subst hwk
            have hc16 := lkadd_no (unhide HF) far 1 wk (unhide HS).2 hno
            have HC := hide hc16
            clear hc16
            go_wp2_with fail
            go_at_call 22
            refine (unhide HC).mono ?_
            rintro e wn ⟨rfl, hpn, hbn⟩
            have HS2 : Hid (Bt (fun b => b = g) wr wn ∧ LkP wn f g n U W) := hide ⟨(unhide HS).1.trans hbn, hpn⟩
            clear hpn hbn HC HS
            obtain ⟨HS, hHS⟩ : ∃ HS, HS = HS2 := ⟨HS2, rfl⟩
            clear hHS HS2
            obtain ⟨wk, hwk⟩ : ∃ wk, wk = wn := ⟨wn, rfl⟩
            subst hwk
            have hc17 := (by have h := lkroot_any (unhide HF) (a : Int) wk (unhide HS).2; rw [unhide HRa] at h; exact h : Calls Try.prog 17 #[.pointer (some ⟨f, 0, none⟩), .int .i64 (a : Int)] wk fun e w' => e = .returned (.int .i64 (r : Int)) ∧ w' = wk)
            have HC := hide hc17
            clear hc17
            go_wp2_with fail
            go_at_call 17
            refine (unhide HC).mono ?_
            rintro e wn ⟨rfl, hw⟩
            have hw' := hw.symm
            subst hw'
            clear hw HC
            have hc18 := lklink_no (unhide HF) (r : Int) (a : Int) 1 8 wk (unhide HS).2 (unhide HK8) (by decide)
            have HC := hide hc18
            clear hc18
            go_wp2_with fail
            go_at_call 15
            refine (unhide HC).mono ?_
            rintro e wn ⟨rfl, hpn, hbn⟩
            have HS2 : Hid (Bt (fun b => b = g) wr wn ∧ LkP wn f g n U W) := hide ⟨(unhide HS).1.trans hbn, hpn⟩
            clear hpn hbn HC HS
            obtain ⟨HS, hHS⟩ : ∃ HS, HS = HS2 := ⟨HS2, rfl⟩
            clear hHS HS2
            obtain ⟨wk, hwk⟩ : ∃ wk, wk = wn := ⟨wn, rfl⟩
            subst hwk
            have hc19 := (by have h := lkroot_any (unhide HF) (a : Int) wk (unhide HS).2; rw [unhide HRa] at h; exact h : Calls Try.prog 17 #[.pointer (some ⟨f, 0, none⟩), .int .i64 (a : Int)] wk fun e w' => e = .returned (.int .i64 (r : Int)) ∧ w' = wk)
            have HC := hide hc19
            clear hc19
            go_wp2_with fail
            go_at_call 17
            refine (unhide HC).mono ?_
            rintro e wn ⟨rfl, hw⟩
            have hw' := hw.symm
            subst hw'
            clear hw HC
            have hc20 := lkcut_no (r : Int) 7 wk (unhide HS).2 (by unfold Sp.ctE; rw [Sp.hs_yes hrn, if_pos rfl, unhide HG7, if_neg (by decide)]) (unhide HG7)
            have HC := hide hc20
            clear hc20
            go_wp2_with fail
            go_at_call 24
            refine (unhide HC).mono ?_
            rintro e wn ⟨rfl, hpn, hbn⟩
            have HS2 : Hid (Bt (fun b => b = g) wr wn ∧ LkP wn f g n U W) := hide ⟨(unhide HS).1.trans hbn, hpn⟩
            clear hpn hbn HC HS
            obtain ⟨HS, hHS⟩ : ∃ HS, HS = HS2 := ⟨HS2, rfl⟩
            clear hHS HS2
            obtain ⟨wk, hwk⟩ : ∃ wk, wk = wn := ⟨wn, rfl⟩
            subst hwk
            obtain ⟨R, hR⟩ : ∃ R, Sp.hg n U (a : Int) = R := ⟨_, rfl⟩
            have hU := lkup_any (a : Int) wk (unhide HS).2
            rw [hR] at hU
            have HU := hide hU
            clear hU
            go_wp2_with fail
            go_at_call 21
            refine (unhide HU).mono ?_
            rintro e wn ⟨rfl, hw⟩
            have hw' := hw.symm
            subst hw'
            clear hw HU
            have HSa : Hid (∀ w' , Bt (fun b => b = g) wr w' → LkP w' f g n U W → Calls Try.prog 14 #[.pointer (some ⟨f, 0, none⟩), .pointer (some ⟨x, 0, none⟩), .int .i64 (n : Int)] w' fun e w'' => e = .returned (.bool true) ∧ Below w.heap.size w w'') := hide fun w' hb hp => by
              refine (same7_any (unhide HF) w' (by omega) hp ((unhide HB).r.bt hb (fun e => (unhide HB).gx e.symm) (fun e => (unhide HB).go_ e.symm) (fun e => (unhide HB).gc e.symm))).mono ?_
              rintro e w'' ⟨rfl, hb2⟩
              have h1 := (unhide HQ1).trans (hb.below (fun k e => by rw [e]; exact hgw) (unhide HQ1).size)
              exact ⟨rfl, h1.trans (hb2.mono h1.size)⟩
            cases R with
            | false =>
              have HC := hide (unhide HSa wk (unhide HS).1 (unhide HS).2)
              rw [if_neg (by decide)]
              go_wp2_with fail
              go_at_call 14
              refine (unhide HC).mono ?_
              rintro e wn ⟨rfl, hE⟩
              have HE := hide hE
              clear hE
              go_wp2
              rw [unhide HP]
              exact ⟨rfl, unhide HE⟩
            | true =>
              rw [if_pos rfl]
              have hc21 := lklink_no (unhide HF) (a : Int) (b : Int) 1 11 wk (unhide HS).2 (by unfold Sp.lkE; rw [if_pos ⟨Sp.hs_yes han, Sp.hs_yes hbn⟩, if_pos hR]) (by decide)
              have HC := hide hc21
              clear hc21
              go_wp2_with fail
              go_at_call 15
              refine (unhide HC).mono ?_
              rintro e wn ⟨rfl, hpn, hbn⟩
              have HS2 : Hid (Bt (fun b => b = g) wr wn ∧ LkP wn f g n U W) := hide ⟨(unhide HS).1.trans hbn, hpn⟩
              clear hpn hbn HC HS
              obtain ⟨HS, hHS⟩ : ∃ HS, HS = HS2 := ⟨HS2, rfl⟩
              clear hHS HS2
              obtain ⟨wk, hwk⟩ : ∃ wk, wk = wn := ⟨wn, rfl⟩
              subst hwk
              have HC := hide (unhide HSa wk (unhide HS).1 (unhide HS).2)
              go_wp2_with fail
              go_at_call 14
              refine (unhide HC).mono ?_
              rintro e wn ⟨rfl, hE⟩
              have HE := hide hE
              clear hE
              go_wp2
              rw [unhide HP]
              exact ⟨rfl, unhide HE⟩
          · clear hfar
            have HS : Hid (Bt (fun b => b = g) wr wk ∧ LkP wk f g n U W) := HS0
            clear HS0
            have hc22 := lklink_no (unhide HF) far (b : Int) 1 3 wk (unhide HS).2 (by unfold Sp.lkE; rw [if_neg (fun hh => by rw [hno] at hh; cases hh.1)]) (by decide)
            have HC := hide hc22
            clear hc22
            go_wp2_with fail
            go_at_call 15
            refine (unhide HC).mono ?_
            rintro e wn ⟨rfl, hpn, hbn⟩
            have HS2 : Hid (Bt (fun b => b = g) wr wn ∧ LkP wn f g n U W) := hide ⟨(unhide HS).1.trans hbn, hpn⟩
            clear hpn hbn HC HS
            obtain ⟨HS, hHS⟩ : ∃ HS, HS = HS2 := ⟨HS2, rfl⟩
            clear hHS HS2
            obtain ⟨wk, hwk⟩ : ∃ wk, wk = wn := ⟨wn, rfl⟩
            subst hwk
            have hc23 := lklink_no (unhide HF) (a : Int) far 1 3 wk (unhide HS).2 (by unfold Sp.lkE; rw [if_neg (fun hh => by rw [hno] at hh; cases hh.2)]) (by decide)
            have HC := hide hc23
            clear hc23
            go_wp2_with fail
            go_at_call 15
            refine (unhide HC).mono ?_
            rintro e wn ⟨rfl, hpn, hbn⟩
            have HS2 : Hid (Bt (fun b => b = g) wr wn ∧ LkP wn f g n U W) := hide ⟨(unhide HS).1.trans hbn, hpn⟩
            clear hpn hbn HC HS
            obtain ⟨HS, hHS⟩ : ∃ HS, HS = HS2 := ⟨HS2, rfl⟩
            clear hHS HS2
            obtain ⟨wk, hwk⟩ : ∃ wk, wk = wn := ⟨wn, rfl⟩
            subst hwk
            have hc24 := lkcut_no far 3 wk (unhide HS).2 (by unfold Sp.ctE; rw [hno, if_neg (by decide)]) (Sp.hg_no (unhide HNf))
            have HC := hide hc24
            clear hc24
            go_wp2_with fail
            go_at_call 24
            refine (unhide HC).mono ?_
            rintro e wn ⟨rfl, hpn, hbn⟩
            have HS2 : Hid (Bt (fun b => b = g) wr wn ∧ LkP wn f g n U W) := hide ⟨(unhide HS).1.trans hbn, hpn⟩
            clear hpn hbn HC HS
            obtain ⟨HS, hHS⟩ : ∃ HS, HS = HS2 := ⟨HS2, rfl⟩
            clear hHS HS2
            obtain ⟨wk, hwk⟩ : ∃ wk, wk = wn := ⟨wn, rfl⟩
            subst hwk
            have hc25 := (by have h := lkroot_any (unhide HF) far wk (unhide HS).2; rw [Sp.rt_no (unhide HNf)] at h; exact h : Calls Try.prog 17 #[.pointer (some ⟨f, 0, none⟩), .int .i64 far] wk fun e w' => e = .returned (.int .i64 (-1)) ∧ w' = wk)
            have HC := hide hc25
            clear hc25
            go_wp2_with fail
            go_at_call 17
            refine (unhide HC).mono ?_
            rintro e wn ⟨rfl, hw⟩
            have hw' := hw.symm
            subst hw'
            clear hw HC
            have hc26 := lkturn_no (unhide HF) far wk (unhide HS).2 hno
            have HC := hide hc26
            clear hc26
            go_wp2_with fail
            go_at_call 18
            refine (unhide HC).mono ?_
            rintro e wn ⟨rfl, hpn, hbn⟩
            have HS2 : Hid (Bt (fun b => b = g) wr wn ∧ LkP wn f g n U W) := hide ⟨(unhide HS).1.trans hbn, hpn⟩
            clear hpn hbn HC HS
            obtain ⟨HS, hHS⟩ : ∃ HS, HS = HS2 := ⟨HS2, rfl⟩
            clear hHS HS2
            obtain ⟨wk, hwk⟩ : ∃ wk, wk = wn := ⟨wn, rfl⟩
            subst hwk
            have hc27 := lkadd_no (unhide HF) far 1 wk (unhide HS).2 hno
            have HC := hide hc27
            clear hc27
            go_wp2_with fail
            go_at_call 22
            refine (unhide HC).mono ?_
            rintro e wn ⟨rfl, hpn, hbn⟩
            have HS2 : Hid (Bt (fun b => b = g) wr wn ∧ LkP wn f g n U W) := hide ⟨(unhide HS).1.trans hbn, hpn⟩
            clear hpn hbn HC HS
            obtain ⟨HS, hHS⟩ : ∃ HS, HS = HS2 := ⟨HS2, rfl⟩
            clear hHS HS2
            obtain ⟨wk, hwk⟩ : ∃ wk, wk = wn := ⟨wn, rfl⟩
            subst hwk
            have hc28 := (by have h := lkroot_any (unhide HF) (a : Int) wk (unhide HS).2; rw [unhide HRa] at h; exact h : Calls Try.prog 17 #[.pointer (some ⟨f, 0, none⟩), .int .i64 (a : Int)] wk fun e w' => e = .returned (.int .i64 (r : Int)) ∧ w' = wk)
            have HC := hide hc28
            clear hc28
            go_wp2_with fail
            go_at_call 17
            refine (unhide HC).mono ?_
            rintro e wn ⟨rfl, hw⟩
            have hw' := hw.symm
            subst hw'
            clear hw HC
            have hc29 := lklink_no (unhide HF) (r : Int) (a : Int) 1 8 wk (unhide HS).2 (unhide HK8) (by decide)
            have HC := hide hc29
            clear hc29
            go_wp2_with fail
            go_at_call 15
            refine (unhide HC).mono ?_
            rintro e wn ⟨rfl, hpn, hbn⟩
            have HS2 : Hid (Bt (fun b => b = g) wr wn ∧ LkP wn f g n U W) := hide ⟨(unhide HS).1.trans hbn, hpn⟩
            clear hpn hbn HC HS
            obtain ⟨HS, hHS⟩ : ∃ HS, HS = HS2 := ⟨HS2, rfl⟩
            clear hHS HS2
            obtain ⟨wk, hwk⟩ : ∃ wk, wk = wn := ⟨wn, rfl⟩
            subst hwk
            have hc30 := (by have h := lkroot_any (unhide HF) (a : Int) wk (unhide HS).2; rw [unhide HRa] at h; exact h : Calls Try.prog 17 #[.pointer (some ⟨f, 0, none⟩), .int .i64 (a : Int)] wk fun e w' => e = .returned (.int .i64 (r : Int)) ∧ w' = wk)
            have HC := hide hc30
            clear hc30
            go_wp2_with fail
            go_at_call 17
            refine (unhide HC).mono ?_
            rintro e wn ⟨rfl, hw⟩
            have hw' := hw.symm
            subst hw'
            clear hw HC
            have hc31 := lkcut_no (r : Int) 7 wk (unhide HS).2 (by unfold Sp.ctE; rw [Sp.hs_yes hrn, if_pos rfl, unhide HG7, if_neg (by decide)]) (unhide HG7)
            have HC := hide hc31
            clear hc31
            go_wp2_with fail
            go_at_call 24
            refine (unhide HC).mono ?_
            rintro e wn ⟨rfl, hpn, hbn⟩
            have HS2 : Hid (Bt (fun b => b = g) wr wn ∧ LkP wn f g n U W) := hide ⟨(unhide HS).1.trans hbn, hpn⟩
            clear hpn hbn HC HS
            obtain ⟨HS, hHS⟩ : ∃ HS, HS = HS2 := ⟨HS2, rfl⟩
            clear hHS HS2
            obtain ⟨wk, hwk⟩ : ∃ wk, wk = wn := ⟨wn, rfl⟩
            subst hwk
            obtain ⟨R, hR⟩ : ∃ R, Sp.hg n U (a : Int) = R := ⟨_, rfl⟩
            have hU := lkup_any (a : Int) wk (unhide HS).2
            rw [hR] at hU
            have HU := hide hU
            clear hU
            go_wp2_with fail
            go_at_call 21
            refine (unhide HU).mono ?_
            rintro e wn ⟨rfl, hw⟩
            have hw' := hw.symm
            subst hw'
            clear hw HU
            have HSa : Hid (∀ w' , Bt (fun b => b = g) wr w' → LkP w' f g n U W → Calls Try.prog 14 #[.pointer (some ⟨f, 0, none⟩), .pointer (some ⟨x, 0, none⟩), .int .i64 (n : Int)] w' fun e w'' => e = .returned (.bool true) ∧ Below w.heap.size w w'') := hide fun w' hb hp => by
              refine (same7_any (unhide HF) w' (by omega) hp ((unhide HB).r.bt hb (fun e => (unhide HB).gx e.symm) (fun e => (unhide HB).go_ e.symm) (fun e => (unhide HB).gc e.symm))).mono ?_
              rintro e w'' ⟨rfl, hb2⟩
              have h1 := (unhide HQ1).trans (hb.below (fun k e => by rw [e]; exact hgw) (unhide HQ1).size)
              exact ⟨rfl, h1.trans (hb2.mono h1.size)⟩
            cases R with
            | false =>
              have HC := hide (unhide HSa wk (unhide HS).1 (unhide HS).2)
              rw [if_neg (by decide)]
              go_wp2_with fail
              go_at_call 14
              refine (unhide HC).mono ?_
              rintro e wn ⟨rfl, hE⟩
              have HE := hide hE
              clear hE
              go_wp2
              rw [unhide HP]
              exact ⟨rfl, unhide HE⟩
            | true =>
              rw [if_pos rfl]
              have hc32 := lklink_no (unhide HF) (a : Int) (b : Int) 1 11 wk (unhide HS).2 (by unfold Sp.lkE; rw [if_pos ⟨Sp.hs_yes han, Sp.hs_yes hbn⟩, if_pos hR]) (by decide)
              have HC := hide hc32
              clear hc32
              go_wp2_with fail
              go_at_call 15
              refine (unhide HC).mono ?_
              rintro e wn ⟨rfl, hpn, hbn⟩
              have HS2 : Hid (Bt (fun b => b = g) wr wn ∧ LkP wn f g n U W) := hide ⟨(unhide HS).1.trans hbn, hpn⟩
              clear hpn hbn HC HS
              obtain ⟨HS, hHS⟩ : ∃ HS, HS = HS2 := ⟨HS2, rfl⟩
              clear hHS HS2
              obtain ⟨wk, hwk⟩ : ∃ wk, wk = wn := ⟨wn, rfl⟩
              subst hwk
              have HC := hide (unhide HSa wk (unhide HS).1 (unhide HS).2)
              go_wp2_with fail
              go_at_call 14
              refine (unhide HC).mono ?_
              rintro e wn ⟨rfl, hE⟩
              have HE := hide hE
              clear hE
              go_wp2
              rw [unhide HP]
              exact ⟨rfl, unhide HE⟩
      · go_wp2_with fail
        go_at_call 10
        refine (unhide HWa _).mono ?_
        rintro e wz ⟨rfl, hwz⟩
        have hwz' := hwz.symm
        subst hwz'
        clear hwz
        go_wp2_with fail
        go_at_call 10
        refine (unhide HWb _).mono ?_
        rintro e wz ⟨rfl, hwz⟩
        have hwz' := hwz.symm
        subst hwz'
        clear hwz
        clear HWa HWb
        obtain ⟨wk, hwk⟩ : ∃ wk, wk = wr := ⟨wr, rfl⟩
        have HS0 : Hid (Bt (fun b => b = g) wr wk ∧ LkP wk f g n U W) := hide (by rw [hwk]; exact ⟨Bt.refl _ _, (unhide HB).p⟩)
        rw [← hwk]
        clear hwk
        by_cases hfar : 0 ≤ far ∧ far < (n : Int)
        · have hf0 : far ≥ 0 := hfar.1
          have hf1 := hfar.2
          have HNf : Hid (¬ (0 ≤ (n : Int) ∧ (n : Int) < (n : Int))) := hide (by omega)
          have hno : Sp.hs n (n : Int) = false := Sp.hs_no (unhide HNf)
          have HS : Hid (Bt (fun b => b = g) wr wk ∧ LkP wk f g n U W) := HS0
          clear HS0
          have hc0 := lklink_no (unhide HF) (n : Int) (b : Int) 1 3 wk (unhide HS).2 (by unfold Sp.lkE; rw [if_neg (fun hh => by rw [hno] at hh; cases hh.1)]) (by decide)
          have HC := hide hc0
          clear hc0
          go_wp2_with fail
          go_at_call 15
          refine (unhide HC).mono ?_
          rintro e wn ⟨rfl, hpn, hbn⟩
          have HS2 : Hid (Bt (fun b => b = g) wr wn ∧ LkP wn f g n U W) := hide ⟨(unhide HS).1.trans hbn, hpn⟩
          clear hpn hbn HC HS
          obtain ⟨HS, hHS⟩ : ∃ HS, HS = HS2 := ⟨HS2, rfl⟩
          clear hHS HS2
          obtain ⟨wk, hwk⟩ : ∃ wk, wk = wn := ⟨wn, rfl⟩
          subst hwk
          have hc1 := lklink_no (unhide HF) (a : Int) (n : Int) 1 3 wk (unhide HS).2 (by unfold Sp.lkE; rw [if_neg (fun hh => by rw [hno] at hh; cases hh.2)]) (by decide)
          have HC := hide hc1
          clear hc1
          go_wp2_with fail
          go_at_call 15
          refine (unhide HC).mono ?_
          rintro e wn ⟨rfl, hpn, hbn⟩
          have HS2 : Hid (Bt (fun b => b = g) wr wn ∧ LkP wn f g n U W) := hide ⟨(unhide HS).1.trans hbn, hpn⟩
          clear hpn hbn HC HS
          obtain ⟨HS, hHS⟩ : ∃ HS, HS = HS2 := ⟨HS2, rfl⟩
          clear hHS HS2
          obtain ⟨wk, hwk⟩ : ∃ wk, wk = wn := ⟨wn, rfl⟩
          subst hwk
          have hc2 := lkcut_no (n : Int) 3 wk (unhide HS).2 (by unfold Sp.ctE; rw [hno, if_neg (by decide)]) (Sp.hg_no (unhide HNf))
          have HC := hide hc2
          clear hc2
          go_wp2_with fail
          go_at_call 24
          refine (unhide HC).mono ?_
          rintro e wn ⟨rfl, hpn, hbn⟩
          have HS2 : Hid (Bt (fun b => b = g) wr wn ∧ LkP wn f g n U W) := hide ⟨(unhide HS).1.trans hbn, hpn⟩
          clear hpn hbn HC HS
          obtain ⟨HS, hHS⟩ : ∃ HS, HS = HS2 := ⟨HS2, rfl⟩
          clear hHS HS2
          obtain ⟨wk, hwk⟩ : ∃ wk, wk = wn := ⟨wn, rfl⟩
          subst hwk
          have hc3 := (by have h := lkroot_any (unhide HF) (n : Int) wk (unhide HS).2; rw [Sp.rt_no (unhide HNf)] at h; exact h : Calls Try.prog 17 #[.pointer (some ⟨f, 0, none⟩), .int .i64 (n : Int)] wk fun e w' => e = .returned (.int .i64 (-1)) ∧ w' = wk)
          have HC := hide hc3
          clear hc3
          go_wp2_with fail
          go_at_call 17
          refine (unhide HC).mono ?_
          rintro e wn ⟨rfl, hw⟩
          have hw' := hw.symm
          subst hw'
          clear hw HC
          have hc4 := lkturn_no (unhide HF) (n : Int) wk (unhide HS).2 hno
          have HC := hide hc4
          clear hc4
          go_wp2_with fail
          go_at_call 18
          refine (unhide HC).mono ?_
          rintro e wn ⟨rfl, hpn, hbn⟩
          have HS2 : Hid (Bt (fun b => b = g) wr wn ∧ LkP wn f g n U W) := hide ⟨(unhide HS).1.trans hbn, hpn⟩
          clear hpn hbn HC HS
          obtain ⟨HS, hHS⟩ : ∃ HS, HS = HS2 := ⟨HS2, rfl⟩
          clear hHS HS2
          obtain ⟨wk, hwk⟩ : ∃ wk, wk = wn := ⟨wn, rfl⟩
          subst hwk
          have hc5 := lkadd_no (unhide HF) (n : Int) 1 wk (unhide HS).2 hno
          have HC := hide hc5
          clear hc5
          go_wp2_with fail
          go_at_call 22
          refine (unhide HC).mono ?_
          rintro e wn ⟨rfl, hpn, hbn⟩
          have HS2 : Hid (Bt (fun b => b = g) wr wn ∧ LkP wn f g n U W) := hide ⟨(unhide HS).1.trans hbn, hpn⟩
          clear hpn hbn HC HS
          obtain ⟨HS, hHS⟩ : ∃ HS, HS = HS2 := ⟨HS2, rfl⟩
          clear hHS HS2
          obtain ⟨wk, hwk⟩ : ∃ wk, wk = wn := ⟨wn, rfl⟩
          subst hwk
          have hc6 := (by have h := lkroot_any (unhide HF) (a : Int) wk (unhide HS).2; rw [unhide HRa] at h; exact h : Calls Try.prog 17 #[.pointer (some ⟨f, 0, none⟩), .int .i64 (a : Int)] wk fun e w' => e = .returned (.int .i64 (r : Int)) ∧ w' = wk)
          have HC := hide hc6
          clear hc6
          go_wp2_with fail
          go_at_call 17
          refine (unhide HC).mono ?_
          rintro e wn ⟨rfl, hw⟩
          have hw' := hw.symm
          subst hw'
          clear hw HC
          have hc7 := lklink_no (unhide HF) (r : Int) (a : Int) 1 8 wk (unhide HS).2 (unhide HK8) (by decide)
          have HC := hide hc7
          clear hc7
          go_wp2_with fail
          go_at_call 15
          refine (unhide HC).mono ?_
          rintro e wn ⟨rfl, hpn, hbn⟩
          have HS2 : Hid (Bt (fun b => b = g) wr wn ∧ LkP wn f g n U W) := hide ⟨(unhide HS).1.trans hbn, hpn⟩
          clear hpn hbn HC HS
          obtain ⟨HS, hHS⟩ : ∃ HS, HS = HS2 := ⟨HS2, rfl⟩
          clear hHS HS2
          obtain ⟨wk, hwk⟩ : ∃ wk, wk = wn := ⟨wn, rfl⟩
          subst hwk
          have hc8 := (by have h := lkroot_any (unhide HF) (a : Int) wk (unhide HS).2; rw [unhide HRa] at h; exact h : Calls Try.prog 17 #[.pointer (some ⟨f, 0, none⟩), .int .i64 (a : Int)] wk fun e w' => e = .returned (.int .i64 (r : Int)) ∧ w' = wk)
          have HC := hide hc8
          clear hc8
          go_wp2_with fail
          go_at_call 17
          refine (unhide HC).mono ?_
          rintro e wn ⟨rfl, hw⟩
          have hw' := hw.symm
          subst hw'
          clear hw HC
          have hc9 := lkcut_no (r : Int) 7 wk (unhide HS).2 (by unfold Sp.ctE; rw [Sp.hs_yes hrn, if_pos rfl, unhide HG7, if_neg (by decide)]) (unhide HG7)
          have HC := hide hc9
          clear hc9
          go_wp2_with fail
          go_at_call 24
          refine (unhide HC).mono ?_
          rintro e wn ⟨rfl, hpn, hbn⟩
          have HS2 : Hid (Bt (fun b => b = g) wr wn ∧ LkP wn f g n U W) := hide ⟨(unhide HS).1.trans hbn, hpn⟩
          clear hpn hbn HC HS
          obtain ⟨HS, hHS⟩ : ∃ HS, HS = HS2 := ⟨HS2, rfl⟩
          clear hHS HS2
          obtain ⟨wk, hwk⟩ : ∃ wk, wk = wn := ⟨wn, rfl⟩
          subst hwk
          obtain ⟨R, hR⟩ : ∃ R, Sp.hg n U (a : Int) = R := ⟨_, rfl⟩
          have hU := lkup_any (a : Int) wk (unhide HS).2
          rw [hR] at hU
          have HU := hide hU
          clear hU
          go_wp2_with fail
          go_at_call 21
          refine (unhide HU).mono ?_
          rintro e wn ⟨rfl, hw⟩
          have hw' := hw.symm
          subst hw'
          clear hw HU
          have HSa : Hid (∀ w' , Bt (fun b => b = g) wr w' → LkP w' f g n U W → Calls Try.prog 14 #[.pointer (some ⟨f, 0, none⟩), .pointer (some ⟨x, 0, none⟩), .int .i64 (n : Int)] w' fun e w'' => e = .returned (.bool true) ∧ Below w.heap.size w w'') := hide fun w' hb hp => by
            refine (same7_any (unhide HF) w' (by omega) hp ((unhide HB).r.bt hb (fun e => (unhide HB).gx e.symm) (fun e => (unhide HB).go_ e.symm) (fun e => (unhide HB).gc e.symm))).mono ?_
            rintro e w'' ⟨rfl, hb2⟩
            have h1 := (unhide HQ1).trans (hb.below (fun k e => by rw [e]; exact hgw) (unhide HQ1).size)
            exact ⟨rfl, h1.trans (hb2.mono h1.size)⟩
          cases R with
          | false =>
            have HC := hide (unhide HSa wk (unhide HS).1 (unhide HS).2)
            rw [if_neg (by decide)]
            go_wp2_with fail
            go_at_call 14
            refine (unhide HC).mono ?_
            rintro e wn ⟨rfl, hE⟩
            have HE := hide hE
            clear hE
            go_wp2
            rw [unhide HP]
            exact ⟨rfl, unhide HE⟩
          | true =>
            rw [if_pos rfl]
            have hc10 := lklink_no (unhide HF) (a : Int) (b : Int) 1 11 wk (unhide HS).2 (by unfold Sp.lkE; rw [if_pos ⟨Sp.hs_yes han, Sp.hs_yes hbn⟩, if_pos hR]) (by decide)
            have HC := hide hc10
            clear hc10
            go_wp2_with fail
            go_at_call 15
            refine (unhide HC).mono ?_
            rintro e wn ⟨rfl, hpn, hbn⟩
            have HS2 : Hid (Bt (fun b => b = g) wr wn ∧ LkP wn f g n U W) := hide ⟨(unhide HS).1.trans hbn, hpn⟩
            clear hpn hbn HC HS
            obtain ⟨HS, hHS⟩ : ∃ HS, HS = HS2 := ⟨HS2, rfl⟩
            clear hHS HS2
            obtain ⟨wk, hwk⟩ : ∃ wk, wk = wn := ⟨wn, rfl⟩
            subst hwk
            have HC := hide (unhide HSa wk (unhide HS).1 (unhide HS).2)
            go_wp2_with fail
            go_at_call 14
            refine (unhide HC).mono ?_
            rintro e wn ⟨rfl, hE⟩
            have HE := hide hE
            clear hE
            go_wp2
            rw [unhide HP]
            exact ⟨rfl, unhide HE⟩
        · have HNf : Hid (¬ (0 ≤ far ∧ far < (n : Int))) := hide hfar
          have hno : Sp.hs n far = false := Sp.hs_no (unhide HNf)
          by_cases hf0 : far ≥ 0
          · have hf1 : ¬ far < (n : Int) := fun e => hfar ⟨hf0, e⟩
            clear hfar
            have HS : Hid (Bt (fun b => b = g) wr wk ∧ LkP wk f g n U W) := HS0
            clear HS0
            have hc11 := lklink_no (unhide HF) far (b : Int) 1 3 wk (unhide HS).2 (by unfold Sp.lkE; rw [if_neg (fun hh => by rw [hno] at hh; cases hh.1)]) (by decide)
            have HC := hide hc11
            clear hc11
            go_wp2_with fail
            go_at_call 15
            refine (unhide HC).mono ?_
            rintro e wn ⟨rfl, hpn, hbn⟩
            have HS2 : Hid (Bt (fun b => b = g) wr wn ∧ LkP wn f g n U W) := hide ⟨(unhide HS).1.trans hbn, hpn⟩
            clear hpn hbn HC HS
            obtain ⟨HS, hHS⟩ : ∃ HS, HS = HS2 := ⟨HS2, rfl⟩
            clear hHS HS2
            obtain ⟨wk, hwk⟩ : ∃ wk, wk = wn := ⟨wn, rfl⟩
            subst hwk
            have hc12 := lklink_no (unhide HF) (a : Int) far 1 3 wk (unhide HS).2 (by unfold Sp.lkE; rw [if_neg (fun hh => by rw [hno] at hh; cases hh.2)]) (by decide)
            have HC := hide hc12
            clear hc12
            go_wp2_with fail
            go_at_call 15
            refine (unhide HC).mono ?_
            rintro e wn ⟨rfl, hpn, hbn⟩
            have HS2 : Hid (Bt (fun b => b = g) wr wn ∧ LkP wn f g n U W) := hide ⟨(unhide HS).1.trans hbn, hpn⟩
            clear hpn hbn HC HS
            obtain ⟨HS, hHS⟩ : ∃ HS, HS = HS2 := ⟨HS2, rfl⟩
            clear hHS HS2
            obtain ⟨wk, hwk⟩ : ∃ wk, wk = wn := ⟨wn, rfl⟩
            subst hwk
            have hc13 := lkcut_no far 3 wk (unhide HS).2 (by unfold Sp.ctE; rw [hno, if_neg (by decide)]) (Sp.hg_no (unhide HNf))
            have HC := hide hc13
            clear hc13
            go_wp2_with fail
            go_at_call 24
            refine (unhide HC).mono ?_
            rintro e wn ⟨rfl, hpn, hbn⟩
            have HS2 : Hid (Bt (fun b => b = g) wr wn ∧ LkP wn f g n U W) := hide ⟨(unhide HS).1.trans hbn, hpn⟩
            clear hpn hbn HC HS
            obtain ⟨HS, hHS⟩ : ∃ HS, HS = HS2 := ⟨HS2, rfl⟩
            clear hHS HS2
            obtain ⟨wk, hwk⟩ : ∃ wk, wk = wn := ⟨wn, rfl⟩
            subst hwk
            have hc14 := (by have h := lkroot_any (unhide HF) far wk (unhide HS).2; rw [Sp.rt_no (unhide HNf)] at h; exact h : Calls Try.prog 17 #[.pointer (some ⟨f, 0, none⟩), .int .i64 far] wk fun e w' => e = .returned (.int .i64 (-1)) ∧ w' = wk)
            have HC := hide hc14
            clear hc14
            go_wp2_with fail
            go_at_call 17
            refine (unhide HC).mono ?_
            rintro e wn ⟨rfl, hw⟩
            have hw' := hw.symm
            subst hw'
            clear hw HC
            have hc15 := lkturn_no (unhide HF) far wk (unhide HS).2 hno
            have HC := hide hc15
            clear hc15
            go_wp2_with fail
            go_at_call 18
            refine (unhide HC).mono ?_
            rintro e wn ⟨rfl, hpn, hbn⟩
            have HS2 : Hid (Bt (fun b => b = g) wr wn ∧ LkP wn f g n U W) := hide ⟨(unhide HS).1.trans hbn, hpn⟩
            clear hpn hbn HC HS
            obtain ⟨HS, hHS⟩ : ∃ HS, HS = HS2 := ⟨HS2, rfl⟩
            clear hHS HS2
            obtain ⟨wk, hwk⟩ : ∃ wk, wk = wn := ⟨wn, rfl⟩
            subst hwk
            have hc16 := lkadd_no (unhide HF) far 1 wk (unhide HS).2 hno
            have HC := hide hc16
            clear hc16
            go_wp2_with fail
            go_at_call 22
            refine (unhide HC).mono ?_
            rintro e wn ⟨rfl, hpn, hbn⟩
            have HS2 : Hid (Bt (fun b => b = g) wr wn ∧ LkP wn f g n U W) := hide ⟨(unhide HS).1.trans hbn, hpn⟩
            clear hpn hbn HC HS
            obtain ⟨HS, hHS⟩ : ∃ HS, HS = HS2 := ⟨HS2, rfl⟩
            clear hHS HS2
            obtain ⟨wk, hwk⟩ : ∃ wk, wk = wn := ⟨wn, rfl⟩
            subst hwk
            have hc17 := (by have h := lkroot_any (unhide HF) (a : Int) wk (unhide HS).2; rw [unhide HRa] at h; exact h : Calls Try.prog 17 #[.pointer (some ⟨f, 0, none⟩), .int .i64 (a : Int)] wk fun e w' => e = .returned (.int .i64 (r : Int)) ∧ w' = wk)
            have HC := hide hc17
            clear hc17
            go_wp2_with fail
            go_at_call 17
            refine (unhide HC).mono ?_
            rintro e wn ⟨rfl, hw⟩
            have hw' := hw.symm
            subst hw'
            clear hw HC
            have hc18 := lklink_no (unhide HF) (r : Int) (a : Int) 1 8 wk (unhide HS).2 (unhide HK8) (by decide)
            have HC := hide hc18
            clear hc18
            go_wp2_with fail
            go_at_call 15
            refine (unhide HC).mono ?_
            rintro e wn ⟨rfl, hpn, hbn⟩
            have HS2 : Hid (Bt (fun b => b = g) wr wn ∧ LkP wn f g n U W) := hide ⟨(unhide HS).1.trans hbn, hpn⟩
            clear hpn hbn HC HS
            obtain ⟨HS, hHS⟩ : ∃ HS, HS = HS2 := ⟨HS2, rfl⟩
            clear hHS HS2
            obtain ⟨wk, hwk⟩ : ∃ wk, wk = wn := ⟨wn, rfl⟩
            subst hwk
            have hc19 := (by have h := lkroot_any (unhide HF) (a : Int) wk (unhide HS).2; rw [unhide HRa] at h; exact h : Calls Try.prog 17 #[.pointer (some ⟨f, 0, none⟩), .int .i64 (a : Int)] wk fun e w' => e = .returned (.int .i64 (r : Int)) ∧ w' = wk)
            have HC := hide hc19
            clear hc19
            go_wp2_with fail
            go_at_call 17
            refine (unhide HC).mono ?_
            rintro e wn ⟨rfl, hw⟩
            have hw' := hw.symm
            subst hw'
            clear hw HC
            have hc20 := lkcut_no (r : Int) 7 wk (unhide HS).2 (by unfold Sp.ctE; rw [Sp.hs_yes hrn, if_pos rfl, unhide HG7, if_neg (by decide)]) (unhide HG7)
            have HC := hide hc20
            clear hc20
            go_wp2_with fail
            go_at_call 24
            refine (unhide HC).mono ?_
            rintro e wn ⟨rfl, hpn, hbn⟩
            have HS2 : Hid (Bt (fun b => b = g) wr wn ∧ LkP wn f g n U W) := hide ⟨(unhide HS).1.trans hbn, hpn⟩
            clear hpn hbn HC HS
            obtain ⟨HS, hHS⟩ : ∃ HS, HS = HS2 := ⟨HS2, rfl⟩
            clear hHS HS2
            obtain ⟨wk, hwk⟩ : ∃ wk, wk = wn := ⟨wn, rfl⟩
            subst hwk
            obtain ⟨R, hR⟩ : ∃ R, Sp.hg n U (a : Int) = R := ⟨_, rfl⟩
            have hU := lkup_any (a : Int) wk (unhide HS).2
            rw [hR] at hU
            have HU := hide hU
            clear hU
            go_wp2_with fail
            go_at_call 21
            refine (unhide HU).mono ?_
            rintro e wn ⟨rfl, hw⟩
            have hw' := hw.symm
            subst hw'
            clear hw HU
            have HSa : Hid (∀ w' , Bt (fun b => b = g) wr w' → LkP w' f g n U W → Calls Try.prog 14 #[.pointer (some ⟨f, 0, none⟩), .pointer (some ⟨x, 0, none⟩), .int .i64 (n : Int)] w' fun e w'' => e = .returned (.bool true) ∧ Below w.heap.size w w'') := hide fun w' hb hp => by
              refine (same7_any (unhide HF) w' (by omega) hp ((unhide HB).r.bt hb (fun e => (unhide HB).gx e.symm) (fun e => (unhide HB).go_ e.symm) (fun e => (unhide HB).gc e.symm))).mono ?_
              rintro e w'' ⟨rfl, hb2⟩
              have h1 := (unhide HQ1).trans (hb.below (fun k e => by rw [e]; exact hgw) (unhide HQ1).size)
              exact ⟨rfl, h1.trans (hb2.mono h1.size)⟩
            cases R with
            | false =>
              have HC := hide (unhide HSa wk (unhide HS).1 (unhide HS).2)
              rw [if_neg (by decide)]
              go_wp2_with fail
              go_at_call 14
              refine (unhide HC).mono ?_
              rintro e wn ⟨rfl, hE⟩
              have HE := hide hE
              clear hE
              go_wp2
              rw [unhide HP]
              exact ⟨rfl, unhide HE⟩
            | true =>
              rw [if_pos rfl]
              have hc21 := lklink_no (unhide HF) (a : Int) (b : Int) 1 11 wk (unhide HS).2 (by unfold Sp.lkE; rw [if_pos ⟨Sp.hs_yes han, Sp.hs_yes hbn⟩, if_pos hR]) (by decide)
              have HC := hide hc21
              clear hc21
              go_wp2_with fail
              go_at_call 15
              refine (unhide HC).mono ?_
              rintro e wn ⟨rfl, hpn, hbn⟩
              have HS2 : Hid (Bt (fun b => b = g) wr wn ∧ LkP wn f g n U W) := hide ⟨(unhide HS).1.trans hbn, hpn⟩
              clear hpn hbn HC HS
              obtain ⟨HS, hHS⟩ : ∃ HS, HS = HS2 := ⟨HS2, rfl⟩
              clear hHS HS2
              obtain ⟨wk, hwk⟩ : ∃ wk, wk = wn := ⟨wn, rfl⟩
              subst hwk
              have HC := hide (unhide HSa wk (unhide HS).1 (unhide HS).2)
              go_wp2_with fail
              go_at_call 14
              refine (unhide HC).mono ?_
              rintro e wn ⟨rfl, hE⟩
              have HE := hide hE
              clear hE
              go_wp2
              rw [unhide HP]
              exact ⟨rfl, unhide HE⟩
          · clear hfar
            have HS : Hid (Bt (fun b => b = g) wr wk ∧ LkP wk f g n U W) := HS0
            clear HS0
            have hc22 := lklink_no (unhide HF) far (b : Int) 1 3 wk (unhide HS).2 (by unfold Sp.lkE; rw [if_neg (fun hh => by rw [hno] at hh; cases hh.1)]) (by decide)
            have HC := hide hc22
            clear hc22
            go_wp2_with fail
            go_at_call 15
            refine (unhide HC).mono ?_
            rintro e wn ⟨rfl, hpn, hbn⟩
            have HS2 : Hid (Bt (fun b => b = g) wr wn ∧ LkP wn f g n U W) := hide ⟨(unhide HS).1.trans hbn, hpn⟩
            clear hpn hbn HC HS
            obtain ⟨HS, hHS⟩ : ∃ HS, HS = HS2 := ⟨HS2, rfl⟩
            clear hHS HS2
            obtain ⟨wk, hwk⟩ : ∃ wk, wk = wn := ⟨wn, rfl⟩
            subst hwk
            have hc23 := lklink_no (unhide HF) (a : Int) far 1 3 wk (unhide HS).2 (by unfold Sp.lkE; rw [if_neg (fun hh => by rw [hno] at hh; cases hh.2)]) (by decide)
            have HC := hide hc23
            clear hc23
            go_wp2_with fail
            go_at_call 15
            refine (unhide HC).mono ?_
            rintro e wn ⟨rfl, hpn, hbn⟩
            have HS2 : Hid (Bt (fun b => b = g) wr wn ∧ LkP wn f g n U W) := hide ⟨(unhide HS).1.trans hbn, hpn⟩
            clear hpn hbn HC HS
            obtain ⟨HS, hHS⟩ : ∃ HS, HS = HS2 := ⟨HS2, rfl⟩
            clear hHS HS2
            obtain ⟨wk, hwk⟩ : ∃ wk, wk = wn := ⟨wn, rfl⟩
            subst hwk
            have hc24 := lkcut_no far 3 wk (unhide HS).2 (by unfold Sp.ctE; rw [hno, if_neg (by decide)]) (Sp.hg_no (unhide HNf))
            have HC := hide hc24
            clear hc24
            go_wp2_with fail
            go_at_call 24
            refine (unhide HC).mono ?_
            rintro e wn ⟨rfl, hpn, hbn⟩
            have HS2 : Hid (Bt (fun b => b = g) wr wn ∧ LkP wn f g n U W) := hide ⟨(unhide HS).1.trans hbn, hpn⟩
            clear hpn hbn HC HS
            obtain ⟨HS, hHS⟩ : ∃ HS, HS = HS2 := ⟨HS2, rfl⟩
            clear hHS HS2
            obtain ⟨wk, hwk⟩ : ∃ wk, wk = wn := ⟨wn, rfl⟩
            subst hwk
            have hc25 := (by have h := lkroot_any (unhide HF) far wk (unhide HS).2; rw [Sp.rt_no (unhide HNf)] at h; exact h : Calls Try.prog 17 #[.pointer (some ⟨f, 0, none⟩), .int .i64 far] wk fun e w' => e = .returned (.int .i64 (-1)) ∧ w' = wk)
            have HC := hide hc25
            clear hc25
            go_wp2_with fail
            go_at_call 17
            refine (unhide HC).mono ?_
            rintro e wn ⟨rfl, hw⟩
            have hw' := hw.symm
            subst hw'
            clear hw HC
            have hc26 := lkturn_no (unhide HF) far wk (unhide HS).2 hno
            have HC := hide hc26
            clear hc26
            go_wp2_with fail
            go_at_call 18
            refine (unhide HC).mono ?_
            rintro e wn ⟨rfl, hpn, hbn⟩
            have HS2 : Hid (Bt (fun b => b = g) wr wn ∧ LkP wn f g n U W) := hide ⟨(unhide HS).1.trans hbn, hpn⟩
            clear hpn hbn HC HS
            obtain ⟨HS, hHS⟩ : ∃ HS, HS = HS2 := ⟨HS2, rfl⟩
            clear hHS HS2
            obtain ⟨wk, hwk⟩ : ∃ wk, wk = wn := ⟨wn, rfl⟩
            subst hwk
            have hc27 := lkadd_no (unhide HF) far 1 wk (unhide HS).2 hno
            have HC := hide hc27
            clear hc27
            go_wp2_with fail
            go_at_call 22
            refine (unhide HC).mono ?_
            rintro e wn ⟨rfl, hpn, hbn⟩
            have HS2 : Hid (Bt (fun b => b = g) wr wn ∧ LkP wn f g n U W) := hide ⟨(unhide HS).1.trans hbn, hpn⟩
            clear hpn hbn HC HS
            obtain ⟨HS, hHS⟩ : ∃ HS, HS = HS2 := ⟨HS2, rfl⟩
            clear hHS HS2
            obtain ⟨wk, hwk⟩ : ∃ wk, wk = wn := ⟨wn, rfl⟩
            subst hwk
            have hc28 := (by have h := lkroot_any (unhide HF) (a : Int) wk (unhide HS).2; rw [unhide HRa] at h; exact h : Calls Try.prog 17 #[.pointer (some ⟨f, 0, none⟩), .int .i64 (a : Int)] wk fun e w' => e = .returned (.int .i64 (r : Int)) ∧ w' = wk)
            have HC := hide hc28
            clear hc28
            go_wp2_with fail
            go_at_call 17
            refine (unhide HC).mono ?_
            rintro e wn ⟨rfl, hw⟩
            have hw' := hw.symm
            subst hw'
            clear hw HC
            have hc29 := lklink_no (unhide HF) (r : Int) (a : Int) 1 8 wk (unhide HS).2 (unhide HK8) (by decide)
            have HC := hide hc29
            clear hc29
            go_wp2_with fail
            go_at_call 15
            refine (unhide HC).mono ?_
            rintro e wn ⟨rfl, hpn, hbn⟩
            have HS2 : Hid (Bt (fun b => b = g) wr wn ∧ LkP wn f g n U W) := hide ⟨(unhide HS).1.trans hbn, hpn⟩
            clear hpn hbn HC HS
            obtain ⟨HS, hHS⟩ : ∃ HS, HS = HS2 := ⟨HS2, rfl⟩
            clear hHS HS2
            obtain ⟨wk, hwk⟩ : ∃ wk, wk = wn := ⟨wn, rfl⟩
            subst hwk
            have hc30 := (by have h := lkroot_any (unhide HF) (a : Int) wk (unhide HS).2; rw [unhide HRa] at h; exact h : Calls Try.prog 17 #[.pointer (some ⟨f, 0, none⟩), .int .i64 (a : Int)] wk fun e w' => e = .returned (.int .i64 (r : Int)) ∧ w' = wk)
            have HC := hide hc30
            clear hc30
            go_wp2_with fail
            go_at_call 17
            refine (unhide HC).mono ?_
            rintro e wn ⟨rfl, hw⟩
            have hw' := hw.symm
            subst hw'
            clear hw HC
            have hc31 := lkcut_no (r : Int) 7 wk (unhide HS).2 (by unfold Sp.ctE; rw [Sp.hs_yes hrn, if_pos rfl, unhide HG7, if_neg (by decide)]) (unhide HG7)
            have HC := hide hc31
            clear hc31
            go_wp2_with fail
            go_at_call 24
            refine (unhide HC).mono ?_
            rintro e wn ⟨rfl, hpn, hbn⟩
            have HS2 : Hid (Bt (fun b => b = g) wr wn ∧ LkP wn f g n U W) := hide ⟨(unhide HS).1.trans hbn, hpn⟩
            clear hpn hbn HC HS
            obtain ⟨HS, hHS⟩ : ∃ HS, HS = HS2 := ⟨HS2, rfl⟩
            clear hHS HS2
            obtain ⟨wk, hwk⟩ : ∃ wk, wk = wn := ⟨wn, rfl⟩
            subst hwk
            obtain ⟨R, hR⟩ : ∃ R, Sp.hg n U (a : Int) = R := ⟨_, rfl⟩
            have hU := lkup_any (a : Int) wk (unhide HS).2
            rw [hR] at hU
            have HU := hide hU
            clear hU
            go_wp2_with fail
            go_at_call 21
            refine (unhide HU).mono ?_
            rintro e wn ⟨rfl, hw⟩
            have hw' := hw.symm
            subst hw'
            clear hw HU
            have HSa : Hid (∀ w' , Bt (fun b => b = g) wr w' → LkP w' f g n U W → Calls Try.prog 14 #[.pointer (some ⟨f, 0, none⟩), .pointer (some ⟨x, 0, none⟩), .int .i64 (n : Int)] w' fun e w'' => e = .returned (.bool true) ∧ Below w.heap.size w w'') := hide fun w' hb hp => by
              refine (same7_any (unhide HF) w' (by omega) hp ((unhide HB).r.bt hb (fun e => (unhide HB).gx e.symm) (fun e => (unhide HB).go_ e.symm) (fun e => (unhide HB).gc e.symm))).mono ?_
              rintro e w'' ⟨rfl, hb2⟩
              have h1 := (unhide HQ1).trans (hb.below (fun k e => by rw [e]; exact hgw) (unhide HQ1).size)
              exact ⟨rfl, h1.trans (hb2.mono h1.size)⟩
            cases R with
            | false =>
              have HC := hide (unhide HSa wk (unhide HS).1 (unhide HS).2)
              rw [if_neg (by decide)]
              go_wp2_with fail
              go_at_call 14
              refine (unhide HC).mono ?_
              rintro e wn ⟨rfl, hE⟩
              have HE := hide hE
              clear hE
              go_wp2
              rw [unhide HP]
              exact ⟨rfl, unhide HE⟩
            | true =>
              rw [if_pos rfl]
              have hc32 := lklink_no (unhide HF) (a : Int) (b : Int) 1 11 wk (unhide HS).2 (by unfold Sp.lkE; rw [if_pos ⟨Sp.hs_yes han, Sp.hs_yes hbn⟩, if_pos hR]) (by decide)
              have HC := hide hc32
              clear hc32
              go_wp2_with fail
              go_at_call 15
              refine (unhide HC).mono ?_
              rintro e wn ⟨rfl, hpn, hbn⟩
              have HS2 : Hid (Bt (fun b => b = g) wr wn ∧ LkP wn f g n U W) := hide ⟨(unhide HS).1.trans hbn, hpn⟩
              clear hpn hbn HC HS
              obtain ⟨HS, hHS⟩ : ∃ HS, HS = HS2 := ⟨HS2, rfl⟩
              clear hHS HS2
              obtain ⟨wk, hwk⟩ : ∃ wk, wk = wn := ⟨wn, rfl⟩
              subst hwk
              have HC := hide (unhide HSa wk (unhide HS).1 (unhide HS).2)
              go_wp2_with fail
              go_at_call 14
              refine (unhide HC).mono ?_
              rintro e wn ⟨rfl, hE⟩
              have HE := hide hE
              clear hE
              go_wp2
              rw [unhide HP]
              exact ⟨rfl, unhide HE⟩
end Go.Proofs.Ytohfmohkaaidpaa


