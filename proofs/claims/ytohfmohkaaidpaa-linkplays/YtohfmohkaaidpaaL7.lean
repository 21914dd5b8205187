/- What the proof needs, part 7. -/
import Derived.Test.YtohfmohkaaidpaaL6
/- The law LinkTurns, walked. -/
namespace Go.Proofs.Ytohfmohkaaidpaa
open Go Go.RowKit

/-- Turned to v, v is the root of what was its root. -/
theorem Sp.tn_rt {n v a : Nat} {U W : Nat → Int} (hF : Sp.Fo n U) (hv : v < n) (h : Sp.Rt U v a) : Sp.Rt (Sp.tn n U W (v : Int)).1 a v := by
  obtain ⟨k, h1, h2⟩ := h
  unfold Sp.tn
  rw [if_pos (Sp.hs_yes hv), Int.toNat_natCast, Sp.dp_is h1 h2]
  exact (Sp.trn_ok (W := W) (x := 0) ⟨hF, hv, h1, h2, .inl ⟨rfl, rfl⟩⟩).2
theorem Sp.Rt.self {U : Nat → Int} {v a : Nat} (h : Sp.Rt U v a) : Sp.Rt U a a := by
  obtain ⟨k, -, h2⟩ := h
  exact ⟨0, rfl, h2⟩
set_option maxRecDepth 100000 in
set_option maxHeartbeats 16000000 in
theorem linkTurns_any (size v : Int) (ns : List Int) (nv : Value) (w : World) (hv : Ints w nv ns) :
    Calls Try.prog 4 #[.int .i64 size, nv, .int .i64 v] w fun e w' => e = .returned (.bool true) ∧ Below w.heap.size w w' := by
  obtain ⟨P, hP⟩ : ∃ P : Ending → World → Prop, P = fun e w' => e = .returned (.bool true) ∧ Below w.heap.size w w' := ⟨_, rfl⟩
  rw [← hP]
  have HP := hide hP
  clear hP
  have HNs : Hid (∀ w', Below w.heap.size w w' → Ints w' nv ns) := hide fun w' hb => hv.below hb
  obtain ⟨na, nc, rfl, -, -, HNa⟩ := hv.allA
  have HN0 := hide (fun w' => within7_any size 15 w' (by omega) (by omega))
  have hm0 : 0 ≤ size % 15 := Int.emod_nonneg _ (by omega)
  have hm1 : size % 15 < 15 := Int.emod_lt_of_pos _ (by omega)
  obtain ⟨n, hN⟩ : ∃ n : Nat, 1 + size % 15 = (n : Int) := ⟨(1 + size % 15).toNat, by omega⟩
  have hn1 : 1 ≤ n := by omega
  have hn2 : n ≤ 15 := by omega
  generalize size % 15 = sz at *
  go_enter Try.func4, Try.ntmps4
  go_wp2_with fail
  go_at_call 9
  refine (known7_any w).mono ?_
  rintro e w1 ⟨rfl, hb1⟩
  have HB1 := hide hb1
  clear hb1
  go_wp2_with fail
  go_at_call 10
  refine (unhide HN0 _).mono ?_
  rintro e wz ⟨rfl, hwz⟩
  have hwz' := hwz.symm
  subst hwz'
  clear hwz
  clear HN0
  have HC1 := hide (lknew_any n w1 hn1 (by omega))
  go_wp2_with fail
  go_at_call 11
  refine (unhide HC1).mono ?_
  rintro e w2 ⟨f, g, rfl, hp2, hb2, hf2, hg2⟩
  have HB2 := hide ((unhide HB1).trans (hb2.mono (unhide HB1).size))
  have hgl2 := hp2.lt
  have HP2 := hide hp2
  have hfw : w.heap.size ≤ f := Nat.le_trans (unhide HB1).size hf2
  have hgw : w.heap.size ≤ g := Nat.le_trans (unhide HB1).size hg2
  clear hp2 hb2 HC1 HB1
  have HC2 := hide (lkrnew_any n w2 hn1 (by omega))
  go_wp2_with fail
  go_at_call 12
  refine (unhide HC2).mono ?_
  rintro e w3 ⟨x, o, c, co, cw, rfl, hr3, hb3, hx3, ho3, hc3⟩
  have HQ : Hid (Below w.heap.size w w3 ∧ LkB w3 f g x o c n co cw (fun _ => -1) (fun _ => 0)) := hide ⟨(unhide HB2).trans (hb3.mono (unhide HB2).size), ⟨(unhide HP2).below hb3, hr3, by omega, by omega, by omega, by omega, by omega, Sp.fo_new n⟩⟩
  have hxw : w.heap.size ≤ x := Nat.le_trans (unhide HB2).size hx3
  have how : w.heap.size ≤ o := Nat.le_trans (unhide HB2).size ho3
  have hcw : w.heap.size ≤ c := Nat.le_trans (unhide HB2).size hc3
  have HGo : Hid (∀ k, (k = g ∨ k = o ∨ k = c) → w.heap.size ≤ k) := hide fun k hk => by rcases hk with rfl | rfl | rfl <;> assumption
  clear hr3 hb3 hx3 ho3 hc3 HC2 HB2 HP2 hgl2 hf2 hg2
  have ha0 : 0 ≤ v % (n : Int) := Int.emod_nonneg _ (by omega)
  have ha1 : v % (n : Int) < (n : Int) := Int.emod_lt_of_pos _ (by omega)
  obtain ⟨a, ha⟩ : ∃ a : Nat, v % (n : Int) = (a : Int) := ⟨(v % (n : Int)).toNat, by omega⟩
  have han : a < n := by omega
  have HWa : Hid (∀ w', Calls Try.prog 10 #[.int .i64 v, .int .i64 (n : Int)] w' fun e w'' => e = .returned (.int .i64 (a : Int)) ∧ w'' = w') := hide (fun w' => by rw [← ha]; exact within7_any v (n : Int) w' (by omega) (by omega))
  clear ha0 ha1 ha
  have HWn := hide (fun (z : Int) (w' : World) => within7_any z 1099511627776 w' (by omega) (by omega))
  go_wp2
  go_loopg [10] ns.length (fun g' s10 wr => ∃ (i : Nat) (U W : Nat → Int), i + g' = ns.length ∧ s10 = .int .i64 (i : Int) ∧ Hid (Below w.heap.size w wr ∧ LkB wr f g x o c n co cw U W))
  case atStart => exact ⟨0, _, _, by omega, rfl, HQ⟩
  case round =>
    clear HQ
    obtain ⟨i, U, W, hig, rfl, HQ⟩ := hrel
    by_cases hi : i < ns.length ∧ i < 60
    · obtain ⟨g', rfl⟩ : ∃ g', gk = g' + 1 := ⟨gk - 1, by omega⟩
      have hiI : (i : Int) < (ns.length : Int) := by omega
      have hi2 : (i : Int) < 60 := by omega
      obtain ⟨b, o', rfl, -, hcx⟩ := unhide HNa i hi.1
      have c1 := hcx wr (unhide HQ).1
      obtain ⟨z, hz⟩ : ∃ z, ns.getD i 0 = z := ⟨_, rfl⟩
      rw [hz] at c1
      have hz0 : 0 ≤ z % 1099511627776 := Int.emod_nonneg _ (by omega)
      have hz1 : z % 1099511627776 < 1099511627776 := Int.emod_lt_of_pos _ (by omega)
      obtain ⟨m, hm⟩ : ∃ m : Nat, z % 1099511627776 = (m : Int) := ⟨(z % 1099511627776).toNat, by omega⟩
      have hml : m < 1099511627776 := by omega
      have HC := hide (unhide HWn z wr)
      rw [hm] at HC
      obtain ⟨v0, hv0⟩ : ∃ v0, m % n = v0 := ⟨_, rfl⟩
      obtain ⟨K2, hK2⟩ : ∃ K2, m / n = K2 := ⟨_, rfl⟩
      obtain ⟨u1, hu1⟩ : ∃ u1, K2 % n = u1 := ⟨_, rfl⟩
      obtain ⟨K4, hK4⟩ : ∃ K4, m / 900 = K4 := ⟨_, rfl⟩
      obtain ⟨j4, hj4⟩ : ∃ j4, K4 % 50 = j4 := ⟨_, rfl⟩
      have e2 : Int.tmod (m : Int) (n : Int) = (v0 : Int) := by rw [← hv0]; exact Sp.rem_nat m n
      have e3 : Int.tdiv (m : Int) (n : Int) = (K2 : Int) := by rw [← hK2]; exact Sp.quo_nat m n
      have e4 : Int.tmod (K2 : Int) (n : Int) = (u1 : Int) := by rw [← hu1]; exact Sp.rem_nat K2 n
      have e8 : Int.tdiv (m : Int) 900 = (K4 : Int) := by rw [← hK4]; exact Sp.quo_nat m 900
      have e9 : Int.tmod (K4 : Int) 50 = (j4 : Int) := by rw [← hj4]; exact Sp.rem_nat K4 50
      have hK2l : K2 < 1099511627776 := by rw [← hK2]; exact Nat.lt_of_le_of_lt (Nat.div_le_self _ _) hml
      have hK4l : K4 < 1099511627776 := by omega
      have hwk2 : IntKind.i64.wrap (K2 : Int) = (K2 : Int) := by rw [IntKind.wrap_i64]; omega
      have hwk4 : IntKind.i64.wrap (K4 : Int) = (K4 : Int) := by rw [IntKind.wrap_i64]; omega
      have hnz : ¬ n = 0 := by omega
      have hw0 : v0 < n := by rw [← hv0]; exact Nat.mod_lt _ (by omega)
      have hw1 : u1 < n := by rw [← hu1]; exact Nat.mod_lt _ (by omega)
      clear hz hz0 hz1 hcx hm hv0 hK2 hu1 hK4 hj4
      go_wp2_with fail
      go_at_call 10
      refine (unhide HC).mono ?_
      rintro e wz ⟨rfl, hwz⟩
      have hwz' := hwz.symm
      subst hwz'
      clear hwz
      clear HC
      go_upto_region 11 with fail
      go_cut [] (fun w9 => ∃ wx, wx = w9 ∧ Hid (Bt (fun b => b = g) wr wx ∧ LkP wx f g n (Sp.lkU n U (v0 : Int) (u1 : Int)) (Sp.lkW n U W (v0 : Int) (u1 : Int) (j4 : Int))))
      case first =>
        have hdq := Below.refl wr.heap.size wr |>.drew
        refine wp_region_G (fun w' => True) (fun _ => false) (by kernel_rfl) trivial (fun hHeld => ?_)
        generalize wr.drew = wq at *
        refine wpAnyG_take (v := ?_) 0 (by rfl) (by kernel_rfl) (by kernel_rfl) (by kernel_rfl) (by kernel_rfl) (fun _ _ _ h => h) (Or.inl ⟨by rfl, ?_⟩) (by assumption) ?_
        rotate_left
        · (intro w' hSw; (try dsimp only at hSw); (try simp only [List.getElem_toArray, List.getElem_cons_zero]); go_simp; try (with_reducible rfl))
        simp only [Act.put, List.getElem_toArray, List.getElem_cons_zero, List.setIfInBounds_toArray, List.set_cons_zero, List.set_cons_succ]
        refine wpAnyG_take (v := ?_) 1 (by rfl) (by kernel_rfl) (by kernel_rfl) (by kernel_rfl) (by kernel_rfl) (fun _ _ _ h => h) (Or.inl ⟨by rfl, ?_⟩) (by assumption) ?_
        rotate_left
        · (intro w' hSw; (try dsimp only at hSw); (try simp only [List.getElem_toArray, List.getElem_cons_succ, List.getElem_cons_zero]); go_simp; try (with_reducible rfl))
        simp only [Act.put, List.getElem_toArray, List.getElem_cons_succ, List.getElem_cons_zero, List.setIfInBounds_toArray, List.set_cons_zero, List.set_cons_succ]
        refine wpAnyG_take (v := ?_) 2 (by rfl) (by kernel_rfl) (by kernel_rfl) (by kernel_rfl) (by kernel_rfl) (fun _ _ _ h => h) (Or.inl ⟨by rfl, ?_⟩) (by assumption) ?_
        rotate_left
        · (intro w' hSw; (try dsimp only at hSw); (try simp only [List.getElem_toArray, List.getElem_cons_succ, List.getElem_cons_zero]); go_simp; try (with_reducible rfl))
        simp only [Act.put, List.getElem_toArray, List.getElem_cons_succ, List.getElem_cons_zero, List.setIfInBounds_toArray, List.set_cons_zero, List.set_cons_succ]
        refine wpAnyG_take (v := ?_) 3 (by rfl) (by kernel_rfl) (by kernel_rfl) (by kernel_rfl) (by kernel_rfl) (fun _ _ _ h => h) (Or.inl ⟨by rfl, ?_⟩) (by assumption) ?_
        rotate_left
        · (intro w' hSw; (try dsimp only at hSw); (try simp only [List.getElem_toArray, List.getElem_cons_succ, List.getElem_cons_zero]); go_simp; try (with_reducible rfl))
        simp only [Act.put, List.getElem_toArray, List.getElem_cons_succ, List.getElem_cons_zero, List.setIfInBounds_toArray, List.set_cons_zero, List.set_cons_succ]
        refine wpAnyG_take (v := ?_) 4 (by rfl) (by kernel_rfl) (by kernel_rfl) (by kernel_rfl) (by kernel_rfl) (fun _ _ _ h => h) (Or.inl ⟨by rfl, ?_⟩) (by assumption) ?_
        rotate_left
        · (intro w' hSw; (try dsimp only at hSw); (try simp only [List.getElem_toArray, List.getElem_cons_succ, List.getElem_cons_zero]); go_simp; try (with_reducible rfl))
        simp only [Act.put, List.getElem_toArray, List.getElem_cons_succ, List.getElem_cons_zero, List.setIfInBounds_toArray, List.set_cons_zero, List.set_cons_succ]
        refine wpAnyG_take (v := ?_) 5 (by rfl) (by kernel_rfl) (by kernel_rfl) (by kernel_rfl) (by kernel_rfl) (fun _ _ _ h => h) (Or.inl ⟨by rfl, ?_⟩) (by assumption) ?_
        rotate_left
        · (intro w' hSw; (try dsimp only at hSw); (try simp only [List.getElem_toArray, List.getElem_cons_succ, List.getElem_cons_zero]); go_simp; try (with_reducible rfl))
        simp only [Act.put, List.getElem_toArray, List.getElem_cons_succ, List.getElem_cons_zero, List.setIfInBounds_toArray, List.set_cons_zero, List.set_cons_succ]
        refine wpAnyG_take (v := ?_) 6 (by rfl) (by kernel_rfl) (by kernel_rfl) (by kernel_rfl) (by kernel_rfl) (fun _ _ _ h => h) (Or.inl ⟨by rfl, ?_⟩) (by assumption) ?_
        rotate_left
        · (intro w' hSw; (try dsimp only at hSw); (try simp only [List.getElem_toArray, List.getElem_cons_succ, List.getElem_cons_zero]); go_simp; try (with_reducible rfl))
        simp only [Act.put, List.getElem_toArray, List.getElem_cons_succ, List.getElem_cons_zero, List.setIfInBounds_toArray, List.set_cons_zero, List.set_cons_succ]
        refine wpAnyG_take (v := ?_) 7 (by rfl) (by kernel_rfl) (by kernel_rfl) (by kernel_rfl) (by kernel_rfl) (fun _ _ _ h => h) (Or.inl ⟨by rfl, ?_⟩) (by assumption) ?_
        rotate_left
        · (intro w' hSw; (try dsimp only at hSw); (try simp only [List.getElem_toArray, List.getElem_cons_succ, List.getElem_cons_zero]); go_simp; try (with_reducible rfl))
        simp only [Act.put, List.getElem_toArray, List.getElem_cons_succ, List.getElem_cons_zero, List.setIfInBounds_toArray, List.set_cons_zero, List.set_cons_succ]
        refine wpAnyG_take (v := ?_) 8 (by rfl) (by kernel_rfl) (by kernel_rfl) (by kernel_rfl) (by kernel_rfl) (fun _ _ _ h => h) (Or.inl ⟨by rfl, ?_⟩) (by assumption) ?_
        rotate_left
        · (intro w' hSw; (try dsimp only at hSw); (try simp only [List.getElem_toArray, List.getElem_cons_succ, List.getElem_cons_zero]); go_simp; try (with_reducible rfl))
        simp only [Act.put, List.getElem_toArray, List.getElem_cons_succ, List.getElem_cons_zero, List.setIfInBounds_toArray, List.set_cons_zero, List.set_cons_succ]
        refine wpAnyG_take (v := ?_) 9 (by rfl) (by kernel_rfl) (by kernel_rfl) (by kernel_rfl) (by kernel_rfl) (fun _ _ _ h => h) (Or.inl ⟨by rfl, ?_⟩) (by assumption) ?_
        rotate_left
        · (intro w' hSw; (try dsimp only at hSw); (try simp only [List.getElem_toArray, List.getElem_cons_succ, List.getElem_cons_zero]); go_simp; try (with_reducible rfl))
        simp only [Act.put, List.getElem_toArray, List.getElem_cons_succ, List.getElem_cons_zero, List.setIfInBounds_toArray, List.set_cons_zero, List.set_cons_succ]
        refine wpAnyG_take (v := ?_) 10 (by rfl) (by kernel_rfl) (by kernel_rfl) (by kernel_rfl) (by kernel_rfl) (fun _ _ _ h => h) (Or.inl ⟨by rfl, ?_⟩) (by assumption) ?_
        rotate_left
        · (intro w' hSw; (try dsimp only at hSw); (try simp only [List.getElem_toArray, List.getElem_cons_succ, List.getElem_cons_zero]); go_simp; try (with_reducible rfl))
        simp only [Act.put, List.getElem_toArray, List.getElem_cons_succ, List.getElem_cons_zero, List.setIfInBounds_toArray, List.set_cons_zero, List.set_cons_succ]
        refine wpAnyG_take (v := ?_) 11 (by rfl) (by kernel_rfl) (by kernel_rfl) (by kernel_rfl) (by kernel_rfl) (fun _ _ _ h => h) (Or.inl ⟨by rfl, ?_⟩) (by assumption) ?_
        rotate_left
        · (intro w' hSw; (try dsimp only at hSw); (try simp only [List.getElem_toArray, List.getElem_cons_succ, List.getElem_cons_zero]); go_simp; try (with_reducible rfl))
        simp only [Act.put, List.getElem_toArray, List.getElem_cons_succ, List.getElem_cons_zero, List.setIfInBounds_toArray, List.set_cons_zero, List.set_cons_succ]
        refine wpAnyG_ready [12] (by kernel_rfl) (by simp) ?_
        refine AllReadyG.cons 12 (by rfl) (fun K hK => ?_) ?_
        · simp only [List.getElem_toArray, List.getElem_cons_succ, List.getElem_cons_zero]
          go_simp
          go_at_call 15
          refine (lklink_any (unhide HQ).2.fo (v0 : Int) (u1 : Int) (j4 : Int) wq ((unhide HQ).2.p.below hdq)).mono ?_
          rintro e wc ⟨rfl, hp1, hb1⟩
          refine hK.out _ _ trivial (fun _ => ?_)
          clear hK K
          try simp only [Act.put, List.setIfInBounds_toArray, List.set_cons_zero, List.set_cons_succ]
          refine wpAnyG_done (by kernel_rfl) ?_ _
          refine NoPanic.normal ?_
          have HX : Hid (Bt (fun b => b = g) wr wc ∧ LkP wc f g n (Sp.lkU n U (v0 : Int) (u1 : Int)) (Sp.lkW n U W (v0 : Int) (u1 : Int) (j4 : Int))) := hide ⟨(Bt.of hdq).trans hb1, hp1⟩
          clear hp1 hb1 hdq hHeld
          go_wp2
          go_meet
          exact ⟨_, rfl, HX⟩
        exact AllReadyG.nil
      case rest =>
        obtain ⟨wx, rfl, HX⟩ := hcut
        have hr1 := (unhide HQ).2.r.bt (unhide HX).1 (fun e => (unhide HQ).2.gx e.symm) (fun e => (unhide HQ).2.go_ e.symm) (fun e => (unhide HQ).2.gc e.symm)
        go_upto_region 12 with fail
        have hdq := Below.refl wx.heap.size wx |>.drew
        refine wp_region_G (fun w' => True) (fun _ => false) (by kernel_rfl) trivial (fun hHeld => ?_)
        generalize wx.drew = wq at *
        refine wpAnyG_take (v := ?_) 0 (by rfl) (by kernel_rfl) (by kernel_rfl) (by kernel_rfl) (by kernel_rfl) (fun _ _ _ h => h) (Or.inl ⟨by rfl, ?_⟩) (by assumption) ?_
        rotate_left
        · (intro w' hSw; (try dsimp only at hSw); (try simp only [List.getElem_toArray, List.getElem_cons_zero]); go_simp; try (with_reducible rfl))
        simp only [Act.put, List.getElem_toArray, List.getElem_cons_zero, List.setIfInBounds_toArray, List.set_cons_zero, List.set_cons_succ]
        refine wpAnyG_take (v := ?_) 1 (by rfl) (by kernel_rfl) (by kernel_rfl) (by kernel_rfl) (by kernel_rfl) (fun _ _ _ h => h) (Or.inl ⟨by rfl, ?_⟩) (by assumption) ?_
        rotate_left
        · (intro w' hSw; (try dsimp only at hSw); (try simp only [List.getElem_toArray, List.getElem_cons_succ, List.getElem_cons_zero]); go_simp; try (with_reducible rfl))
        simp only [Act.put, List.getElem_toArray, List.getElem_cons_succ, List.getElem_cons_zero, List.setIfInBounds_toArray, List.set_cons_zero, List.set_cons_succ]
        refine wpAnyG_take (v := ?_) 2 (by rfl) (by kernel_rfl) (by kernel_rfl) (by kernel_rfl) (by kernel_rfl) (fun _ _ _ h => h) (Or.inl ⟨by rfl, ?_⟩) (by assumption) ?_
        rotate_left
        · (intro w' hSw; (try dsimp only at hSw); (try simp only [List.getElem_toArray, List.getElem_cons_succ, List.getElem_cons_zero]); go_simp; try (with_reducible rfl))
        simp only [Act.put, List.getElem_toArray, List.getElem_cons_succ, List.getElem_cons_zero, List.setIfInBounds_toArray, List.set_cons_zero, List.set_cons_succ]
        refine wpAnyG_take (v := ?_) 3 (by rfl) (by kernel_rfl) (by kernel_rfl) (by kernel_rfl) (by kernel_rfl) (fun _ _ _ h => h) (Or.inl ⟨by rfl, ?_⟩) (by assumption) ?_
        rotate_left
        · (intro w' hSw; (try dsimp only at hSw); (try simp only [List.getElem_toArray, List.getElem_cons_succ, List.getElem_cons_zero]); go_simp; try (with_reducible rfl))
        simp only [Act.put, List.getElem_toArray, List.getElem_cons_succ, List.getElem_cons_zero, List.setIfInBounds_toArray, List.set_cons_zero, List.set_cons_succ]
        refine wpAnyG_take (v := ?_) 4 (by rfl) (by kernel_rfl) (by kernel_rfl) (by kernel_rfl) (by kernel_rfl) (fun _ _ _ h => h) (Or.inl ⟨by rfl, ?_⟩) (by assumption) ?_
        rotate_left
        · (intro w' hSw; (try dsimp only at hSw); (try simp only [List.getElem_toArray, List.getElem_cons_succ, List.getElem_cons_zero]); go_simp; try (with_reducible rfl))
        simp only [Act.put, List.getElem_toArray, List.getElem_cons_succ, List.getElem_cons_zero, List.setIfInBounds_toArray, List.set_cons_zero, List.set_cons_succ]
        refine wpAnyG_take (v := ?_) 5 (by rfl) (by kernel_rfl) (by kernel_rfl) (by kernel_rfl) (by kernel_rfl) (fun _ _ _ h => h) (Or.inl ⟨by rfl, ?_⟩) (by assumption) ?_
        rotate_left
        · (intro w' hSw; (try dsimp only at hSw); (try simp only [List.getElem_toArray, List.getElem_cons_succ, List.getElem_cons_zero]); go_simp; try (with_reducible rfl))
        simp only [Act.put, List.getElem_toArray, List.getElem_cons_succ, List.getElem_cons_zero, List.setIfInBounds_toArray, List.set_cons_zero, List.set_cons_succ]
        refine wpAnyG_take (v := ?_) 6 (by rfl) (by kernel_rfl) (by kernel_rfl) (by kernel_rfl) (by kernel_rfl) (fun _ _ _ h => h) (Or.inl ⟨by rfl, ?_⟩) (by assumption) ?_
        rotate_left
        · (intro w' hSw; (try dsimp only at hSw); (try simp only [List.getElem_toArray, List.getElem_cons_succ, List.getElem_cons_zero]); go_simp; try (with_reducible rfl))
        simp only [Act.put, List.getElem_toArray, List.getElem_cons_succ, List.getElem_cons_zero, List.setIfInBounds_toArray, List.set_cons_zero, List.set_cons_succ]
        refine wpAnyG_take (v := ?_) 7 (by rfl) (by kernel_rfl) (by kernel_rfl) (by kernel_rfl) (by kernel_rfl) (fun _ _ _ h => h) (Or.inl ⟨by rfl, ?_⟩) (by assumption) ?_
        rotate_left
        · (intro w' hSw; (try dsimp only at hSw); (try simp only [List.getElem_toArray, List.getElem_cons_succ, List.getElem_cons_zero]); go_simp; try (with_reducible rfl))
        simp only [Act.put, List.getElem_toArray, List.getElem_cons_succ, List.getElem_cons_zero, List.setIfInBounds_toArray, List.set_cons_zero, List.set_cons_succ]
        refine wpAnyG_take (v := ?_) 8 (by rfl) (by kernel_rfl) (by kernel_rfl) (by kernel_rfl) (by kernel_rfl) (fun _ _ _ h => h) (Or.inl ⟨by rfl, ?_⟩) (by assumption) ?_
        rotate_left
        · (intro w' hSw; (try dsimp only at hSw); (try simp only [List.getElem_toArray, List.getElem_cons_succ, List.getElem_cons_zero]); go_simp; try (with_reducible rfl))
        simp only [Act.put, List.getElem_toArray, List.getElem_cons_succ, List.getElem_cons_zero, List.setIfInBounds_toArray, List.set_cons_zero, List.set_cons_succ]
        refine wpAnyG_take (v := ?_) 9 (by rfl) (by kernel_rfl) (by kernel_rfl) (by kernel_rfl) (by kernel_rfl) (fun _ _ _ h => h) (Or.inl ⟨by rfl, ?_⟩) (by assumption) ?_
        rotate_left
        · (intro w' hSw; (try dsimp only at hSw); (try simp only [List.getElem_toArray, List.getElem_cons_succ, List.getElem_cons_zero]); go_simp; try (with_reducible rfl))
        simp only [Act.put, List.getElem_toArray, List.getElem_cons_succ, List.getElem_cons_zero, List.setIfInBounds_toArray, List.set_cons_zero, List.set_cons_succ]
        refine wpAnyG_take (v := ?_) 10 (by rfl) (by kernel_rfl) (by kernel_rfl) (by kernel_rfl) (by kernel_rfl) (fun _ _ _ h => h) (Or.inl ⟨by rfl, ?_⟩) (by assumption) ?_
        rotate_left
        · (intro w' hSw; (try dsimp only at hSw); (try simp only [List.getElem_toArray, List.getElem_cons_succ, List.getElem_cons_zero]); go_simp; try (with_reducible rfl))
        simp only [Act.put, List.getElem_toArray, List.getElem_cons_succ, List.getElem_cons_zero, List.setIfInBounds_toArray, List.set_cons_zero, List.set_cons_succ]
        refine wpAnyG_take (v := ?_) 11 (by rfl) (by kernel_rfl) (by kernel_rfl) (by kernel_rfl) (by kernel_rfl) (fun _ _ _ h => h) (Or.inl ⟨by rfl, ?_⟩) (by assumption) ?_
        rotate_left
        · (intro w' hSw; (try dsimp only at hSw); (try simp only [List.getElem_toArray, List.getElem_cons_succ, List.getElem_cons_zero]); go_simp; try (with_reducible rfl))
        simp only [Act.put, List.getElem_toArray, List.getElem_cons_succ, List.getElem_cons_zero, List.setIfInBounds_toArray, List.set_cons_zero, List.set_cons_succ]
        refine wpAnyG_ready [12] (by kernel_rfl) (by simp) ?_
        refine AllReadyG.cons 12 (by rfl) (fun K hK => ?_) ?_
        · simp only [List.getElem_toArray, List.getElem_cons_succ, List.getElem_cons_zero]
          go_simp
          go_at_call 16
          refine (lkrlink_any (unhide HQ).2.fo (v0 : Int) (u1 : Int) (j4 : Int) wq (hr1.below hdq)).mono ?_
          rintro e wc ⟨rfl, hp1, hb1⟩
          refine hK.out _ _ trivial (fun _ => ?_)
          clear hK K
          try simp only [Act.put, List.setIfInBounds_toArray, List.set_cons_zero, List.set_cons_succ]
          refine wpAnyG_done (by kernel_rfl) ?_ _
          refine NoPanic.normal ?_
          have HQ2 : Hid (Below w.heap.size w wc ∧ LkB wc f g x o c n co cw (Sp.lkU n U (v0 : Int) (u1 : Int)) (Sp.lkW n U W (v0 : Int) (u1 : Int) (j4 : Int))) := hide (by
            have hbb : Bt (fun b => b = o ∨ b = c) wx wc := (Bt.of hdq).trans hb1
            exact ⟨((unhide HQ).1.trans ((unhide HX).1.below (fun k e => unhide HGo k (.inl e)) (unhide HQ).1.size)).trans (hbb.below (fun k e => unhide HGo k (.inr e)) (Nat.le_trans (unhide HQ).1.size (unhide HX).1.size)), ⟨(unhide HX).2.bt hbb (fun e => e.elim (unhide HQ).2.fo_ (unhide HQ).2.fc) (fun e => e.elim (unhide HQ).2.go_ (unhide HQ).2.gc), hp1, (unhide HQ).2.gx, (unhide HQ).2.go_, (unhide HQ).2.gc, (unhide HQ).2.fo_, (unhide HQ).2.fc, (unhide HQ).2.fo.lk _ _⟩⟩)
          clear hp1 hb1 hdq hHeld hr1
          go_wp2
          go_roundg g'
          case rel => exact ⟨i + 1, _, _, by omega, by go_num, HQ2⟩
          case measure => omega
        exact AllReadyG.nil
    · have hdone : (¬ (i : Int) < (ns.length : Int)) ∨ ((i : Int) < (ns.length : Int) ∧ ¬ (i : Int) < 60) := by omega
      clear HWn hi hig
      clear HNa HNs hv
      obtain ⟨km, r, hkr, hr0, hrn⟩ := (unhide HQ).2.fo.ex han
      have HRt := hide (show Sp.Rt U a r from ⟨km, hkr, hr0⟩)
      have hB := (unhide HQ).2
      have HQ1 := hide (unhide HQ).1
      clear HQ hkr hr0
      have HF := hide hB.fo
      obtain ⟨T1, hT1⟩ : ∃ T, Sp.tn n U W (a : Int) = T := ⟨_, rfl⟩
      have HF1 : Hid (Sp.Fo n T1.1) := hide (by rw [← hT1]; exact hB.fo.tn W _)
      have HR1 : Hid (Sp.Rt T1.1 r a) := hide (by rw [← hT1]; exact Sp.tn_rt hB.fo han (unhide HRt))
      obtain ⟨T2, hT2⟩ : ∃ T, Sp.tn n T1.1 T1.2 (r : Int) = T := ⟨_, rfl⟩
      have HF2 : Hid (Sp.Fo n T2.1) := hide (by rw [← hT2]; exact (unhide HF1).tn T1.2 _)
      have HR2 : Hid (Sp.Rt T2.1 a r) := hide (by rw [← hT2]; exact Sp.tn_rt (unhide HF1) hrn (unhide HR1))
      have hC1 := lkroot_any hB.fo (a : Int) wr hB.p
      rw [Sp.rt_is han (unhide HRt)] at hC1
      have HC1 := hide hC1
      have hC2 := lkturn_any hB.fo (a : Int) wr hB.p
      rw [Sp.hs_yes han, hT1] at hC2
      have HC2 := hide hC2
      have HB := hide hB
      have haa : ((a : Int) != (a : Int)) = false := by simp
      have hrr : ((r : Int) == (r : Int)) = true := by simp
      have HT1 := hide hT1
      have HT2 := hide hT2
      clear hC1 hC2 hB hT1 hT2
      rcases hdone with hdone | ⟨hdone, hdone2⟩
      · go_wp2_with fail
        go_at_call 10
        refine (unhide HWa _).mono ?_
        rintro e wz ⟨rfl, hwz⟩
        have hwz' := hwz.symm
        subst hwz'
        clear hwz
        go_wp2_with fail
        go_at_call 17
        refine (unhide HC1).mono ?_
        rintro e w4 ⟨rfl, hw⟩
        have hw' := hw.symm
        subst hw'
        clear hw
        go_wp2_with fail
        go_at_call 18
        refine (unhide HC2).mono ?_
        rintro e w5 ⟨rfl, hp5, hb5⟩
        have hr5 := (unhide HB).r.bt hb5 (fun e => (unhide HB).gx e.symm) (fun e => (unhide HB).go_ e.symm) (fun e => (unhide HB).gc e.symm)
        have HB5 := hide ((unhide HQ1).trans (hb5.below (fun k e => by rw [e]; exact hgw) (unhide HQ1).size))
        have hC3 := lkroot_any (unhide HF1) (a : Int) w5 hp5
        rw [Sp.rt_is han (unhide HR1).self] at hC3
        have HC3 := hide hC3
        have hC4 := lkroot_any (unhide HF1) (r : Int) w5 hp5
        rw [Sp.rt_is hrn (unhide HR1)] at hC4
        have HC4 := hide hC4
        have hC5 := lkrturn_any (unhide HF) (a : Int) w5 hr5
        rw [Sp.hs_yes han, unhide HT1] at hC5
        have HC5 := hide hC5
        have HP5 := hide hp5
        clear hC3 hC4 hC5 hp5 hb5 hr5 HC1 HC2
        go_wp2_with fail
        go_at_call 17
        refine (unhide HC3).mono ?_
        rintro e w6 ⟨rfl, hw⟩
        have hw' := hw.symm
        subst hw'
        clear hw
        go_wp2_with fail
        go_at_call 17
        refine (unhide HC4).mono ?_
        rintro e w6 ⟨rfl, hw⟩
        have hw' := hw.symm
        subst hw'
        clear hw HC3 HC4
        go_wp2_with fail
        go_at_call 19
        refine (unhide HC5).mono ?_
        rintro e w6 ⟨rfl, hr6, hb6⟩
        have hp6 := (unhide HP5).bt hb6 (fun e => e.elim (unhide HB).fo_ (unhide HB).fc) (fun e => e.elim (unhide HB).go_ (unhide HB).gc)
        have HB6 := hide ((unhide HB5).trans (hb6.below (fun k e => unhide HGo k (.inr e)) (unhide HB5).size))
        have HC6 := hide (same7_any (unhide HF1) w6 (by omega) hp6 hr6)
        have HPR := hide (And.intro hp6 hr6)
        clear hr6 hb6 hp6 HC5 HB5 HP5
        go_wp2_with fail
        go_at_call 14
        refine (unhide HC6).mono ?_
        rintro e w7 ⟨rfl, hb7⟩
        have HB7 := hide ((unhide HB6).trans (hb7.mono (unhide HB6).size))
        have hp7 := (unhide HPR).1.below hb7
        have hr7 := (unhide HPR).2.below hb7
        have hC7 := lkturn_any (unhide HF1) (r : Int) w7 hp7
        rw [Sp.hs_yes hrn, unhide HT2] at hC7
        have HC7 := hide hC7
        have HR7 := hide hr7
        clear hC7 hb7 hp7 hr7 HC6 HB6 HPR
        go_wp2_with fail
        go_at_call 18
        refine (unhide HC7).mono ?_
        rintro e w8 ⟨rfl, hp8, hb8⟩
        have hr8 := (unhide HR7).bt hb8 (fun e => (unhide HB).gx e.symm) (fun e => (unhide HB).go_ e.symm) (fun e => (unhide HB).gc e.symm)
        have HB8 := hide ((unhide HB7).trans (hb8.below (fun k e => by rw [e]; exact hgw) (unhide HB7).size))
        have hC8 := lkrturn_any (unhide HF1) (r : Int) w8 hr8
        rw [Sp.hs_yes hrn, unhide HT2] at hC8
        have HC8 := hide hC8
        have HP8 := hide hp8
        clear hC8 hb8 hp8 hr8 HC7 HB7 HR7
        go_wp2_with fail
        go_at_call 19
        refine (unhide HC8).mono ?_
        rintro e w9 ⟨rfl, hr9, hb9⟩
        have hp9 := (unhide HP8).bt hb9 (fun e => e.elim (unhide HB).fo_ (unhide HB).fc) (fun e => e.elim (unhide HB).go_ (unhide HB).gc)
        have HB9 := hide ((unhide HB8).trans (hb9.below (fun k e => unhide HGo k (.inr e)) (unhide HB8).size))
        have HC9 := hide (same7_any (unhide HF2) w9 (by omega) hp9 hr9)
        have HP9 := hide hp9
        clear hr9 hb9 hp9 HC8 HB8 HP8
        go_wp2_with fail
        go_at_call 14
        refine (unhide HC9).mono ?_
        rintro e wA ⟨rfl, hbA⟩
        have HBA := hide ((unhide HB9).trans (hbA.mono (unhide HB9).size))
        have hCA := lkroot_any (unhide HF2) (a : Int) wA ((unhide HP9).below hbA)
        rw [Sp.rt_is han (unhide HR2)] at hCA
        have HCA := hide hCA
        clear hCA hbA HC9 HB9 HP9
        go_wp2_with fail
        go_at_call 17
        refine (unhide HCA).mono ?_
        rintro e wB ⟨rfl, hw⟩
        have hw' := hw.symm
        subst hw'
        clear hw
        go_wp2
        rw [unhide HP]
        exact ⟨rfl, unhide HBA⟩
      · go_wp2_with fail
        go_at_call 10
        refine (unhide HWa _).mono ?_
        rintro e wz ⟨rfl, hwz⟩
        have hwz' := hwz.symm
        subst hwz'
        clear hwz
        go_wp2_with fail
        go_at_call 17
        refine (unhide HC1).mono ?_
        rintro e w4 ⟨rfl, hw⟩
        have hw' := hw.symm
        subst hw'
        clear hw
        go_wp2_with fail
        go_at_call 18
        refine (unhide HC2).mono ?_
        rintro e w5 ⟨rfl, hp5, hb5⟩
        have hr5 := (unhide HB).r.bt hb5 (fun e => (unhide HB).gx e.symm) (fun e => (unhide HB).go_ e.symm) (fun e => (unhide HB).gc e.symm)
        have HB5 := hide ((unhide HQ1).trans (hb5.below (fun k e => by rw [e]; exact hgw) (unhide HQ1).size))
        have hC3 := lkroot_any (unhide HF1) (a : Int) w5 hp5
        rw [Sp.rt_is han (unhide HR1).self] at hC3
        have HC3 := hide hC3
        have hC4 := lkroot_any (unhide HF1) (r : Int) w5 hp5
        rw [Sp.rt_is hrn (unhide HR1)] at hC4
        have HC4 := hide hC4
        have hC5 := lkrturn_any (unhide HF) (a : Int) w5 hr5
        rw [Sp.hs_yes han, unhide HT1] at hC5
        have HC5 := hide hC5
        have HP5 := hide hp5
        clear hC3 hC4 hC5 hp5 hb5 hr5 HC1 HC2
        go_wp2_with fail
        go_at_call 17
        refine (unhide HC3).mono ?_
        rintro e w6 ⟨rfl, hw⟩
        have hw' := hw.symm
        subst hw'
        clear hw
        go_wp2_with fail
        go_at_call 17
        refine (unhide HC4).mono ?_
        rintro e w6 ⟨rfl, hw⟩
        have hw' := hw.symm
        subst hw'
        clear hw HC3 HC4
        go_wp2_with fail
        go_at_call 19
        refine (unhide HC5).mono ?_
        rintro e w6 ⟨rfl, hr6, hb6⟩
        have hp6 := (unhide HP5).bt hb6 (fun e => e.elim (unhide HB).fo_ (unhide HB).fc) (fun e => e.elim (unhide HB).go_ (unhide HB).gc)
        have HB6 := hide ((unhide HB5).trans (hb6.below (fun k e => unhide HGo k (.inr e)) (unhide HB5).size))
        have HC6 := hide (same7_any (unhide HF1) w6 (by omega) hp6 hr6)
        have HPR := hide (And.intro hp6 hr6)
        clear hr6 hb6 hp6 HC5 HB5 HP5
        go_wp2_with fail
        go_at_call 14
        refine (unhide HC6).mono ?_
        rintro e w7 ⟨rfl, hb7⟩
        have HB7 := hide ((unhide HB6).trans (hb7.mono (unhide HB6).size))
        have hp7 := (unhide HPR).1.below hb7
        have hr7 := (unhide HPR).2.below hb7
        have hC7 := lkturn_any (unhide HF1) (r : Int) w7 hp7
        rw [Sp.hs_yes hrn, unhide HT2] at hC7
        have HC7 := hide hC7
        have HR7 := hide hr7
        clear hC7 hb7 hp7 hr7 HC6 HB6 HPR
        go_wp2_with fail
        go_at_call 18
        refine (unhide HC7).mono ?_
        rintro e w8 ⟨rfl, hp8, hb8⟩
        have hr8 := (unhide HR7).bt hb8 (fun e => (unhide HB).gx e.symm) (fun e => (unhide HB).go_ e.symm) (fun e => (unhide HB).gc e.symm)
        have HB8 := hide ((unhide HB7).trans (hb8.below (fun k e => by rw [e]; exact hgw) (unhide HB7).size))
        have hC8 := lkrturn_any (unhide HF1) (r : Int) w8 hr8
        rw [Sp.hs_yes hrn, unhide HT2] at hC8
        have HC8 := hide hC8
        have HP8 := hide hp8
        clear hC8 hb8 hp8 hr8 HC7 HB7 HR7
        go_wp2_with fail
        go_at_call 19
        refine (unhide HC8).mono ?_
        rintro e w9 ⟨rfl, hr9, hb9⟩
        have hp9 := (unhide HP8).bt hb9 (fun e => e.elim (unhide HB).fo_ (unhide HB).fc) (fun e => e.elim (unhide HB).go_ (unhide HB).gc)
        have HB9 := hide ((unhide HB8).trans (hb9.below (fun k e => unhide HGo k (.inr e)) (unhide HB8).size))
        have HC9 := hide (same7_any (unhide HF2) w9 (by omega) hp9 hr9)
        have HP9 := hide hp9
        clear hr9 hb9 hp9 HC8 HB8 HP8
        go_wp2_with fail
        go_at_call 14
        refine (unhide HC9).mono ?_
        rintro e wA ⟨rfl, hbA⟩
        have HBA := hide ((unhide HB9).trans (hbA.mono (unhide HB9).size))
        have hCA := lkroot_any (unhide HF2) (a : Int) wA ((unhide HP9).below hbA)
        rw [Sp.rt_is han (unhide HR2)] at hCA
        have HCA := hide hCA
        clear hCA hbA HC9 HB9 HP9
        go_wp2_with fail
        go_at_call 17
        refine (unhide HCA).mono ?_
        rintro e wB ⟨rfl, hw⟩
        have hw' := hw.symm
        subst hw'
        clear hw
        go_wp2
        rw [unhide HP]
        exact ⟨rfl, unhide HBA⟩
end Go.Proofs.Ytohfmohkaaidpaa


