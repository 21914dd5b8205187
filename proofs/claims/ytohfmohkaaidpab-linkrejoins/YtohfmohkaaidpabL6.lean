/- What the proof needs, part 6. -/
import Derived.Test.YtohfmohkaaidpabL5
/- The law's step: one on both forests, answered the same. -/
namespace Go.Proofs.Ytohfmohkaaidpab
open Go Go.RowKit

/-- Both forests, of the same state. -/
structure LkB (w : World) (f g x o c n co cw : Nat) (U W : Nat → Int) : Prop where
  p : LkP w f g n U W
  r : LkR w x o c n co cw U W
  gx : g ≠ x
  go_ : g ≠ o
  gc : g ≠ c
  fo_ : f ≠ o
  fc : f ≠ c
  fo : Sp.Fo n U
theorem LkB.bt {p : Nat → Prop} {w w' : World} {f g x o c n co cw : Nat} {U W : Nat → Int} (h : LkB w f g x o c n co cw U W) (hb : Bt p w w') (h1 : ¬ p f) (h2 : ¬ p g) (h3 : ¬ p x) (h4 : ¬ p o) (h5 : ¬ p c) : LkB w' f g x o c n co cw U W := ⟨h.p.bt hb h1 h2, h.r.bt hb h3 h4 h5, h.gx, h.go_, h.gc, h.fo_, h.fc, h.fo⟩
theorem LkB.below {w w' : World} {f g x o c n co cw : Nat} {U W : Nat → Int} (h : LkB w f g x o c n co cw U W) (hb : Below w.heap.size w w') : LkB w' f g x o c n co cw U W := ⟨h.p.below hb, h.r.below hb, h.gx, h.go_, h.gc, h.fo_, h.fc, h.fo⟩
theorem Sp.quo_nat (m d : Nat) : Int.tdiv (m : Int) (d : Int) = ((m / d : Nat) : Int) := rfl
theorem Sp.rem_nat (m d : Nat) : Int.tmod (m : Int) (d : Int) = ((m % d : Nat) : Int) := rfl
set_option maxRecDepth 100000 in
set_option maxHeartbeats 16000000 in
theorem step7_any {f g x o c n co cw : Nat} {U W : Nat → Int} (m : Nat) (raw : Int) (w : World) (hm : m < 1099511627776) (hn1 : 1 ≤ n) (hn : n ≤ 60) (h : LkB w f g x o c n co cw U W) :
    Calls Try.prog 20 #[.pointer (some ⟨f, 0, none⟩), .pointer (some ⟨x, 0, none⟩), .int .i64 (m : Int), .int .i64 (n : Int), .int .i64 raw] w fun e w' => e = .returned (.bool true) ∧ ∃ U' W', LkB w' f g x o c n co cw U' W' ∧ Bt (fun b => b = g ∨ b = o ∨ b = c) w w' := by
  have H := hide h
  obtain ⟨K, hK⟩ : ∃ K, m / 16 = K := ⟨_, rfl⟩
  obtain ⟨tg, htg⟩ : ∃ tg, m % 16 = tg := ⟨_, rfl⟩
  have htl : tg < 16 := by omega
  have hKl : K < 1099511627776 := by omega
  have e0 : Int.tdiv (m : Int) 16 = (K : Int) := by rw [← hK]; exact Sp.quo_nat m 16
  have e1 : Int.tmod (m : Int) 16 = (tg : Int) := by rw [← htg]; exact Sp.rem_nat m 16
  obtain ⟨v0, hv0⟩ : ∃ v0, K % n = v0 := ⟨_, rfl⟩
  obtain ⟨K2, hK2⟩ : ∃ K2, K / n = K2 := ⟨_, rfl⟩
  obtain ⟨u1, hu1⟩ : ∃ u1, K2 % n = u1 := ⟨_, rfl⟩
  have e2 : Int.tmod (K : Int) (n : Int) = (v0 : Int) := by rw [← hv0]; exact Sp.rem_nat K n
  have e3 : Int.tdiv (K : Int) (n : Int) = (K2 : Int) := by rw [← hK2]; exact Sp.quo_nat K n
  have e4 : Int.tmod (K2 : Int) (n : Int) = (u1 : Int) := by rw [← hu1]; exact Sp.rem_nat K2 n
  obtain ⟨m53, hm53⟩ : ∃ z, K % 53 = z := ⟨_, rfl⟩
  have e5 : Int.tmod (K : Int) 53 = (m53 : Int) := by rw [← hm53]; exact Sp.rem_nat K 53
  obtain ⟨K3, hK3⟩ : ∃ z, K / 53 = z := ⟨_, rfl⟩
  have e6 : Int.tdiv (K : Int) 53 = (K3 : Int) := by rw [← hK3]; exact Sp.quo_nat K 53
  obtain ⟨j3, hj3⟩ : ∃ z, K3 % 3 = z := ⟨_, rfl⟩
  have e7 : Int.tmod (K3 : Int) 3 = (j3 : Int) := by rw [← hj3]; exact Sp.rem_nat K3 3
  have hj3l : j3 < 3 := by omega
  obtain ⟨K4, hK4⟩ : ∃ z, K / 900 = z := ⟨_, rfl⟩
  have e8 : Int.tdiv (K : Int) 900 = (K4 : Int) := by rw [← hK4]; exact Sp.quo_nat K 900
  obtain ⟨j4, hj4⟩ : ∃ z, K4 % 21 = z := ⟨_, rfl⟩
  have e9 : Int.tmod (K4 : Int) 21 = (j4 : Int) := by rw [← hj4]; exact Sp.rem_nat K4 21
  have hj4l : j4 < 21 := by omega
  have hK3l : K3 < 1099511627776 := by omega
  have hK4l : K4 < 1099511627776 := by omega
  have hK2l : K2 < 1099511627776 := by rw [← hK2]; exact Nat.lt_of_le_of_lt (Nat.div_le_self _ _) hKl
  have hnz : ¬ n = 0 := by omega
  have hwk2 : IntKind.i64.wrap (K2 : Int) = (K2 : Int) := by rw [IntKind.wrap_i64]; omega
  obtain ⟨zz, hzz⟩ : ∃ zz : Int, #[Value.int .i64 (-1), .int .i64 (n : Int), .int .i64 raw][j3]? = some (.int .i64 zz) := by
    rcases (show j3 = 0 ∨ j3 = 1 ∨ j3 = 2 by omega) with rfl | rfl | rfl
    · exact ⟨_, rfl⟩
    · exact ⟨_, rfl⟩
    · exact ⟨_, rfl⟩
  obtain ⟨P, hP⟩ : ∃ P : Ending → World → Prop, P = fun e w' => e = .returned (.bool true) ∧ ∃ U' W', LkB w' f g x o c n co cw U' W' ∧ Bt (fun b => b = g ∨ b = o ∨ b = c) w w' := ⟨_, rfl⟩
  rw [← hP]
  have HP := hide hP
  clear hP h hK htg hv0 hK2 hu1 hm53 hK3 hj3 hK4 hj4
  go_enter Try.func20, Try.ntmps20
  go_upto_region 2 with fail
  go_cut [12, 13] (fun s12 s13 w9 => ∃ wx, s12 = .int .i64 (v0 : Int) ∧ s13 = .int .i64 (u1 : Int) ∧ wx = w9 ∧ Hid (Below w.heap.size w wx))
  case first =>
    have hbq := (Below.refl w.heap.size w).drew
    refine wp_region_G (fun w' => True) (fun _ => false) (by kernel_rfl) trivial (fun hHeld => ?_)
    generalize w.drew = wq at *
    refine wpAnyG_take (v := ?_) 0 (by rfl) (by kernel_rfl) (by kernel_rfl) (by kernel_rfl) (by kernel_rfl) (fun _ _ _ h => h) (Or.inl ⟨by rfl, ?_⟩) (by assumption) ?_
    rotate_left
    · (intro w' hSw; (try dsimp only at hSw); (try simp only [List.getElem_toArray, List.getElem_cons_zero]); go_simp; try (with_reducible rfl))
    simp only [Act.put, List.getElem_toArray, List.getElem_cons_zero, List.setIfInBounds_toArray, List.set_cons_zero, List.set_cons_succ]
    refine wpAnyG_take (v := ?_) 1 (by rfl) (by kernel_rfl) (by kernel_rfl) (by kernel_rfl) (by kernel_rfl) (fun _ _ _ h => h) (Or.inl ⟨by rfl, ?_⟩) (by assumption) ?_
    rotate_left
    · (intro w' hSw; (try dsimp only at hSw); (try simp only [List.getElem_toArray, List.getElem_cons_succ, List.getElem_cons_zero]); go_simp; try (with_reducible rfl))
    simp only [Act.put, List.getElem_toArray, List.getElem_cons_succ, List.getElem_cons_zero, List.setIfInBounds_toArray, List.set_cons_zero, List.set_cons_succ]
    refine wpAnyG_take (v := ?_) 2 (by rfl) (by kernel_rfl) (by kernel_rfl) (by kernel_rfl) (by kernel_rfl) (fun _ _ _ h => h) (Or.inl ⟨by rfl, ?_⟩) (by assumption) ?_
    rotate_left
    · (intro w' hSw; (try dsimp only at hSw); (try simp only [List.getElem_toArray, List.getElem_cons_succ, List.getElem_cons_zero]); go_simp; try (with_reducible rfl))
    simp only [Act.put, List.getElem_toArray, List.getElem_cons_succ, List.getElem_cons_zero, List.setIfInBounds_toArray, List.set_cons_zero, List.set_cons_succ]
    refine wpAnyG_take (v := ?_) 3 (by rfl) (by kernel_rfl) (by kernel_rfl) (by kernel_rfl) (by kernel_rfl) (fun _ _ _ h => h) (Or.inl ⟨by rfl, ?_⟩) (by assumption) ?_
    rotate_left
    · (intro w' hSw; (try dsimp only at hSw); (try simp only [List.getElem_toArray, List.getElem_cons_succ, List.getElem_cons_zero]); go_simp; try (with_reducible rfl))
    simp only [Act.put, List.getElem_toArray, List.getElem_cons_succ, List.getElem_cons_zero, List.setIfInBounds_toArray, List.set_cons_zero, List.set_cons_succ]
    refine wpAnyG_take (v := ?_) 4 (by rfl) (by kernel_rfl) (by kernel_rfl) (by kernel_rfl) (by kernel_rfl) (fun _ _ _ h => h) (Or.inl ⟨by rfl, ?_⟩) (by assumption) ?_
    rotate_left
    · (intro w' hSw; (try dsimp only at hSw); (try simp only [List.getElem_toArray, List.getElem_cons_succ, List.getElem_cons_zero]); go_simp; try (with_reducible rfl))
    simp only [Act.put, List.getElem_toArray, List.getElem_cons_succ, List.getElem_cons_zero, List.setIfInBounds_toArray, List.set_cons_zero, List.set_cons_succ]
    refine wpAnyG_take (v := ?_) 5 (by rfl) (by kernel_rfl) (by kernel_rfl) (by kernel_rfl) (by kernel_rfl) (fun _ _ _ h => h) (Or.inl ⟨by rfl, ?_⟩) (by assumption) ?_
    rotate_left
    · (intro w' hSw; (try dsimp only at hSw); (try simp only [List.getElem_toArray, List.getElem_cons_succ, List.getElem_cons_zero]); go_simp; try (with_reducible rfl))
    simp only [Act.put, List.getElem_toArray, List.getElem_cons_succ, List.getElem_cons_zero, List.setIfInBounds_toArray, List.set_cons_zero, List.set_cons_succ]
    refine wpAnyG_take (v := ?_) 6 (by rfl) (by kernel_rfl) (by kernel_rfl) (by kernel_rfl) (by kernel_rfl) (fun _ _ _ h => h) (Or.inl ⟨by rfl, ?_⟩) (by assumption) ?_
    rotate_left
    · (intro w' hSw; (try dsimp only at hSw); (try simp only [List.getElem_toArray, List.getElem_cons_succ, List.getElem_cons_zero]); go_simp; try (with_reducible rfl))
    simp only [Act.put, List.getElem_toArray, List.getElem_cons_succ, List.getElem_cons_zero, List.setIfInBounds_toArray, List.set_cons_zero, List.set_cons_succ]
    refine wpAnyG_take (v := ?_) 7 (by rfl) (by kernel_rfl) (by kernel_rfl) (by kernel_rfl) (by kernel_rfl) (fun _ _ _ h => h) (Or.inl ⟨by rfl, ?_⟩) (by assumption) ?_
    rotate_left
    · (intro w' hSw; (try dsimp only at hSw); (try simp only [List.getElem_toArray, List.getElem_cons_succ, List.getElem_cons_zero]); go_simp; try (with_reducible rfl))
    simp only [Act.put, List.getElem_toArray, List.getElem_cons_succ, List.getElem_cons_zero, List.setIfInBounds_toArray, List.set_cons_zero, List.set_cons_succ]
    refine wpAnyG_take (v := ?_) 8 (by rfl) (by kernel_rfl) (by kernel_rfl) (by kernel_rfl) (by kernel_rfl) (fun _ _ _ h => h) (Or.inl ⟨by rfl, ?_⟩) (by assumption) ?_
    rotate_left
    · (intro w' hSw; (try dsimp only at hSw); (try simp only [List.getElem_toArray, List.getElem_cons_succ, List.getElem_cons_zero]); go_simp; try (with_reducible rfl))
    simp only [Act.put, List.getElem_toArray, List.getElem_cons_succ, List.getElem_cons_zero, List.setIfInBounds_toArray, List.set_cons_zero, List.set_cons_succ]
    refine wpAnyG_take (v := ?_) 9 (by rfl) (by kernel_rfl) (by kernel_rfl) (by kernel_rfl) (by kernel_rfl) (fun _ _ _ h => h) (Or.inl ⟨by rfl, ?_⟩) (by assumption) ?_
    rotate_left
    · (intro w' hSw; (try dsimp only at hSw); (try simp only [List.getElem_toArray, List.getElem_cons_succ, List.getElem_cons_zero]); go_simp; try (with_reducible rfl))
    simp only [Act.put, List.getElem_toArray, List.getElem_cons_succ, List.getElem_cons_zero, List.setIfInBounds_toArray, List.set_cons_zero, List.set_cons_succ]
    refine wpAnyG_done (by kernel_rfl) ?_ _
    refine NoPanic.normal ?_
    go_wp2
    go_meet
    exact ⟨_, rfl, rfl, rfl, hide hbq⟩
  case rest =>
    obtain ⟨wx, rfl, rfl, rfl, HX⟩ := hcut
    by_cases h53 : m53 = 0
    · subst h53
      obtain ⟨wz, hwz⟩ : ∃ wz, wz = wx.alloc (.cells #[.int .i64 (-1), .int .i64 (n : Int), .int .i64 raw] 3) := ⟨_, rfl⟩
      have hbz : Below wx.heap.size wx wz := by rw [hwz]; exact (Below.refl _ wx).alloc (Nat.le_refl _) _
      have kl : (wx.alloc (.cells #[.int .i64 (-1), .int .i64 (n : Int), .int .i64 raw] 3)).cell? ⟨wx.heap.size, j3, none⟩ = some (.int .i64 zz) := by
        rw [cell_of_row _ _ _ _ _ _ (heap_alloc_new wx _)]; exact hzz
      have hj3I : (j3 : Int) < 3 := by omega
      go_upto_region 5 with fail
      rw [← hwz]
      clear kl hzz hwz
      have hB := (unhide H).below ((unhide HX).trans (hbz.mono (unhide HX).size))
      have Hwz : Hid (Bt (fun b => b = g ∨ b = o ∨ b = c) w wz) := hide (Bt.of ((unhide HX).trans (hbz.mono (unhide HX).size)))
      obtain ⟨u0, hu0⟩ : ∃ u0 : Int, (u1 : Int) = u0 := ⟨_, rfl⟩
      obtain ⟨by_, hby⟩ : ∃ by_ : Int, (j4 : Int) - 10 = by_ := ⟨_, rfl⟩
      rw [hu0]
      clear hu0 hbz HX H e0 e2 e3 e4 e5 e6 e7
      rcases (show tg = 0 ∨ tg = 1 ∨ tg = 2 ∨ tg = 3 ∨ tg = 4 ∨ tg = 5 ∨ tg = 6 ∨ tg = 7 ∨ tg = 8 ∨ tg = 9 ∨ tg = 10 ∨ tg = 11 ∨ tg = 12 ∨ tg = 13 ∨ tg = 14 ∨ tg = 15 by omega) with rfl | rfl | rfl | rfl | rfl | rfl | rfl | rfl | rfl | rfl | rfl | rfl | rfl | rfl | rfl | rfl
      · have HC := hide (lklink_any hB.fo (zz) u0 by_ wz hB.p)
        have hcc : ((Sp.lkE n U (zz) u0) == (Sp.lkE n U (zz) u0)) = true := by simp
        go_wp2_with fail
        go_at_call 8
        refine (unhide HC).mono ?_
        rintro e w1 ⟨rfl, hp1, hb1⟩
        have hr1 := hB.r.bt hb1 (fun e => hB.gx e.symm) (fun e => hB.go_ e.symm) (fun e => hB.gc e.symm)
        have HC2 := hide (lkrlink_any hB.fo (zz) u0 by_ w1 hr1)
        have H1 := hide (And.intro hp1 hb1)
        have HBh := hide hB
        generalize hcode : Sp.lkE n U (zz) u0 = cd at *
        clear HC hp1 hb1 hr1 hB hcode
        go_wp2_with fail
        go_at_call 16
        refine (unhide HC2).mono ?_
        rintro e w2 ⟨rfl, hr2, hb2⟩
        have HE : Hid (LkB w2 f g x o c n co cw (Sp.lkU n U (zz) u0) (Sp.lkW n U W (zz) u0 by_) ∧ Bt (fun b => b = g ∨ b = o ∨ b = c) w w2) := hide ⟨⟨(unhide H1).1.bt hb2 (fun e => e.elim (unhide HBh).fo_ (unhide HBh).fc) (fun e => e.elim (unhide HBh).go_ (unhide HBh).gc), hr2, (unhide HBh).gx, (unhide HBh).go_, (unhide HBh).gc, (unhide HBh).fo_, (unhide HBh).fc, (unhide HBh).fo.lk (zz) u0⟩, ((unhide Hwz).trans ((unhide H1).2.mono (fun _ _ e => .inl e))).trans (hb2.mono (fun _ _ e => .inr e))⟩
        clear HC2 H1 HBh hr2 hb2 Hwz
        go_wp2
        rw [unhide HP]
        exact ⟨rfl, (Sp.lkU n U (zz) u0), (Sp.lkW n U W (zz) u0 by_), unhide HE⟩
      · have HC := hide (lklink_any hB.fo (zz) u0 by_ wz hB.p)
        have hcc : ((Sp.lkE n U (zz) u0) == (Sp.lkE n U (zz) u0)) = true := by simp
        go_wp2_with fail
        go_at_call 8
        refine (unhide HC).mono ?_
        rintro e w1 ⟨rfl, hp1, hb1⟩
        have hr1 := hB.r.bt hb1 (fun e => hB.gx e.symm) (fun e => hB.go_ e.symm) (fun e => hB.gc e.symm)
        have HC2 := hide (lkrlink_any hB.fo (zz) u0 by_ w1 hr1)
        have H1 := hide (And.intro hp1 hb1)
        have HBh := hide hB
        generalize hcode : Sp.lkE n U (zz) u0 = cd at *
        clear HC hp1 hb1 hr1 hB hcode
        go_wp2_with fail
        go_at_call 16
        refine (unhide HC2).mono ?_
        rintro e w2 ⟨rfl, hr2, hb2⟩
        have HE : Hid (LkB w2 f g x o c n co cw (Sp.lkU n U (zz) u0) (Sp.lkW n U W (zz) u0 by_) ∧ Bt (fun b => b = g ∨ b = o ∨ b = c) w w2) := hide ⟨⟨(unhide H1).1.bt hb2 (fun e => e.elim (unhide HBh).fo_ (unhide HBh).fc) (fun e => e.elim (unhide HBh).go_ (unhide HBh).gc), hr2, (unhide HBh).gx, (unhide HBh).go_, (unhide HBh).gc, (unhide HBh).fo_, (unhide HBh).fc, (unhide HBh).fo.lk (zz) u0⟩, ((unhide Hwz).trans ((unhide H1).2.mono (fun _ _ e => .inl e))).trans (hb2.mono (fun _ _ e => .inr e))⟩
        clear HC2 H1 HBh hr2 hb2 Hwz
        go_wp2
        rw [unhide HP]
        exact ⟨rfl, (Sp.lkU n U (zz) u0), (Sp.lkW n U W (zz) u0 by_), unhide HE⟩
      · have HC := hide (lklink_any hB.fo (zz) u0 by_ wz hB.p)
        have hcc : ((Sp.lkE n U (zz) u0) == (Sp.lkE n U (zz) u0)) = true := by simp
        go_wp2_with fail
        go_at_call 8
        refine (unhide HC).mono ?_
        rintro e w1 ⟨rfl, hp1, hb1⟩
        have hr1 := hB.r.bt hb1 (fun e => hB.gx e.symm) (fun e => hB.go_ e.symm) (fun e => hB.gc e.symm)
        have HC2 := hide (lkrlink_any hB.fo (zz) u0 by_ w1 hr1)
        have H1 := hide (And.intro hp1 hb1)
        have HBh := hide hB
        generalize hcode : Sp.lkE n U (zz) u0 = cd at *
        clear HC hp1 hb1 hr1 hB hcode
        go_wp2_with fail
        go_at_call 16
        refine (unhide HC2).mono ?_
        rintro e w2 ⟨rfl, hr2, hb2⟩
        have HE : Hid (LkB w2 f g x o c n co cw (Sp.lkU n U (zz) u0) (Sp.lkW n U W (zz) u0 by_) ∧ Bt (fun b => b = g ∨ b = o ∨ b = c) w w2) := hide ⟨⟨(unhide H1).1.bt hb2 (fun e => e.elim (unhide HBh).fo_ (unhide HBh).fc) (fun e => e.elim (unhide HBh).go_ (unhide HBh).gc), hr2, (unhide HBh).gx, (unhide HBh).go_, (unhide HBh).gc, (unhide HBh).fo_, (unhide HBh).fc, (unhide HBh).fo.lk (zz) u0⟩, ((unhide Hwz).trans ((unhide H1).2.mono (fun _ _ e => .inl e))).trans (hb2.mono (fun _ _ e => .inr e))⟩
        clear HC2 H1 HBh hr2 hb2 Hwz
        go_wp2
        rw [unhide HP]
        exact ⟨rfl, (Sp.lkU n U (zz) u0), (Sp.lkW n U W (zz) u0 by_), unhide HE⟩
      · have HC := hide (lklink_any hB.fo (zz) u0 by_ wz hB.p)
        have hcc : ((Sp.lkE n U (zz) u0) == (Sp.lkE n U (zz) u0)) = true := by simp
        go_wp2_with fail
        go_at_call 8
        refine (unhide HC).mono ?_
        rintro e w1 ⟨rfl, hp1, hb1⟩
        have hr1 := hB.r.bt hb1 (fun e => hB.gx e.symm) (fun e => hB.go_ e.symm) (fun e => hB.gc e.symm)
        have HC2 := hide (lkrlink_any hB.fo (zz) u0 by_ w1 hr1)
        have H1 := hide (And.intro hp1 hb1)
        have HBh := hide hB
        generalize hcode : Sp.lkE n U (zz) u0 = cd at *
        clear HC hp1 hb1 hr1 hB hcode
        go_wp2_with fail
        go_at_call 16
        refine (unhide HC2).mono ?_
        rintro e w2 ⟨rfl, hr2, hb2⟩
        have HE : Hid (LkB w2 f g x o c n co cw (Sp.lkU n U (zz) u0) (Sp.lkW n U W (zz) u0 by_) ∧ Bt (fun b => b = g ∨ b = o ∨ b = c) w w2) := hide ⟨⟨(unhide H1).1.bt hb2 (fun e => e.elim (unhide HBh).fo_ (unhide HBh).fc) (fun e => e.elim (unhide HBh).go_ (unhide HBh).gc), hr2, (unhide HBh).gx, (unhide HBh).go_, (unhide HBh).gc, (unhide HBh).fo_, (unhide HBh).fc, (unhide HBh).fo.lk (zz) u0⟩, ((unhide Hwz).trans ((unhide H1).2.mono (fun _ _ e => .inl e))).trans (hb2.mono (fun _ _ e => .inr e))⟩
        clear HC2 H1 HBh hr2 hb2 Hwz
        go_wp2
        rw [unhide HP]
        exact ⟨rfl, (Sp.lkU n U (zz) u0), (Sp.lkW n U W (zz) u0 by_), unhide HE⟩
      · have HC := hide (lklink_any hB.fo (zz) u0 by_ wz hB.p)
        have hcc : ((Sp.lkE n U (zz) u0) == (Sp.lkE n U (zz) u0)) = true := by simp
        go_wp2_with fail
        go_at_call 8
        refine (unhide HC).mono ?_
        rintro e w1 ⟨rfl, hp1, hb1⟩
        have hr1 := hB.r.bt hb1 (fun e => hB.gx e.symm) (fun e => hB.go_ e.symm) (fun e => hB.gc e.symm)
        have HC2 := hide (lkrlink_any hB.fo (zz) u0 by_ w1 hr1)
        have H1 := hide (And.intro hp1 hb1)
        have HBh := hide hB
        generalize hcode : Sp.lkE n U (zz) u0 = cd at *
        clear HC hp1 hb1 hr1 hB hcode
        go_wp2_with fail
        go_at_call 16
        refine (unhide HC2).mono ?_
        rintro e w2 ⟨rfl, hr2, hb2⟩
        have HE : Hid (LkB w2 f g x o c n co cw (Sp.lkU n U (zz) u0) (Sp.lkW n U W (zz) u0 by_) ∧ Bt (fun b => b = g ∨ b = o ∨ b = c) w w2) := hide ⟨⟨(unhide H1).1.bt hb2 (fun e => e.elim (unhide HBh).fo_ (unhide HBh).fc) (fun e => e.elim (unhide HBh).go_ (unhide HBh).gc), hr2, (unhide HBh).gx, (unhide HBh).go_, (unhide HBh).gc, (unhide HBh).fo_, (unhide HBh).fc, (unhide HBh).fo.lk (zz) u0⟩, ((unhide Hwz).trans ((unhide H1).2.mono (fun _ _ e => .inl e))).trans (hb2.mono (fun _ _ e => .inr e))⟩
        clear HC2 H1 HBh hr2 hb2 Hwz
        go_wp2
        rw [unhide HP]
        exact ⟨rfl, (Sp.lkU n U (zz) u0), (Sp.lkW n U W (zz) u0 by_), unhide HE⟩
      · have HC := hide (lkcut_any (zz) wz hB.p)
        have hcc : ((Sp.ctE n U (zz)) == (Sp.ctE n U (zz))) = true := by simp
        go_wp2_with fail
        go_at_call 12
        refine (unhide HC).mono ?_
        rintro e w1 ⟨rfl, hp1, hb1⟩
        have hr1 := hB.r.bt hb1 (fun e => hB.gx e.symm) (fun e => hB.go_ e.symm) (fun e => hB.gc e.symm)
        have HC2 := hide (lkrcut_any hB.fo (zz) w1 hr1)
        have H1 := hide (And.intro hp1 hb1)
        have HBh := hide hB
        generalize hcode : Sp.ctE n U (zz) = cd at *
        clear HC hp1 hb1 hr1 hB hcode
        go_wp2_with fail
        go_at_call 28
        refine (unhide HC2).mono ?_
        rintro e w2 ⟨rfl, hr2, hb2⟩
        have HE : Hid (LkB w2 f g x o c n co cw (Sp.ctU n U (zz)) (Sp.ctW n U W (zz)) ∧ Bt (fun b => b = g ∨ b = o ∨ b = c) w w2) := hide ⟨⟨(unhide H1).1.bt hb2 (fun e => e.elim (unhide HBh).fo_ (unhide HBh).fc) (fun e => e.elim (unhide HBh).go_ (unhide HBh).gc), hr2, (unhide HBh).gx, (unhide HBh).go_, (unhide HBh).gc, (unhide HBh).fo_, (unhide HBh).fc, (unhide HBh).fo.ct (zz)⟩, ((unhide Hwz).trans ((unhide H1).2.mono (fun _ _ e => .inl e))).trans (hb2.mono (fun _ _ e => .inr e))⟩
        clear HC2 H1 HBh hr2 hb2 Hwz
        go_wp2
        rw [unhide HP]
        exact ⟨rfl, (Sp.ctU n U (zz)), (Sp.ctW n U W (zz)), unhide HE⟩
      · have HC := hide (lkroot_any hB.fo (zz) wz hB.p)
        have HC2 := hide (fun w' (hb : Below wz.heap.size wz w') => lkrroot_any hB.fo (zz) w' (hB.r.below hb))
        have HBh := hide hB
        clear hB
        generalize Sp.rt n U (zz) = q0 at *
        have hq0 : (q0 == q0) = true := by simp
        go_wp2_with fail
        go_at_call 13
        refine (unhide HC).mono ?_
        rintro e w1 ⟨rfl, hw⟩
        have hb1 : Below wz.heap.size wz w1 := by rw [hw]; exact Below.refl _ _
        have HC3 := hide (unhide HC2 w1 hb1)
        have H1 := hide hb1
        clear HC HC2 hw hb1
        go_wp2_with fail
        go_at_call 25
        refine (unhide HC3).mono ?_
        rintro e w2 ⟨rfl, hw⟩
        have hb2 : Below w1.heap.size w1 w2 := by rw [hw]; exact Below.refl _ _
        have HE : Hid (LkB w2 f g x o c n co cw U W ∧ Bt (fun b => b = g ∨ b = o ∨ b = c) w w2) := hide ⟨(unhide HBh).below ((unhide H1).trans (hb2.mono (unhide H1).size)), (unhide Hwz).trans (Bt.of ((unhide H1).trans (hb2.mono (unhide H1).size)))⟩
        clear HC3 H1 HBh hw hb2 Hwz
        go_wp2
        rw [unhide HP]
        exact ⟨rfl, U, W, unhide HE⟩
      · have HC := hide (lkroot_any hB.fo (zz) wz hB.p)
        have HC2 := hide (fun w' (hb : Below wz.heap.size wz w') => lkrroot_any hB.fo (zz) w' (hB.r.below hb))
        have HBh := hide hB
        clear hB
        generalize Sp.rt n U (zz) = q0 at *
        have hq0 : (q0 == q0) = true := by simp
        go_wp2_with fail
        go_at_call 13
        refine (unhide HC).mono ?_
        rintro e w1 ⟨rfl, hw⟩
        have hb1 : Below wz.heap.size wz w1 := by rw [hw]; exact Below.refl _ _
        have HC3 := hide (unhide HC2 w1 hb1)
        have H1 := hide hb1
        clear HC HC2 hw hb1
        go_wp2_with fail
        go_at_call 25
        refine (unhide HC3).mono ?_
        rintro e w2 ⟨rfl, hw⟩
        have hb2 : Below w1.heap.size w1 w2 := by rw [hw]; exact Below.refl _ _
        have HE : Hid (LkB w2 f g x o c n co cw U W ∧ Bt (fun b => b = g ∨ b = o ∨ b = c) w w2) := hide ⟨(unhide HBh).below ((unhide H1).trans (hb2.mono (unhide H1).size)), (unhide Hwz).trans (Bt.of ((unhide H1).trans (hb2.mono (unhide H1).size)))⟩
        clear HC3 H1 HBh hw hb2 Hwz
        go_wp2
        rw [unhide HP]
        exact ⟨rfl, U, W, unhide HE⟩
      · have HC := hide (lkturn_any hB.fo (zz) wz hB.p)
        have hcc : ((Sp.hs n (zz)) == (Sp.hs n (zz))) = true := by simp
        go_wp2_with fail
        go_at_call 11
        refine (unhide HC).mono ?_
        rintro e w1 ⟨rfl, hp1, hb1⟩
        have hr1 := hB.r.bt hb1 (fun e => hB.gx e.symm) (fun e => hB.go_ e.symm) (fun e => hB.gc e.symm)
        have HC2 := hide (lkrturn_any hB.fo (zz) w1 hr1)
        have H1 := hide (And.intro hp1 hb1)
        have HBh := hide hB
        generalize hcode : Sp.hs n (zz) = cd at *
        clear HC hp1 hb1 hr1 hB hcode
        go_wp2_with fail
        go_at_call 29
        refine (unhide HC2).mono ?_
        rintro e w2 ⟨rfl, hr2, hb2⟩
        have HE : Hid (LkB w2 f g x o c n co cw (Sp.tn n U W (zz)).1 (Sp.tn n U W (zz)).2 ∧ Bt (fun b => b = g ∨ b = o ∨ b = c) w w2) := hide ⟨⟨(unhide H1).1.bt hb2 (fun e => e.elim (unhide HBh).fo_ (unhide HBh).fc) (fun e => e.elim (unhide HBh).go_ (unhide HBh).gc), hr2, (unhide HBh).gx, (unhide HBh).go_, (unhide HBh).gc, (unhide HBh).fo_, (unhide HBh).fc, (unhide HBh).fo.tn W (zz)⟩, ((unhide Hwz).trans ((unhide H1).2.mono (fun _ _ e => .inl e))).trans (hb2.mono (fun _ _ e => .inr e))⟩
        clear HC2 H1 HBh hr2 hb2 Hwz
        go_wp2
        rw [unhide HP]
        exact ⟨rfl, (Sp.tn n U W (zz)).1, (Sp.tn n U W (zz)).2, unhide HE⟩
      · have HC := hide (lkturn_any hB.fo (zz) wz hB.p)
        have hcc : ((Sp.hs n (zz)) == (Sp.hs n (zz))) = true := by simp
        go_wp2_with fail
        go_at_call 11
        refine (unhide HC).mono ?_
        rintro e w1 ⟨rfl, hp1, hb1⟩
        have hr1 := hB.r.bt hb1 (fun e => hB.gx e.symm) (fun e => hB.go_ e.symm) (fun e => hB.gc e.symm)
        have HC2 := hide (lkrturn_any hB.fo (zz) w1 hr1)
        have H1 := hide (And.intro hp1 hb1)
        have HBh := hide hB
        generalize hcode : Sp.hs n (zz) = cd at *
        clear HC hp1 hb1 hr1 hB hcode
        go_wp2_with fail
        go_at_call 29
        refine (unhide HC2).mono ?_
        rintro e w2 ⟨rfl, hr2, hb2⟩
        have HE : Hid (LkB w2 f g x o c n co cw (Sp.tn n U W (zz)).1 (Sp.tn n U W (zz)).2 ∧ Bt (fun b => b = g ∨ b = o ∨ b = c) w w2) := hide ⟨⟨(unhide H1).1.bt hb2 (fun e => e.elim (unhide HBh).fo_ (unhide HBh).fc) (fun e => e.elim (unhide HBh).go_ (unhide HBh).gc), hr2, (unhide HBh).gx, (unhide HBh).go_, (unhide HBh).gc, (unhide HBh).fo_, (unhide HBh).fc, (unhide HBh).fo.tn W (zz)⟩, ((unhide Hwz).trans ((unhide H1).2.mono (fun _ _ e => .inl e))).trans (hb2.mono (fun _ _ e => .inr e))⟩
        clear HC2 H1 HBh hr2 hb2 Hwz
        go_wp2
        rw [unhide HP]
        exact ⟨rfl, (Sp.tn n U W (zz)).1, (Sp.tn n U W (zz)).2, unhide HE⟩
      · have HC := hide (lkadd_any hB.fo (zz) by_ wz hB.p)
        have hcc : ((Sp.hs n (zz)) == (Sp.hs n (zz))) = true := by simp
        go_wp2_with fail
        go_at_call 30
        refine (unhide HC).mono ?_
        rintro e w1 ⟨rfl, hp1, hb1⟩
        have hr1 := hB.r.bt hb1 (fun e => hB.gx e.symm) (fun e => hB.go_ e.symm) (fun e => hB.gc e.symm)
        have HC2 := hide (lkradd_any hB.fo (zz) by_ w1 hr1)
        have H1 := hide (And.intro hp1 hb1)
        have HBh := hide hB
        generalize hcode : Sp.hs n (zz) = cd at *
        clear HC hp1 hb1 hr1 hB hcode
        go_wp2_with fail
        go_at_call 31
        refine (unhide HC2).mono ?_
        rintro e w2 ⟨rfl, hr2, hb2⟩
        have HE : Hid (LkB w2 f g x o c n co cw U (Sp.ad n U W (zz) by_) ∧ Bt (fun b => b = g ∨ b = o ∨ b = c) w w2) := hide ⟨⟨(unhide H1).1.bt hb2 (fun e => e.elim (unhide HBh).fo_ (unhide HBh).fc) (fun e => e.elim (unhide HBh).go_ (unhide HBh).gc), hr2, (unhide HBh).gx, (unhide HBh).go_, (unhide HBh).gc, (unhide HBh).fo_, (unhide HBh).fc, (unhide HBh).fo⟩, ((unhide Hwz).trans ((unhide H1).2.mono (fun _ _ e => .inl e))).trans (hb2.mono (fun _ _ e => .inr e))⟩
        clear HC2 H1 HBh hr2 hb2 Hwz
        go_wp2
        rw [unhide HP]
        exact ⟨rfl, U, (Sp.ad n U W (zz) by_), unhide HE⟩
      · have HC := hide (lkadd_any hB.fo (zz) by_ wz hB.p)
        have hcc : ((Sp.hs n (zz)) == (Sp.hs n (zz))) = true := by simp
        go_wp2_with fail
        go_at_call 30
        refine (unhide HC).mono ?_
        rintro e w1 ⟨rfl, hp1, hb1⟩
        have hr1 := hB.r.bt hb1 (fun e => hB.gx e.symm) (fun e => hB.go_ e.symm) (fun e => hB.gc e.symm)
        have HC2 := hide (lkradd_any hB.fo (zz) by_ w1 hr1)
        have H1 := hide (And.intro hp1 hb1)
        have HBh := hide hB
        generalize hcode : Sp.hs n (zz) = cd at *
        clear HC hp1 hb1 hr1 hB hcode
        go_wp2_with fail
        go_at_call 31
        refine (unhide HC2).mono ?_
        rintro e w2 ⟨rfl, hr2, hb2⟩
        have HE : Hid (LkB w2 f g x o c n co cw U (Sp.ad n U W (zz) by_) ∧ Bt (fun b => b = g ∨ b = o ∨ b = c) w w2) := hide ⟨⟨(unhide H1).1.bt hb2 (fun e => e.elim (unhide HBh).fo_ (unhide HBh).fc) (fun e => e.elim (unhide HBh).go_ (unhide HBh).gc), hr2, (unhide HBh).gx, (unhide HBh).go_, (unhide HBh).gc, (unhide HBh).fo_, (unhide HBh).fc, (unhide HBh).fo⟩, ((unhide Hwz).trans ((unhide H1).2.mono (fun _ _ e => .inl e))).trans (hb2.mono (fun _ _ e => .inr e))⟩
        clear HC2 H1 HBh hr2 hb2 Hwz
        go_wp2
        rw [unhide HP]
        exact ⟨rfl, U, (Sp.ad n U W (zz) by_), unhide HE⟩
      · have HC := hide (lkleast_any hB.fo (zz) wz hB.p)
        have HC2 := hide (fun w' (hb : Below wz.heap.size wz w') => lkrleast_any hB.fo (zz) w' (hB.r.below hb))
        have HBh := hide hB
        clear hB
        generalize (if Sp.hg n U (zz) = true then ((Sp.ls U W (zz) : Nat) : Int) else 0) = q0 at *
        have hq0 : (q0 == q0) = true := by simp
        generalize (if Sp.hg n U (zz) = true then W (Sp.ls U W (zz)) else 0) = q1 at *
        have hq1 : (q1 == q1) = true := by simp
        generalize Sp.hg n U (zz) = q2 at *
        have hq2 : (q2 == q2) = true := by simp
        go_wp2_with fail
        go_at_call 10
        refine (unhide HC).mono ?_
        rintro e w1 ⟨rfl, hw⟩
        have hb1 : Below wz.heap.size wz w1 := hw
        have HC3 := hide (unhide HC2 w1 hb1)
        have H1 := hide hb1
        clear HC HC2 hw hb1
        go_wp2_with fail
        go_at_call 32
        refine (unhide HC3).mono ?_
        rintro e w2 ⟨rfl, hw⟩
        have hb2 : Below w1.heap.size w1 w2 := hw
        have HE : Hid (LkB w2 f g x o c n co cw U W ∧ Bt (fun b => b = g ∨ b = o ∨ b = c) w w2) := hide ⟨(unhide HBh).below ((unhide H1).trans (hb2.mono (unhide H1).size)), (unhide Hwz).trans (Bt.of ((unhide H1).trans (hb2.mono (unhide H1).size)))⟩
        clear HC3 H1 HBh hw hb2 Hwz
        go_wp2
        rw [unhide HP]
        exact ⟨rfl, U, W, unhide HE⟩
      · have HC := hide (lkleast_any hB.fo (zz) wz hB.p)
        have HC2 := hide (fun w' (hb : Below wz.heap.size wz w') => lkrleast_any hB.fo (zz) w' (hB.r.below hb))
        have HBh := hide hB
        clear hB
        generalize (if Sp.hg n U (zz) = true then ((Sp.ls U W (zz) : Nat) : Int) else 0) = q0 at *
        have hq0 : (q0 == q0) = true := by simp
        generalize (if Sp.hg n U (zz) = true then W (Sp.ls U W (zz)) else 0) = q1 at *
        have hq1 : (q1 == q1) = true := by simp
        generalize Sp.hg n U (zz) = q2 at *
        have hq2 : (q2 == q2) = true := by simp
        go_wp2_with fail
        go_at_call 10
        refine (unhide HC).mono ?_
        rintro e w1 ⟨rfl, hw⟩
        have hb1 : Below wz.heap.size wz w1 := hw
        have HC3 := hide (unhide HC2 w1 hb1)
        have H1 := hide hb1
        clear HC HC2 hw hb1
        go_wp2_with fail
        go_at_call 32
        refine (unhide HC3).mono ?_
        rintro e w2 ⟨rfl, hw⟩
        have hb2 : Below w1.heap.size w1 w2 := hw
        have HE : Hid (LkB w2 f g x o c n co cw U W ∧ Bt (fun b => b = g ∨ b = o ∨ b = c) w w2) := hide ⟨(unhide HBh).below ((unhide H1).trans (hb2.mono (unhide H1).size)), (unhide Hwz).trans (Bt.of ((unhide H1).trans (hb2.mono (unhide H1).size)))⟩
        clear HC3 H1 HBh hw hb2 Hwz
        go_wp2
        rw [unhide HP]
        exact ⟨rfl, U, W, unhide HE⟩
      · have HC := hide (lkweight_any (zz) wz hB.p)
        have HC2 := hide (fun w' (hb : Below wz.heap.size wz w') => lkrweight_any hB.fo (zz) w' (hB.r.below hb))
        have HBh := hide hB
        clear hB
        generalize (if Sp.hg n U (zz) = true then W ((zz) : Int).toNat else 0) = q0 at *
        have hq0 : (q0 == q0) = true := by simp
        generalize Sp.hg n U (zz) = q1 at *
        have hq1 : (q1 == q1) = true := by simp
        go_wp2_with fail
        go_at_call 18
        refine (unhide HC).mono ?_
        rintro e w1 ⟨rfl, hw⟩
        have hb1 : Below wz.heap.size wz w1 := by rw [hw]; exact Below.refl _ _
        have HC3 := hide (unhide HC2 w1 hb1)
        have H1 := hide hb1
        clear HC HC2 hw hb1
        go_wp2_with fail
        go_at_call 27
        refine (unhide HC3).mono ?_
        rintro e w2 ⟨rfl, hw⟩
        have hb2 : Below w1.heap.size w1 w2 := by rw [hw]; exact Below.refl _ _
        have HE : Hid (LkB w2 f g x o c n co cw U W ∧ Bt (fun b => b = g ∨ b = o ∨ b = c) w w2) := hide ⟨(unhide HBh).below ((unhide H1).trans (hb2.mono (unhide H1).size)), (unhide Hwz).trans (Bt.of ((unhide H1).trans (hb2.mono (unhide H1).size)))⟩
        clear HC3 H1 HBh hw hb2 Hwz
        go_wp2
        rw [unhide HP]
        exact ⟨rfl, U, W, unhide HE⟩
      · have HC := hide (lkup_any (zz) wz hB.p)
        have HC2 := hide (fun w' (hb : Below wz.heap.size wz w') => lkrup_any hB.fo (zz) w' (hB.r.below hb))
        have HBh := hide hB
        clear hB
        generalize (if Sp.hg n U (zz) = true then U ((zz) : Int).toNat else 0) = q0 at *
        have hq0 : (q0 == q0) = true := by simp
        generalize Sp.hg n U (zz) = q1 at *
        have hq1 : (q1 == q1) = true := by simp
        go_wp2_with fail
        go_at_call 17
        refine (unhide HC).mono ?_
        rintro e w1 ⟨rfl, hw⟩
        have hb1 : Below wz.heap.size wz w1 := by rw [hw]; exact Below.refl _ _
        have HC3 := hide (unhide HC2 w1 hb1)
        have H1 := hide hb1
        clear HC HC2 hw hb1
        go_wp2_with fail
        go_at_call 26
        refine (unhide HC3).mono ?_
        rintro e w2 ⟨rfl, hw⟩
        have hb2 : Below w1.heap.size w1 w2 := by rw [hw]; exact Below.refl _ _
        have HE : Hid (LkB w2 f g x o c n co cw U W ∧ Bt (fun b => b = g ∨ b = o ∨ b = c) w w2) := hide ⟨(unhide HBh).below ((unhide H1).trans (hb2.mono (unhide H1).size)), (unhide Hwz).trans (Bt.of ((unhide H1).trans (hb2.mono (unhide H1).size)))⟩
        clear HC3 H1 HBh hw hb2 Hwz
        go_wp2
        rw [unhide HP]
        exact ⟨rfl, U, W, unhide HE⟩
    · have h53b : ((m53 : Int) == 0) = false := beq_eq_false_iff_ne.2 (by omega)
      go_upto_region 5 with fail
      obtain ⟨wz, hwz⟩ : ∃ wz, wz = wx := ⟨_, rfl⟩
      subst hwz
      have hB := (unhide H).below (unhide HX)
      have Hwz : Hid (Bt (fun b => b = g ∨ b = o ∨ b = c) w wz) := hide (Bt.of (unhide HX))
      obtain ⟨u0, hu0⟩ : ∃ u0 : Int, (u1 : Int) = u0 := ⟨_, rfl⟩
      obtain ⟨zz, hz2⟩ : ∃ zz : Int, (v0 : Int) = zz := ⟨_, rfl⟩
      obtain ⟨by_, hby⟩ : ∃ by_ : Int, (j4 : Int) - 10 = by_ := ⟨_, rfl⟩
      rw [hu0, hz2]
      clear hu0 hz2 HX H e0 e2 e3 e4 e5 e6 e7 hzz
      rcases (show tg = 0 ∨ tg = 1 ∨ tg = 2 ∨ tg = 3 ∨ tg = 4 ∨ tg = 5 ∨ tg = 6 ∨ tg = 7 ∨ tg = 8 ∨ tg = 9 ∨ tg = 10 ∨ tg = 11 ∨ tg = 12 ∨ tg = 13 ∨ tg = 14 ∨ tg = 15 by omega) with rfl | rfl | rfl | rfl | rfl | rfl | rfl | rfl | rfl | rfl | rfl | rfl | rfl | rfl | rfl | rfl
      · have HC := hide (lklink_any hB.fo (zz) u0 by_ wz hB.p)
        have hcc : ((Sp.lkE n U (zz) u0) == (Sp.lkE n U (zz) u0)) = true := by simp
        go_wp2_with fail
        go_at_call 8
        refine (unhide HC).mono ?_
        rintro e w1 ⟨rfl, hp1, hb1⟩
        have hr1 := hB.r.bt hb1 (fun e => hB.gx e.symm) (fun e => hB.go_ e.symm) (fun e => hB.gc e.symm)
        have HC2 := hide (lkrlink_any hB.fo (zz) u0 by_ w1 hr1)
        have H1 := hide (And.intro hp1 hb1)
        have HBh := hide hB
        generalize hcode : Sp.lkE n U (zz) u0 = cd at *
        clear HC hp1 hb1 hr1 hB hcode
        go_wp2_with fail
        go_at_call 16
        refine (unhide HC2).mono ?_
        rintro e w2 ⟨rfl, hr2, hb2⟩
        have HE : Hid (LkB w2 f g x o c n co cw (Sp.lkU n U (zz) u0) (Sp.lkW n U W (zz) u0 by_) ∧ Bt (fun b => b = g ∨ b = o ∨ b = c) w w2) := hide ⟨⟨(unhide H1).1.bt hb2 (fun e => e.elim (unhide HBh).fo_ (unhide HBh).fc) (fun e => e.elim (unhide HBh).go_ (unhide HBh).gc), hr2, (unhide HBh).gx, (unhide HBh).go_, (unhide HBh).gc, (unhide HBh).fo_, (unhide HBh).fc, (unhide HBh).fo.lk (zz) u0⟩, ((unhide Hwz).trans ((unhide H1).2.mono (fun _ _ e => .inl e))).trans (hb2.mono (fun _ _ e => .inr e))⟩
        clear HC2 H1 HBh hr2 hb2 Hwz
        go_wp2
        rw [unhide HP]
        exact ⟨rfl, (Sp.lkU n U (zz) u0), (Sp.lkW n U W (zz) u0 by_), unhide HE⟩
      · have HC := hide (lklink_any hB.fo (zz) u0 by_ wz hB.p)
        have hcc : ((Sp.lkE n U (zz) u0) == (Sp.lkE n U (zz) u0)) = true := by simp
        go_wp2_with fail
        go_at_call 8
        refine (unhide HC).mono ?_
        rintro e w1 ⟨rfl, hp1, hb1⟩
        have hr1 := hB.r.bt hb1 (fun e => hB.gx e.symm) (fun e => hB.go_ e.symm) (fun e => hB.gc e.symm)
        have HC2 := hide (lkrlink_any hB.fo (zz) u0 by_ w1 hr1)
        have H1 := hide (And.intro hp1 hb1)
        have HBh := hide hB
        generalize hcode : Sp.lkE n U (zz) u0 = cd at *
        clear HC hp1 hb1 hr1 hB hcode
        go_wp2_with fail
        go_at_call 16
        refine (unhide HC2).mono ?_
        rintro e w2 ⟨rfl, hr2, hb2⟩
        have HE : Hid (LkB w2 f g x o c n co cw (Sp.lkU n U (zz) u0) (Sp.lkW n U W (zz) u0 by_) ∧ Bt (fun b => b = g ∨ b = o ∨ b = c) w w2) := hide ⟨⟨(unhide H1).1.bt hb2 (fun e => e.elim (unhide HBh).fo_ (unhide HBh).fc) (fun e => e.elim (unhide HBh).go_ (unhide HBh).gc), hr2, (unhide HBh).gx, (unhide HBh).go_, (unhide HBh).gc, (unhide HBh).fo_, (unhide HBh).fc, (unhide HBh).fo.lk (zz) u0⟩, ((unhide Hwz).trans ((unhide H1).2.mono (fun _ _ e => .inl e))).trans (hb2.mono (fun _ _ e => .inr e))⟩
        clear HC2 H1 HBh hr2 hb2 Hwz
        go_wp2
        rw [unhide HP]
        exact ⟨rfl, (Sp.lkU n U (zz) u0), (Sp.lkW n U W (zz) u0 by_), unhide HE⟩
      · have HC := hide (lklink_any hB.fo (zz) u0 by_ wz hB.p)
        have hcc : ((Sp.lkE n U (zz) u0) == (Sp.lkE n U (zz) u0)) = true := by simp
        go_wp2_with fail
        go_at_call 8
        refine (unhide HC).mono ?_
        rintro e w1 ⟨rfl, hp1, hb1⟩
        have hr1 := hB.r.bt hb1 (fun e => hB.gx e.symm) (fun e => hB.go_ e.symm) (fun e => hB.gc e.symm)
        have HC2 := hide (lkrlink_any hB.fo (zz) u0 by_ w1 hr1)
        have H1 := hide (And.intro hp1 hb1)
        have HBh := hide hB
        generalize hcode : Sp.lkE n U (zz) u0 = cd at *
        clear HC hp1 hb1 hr1 hB hcode
        go_wp2_with fail
        go_at_call 16
        refine (unhide HC2).mono ?_
        rintro e w2 ⟨rfl, hr2, hb2⟩
        have HE : Hid (LkB w2 f g x o c n co cw (Sp.lkU n U (zz) u0) (Sp.lkW n U W (zz) u0 by_) ∧ Bt (fun b => b = g ∨ b = o ∨ b = c) w w2) := hide ⟨⟨(unhide H1).1.bt hb2 (fun e => e.elim (unhide HBh).fo_ (unhide HBh).fc) (fun e => e.elim (unhide HBh).go_ (unhide HBh).gc), hr2, (unhide HBh).gx, (unhide HBh).go_, (unhide HBh).gc, (unhide HBh).fo_, (unhide HBh).fc, (unhide HBh).fo.lk (zz) u0⟩, ((unhide Hwz).trans ((unhide H1).2.mono (fun _ _ e => .inl e))).trans (hb2.mono (fun _ _ e => .inr e))⟩
        clear HC2 H1 HBh hr2 hb2 Hwz
        go_wp2
        rw [unhide HP]
        exact ⟨rfl, (Sp.lkU n U (zz) u0), (Sp.lkW n U W (zz) u0 by_), unhide HE⟩
      · have HC := hide (lklink_any hB.fo (zz) u0 by_ wz hB.p)
        have hcc : ((Sp.lkE n U (zz) u0) == (Sp.lkE n U (zz) u0)) = true := by simp
        go_wp2_with fail
        go_at_call 8
        refine (unhide HC).mono ?_
        rintro e w1 ⟨rfl, hp1, hb1⟩
        have hr1 := hB.r.bt hb1 (fun e => hB.gx e.symm) (fun e => hB.go_ e.symm) (fun e => hB.gc e.symm)
        have HC2 := hide (lkrlink_any hB.fo (zz) u0 by_ w1 hr1)
        have H1 := hide (And.intro hp1 hb1)
        have HBh := hide hB
        generalize hcode : Sp.lkE n U (zz) u0 = cd at *
        clear HC hp1 hb1 hr1 hB hcode
        go_wp2_with fail
        go_at_call 16
        refine (unhide HC2).mono ?_
        rintro e w2 ⟨rfl, hr2, hb2⟩
        have HE : Hid (LkB w2 f g x o c n co cw (Sp.lkU n U (zz) u0) (Sp.lkW n U W (zz) u0 by_) ∧ Bt (fun b => b = g ∨ b = o ∨ b = c) w w2) := hide ⟨⟨(unhide H1).1.bt hb2 (fun e => e.elim (unhide HBh).fo_ (unhide HBh).fc) (fun e => e.elim (unhide HBh).go_ (unhide HBh).gc), hr2, (unhide HBh).gx, (unhide HBh).go_, (unhide HBh).gc, (unhide HBh).fo_, (unhide HBh).fc, (unhide HBh).fo.lk (zz) u0⟩, ((unhide Hwz).trans ((unhide H1).2.mono (fun _ _ e => .inl e))).trans (hb2.mono (fun _ _ e => .inr e))⟩
        clear HC2 H1 HBh hr2 hb2 Hwz
        go_wp2
        rw [unhide HP]
        exact ⟨rfl, (Sp.lkU n U (zz) u0), (Sp.lkW n U W (zz) u0 by_), unhide HE⟩
      · have HC := hide (lklink_any hB.fo (zz) u0 by_ wz hB.p)
        have hcc : ((Sp.lkE n U (zz) u0) == (Sp.lkE n U (zz) u0)) = true := by simp
        go_wp2_with fail
        go_at_call 8
        refine (unhide HC).mono ?_
        rintro e w1 ⟨rfl, hp1, hb1⟩
        have hr1 := hB.r.bt hb1 (fun e => hB.gx e.symm) (fun e => hB.go_ e.symm) (fun e => hB.gc e.symm)
        have HC2 := hide (lkrlink_any hB.fo (zz) u0 by_ w1 hr1)
        have H1 := hide (And.intro hp1 hb1)
        have HBh := hide hB
        generalize hcode : Sp.lkE n U (zz) u0 = cd at *
        clear HC hp1 hb1 hr1 hB hcode
        go_wp2_with fail
        go_at_call 16
        refine (unhide HC2).mono ?_
        rintro e w2 ⟨rfl, hr2, hb2⟩
        have HE : Hid (LkB w2 f g x o c n co cw (Sp.lkU n U (zz) u0) (Sp.lkW n U W (zz) u0 by_) ∧ Bt (fun b => b = g ∨ b = o ∨ b = c) w w2) := hide ⟨⟨(unhide H1).1.bt hb2 (fun e => e.elim (unhide HBh).fo_ (unhide HBh).fc) (fun e => e.elim (unhide HBh).go_ (unhide HBh).gc), hr2, (unhide HBh).gx, (unhide HBh).go_, (unhide HBh).gc, (unhide HBh).fo_, (unhide HBh).fc, (unhide HBh).fo.lk (zz) u0⟩, ((unhide Hwz).trans ((unhide H1).2.mono (fun _ _ e => .inl e))).trans (hb2.mono (fun _ _ e => .inr e))⟩
        clear HC2 H1 HBh hr2 hb2 Hwz
        go_wp2
        rw [unhide HP]
        exact ⟨rfl, (Sp.lkU n U (zz) u0), (Sp.lkW n U W (zz) u0 by_), unhide HE⟩
      · have HC := hide (lkcut_any (zz) wz hB.p)
        have hcc : ((Sp.ctE n U (zz)) == (Sp.ctE n U (zz))) = true := by simp
        go_wp2_with fail
        go_at_call 12
        refine (unhide HC).mono ?_
        rintro e w1 ⟨rfl, hp1, hb1⟩
        have hr1 := hB.r.bt hb1 (fun e => hB.gx e.symm) (fun e => hB.go_ e.symm) (fun e => hB.gc e.symm)
        have HC2 := hide (lkrcut_any hB.fo (zz) w1 hr1)
        have H1 := hide (And.intro hp1 hb1)
        have HBh := hide hB
        generalize hcode : Sp.ctE n U (zz) = cd at *
        clear HC hp1 hb1 hr1 hB hcode
        go_wp2_with fail
        go_at_call 28
        refine (unhide HC2).mono ?_
        rintro e w2 ⟨rfl, hr2, hb2⟩
        have HE : Hid (LkB w2 f g x o c n co cw (Sp.ctU n U (zz)) (Sp.ctW n U W (zz)) ∧ Bt (fun b => b = g ∨ b = o ∨ b = c) w w2) := hide ⟨⟨(unhide H1).1.bt hb2 (fun e => e.elim (unhide HBh).fo_ (unhide HBh).fc) (fun e => e.elim (unhide HBh).go_ (unhide HBh).gc), hr2, (unhide HBh).gx, (unhide HBh).go_, (unhide HBh).gc, (unhide HBh).fo_, (unhide HBh).fc, (unhide HBh).fo.ct (zz)⟩, ((unhide Hwz).trans ((unhide H1).2.mono (fun _ _ e => .inl e))).trans (hb2.mono (fun _ _ e => .inr e))⟩
        clear HC2 H1 HBh hr2 hb2 Hwz
        go_wp2
        rw [unhide HP]
        exact ⟨rfl, (Sp.ctU n U (zz)), (Sp.ctW n U W (zz)), unhide HE⟩
      · have HC := hide (lkroot_any hB.fo (zz) wz hB.p)
        have HC2 := hide (fun w' (hb : Below wz.heap.size wz w') => lkrroot_any hB.fo (zz) w' (hB.r.below hb))
        have HBh := hide hB
        clear hB
        generalize Sp.rt n U (zz) = q0 at *
        have hq0 : (q0 == q0) = true := by simp
        go_wp2_with fail
        go_at_call 13
        refine (unhide HC).mono ?_
        rintro e w1 ⟨rfl, hw⟩
        have hb1 : Below wz.heap.size wz w1 := by rw [hw]; exact Below.refl _ _
        have HC3 := hide (unhide HC2 w1 hb1)
        have H1 := hide hb1
        clear HC HC2 hw hb1
        go_wp2_with fail
        go_at_call 25
        refine (unhide HC3).mono ?_
        rintro e w2 ⟨rfl, hw⟩
        have hb2 : Below w1.heap.size w1 w2 := by rw [hw]; exact Below.refl _ _
        have HE : Hid (LkB w2 f g x o c n co cw U W ∧ Bt (fun b => b = g ∨ b = o ∨ b = c) w w2) := hide ⟨(unhide HBh).below ((unhide H1).trans (hb2.mono (unhide H1).size)), (unhide Hwz).trans (Bt.of ((unhide H1).trans (hb2.mono (unhide H1).size)))⟩
        clear HC3 H1 HBh hw hb2 Hwz
        go_wp2
        rw [unhide HP]
        exact ⟨rfl, U, W, unhide HE⟩
      · have HC := hide (lkroot_any hB.fo (zz) wz hB.p)
        have HC2 := hide (fun w' (hb : Below wz.heap.size wz w') => lkrroot_any hB.fo (zz) w' (hB.r.below hb))
        have HBh := hide hB
        clear hB
        generalize Sp.rt n U (zz) = q0 at *
        have hq0 : (q0 == q0) = true := by simp
        go_wp2_with fail
        go_at_call 13
        refine (unhide HC).mono ?_
        rintro e w1 ⟨rfl, hw⟩
        have hb1 : Below wz.heap.size wz w1 := by rw [hw]; exact Below.refl _ _
        have HC3 := hide (unhide HC2 w1 hb1)
        have H1 := hide hb1
        clear HC HC2 hw hb1
        go_wp2_with fail
        go_at_call 25
        refine (unhide HC3).mono ?_
        rintro e w2 ⟨rfl, hw⟩
        have hb2 : Below w1.heap.size w1 w2 := by rw [hw]; exact Below.refl _ _
        have HE : Hid (LkB w2 f g x o c n co cw U W ∧ Bt (fun b => b = g ∨ b = o ∨ b = c) w w2) := hide ⟨(unhide HBh).below ((unhide H1).trans (hb2.mono (unhide H1).size)), (unhide Hwz).trans (Bt.of ((unhide H1).trans (hb2.mono (unhide H1).size)))⟩
        clear HC3 H1 HBh hw hb2 Hwz
        go_wp2
        rw [unhide HP]
        exact ⟨rfl, U, W, unhide HE⟩
      · have HC := hide (lkturn_any hB.fo (zz) wz hB.p)
        have hcc : ((Sp.hs n (zz)) == (Sp.hs n (zz))) = true := by simp
        go_wp2_with fail
        go_at_call 11
        refine (unhide HC).mono ?_
        rintro e w1 ⟨rfl, hp1, hb1⟩
        have hr1 := hB.r.bt hb1 (fun e => hB.gx e.symm) (fun e => hB.go_ e.symm) (fun e => hB.gc e.symm)
        have HC2 := hide (lkrturn_any hB.fo (zz) w1 hr1)
        have H1 := hide (And.intro hp1 hb1)
        have HBh := hide hB
        generalize hcode : Sp.hs n (zz) = cd at *
        clear HC hp1 hb1 hr1 hB hcode
        go_wp2_with fail
        go_at_call 29
        refine (unhide HC2).mono ?_
        rintro e w2 ⟨rfl, hr2, hb2⟩
        have HE : Hid (LkB w2 f g x o c n co cw (Sp.tn n U W (zz)).1 (Sp.tn n U W (zz)).2 ∧ Bt (fun b => b = g ∨ b = o ∨ b = c) w w2) := hide ⟨⟨(unhide H1).1.bt hb2 (fun e => e.elim (unhide HBh).fo_ (unhide HBh).fc) (fun e => e.elim (unhide HBh).go_ (unhide HBh).gc), hr2, (unhide HBh).gx, (unhide HBh).go_, (unhide HBh).gc, (unhide HBh).fo_, (unhide HBh).fc, (unhide HBh).fo.tn W (zz)⟩, ((unhide Hwz).trans ((unhide H1).2.mono (fun _ _ e => .inl e))).trans (hb2.mono (fun _ _ e => .inr e))⟩
        clear HC2 H1 HBh hr2 hb2 Hwz
        go_wp2
        rw [unhide HP]
        exact ⟨rfl, (Sp.tn n U W (zz)).1, (Sp.tn n U W (zz)).2, unhide HE⟩
      · have HC := hide (lkturn_any hB.fo (zz) wz hB.p)
        have hcc : ((Sp.hs n (zz)) == (Sp.hs n (zz))) = true := by simp
        go_wp2_with fail
        go_at_call 11
        refine (unhide HC).mono ?_
        rintro e w1 ⟨rfl, hp1, hb1⟩
        have hr1 := hB.r.bt hb1 (fun e => hB.gx e.symm) (fun e => hB.go_ e.symm) (fun e => hB.gc e.symm)
        have HC2 := hide (lkrturn_any hB.fo (zz) w1 hr1)
        have H1 := hide (And.intro hp1 hb1)
        have HBh := hide hB
        generalize hcode : Sp.hs n (zz) = cd at *
        clear HC hp1 hb1 hr1 hB hcode
        go_wp2_with fail
        go_at_call 29
        refine (unhide HC2).mono ?_
        rintro e w2 ⟨rfl, hr2, hb2⟩
        have HE : Hid (LkB w2 f g x o c n co cw (Sp.tn n U W (zz)).1 (Sp.tn n U W (zz)).2 ∧ Bt (fun b => b = g ∨ b = o ∨ b = c) w w2) := hide ⟨⟨(unhide H1).1.bt hb2 (fun e => e.elim (unhide HBh).fo_ (unhide HBh).fc) (fun e => e.elim (unhide HBh).go_ (unhide HBh).gc), hr2, (unhide HBh).gx, (unhide HBh).go_, (unhide HBh).gc, (unhide HBh).fo_, (unhide HBh).fc, (unhide HBh).fo.tn W (zz)⟩, ((unhide Hwz).trans ((unhide H1).2.mono (fun _ _ e => .inl e))).trans (hb2.mono (fun _ _ e => .inr e))⟩
        clear HC2 H1 HBh hr2 hb2 Hwz
        go_wp2
        rw [unhide HP]
        exact ⟨rfl, (Sp.tn n U W (zz)).1, (Sp.tn n U W (zz)).2, unhide HE⟩
      · have HC := hide (lkadd_any hB.fo (zz) by_ wz hB.p)
        have hcc : ((Sp.hs n (zz)) == (Sp.hs n (zz))) = true := by simp
        go_wp2_with fail
        go_at_call 30
        refine (unhide HC).mono ?_
        rintro e w1 ⟨rfl, hp1, hb1⟩
        have hr1 := hB.r.bt hb1 (fun e => hB.gx e.symm) (fun e => hB.go_ e.symm) (fun e => hB.gc e.symm)
        have HC2 := hide (lkradd_any hB.fo (zz) by_ w1 hr1)
        have H1 := hide (And.intro hp1 hb1)
        have HBh := hide hB
        generalize hcode : Sp.hs n (zz) = cd at *
        clear HC hp1 hb1 hr1 hB hcode
        go_wp2_with fail
        go_at_call 31
        refine (unhide HC2).mono ?_
        rintro e w2 ⟨rfl, hr2, hb2⟩
        have HE : Hid (LkB w2 f g x o c n co cw U (Sp.ad n U W (zz) by_) ∧ Bt (fun b => b = g ∨ b = o ∨ b = c) w w2) := hide ⟨⟨(unhide H1).1.bt hb2 (fun e => e.elim (unhide HBh).fo_ (unhide HBh).fc) (fun e => e.elim (unhide HBh).go_ (unhide HBh).gc), hr2, (unhide HBh).gx, (unhide HBh).go_, (unhide HBh).gc, (unhide HBh).fo_, (unhide HBh).fc, (unhide HBh).fo⟩, ((unhide Hwz).trans ((unhide H1).2.mono (fun _ _ e => .inl e))).trans (hb2.mono (fun _ _ e => .inr e))⟩
        clear HC2 H1 HBh hr2 hb2 Hwz
        go_wp2
        rw [unhide HP]
        exact ⟨rfl, U, (Sp.ad n U W (zz) by_), unhide HE⟩
      · have HC := hide (lkadd_any hB.fo (zz) by_ wz hB.p)
        have hcc : ((Sp.hs n (zz)) == (Sp.hs n (zz))) = true := by simp
        go_wp2_with fail
        go_at_call 30
        refine (unhide HC).mono ?_
        rintro e w1 ⟨rfl, hp1, hb1⟩
        have hr1 := hB.r.bt hb1 (fun e => hB.gx e.symm) (fun e => hB.go_ e.symm) (fun e => hB.gc e.symm)
        have HC2 := hide (lkradd_any hB.fo (zz) by_ w1 hr1)
        have H1 := hide (And.intro hp1 hb1)
        have HBh := hide hB
        generalize hcode : Sp.hs n (zz) = cd at *
        clear HC hp1 hb1 hr1 hB hcode
        go_wp2_with fail
        go_at_call 31
        refine (unhide HC2).mono ?_
        rintro e w2 ⟨rfl, hr2, hb2⟩
        have HE : Hid (LkB w2 f g x o c n co cw U (Sp.ad n U W (zz) by_) ∧ Bt (fun b => b = g ∨ b = o ∨ b = c) w w2) := hide ⟨⟨(unhide H1).1.bt hb2 (fun e => e.elim (unhide HBh).fo_ (unhide HBh).fc) (fun e => e.elim (unhide HBh).go_ (unhide HBh).gc), hr2, (unhide HBh).gx, (unhide HBh).go_, (unhide HBh).gc, (unhide HBh).fo_, (unhide HBh).fc, (unhide HBh).fo⟩, ((unhide Hwz).trans ((unhide H1).2.mono (fun _ _ e => .inl e))).trans (hb2.mono (fun _ _ e => .inr e))⟩
        clear HC2 H1 HBh hr2 hb2 Hwz
        go_wp2
        rw [unhide HP]
        exact ⟨rfl, U, (Sp.ad n U W (zz) by_), unhide HE⟩
      · have HC := hide (lkleast_any hB.fo (zz) wz hB.p)
        have HC2 := hide (fun w' (hb : Below wz.heap.size wz w') => lkrleast_any hB.fo (zz) w' (hB.r.below hb))
        have HBh := hide hB
        clear hB
        generalize (if Sp.hg n U (zz) = true then ((Sp.ls U W (zz) : Nat) : Int) else 0) = q0 at *
        have hq0 : (q0 == q0) = true := by simp
        generalize (if Sp.hg n U (zz) = true then W (Sp.ls U W (zz)) else 0) = q1 at *
        have hq1 : (q1 == q1) = true := by simp
        generalize Sp.hg n U (zz) = q2 at *
        have hq2 : (q2 == q2) = true := by simp
        go_wp2_with fail
        go_at_call 10
        refine (unhide HC).mono ?_
        rintro e w1 ⟨rfl, hw⟩
        have hb1 : Below wz.heap.size wz w1 := hw
        have HC3 := hide (unhide HC2 w1 hb1)
        have H1 := hide hb1
        clear HC HC2 hw hb1
        go_wp2_with fail
        go_at_call 32
        refine (unhide HC3).mono ?_
        rintro e w2 ⟨rfl, hw⟩
        have hb2 : Below w1.heap.size w1 w2 := hw
        have HE : Hid (LkB w2 f g x o c n co cw U W ∧ Bt (fun b => b = g ∨ b = o ∨ b = c) w w2) := hide ⟨(unhide HBh).below ((unhide H1).trans (hb2.mono (unhide H1).size)), (unhide Hwz).trans (Bt.of ((unhide H1).trans (hb2.mono (unhide H1).size)))⟩
        clear HC3 H1 HBh hw hb2 Hwz
        go_wp2
        rw [unhide HP]
        exact ⟨rfl, U, W, unhide HE⟩
      · have HC := hide (lkleast_any hB.fo (zz) wz hB.p)
        have HC2 := hide (fun w' (hb : Below wz.heap.size wz w') => lkrleast_any hB.fo (zz) w' (hB.r.below hb))
        have HBh := hide hB
        clear hB
        generalize (if Sp.hg n U (zz) = true then ((Sp.ls U W (zz) : Nat) : Int) else 0) = q0 at *
        have hq0 : (q0 == q0) = true := by simp
        generalize (if Sp.hg n U (zz) = true then W (Sp.ls U W (zz)) else 0) = q1 at *
        have hq1 : (q1 == q1) = true := by simp
        generalize Sp.hg n U (zz) = q2 at *
        have hq2 : (q2 == q2) = true := by simp
        go_wp2_with fail
        go_at_call 10
        refine (unhide HC).mono ?_
        rintro e w1 ⟨rfl, hw⟩
        have hb1 : Below wz.heap.size wz w1 := hw
        have HC3 := hide (unhide HC2 w1 hb1)
        have H1 := hide hb1
        clear HC HC2 hw hb1
        go_wp2_with fail
        go_at_call 32
        refine (unhide HC3).mono ?_
        rintro e w2 ⟨rfl, hw⟩
        have hb2 : Below w1.heap.size w1 w2 := hw
        have HE : Hid (LkB w2 f g x o c n co cw U W ∧ Bt (fun b => b = g ∨ b = o ∨ b = c) w w2) := hide ⟨(unhide HBh).below ((unhide H1).trans (hb2.mono (unhide H1).size)), (unhide Hwz).trans (Bt.of ((unhide H1).trans (hb2.mono (unhide H1).size)))⟩
        clear HC3 H1 HBh hw hb2 Hwz
        go_wp2
        rw [unhide HP]
        exact ⟨rfl, U, W, unhide HE⟩
      · have HC := hide (lkweight_any (zz) wz hB.p)
        have HC2 := hide (fun w' (hb : Below wz.heap.size wz w') => lkrweight_any hB.fo (zz) w' (hB.r.below hb))
        have HBh := hide hB
        clear hB
        generalize (if Sp.hg n U (zz) = true then W ((zz) : Int).toNat else 0) = q0 at *
        have hq0 : (q0 == q0) = true := by simp
        generalize Sp.hg n U (zz) = q1 at *
        have hq1 : (q1 == q1) = true := by simp
        go_wp2_with fail
        go_at_call 18
        refine (unhide HC).mono ?_
        rintro e w1 ⟨rfl, hw⟩
        have hb1 : Below wz.heap.size wz w1 := by rw [hw]; exact Below.refl _ _
        have HC3 := hide (unhide HC2 w1 hb1)
        have H1 := hide hb1
        clear HC HC2 hw hb1
        go_wp2_with fail
        go_at_call 27
        refine (unhide HC3).mono ?_
        rintro e w2 ⟨rfl, hw⟩
        have hb2 : Below w1.heap.size w1 w2 := by rw [hw]; exact Below.refl _ _
        have HE : Hid (LkB w2 f g x o c n co cw U W ∧ Bt (fun b => b = g ∨ b = o ∨ b = c) w w2) := hide ⟨(unhide HBh).below ((unhide H1).trans (hb2.mono (unhide H1).size)), (unhide Hwz).trans (Bt.of ((unhide H1).trans (hb2.mono (unhide H1).size)))⟩
        clear HC3 H1 HBh hw hb2 Hwz
        go_wp2
        rw [unhide HP]
        exact ⟨rfl, U, W, unhide HE⟩
      · have HC := hide (lkup_any (zz) wz hB.p)
        have HC2 := hide (fun w' (hb : Below wz.heap.size wz w') => lkrup_any hB.fo (zz) w' (hB.r.below hb))
        have HBh := hide hB
        clear hB
        generalize (if Sp.hg n U (zz) = true then U ((zz) : Int).toNat else 0) = q0 at *
        have hq0 : (q0 == q0) = true := by simp
        generalize Sp.hg n U (zz) = q1 at *
        have hq1 : (q1 == q1) = true := by simp
        go_wp2_with fail
        go_at_call 17
        refine (unhide HC).mono ?_
        rintro e w1 ⟨rfl, hw⟩
        have hb1 : Below wz.heap.size wz w1 := by rw [hw]; exact Below.refl _ _
        have HC3 := hide (unhide HC2 w1 hb1)
        have H1 := hide hb1
        clear HC HC2 hw hb1
        go_wp2_with fail
        go_at_call 26
        refine (unhide HC3).mono ?_
        rintro e w2 ⟨rfl, hw⟩
        have hb2 : Below w1.heap.size w1 w2 := by rw [hw]; exact Below.refl _ _
        have HE : Hid (LkB w2 f g x o c n co cw U W ∧ Bt (fun b => b = g ∨ b = o ∨ b = c) w w2) := hide ⟨(unhide HBh).below ((unhide H1).trans (hb2.mono (unhide H1).size)), (unhide Hwz).trans (Bt.of ((unhide H1).trans (hb2.mono (unhide H1).size)))⟩
        clear HC3 H1 HBh hw hb2 Hwz
        go_wp2
        rw [unhide HP]
        exact ⟨rfl, U, W, unhide HE⟩
end Go.Proofs.Ytohfmohkaaidpab


/- The law's known: the chapter's example, and an edge. -/
namespace Go.Proofs.Ytohfmohkaaidpab
open Go Go.RowKit

theorem Sp.lk_ok {n k j a : Nat} {U : Nat → Int} (hk : k < n) (hj : j < n) (hr : U k = -1) (ha : Sp.Rt U j a) (hne : a ≠ k) : Sp.lkE n U (k : Int) (j : Int) = 0 := by
  unfold Sp.lkE
  rw [if_pos ⟨Sp.hs_yes hk, Sp.hs_yes hj⟩, Sp.hg_root hr, if_neg (by decide), Sp.rt_is hj ha, if_neg (by omega)]
theorem Sp.lkU_ok {n k : Nat} {U : Nat → Int} {u : Int} (h : Sp.lkE n U (k : Int) u = 0) : Sp.lkU n U (k : Int) u = Sp.upd U k u := by
  unfold Sp.lkU; rw [if_pos h, Int.toNat_natCast]
theorem Sp.lkW_ok {n k : Nat} {U W : Nat → Int} {u x : Int} (h : Sp.lkE n U (k : Int) u = 0) : Sp.lkW n U W (k : Int) u x = Sp.upd W k x := by
  unfold Sp.lkW; rw [if_pos h, Int.toNat_natCast]
def Sp.kU1 : Nat → Int := Sp.upd (fun _ => -1) 0 1
def Sp.kU2 : Nat → Int := Sp.upd Sp.kU1 1 2
def Sp.kW1 : Nat → Int := Sp.upd (fun _ => 0) 0 5
def Sp.kW2 : Nat → Int := Sp.upd Sp.kW1 1 3
theorem Sp.kE1 : Sp.lkE 3 (fun _ => -1) 0 1 = 0 := Sp.lk_ok (k := 0) (j := 1) (a := 1) (by decide) (by decide) rfl ⟨0, rfl, rfl⟩ (by decide)
theorem Sp.kE2 : Sp.lkE 3 Sp.kU1 1 2 = 0 := Sp.lk_ok (k := 1) (j := 2) (a := 2) (by decide) (by decide) (by decide) ⟨0, rfl, by decide⟩ (by decide)
theorem Sp.kUU1 : Sp.lkU 3 (fun _ => -1) 0 1 = Sp.kU1 := Sp.lkU_ok (k := 0) Sp.kE1
theorem Sp.kWW1 : Sp.lkW 3 (fun _ => -1) (fun _ => 0) 0 1 5 = Sp.kW1 := Sp.lkW_ok (k := 0) Sp.kE1
theorem Sp.kUU2 : Sp.lkU 3 Sp.kU1 1 2 = Sp.kU2 := Sp.lkU_ok (k := 1) Sp.kE2
theorem Sp.kWW2 : Sp.lkW 3 Sp.kU1 Sp.kW1 1 2 3 = Sp.kW2 := Sp.lkW_ok (k := 1) Sp.kE2
theorem Sp.kfo1 : Sp.Fo 3 Sp.kU1 := by rw [← Sp.kUU1]; exact (Sp.fo_new 3).lk 0 1
theorem Sp.kfo2 : Sp.Fo 3 Sp.kU2 := by rw [← Sp.kUU2]; exact Sp.kfo1.lk 1 2
theorem Sp.kup : Sp.Upw Sp.kU2 2 0 2 := ⟨1, by decide, 2, by decide, rfl⟩
theorem Sp.kdp : Sp.dp Sp.kU2 0 = 2 := Sp.dp_is Sp.kup (by decide)
theorem Sp.kls : Sp.ls Sp.kU2 Sp.kW2 0 = 1 := by
  unfold Sp.ls
  rw [show ((0 : Int)).toNat = 0 from rfl, Sp.kdp]
  decide
theorem Sp.khg : Sp.hg 3 Sp.kU2 0 = true := by decide
theorem Sp.ktn : Sp.tn 3 Sp.kU2 Sp.kW2 0 = Sp.trn 3 Sp.kU2 Sp.kW2 0 (-1) 0 := by
  unfold Sp.tn
  rw [if_pos (by decide), show ((0 : Int)).toNat = 0 from rfl, Sp.kdp]
theorem Sp.krt : Sp.rt 3 (Sp.tn 3 Sp.kU2 Sp.kW2 0).1 2 = 0 := by
  have h := (Sp.trn_ok (W := Sp.kW2) (x := 0) (k := 2) (v := 0) (b := 2) (a := 0) (l := -1) ⟨Sp.kfo2, by decide, Sp.kup, by decide, .inl ⟨rfl, rfl⟩⟩).2
  rw [Sp.ktn]
  exact Sp.rt_is (v := 2) (a := 0) (by decide) h
theorem Sp.kup2 : (Sp.tn 3 Sp.kU2 Sp.kW2 0).1 2 = 1 := by rw [Sp.ktn]; decide
theorem Sp.khg2 : Sp.hg 3 (Sp.tn 3 Sp.kU2 Sp.kW2 0).1 2 = true := Sp.hg_yes (v := 2) (by decide) (by rw [Sp.kup2]; decide)
theorem Sp.krt2 : Sp.rt 2 (fun _ => -1) 1 = 1 := Sp.rt_is (v := 1) (a := 1) (by decide) ⟨0, rfl, rfl⟩
set_option maxRecDepth 100000 in
set_option maxHeartbeats 8000000 in
theorem known7_any (w : World) : Calls Try.prog 6 #[] w fun e w' => e = .returned (.bool true) ∧ Below w.heap.size w w' := by
  have HC1 := hide (lknew_any 3 w (by decide) (by decide))
  obtain ⟨P, hP⟩ : ∃ P : Ending → World → Prop, P = fun e w' => e = .returned (.bool true) ∧ Below w.heap.size w w' := ⟨_, rfl⟩
  rw [← hP]
  have HP := hide hP
  clear hP
  go_enter Try.func6, Try.ntmps6
  go_wp2_with fail
  go_at_call 7
  refine (unhide HC1).mono ?_
  rintro e w1 ⟨f, g, rfl, hp1, hb1, hf, hg⟩
  have HC2 := hide (lklink_any (Sp.fo_new 3) 0 1 5 w1 hp1)
  rw [Sp.kE1, Sp.kUU1, Sp.kWW1] at HC2
  have HB1 := hide hb1
  clear hp1 hb1 HC1
  go_wp2_with fail
  go_at_call 8
  refine (unhide HC2).mono ?_
  rintro e w2 ⟨rfl, hp2, hb2⟩
  have HB2 : Hid (Below w.heap.size w w2) := hide ((unhide HB1).trans (hb2.below (fun k e => by rw [e]; exact hg) (unhide HB1).size))
  have HC3 := hide (lklink_any Sp.kfo1 1 2 3 w2 hp2)
  rw [Sp.kE2, Sp.kUU2, Sp.kWW2] at HC3
  clear hp2 hb2 HC2 HB1
  go_wp2_with fail
  go_at_call 8
  refine (unhide HC3).mono ?_
  rintro e w3 ⟨rfl, hp3, hb3⟩
  have HB3 : Hid (Below w.heap.size w w3) := hide ((unhide HB2).trans (hb3.below (fun k e => by rw [e]; exact hg) (unhide HB2).size))
  have HC4 := hide (lkleast_any Sp.kfo2 0 w3 hp3)
  rw [Sp.khg, if_pos rfl, if_pos rfl, Sp.kls, show Sp.kW2 1 = 3 by decide] at HC4
  have HP3 := hide hp3
  clear hp3 hb3 HC3 HB2
  go_wp2_with fail
  go_at_call 10
  refine (unhide HC4).mono ?_
  rintro e w4 ⟨rfl, hb4⟩
  have HB4 := hide ((unhide HB3).trans (hb4.mono (unhide HB3).size))
  have HC5 := hide (lkturn_any Sp.kfo2 0 w4 ((unhide HP3).below hb4))
  rw [show Sp.hs 3 0 = true by decide] at HC5
  clear hb4 HC4 HB3 HP3
  go_wp2_with fail
  go_at_call 11
  refine (unhide HC5).mono ?_
  rintro e w5 ⟨rfl, hp5, hb5⟩
  have HB5 : Hid (Below w.heap.size w w5) := hide ((unhide HB4).trans (hb5.below (fun k e => by rw [e]; exact hg) (unhide HB4).size))
  have HC6 := hide (lkup_any 2 w5 hp5)
  rw [Sp.khg2, if_pos rfl, show ((2 : Int)).toNat = 2 from rfl, Sp.kup2] at HC6
  have HP5 := hide hp5
  clear hp5 hb5 HC5 HB4
  go_wp2_with fail
  go_at_call 17
  refine (unhide HC6).mono ?_
  rintro e w6 ⟨rfl, hw⟩
  have hw' := hw.symm
  subst hw'
  clear hw HC6
  have HC7 := hide (lknew_any 2 w5 (by decide) (by decide))
  go_wp2_with fail
  go_at_call 7
  refine (unhide HC7).mono ?_
  rintro e w7 ⟨f2, g2, rfl, hp7, hb7, hf7, hg7⟩
  have HC8 := hide (lkroot_any (Sp.fo_new 2) 1 w7 hp7)
  rw [Sp.krt2] at HC8
  have HC9 := hide (lkroot_any (Sp.kfo2.tn Sp.kW2 0) 2 w7 ((unhide HP5).below hb7))
  rw [Sp.krt] at HC9
  have HE := hide ((unhide HB5).trans (hb7.mono (unhide HB5).size))
  clear hp7 hb7 HC7 HB5
  go_wp2_with fail
  go_at_call 13
  refine (unhide HC8).mono ?_
  rintro e w8 ⟨rfl, hw⟩
  have hw' := hw.symm
  subst hw'
  clear hw HC8
  go_wp2_with fail
  go_at_call 13
  refine (unhide HC9).mono ?_
  rintro e w9 ⟨rfl, hw⟩
  have hw' := hw.symm
  subst hw'
  clear hw HC9
  go_wp2
  rw [unhide HP]
  exact ⟨rfl, unhide HE⟩
end Go.Proofs.Ytohfmohkaaidpab


/- Ways up: how long they are; what Least tells; what Add leaves (P701). -/
namespace Go.Proofs.Ytohfmohkaaidpab
open Go Go.RowKit

def Sp.anc (U : Nat → Int) : Nat → Nat → Nat
  | 0, v => v
  | k + 1, v => Sp.anc U k (U v).toNat
theorem Sp.Upw.anc {U : Nat → Int} : ∀ {k v x : Nat}, Sp.Upw U k v x → x = Sp.anc U k v
  | 0, _, _, h => h
  | k + 1, v, x, ⟨u, e, h⟩ => by
    rw [Sp.anc, e, Int.toNat_natCast]
    exact Sp.Upw.anc h
theorem Sp.Upw.one {U : Nat → Int} {k v x y : Nat} (h : Sp.Upw U k v x) (h' : Sp.Upw U k v y) : x = y := by rw [h.anc, h'.anc]
end Go.Proofs.Ytohfmohkaaidpab


