/- What the proof needs, part 4. -/
import Derived.Test.YtohfmohkaaidpabL3
/- The reference's forest: Turn, Add, Least. -/
namespace Go.Proofs.Ytohfmohkaaidpab
open Go Go.RowKit

set_option maxRecDepth 100000 in
set_option maxHeartbeats 8000000 in
theorem lkrturn_any {x o c n co cw : Nat} {U W : Nat → Int} (hF : Sp.Fo n U) (v : Int) (w : World) (h : LkR w x o c n co cw U W) :
    Calls Try.prog 29 #[.pointer (some ⟨x, 0, none⟩), .int .i64 v] w fun e w' => e = .returned (.bool (Sp.hs n v)) ∧ LkR w' x o c n co cw (Sp.tn n U W v).1 (Sp.tn n U W v).2 ∧ Bt (fun b => b = o ∨ b = c) w w' := by
  have HC := hide (lkris_any v w h)
  unfold Sp.tn
  rcases Sp.int_case n v with h1 | ⟨k, rfl, hk⟩
  · rw [Sp.hs_no h1] at HC ⊢
    rw [if_neg (by decide)]
    have H := hide h
    clear h h1 hF
    go_enter Try.func29, Try.ntmps29
    go_wp2_with fail
    go_at_call 24
    refine (unhide HC).mono ?_
    rintro e w' ⟨rfl, hw⟩
    have hw' := hw.symm
    subst hw'
    clear hw
    go_wp2
    go_ret
    exact ⟨rfl, unhide H, Bt.refl _ _⟩
  · rw [Sp.hs_yes hk] at HC ⊢
    rw [if_pos rfl, Int.toNat_natCast]
    obtain ⟨d0, b0, hu, hb0, -⟩ := hF.ex hk
    rw [Sp.dp_is hu hb0]
    obtain ⟨F, hFF⟩ : ∃ F, Sp.trn (d0 + 1) U W k (-1) 0 = F := ⟨_, rfl⟩
    rw [hFF]
    have HJ0 : Hid (Sp.TnJ n U F U W k (-1) 0 d0) := hide ⟨⟨b0, k, hF, hk, hu, hb0, .inl ⟨rfl, rfl⟩⟩, hFF, Sp.dp_is hu hb0, fun _ _ => rfl, b0, hu, hb0⟩
    have HF := hide hF
    have HI0 : Hid (LkR w x o c n co cw U W ∧ Bt (fun b => b = o ∨ b = c) w w) := hide ⟨h, Bt.refl _ _⟩
    obtain ⟨P, hP⟩ : ∃ P : Ending → World → Prop, P = fun e w' => e = .returned (.bool true) ∧ LkR w' x o c n co cw F.1 F.2 ∧ Bt (fun b => b = o ∨ b = c) w w' := ⟨_, rfl⟩
    rw [← hP]
    have HP := hide hP
    clear hP
    clear h hF hu hb0 hFF
    go_enter Try.func29, Try.ntmps29
    go_wp2_with fail
    go_at_call 24
    refine (unhide HC).mono ?_
    rintro e w' ⟨rfl, hw⟩
    have hw' := hw.symm
    subst hw'
    clear hw
    clear HC
    go_wp2
    go_loopg [1, 5, 6] (d0 + 1) (fun g' s1 s5 s6 wr => ∃ (U1 W1 : Nat → Int) (l1 x1 : Int), s5 = .int .i64 l1 ∧ s6 = .int .i64 x1 ∧ Hid (LkR wr x o c n co cw U1 W1 ∧ Bt (fun b => b = o ∨ b = c) w wr) ∧ ((∃ v1 d : Nat, s1 = .int .i64 (v1 : Int) ∧ g' = d + 1 ∧ v1 < n ∧ Hid (Sp.TnJ n U F U1 W1 v1 l1 x1 d)) ∨ (s1 = .int .i64 (-1) ∧ Hid (F = (U1, W1)))))
    case atStart => exact ⟨U, W, -1, 0, rfl, rfl, HI0, .inl ⟨k, d0, rfl, rfl, hk, HJ0⟩⟩
    case round =>
      clear HI0 HJ0 hk
      obtain ⟨U1, W1, l1, x1, rfl, rfl, HI, ⟨v1, d, rfl, rfl, hv1, HJ⟩ | ⟨rfl, HE⟩⟩ := hrel
      · have hvd : (v1 : Int) ≥ 0 := by omega
        have hvI : (v1 : Int) < (n : Int) := by omega
        obtain ⟨y0, hy0⟩ : ∃ y0, U1 v1 = y0 := ⟨_, rfl⟩
        obtain ⟨y1, hy1⟩ : ∃ y1, W1 v1 = y1 := ⟨_, rfl⟩
        have HY := hide (And.intro hy0 hy1)
        clear hy0 hy1
        go_upto_region 5 with fail
        go_cut [7, 8] (fun s7 s8 w9 => ∃ wx, s7 = .int .i64 y0 ∧ s8 = .int .i64 y1 ∧ wx = w9 ∧ Hid (LkR wx x o c n co cw U1 W1 ∧ Bt (fun b => b = o ∨ b = c) w wx))
        case first =>
          have hb0 := Below.refl wr.heap.size wr
          have hqd := (unhide HI).1.below hb0.drew
          have hbd := (unhide HI).2.drew
          have g0 := hqd.upc hv1
          have g1 := hqd.wtc hv1
          rw [(unhide HY).1] at g0
          rw [(unhide HY).2] at g1
          have hS0 : wr.drew.cell? ⟨x, 0, none⟩ = some (.slice (some ⟨o, 0, none⟩) n co) ∧ wr.drew.cell? ⟨x, 1, none⟩ = some (.slice (some ⟨c, 0, none⟩) n cw) ∧ wr.drew.cell? ⟨o, v1, none⟩ = some (.int .i64 y0) ∧ wr.drew.cell? ⟨c, v1, none⟩ = some (.int .i64 y1) := ⟨hqd.slot0, hqd.slot1, g0, g1⟩
          have HX : Hid (LkR wr.drew x o c n co cw U1 W1 ∧ Bt (fun b => b = o ∨ b = c) w wr.drew) := hide ⟨hqd, hbd⟩
          clear hqd hbd
          refine wp_region_G (fun w' => w'.cell? ⟨x, 0, none⟩ = some (.slice (some ⟨o, 0, none⟩) n co) ∧ w'.cell? ⟨x, 1, none⟩ = some (.slice (some ⟨c, 0, none⟩) n cw) ∧ w'.cell? ⟨o, v1, none⟩ = some (.int .i64 y0) ∧ w'.cell? ⟨c, v1, none⟩ = some (.int .i64 y1)) (fun _ => false) (by kernel_rfl) hS0 (fun hHeld => ?_)
          generalize wr.drew = wq at *
          clear g0 g1
          refine wpAnyG_take (v := ?_) 0 (by rfl) (by kernel_rfl) (by kernel_rfl) (by kernel_rfl) (by kernel_rfl) (fun _ _ _ h => h) (Or.inl ⟨by rfl, ?_⟩) (by assumption) ?_
          rotate_left
          · (intro w' hSw; (try dsimp only at hSw); (try simp only [List.getElem_toArray, List.getElem_cons_zero]); go_simp; try (with_reducible rfl))
          simp only [Act.put, List.getElem_toArray, List.getElem_cons_zero, List.setIfInBounds_toArray, List.set_cons_zero, List.set_cons_succ]
          refine wpAnyG_take (v := ?_) 1 (by rfl) (by kernel_rfl) (by kernel_rfl) (by kernel_rfl) (by kernel_rfl) (fun _ _ _ h => h) (Or.inl ⟨by rfl, ?_⟩) (by assumption) ?_
          rotate_left
          · (intro w' hSw; (try dsimp only at hSw); (try simp only [List.getElem_toArray, List.getElem_cons_succ, List.getElem_cons_zero]); go_simp; try (with_reducible rfl))
          simp only [Act.put, List.getElem_toArray, List.getElem_cons_succ, List.getElem_cons_zero, List.setIfInBounds_toArray, List.set_cons_zero, List.set_cons_succ]
          refine wpAnyG_take (v := ?_) 2 (by rfl) (by kernel_rfl) (by kernel_rfl) (by kernel_rfl) (by kernel_rfl) (fun _ _ _ h => h) (Or.inl ⟨by rfl, ?_⟩) (by assumption) ?_
          rotate_left
          · (intro w' hSw; (try dsimp only at hSw); (try simp only [List.getElem_toArray, List.getElem_cons_succ, List.getElem_cons_zero]); go_simp; try (with_reducible rfl))
          simp only [Act.put, List.getElem_toArray, List.getElem_cons_succ, List.getElem_cons_zero, List.setIfInBounds_toArray, List.set_cons_zero, List.set_cons_succ]
          refine wpAnyG_take (v := ?_) 3 (by rfl) (by kernel_rfl) (by kernel_rfl) (by kernel_rfl) (by kernel_rfl) (fun _ _ _ h => h) (Or.inl ⟨by rfl, ?_⟩) (by assumption) ?_
          rotate_left
          · (intro w' hSw; (try dsimp only at hSw); (try simp only [List.getElem_toArray, List.getElem_cons_succ, List.getElem_cons_zero]); go_simp; try (with_reducible rfl))
          simp only [Act.put, List.getElem_toArray, List.getElem_cons_succ, List.getElem_cons_zero, List.setIfInBounds_toArray, List.set_cons_zero, List.set_cons_succ]
          refine wpAnyG_take (v := ?_) 4 (by rfl) (by kernel_rfl) (by kernel_rfl) (by kernel_rfl) (by kernel_rfl) (fun _ _ _ h => h) (Or.inl ⟨by rfl, ?_⟩) (by assumption) ?_
          rotate_left
          · (intro w' hSw; (try dsimp only at hSw); (try simp only [List.getElem_toArray, List.getElem_cons_succ, List.getElem_cons_zero]); go_simp; try (with_reducible rfl))
          simp only [Act.put, List.getElem_toArray, List.getElem_cons_succ, List.getElem_cons_zero, List.setIfInBounds_toArray, List.set_cons_zero, List.set_cons_succ]
          refine wpAnyG_take (v := ?_) 5 (by rfl) (by kernel_rfl) (by kernel_rfl) (by kernel_rfl) (by kernel_rfl) (fun _ _ _ h => h) (Or.inl ⟨by rfl, ?_⟩) (by assumption) ?_
          rotate_left
          · (intro w' hSw; (try dsimp only at hSw); (try simp only [List.getElem_toArray, List.getElem_cons_succ, List.getElem_cons_zero]); go_simp; try (with_reducible rfl))
          simp only [Act.put, List.getElem_toArray, List.getElem_cons_succ, List.getElem_cons_zero, List.setIfInBounds_toArray, List.set_cons_zero, List.set_cons_succ]
          refine wpAnyG_take (v := ?_) 6 (by rfl) (by kernel_rfl) (by kernel_rfl) (by kernel_rfl) (by kernel_rfl) (fun _ _ _ h => h) (Or.inl ⟨by rfl, ?_⟩) (by assumption) ?_
          rotate_left
          · (intro w' hSw; (try dsimp only at hSw); (try simp only [List.getElem_toArray, List.getElem_cons_succ, List.getElem_cons_zero]); go_simp; try (with_reducible rfl))
          simp only [Act.put, List.getElem_toArray, List.getElem_cons_succ, List.getElem_cons_zero, List.setIfInBounds_toArray, List.set_cons_zero, List.set_cons_succ]
          refine wpAnyG_take (v := ?_) 7 (by rfl) (by kernel_rfl) (by kernel_rfl) (by kernel_rfl) (by kernel_rfl) (fun _ _ _ h => h) (Or.inl ⟨by rfl, ?_⟩) (by assumption) ?_
          rotate_left
          · (intro w' hSw; (try dsimp only at hSw); (try simp only [List.getElem_toArray, List.getElem_cons_succ, List.getElem_cons_zero]); go_simp; try (with_reducible rfl))
          simp only [Act.put, List.getElem_toArray, List.getElem_cons_succ, List.getElem_cons_zero, List.setIfInBounds_toArray, List.set_cons_zero, List.set_cons_succ]
          refine wpAnyG_take (v := ?_) 8 (by rfl) (by kernel_rfl) (by kernel_rfl) (by kernel_rfl) (by kernel_rfl) (fun _ _ _ h => h) (Or.inl ⟨by rfl, ?_⟩) (by assumption) ?_
          rotate_left
          · (intro w' hSw; (try dsimp only at hSw); (try simp only [List.getElem_toArray, List.getElem_cons_succ, List.getElem_cons_zero]); go_simp; try (with_reducible rfl))
          simp only [Act.put, List.getElem_toArray, List.getElem_cons_succ, List.getElem_cons_zero, List.setIfInBounds_toArray, List.set_cons_zero, List.set_cons_succ]
          refine wpAnyG_take (v := ?_) 9 (by rfl) (by kernel_rfl) (by kernel_rfl) (by kernel_rfl) (by kernel_rfl) (fun _ _ _ h => h) (Or.inl ⟨by rfl, ?_⟩) (by assumption) ?_
          rotate_left
          · (intro w' hSw; (try dsimp only at hSw); (try simp only [List.getElem_toArray, List.getElem_cons_succ, List.getElem_cons_zero]); go_simp; try (with_reducible rfl))
          simp only [Act.put, List.getElem_toArray, List.getElem_cons_succ, List.getElem_cons_zero, List.setIfInBounds_toArray, List.set_cons_zero, List.set_cons_succ]
          refine wpAnyG_take (v := ?_) 10 (by rfl) (by kernel_rfl) (by kernel_rfl) (by kernel_rfl) (by kernel_rfl) (fun _ _ _ h => h) (Or.inl ⟨by rfl, ?_⟩) (by assumption) ?_
          rotate_left
          · (intro w' hSw; (try dsimp only at hSw); (try simp only [List.getElem_toArray, List.getElem_cons_succ, List.getElem_cons_zero]); go_simp; try (with_reducible rfl))
          simp only [Act.put, List.getElem_toArray, List.getElem_cons_succ, List.getElem_cons_zero, List.setIfInBounds_toArray, List.set_cons_zero, List.set_cons_succ]
          refine wpAnyG_take (v := ?_) 11 (by rfl) (by kernel_rfl) (by kernel_rfl) (by kernel_rfl) (by kernel_rfl) (fun _ _ _ h => h) (Or.inl ⟨by rfl, ?_⟩) (by assumption) ?_
          rotate_left
          · (intro w' hSw; (try dsimp only at hSw); (try simp only [List.getElem_toArray, List.getElem_cons_succ, List.getElem_cons_zero]); go_simp; try (with_reducible rfl))
          simp only [Act.put, List.getElem_toArray, List.getElem_cons_succ, List.getElem_cons_zero, List.setIfInBounds_toArray, List.set_cons_zero, List.set_cons_succ]
          refine wpAnyG_take (v := ?_) 12 (by rfl) (by kernel_rfl) (by kernel_rfl) (by kernel_rfl) (by kernel_rfl) (fun _ _ _ h => h) (Or.inl ⟨by rfl, ?_⟩) (by assumption) ?_
          rotate_left
          · (intro w' hSw; (try dsimp only at hSw); (try simp only [List.getElem_toArray, List.getElem_cons_succ, List.getElem_cons_zero]); go_simp; try (with_reducible rfl))
          simp only [Act.put, List.getElem_toArray, List.getElem_cons_succ, List.getElem_cons_zero, List.setIfInBounds_toArray, List.set_cons_zero, List.set_cons_succ]
          refine wpAnyG_take (v := ?_) 13 (by rfl) (by kernel_rfl) (by kernel_rfl) (by kernel_rfl) (by kernel_rfl) (fun _ _ _ h => h) (Or.inl ⟨by rfl, ?_⟩) (by assumption) ?_
          rotate_left
          · (intro w' hSw; (try dsimp only at hSw); (try simp only [List.getElem_toArray, List.getElem_cons_succ, List.getElem_cons_zero]); go_simp; try (with_reducible rfl))
          simp only [Act.put, List.getElem_toArray, List.getElem_cons_succ, List.getElem_cons_zero, List.setIfInBounds_toArray, List.set_cons_zero, List.set_cons_succ]
          refine wpAnyG_take (v := ?_) 14 (by rfl) (by kernel_rfl) (by kernel_rfl) (by kernel_rfl) (by kernel_rfl) (fun _ _ _ h => h) (Or.inl ⟨by rfl, ?_⟩) (by assumption) ?_
          rotate_left
          · (intro w' hSw; (try dsimp only at hSw); (try simp only [List.getElem_toArray, List.getElem_cons_succ, List.getElem_cons_zero]); go_simp; try (with_reducible rfl))
          simp only [Act.put, List.getElem_toArray, List.getElem_cons_succ, List.getElem_cons_zero, List.setIfInBounds_toArray, List.set_cons_zero, List.set_cons_succ]
          refine wpAnyG_take (v := ?_) 15 (by rfl) (by kernel_rfl) (by kernel_rfl) (by kernel_rfl) (by kernel_rfl) (fun _ _ _ h => h) (Or.inl ⟨by rfl, ?_⟩) (by assumption) ?_
          rotate_left
          · (intro w' hSw; (try dsimp only at hSw); (try simp only [List.getElem_toArray, List.getElem_cons_succ, List.getElem_cons_zero]); go_simp; try (with_reducible rfl))
          simp only [Act.put, List.getElem_toArray, List.getElem_cons_succ, List.getElem_cons_zero, List.setIfInBounds_toArray, List.set_cons_zero, List.set_cons_succ]
          refine wpAnyG_done (by kernel_rfl) ?_ _
          refine NoPanic.normal ?_
          go_wp2
          go_meet
          exact ⟨_, rfl, rfl, rfl, HX⟩
        case rest =>
          obtain ⟨wx, rfl, rfl, rfl, HZ⟩ := hcut
          have hq := (unhide HZ).1
          have hb := (unhide HZ).2
          have hvn := hv1
          clear HI
          go_upto_region 6 with fail
          go_cut [] (fun w9 => ∃ ws, ws = w9 ∧ Hid (LkR ws x o c n co cw (Sp.upd U1 v1 l1) (Sp.upd W1 v1 x1) ∧ Bt (fun b => b = o ∨ b = c) w ws))
          case first =>
            have hqd := hq.below (Below.refl _ _).drew
            have hbd := hb.drew
            have hxo := hqd.xo
            have hxc := hqd.xc
            have hS0 : wx.drew.cell? ⟨x, 0, none⟩ = some (.slice (some ⟨o, 0, none⟩) n co) ∧ wx.drew.cell? ⟨x, 1, none⟩ = some (.slice (some ⟨c, 0, none⟩) n cw) := ⟨hqd.slot0, hqd.slot1⟩
            refine wp_region_G (fun w' => w'.cell? ⟨x, 0, none⟩ = some (.slice (some ⟨o, 0, none⟩) n co) ∧ w'.cell? ⟨x, 1, none⟩ = some (.slice (some ⟨c, 0, none⟩) n cw)) (fun _ => false) (by kernel_rfl) hS0 (fun hHeld => ?_)
            generalize wx.drew = wq at *
            have k0 := hqd.upc hvn
            have kf := fun i => hqd.on.frozen i
            have k1 : (wq.setCell ⟨o, v1, none⟩ (.int .i64 l1)).cell? ⟨c, v1, none⟩ = some (.int .i64 (W1 v1)) := (World.cell?_of_block (w := wq) (Below.heap_setCell _ _ _ _ (fun e => hqd.oc e.symm))).trans (hqd.wtc hvn)
            have kg := fun i => hqd.wt.frozen i
            have HQ : Hid (LkR ((wq.setCell ⟨o, v1, none⟩ (.int .i64 l1)).setCell ⟨c, v1, none⟩ (.int .i64 x1)) x o c n co cw (Sp.upd U1 v1 l1) (Sp.upd W1 v1 x1) ∧ Bt (fun b => b = o ∨ b = c) w ((wq.setCell ⟨o, v1, none⟩ (.int .i64 l1)).setCell ⟨c, v1, none⟩ (.int .i64 x1))) := hide ⟨hqd.set v1 l1 x1, (hbd.set (.inl (.inl rfl)) _ _ _).set (.inl (.inr rfl)) _ _ _⟩
            clear hqd hbd
            refine wpAnyG_take (v := ?_) 0 (by rfl) (by kernel_rfl) (by kernel_rfl) (by kernel_rfl) (by kernel_rfl) (fun _ _ _ h => h) (Or.inl ⟨by rfl, ?_⟩) (by assumption) ?_
            rotate_left
            · (intro w' hSw; (try dsimp only at hSw); (try simp only [List.getElem_toArray, List.getElem_cons_zero]); go_simp; try (with_reducible rfl))
            simp only [Act.put, List.getElem_toArray, List.getElem_cons_zero, List.setIfInBounds_toArray, List.set_cons_zero, List.set_cons_succ]
            refine wpAnyG_take (v := ?_) 1 (by rfl) (by kernel_rfl) (by kernel_rfl) (by kernel_rfl) (by kernel_rfl) (fun _ _ _ h => h) (Or.inl ⟨by rfl, ?_⟩) (by assumption) ?_
            rotate_left
            · (intro w' hSw; (try dsimp only at hSw); (try simp only [List.getElem_toArray, List.getElem_cons_succ, List.getElem_cons_zero]); go_simp; try (with_reducible rfl))
            simp only [Act.put, List.getElem_toArray, List.getElem_cons_succ, List.getElem_cons_zero, List.setIfInBounds_toArray, List.set_cons_zero, List.set_cons_succ]
            refine wpAnyG_take (v := ?_) 2 (by rfl) (by kernel_rfl) (by kernel_rfl) (by kernel_rfl) (by kernel_rfl) (fun _ _ _ h => h) (Or.inl ⟨by rfl, ?_⟩) (by assumption) ?_
            rotate_left
            · (intro w' hSw; (try dsimp only at hSw); (try simp only [List.getElem_toArray, List.getElem_cons_succ, List.getElem_cons_zero]); go_simp; try (with_reducible rfl))
            simp only [Act.put, List.getElem_toArray, List.getElem_cons_succ, List.getElem_cons_zero, List.setIfInBounds_toArray, List.set_cons_zero, List.set_cons_succ]
            refine wpAnyG_take (v := ?_) 3 (by rfl) (by kernel_rfl) (by kernel_rfl) (by kernel_rfl) (by kernel_rfl) (fun _ _ _ h => h) (Or.inl ⟨by rfl, ?_⟩) (by assumption) ?_
            rotate_left
            · (intro w' hSw; (try dsimp only at hSw); (try simp only [List.getElem_toArray, List.getElem_cons_succ, List.getElem_cons_zero]); go_simp; try (with_reducible rfl))
            simp only [Act.put, List.getElem_toArray, List.getElem_cons_succ, List.getElem_cons_zero, List.setIfInBounds_toArray, List.set_cons_zero, List.set_cons_succ]
            refine wpAnyG_take (v := ?_) 4 (by rfl) (by kernel_rfl) (by kernel_rfl) (by kernel_rfl) (by kernel_rfl) (fun _ _ _ h => h) (Or.inl ⟨by rfl, ?_⟩) (by assumption) ?_
            rotate_left
            · (intro w' hSw; (try dsimp only at hSw); (try simp only [List.getElem_toArray, List.getElem_cons_succ, List.getElem_cons_zero]); go_simp; try (with_reducible rfl))
            simp only [Act.put, List.getElem_toArray, List.getElem_cons_succ, List.getElem_cons_zero, List.setIfInBounds_toArray, List.set_cons_zero, List.set_cons_succ]
            refine wpAnyG_take (v := ?_) 5 (by rfl) (by kernel_rfl) (by kernel_rfl) (by kernel_rfl) (by kernel_rfl) (fun _ _ _ h => h) (Or.inl ⟨by rfl, ?_⟩) (by assumption) ?_
            rotate_left
            · (intro w' hSw; (try dsimp only at hSw); (try simp only [List.getElem_toArray, List.getElem_cons_succ, List.getElem_cons_zero]); go_simp; try (with_reducible rfl))
            simp only [Act.put, List.getElem_toArray, List.getElem_cons_succ, List.getElem_cons_zero, List.setIfInBounds_toArray, List.set_cons_zero, List.set_cons_succ]
            refine wpAnyG_take (v := ?_) 6 (by rfl) (by kernel_rfl) (by kernel_rfl) (by kernel_rfl) (by kernel_rfl) (fun _ _ _ h => h) (Or.inl ⟨by rfl, ?_⟩) (by assumption) ?_
            rotate_left
            · (intro w' hSw; (try dsimp only at hSw); (try simp only [List.getElem_toArray, List.getElem_cons_succ, List.getElem_cons_zero]); go_simp; try (with_reducible rfl))
            simp only [Act.put, List.getElem_toArray, List.getElem_cons_succ, List.getElem_cons_zero, List.setIfInBounds_toArray, List.set_cons_zero, List.set_cons_succ]
            refine wpAnyG_take (v := ?_) 7 (by rfl) (by kernel_rfl) (by kernel_rfl) (by kernel_rfl) (by kernel_rfl) (fun _ _ _ h => h) (Or.inl ⟨by rfl, ?_⟩) (by assumption) ?_
            rotate_left
            · (intro w' hSw; (try dsimp only at hSw); (try simp only [List.getElem_toArray, List.getElem_cons_succ, List.getElem_cons_zero]); go_simp; try (with_reducible rfl))
            simp only [Act.put, List.getElem_toArray, List.getElem_cons_succ, List.getElem_cons_zero, List.setIfInBounds_toArray, List.set_cons_zero, List.set_cons_succ]
            refine wpAnyG_take (v := ?_) 8 (by rfl) (by kernel_rfl) (by kernel_rfl) (by kernel_rfl) (by kernel_rfl) (fun _ _ _ h => h) (Or.inl ⟨by rfl, ?_⟩) (by assumption) ?_
            rotate_left
            · (intro w' hSw; (try dsimp only at hSw); (try simp only [List.getElem_toArray, List.getElem_cons_succ, List.getElem_cons_zero]); go_simp; try (with_reducible rfl))
            simp only [Act.put, List.getElem_toArray, List.getElem_cons_succ, List.getElem_cons_zero, List.setIfInBounds_toArray, List.set_cons_zero, List.set_cons_succ]
            refine wpAnyG_take (v := ?_) 9 (by rfl) (by kernel_rfl) (by kernel_rfl) (by kernel_rfl) (by kernel_rfl) (fun _ _ _ h => h) (Or.inl ⟨by rfl, ?_⟩) (by assumption) ?_
            rotate_left
            · (intro w' hSw; (try dsimp only at hSw); (try simp only [List.getElem_toArray, List.getElem_cons_succ, List.getElem_cons_zero]); go_simp; try (with_reducible rfl))
            simp only [Act.put, List.getElem_toArray, List.getElem_cons_succ, List.getElem_cons_zero, List.setIfInBounds_toArray, List.set_cons_zero, List.set_cons_succ]
            refine wpAnyG_take (v := ?_) 10 (by rfl) (by kernel_rfl) (by kernel_rfl) (by kernel_rfl) (by kernel_rfl) (fun _ _ _ h => h) (Or.inl ⟨by rfl, ?_⟩) (by assumption) ?_
            rotate_left
            · (intro w' hSw; (try dsimp only at hSw); (try simp only [List.getElem_toArray, List.getElem_cons_succ, List.getElem_cons_zero]); go_simp; try (with_reducible rfl))
            simp only [Act.put, List.getElem_toArray, List.getElem_cons_succ, List.getElem_cons_zero, List.setIfInBounds_toArray, List.set_cons_zero, List.set_cons_succ]
            refine wpAnyG_take (v := ?_) 11 (by rfl) (by kernel_rfl) (by kernel_rfl) (by kernel_rfl) (by kernel_rfl) (fun _ _ _ h => h) (Or.inl ⟨by rfl, ?_⟩) (by assumption) ?_
            rotate_left
            · (intro w' hSw; (try dsimp only at hSw); (try simp only [List.getElem_toArray, List.getElem_cons_succ, List.getElem_cons_zero]); go_simp; try (with_reducible rfl))
            simp only [Act.put, List.getElem_toArray, List.getElem_cons_succ, List.getElem_cons_zero, List.setIfInBounds_toArray, List.set_cons_zero, List.set_cons_succ]
            refine wpAnyG_take (v := ?_) 12 (by rfl) (by kernel_rfl) (by kernel_rfl) (by kernel_rfl) (by kernel_rfl) (fun _ _ _ h => h) (Or.inl ⟨by rfl, ?_⟩) (by assumption) ?_
            rotate_left
            · (intro w' hSw; (try dsimp only at hSw); (try simp only [List.getElem_toArray, List.getElem_cons_succ, List.getElem_cons_zero]); go_simp; try (with_reducible rfl))
            simp only [Act.put, List.getElem_toArray, List.getElem_cons_succ, List.getElem_cons_zero, List.setIfInBounds_toArray, List.set_cons_zero, List.set_cons_succ]
            refine wpAnyG_ready [13] (by kernel_rfl) (by simp) ?_
            refine AllReadyG.cons 13 (by rfl) (fun K hK => ?_) ?_
            · simp only [List.getElem_toArray, List.getElem_cons_succ, List.getElem_cons_zero]
              go_simp
              refine hK.out _ _ ⟨slot_set hxo hS0.1, slot_set hxo hS0.2⟩ (fun _ => ?_)
              clear hK K
              try simp only [Act.put, List.setIfInBounds_toArray, List.set_cons_zero, List.set_cons_succ]
              refine wpAnyG_take (v := ?_) 14 (by rfl) (by kernel_rfl) (by kernel_rfl) (by kernel_rfl) (by kernel_rfl) (fun _ _ _ h => h) (Or.inl ⟨by rfl, ?_⟩) (by assumption) ?_
              rotate_left
              · (intro w' hSw; (try dsimp only at hSw); (try simp only [List.getElem_toArray, List.getElem_cons_succ, List.getElem_cons_zero]); go_simp; try (with_reducible rfl))
              simp only [Act.put, List.getElem_toArray, List.getElem_cons_succ, List.getElem_cons_zero, List.setIfInBounds_toArray, List.set_cons_zero, List.set_cons_succ]
              refine wpAnyG_ready [15] (by kernel_rfl) (by simp) ?_
              refine AllReadyG.cons 15 (by rfl) (fun K hK => ?_) ?_
              · simp only [List.getElem_toArray, List.getElem_cons_succ, List.getElem_cons_zero]
                go_simp
                refine hK.out _ _ ⟨slot_set hxc (slot_set hxo hS0.1), slot_set hxc (slot_set hxo hS0.2)⟩ (fun _ => ?_)
                clear hK K
                try simp only [Act.put, List.setIfInBounds_toArray, List.set_cons_zero, List.set_cons_succ]
                refine wpAnyG_done (by kernel_rfl) ?_ _
                refine NoPanic.normal ?_
                clear hHeld hS0 k0 kf k1 kg
                go_wp2
                go_meet
                exact ⟨_, rfl, HQ⟩
              exact AllReadyG.nil
            exact AllReadyG.nil
          case rest =>
            obtain ⟨ws, rfl, HW⟩ := hcut
            cases d with
            | zero =>
              obtain ⟨e1, e2⟩ := (unhide HJ).last
              have e3 : y0 = -1 := by rw [← (unhide HY).1]; exact e1
              subst e3
              have HE := hide e2
              clear e1 e2 HJ HY hq hb HZ
              go_wp2
              go_roundg 0
              case rel => exact ⟨_, _, (v1 : Int), y1, rfl, rfl, HW, .inr ⟨rfl, HE⟩⟩
              case measure => omega
            | succ d =>
              obtain ⟨u, e1, hJ2, hun⟩ := (unhide HJ).step (unhide HF)
              have e3 : y0 = (u : Int) := by rw [← (unhide HY).1]; exact e1
              subst e3
              rw [(unhide HY).2] at hJ2
              have HJ2 := hide hJ2
              clear hJ2 HJ HY hq hb HZ e1
              go_wp2
              go_roundg (d + 1)
              case rel => exact ⟨_, _, (v1 : Int), y1, rfl, rfl, HW, .inl ⟨u, d, rfl, rfl, hun, HJ2⟩⟩
              case measure => omega
      · have HI2 : Hid (LkR wr x o c n co cw F.1 F.2 ∧ Bt (fun b => b = o ∨ b = c) w wr) := hide (by rw [unhide HE]; exact unhide HI)
        clear HE
        go_wp2
        rw [unhide HP]
        exact ⟨rfl, unhide HI2⟩
set_option maxRecDepth 100000 in
set_option maxHeartbeats 8000000 in
theorem lkradd_any {x o c n co cw : Nat} {U W : Nat → Int} (hF : Sp.Fo n U) (v by_ : Int) (w : World) (h : LkR w x o c n co cw U W) :
    Calls Try.prog 31 #[.pointer (some ⟨x, 0, none⟩), .int .i64 v, .int .i64 by_] w fun e w' => e = .returned (.bool (Sp.hs n v)) ∧ LkR w' x o c n co cw U (Sp.ad n U W v by_) ∧ Bt (fun b => b = o ∨ b = c) w w' := by
  have HC := hide (lkris_any v w h)
  unfold Sp.ad
  rcases Sp.int_case n v with h1 | ⟨k, rfl, hk⟩
  · rw [Sp.hs_no h1] at HC ⊢
    rw [if_neg (by decide)]
    have H := hide h
    clear h h1 hF
    go_enter Try.func31, Try.ntmps31
    go_wp2_with fail
    go_at_call 24
    refine (unhide HC).mono ?_
    rintro e w' ⟨rfl, hw⟩
    have hw' := hw.symm
    subst hw'
    clear hw
    go_wp2
    go_ret
    exact ⟨rfl, unhide H, Bt.refl _ _⟩
  · rw [Sp.hs_yes hk] at HC ⊢
    rw [if_pos rfl, Int.toNat_natCast]
    obtain ⟨m, a, hu, ha, -⟩ := hF.ex hk
    rw [Sp.dp_is hu ha]
    obtain ⟨F, hFF⟩ : ∃ F, Sp.addW U by_ (m + 1) W k = F := ⟨_, rfl⟩
    rw [hFF]
    have HU : Hid (Sp.Upw U m k a ∧ Sp.addW U by_ (m + 1) W k = F) := hide ⟨hu, hFF⟩
    have HF := hide hF
    have Ha := hide ha
    have HI0 : Hid (LkR w x o c n co cw U W ∧ Bt (fun b => b = o ∨ b = c) w w) := hide ⟨h, Bt.refl _ _⟩
    obtain ⟨P, hP⟩ : ∃ P : Ending → World → Prop, P = fun e w' => e = .returned (.bool true) ∧ LkR w' x o c n co cw U F ∧ Bt (fun b => b = o ∨ b = c) w w' := ⟨_, rfl⟩
    rw [← hP]
    have HP := hide hP
    clear hP
    clear h hF hu ha hFF
    go_enter Try.func31, Try.ntmps31
    go_wp2_with fail
    go_at_call 24
    refine (unhide HC).mono ?_
    rintro e w' ⟨rfl, hw⟩
    have hw' := hw.symm
    subst hw'
    clear hw
    clear HC
    go_wp2
    go_loopg [1] m (fun g' s1 wr => ∃ (v1 : Nat) (W1 : Nat → Int), s1 = .int .i64 (v1 : Int) ∧ v1 < n ∧ Hid (Sp.Upw U g' v1 a ∧ Sp.addW U by_ (g' + 1) W1 v1 = F) ∧ Hid (LkR wr x o c n co cw U W1 ∧ Bt (fun b => b = o ∨ b = c) w wr))
    case atStart => exact ⟨k, W, rfl, hk, HU, HI0⟩
    case round =>
      clear HI0 HU hk
      obtain ⟨v1, W1, rfl, hv, HV, HI⟩ := hrel
      have hq := (unhide HI).1
      have hb := (unhide HI).2
      have h0 := hq.slot0
      have h1 := hq.upc hv
      have hvI : (v1 : Int) < (n : Int) := by omega
      cases gk with
      | zero =>
        have e : a = v1 := (unhide HV).1
        subst e
        have e2 := (unhide HV).2
        rw [Sp.addW_one (unhide Ha)] at e2
        rw [unhide Ha] at h1
        have HI2 : Hid (LkR wr x o c n co cw U F ∧ Bt (fun b => b = o ∨ b = c) w wr) := hide (by rw [← e2]; exact unhide HI)
        clear e2 hq hb
        go_wp2
        rw [unhide HP]
        exact ⟨rfl, unhide HI2⟩
      | succ g' =>
        obtain ⟨⟨u, e, hu⟩, h2⟩ := unhide HV
        rw [Sp.addW_step e] at h2
        have hun : u < n := (unhide HF).up_lt hv (k := 1) ⟨u, e, rfl⟩
        rw [e] at h1
        have hud : (u : Int) ≥ 0 := by omega
        obtain ⟨y, hy⟩ : ∃ y, W1 v1 = y := ⟨_, rfl⟩
        rw [hy] at h2
        obtain ⟨z, hz⟩ : ∃ z, IntKind.i64.wrap (y + by_) = z := ⟨_, rfl⟩
        rw [hz] at h2
        have HV2 : Hid (Sp.Upw U g' u a ∧ Sp.addW U by_ (g' + 1) (Sp.upd W1 v1 z) u = F) := hide ⟨hu, h2⟩
        have He := hide e
        clear h2 hu e HV
        go_upto_region 5 with fail
        have hqd := hq.below (Below.refl _ _).drew
        have hbd := hb.drew
        have hS0 : wr.drew.cell? ⟨x, 0, none⟩ = some (.slice (some ⟨o, 0, none⟩) n co) ∧ wr.drew.cell? ⟨x, 1, none⟩ = some (.slice (some ⟨c, 0, none⟩) n cw) ∧ wr.drew.cell? ⟨c, v1, none⟩ = some (.int .i64 y) := ⟨hqd.slot0, hqd.slot1, by rw [hqd.wtc hv, hy]⟩
        refine wp_region_G (fun w' => w'.cell? ⟨x, 0, none⟩ = some (.slice (some ⟨o, 0, none⟩) n co) ∧ w'.cell? ⟨x, 1, none⟩ = some (.slice (some ⟨c, 0, none⟩) n cw) ∧ w'.cell? ⟨c, v1, none⟩ = some (.int .i64 y)) (fun j => j == 15) (by kernel_rfl) hS0 (fun hHeld => ?_)
        generalize wr.drew = wq at *
        have k1 := hS0.2.2
        have kg := fun i => hqd.wt.frozen i
        have HQ : Hid (LkR (wq.setCell ⟨c, v1, none⟩ (.int .i64 z)) x o c n co cw U (Sp.upd W1 v1 z) ∧ Bt (fun b => b = o ∨ b = c) w (wq.setCell ⟨c, v1, none⟩ (.int .i64 z))) := hide ⟨hqd.setW v1 z, hbd.set (.inl (.inr rfl)) _ _ _⟩
        clear hqd hbd
        refine wpAnyG_take (v := ?_) 0 (by rfl) (by kernel_rfl) (by kernel_rfl) (by kernel_rfl) (by kernel_rfl) (fun _ _ _ h => h) (Or.inl ⟨by rfl, ?_⟩) (by assumption) ?_
        rotate_left
        · (intro w' hSw; (try dsimp only at hSw); (try simp only [List.getElem_toArray, List.getElem_cons_zero]); go_simp; try (with_reducible rfl))
        simp only [Act.put, List.getElem_toArray, List.getElem_cons_zero, List.setIfInBounds_toArray, List.set_cons_zero, List.set_cons_succ]
        refine wpAnyG_take (v := ?_) 1 (by rfl) (by kernel_rfl) (by kernel_rfl) (by kernel_rfl) (by kernel_rfl) (fun _ _ _ h => h) (Or.inl ⟨by rfl, ?_⟩) (by assumption) ?_
        rotate_left
        · (intro w' hSw; (try dsimp only at hSw); (try simp only [List.getElem_toArray, List.getElem_cons_succ, List.getElem_cons_zero]); go_simp; try (with_reducible rfl))
        simp only [Act.put, List.getElem_toArray, List.getElem_cons_succ, List.getElem_cons_zero, List.setIfInBounds_toArray, List.set_cons_zero, List.set_cons_succ]
        refine wpAnyG_take (v := ?_) 2 (by rfl) (by kernel_rfl) (by kernel_rfl) (by kernel_rfl) (by kernel_rfl) (fun _ _ _ h => h) (Or.inl ⟨by rfl, ?_⟩) (by assumption) ?_
        rotate_left
        · (intro w' hSw; (try dsimp only at hSw); (try simp only [List.getElem_toArray, List.getElem_cons_succ, List.getElem_cons_zero]); go_simp; try (with_reducible rfl))
        simp only [Act.put, List.getElem_toArray, List.getElem_cons_succ, List.getElem_cons_zero, List.setIfInBounds_toArray, List.set_cons_zero, List.set_cons_succ]
        refine wpAnyG_take (v := ?_) 3 (by rfl) (by kernel_rfl) (by kernel_rfl) (by kernel_rfl) (by kernel_rfl) (fun _ _ _ h => h) (Or.inl ⟨by rfl, ?_⟩) (by assumption) ?_
        rotate_left
        · (intro w' hSw; (try dsimp only at hSw); (try simp only [List.getElem_toArray, List.getElem_cons_succ, List.getElem_cons_zero]); go_simp; try (with_reducible rfl))
        simp only [Act.put, List.getElem_toArray, List.getElem_cons_succ, List.getElem_cons_zero, List.setIfInBounds_toArray, List.set_cons_zero, List.set_cons_succ]
        refine wpAnyG_take (v := ?_) 4 (by rfl) (by kernel_rfl) (by kernel_rfl) (by kernel_rfl) (by kernel_rfl) (fun _ _ _ h => h) (Or.inl ⟨by rfl, ?_⟩) (by assumption) ?_
        rotate_left
        · (intro w' hSw; (try dsimp only at hSw); (try simp only [List.getElem_toArray, List.getElem_cons_succ, List.getElem_cons_zero]); go_simp; try (with_reducible rfl))
        simp only [Act.put, List.getElem_toArray, List.getElem_cons_succ, List.getElem_cons_zero, List.setIfInBounds_toArray, List.set_cons_zero, List.set_cons_succ]
        refine wpAnyG_take (v := ?_) 5 (by rfl) (by kernel_rfl) (by kernel_rfl) (by kernel_rfl) (by kernel_rfl) (fun _ _ _ h => h) (Or.inl ⟨by rfl, ?_⟩) (by assumption) ?_
        rotate_left
        · (intro w' hSw; (try dsimp only at hSw); (try simp only [List.getElem_toArray, List.getElem_cons_succ, List.getElem_cons_zero]); go_simp; try (with_reducible rfl))
        simp only [Act.put, List.getElem_toArray, List.getElem_cons_succ, List.getElem_cons_zero, List.setIfInBounds_toArray, List.set_cons_zero, List.set_cons_succ]
        refine wpAnyG_take (v := ?_) 6 (by rfl) (by kernel_rfl) (by kernel_rfl) (by kernel_rfl) (by kernel_rfl) (fun _ _ _ h => h) (Or.inl ⟨by rfl, ?_⟩) (by assumption) ?_
        rotate_left
        · (intro w' hSw; (try dsimp only at hSw); (try simp only [List.getElem_toArray, List.getElem_cons_succ, List.getElem_cons_zero]); go_simp; try (with_reducible rfl))
        simp only [Act.put, List.getElem_toArray, List.getElem_cons_succ, List.getElem_cons_zero, List.setIfInBounds_toArray, List.set_cons_zero, List.set_cons_succ]
        refine wpAnyG_take (v := ?_) 7 (by rfl) (by kernel_rfl) (by kernel_rfl) (by kernel_rfl) (by kernel_rfl) (fun _ _ _ h => h) (Or.inl ⟨by rfl, ?_⟩) (by assumption) ?_
        rotate_left
        · (intro w' hSw; (try dsimp only at hSw); (try simp only [List.getElem_toArray, List.getElem_cons_succ, List.getElem_cons_zero]); go_simp; try (with_reducible rfl))
        simp only [Act.put, List.getElem_toArray, List.getElem_cons_succ, List.getElem_cons_zero, List.setIfInBounds_toArray, List.set_cons_zero, List.set_cons_succ]
        refine wpAnyG_take (v := ?_) 8 (by rfl) (by kernel_rfl) (by kernel_rfl) (by kernel_rfl) (by kernel_rfl) (fun _ _ _ h => h) (Or.inl ⟨by rfl, ?_⟩) (by assumption) ?_
        rotate_left
        · (intro w' hSw; (try dsimp only at hSw); (try simp only [List.getElem_toArray, List.getElem_cons_succ, List.getElem_cons_zero]); go_simp; try (with_reducible rfl))
        simp only [Act.put, List.getElem_toArray, List.getElem_cons_succ, List.getElem_cons_zero, List.setIfInBounds_toArray, List.set_cons_zero, List.set_cons_succ]
        refine wpAnyG_take (v := ?_) 9 (by rfl) (by kernel_rfl) (by kernel_rfl) (by kernel_rfl) (by kernel_rfl) (fun _ _ _ h => h) (Or.inl ⟨by rfl, ?_⟩) (by assumption) ?_
        rotate_left
        · (intro w' hSw; (try dsimp only at hSw); (try simp only [List.getElem_toArray, List.getElem_cons_succ, List.getElem_cons_zero]); go_simp; try (with_reducible rfl))
        simp only [Act.put, List.getElem_toArray, List.getElem_cons_succ, List.getElem_cons_zero, List.setIfInBounds_toArray, List.set_cons_zero, List.set_cons_succ]
        refine wpAnyG_take (v := ?_) 10 (by rfl) (by kernel_rfl) (by kernel_rfl) (by kernel_rfl) (by kernel_rfl) (fun _ _ _ h => h) (Or.inl ⟨by rfl, ?_⟩) (by assumption) ?_
        rotate_left
        · (intro w' hSw; (try dsimp only at hSw); (try simp only [List.getElem_toArray, List.getElem_cons_succ, List.getElem_cons_zero]); go_simp; try (with_reducible rfl))
        simp only [Act.put, List.getElem_toArray, List.getElem_cons_succ, List.getElem_cons_zero, List.setIfInBounds_toArray, List.set_cons_zero, List.set_cons_succ]
        refine wpAnyG_take (v := ?_) 11 (by rfl) (by kernel_rfl) (by kernel_rfl) (by kernel_rfl) (by kernel_rfl) (fun _ _ _ h => h) (Or.inl ⟨by rfl, ?_⟩) (by assumption) ?_
        rotate_left
        · (intro w' hSw; (try dsimp only at hSw); (try simp only [List.getElem_toArray, List.getElem_cons_succ, List.getElem_cons_zero]); go_simp; try (with_reducible rfl))
        simp only [Act.put, List.getElem_toArray, List.getElem_cons_succ, List.getElem_cons_zero, List.setIfInBounds_toArray, List.set_cons_zero, List.set_cons_succ]
        refine wpAnyG_take (v := ?_) 12 (by rfl) (by kernel_rfl) (by kernel_rfl) (by kernel_rfl) (by kernel_rfl) (fun _ _ _ h => h) (Or.inl ⟨by rfl, ?_⟩) (by assumption) ?_
        rotate_left
        · (intro w' hSw; (try dsimp only at hSw); (try simp only [List.getElem_toArray, List.getElem_cons_succ, List.getElem_cons_zero]); go_simp; try (with_reducible rfl))
        simp only [Act.put, List.getElem_toArray, List.getElem_cons_succ, List.getElem_cons_zero, List.setIfInBounds_toArray, List.set_cons_zero, List.set_cons_succ]
        refine wpAnyG_take (v := ?_) 13 (by rfl) (by kernel_rfl) (by kernel_rfl) (by kernel_rfl) (by kernel_rfl) (fun _ _ _ h => h) (Or.inl ⟨by rfl, ?_⟩) (by assumption) ?_
        rotate_left
        · (intro w' hSw; (try dsimp only at hSw); (try simp only [List.getElem_toArray, List.getElem_cons_succ, List.getElem_cons_zero]); go_simp; try (with_reducible rfl))
        simp only [Act.put, List.getElem_toArray, List.getElem_cons_succ, List.getElem_cons_zero, List.setIfInBounds_toArray, List.set_cons_zero, List.set_cons_succ]
        refine wpAnyG_take (v := ?_) 14 (by rfl) (by kernel_rfl) (by kernel_rfl) (by kernel_rfl) (by kernel_rfl) (fun _ _ _ h => h) (Or.inl ⟨by rfl, ?_⟩) (by assumption) ?_
        rotate_left
        · (intro w' hSw; (try dsimp only at hSw); (try simp only [List.getElem_toArray, List.getElem_cons_succ, List.getElem_cons_zero]); go_simp; try (with_reducible rfl))
        simp only [Act.put, List.getElem_toArray, List.getElem_cons_succ, List.getElem_cons_zero, List.setIfInBounds_toArray, List.set_cons_zero, List.set_cons_succ]
        refine wpAnyG_ready [15] (by kernel_rfl) (by simp) ?_
        refine AllReadyG.last 15 (by rfl) (by kernel_rfl) (fun K hK => ?_) ?_
        · simp only [List.getElem_toArray, List.getElem_cons_succ, List.getElem_cons_zero]
          go_simp
          refine hK.out _ _ ?_
          clear hK K
          try simp only [Act.put, List.setIfInBounds_toArray, List.set_cons_zero, List.set_cons_succ]
          refine wpAnyG_done (by kernel_rfl) ?_ _
          refine NoPanic.normal ?_
          clear hHeld hS0 k1 kg
          have q0 := (unhide HQ).1.slot0
          have q1 := (unhide HQ).1.upc hv
          rw [unhide He] at q1
          go_wp2
          go_roundg g'
          case rel => exact ⟨u, _, rfl, hun, HV2, HQ⟩
          case measure => omega
        exact AllReadyG.nil
set_option maxRecDepth 100000 in
set_option maxHeartbeats 8000000 in
theorem lkrleast_any {x o c n co cw : Nat} {U W : Nat → Int} (hF : Sp.Fo n U) (v : Int) (w : World) (h : LkR w x o c n co cw U W) :
    Calls Try.prog 32 #[.pointer (some ⟨x, 0, none⟩), .int .i64 v] w fun e w' => e = .returned (.tuple #[.int .i64 (if Sp.hg n U v = true then ((Sp.ls U W v : Nat) : Int) else 0), .int .i64 (if Sp.hg n U v = true then W (Sp.ls U W v) else 0), .bool (Sp.hg n U v)]) ∧ Below w.heap.size w w' := by
  have HC := hide (lkris_any v w h)
  rcases Sp.int_case n v with h1 | ⟨k, rfl, hk⟩
  · rw [Sp.hs_no h1] at HC
    rw [Sp.hg_no h1, if_neg (by decide), if_neg (by decide)]
    clear h h1 hF
    go_enter Try.func32, Try.ntmps32
    go_wp2_with fail
    go_at_call 24
    refine (unhide HC).mono ?_
    rintro e w' ⟨rfl, hw⟩
    have hw' := hw.symm
    subst hw'
    clear hw
    go_wp2
    go_ret3
    exact ⟨rfl, Below.refl _ _⟩
  · rw [Sp.hs_yes hk] at HC
    have h0 := h.slot0
    have h0' := h.slot1
    have h1 := h.upc hk
    have hkI : (k : Int) < (n : Int) := by omega
    rcases hF.at_ hk with e | ⟨u0, e, -⟩
    · rw [e] at h1
      rw [Sp.hg_root e, if_neg (by decide), if_neg (by decide)]
      clear h hF e
      go_enter Try.func32, Try.ntmps32
      go_wp2_with fail
      go_at_call 24
      refine (unhide HC).mono ?_
      rintro e w' ⟨rfl, hw⟩
      have hw' := hw.symm
      subst hw'
      clear hw
      go_wp2
      go_ret3
      exact ⟨rfl, Below.refl _ _⟩
    · rw [Sp.hg_yes hk (show U k ≠ -1 by omega), if_pos rfl, if_pos rfl]
      rw [e] at h1
      have hud : ¬ (u0 : Int) < 0 := by omega
      obtain ⟨m, a, hu, ha, -⟩ := hF.ex hk
      obtain ⟨A, hA⟩ : ∃ A, Sp.ls U W (k : Int) = A := ⟨_, rfl⟩
      have hA2 := hA
      unfold Sp.ls at hA2
      rw [Int.toNat_natCast, Sp.dp_is hu ha] at hA2
      rw [hA]
      have HU : Hid (Sp.Upw U m k a ∧ Sp.leastA U W (m + 1) k k = A) := hide ⟨hu, hA2⟩
      have HF := hide hF
      have Ha := hide ha
      have H := hide h
      obtain ⟨P, hP⟩ : ∃ P : Ending → World → Prop, P = fun e w' => e = .returned (.tuple #[.int .i64 (A : Int), .int .i64 (W A), .bool true]) ∧ Below w.heap.size w w' := ⟨_, rfl⟩
      rw [← hP]
      have HP := hide hP
      clear hP
      clear h hF hu ha hA hA2 e
      go_enter Try.func32, Try.ntmps32
      go_wp2_with fail
      go_at_call 24
      refine (unhide HC).mono ?_
      rintro e w' ⟨rfl, hw⟩
      have hw' := hw.symm
      subst hw'
      clear hw
      clear HC
      go_wp2
      clear h0 h0' h1
      go_loopg [1, 7] m (fun g' s1 s7 wr => ∃ v1 a1 : Nat, s1 = .int .i64 (v1 : Int) ∧ s7 = .int .i64 (a1 : Int) ∧ v1 < n ∧ a1 < n ∧ Hid (Sp.Upw U g' v1 a ∧ Sp.leastA U W (g' + 1) v1 a1 = A) ∧ Hid (Below w.heap.size w wr))
      case atStart => exact ⟨k, k, rfl, rfl, hk, hk, HU, hide (Below.refl _ _)⟩
      case round =>
        clear HU
        obtain ⟨v1, a1, rfl, rfl, hv, hv2, HV, HI⟩ := hrel
        have HqN : Hid (∀ nq, LkR (wr.drewN nq) x o c n co cw U W ∧ Below w.heap.size w (wr.drewN nq)) := hide fun nq => ⟨(unhide H).below (below_dn (unhide HI) nq), below_dn (unhide HI) nq⟩
        have hq := (unhide H).below (unhide HI)
        have h0 := hq.slot0
        have h0' := hq.slot1
        have h1 := hq.upc hv
        have h2 := hq.wtc hv
        have h3 := hq.wtc hv2
        have hvI : (v1 : Int) < (n : Int) := by omega
        have haI : (a1 : Int) < (n : Int) := by omega
        clear hq
        cases gk with
        | zero =>
          have e : a = v1 := (unhide HV).1
          subst e
          have e2 := (unhide HV).2
          rw [Sp.leastA_one (unhide Ha)] at e2
          subst e2
          rw [unhide Ha] at h1
          clear HV h2
          go_wp2_with fail
          go_quiet (fail)
          go_wp2
          rw [unhide HP]
          go_ret3
          exact ⟨rfl, (unhide HqN _).2⟩
        | succ g' =>
          obtain ⟨⟨u, e, hu⟩, h4⟩ := unhide HV
          rw [Sp.leastA_step e] at h4
          have hun : u < n := (unhide HF).up_lt hv (k := 1) ⟨u, e, rfl⟩
          have hud2 : (u : Int) ≥ 0 := by omega
          rw [e] at h1
          by_cases hle : W v1 ≤ W a1
          · rw [if_pos hle] at h4
            have HV2 : Hid (Sp.Upw U g' u a ∧ Sp.leastA U W (g' + 1) u v1 = A) := hide ⟨hu, h4⟩
            have hld : decide (W v1 ≤ W a1) = true := decide_eq_true hle
            clear h4 HV hu e
            go_wp2_with fail
            go_quiet (fail)
            go_wp2
            go_roundg g'
            case rel => exact ⟨u, v1, rfl, rfl, hun, hv, HV2, hide (unhide HqN _).2⟩
            case measure => omega
          · rw [if_neg hle] at h4
            have HV2 : Hid (Sp.Upw U g' u a ∧ Sp.leastA U W (g' + 1) u a1 = A) := hide ⟨hu, h4⟩
            have hld : decide (W v1 ≤ W a1) = false := decide_eq_false hle
            clear h4 HV hu e
            go_wp2_with fail
            go_quiet (fail)
            go_wp2
            go_roundg g'
            case rel => exact ⟨u, a1, rfl, rfl, hun, hv2, HV2, hide (unhide HqN _).2⟩
            case measure => omega
end Go.Proofs.Ytohfmohkaaidpab


/- Package link: New; the law's within; two forests are the same. -/
namespace Go.Proofs.Ytohfmohkaaidpab
open Go Go.RowKit

theorem tmod_casesK (a n : Int) (hn : 0 < n) : (a.tmod n < 0 ∧ a.tmod n + n = a % n) ∨ (0 ≤ a.tmod n ∧ a.tmod n = a % n) := by
  have h0 : 0 ≤ a % n := Int.emod_nonneg a (by omega)
  have h1 : a % n < n := Int.emod_lt_of_pos a hn
  have e := Int.tmod_eq_emod (a := a) (b := n)
  split at e
  · right; omega
  · left
    have : ((n.natAbs : Nat) : Int) = n := by omega
    omega
theorem ret_intK {k : IntKind} {a b : Int} (h : a = b) : Ending.returned (.int k a) = .returned (.int k b) := by rw [h]
theorem Sp.fo_new (n : Nat) : Sp.Fo n (fun _ => -1) := ⟨fun _ => 0, fun _ _ => .inl rfl⟩
set_option maxRecDepth 100000 in
set_option maxHeartbeats 2000000 in
theorem lknew_any (n : Nat) (w : World) (hn1 : 1 ≤ n) (hn : n ≤ 60) :
    Calls Try.prog 7 #[.int .i64 (n : Int)] w fun e w' => ∃ f g, e = .returned (.pointer (some ⟨f, 0, none⟩)) ∧ LkP w' f g n (fun _ => -1) (fun _ => 0) ∧ Below w.heap.size w w' ∧ w.heap.size ≤ f ∧ w.heap.size ≤ g := by
  obtain ⟨W1, hW1⟩ : ∃ W1, W1 = w.alloc (.cells #[.int .i64 (-1), .int .i64 0] 48) := ⟨_, rfl⟩
  have hb1 : Below w.heap.size w W1 := by rw [hW1]; exact (Below.refl _ w).alloc (Nat.le_refl _) _
  have hz1 : W1.heap.size = w.heap.size + 1 := by rw [hW1]; simp
  have hc1 : W1.heap[w.heap.size]? = some (.cells #[.int .i64 (-1), .int .i64 0] 48) := by rw [hW1]; exact heap_alloc_new w _
  obtain ⟨c0, c1, -⟩ := edge_cells hc1
  have HC := hide (repeatEd_any (-1) 0 w.heap.size n W1 hn1 hn c0 c1 (by omega))
  have HB := hide (And.intro hb1 hz1)
  have hm1 : max (n : Int) 0 = (n : Int) := by omega
  have hm2 : min (n : Int) 300 = (n : Int) := by omega
  have hnI : (0 : Int) ≤ (n : Int) := by omega
  have hn3 : (n : Int) ≤ 300 := by omega
  obtain ⟨P, hP⟩ : ∃ P : Ending → World → Prop, P = fun e w' => ∃ f g, e = .returned (.pointer (some ⟨f, 0, none⟩)) ∧ LkP w' f g n (fun _ => -1) (fun _ => 0) ∧ Below w.heap.size w w' ∧ w.heap.size ≤ f ∧ w.heap.size ≤ g := ⟨_, rfl⟩
  rw [← hP]
  have HP := hide hP
  clear hP hb1 hz1 hc1 c0 c1
  go_enter Try.func7, Try.ntmps7
  go_wp2_with fail
  all_goals try omega
  go_at_call 21
  rw [← hW1]
  refine (unhide HC).mono ?_
  rintro e w2 ⟨rfl, hr2, hb2⟩
  have hgl := hr2.lt
  have HQ : Hid (LkP (w2.alloc (.cells #[.slice (some ⟨W1.heap.size, 0, none⟩) n n] 50)) w2.heap.size W1.heap.size n (fun _ => -1) (fun _ => 0) ∧ Below w.heap.size w (w2.alloc (.cells #[.slice (some ⟨W1.heap.size, 0, none⟩) n n] 50)) ∧ w.heap.size ≤ w2.heap.size ∧ w.heap.size ≤ W1.heap.size) := hide (by
    have hbb := (unhide HB).1.trans (hb2.mono (unhide HB).1.size)
    refine ⟨⟨heap_alloc_new w2 _, (hr2.alloc _).congr fun j hj => ?_, by omega⟩, hbb.alloc hbb.size _, hbb.size, (unhide HB).1.size⟩
    unfold Sp.repEd Sp.ed
    rw [if_pos hj])
  clear hr2 hb2 hgl HB HC hW1
  go_wp2
  rw [unhide HP]
  exact ⟨_, _, rfl, unhide HQ⟩
set_option maxRecDepth 100000 in
set_option maxHeartbeats 1000000 in
theorem within7_any (a n : Int) (w : World) (hn : 0 < n) (hn1 : n ≤ 4611686018427387904) :
    Calls Try.prog 9 #[.int .i64 a, .int .i64 n] w fun e w' => e = .returned (.int .i64 (a % n)) ∧ w' = w := by
  have h0 : 0 ≤ a % n := Int.emod_nonneg a (by omega)
  have h1 : a % n < n := Int.emod_lt_of_pos a hn
  rcases tmod_casesK a n hn with ⟨ha, hb⟩ | ⟨ha, hb⟩
  · have hc : -n ≤ a.tmod n := by omega
    have Hb := hide hb; clear hb h0 h1
    go_enter Try.func9, Try.ntmps9
    go_wp2
    go_ret
    exact ⟨ret_intK (unhide Hb), rfl⟩
  · have Hb := hide hb; clear hb h0 h1
    go_enter Try.func9, Try.ntmps9
    go_wp2
    go_ret
    exact ⟨ret_intK (unhide Hb), rfl⟩
set_option maxRecDepth 100000 in
set_option maxHeartbeats 4000000 in
/-- Two forests of the same state are told to be the same. -/
theorem same7_any {f g x o c n co cw : Nat} {U W : Nat → Int} (hF : Sp.Fo n U) (w : World) (hn : n ≤ 300) (h : LkP w f g n U W) (k : LkR w x o c n co cw U W) :
    Calls Try.prog 19 #[.pointer (some ⟨f, 0, none⟩), .pointer (some ⟨x, 0, none⟩), .int .i64 (n : Int)] w fun e w' => e = .returned (.bool true) ∧ Below w.heap.size w w' := by
  have H := hide (And.intro h k)
  have HF := hide hF
  obtain ⟨P, hP⟩ : ∃ P : Ending → World → Prop, P = fun e w' => e = .returned (.bool true) ∧ Below w.heap.size w w' := ⟨_, rfl⟩
  rw [← hP]
  have HP := hide hP
  clear hP h k hF
  go_enter Try.func19, Try.ntmps19
  go_wp2
  go_loopg [7] (n + 2) (fun g' s7 wr => ∃ v : Int, s7 = .int .i64 v ∧ v + (g' : Int) = (n : Int) + 1 ∧ -1 ≤ v ∧ Hid (Below w.heap.size w wr))
  case atStart => exact ⟨-1, rfl, by omega, by omega, hide (Below.refl _ _)⟩
  case round =>
    obtain ⟨v, rfl, hvg, hv, HI⟩ := hrel
    cases gk with
    | zero =>
      have hvn : ¬ v ≤ (n : Int) := by omega
      go_wp2
      rw [unhide HP]
      exact ⟨rfl, unhide HI⟩
    | succ g' =>
      have hvn : v ≤ (n : Int) := by omega
      have hp := (unhide H).1.below (unhide HI)
      have hr := (unhide H).2.below (unhide HI)
      have HC1 := hide (lkup_any v wr hp)
      have HC2 := hide (lkrup_any (unhide HF) v wr hr)
      have HC3 := hide (lkweight_any v wr hp)
      have HC4 := hide (lkrweight_any (unhide HF) v wr hr)
      have HC5 := hide (lkroot_any (unhide HF) v wr hp)
      have HC6 := hide (lkrroot_any (unhide HF) v wr hr)
      generalize (if Sp.hg n U v = true then U v.toNat else 0) = a at *
      generalize (if Sp.hg n U v = true then W v.toNat else 0) = b at *
      generalize Sp.hg n U v = R at *
      generalize Sp.rt n U v = r at *
      have e1 : (a != a) = false := by simp
      have e2 : (R != R) = false := by simp
      have e3 : (b != b) = false := by simp
      have e4 : (r != r) = false := by simp
      clear hp hr
      go_wp2_with fail
      go_at_call 17
      refine (unhide HC1).mono ?_
      rintro e w' ⟨rfl, hw⟩
      have hw' := hw.symm
      subst hw'
      clear hw
      go_wp2_with fail
      go_at_call 26
      refine (unhide HC2).mono ?_
      rintro e w' ⟨rfl, hw⟩
      have hw' := hw.symm
      subst hw'
      clear hw
      go_wp2_with fail
      go_at_call 18
      refine (unhide HC3).mono ?_
      rintro e w' ⟨rfl, hw⟩
      have hw' := hw.symm
      subst hw'
      clear hw
      go_wp2_with fail
      go_at_call 27
      refine (unhide HC4).mono ?_
      rintro e w' ⟨rfl, hw⟩
      have hw' := hw.symm
      subst hw'
      clear hw
      go_wp2_with fail
      go_at_call 13
      refine (unhide HC5).mono ?_
      rintro e w' ⟨rfl, hw⟩
      have hw' := hw.symm
      subst hw'
      clear hw
      go_wp2_with fail
      go_at_call 25
      refine (unhide HC6).mono ?_
      rintro e w' ⟨rfl, hw⟩
      have hw' := hw.symm
      subst hw'
      clear hw HC1 HC2 HC3 HC4 HC5 HC6
      go_wp2
      go_roundg g'
      case rel => exact ⟨v + 1, by go_num, by omega, by omega, HI⟩
      case measure => omega
end Go.Proofs.Ytohfmohkaaidpab


