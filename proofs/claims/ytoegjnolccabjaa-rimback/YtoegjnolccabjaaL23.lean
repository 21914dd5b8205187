/- What the proof needs, part 23. -/
import Derived.Test.YtoegjnolccabjaaL22
/- The law RimBack, walked. -/
namespace Go.Proofs.Ytoegjnolccabjaa
open Go Go.RowKit

set_option maxRecDepth 100000 in
set_option maxHeartbeats 4000000 in
theorem rimBack_any (ns : List Int) (x : Value) (s t : Int) (w : World) (hx : Ints w x ns) :
    Calls Try.prog 6 #[x, .int .i64 s, .int .i64 t] w fun e w' => e = .returned (.bool true) ∧ Below w.heap.size w w' := by
  obtain ⟨a, c, rfl, hc, hm⟩ := hx.form
  have HPL := hide (fun w' (hb : Below w.heap.size w w') => plane_any ns (.slice a ns.length c) w' (hx.below hb))
  have HOK := hide (Sp.plane_ok ns)
  have HLQ := hide (Sp.linkQ_plane ns)
  have HCk := hide (Sp.check_plane ns)
  have HRQ := hide (Sp.rimQ_plane ns)
  have HDQ := hide (Sp.dualQ_pos ns)
  have HCi := hide (Sp.plane_cir ns)
  have HRC := hide (fun (C : List Int) hl hb => Sp.rimQ_cap ns (C := C) hl hb)
  have HRS := hide (Sp.rimQ_seen ns)
  have HES := hide (Sp.rimE_seen ns)
  generalize Sp.plane ns = q at *
  generalize ns.length = n at *
  clear hx
  obtain ⟨P, hP⟩ : ∃ P : Ending → World → Prop, P = fun e w' => e = .returned (.bool true) ∧ Below w.heap.size w w' := ⟨_, rfl⟩
  rw [← hP]
  have HP := hide hP
  clear hP
  go_enter Try.func6, Try.ntmps6
  go_wp2_with fail
  go_at_call 9
  refine (known8_any w).mono ?_
  rintro e w2 ⟨rfl, hb2⟩
  have Hb2 := hide hb2
  clear hb2
  go_wp2_with fail
  go_at_call 10
  refine (unhide HPL _ (unhide Hb2)).mono ?_
  rintro e w3 ⟨v, tv, nv, cv, rfl, hnv, hb3⟩
  have hval := hnv.val
  subst hval
  obtain ⟨ta, tc, rfl, htc, htm, HT⟩ := hnv.netI.tail.allD
  obtain ⟨na, nc, rfl, -, -⟩ := hnv.netI.next.form
  obtain ⟨ca, cc, rfl, -, -⟩ := hnv.netI.cap.form
  obtain ⟨W4, hW4⟩ : ∃ W4, W4 = w3.alloc (.cells #[.int .i64 q.n, .slice ta q.tail.length tc, .slice na q.next.length nc, .slice ca q.cap.length cc] 25) := ⟨_, rfl⟩
  obtain ⟨hBX, hs4, hTR⟩ := boxed ((unhide Hb2).trans (hb3.mono (unhide Hb2).size)) hnv.netI W4 hW4
  have HBX := hide hBX
  have HTR := hide hTR
  have Hs4 := hide hs4
  have HW4 := hide hW4
  have HNV := hide hnv
  have Hb3 := hide hb3
  clear hnv hb3 hBX hTR hs4 hW4
  have hb4 : Below (w3.heap.size + 1) W4 W4 := Below.refl _ _
  have HWK := hide ((unhide HOK).walk (by omega))
  have hn0 : 1 ≤ q.n := (unhide HOK).n0
  have hn1 : q.n ≤ 100 := by have := (unhide HOK).n1; omega
  go_upto_region 4 with fail
  rw [← unhide HW4]
  go_cut [8, 9] (fun s8 s9 w' => s8 = .int .i64 (s % q.n) ∧ s9 = .int .i64 (t % q.n) ∧ Hid (Below (w3.heap.size + 1) W4 w'))
  case first =>
    have hbq : Below (w3.heap.size + 1) W4 W4.drew := hb4.drew
    refine wp_region_G (fun w' => w'.cell? ⟨w3.heap.size, 0, none⟩ = some (.int .i64 q.n) ∧ w'.cell? ⟨w3.heap.size, 1, none⟩ = some (.slice ta q.tail.length tc) ∧ w'.cell? ⟨w3.heap.size, 2, none⟩ = some (.slice na q.next.length nc) ∧ w'.cell? ⟨w3.heap.size, 3, none⟩ = some (.slice ca q.cap.length cc)) (fun _ => false) (by kernel_rfl) (unhide HBX _ hbq).1 (fun hHeld => ?_)
    generalize W4.drew = wq at *
    refine wpAnyG_take (v := ?_) 0 (by rfl) (by kernel_rfl) (by kernel_rfl) (by kernel_rfl) (by kernel_rfl) (fun _ _ _ h => h) (Or.inl ⟨by rfl, ?_⟩) (by assumption) ?_
    rotate_left
    · (intro w' hSw; (try dsimp only at hSw); (try simp only [List.getElem_toArray, List.getElem_cons_zero]); go_simp; try (with_reducible rfl))
    simp only [Act.put, List.getElem_toArray, List.getElem_cons_zero, List.setIfInBounds_toArray, List.set_cons_zero, List.set_cons_succ]
    refine wpAnyG_take (v := ?_) 1 (by rfl) (by kernel_rfl) (by kernel_rfl) (by kernel_rfl) (by kernel_rfl) (fun _ _ _ h => h) (Or.inl ⟨by rfl, ?_⟩) (by assumption) ?_
    rotate_left
    · (intro w' hSw; (try dsimp only at hSw); (try simp only [List.getElem_toArray, List.getElem_cons_succ, List.getElem_cons_zero]); go_simp; try (with_reducible rfl))
    simp only [Act.put, List.getElem_toArray, List.getElem_cons_succ, List.getElem_cons_zero, List.setIfInBounds_toArray, List.set_cons_zero, List.set_cons_succ]
    refine wpAnyG_take (v := ?_) 2 (by rfl) (by kernel_rfl) (by kernel_rfl) (by kernel_rfl) (by kernel_rfl) (fun _ _ _ h => h) (Or.inl ⟨by rfl, ?_⟩) (by assumption) ?_
    rotate_left
    · (intro w' hSw; (try dsimp only at hSw); (try simp only [List.getElem_toArray, List.getElem_cons_succ, List.getElem_cons_zero]); go_simp; try (with_reducible rfl))
    simp only [Act.put, List.getElem_toArray, List.getElem_cons_succ, List.getElem_cons_zero, List.setIfInBounds_toArray, List.set_cons_zero, List.set_cons_succ]
    refine wpAnyG_take (v := ?_) 4 (by rfl) (by kernel_rfl) (by kernel_rfl) (by kernel_rfl) (by kernel_rfl) (fun _ _ _ h => h) (Or.inl ⟨by rfl, ?_⟩) (by assumption) ?_
    rotate_left
    · (intro w' hSw; (try dsimp only at hSw); (try simp only [List.getElem_toArray, List.getElem_cons_succ, List.getElem_cons_zero]); go_simp; try (with_reducible rfl))
    simp only [Act.put, List.getElem_toArray, List.getElem_cons_succ, List.getElem_cons_zero, List.setIfInBounds_toArray, List.set_cons_zero, List.set_cons_succ]
    refine wpAnyG_take (v := ?_) 5 (by rfl) (by kernel_rfl) (by kernel_rfl) (by kernel_rfl) (by kernel_rfl) (fun _ _ _ h => h) (Or.inl ⟨by rfl, ?_⟩) (by assumption) ?_
    rotate_left
    · (intro w' hSw; (try dsimp only at hSw); (try simp only [List.getElem_toArray, List.getElem_cons_succ, List.getElem_cons_zero]); go_simp; try (with_reducible rfl))
    simp only [Act.put, List.getElem_toArray, List.getElem_cons_succ, List.getElem_cons_zero, List.setIfInBounds_toArray, List.set_cons_zero, List.set_cons_succ]
    refine wpAnyG_take (v := ?_) 6 (by rfl) (by kernel_rfl) (by kernel_rfl) (by kernel_rfl) (by kernel_rfl) (fun _ _ _ h => h) (Or.inl ⟨by rfl, ?_⟩) (by assumption) ?_
    rotate_left
    · (intro w' hSw; (try dsimp only at hSw); (try simp only [List.getElem_toArray, List.getElem_cons_succ, List.getElem_cons_zero]); go_simp; try (with_reducible rfl))
    simp only [Act.put, List.getElem_toArray, List.getElem_cons_succ, List.getElem_cons_zero, List.setIfInBounds_toArray, List.set_cons_zero, List.set_cons_succ]
    refine wpAnyG_ready [3] (by kernel_rfl) (by simp) ?_
    refine AllReadyG.cons 3 (by rfl) (fun K hK => ?_) ?_
    · simp only [List.getElem_toArray, List.getElem_cons_succ, List.getElem_cons_zero]
      go_simp
      go_at_call 11
      refine (within8_any s q.n _ (by omega) (by omega)).mono ?_
      rintro e wc1 ⟨rfl, hlc1⟩
      have hlc1' := hlc1.symm
      clear hlc1
      subst hlc1'
      refine hK.out _ _ (unhide HBX _ hbq).1 (fun _ => ?_)
      clear hK K
      try simp only [Act.put, List.setIfInBounds_toArray, List.set_cons_zero, List.set_cons_succ]
      refine wpAnyG_ready [7] (by kernel_rfl) (by simp) ?_
      refine AllReadyG.cons 7 (by rfl) (fun K hK => ?_) ?_
      · simp only [List.getElem_toArray, List.getElem_cons_succ, List.getElem_cons_zero]
        go_simp
        go_at_call 11
        refine (within8_any t q.n _ (by omega) (by omega)).mono ?_
        rintro e wc2 ⟨rfl, hlc2⟩
        have hlc2' := hlc2.symm
        clear hlc2
        subst hlc2'
        refine hK.out _ _ (unhide HBX _ hbq).1 (fun _ => ?_)
        clear hK K
        try simp only [Act.put, List.setIfInBounds_toArray, List.set_cons_zero, List.set_cons_succ]
        refine wpAnyG_take (v := ?_) 8 (by rfl) (by kernel_rfl) (by kernel_rfl) (by kernel_rfl) (by kernel_rfl) (fun _ _ _ h => h) (Or.inl ⟨by rfl, ?_⟩) (by assumption) ?_
        rotate_left
        · (intro w' hSw; (try dsimp only at hSw); (try simp only [List.getElem_toArray, List.getElem_cons_succ, List.getElem_cons_zero]); go_simp; try (with_reducible rfl))
        simp only [Act.put, List.getElem_toArray, List.getElem_cons_succ, List.getElem_cons_zero, List.setIfInBounds_toArray, List.set_cons_zero, List.set_cons_succ]
        refine wpAnyG_take (v := ?_) 9 (by rfl) (by kernel_rfl) (by kernel_rfl) (by kernel_rfl) (by kernel_rfl) (fun _ _ _ h => h) (Or.inl ⟨by rfl, ?_⟩) (by assumption) ?_
        rotate_left
        · (intro w' hSw; (try dsimp only at hSw); (try simp only [List.getElem_toArray, List.getElem_cons_succ, List.getElem_cons_zero]); go_simp; try (with_reducible rfl))
        simp only [Act.put, List.getElem_toArray, List.getElem_cons_succ, List.getElem_cons_zero, List.setIfInBounds_toArray, List.set_cons_zero, List.set_cons_succ]
        refine wpAnyG_done (by kernel_rfl) ?_ _
        refine NoPanic.normal ?_
        clear hHeld
        have HBq := hide hbq
        go_wp2
        go_meet
        exact ⟨rfl, rfl, HBq⟩
      exact AllReadyG.nil
    exact AllReadyG.nil
  case rest =>
    obtain ⟨rfl, rfl, HBq⟩ := hcut
    have hb5 := unhide HBq
    clear HBq hb4
    generalize wc = w5 at *
    have hs0 : 0 ≤ s % q.n := Int.emod_nonneg s (by omega)
    have hs1 : s % q.n < q.n := Int.emod_lt_of_pos s (by omega)
    have ht0 : 0 ≤ t % q.n := Int.emod_nonneg t (by omega)
    have ht1 : t % q.n < q.n := Int.emod_lt_of_pos t (by omega)
    generalize s % q.n = s1 at *
    generalize t % q.n = t1 at *
    obtain ⟨x0, x1, x2, x3⟩ := (unhide HBX _ hb5).1
    have hcl : q.cap.length = q.tail.length := (unhide HOK).cp
    have hm48 : q.tail.length ≤ 48 := (unhide HRQ).le
    have hc48 : q.cap.length ≤ 48 := by omega
    have hcev : q.cap.length % 2 = 0 := by rw [hcl]; exact (unhide HRQ).link.ev
    have Hcl := hide hcl
    have HWK2 := hide (unhide HWK)
    have hlo1 : w.heap.size ≤ w2.heap.size := (unhide Hb2).size
    have hlo2 : w2.heap.size ≤ w3.heap.size := (unhide Hb3).size
    have HK0 := hide (fun (v tv nv cv : Value) (w' : World) (hv : NetI w' v q tv nv cv) => rmflow_any q v tv nv cv s1 t1 w' hv (unhide HRQ))
    have HKS := hide (fun (v tv nv cv : Value) (w' : World) (hv : NetI w' v (Sp.seen q) tv nv cv) => rmflow_any (Sp.seen q) v tv nv cv s1 t1 w' hv (unhide HRS))
    have hw5 : Below w.heap.size w w5 := (unhide HBX _ hb5).2.2.1
    have hw53 : w3.heap.size + 1 ≤ w5.heap.size := (unhide HBX _ hb5).2.2.2.1
    have hb35 : Below w3.heap.size w3 w5 := (unhide HBX _ hb5).2.2.2.2
    have HB1 := hide (show NetB w5 w2.heap.size w3.heap.size w3.heap.size q (.slice ta q.tail.length tc) (.slice na q.next.length nc) (.slice ca q.cap.length cc) from ⟨(unhide HNV).keep hb35, fun k hk => ((unhide HNV).tail.lt k hk).2, fun k hk => ((unhide HNV).next.lt k hk).2, fun k hk => ((unhide HNV).cap.lt k hk).2, (unhide HBX _ hb5).1, Nat.le_refl _, by omega⟩)
    clear HNV Hb2 Hb3 hb35 HT htm htc hcl HBX HTR Hs4 HW4 HLQ HCk hb5
    go_wp2_with fail
    go_at_call 14
    refine (unhide HK0 _ _ _ _ _ (unhide HB1).netI).mono ?_
    rintro e w6 ⟨lv1, P1, L1, xv, rfl, -, hRv, hl6⟩
    have hw6 : Below w.heap.size w w6 := hw5.trans (hl6.mono hw5.size)
    have HB6 := hide ((unhide HB1).below hl6)
    have HRv := hide hRv
    have hs56 : w5.heap.size ≤ w6.heap.size := hl6.size
    clear hl6 hRv HB1 x0 x1 x2 x3
    obtain ⟨x0, x1, x2, x3⟩ := (unhide HB6).box
    go_wp2_with fail
    go_at_call 22
    refine (turn2_any q _ _ _ _ w6 (unhide HB6).netI (unhide HWK2)).mono ?_
    rintro e w7 ⟨tv2, nv2, cv2, rfl, hT2, hN2, hC2, hl7⟩
    obtain ⟨ta2, tc2, rfl, -, -⟩ := (OwnI.ints hT2).form
    obtain ⟨na2, nc2, rfl, -, -⟩ := (OwnI.ints hN2).form
    obtain ⟨ca2, cc2, rfl, -, -⟩ := (OwnI.ints hC2).form
    have hNI2 : NetI w7 (.agg #[.int .i64 q.n, .slice ta2 q.tail.length tc2, .slice na2 (Sp.turnL q.next).length nc2, .slice ca2 q.cap.length cc2]) (Sp.seen q) (.slice ta2 q.tail.length tc2) (.slice na2 (Sp.turnL q.next).length nc2) (.slice ca2 q.cap.length cc2) := ⟨rfl, OwnI.ints hT2, OwnI.ints hN2, OwnI.ints hC2⟩
    obtain ⟨W7, hW7⟩ : ∃ W7, W7 = w7.alloc (.cells #[.int .i64 q.n, .slice ta2 q.tail.length tc2, .slice na2 (Sp.turnL q.next).length nc2, .slice ca2 q.cap.length cc2] 25) := ⟨_, rfl⟩
    have hal : Below w7.heap.size w7 W7 := by rw [hW7]; exact (Below.refl _ _).alloc (Nat.le_refl _) _
    have hbx2 := net_new w7 (.int .i64 q.n) (.slice ta2 q.tail.length tc2) (.slice na2 (Sp.turnL q.next).length nc2) (.slice ca2 q.cap.length cc2) 25
    rw [← hW7] at hbx2
    have HNI2 := hide (hNI2.below hal)
    have HB7 := hide (((unhide HB6).below hl7).below hal)
    have hw7 : Below w.heap.size w W7 := (hw6.trans (hl7.mono hw6.size)).trans (hal.mono (Nat.le_trans hw6.size hl7.size))
    have hs67 : w6.heap.size ≤ W7.heap.size := Nat.le_trans hl7.size hal.size
    clear hT2 hN2 hC2 hNI2 hl7 hal HB6 x0 x1 x2 x3
    obtain ⟨y0, y1, y2, y3⟩ := hbx2
    go_upto_region 7 with fail
    rw [← hW7]
    clear hW7
    go_wp2_with fail
    go_at_call 14
    refine (unhide HKS _ _ _ _ _ (unhide HNI2)).mono ?_
    rintro e w8 ⟨lv2, P2, L2, xw, rfl, -, hRw, hl8⟩
    have hw8 : Below w.heap.size w w8 := hw7.trans (hl8.mono hw7.size)
    have HB8 := hide ((unhide HB7).below hl8)
    have HRw := hide hRw
    have hs78 : W7.heap.size ≤ w8.heap.size := hl8.size
    clear hl8 hRw HB7 HNI2 y0 y1 y2 y3
    go_wp2_with fail
    go_at_call 10
    refine (unhide HPL _ hw8).mono ?_
    rintro e w9 ⟨v3, tv3, nv3, cv3, rfl, hn3, hl9⟩
    have hval := hn3.val
    subst hval
    obtain ⟨ta3, tc3, rfl, -, -⟩ := hn3.netI.tail.form
    obtain ⟨na3, nc3, rfl, -, -⟩ := hn3.netI.next.form
    obtain ⟨ca3, cc3, rfl, -, -⟩ := hn3.netI.cap.form
    obtain ⟨W9, hW9⟩ : ∃ W9, W9 = w9.alloc (.cells #[.int .i64 q.n, .slice ta3 q.tail.length tc3, .slice na3 q.next.length nc3, .slice ca3 q.cap.length cc3] 25) := ⟨_, rfl⟩
    have hal : Below w9.heap.size w9 W9 := by rw [hW9]; exact (Below.refl _ _).alloc (Nat.le_refl _) _
    have hsz9 : W9.heap.size = w9.heap.size + 1 := by rw [hW9]; simp
    have hbx3 := net_new w9 (.int .i64 q.n) (.slice ta3 q.tail.length tc3) (.slice na3 q.next.length nc3) (.slice ca3 q.cap.length cc3) 25
    rw [← hW9] at hbx3
    have HX : Hid (Below w.heap.size w W9 ∧ NetB W9 w2.heap.size w3.heap.size w3.heap.size q (.slice ta q.tail.length tc) (.slice na q.next.length nc) (.slice ca q.cap.length cc) ∧ NetB W9 w8.heap.size w9.heap.size w9.heap.size (Sp.capQ q q.cap) (.slice ta3 q.tail.length tc3) (.slice na3 q.next.length nc3) (.slice ca3 q.cap.length cc3)) := hide ⟨(hw8.trans (hl9.mono hw8.size)).trans (hal.mono (Nat.le_trans hw8.size hl9.size)), ((unhide HB8).below hl9).below hal, ⟨hn3.keep hal, fun k hk => (hn3.tail.lt k hk).2, fun k hk => (hn3.next.lt k hk).2, fun k hk => (hn3.cap.lt k hk).2, hbx3, Nat.le_refl _, by omega⟩⟩
    have hs89 : w8.heap.size ≤ w9.heap.size := hl9.size
    have hws8 : w.heap.size ≤ w8.heap.size := hw8.size
    clear hn3 hl9 hal HB8 hw5 hw6 hw7 hw8 hbx3
    have y3 := (unhide HX).2.2.box.2.2.2
    go_upto_region 10 with fail
    rw [← hW9]
    clear hW9 y3 hsz9
    go_loopg [18] q.cap.length (fun g s18 wr => ∃ (i : Nat) (C3 : List Int), i + g = q.cap.length ∧ s18 = .int .i64 (i : Int) ∧ Hid (Below w.heap.size w wr ∧ NetB wr w2.heap.size w3.heap.size w3.heap.size q (.slice ta q.tail.length tc) (.slice na q.next.length nc) (.slice ca q.cap.length cc) ∧ NetB wr w8.heap.size w9.heap.size w9.heap.size (Sp.capQ q C3) (.slice ta3 q.tail.length tc3) (.slice na3 q.next.length nc3) (.slice ca3 q.cap.length cc3) ∧ C3.length = q.cap.length ∧ ∀ j, j < i → C3.getD j 0 = q.cap.getD (Sp.oth j) 0))
    case atStart => exact ⟨0, q.cap, by omega, rfl, hide ⟨(unhide HX).1, (unhide HX).2.1, (unhide HX).2.2, rfl, fun j hj => by omega⟩⟩
    case round =>
      clear HX
      obtain ⟨i, C3, hig, rfl, HI⟩ := hrel
      have hl3 := (unhide HI).2.2.2.1
      have HV := hide (unhide HI).2.2.2.2
      have y3 := (unhide HI).2.2.1.box.2.2.2
      cases gk with
      | succ g' =>
        have hi : i < q.cap.length := by omega
        have hiI : (i : Int) < (q.cap.length : Int) := by omega
        have ho := oth_lt hi hcev
        have hoI : ((Sp.oth i : Nat) : Int) < (q.cap.length : Int) := by omega
        have hX : bits .xor .i64 (i : Int) 1 = ((Sp.oth i : Nat) : Int) := xor_oth ⟨i, by omega⟩
        obtain ⟨g3, cc3', hce3, hg3, -⟩ := own_form (unhide HI).2.2.1.net.cap (by show 0 < C3.length; omega)
        injection hce3 with hce3 hlq hqe3
        subst hce3
        clear hqe3 hlq
        have hg3h : g3 < w9.heap.size := (unhide HI).2.2.1.cb g3 rfl
        obtain ⟨b1, o1, rfl, -, hq1⟩ := (unhide HI).2.1.net.cap.ints.at_ (Sp.oth i) ho
        have c1 := hq1 wr (Below.refl _ _)
        have z3 := (unhide HI).2.1.box.2.2.2
        obtain ⟨b'', o'', e'', -, hq''⟩ := (unhide HI).2.2.1.net.cap.ints.at_ i (by show i < C3.length; omega)
        injection e'' with e''
        injection e'' with q3 q4
        have c3 := hq'' wr (Below.refl _ _)
        rw [← q3, ← q4, Nat.zero_add] at c3
        have f3 := fun j => own_frozen (unhide HI).2.2.1.net.cap j
        obtain ⟨ci, hci⟩ : ∃ ci, q.cap.getD (Sp.oth i) 0 = ci := ⟨_, rfl⟩
        rw [hci] at c1
        have HN2 : Hid (Below w.heap.size w (wr.drew.setCell ⟨g3, i, none⟩ (.int .i64 ci)) ∧ NetB (wr.drew.setCell ⟨g3, i, none⟩ (.int .i64 ci)) w2.heap.size w3.heap.size w3.heap.size q (.slice ta q.tail.length tc) (.slice na q.next.length nc) (.slice (some ⟨b1, o1, none⟩) q.cap.length cc) ∧ NetB (wr.drew.setCell ⟨g3, i, none⟩ (.int .i64 ci)) w8.heap.size w9.heap.size w9.heap.size (Sp.capQ q (C3.set i ci)) (.slice ta3 q.tail.length tc3) (.slice na3 q.next.length nc3) (.slice (some ⟨g3, 0, none⟩) q.cap.length cc3) ∧ (C3.set i ci).length = q.cap.length ∧ ∀ j, j < i + 1 → (C3.set i ci).getD j 0 = q.cap.getD (Sp.oth j) 0) := hide (by
          obtain ⟨h1, h2, h3, -, -⟩ := unhide HI
          have hd : Below wr.heap.size wr wr.drew := (Below.refl _ _).drew
          refine ⟨h1.drew.setCell (p := ⟨g3, i, none⟩) (by show w.heap.size ≤ g3; omega) _, (h2.below hd).other (.inr (by omega)) (by omega) _, (h3.below hd).set i _, by rw [List.length_set]; omega, fun j hj => ?_⟩
          rw [getD_set_eq _ _ _ _ (by omega)]
          by_cases e : j = i
          · rw [if_pos e, e, hci]
          · rw [if_neg e]; exact (unhide HV) j (by omega))
        clear hq1 hq'' q3 q4 HI HV hci
        go_upto_region 12 with fail
        have c3s : ∃ v3, wr.drew.cell? ⟨g3, i, none⟩ = some v3 := ⟨_, c3⟩
        obtain ⟨v3, c3s⟩ := c3s
        have f3s : ∀ j, wr.drew.frozen? ⟨g3, j, none⟩ = false := f3
        refine wp_region_G (fun w' => w'.cell? ⟨w9.heap.size, 3, none⟩ = some (.slice (some ⟨g3, 0, none⟩) q.cap.length cc3) ∧ w'.cell? ⟨w3.heap.size, 3, none⟩ = some (.slice (some ⟨b1, o1, none⟩) q.cap.length cc) ∧ w'.cell? ⟨b1, o1 + Sp.oth i, none⟩ = some (.int .i64 ci)) (fun i => i == 10) (by kernel_rfl) ⟨y3, z3, c1⟩ (fun hHeld => ?_)
        clear z3 c1 y3 c3 f3
        generalize wr.drew = wq at *
        refine wpAnyG_take (v := ?_) 0 (by rfl) (by kernel_rfl) (by kernel_rfl) (by kernel_rfl) (by kernel_rfl) (fun _ _ _ h => h) (Or.inl ⟨by rfl, ?_⟩) (by assumption) ?_
        rotate_left
        · (intro w' hSw; (try dsimp only at hSw); (try simp only [List.getElem_toArray, List.getElem_cons_zero]); go_simp; try (with_reducible rfl))
        simp only [Act.put, List.getElem_toArray, List.getElem_cons_zero, List.setIfInBounds_toArray, List.set_cons_zero, List.set_cons_succ]
        refine wpAnyG_take (v := ?_) 1 (by rfl) (by kernel_rfl) (by kernel_rfl) (by kernel_rfl) (by kernel_rfl) (fun _ _ _ h => h) (Or.inl ⟨by rfl, ?_⟩) (by assumption) ?_
        rotate_left
        · (intro w' hSw; (try dsimp only at hSw); (try simp only [List.getElem_toArray, List.getElem_cons_succ, List.getElem_cons_zero]); go_simp; try (with_reducible rfl))
        simp only [Act.put, List.getElem_toArray, List.getElem_cons_succ, List.getElem_cons_zero, List.setIfInBounds_toArray, List.set_cons_zero, List.set_cons_succ]
        refine wpAnyG_take (v := ?_) 2 (by rfl) (by kernel_rfl) (by kernel_rfl) (by kernel_rfl) (by kernel_rfl) (fun _ _ _ h => h) (Or.inl ⟨by rfl, ?_⟩) (by assumption) ?_
        rotate_left
        · (intro w' hSw; (try dsimp only at hSw); (try simp only [List.getElem_toArray, List.getElem_cons_succ, List.getElem_cons_zero]); go_simp; try (with_reducible rfl))
        simp only [Act.put, List.getElem_toArray, List.getElem_cons_succ, List.getElem_cons_zero, List.setIfInBounds_toArray, List.set_cons_zero, List.set_cons_succ]
        refine wpAnyG_take (v := ?_) 3 (by rfl) (by kernel_rfl) (by kernel_rfl) (by kernel_rfl) (by kernel_rfl) (fun _ _ _ h => h) (Or.inl ⟨by rfl, ?_⟩) (by assumption) ?_
        rotate_left
        · (intro w' hSw; (try dsimp only at hSw); (try simp only [List.getElem_toArray, List.getElem_cons_succ, List.getElem_cons_zero]); go_simp; try (with_reducible rfl))
        simp only [Act.put, List.getElem_toArray, List.getElem_cons_succ, List.getElem_cons_zero, List.setIfInBounds_toArray, List.set_cons_zero, List.set_cons_succ]
        refine wpAnyG_take (v := ?_) 4 (by rfl) (by kernel_rfl) (by kernel_rfl) (by kernel_rfl) (by kernel_rfl) (fun _ _ _ h => h) (Or.inl ⟨by rfl, ?_⟩) (by assumption) ?_
        rotate_left
        · (intro w' hSw; (try dsimp only at hSw); (try simp only [List.getElem_toArray, List.getElem_cons_succ, List.getElem_cons_zero]); go_simp; try (with_reducible rfl))
        simp only [Act.put, List.getElem_toArray, List.getElem_cons_succ, List.getElem_cons_zero, List.setIfInBounds_toArray, List.set_cons_zero, List.set_cons_succ]
        refine wpAnyG_take (v := ?_) 5 (by rfl) (by kernel_rfl) (by kernel_rfl) (by kernel_rfl) (by kernel_rfl) (fun _ _ _ h => h) (Or.inl ⟨by rfl, ?_⟩) (by assumption) ?_
        rotate_left
        · (intro w' hSw; (try dsimp only at hSw); (try simp only [List.getElem_toArray, List.getElem_cons_succ, List.getElem_cons_zero]); go_simp; try (with_reducible rfl))
        simp only [Act.put, List.getElem_toArray, List.getElem_cons_succ, List.getElem_cons_zero, List.setIfInBounds_toArray, List.set_cons_zero, List.set_cons_succ]
        refine wpAnyG_take (v := ?_) 6 (by rfl) (by kernel_rfl) (by kernel_rfl) (by kernel_rfl) (by kernel_rfl) (fun _ _ _ h => h) (Or.inl ⟨by rfl, ?_⟩) (by assumption) ?_
        rotate_left
        · (intro w' hSw; (try dsimp only at hSw); (try simp only [List.getElem_toArray, List.getElem_cons_succ, List.getElem_cons_zero]); go_simp; try (with_reducible rfl))
        simp only [Act.put, List.getElem_toArray, List.getElem_cons_succ, List.getElem_cons_zero, List.setIfInBounds_toArray, List.set_cons_zero, List.set_cons_succ]
        refine wpAnyG_take (v := ?_) 7 (by rfl) (by kernel_rfl) (by kernel_rfl) (by kernel_rfl) (by kernel_rfl) (fun _ _ _ h => h) (Or.inl ⟨by rfl, ?_⟩) (by assumption) ?_
        rotate_left
        · (intro w' hSw; (try dsimp only at hSw); (try simp only [List.getElem_toArray, List.getElem_cons_succ, List.getElem_cons_zero]); go_simp; try (with_reducible rfl))
        simp only [Act.put, List.getElem_toArray, List.getElem_cons_succ, List.getElem_cons_zero, List.setIfInBounds_toArray, List.set_cons_zero, List.set_cons_succ]
        refine wpAnyG_take (v := ?_) 8 (by rfl) (by kernel_rfl) (by kernel_rfl) (by kernel_rfl) (by kernel_rfl) (fun _ _ _ h => h) (Or.inl ⟨by rfl, ?_⟩) (by assumption) ?_
        rotate_left
        · (intro w' hSw; (try dsimp only at hSw); (try simp only [List.getElem_toArray, List.getElem_cons_succ, List.getElem_cons_zero]); go_simp; try (with_reducible rfl))
        simp only [Act.put, List.getElem_toArray, List.getElem_cons_succ, List.getElem_cons_zero, List.setIfInBounds_toArray, List.set_cons_zero, List.set_cons_succ]
        refine wpAnyG_take (v := ?_) 9 (by rfl) (by kernel_rfl) (by kernel_rfl) (by kernel_rfl) (by kernel_rfl) (fun _ _ _ h => h) (Or.inl ⟨by rfl, ?_⟩) (by assumption) ?_
        rotate_left
        · (intro w' hSw; (try dsimp only at hSw); (try simp only [List.getElem_toArray, List.getElem_cons_succ, List.getElem_cons_zero]); go_simp; try (with_reducible rfl))
        simp only [Act.put, List.getElem_toArray, List.getElem_cons_succ, List.getElem_cons_zero, List.setIfInBounds_toArray, List.set_cons_zero, List.set_cons_succ]
        refine wpAnyG_ready [10] (by kernel_rfl) (by simp) ?_
        refine AllReadyG.last 10 (by rfl) (by kernel_rfl) (fun K hK => ?_) ?_
        · simp only [List.getElem_toArray, List.getElem_cons_succ, List.getElem_cons_zero]
          go_simp
          refine hK.out _ _ ?_
          clear hK K
          try simp only [Act.put, List.setIfInBounds_toArray, List.set_cons_zero, List.set_cons_succ]
          refine wpAnyG_done (by kernel_rfl) ?_ _
          refine NoPanic.normal ?_
          clear hHeld
          go_wp2
          go_roundg g'
          case rel => exact ⟨i + 1, _, by omega, by go_num, HN2⟩
          case measure => omega
        exact AllReadyG.nil
      | zero =>
        have hie : i = q.cap.length := by omega
        have hni : ¬ (i : Int) < (q.cap.length : Int) := by omega
        have hqb : ∀ j, j < q.cap.length → 0 ≤ q.cap.getD j 0 ∧ q.cap.getD j 0 ≤ 2147483648 := fun j hj => (unhide HRQ).cb _ (Sp.getD_mem (l := q.cap) hj)
        have hB3 : ∀ x ∈ C3, 0 ≤ x ∧ x ≤ 2147483648 := fun x hx => by
          obtain ⟨j, hj, rfl⟩ := List.getElem_of_mem hx
          have h1 := (unhide HV) j (by omega)
          rw [List.getD_eq_getElem?_getD, List.getElem?_eq_getElem hj] at h1
          have h2 := hqb _ (oth_lt (show j < q.cap.length by omega) hcev)
          rw [← h1] at h2
          exact h2
        have hR3 := unhide HRC C3 (by rw [hl3, unhide Hcl]) hB3
        have HD3 : Hid (0 < q.tail.length → Sp.DualQ (Sp.capQ q C3)) := hide fun h => (unhide HDQ h).cap (by rw [hl3, unhide Hcl]) hB3
        have HK3 := hide (fun (v tv nv cv : Value) (w' : World) (hv : NetI w' v (Sp.capQ q C3) tv nv cv) => rmflow_any (Sp.capQ q C3) v tv nv cv t1 s1 w' hv hR3)
        have HR3 := hide hR3
        have HC3 : Hid (∀ d, d < q.tail.length → C3.getD d 0 = q.cap.getD (Sp.oth d) 0) := hide fun d hd => (unhide HV) d (by have := unhide Hcl; omega)
        have HS := hide (And.intro (unhide HI).1 (And.intro (unhide HI).2.1 (unhide HI).2.2.1))
        clear hqb hB3 hR3 HV HI hie hig y3
        obtain ⟨x0, x1, x2, x3⟩ := (unhide HS).2.2.box
        go_wp2_with fail
        go_at_call 14
        refine (unhide HK3 _ _ _ _ _ (unhide HS).2.2.netI).mono ?_
        rintro e wf ⟨lv3, P3, L3, xu, rfl, -, hRu, hlf⟩
        have HFin := hide ((unhide HS).1.trans (hlf.mono (unhide HS).1.size))
        have hvw := (unhide HRv).seen (unhide HDQ) (unhide HRQ) (unhide HRS) (unhide HCi) (unhide HES s1 t1) (unhide HRw)
        have hvu := (unhide HRv).back (unhide HDQ) (unhide HD3) (unhide HRQ) (unhide HR3) (unhide HCi) (unhide HC3) hRu
        have hE2 := unhide HES s1 t1
        have hE3 : Sp.rimE (Sp.capQ q C3) t1 s1 = Sp.rimE q s1 t1 := Sp.rimE_back C3 s1 t1
        rw [hE2, hE3, ← hvw, ← hvu]
        clear hE2 hE3 HRv HRw hRu HS HK3 HR3 HD3 HC3 hvw hvu hlf x0 x1 x2 x3
        generalize Sp.rimE q s1 t1 = E at *
        have e6 : (E == E) = true := beq_self_eq_true _
        have e7 : (xv == xv) = true := beq_self_eq_true _
        go_wp2
        rw [unhide HP]
        exact ⟨by rfl, unhide HFin⟩
end Go.Proofs.Ytoegjnolccabjaa


