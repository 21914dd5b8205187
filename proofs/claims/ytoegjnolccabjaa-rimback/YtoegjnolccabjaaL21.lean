/- What the proof needs, part 21. -/
import Derived.Test.YtoegjnolccabjaaL20
/- The law RimMore, walked. -/
namespace Go.Proofs.Ytoegjnolccabjaa
open Go Go.RowKit

set_option maxRecDepth 100000 in
set_option maxHeartbeats 4000000 in
theorem rimMore_any (ns : List Int) (x : Value) (s t at_ by_ : Int) (w : World) (hx : Ints w x ns) :
    Calls Try.prog 7 #[x, .int .i64 s, .int .i64 t, .int .i64 at_, .int .i64 by_] w fun e w' => e = .returned (.bool true) ∧ Below w.heap.size w w' := by
  obtain ⟨a, c, rfl, hc, hm⟩ := hx.form
  have HPL := hide (fun w' (hb : Below w.heap.size w w') => plane_any ns (.slice a ns.length c) w' (hx.below hb))
  have HOK := hide (Sp.plane_ok ns)
  have HLQ := hide (Sp.linkQ_plane ns)
  have HCk := hide (Sp.check_plane ns)
  have HRQ := hide (Sp.rimQ_plane ns)
  have HDQ := hide (Sp.dualQ_pos ns)
  have HCi := hide (Sp.plane_cir ns)
  have HRC := hide (fun (C : List Int) hl hb => Sp.rimQ_cap ns (C := C) hl hb)
  generalize Sp.plane ns = q at *
  generalize ns.length = n at *
  clear hx
  obtain ⟨P, hP⟩ : ∃ P : Ending → World → Prop, P = fun e w' => e = .returned (.bool true) ∧ Below w.heap.size w w' := ⟨_, rfl⟩
  rw [← hP]
  have HP := hide hP
  clear hP
  go_enter Try.func7, Try.ntmps7
  go_wp2_with fail
  go_at_call 9
  refine (known8_any w).mono ?_
  rintro e w2 ⟨rfl, hb2⟩
  have Hb2 := hide hb2
  clear hb2
  go_wp2_with fail
  go_at_call 10
  refine (unhide HPL _ (unhide Hb2)).mono ?_
  rintro e w3 ⟨v, tv, nv, cv, rfl, hnv, hb3⟩
  have hval := hnv.val
  subst hval
  obtain ⟨ta, tc, rfl, htc, htm, HT⟩ := hnv.netI.tail.allD
  obtain ⟨na, nc, rfl, -, -⟩ := hnv.netI.next.form
  obtain ⟨ca, cc, rfl, -, -⟩ := hnv.netI.cap.form
  obtain ⟨W4, hW4⟩ : ∃ W4, W4 = w3.alloc (.cells #[.int .i64 q.n, .slice ta q.tail.length tc, .slice na q.next.length nc, .slice ca q.cap.length cc] 25) := ⟨_, rfl⟩
  obtain ⟨hBX, hs4, hTR⟩ := boxed ((unhide Hb2).trans (hb3.mono (unhide Hb2).size)) hnv.netI W4 hW4
  have HBX := hide hBX
  have HTR := hide hTR
  have Hs4 := hide hs4
  have HW4 := hide hW4
  have HNV := hide hnv
  have Hb3 := hide hb3
  clear hnv hb3 hBX hTR hs4 hW4
  have hb4 : Below (w3.heap.size + 1) W4 W4 := Below.refl _ _
  have HWK := hide ((unhide HOK).walk (by omega))
  have hn0 : 1 ≤ q.n := (unhide HOK).n0
  have hn1 : q.n ≤ 100 := by have := (unhide HOK).n1; omega
  go_upto_region 4 with fail
  rw [← unhide HW4]
  go_cut [12, 13] (fun s8 s9 w' => s8 = .int .i64 (s % q.n) ∧ s9 = .int .i64 (t % q.n) ∧ Hid (Below (w3.heap.size + 1) W4 w'))
  case first =>
    have hbq : Below (w3.heap.size + 1) W4 W4.drew := hb4.drew
    refine wp_region_G (fun w' => w'.cell? ⟨w3.heap.size, 0, none⟩ = some (.int .i64 q.n) ∧ w'.cell? ⟨w3.heap.size, 1, none⟩ = some (.slice ta q.tail.length tc) ∧ w'.cell? ⟨w3.heap.size, 2, none⟩ = some (.slice na q.next.length nc) ∧ w'.cell? ⟨w3.heap.size, 3, none⟩ = some (.slice ca q.cap.length cc)) (fun _ => false) (by kernel_rfl) (unhide HBX _ hbq).1 (fun hHeld => ?_)
    generalize W4.drew = wq at *
    refine wpAnyG_take (v := ?_) 0 (by rfl) (by kernel_rfl) (by kernel_rfl) (by kernel_rfl) (by kernel_rfl) (fun _ _ _ h => h) (Or.inl ⟨by rfl, ?_⟩) (by assumption) ?_
    rotate_left
    · (intro w' hSw; (try dsimp only at hSw); (try simp only [List.getElem_toArray, List.getElem_cons_zero]); go_simp; try (with_reducible rfl))
    simp only [Act.put, List.getElem_toArray, List.getElem_cons_zero, List.setIfInBounds_toArray, List.set_cons_zero, List.set_cons_succ]
    refine wpAnyG_take (v := ?_) 1 (by rfl) (by kernel_rfl) (by kernel_rfl) (by kernel_rfl) (by kernel_rfl) (fun _ _ _ h => h) (Or.inl ⟨by rfl, ?_⟩) (by assumption) ?_
    rotate_left
    · (intro w' hSw; (try dsimp only at hSw); (try simp only [List.getElem_toArray, List.getElem_cons_succ, List.getElem_cons_zero]); go_simp; try (with_reducible rfl))
    simp only [Act.put, List.getElem_toArray, List.getElem_cons_succ, List.getElem_cons_zero, List.setIfInBounds_toArray, List.set_cons_zero, List.set_cons_succ]
    refine wpAnyG_take (v := ?_) 2 (by rfl) (by kernel_rfl) (by kernel_rfl) (by kernel_rfl) (by kernel_rfl) (fun _ _ _ h => h) (Or.inl ⟨by rfl, ?_⟩) (by assumption) ?_
    rotate_left
    · (intro w' hSw; (try dsimp only at hSw); (try simp only [List.getElem_toArray, List.getElem_cons_succ, List.getElem_cons_zero]); go_simp; try (with_reducible rfl))
    simp only [Act.put, List.getElem_toArray, List.getElem_cons_succ, List.getElem_cons_zero, List.setIfInBounds_toArray, List.set_cons_zero, List.set_cons_succ]
    refine wpAnyG_take (v := ?_) 4 (by rfl) (by kernel_rfl) (by kernel_rfl) (by kernel_rfl) (by kernel_rfl) (fun _ _ _ h => h) (Or.inl ⟨by rfl, ?_⟩) (by assumption) ?_
    rotate_left
    · (intro w' hSw; (try dsimp only at hSw); (try simp only [List.getElem_toArray, List.getElem_cons_succ, List.getElem_cons_zero]); go_simp; try (with_reducible rfl))
    simp only [Act.put, List.getElem_toArray, List.getElem_cons_succ, List.getElem_cons_zero, List.setIfInBounds_toArray, List.set_cons_zero, List.set_cons_succ]
    refine wpAnyG_take (v := ?_) 5 (by rfl) (by kernel_rfl) (by kernel_rfl) (by kernel_rfl) (by kernel_rfl) (fun _ _ _ h => h) (Or.inl ⟨by rfl, ?_⟩) (by assumption) ?_
    rotate_left
    · (intro w' hSw; (try dsimp only at hSw); (try simp only [List.getElem_toArray, List.getElem_cons_succ, List.getElem_cons_zero]); go_simp; try (with_reducible rfl))
    simp only [Act.put, List.getElem_toArray, List.getElem_cons_succ, List.getElem_cons_zero, List.setIfInBounds_toArray, List.set_cons_zero, List.set_cons_succ]
    refine wpAnyG_take (v := ?_) 6 (by rfl) (by kernel_rfl) (by kernel_rfl) (by kernel_rfl) (by kernel_rfl) (fun _ _ _ h => h) (Or.inl ⟨by rfl, ?_⟩) (by assumption) ?_
    rotate_left
    · (intro w' hSw; (try dsimp only at hSw); (try simp only [List.getElem_toArray, List.getElem_cons_succ, List.getElem_cons_zero]); go_simp; try (with_reducible rfl))
    simp only [Act.put, List.getElem_toArray, List.getElem_cons_succ, List.getElem_cons_zero, List.setIfInBounds_toArray, List.set_cons_zero, List.set_cons_succ]
    refine wpAnyG_ready [3] (by kernel_rfl) (by simp) ?_
    refine AllReadyG.cons 3 (by rfl) (fun K hK => ?_) ?_
    · simp only [List.getElem_toArray, List.getElem_cons_succ, List.getElem_cons_zero]
      go_simp
      go_at_call 11
      refine (within8_any s q.n _ (by omega) (by omega)).mono ?_
      rintro e wc1 ⟨rfl, hlc1⟩
      have hlc1' := hlc1.symm
      clear hlc1
      subst hlc1'
      refine hK.out _ _ (unhide HBX _ hbq).1 (fun _ => ?_)
      clear hK K
      try simp only [Act.put, List.setIfInBounds_toArray, List.set_cons_zero, List.set_cons_succ]
      refine wpAnyG_ready [7] (by kernel_rfl) (by simp) ?_
      refine AllReadyG.cons 7 (by rfl) (fun K hK => ?_) ?_
      · simp only [List.getElem_toArray, List.getElem_cons_succ, List.getElem_cons_zero]
        go_simp
        go_at_call 11
        refine (within8_any t q.n _ (by omega) (by omega)).mono ?_
        rintro e wc2 ⟨rfl, hlc2⟩
        have hlc2' := hlc2.symm
        clear hlc2
        subst hlc2'
        refine hK.out _ _ (unhide HBX _ hbq).1 (fun _ => ?_)
        clear hK K
        try simp only [Act.put, List.setIfInBounds_toArray, List.set_cons_zero, List.set_cons_succ]
        refine wpAnyG_take (v := ?_) 8 (by rfl) (by kernel_rfl) (by kernel_rfl) (by kernel_rfl) (by kernel_rfl) (fun _ _ _ h => h) (Or.inl ⟨by rfl, ?_⟩) (by assumption) ?_
        rotate_left
        · (intro w' hSw; (try dsimp only at hSw); (try simp only [List.getElem_toArray, List.getElem_cons_succ, List.getElem_cons_zero]); go_simp; try (with_reducible rfl))
        simp only [Act.put, List.getElem_toArray, List.getElem_cons_succ, List.getElem_cons_zero, List.setIfInBounds_toArray, List.set_cons_zero, List.set_cons_succ]
        refine wpAnyG_take (v := ?_) 9 (by rfl) (by kernel_rfl) (by kernel_rfl) (by kernel_rfl) (by kernel_rfl) (fun _ _ _ h => h) (Or.inl ⟨by rfl, ?_⟩) (by assumption) ?_
        rotate_left
        · (intro w' hSw; (try dsimp only at hSw); (try simp only [List.getElem_toArray, List.getElem_cons_succ, List.getElem_cons_zero]); go_simp; try (with_reducible rfl))
        simp only [Act.put, List.getElem_toArray, List.getElem_cons_succ, List.getElem_cons_zero, List.setIfInBounds_toArray, List.set_cons_zero, List.set_cons_succ]
        refine wpAnyG_done (by kernel_rfl) ?_ _
        refine NoPanic.normal ?_
        clear hHeld
        have HBq := hide hbq
        go_wp2
        go_meet
        exact ⟨rfl, rfl, HBq⟩
      exact AllReadyG.nil
    exact AllReadyG.nil
  case rest =>
    obtain ⟨rfl, rfl, HBq⟩ := hcut
    have hb5 := unhide HBq
    clear HBq hb4
    generalize wc = w5 at *
    have hs0 : 0 ≤ s % q.n := Int.emod_nonneg s (by omega)
    have hs1 : s % q.n < q.n := Int.emod_lt_of_pos s (by omega)
    have ht0 : 0 ≤ t % q.n := Int.emod_nonneg t (by omega)
    have ht1 : t % q.n < q.n := Int.emod_lt_of_pos t (by omega)
    generalize s % q.n = s1 at *
    generalize t % q.n = t1 at *
    obtain ⟨x0, x1, x2, x3⟩ := (unhide HBX _ hb5).1
    have hcl : q.cap.length = q.tail.length := (unhide HOK).cp
    have hm48 : q.tail.length ≤ 48 := (unhide HRQ).le
    by_cases h0 : q.cap.length = 0
    · have HF := hide (unhide HBX _ hb5).2.2.1
      have e0 : (((q.cap.length : Nat) : Int) == 0) = true := by rw [h0]; rfl
      clear HBX HTR HT h0 hcl
      go_wp2
      rw [unhide HP]
      exact ⟨by rfl, unhide HF⟩
    · have e0 : (((q.cap.length : Nat) : Int) == 0) = false := beq_eq_false_iff_ne.2 (by omega)
      have hcp : 0 < q.cap.length := by omega
      have hc48 : q.cap.length ≤ 48 := by omega
      have Hcl := hide hcl
      have hw5 : Below w.heap.size w w5 := (unhide HBX _ hb5).2.2.1
      have hw53 : w3.heap.size + 1 ≤ w5.heap.size := (unhide HBX _ hb5).2.2.2.1
      have hb35 : Below w3.heap.size w3 w5 := (unhide HBX _ hb5).2.2.2.2
      have HB1 := hide (show NetB w5 w2.heap.size w3.heap.size w3.heap.size q (.slice ta q.tail.length tc) (.slice na q.next.length nc) (.slice ca q.cap.length cc) from ⟨(unhide HNV).keep hb35, fun k hk => ((unhide HNV).tail.lt k hk).2, fun k hk => ((unhide HNV).next.lt k hk).2, fun k hk => ((unhide HNV).cap.lt k hk).2, (unhide HBX _ hb5).1, Nat.le_refl _, by omega⟩)
      have hlo1 : w.heap.size ≤ w2.heap.size := (unhide Hb2).size
      have hlo2 : w2.heap.size ≤ w3.heap.size := (unhide Hb3).size
      clear HNV Hb2 Hb3 hb35 HT htm htc h0 hcl HBX HTR Hs4 HW4 HLQ HCk HWK
      go_wp2_with fail
      go_at_call 10
      refine (unhide HPL _ hw5).mono ?_
      rintro e w6 ⟨v2, tv2, nv2, cv2, rfl, hn2, hl6⟩
      have hval := hn2.val
      subst hval
      obtain ⟨ta2, tc2, rfl, -, -⟩ := hn2.netI.tail.form
      obtain ⟨na2, nc2, rfl, -, -⟩ := hn2.netI.next.form
      obtain ⟨ca2, cc2, rfl, -, -⟩ := hn2.netI.cap.form
      have hw6 : Below w.heap.size w w6 := hw5.trans (hl6.mono hw5.size)
      have HB1' := hide ((unhide HB1).below hl6)
      have HN2 := hide hn2
      have hs56 : w5.heap.size ≤ w6.heap.size := hl6.size
      clear hn2 hl6 HB1 x0 x1 x2 x3
      go_wp2_with fail
      go_at_call 10
      refine (unhide HPL _ hw6).mono ?_
      rintro e w7 ⟨v3, tv3, nv3, cv3, rfl, hn3, hl7⟩
      have hval := hn3.val
      subst hval
      obtain ⟨ta3, tc3, rfl, -, -⟩ := hn3.netI.tail.form
      obtain ⟨na3, nc3, rfl, -, -⟩ := hn3.netI.next.form
      obtain ⟨ca3, cc3, rfl, -, -⟩ := hn3.netI.cap.form
      have hs67 : w6.heap.size ≤ w7.heap.size := hl7.size
      obtain ⟨W8, hW8⟩ : ∃ W8, W8 = (w7.alloc (.cells #[.int .i64 q.n, .slice ta2 q.tail.length tc2, .slice na2 q.next.length nc2, .slice ca2 q.cap.length cc2] 25)).alloc (.cells #[.int .i64 q.n, .slice ta3 q.tail.length tc3, .slice na3 q.next.length nc3, .slice ca3 q.cap.length cc3] 25) := ⟨_, rfl⟩
      have hal1 : Below w7.heap.size w7 (w7.alloc (.cells #[.int .i64 q.n, .slice ta2 q.tail.length tc2, .slice na2 q.next.length nc2, .slice ca2 q.cap.length cc2] 25)) := (Below.refl _ _).alloc (Nat.le_refl _) _
      have hal2 : Below (w7.alloc (.cells #[.int .i64 q.n, .slice ta2 q.tail.length tc2, .slice na2 q.next.length nc2, .slice ca2 q.cap.length cc2] 25)).heap.size (w7.alloc (.cells #[.int .i64 q.n, .slice ta2 q.tail.length tc2, .slice na2 q.next.length nc2, .slice ca2 q.cap.length cc2] 25)) W8 := by rw [hW8]; exact (Below.refl _ _).alloc (Nat.le_refl _) _
      have hsz1 : (w7.alloc (.cells #[.int .i64 q.n, .slice ta2 q.tail.length tc2, .slice na2 q.next.length nc2, .slice ca2 q.cap.length cc2] 25)).heap.size = w7.heap.size + 1 := by simp
      have hsz8 : W8.heap.size = w7.heap.size + 2 := by rw [hW8]; simp
      have hl78 : Below w7.heap.size w7 W8 := hal1.trans (hal2.mono hal1.size)
      have hw8 : Below w.heap.size w W8 := (hw6.trans (hl7.mono hw6.size)).trans (hl78.mono (Nat.le_trans hw6.size hs67))
      have hbx2 := net_new w7 (.int .i64 q.n) (.slice ta2 q.tail.length tc2) (.slice na2 q.next.length nc2) (.slice ca2 q.cap.length cc2) 25
      have hbx3 := net_new (w7.alloc (.cells #[.int .i64 q.n, .slice ta2 q.tail.length tc2, .slice na2 q.next.length nc2, .slice ca2 q.cap.length cc2] 25)) (.int .i64 q.n) (.slice ta3 q.tail.length tc3) (.slice na3 q.next.length nc3) (.slice ca3 q.cap.length cc3) 25
      rw [← hW8, hsz1] at hbx3
      have cB : ∀ i, W8.cell? ⟨w7.heap.size, i, none⟩ = (w7.alloc (.cells #[.int .i64 q.n, .slice ta2 q.tail.length tc2, .slice na2 q.next.length nc2, .slice ca2 q.cap.length cc2] 25)).cell? ⟨w7.heap.size, i, none⟩ := fun i => hal2.cell (by show w7.heap.size < _; omega)
      have HB8 : Hid (NetB W8 w2.heap.size w3.heap.size w3.heap.size q (.slice ta q.tail.length tc) (.slice na q.next.length nc) (.slice ca q.cap.length cc) ∧ NetB W8 w5.heap.size w6.heap.size w7.heap.size q (.slice ta2 q.tail.length tc2) (.slice na2 q.next.length nc2) (.slice ca2 q.cap.length cc2) ∧ NetB W8 w6.heap.size w7.heap.size (w7.heap.size + 1) q (.slice ta3 q.tail.length tc3) (.slice na3 q.next.length nc3) (.slice ca3 q.cap.length cc3)) := hide ⟨((unhide HB1').below hl7).below hl78, ⟨((unhide HN2).keep hl7).keep hl78, fun k hk => ((unhide HN2).tail.lt k hk).2, fun k hk => ((unhide HN2).next.lt k hk).2, fun k hk => ((unhide HN2).cap.lt k hk).2, ⟨by rw [cB]; exact hbx2.1, by rw [cB]; exact hbx2.2.1, by rw [cB]; exact hbx2.2.2.1, by rw [cB]; exact hbx2.2.2.2⟩, hs67, by omega⟩, ⟨hn3.keep hl78, fun k hk => (hn3.tail.lt k hk).2, fun k hk => (hn3.next.lt k hk).2, fun k hk => (hn3.cap.lt k hk).2, hbx3, by omega, by omega⟩⟩
      clear HB1' HN2 hn3 hl7 hal1 hal2 hl78 hbx2 hbx3 cB hsz1
      obtain ⟨g1, cc', hce1, hg1, -⟩ := own_form (unhide HB8).1.net.cap hcp
      injection hce1 with hce1 _ hqe1
      subst hce1
      subst hqe1
      obtain ⟨g2, cc2', hce2, hg2, -⟩ := own_form (unhide HB8).2.1.net.cap hcp
      injection hce2 with hce2 _ hqe2
      subst hce2
      subst hqe2
      obtain ⟨g3, cc3', hce3, hg3, -⟩ := own_form (unhide HB8).2.2.net.cap hcp
      injection hce3 with hce3 _ hqe3
      subst hce3
      subst hqe3
      have hg1h : g1 < w3.heap.size := (unhide HB8).1.cb g1 rfl
      have hg2h : g2 < w6.heap.size := (unhide HB8).2.1.cb g2 rfl
      have hg3h : g3 < w7.heap.size := (unhide HB8).2.2.cb g3 rfl
      obtain ⟨k, hk⟩ : ∃ k : Nat, at_ % (q.cap.length : Int) = (k : Int) := ⟨(at_ % (q.cap.length : Int)).toNat, by have := Int.emod_nonneg at_ (show (q.cap.length : Int) ≠ 0 by omega); omega⟩
      have hkm : k < q.cap.length := by have := Int.emod_lt_of_pos at_ (show (0 : Int) < (q.cap.length : Int) by omega); omega
      have hkI : (k : Int) < (q.cap.length : Int) := by omega
      have HWk := hide (fun w' => within8_any at_ (q.cap.length : Int) w' (by omega) (by omega))
      rw [hk] at HWk
      have hy0 : 0 ≤ by_ % 1000 := Int.emod_nonneg by_ (by omega)
      have hy1 : by_ % 1000 < 1000 := Int.emod_lt_of_pos by_ (by omega)
      have HWb := hide (fun w' => within8_any by_ 1000 w' (by omega) (by omega))
      generalize by_ % 1000 = yb at *
      clear hk
      have z3 := (unhide HB8).1.box.2.2.2
      go_upto_region 8 with fail
      rw [← hW8]
      clear hW8
      go_wp2_with fail
      go_at_call 11
      refine (unhide HWk _).mono ?_
      rintro e w9 ⟨rfl, h9⟩
      have h9' := h9.symm
      subst h9'
      clear h9 z3
      have hckb := (unhide HRQ).cb _ (Sp.getD_mem (l := q.cap) hkm)
      obtain ⟨b', o', e', -, hq'⟩ := (unhide HB8).2.1.net.cap.ints.at_ k hkm
      injection e' with e'
      injection e' with q1 q2
      have c2 := hq' W8 (Below.refl _ _)
      rw [← q1, ← q2, Nat.zero_add] at c2
      clear hq' q1 q2
      have z3 := (unhide HB8).2.1.box.2.2.2
      have f2 := fun j => own_frozen (unhide HB8).2.1.net.cap j
      obtain ⟨ck, hck⟩ : ∃ ck, q.cap.getD k 0 = ck := ⟨_, rfl⟩
      rw [hck] at c2 hckb
      have Hck := hide hck
      clear hck
      have hwk : IntKind.i64.wrap (ck + yb) = ck + yb := by rw [IntKind.wrap_i64]; omega
      obtain ⟨nk, hnk⟩ : ∃ nk, (if ck + yb ≤ 2147483648 then ck + yb else 2147483648) = nk := ⟨_, rfl⟩
      have hnk0 : ck ≤ nk ∧ 0 ≤ nk ∧ nk ≤ 2147483648 := by
        rw [← hnk]
        split <;> omega
      obtain ⟨C2, hC2⟩ : ∃ C2, q.cap.set k nk = C2 := ⟨_, rfl⟩
      have HBq : Hid (Below w.heap.size w (W8.drew.setCell ⟨g2, k, none⟩ (.int .i64 nk)) ∧ NetB (W8.drew.setCell ⟨g2, k, none⟩ (.int .i64 nk)) w2.heap.size w3.heap.size w3.heap.size (Sp.capQ q q.cap) (.slice ta q.tail.length tc) (.slice na q.next.length nc) (.slice (some ⟨g1, 0, none⟩) q.cap.length cc) ∧ NetB (W8.drew.setCell ⟨g2, k, none⟩ (.int .i64 nk)) w5.heap.size w6.heap.size w7.heap.size (Sp.capQ q C2) (.slice ta2 q.tail.length tc2) (.slice na2 q.next.length nc2) (.slice (some ⟨g2, 0, none⟩) q.cap.length cc2) ∧ NetB (W8.drew.setCell ⟨g2, k, none⟩ (.int .i64 nk)) w6.heap.size w7.heap.size (w7.heap.size + 1) (Sp.capQ q q.cap) (.slice ta3 q.tail.length tc3) (.slice na3 q.next.length nc3) (.slice (some ⟨g3, 0, none⟩) q.cap.length cc3)) := hide (by
        obtain ⟨h1, h2, h3⟩ := unhide HB8
        have hd : Below W8.heap.size W8 W8.drew := (Below.refl _ _).drew
        rw [← hC2]
        exact ⟨hw8.drew.setCell (p := ⟨g2, k, none⟩) (by show w.heap.size ≤ g2; have := hw5.size; omega) _, (h1.below hd).other (.inr (by omega)) (by omega) _, (h2.below hd).set k nk, (h3.below hd).other (.inl (by omega)) (by omega) _⟩)
      have HC2 : Hid (C2.length = q.cap.length ∧ ∀ j, j < q.cap.length → q.cap.getD j 0 ≤ C2.getD j 0 ∧ 0 ≤ C2.getD j 0 ∧ C2.getD j 0 ≤ 2147483648) := hide (by
        rw [← hC2]
        refine ⟨by rw [List.length_set], fun j hj => ?_⟩
        have hb := (unhide HRQ).cb _ (Sp.getD_mem (l := q.cap) hj)
        rw [getD_set_eq _ _ _ _ hkm]
        by_cases e : j = k
        · rw [if_pos e, e, unhide Hck]; exact hnk0
        · rw [if_neg e]; exact ⟨Int.le_refl _, hb⟩)
      have hgg1 : w.heap.size ≤ g1 := by omega
      have hgg3 : w.heap.size ≤ g3 := by have := hw5.size; omega
      have z3' := (unhide HB8).2.1.box.2.2.2
      have c2' := c2
      clear hC2 HB8 hw8 hw5 hw6 hnk0 HWk Hck
      go_upto_region 9 with fail
      go_cut [] (fun w' => Hid (Below w.heap.size w w' ∧ NetB w' w2.heap.size w3.heap.size w3.heap.size (Sp.capQ q q.cap) (.slice ta q.tail.length tc) (.slice na q.next.length nc) (.slice (some ⟨g1, 0, none⟩) q.cap.length cc) ∧ NetB w' w5.heap.size w6.heap.size w7.heap.size (Sp.capQ q C2) (.slice ta2 q.tail.length tc2) (.slice na2 q.next.length nc2) (.slice (some ⟨g2, 0, none⟩) q.cap.length cc2) ∧ NetB w' w6.heap.size w7.heap.size (w7.heap.size + 1) (Sp.capQ q q.cap) (.slice ta3 q.tail.length tc3) (.slice na3 q.next.length nc3) (.slice (some ⟨g3, 0, none⟩) q.cap.length cc3)))
      case first =>
        by_cases hle : ck + yb ≤ 2147483648
        · rw [if_pos hle] at hnk
          have hlt : ¬ 2147483648 < ck + yb := by omega
          subst hnk
          refine wp_region_G (fun w' => w'.cell? ⟨w7.heap.size, 3, none⟩ = some (.slice (some ⟨g2, 0, none⟩) q.cap.length cc2) ∧ w'.cell? ⟨g2, k, none⟩ = some (.int .i64 ck)) (fun i => i == 13) (by kernel_rfl) ⟨z3, c2⟩ (fun hHeld => ?_)
          clear z3 c2
          have f2s : ∀ j, W8.drew.frozen? ⟨g2, j, none⟩ = false := f2
          have hSq : W8.drew.cell? ⟨w7.heap.size, 3, none⟩ = some (.slice (some ⟨g2, 0, none⟩) q.cap.length cc2) ∧ W8.drew.cell? ⟨g2, k, none⟩ = some (.int .i64 ck) := ⟨z3', c2'⟩
          clear z3'
          have c2s : W8.drew.cell? ⟨g2, k, none⟩ = some (.int .i64 ck) := c2'
          clear c2'
          generalize W8.drew = wq at *
          refine wpAnyG_take (v := ?_) 0 (by rfl) (by kernel_rfl) (by kernel_rfl) (by kernel_rfl) (by kernel_rfl) (fun _ _ _ h => h) (Or.inl ⟨by rfl, ?_⟩) (by assumption) ?_
          rotate_left
          · (intro w' hSw; (try dsimp only at hSw); (try simp only [List.getElem_toArray, List.getElem_cons_zero]); go_simp; try (with_reducible rfl))
          simp only [Act.put, List.getElem_toArray, List.getElem_cons_zero, List.setIfInBounds_toArray, List.set_cons_zero, List.set_cons_succ]
          refine wpAnyG_take (v := ?_) 1 (by rfl) (by kernel_rfl) (by kernel_rfl) (by kernel_rfl) (by kernel_rfl) (fun _ _ _ h => h) (Or.inl ⟨by rfl, ?_⟩) (by assumption) ?_
          rotate_left
          · (intro w' hSw; (try dsimp only at hSw); (try simp only [List.getElem_toArray, List.getElem_cons_succ, List.getElem_cons_zero]); go_simp; try (with_reducible rfl))
          simp only [Act.put, List.getElem_toArray, List.getElem_cons_succ, List.getElem_cons_zero, List.setIfInBounds_toArray, List.set_cons_zero, List.set_cons_succ]
          refine wpAnyG_take (v := ?_) 2 (by rfl) (by kernel_rfl) (by kernel_rfl) (by kernel_rfl) (by kernel_rfl) (fun _ _ _ h => h) (Or.inl ⟨by rfl, ?_⟩) (by assumption) ?_
          rotate_left
          · (intro w' hSw; (try dsimp only at hSw); (try simp only [List.getElem_toArray, List.getElem_cons_succ, List.getElem_cons_zero]); go_simp; try (with_reducible rfl))
          simp only [Act.put, List.getElem_toArray, List.getElem_cons_succ, List.getElem_cons_zero, List.setIfInBounds_toArray, List.set_cons_zero, List.set_cons_succ]
          refine wpAnyG_take (v := ?_) 3 (by rfl) (by kernel_rfl) (by kernel_rfl) (by kernel_rfl) (by kernel_rfl) (fun _ _ _ h => h) (Or.inl ⟨by rfl, ?_⟩) (by assumption) ?_
          rotate_left
          · (intro w' hSw; (try dsimp only at hSw); (try simp only [List.getElem_toArray, List.getElem_cons_succ, List.getElem_cons_zero]); go_simp; try (with_reducible rfl))
          simp only [Act.put, List.getElem_toArray, List.getElem_cons_succ, List.getElem_cons_zero, List.setIfInBounds_toArray, List.set_cons_zero, List.set_cons_succ]
          refine wpAnyG_take (v := ?_) 4 (by rfl) (by kernel_rfl) (by kernel_rfl) (by kernel_rfl) (by kernel_rfl) (fun _ _ _ h => h) (Or.inl ⟨by rfl, ?_⟩) (by assumption) ?_
          rotate_left
          · (intro w' hSw; (try dsimp only at hSw); (try simp only [List.getElem_toArray, List.getElem_cons_succ, List.getElem_cons_zero]); go_simp; try (with_reducible rfl))
          simp only [Act.put, List.getElem_toArray, List.getElem_cons_succ, List.getElem_cons_zero, List.setIfInBounds_toArray, List.set_cons_zero, List.set_cons_succ]
          refine wpAnyG_take (v := ?_) 5 (by rfl) (by kernel_rfl) (by kernel_rfl) (by kernel_rfl) (by kernel_rfl) (fun _ _ _ h => h) (Or.inl ⟨by rfl, ?_⟩) (by assumption) ?_
          rotate_left
          · (intro w' hSw; (try dsimp only at hSw); (try simp only [List.getElem_toArray, List.getElem_cons_succ, List.getElem_cons_zero]); go_simp; try (with_reducible rfl))
          simp only [Act.put, List.getElem_toArray, List.getElem_cons_succ, List.getElem_cons_zero, List.setIfInBounds_toArray, List.set_cons_zero, List.set_cons_succ]
          refine wpAnyG_take (v := ?_) 6 (by rfl) (by kernel_rfl) (by kernel_rfl) (by kernel_rfl) (by kernel_rfl) (fun _ _ _ h => h) (Or.inl ⟨by rfl, ?_⟩) (by assumption) ?_
          rotate_left
          · (intro w' hSw; (try dsimp only at hSw); (try simp only [List.getElem_toArray, List.getElem_cons_succ, List.getElem_cons_zero]); go_simp; try (with_reducible rfl))
          simp only [Act.put, List.getElem_toArray, List.getElem_cons_succ, List.getElem_cons_zero, List.setIfInBounds_toArray, List.set_cons_zero, List.set_cons_succ]
          refine wpAnyG_take (v := ?_) 7 (by rfl) (by kernel_rfl) (by kernel_rfl) (by kernel_rfl) (by kernel_rfl) (fun _ _ _ h => h) (Or.inl ⟨by rfl, ?_⟩) (by assumption) ?_
          rotate_left
          · (intro w' hSw; (try dsimp only at hSw); (try simp only [List.getElem_toArray, List.getElem_cons_succ, List.getElem_cons_zero]); go_simp; try (with_reducible rfl))
          simp only [Act.put, List.getElem_toArray, List.getElem_cons_succ, List.getElem_cons_zero, List.setIfInBounds_toArray, List.set_cons_zero, List.set_cons_succ]
          refine wpAnyG_take (v := ?_) 8 (by rfl) (by kernel_rfl) (by kernel_rfl) (by kernel_rfl) (by kernel_rfl) (fun _ _ _ h => h) (Or.inl ⟨by rfl, ?_⟩) (by assumption) ?_
          rotate_left
          · (intro w' hSw; (try dsimp only at hSw); (try simp only [List.getElem_toArray, List.getElem_cons_succ, List.getElem_cons_zero]); go_simp; try (with_reducible rfl))
          simp only [Act.put, List.getElem_toArray, List.getElem_cons_succ, List.getElem_cons_zero, List.setIfInBounds_toArray, List.set_cons_zero, List.set_cons_succ]
          refine wpAnyG_ready [9] (by kernel_rfl) (by simp) ?_
          refine AllReadyG.cons 9 (by rfl) (fun K hK => ?_) ?_
          · simp only [List.getElem_toArray, List.getElem_cons_succ, List.getElem_cons_zero]
            go_simp
            go_at_call 11
            refine (unhide HWb _).mono ?_
            rintro e w9 ⟨rfl, h9⟩
            have h9' := h9.symm
            clear h9
            subst h9'
            refine hK.out _ _ hSq (fun _ => ?_)
            clear hK K
            try simp only [Act.put, List.setIfInBounds_toArray, List.set_cons_zero, List.set_cons_succ]
            refine wpAnyG_take (v := ?_) 10 (by rfl) (by kernel_rfl) (by kernel_rfl) (by kernel_rfl) (by kernel_rfl) (fun _ _ _ h => h) (Or.inl ⟨by rfl, ?_⟩) (by assumption) ?_
            rotate_left
            · (intro w' hSw; (try dsimp only at hSw); (try simp only [List.getElem_toArray, List.getElem_cons_succ, List.getElem_cons_zero]); go_simp; try (with_reducible rfl))
            simp only [Act.put, List.getElem_toArray, List.getElem_cons_succ, List.getElem_cons_zero, List.setIfInBounds_toArray, List.set_cons_zero, List.set_cons_succ]
            refine wpAnyG_take (v := ?_) 11 (by rfl) (by kernel_rfl) (by kernel_rfl) (by kernel_rfl) (by kernel_rfl) (fun _ _ _ h => h) (Or.inl ⟨by rfl, ?_⟩) (by assumption) ?_
            rotate_left
            · (intro w' hSw; (try dsimp only at hSw); (try simp only [List.getElem_toArray, List.getElem_cons_succ, List.getElem_cons_zero]); go_simp; try (with_reducible rfl))
            simp only [Act.put, List.getElem_toArray, List.getElem_cons_succ, List.getElem_cons_zero, List.setIfInBounds_toArray, List.set_cons_zero, List.set_cons_succ]
            refine wpAnyG_take (v := ?_) 12 (by rfl) (by kernel_rfl) (by kernel_rfl) (by kernel_rfl) (by kernel_rfl) (fun _ _ _ h => h) (Or.inl ⟨by rfl, ?_⟩) (by assumption) ?_
            rotate_left
            · (intro w' hSw; (try dsimp only at hSw); (try simp only [List.getElem_toArray, List.getElem_cons_succ, List.getElem_cons_zero]); go_simp; try (with_reducible rfl))
            simp only [Act.put, List.getElem_toArray, List.getElem_cons_succ, List.getElem_cons_zero, List.setIfInBounds_toArray, List.set_cons_zero, List.set_cons_succ]
            refine wpAnyG_ready [13] (by kernel_rfl) (by simp) ?_
            refine AllReadyG.last 13 (by rfl) (by kernel_rfl) (fun K hK => ?_) ?_
            · simp only [List.getElem_toArray, List.getElem_cons_succ, List.getElem_cons_zero]
              go_simp
              refine hK.out _ _ ?_
              clear hK K
              try simp only [Act.put, List.setIfInBounds_toArray, List.set_cons_zero, List.set_cons_succ]
              refine wpAnyG_done (by kernel_rfl) ?_ _
              refine NoPanic.normal ?_
              clear hHeld hSq
              go_wp2
              go_meet
              exact HBq
            exact AllReadyG.nil
          exact AllReadyG.nil
        · rw [if_neg hle] at hnk
          have hlt : 2147483648 < ck + yb := by omega
          subst hnk
          refine wp_region_G (fun w' => w'.cell? ⟨w7.heap.size, 3, none⟩ = some (.slice (some ⟨g2, 0, none⟩) q.cap.length cc2) ∧ w'.cell? ⟨g2, k, none⟩ = some (.int .i64 ck)) (fun i => i == 13) (by kernel_rfl) ⟨z3, c2⟩ (fun hHeld => ?_)
          clear z3 c2
          have f2s : ∀ j, W8.drew.frozen? ⟨g2, j, none⟩ = false := f2
          have hSq : W8.drew.cell? ⟨w7.heap.size, 3, none⟩ = some (.slice (some ⟨g2, 0, none⟩) q.cap.length cc2) ∧ W8.drew.cell? ⟨g2, k, none⟩ = some (.int .i64 ck) := ⟨z3', c2'⟩
          clear z3'
          have c2s : W8.drew.cell? ⟨g2, k, none⟩ = some (.int .i64 ck) := c2'
          clear c2'
          generalize W8.drew = wq at *
          refine wpAnyG_take (v := ?_) 0 (by rfl) (by kernel_rfl) (by kernel_rfl) (by kernel_rfl) (by kernel_rfl) (fun _ _ _ h => h) (Or.inl ⟨by rfl, ?_⟩) (by assumption) ?_
          rotate_left
          · (intro w' hSw; (try dsimp only at hSw); (try simp only [List.getElem_toArray, List.getElem_cons_zero]); go_simp; try (with_reducible rfl))
          simp only [Act.put, List.getElem_toArray, List.getElem_cons_zero, List.setIfInBounds_toArray, List.set_cons_zero, List.set_cons_succ]
          refine wpAnyG_take (v := ?_) 1 (by rfl) (by kernel_rfl) (by kernel_rfl) (by kernel_rfl) (by kernel_rfl) (fun _ _ _ h => h) (Or.inl ⟨by rfl, ?_⟩) (by assumption) ?_
          rotate_left
          · (intro w' hSw; (try dsimp only at hSw); (try simp only [List.getElem_toArray, List.getElem_cons_succ, List.getElem_cons_zero]); go_simp; try (with_reducible rfl))
          simp only [Act.put, List.getElem_toArray, List.getElem_cons_succ, List.getElem_cons_zero, List.setIfInBounds_toArray, List.set_cons_zero, List.set_cons_succ]
          refine wpAnyG_take (v := ?_) 2 (by rfl) (by kernel_rfl) (by kernel_rfl) (by kernel_rfl) (by kernel_rfl) (fun _ _ _ h => h) (Or.inl ⟨by rfl, ?_⟩) (by assumption) ?_
          rotate_left
          · (intro w' hSw; (try dsimp only at hSw); (try simp only [List.getElem_toArray, List.getElem_cons_succ, List.getElem_cons_zero]); go_simp; try (with_reducible rfl))
          simp only [Act.put, List.getElem_toArray, List.getElem_cons_succ, List.getElem_cons_zero, List.setIfInBounds_toArray, List.set_cons_zero, List.set_cons_succ]
          refine wpAnyG_take (v := ?_) 3 (by rfl) (by kernel_rfl) (by kernel_rfl) (by kernel_rfl) (by kernel_rfl) (fun _ _ _ h => h) (Or.inl ⟨by rfl, ?_⟩) (by assumption) ?_
          rotate_left
          · (intro w' hSw; (try dsimp only at hSw); (try simp only [List.getElem_toArray, List.getElem_cons_succ, List.getElem_cons_zero]); go_simp; try (with_reducible rfl))
          simp only [Act.put, List.getElem_toArray, List.getElem_cons_succ, List.getElem_cons_zero, List.setIfInBounds_toArray, List.set_cons_zero, List.set_cons_succ]
          refine wpAnyG_take (v := ?_) 4 (by rfl) (by kernel_rfl) (by kernel_rfl) (by kernel_rfl) (by kernel_rfl) (fun _ _ _ h => h) (Or.inl ⟨by rfl, ?_⟩) (by assumption) ?_
          rotate_left
          · (intro w' hSw; (try dsimp only at hSw); (try simp only [List.getElem_toArray, List.getElem_cons_succ, List.getElem_cons_zero]); go_simp; try (with_reducible rfl))
          simp only [Act.put, List.getElem_toArray, List.getElem_cons_succ, List.getElem_cons_zero, List.setIfInBounds_toArray, List.set_cons_zero, List.set_cons_succ]
          refine wpAnyG_take (v := ?_) 5 (by rfl) (by kernel_rfl) (by kernel_rfl) (by kernel_rfl) (by kernel_rfl) (fun _ _ _ h => h) (Or.inl ⟨by rfl, ?_⟩) (by assumption) ?_
          rotate_left
          · (intro w' hSw; (try dsimp only at hSw); (try simp only [List.getElem_toArray, List.getElem_cons_succ, List.getElem_cons_zero]); go_simp; try (with_reducible rfl))
          simp only [Act.put, List.getElem_toArray, List.getElem_cons_succ, List.getElem_cons_zero, List.setIfInBounds_toArray, List.set_cons_zero, List.set_cons_succ]
          refine wpAnyG_take (v := ?_) 6 (by rfl) (by kernel_rfl) (by kernel_rfl) (by kernel_rfl) (by kernel_rfl) (fun _ _ _ h => h) (Or.inl ⟨by rfl, ?_⟩) (by assumption) ?_
          rotate_left
          · (intro w' hSw; (try dsimp only at hSw); (try simp only [List.getElem_toArray, List.getElem_cons_succ, List.getElem_cons_zero]); go_simp; try (with_reducible rfl))
          simp only [Act.put, List.getElem_toArray, List.getElem_cons_succ, List.getElem_cons_zero, List.setIfInBounds_toArray, List.set_cons_zero, List.set_cons_succ]
          refine wpAnyG_take (v := ?_) 7 (by rfl) (by kernel_rfl) (by kernel_rfl) (by kernel_rfl) (by kernel_rfl) (fun _ _ _ h => h) (Or.inl ⟨by rfl, ?_⟩) (by assumption) ?_
          rotate_left
          · (intro w' hSw; (try dsimp only at hSw); (try simp only [List.getElem_toArray, List.getElem_cons_succ, List.getElem_cons_zero]); go_simp; try (with_reducible rfl))
          simp only [Act.put, List.getElem_toArray, List.getElem_cons_succ, List.getElem_cons_zero, List.setIfInBounds_toArray, List.set_cons_zero, List.set_cons_succ]
          refine wpAnyG_take (v := ?_) 8 (by rfl) (by kernel_rfl) (by kernel_rfl) (by kernel_rfl) (by kernel_rfl) (fun _ _ _ h => h) (Or.inl ⟨by rfl, ?_⟩) (by assumption) ?_
          rotate_left
          · (intro w' hSw; (try dsimp only at hSw); (try simp only [List.getElem_toArray, List.getElem_cons_succ, List.getElem_cons_zero]); go_simp; try (with_reducible rfl))
          simp only [Act.put, List.getElem_toArray, List.getElem_cons_succ, List.getElem_cons_zero, List.setIfInBounds_toArray, List.set_cons_zero, List.set_cons_succ]
          refine wpAnyG_ready [9] (by kernel_rfl) (by simp) ?_
          refine AllReadyG.cons 9 (by rfl) (fun K hK => ?_) ?_
          · simp only [List.getElem_toArray, List.getElem_cons_succ, List.getElem_cons_zero]
            go_simp
            go_at_call 11
            refine (unhide HWb _).mono ?_
            rintro e w9 ⟨rfl, h9⟩
            have h9' := h9.symm
            clear h9
            subst h9'
            refine hK.out _ _ hSq (fun _ => ?_)
            clear hK K
            try simp only [Act.put, List.setIfInBounds_toArray, List.set_cons_zero, List.set_cons_succ]
            refine wpAnyG_take (v := ?_) 10 (by rfl) (by kernel_rfl) (by kernel_rfl) (by kernel_rfl) (by kernel_rfl) (fun _ _ _ h => h) (Or.inl ⟨by rfl, ?_⟩) (by assumption) ?_
            rotate_left
            · (intro w' hSw; (try dsimp only at hSw); (try simp only [List.getElem_toArray, List.getElem_cons_succ, List.getElem_cons_zero]); go_simp; try (with_reducible rfl))
            simp only [Act.put, List.getElem_toArray, List.getElem_cons_succ, List.getElem_cons_zero, List.setIfInBounds_toArray, List.set_cons_zero, List.set_cons_succ]
            refine wpAnyG_take (v := ?_) 11 (by rfl) (by kernel_rfl) (by kernel_rfl) (by kernel_rfl) (by kernel_rfl) (fun _ _ _ h => h) (Or.inl ⟨by rfl, ?_⟩) (by assumption) ?_
            rotate_left
            · (intro w' hSw; (try dsimp only at hSw); (try simp only [List.getElem_toArray, List.getElem_cons_succ, List.getElem_cons_zero]); go_simp; try (with_reducible rfl))
            simp only [Act.put, List.getElem_toArray, List.getElem_cons_succ, List.getElem_cons_zero, List.setIfInBounds_toArray, List.set_cons_zero, List.set_cons_succ]
            refine wpAnyG_take (v := ?_) 12 (by rfl) (by kernel_rfl) (by kernel_rfl) (by kernel_rfl) (by kernel_rfl) (fun _ _ _ h => h) (Or.inl ⟨by rfl, ?_⟩) (by assumption) ?_
            rotate_left
            · (intro w' hSw; (try dsimp only at hSw); (try simp only [List.getElem_toArray, List.getElem_cons_succ, List.getElem_cons_zero]); go_simp; try (with_reducible rfl))
            simp only [Act.put, List.getElem_toArray, List.getElem_cons_succ, List.getElem_cons_zero, List.setIfInBounds_toArray, List.set_cons_zero, List.set_cons_succ]
            refine wpAnyG_ready [13] (by kernel_rfl) (by simp) ?_
            refine AllReadyG.last 13 (by rfl) (by kernel_rfl) (fun K hK => ?_) ?_
            · simp only [List.getElem_toArray, List.getElem_cons_succ, List.getElem_cons_zero]
              go_simp
              refine hK.out _ _ ?_
              clear hK K
              try simp only [Act.put, List.setIfInBounds_toArray, List.set_cons_zero, List.set_cons_succ]
              refine wpAnyG_done (by kernel_rfl) ?_ _
              refine NoPanic.normal ?_
              clear hHeld hSq
              go_wp2
              go_meet
              exact HBq
            exact AllReadyG.nil
          exact AllReadyG.nil
      case rest =>
        obtain ⟨wX, rfl⟩ : ∃ wX, wX = wc := ⟨_, rfl⟩
        have HX := hcut
        clear HBq z3 z3' c2 c2' f2 hwk hnk hkI hkm hckb
        have y3 := (unhide HX).2.2.2.box.2.2.2
        go_wp2
        clear y3
        go_loopg [17] q.cap.length (fun g s17 wr => ∃ (i : Nat) (C1 C3 : List Int), i + g = q.cap.length ∧ s17 = .int .i64 (i : Int) ∧ Hid (Below w.heap.size w wr ∧ NetB wr w2.heap.size w3.heap.size w3.heap.size (Sp.capQ q C1) (.slice ta q.tail.length tc) (.slice na q.next.length nc) (.slice (some ⟨g1, 0, none⟩) q.cap.length cc) ∧ NetB wr w5.heap.size w6.heap.size w7.heap.size (Sp.capQ q C2) (.slice ta2 q.tail.length tc2) (.slice na2 q.next.length nc2) (.slice (some ⟨g2, 0, none⟩) q.cap.length cc2) ∧ NetB wr w6.heap.size w7.heap.size (w7.heap.size + 1) (Sp.capQ q C3) (.slice ta3 q.tail.length tc3) (.slice na3 q.next.length nc3) (.slice (some ⟨g3, 0, none⟩) q.cap.length cc3) ∧ C1.length = q.cap.length ∧ C3.length = q.cap.length ∧ ∀ j, j < q.cap.length → (j < i → C1.getD j 0 = q.cap.getD j 0 / 2 ∧ C3.getD j 0 = q.cap.getD j 0 / 2 * 2) ∧ (i ≤ j → C1.getD j 0 = q.cap.getD j 0)))
        case atStart => exact ⟨0, q.cap, q.cap, by omega, rfl, hide ⟨(unhide HX).1, (unhide HX).2.1, (unhide HX).2.2.1, (unhide HX).2.2.2, rfl, rfl, fun j hj => ⟨fun h => by omega, fun _ => rfl⟩⟩⟩
        case round =>
          clear HX
          obtain ⟨i, C1, C3, hig, rfl, HI⟩ := hrel
          have hl1 := (unhide HI).2.2.2.2.1
          have hl3 := (unhide HI).2.2.2.2.2.1
          have HV := hide (unhide HI).2.2.2.2.2.2
          have y3 := (unhide HI).2.2.2.1.box.2.2.2
          cases gk with
          | succ g' =>
            have hi : i < q.cap.length := by omega
            have hiI : (i : Int) < (q.cap.length : Int) := by omega
            have z3 := (unhide HI).2.1.box.2.2.2
            obtain ⟨b', o', e', -, hq'⟩ := (unhide HI).2.1.net.cap.ints.at_ i (by show i < C1.length; omega)
            injection e' with e'
            injection e' with q1 q2
            have c1 := hq' wr (Below.refl _ _)
            rw [← q1, ← q2, Nat.zero_add, show (Sp.capQ q C1).cap.getD i 0 = q.cap.getD i 0 from ((unhide HV) i hi).2 (Nat.le_refl _)] at c1
            have f1 := fun j => own_frozen (unhide HI).2.1.net.cap j
            have hcib := (unhide HRQ).cb _ (Sp.getD_mem (l := q.cap) hi)
            obtain ⟨ci, hci⟩ : ∃ ci, q.cap.getD i 0 = ci := ⟨_, rfl⟩
            rw [hci] at c1 hcib
            have HCi2 := hide hci
            have hq2 : ci.tdiv 2 = ci / 2 := Int.tdiv_eq_ediv_of_nonneg hcib.1
            have hw1 : IntKind.i64.wrap (ci / 2) = ci / 2 := by rw [IntKind.wrap_i64]; omega
            have hw2 : IntKind.i64.wrap (ci / 2 * 2) = ci / 2 * 2 := by rw [IntKind.wrap_i64]; omega
            have HQ : Hid (Below w.heap.size w wr.drew ∧ NetB wr.drew w2.heap.size w3.heap.size w3.heap.size (Sp.capQ q C1) (.slice ta q.tail.length tc) (.slice na q.next.length nc) (.slice (some ⟨g1, 0, none⟩) q.cap.length cc) ∧ NetB wr.drew w5.heap.size w6.heap.size w7.heap.size (Sp.capQ q C2) (.slice ta2 q.tail.length tc2) (.slice na2 q.next.length nc2) (.slice (some ⟨g2, 0, none⟩) q.cap.length cc2) ∧ NetB wr.drew w6.heap.size w7.heap.size (w7.heap.size + 1) (Sp.capQ q C3) (.slice ta3 q.tail.length tc3) (.slice na3 q.next.length nc3) (.slice (some ⟨g3, 0, none⟩) q.cap.length cc3)) := hide (by
              have hd : Below wr.heap.size wr wr.drew := (Below.refl _ _).drew
              exact ⟨(unhide HI).1.drew, (unhide HI).2.1.below hd, (unhide HI).2.2.1.below hd, (unhide HI).2.2.2.1.below hd⟩)
            clear hq' q1 q2 HI hci
            go_upto_region 13 with fail
            clear y3
            refine wp_region_G (fun w' => w'.cell? ⟨w3.heap.size, 3, none⟩ = some (.slice (some ⟨g1, 0, none⟩) q.cap.length cc) ∧ w'.cell? ⟨g1, i, none⟩ = some (.int .i64 ci)) (fun i => i == 10) (by kernel_rfl) ⟨z3, c1⟩ (fun hHeld => ?_)
            have c1s : wr.drew.cell? ⟨g1, i, none⟩ = some (.int .i64 ci) := c1
            have f1s : ∀ j, wr.drew.frozen? ⟨g1, j, none⟩ = false := f1
            clear z3 c1 f1
            generalize wr.drew = wq at *
            refine wpAnyG_take (v := ?_) 0 (by rfl) (by kernel_rfl) (by kernel_rfl) (by kernel_rfl) (by kernel_rfl) (fun _ _ _ h => h) (Or.inl ⟨by rfl, ?_⟩) (by assumption) ?_
            rotate_left
            · (intro w' hSw; (try dsimp only at hSw); (try simp only [List.getElem_toArray, List.getElem_cons_zero]); go_simp; try (with_reducible rfl))
            simp only [Act.put, List.getElem_toArray, List.getElem_cons_zero, List.setIfInBounds_toArray, List.set_cons_zero, List.set_cons_succ]
            refine wpAnyG_take (v := ?_) 1 (by rfl) (by kernel_rfl) (by kernel_rfl) (by kernel_rfl) (by kernel_rfl) (fun _ _ _ h => h) (Or.inl ⟨by rfl, ?_⟩) (by assumption) ?_
            rotate_left
            · (intro w' hSw; (try dsimp only at hSw); (try simp only [List.getElem_toArray, List.getElem_cons_succ, List.getElem_cons_zero]); go_simp; try (with_reducible rfl))
            simp only [Act.put, List.getElem_toArray, List.getElem_cons_succ, List.getElem_cons_zero, List.setIfInBounds_toArray, List.set_cons_zero, List.set_cons_succ]
            refine wpAnyG_take (v := ?_) 2 (by rfl) (by kernel_rfl) (by kernel_rfl) (by kernel_rfl) (by kernel_rfl) (fun _ _ _ h => h) (Or.inl ⟨by rfl, ?_⟩) (by assumption) ?_
            rotate_left
            · (intro w' hSw; (try dsimp only at hSw); (try simp only [List.getElem_toArray, List.getElem_cons_succ, List.getElem_cons_zero]); go_simp; try (with_reducible rfl))
            simp only [Act.put, List.getElem_toArray, List.getElem_cons_succ, List.getElem_cons_zero, List.setIfInBounds_toArray, List.set_cons_zero, List.set_cons_succ]
            refine wpAnyG_take (v := ?_) 3 (by rfl) (by kernel_rfl) (by kernel_rfl) (by kernel_rfl) (by kernel_rfl) (fun _ _ _ h => h) (Or.inl ⟨by rfl, ?_⟩) (by assumption) ?_
            rotate_left
            · (intro w' hSw; (try dsimp only at hSw); (try simp only [List.getElem_toArray, List.getElem_cons_succ, List.getElem_cons_zero]); go_simp; try (with_reducible rfl))
            simp only [Act.put, List.getElem_toArray, List.getElem_cons_succ, List.getElem_cons_zero, List.setIfInBounds_toArray, List.set_cons_zero, List.set_cons_succ]
            refine wpAnyG_take (v := ?_) 4 (by rfl) (by kernel_rfl) (by kernel_rfl) (by kernel_rfl) (by kernel_rfl) (fun _ _ _ h => h) (Or.inl ⟨by rfl, ?_⟩) (by assumption) ?_
            rotate_left
            · (intro w' hSw; (try dsimp only at hSw); (try simp only [List.getElem_toArray, List.getElem_cons_succ, List.getElem_cons_zero]); go_simp; try (with_reducible rfl))
            simp only [Act.put, List.getElem_toArray, List.getElem_cons_succ, List.getElem_cons_zero, List.setIfInBounds_toArray, List.set_cons_zero, List.set_cons_succ]
            refine wpAnyG_take (v := ?_) 5 (by rfl) (by kernel_rfl) (by kernel_rfl) (by kernel_rfl) (by kernel_rfl) (fun _ _ _ h => h) (Or.inl ⟨by rfl, ?_⟩) (by assumption) ?_
            rotate_left
            · (intro w' hSw; (try dsimp only at hSw); (try simp only [List.getElem_toArray, List.getElem_cons_succ, List.getElem_cons_zero]); go_simp; try (with_reducible rfl))
            simp only [Act.put, List.getElem_toArray, List.getElem_cons_succ, List.getElem_cons_zero, List.setIfInBounds_toArray, List.set_cons_zero, List.set_cons_succ]
            refine wpAnyG_take (v := ?_) 6 (by rfl) (by kernel_rfl) (by kernel_rfl) (by kernel_rfl) (by kernel_rfl) (fun _ _ _ h => h) (Or.inl ⟨by rfl, ?_⟩) (by assumption) ?_
            rotate_left
            · (intro w' hSw; (try dsimp only at hSw); (try simp only [List.getElem_toArray, List.getElem_cons_succ, List.getElem_cons_zero]); go_simp; try (with_reducible rfl))
            simp only [Act.put, List.getElem_toArray, List.getElem_cons_succ, List.getElem_cons_zero, List.setIfInBounds_toArray, List.set_cons_zero, List.set_cons_succ]
            refine wpAnyG_take (v := ?_) 7 (by rfl) (by kernel_rfl) (by kernel_rfl) (by kernel_rfl) (by kernel_rfl) (fun _ _ _ h => h) (Or.inl ⟨by rfl, ?_⟩) (by assumption) ?_
            rotate_left
            · (intro w' hSw; (try dsimp only at hSw); (try simp only [List.getElem_toArray, List.getElem_cons_succ, List.getElem_cons_zero]); go_simp; try (with_reducible rfl))
            simp only [Act.put, List.getElem_toArray, List.getElem_cons_succ, List.getElem_cons_zero, List.setIfInBounds_toArray, List.set_cons_zero, List.set_cons_succ]
            refine wpAnyG_take (v := ?_) 8 (by rfl) (by kernel_rfl) (by kernel_rfl) (by kernel_rfl) (by kernel_rfl) (fun _ _ _ h => h) (Or.inl ⟨by rfl, ?_⟩) (by assumption) ?_
            rotate_left
            · (intro w' hSw; (try dsimp only at hSw); (try simp only [List.getElem_toArray, List.getElem_cons_succ, List.getElem_cons_zero]); go_simp; try (with_reducible rfl))
            simp only [Act.put, List.getElem_toArray, List.getElem_cons_succ, List.getElem_cons_zero, List.setIfInBounds_toArray, List.set_cons_zero, List.set_cons_succ]
            refine wpAnyG_take (v := ?_) 9 (by rfl) (by kernel_rfl) (by kernel_rfl) (by kernel_rfl) (by kernel_rfl) (fun _ _ _ h => h) (Or.inl ⟨by rfl, ?_⟩) (by assumption) ?_
            rotate_left
            · (intro w' hSw; (try dsimp only at hSw); (try simp only [List.getElem_toArray, List.getElem_cons_succ, List.getElem_cons_zero]); go_simp; try (with_reducible rfl))
            simp only [Act.put, List.getElem_toArray, List.getElem_cons_succ, List.getElem_cons_zero, List.setIfInBounds_toArray, List.set_cons_zero, List.set_cons_succ]
            refine wpAnyG_ready [10] (by kernel_rfl) (by simp) ?_
            refine AllReadyG.last 10 (by rfl) (by kernel_rfl) (fun K hK => ?_) ?_
            · simp only [List.getElem_toArray, List.getElem_cons_succ, List.getElem_cons_zero]
              go_simp
              refine hK.out _ _ ?_
              clear hK K
              try simp only [Act.put, List.setIfInBounds_toArray, List.set_cons_zero, List.set_cons_succ]
              refine wpAnyG_done (by kernel_rfl) ?_ _
              refine NoPanic.normal ?_
              clear hHeld
              have HZ : Hid (∀ wz, wz = wq.setCell ⟨g1, i, none⟩ (.int .i64 (ci / 2)) → Below w.heap.size w wz ∧ NetB wz w2.heap.size w3.heap.size w3.heap.size (Sp.capQ q (C1.set i (ci / 2))) (.slice ta q.tail.length tc) (.slice na q.next.length nc) (.slice (some ⟨g1, 0, none⟩) q.cap.length cc) ∧ NetB wz w5.heap.size w6.heap.size w7.heap.size (Sp.capQ q C2) (.slice ta2 q.tail.length tc2) (.slice na2 q.next.length nc2) (.slice (some ⟨g2, 0, none⟩) q.cap.length cc2) ∧ NetB wz w6.heap.size w7.heap.size (w7.heap.size + 1) (Sp.capQ q C3) (.slice ta3 q.tail.length tc3) (.slice na3 q.next.length nc3) (.slice (some ⟨g3, 0, none⟩) q.cap.length cc3)) := hide fun wz hz => by
                subst hz
                have h := unhide HQ
                exact ⟨h.1.setCell (p := ⟨g1, i, none⟩) (by show w.heap.size ≤ g1; omega) _, h.2.1.set i (ci / 2), h.2.2.1.other (.inl (by omega)) (by omega) _, h.2.2.2.other (.inl (by omega)) (by omega) _⟩
              go_upto_region 14 with fail
              obtain ⟨wz, hwz⟩ : ∃ wz, wz = wq.setCell ⟨g1, i, none⟩ (.int .i64 (ci / 2)) := ⟨_, rfl⟩
              rw [← hwz]
              have HS := hide (unhide HZ wz hwz)
              clear HZ HQ hwz
              have z3 := (unhide HS).2.1.box.2.2.2
              have y3 := (unhide HS).2.2.2.box.2.2.2
              obtain ⟨b', o', e', -, hq'⟩ := (unhide HS).2.1.net.cap.ints.at_ i (by show i < (C1.set i (ci / 2)).length; rw [List.length_set]; omega)
              injection e' with e'
              injection e' with q1 q2
              have c1 := hq' wz (Below.refl _ _)
              rw [← q1, ← q2, Nat.zero_add, show (Sp.capQ q (C1.set i (ci / 2))).cap.getD i 0 = ci / 2 by show (C1.set i (ci / 2)).getD i 0 = _; rw [getD_set_eq _ _ _ _ (by omega), if_pos rfl]] at c1
              obtain ⟨b'', o'', e'', -, hq''⟩ := (unhide HS).2.2.2.net.cap.ints.at_ i (by show i < C3.length; omega)
              injection e'' with e''
              injection e'' with q3 q4
              have c3 := hq'' wz (Below.refl _ _)
              rw [← q3, ← q4, Nat.zero_add] at c3
              clear hq' hq'' q1 q2 q3 q4
              have f3 := fun j => own_frozen (unhide HS).2.2.2.net.cap j
              have HN2 : Hid (Below w.heap.size w (wz.drew.setCell ⟨g3, i, none⟩ (.int .i64 (ci / 2 * 2))) ∧ NetB (wz.drew.setCell ⟨g3, i, none⟩ (.int .i64 (ci / 2 * 2))) w2.heap.size w3.heap.size w3.heap.size (Sp.capQ q (C1.set i (ci / 2))) (.slice ta q.tail.length tc) (.slice na q.next.length nc) (.slice (some ⟨g1, 0, none⟩) q.cap.length cc) ∧ NetB (wz.drew.setCell ⟨g3, i, none⟩ (.int .i64 (ci / 2 * 2))) w5.heap.size w6.heap.size w7.heap.size (Sp.capQ q C2) (.slice ta2 q.tail.length tc2) (.slice na2 q.next.length nc2) (.slice (some ⟨g2, 0, none⟩) q.cap.length cc2) ∧ NetB (wz.drew.setCell ⟨g3, i, none⟩ (.int .i64 (ci / 2 * 2))) w6.heap.size w7.heap.size (w7.heap.size + 1) (Sp.capQ q (C3.set i (ci / 2 * 2))) (.slice ta3 q.tail.length tc3) (.slice na3 q.next.length nc3) (.slice (some ⟨g3, 0, none⟩) q.cap.length cc3) ∧ (C1.set i (ci / 2)).length = q.cap.length ∧ (C3.set i (ci / 2 * 2)).length = q.cap.length ∧ (∀ j, j < q.cap.length → (j < i + 1 → (C1.set i (ci / 2)).getD j 0 = q.cap.getD j 0 / 2 ∧ (C3.set i (ci / 2 * 2)).getD j 0 = q.cap.getD j 0 / 2 * 2) ∧ (i + 1 ≤ j → (C1.set i (ci / 2)).getD j 0 = q.cap.getD j 0))) := hide (by
                obtain ⟨h1, h2, h3, h4⟩ := unhide HS
                have hd : Below wz.heap.size wz wz.drew := (Below.refl _ _).drew
                refine ⟨h1.drew.setCell (p := ⟨g3, i, none⟩) (by show w.heap.size ≤ g3; omega) _, (h2.below hd).other (.inr (by omega)) (by omega) _, (h3.below hd).other (.inr (by omega)) (by omega) _, (h4.below hd).set i _, by rw [List.length_set]; omega, by rw [List.length_set]; omega, fun j hj => ⟨fun hji => ?_, fun hji => ?_⟩⟩
                · rw [getD_set_eq _ _ _ _ (by omega), getD_set_eq _ _ _ _ (by omega)]
                  by_cases e : j = i
                  · rw [if_pos e, if_pos e, e, unhide HCi2]; exact ⟨rfl, rfl⟩
                  · rw [if_neg e, if_neg e]; exact ((unhide HV) j hj).1 (by omega)
                · rw [getD_set_eq _ _ _ _ (by omega), if_neg (by omega)]
                  exact ((unhide HV) j hj).2 (by omega))
              clear HS HV HCi2
              refine wp_region_G (fun w' => w'.cell? ⟨w7.heap.size + 1, 3, none⟩ = some (.slice (some ⟨g3, 0, none⟩) q.cap.length cc3) ∧ w'.cell? ⟨w3.heap.size, 3, none⟩ = some (.slice (some ⟨g1, 0, none⟩) q.cap.length cc) ∧ w'.cell? ⟨g1, i, none⟩ = some (.int .i64 (ci / 2))) (fun i => i == 10) (by kernel_rfl) ⟨y3, z3, c1⟩ (fun hHeld => ?_)
              have c3s : ∃ v3, wz.drew.cell? ⟨g3, i, none⟩ = some v3 := ⟨_, c3⟩
              obtain ⟨v3, c3s⟩ := c3s
              have f3s : ∀ j, wz.drew.frozen? ⟨g3, j, none⟩ = false := f3
              clear z3 c1 y3 c3 f3
              generalize wz.drew = wq2 at *
              refine wpAnyG_take (v := ?_) 0 (by rfl) (by kernel_rfl) (by kernel_rfl) (by kernel_rfl) (by kernel_rfl) (fun _ _ _ h => h) (Or.inl ⟨by rfl, ?_⟩) (by assumption) ?_
              rotate_left
              · (intro w' hSw; (try dsimp only at hSw); (try simp only [List.getElem_toArray, List.getElem_cons_zero]); go_simp; try (with_reducible rfl))
              simp only [Act.put, List.getElem_toArray, List.getElem_cons_zero, List.setIfInBounds_toArray, List.set_cons_zero, List.set_cons_succ]
              refine wpAnyG_take (v := ?_) 1 (by rfl) (by kernel_rfl) (by kernel_rfl) (by kernel_rfl) (by kernel_rfl) (fun _ _ _ h => h) (Or.inl ⟨by rfl, ?_⟩) (by assumption) ?_
              rotate_left
              · (intro w' hSw; (try dsimp only at hSw); (try simp only [List.getElem_toArray, List.getElem_cons_succ, List.getElem_cons_zero]); go_simp; try (with_reducible rfl))
              simp only [Act.put, List.getElem_toArray, List.getElem_cons_succ, List.getElem_cons_zero, List.setIfInBounds_toArray, List.set_cons_zero, List.set_cons_succ]
              refine wpAnyG_take (v := ?_) 2 (by rfl) (by kernel_rfl) (by kernel_rfl) (by kernel_rfl) (by kernel_rfl) (fun _ _ _ h => h) (Or.inl ⟨by rfl, ?_⟩) (by assumption) ?_
              rotate_left
              · (intro w' hSw; (try dsimp only at hSw); (try simp only [List.getElem_toArray, List.getElem_cons_succ, List.getElem_cons_zero]); go_simp; try (with_reducible rfl))
              simp only [Act.put, List.getElem_toArray, List.getElem_cons_succ, List.getElem_cons_zero, List.setIfInBounds_toArray, List.set_cons_zero, List.set_cons_succ]
              refine wpAnyG_take (v := ?_) 3 (by rfl) (by kernel_rfl) (by kernel_rfl) (by kernel_rfl) (by kernel_rfl) (fun _ _ _ h => h) (Or.inl ⟨by rfl, ?_⟩) (by assumption) ?_
              rotate_left
              · (intro w' hSw; (try dsimp only at hSw); (try simp only [List.getElem_toArray, List.getElem_cons_succ, List.getElem_cons_zero]); go_simp; try (with_reducible rfl))
              simp only [Act.put, List.getElem_toArray, List.getElem_cons_succ, List.getElem_cons_zero, List.setIfInBounds_toArray, List.set_cons_zero, List.set_cons_succ]
              refine wpAnyG_take (v := ?_) 4 (by rfl) (by kernel_rfl) (by kernel_rfl) (by kernel_rfl) (by kernel_rfl) (fun _ _ _ h => h) (Or.inl ⟨by rfl, ?_⟩) (by assumption) ?_
              rotate_left
              · (intro w' hSw; (try dsimp only at hSw); (try simp only [List.getElem_toArray, List.getElem_cons_succ, List.getElem_cons_zero]); go_simp; try (with_reducible rfl))
              simp only [Act.put, List.getElem_toArray, List.getElem_cons_succ, List.getElem_cons_zero, List.setIfInBounds_toArray, List.set_cons_zero, List.set_cons_succ]
              refine wpAnyG_take (v := ?_) 5 (by rfl) (by kernel_rfl) (by kernel_rfl) (by kernel_rfl) (by kernel_rfl) (fun _ _ _ h => h) (Or.inl ⟨by rfl, ?_⟩) (by assumption) ?_
              rotate_left
              · (intro w' hSw; (try dsimp only at hSw); (try simp only [List.getElem_toArray, List.getElem_cons_succ, List.getElem_cons_zero]); go_simp; try (with_reducible rfl))
              simp only [Act.put, List.getElem_toArray, List.getElem_cons_succ, List.getElem_cons_zero, List.setIfInBounds_toArray, List.set_cons_zero, List.set_cons_succ]
              refine wpAnyG_take (v := ?_) 6 (by rfl) (by kernel_rfl) (by kernel_rfl) (by kernel_rfl) (by kernel_rfl) (fun _ _ _ h => h) (Or.inl ⟨by rfl, ?_⟩) (by assumption) ?_
              rotate_left
              · (intro w' hSw; (try dsimp only at hSw); (try simp only [List.getElem_toArray, List.getElem_cons_succ, List.getElem_cons_zero]); go_simp; try (with_reducible rfl))
              simp only [Act.put, List.getElem_toArray, List.getElem_cons_succ, List.getElem_cons_zero, List.setIfInBounds_toArray, List.set_cons_zero, List.set_cons_succ]
              refine wpAnyG_take (v := ?_) 7 (by rfl) (by kernel_rfl) (by kernel_rfl) (by kernel_rfl) (by kernel_rfl) (fun _ _ _ h => h) (Or.inl ⟨by rfl, ?_⟩) (by assumption) ?_
              rotate_left
              · (intro w' hSw; (try dsimp only at hSw); (try simp only [List.getElem_toArray, List.getElem_cons_succ, List.getElem_cons_zero]); go_simp; try (with_reducible rfl))
              simp only [Act.put, List.getElem_toArray, List.getElem_cons_succ, List.getElem_cons_zero, List.setIfInBounds_toArray, List.set_cons_zero, List.set_cons_succ]
              refine wpAnyG_take (v := ?_) 8 (by rfl) (by kernel_rfl) (by kernel_rfl) (by kernel_rfl) (by kernel_rfl) (fun _ _ _ h => h) (Or.inl ⟨by rfl, ?_⟩) (by assumption) ?_
              rotate_left
              · (intro w' hSw; (try dsimp only at hSw); (try simp only [List.getElem_toArray, List.getElem_cons_succ, List.getElem_cons_zero]); go_simp; try (with_reducible rfl))
              simp only [Act.put, List.getElem_toArray, List.getElem_cons_succ, List.getElem_cons_zero, List.setIfInBounds_toArray, List.set_cons_zero, List.set_cons_succ]
              refine wpAnyG_take (v := ?_) 9 (by rfl) (by kernel_rfl) (by kernel_rfl) (by kernel_rfl) (by kernel_rfl) (fun _ _ _ h => h) (Or.inl ⟨by rfl, ?_⟩) (by assumption) ?_
              rotate_left
              · (intro w' hSw; (try dsimp only at hSw); (try simp only [List.getElem_toArray, List.getElem_cons_succ, List.getElem_cons_zero]); go_simp; try (with_reducible rfl))
              simp only [Act.put, List.getElem_toArray, List.getElem_cons_succ, List.getElem_cons_zero, List.setIfInBounds_toArray, List.set_cons_zero, List.set_cons_succ]
              refine wpAnyG_ready [10] (by kernel_rfl) (by simp) ?_
              refine AllReadyG.last 10 (by rfl) (by kernel_rfl) (fun K hK => ?_) ?_
              · simp only [List.getElem_toArray, List.getElem_cons_succ, List.getElem_cons_zero]
                go_simp
                refine hK.out _ _ ?_
                clear hK K
                try simp only [Act.put, List.setIfInBounds_toArray, List.set_cons_zero, List.set_cons_succ]
                refine wpAnyG_done (by kernel_rfl) ?_ _
                refine NoPanic.normal ?_
                clear hHeld
                go_wp2
                go_roundg g'
                case rel => exact ⟨i + 1, _, _, by omega, by go_num, HN2⟩
                case measure => omega
              exact AllReadyG.nil
  
            exact AllReadyG.nil
          | zero =>
            have hie : i = q.cap.length := by omega
            have hni : ¬ (i : Int) < (q.cap.length : Int) := by omega
            have HV1 : Hid (∀ j, j < q.cap.length → C1.getD j 0 = q.cap.getD j 0 / 2 ∧ C3.getD j 0 = q.cap.getD j 0 / 2 * 2) := hide fun j hj => ((unhide HV) j hj).1 (by omega)
            have hbd : ∀ (C : List Int), C.length = q.cap.length → (∀ j, j < q.cap.length → 0 ≤ C.getD j 0 ∧ C.getD j 0 ≤ 2147483648) → ∀ x ∈ C, 0 ≤ x ∧ x ≤ 2147483648 := fun C hC h x hx => by
              obtain ⟨j, hj, rfl⟩ := List.getElem_of_mem hx
              have := h j (by omega)
              rw [List.getD_eq_getElem?_getD, List.getElem?_eq_getElem hj] at this
              exact this
            have hqb : ∀ j, j < q.cap.length → 0 ≤ q.cap.getD j 0 ∧ q.cap.getD j 0 ≤ 2147483648 := fun j hj => (unhide HRQ).cb _ (Sp.getD_mem (l := q.cap) hj)
            have hB1 := hbd C1 hl1 (fun j hj => by have h1 := hqb j hj; rw [((unhide HV1) j hj).1]; omega)
            have hB3 := hbd C3 hl3 (fun j hj => by have h1 := hqb j hj; rw [((unhide HV1) j hj).2]; omega)
            have hB2 := hbd C2 (unhide HC2).1 (fun j hj => ((unhide HC2).2 j hj).2)
            have hR1 := unhide HRC C1 (by rw [hl1, unhide Hcl]) hB1
            have hR2 := unhide HRC C2 (by rw [(unhide HC2).1, unhide Hcl]) hB2
            have hR3 := unhide HRC C3 (by rw [hl3, unhide Hcl]) hB3
            have HD1 : Hid (0 < (Sp.capQ q C1).tail.length → Sp.DualQ (Sp.capQ q C1)) := hide fun h => (unhide HDQ h).cap (by rw [hl1, unhide Hcl]) hB1
            have HD2 : Hid (0 < (Sp.capQ q C2).tail.length → Sp.DualQ (Sp.capQ q C2)) := hide fun h => (unhide HDQ h).cap (by rw [(unhide HC2).1, unhide Hcl]) hB2
            have HK0 := hide (fun (v tv nv cv : Value) (w' : World) (hv : NetI w' v q tv nv cv) => rmflow_any q v tv nv cv s1 t1 w' hv (unhide HRQ))
            have HK1 := hide (fun (v tv nv cv : Value) (w' : World) (hv : NetI w' v (Sp.capQ q C1) tv nv cv) => rmflow_any (Sp.capQ q C1) v tv nv cv s1 t1 w' hv hR1)
            have HK2 := hide (fun (v tv nv cv : Value) (w' : World) (hv : NetI w' v (Sp.capQ q C2) tv nv cv) => rmflow_any (Sp.capQ q C2) v tv nv cv s1 t1 w' hv hR2)
            have HK3 := hide (fun (v tv nv cv : Value) (w' : World) (hv : NetI w' v (Sp.capQ q C3) tv nv cv) => rmflow_any (Sp.capQ q C3) v tv nv cv s1 t1 w' hv hR3)
            have HR1 := hide hR1
            have HR2 := hide hR2
            have HS := hide (And.intro (unhide HI).1 (And.intro (unhide HI).2.1 (And.intro (unhide HI).2.2.1 (unhide HI).2.2.2.1)))
            clear hbd hqb hB1 hB2 hB3 hR1 hR2 hR3 HV HI hie hig
            go_wp2_with fail
            go_at_call 10
            refine (unhide HPL _ (unhide HS).1).mono ?_
            rintro e wa ⟨v4, tv4, nv4, cv4, rfl, hn4, hla⟩
            have hval := hn4.val
            subst hval
            have HSa := hide (And.intro ((unhide HS).1.trans (hla.mono (unhide HS).1.size)) (And.intro ((unhide HS).2.1.below hla) (And.intro ((unhide HS).2.2.1.below hla) ((unhide HS).2.2.2.below hla))))
            have HN4 := hide hn4.netI
            clear hn4 hla HS y3
            go_wp2_with fail
            go_at_call 14
            refine (unhide HK0 _ _ _ _ _ (unhide HN4)).mono ?_
            rintro e wb ⟨lv0, P0, L0, xa, rfl, -, hRa, hlb⟩
            have HSb := hide (And.intro ((unhide HSa).1.trans (hlb.mono (unhide HSa).1.size)) (And.intro ((unhide HSa).2.1.below hlb) (And.intro ((unhide HSa).2.2.1.below hlb) ((unhide HSa).2.2.2.below hlb))))
            have HRa := hide hRa
            clear hlb HSa HN4 hRa
            obtain ⟨x0, x1, x2, x3⟩ := (unhide HSb).2.2.1.box
            go_wp2_with fail
            go_at_call 14
            refine (unhide HK2 _ _ _ _ _ (unhide HSb).2.2.1.netI).mono ?_
            rintro e wd ⟨lvHSc, Pb, Lb, xb, rfl, -, hRb, hlwd⟩
            have HSc := hide (And.intro ((unhide HSb).1.trans (hlwd.mono (unhide HSb).1.size)) (And.intro ((unhide HSb).2.1.below hlwd) (And.intro ((unhide HSb).2.2.1.below hlwd) ((unhide HSb).2.2.2.below hlwd))))
            have HRb := hide hRb
            clear hlwd HSb hRb x0 x1 x2 x3
            obtain ⟨x0, x1, x2, x3⟩ := (unhide HSc).2.1.box
            go_wp2_with fail
            go_at_call 14
            refine (unhide HK1 _ _ _ _ _ (unhide HSc).2.1.netI).mono ?_
            rintro e we ⟨lvHSd, Pv, Lv, xv, rfl, -, hRv, hlwe⟩
            have HSd := hide (And.intro ((unhide HSc).1.trans (hlwe.mono (unhide HSc).1.size)) (And.intro ((unhide HSc).2.1.below hlwe) (And.intro ((unhide HSc).2.2.1.below hlwe) ((unhide HSc).2.2.2.below hlwe))))
            have HRv := hide hRv
            clear hlwe HSc hRv x0 x1 x2 x3
            obtain ⟨x0, x1, x2, x3⟩ := (unhide HSd).2.2.2.box
            go_wp2_with fail
            go_at_call 14
            refine (unhide HK3 _ _ _ _ _ (unhide HSd).2.2.2.netI).mono ?_
            rintro e wf ⟨lvHSe, Pw, Lw, xw, rfl, -, hRw, hlwf⟩
            have HSe := hide (And.intro ((unhide HSd).1.trans (hlwf.mono (unhide HSd).1.size)) (And.intro ((unhide HSd).2.1.below hlwf) (And.intro ((unhide HSd).2.2.1.below hlwf) ((unhide HSd).2.2.2.below hlwf))))
            have HRw := hide hRw
            clear hlwf HSd hRw x0 x1 x2 x3
            have hE1 : Sp.rimE (Sp.capQ q C1) s1 t1 = Sp.rimE q s1 t1 := rfl
            have hE2 : Sp.rimE (Sp.capQ q C2) s1 t1 = Sp.rimE q s1 t1 := rfl
            have hE3 : Sp.rimE (Sp.capQ q C3) s1 t1 = Sp.rimE q s1 t1 := rfl
            rw [hE1, hE2, hE3]
            have hab : xa ≤ xb := by
              by_cases hE : Sp.rimE q s1 t1 = 0
              · have hF := ((unhide HRa).flow (unhide HDQ) (unhide HRQ) hE).1
                exact (unhide HRb).most (unhide HD2) (unhide HR2) (unhide HCi) hE (L' := L0) ⟨hF.len, hF.op, fun d hd => Int.le_trans (hF.le d hd) ((unhide HC2).2 d (by rw [unhide Hcl]; exact hd)).1, hF.src, hF.snk, hF.mid⟩
              · rw [((unhide HRa).none hE).2.2, ((unhide HRb).none hE).2.2]
                exact Int.le_refl _
            have hvw : xw = 2 * xv := (unhide HRv).twice (unhide HR1) (unhide HD1) (C := C3) (fun d hd => by
              have h1 := (unhide HV1) d (by rw [unhide Hcl]; exact hd)
              show C3.getD d 0 = 2 * C1.getD d 0
              rw [h1.1, h1.2]
              omega) (unhide HRw)
            have hxv : 0 ≤ xv ∧ xv < 1152921504606846976 := by
              by_cases hE : Sp.rimE q s1 t1 = 0
              · exact ((unhide HRv).flow (unhide HD1) (unhide HR1) hE).2
              · rw [((unhide HRv).none hE).2.2]; omega
            have e4 : decide (xa ≤ xb) = true := decide_eq_true hab
            have hw9 : IntKind.i64.wrap (2 * xv) = 2 * xv := by rw [IntKind.wrap_i64]; omega
            have e5 : (2 * xv == 2 * xv) = true := beq_self_eq_true _
            rw [hvw]
            have HFin := hide (unhide HSe).1
            clear hE1 hE2 hE3 HRa HRb HRv HRw HSe HK0 HK1 HK2 HK3 HR1 HR2 HD1 HD2 HV1 hvw hxv
            generalize Sp.rimE q s1 t1 = E at *
            have e6 : (E == E) = true := beq_self_eq_true _
            go_wp2
            rw [unhide HP]
            exact ⟨by rfl, unhide HFin⟩
end Go.Proofs.Ytoegjnolccabjaa


