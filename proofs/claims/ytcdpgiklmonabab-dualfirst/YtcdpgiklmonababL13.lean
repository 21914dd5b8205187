/- What the proof needs, part 13. -/
import Derived.Test.YtcdpgiklmonababL12
/- The law DualDarts, walked. -/
namespace Go.Proofs.Ytcdpgiklmonabab
open Go Go.RowKit

set_option maxRecDepth 100000 in
set_option maxHeartbeats 4000000 in
theorem dualDarts_any (ns : List Int) (x : Value) (d : Int) (w : World) (hx : Ints w x ns) :
    Calls Try.prog 4 #[x, .int .i64 d] w fun e w' => e = .returned (.bool true) ∧ Below w.heap.size w w' := by
  obtain ⟨a, c, rfl, hc, hm⟩ := hx.form
  have HPL := hide (fun w' (hb : Below w.heap.size w w') => plane_any ns (.slice a ns.length c) w' (hx.below hb))
  have HOK := hide (Sp.plane_ok ns)
  have HLQ := hide (Sp.linkQ_plane ns)
  have HCk := hide (Sp.check_plane ns)
  have HDk := hide (Sp.dualOk_plane ns)
  generalize Sp.plane ns = q at *
  generalize ns.length = n at *
  clear hx
  obtain ⟨P, hP⟩ : ∃ P : Ending → World → Prop, P = fun e w' => e = .returned (.bool true) ∧ Below w.heap.size w w' := ⟨_, rfl⟩
  rw [← hP]
  have HP := hide hP
  clear hP
  go_enter Try.func4, Try.ntmps4
  go_wp2_with fail
  go_at_call 9
  refine (known3_any w).mono ?_
  rintro e w2 ⟨rfl, hb2⟩
  have Hb2 := hide hb2
  clear hb2
  go_wp2_with fail
  go_at_call 10
  refine (unhide HPL _ (unhide Hb2)).mono ?_
  clear HPL
  rintro e w3 ⟨v, tv, nv, cv, rfl, hnv, hb3⟩
  have hval := hnv.val
  subst hval
  obtain ⟨ta, tc, rfl, htc, htm, HT⟩ := hnv.netI.tail.allD
  obtain ⟨na, nc, rfl, -, -⟩ := hnv.netI.next.form
  obtain ⟨ca, cc, rfl, -, -⟩ := hnv.netI.cap.form
  obtain ⟨W4, hW4⟩ : ∃ W4, W4 = w3.alloc (.cells #[.int .i64 q.n, .slice ta q.tail.length tc, .slice na q.next.length nc, .slice ca q.cap.length cc] 25) := ⟨_, rfl⟩
  obtain ⟨hBX, hs4, hTR⟩ := boxed ((unhide Hb2).trans (hb3.mono (unhide Hb2).size)) hnv.netI W4 hW4
  have HBX := hide hBX
  have HTR := hide hTR
  have Hs4 := hide hs4
  have HW4 := hide hW4
  clear hnv hb3 Hb2 hBX hTR hs4 hW4
  have hb4 : Below (w3.heap.size + 1) W4 W4 := Below.refl _ _
  have HWK := hide ((unhide HOK).walk (by omega))
  have hn0 : 1 ≤ q.n := (unhide HOK).n0
  have hn1 : q.n ≤ 100 := by have := (unhide HOK).n1; omega
  have HMk := hide (fun w' (hb : Below (w3.heap.size + 1) W4 w') => dmake_any q _ _ _ _ w' (unhide HBX w' hb).2.1 (unhide HLQ))
  have HDt : Hid ((Sp.dual q).tail = (Sp.faces2 q).1 ∧ (Sp.dual q).next = Sp.behindL q.next) := hide ⟨rfl, rfl⟩
  have HFl := hide (Sp.faces2_len q)
  have HF0 := hide (fun w' v tv nv cv (h : NetI w' v q tv nv cv) => faces2_any q v tv nv cv w' h (unhide HLQ).nx (by have := (unhide HLQ).le; omega) (unhide HLQ).ev (unhide HLQ).pm)
  generalize Sp.dual q = D at *
  clear htc htm HT
  obtain ⟨x0, x1, x2, x3⟩ := (unhide HBX W4 hb4).1
  go_wp2_with fail
  rw [← unhide HW4]
  go_at_call 15
  refine (unhide HMk W4 hb4).mono ?_
  clear x0 x1 x2 x3
  rintro e w5 ⟨v2, dv, ev, gv, rfl, hd5, hl5⟩
  have hval := hd5.val
  subst hval
  have hb5 := unhide HTR _ _ hb4 hl5
  obtain ⟨da, dc, rfl, -, -, HDa⟩ := hd5.netI.tail.allD
  obtain ⟨ea, ec, rfl, -, -⟩ := hd5.netI.next.form
  obtain ⟨ga, gc, rfl, -, -⟩ := hd5.netI.cap.form
  clear hl5 hb4
  obtain ⟨W6, hW6⟩ : ∃ W6, W6 = w5.alloc (.cells #[.int .i64 D.n, .slice da D.tail.length dc, .slice ea D.next.length ec, .slice ga D.cap.length gc] 25) := ⟨_, rfl⟩
  obtain ⟨hBX2, hs6, hTR2⟩ := boxed (unhide HBX w5 hb5).2.2.1 hd5.netI W6 hW6
  have hs5 := (unhide HBX w5 hb5).2.2.2.1
  have HUP : Hid (∀ w', Below (w5.heap.size + 1) W6 w' → Below (w3.heap.size + 1) W4 w') := hide fun w' hb => hb5.trans ((hBX2 w' hb).2.2.2.2.mono hs5)
  have HBX2 := hide hBX2
  have HTR2 := hide hTR2
  have HW6 := hide hW6
  have Hs6 := hide hs6
  have HX1 := hide (fun w' (hb : Below (w5.heap.size + 1) W6 w') => (unhide HBX w' (unhide HUP w' hb)).1)
  have HX2 := hide (fun w' (hb : Below (w5.heap.size + 1) W6 w') => (unhide HBX2 w' hb).1)
  have HN1 := hide (fun w' (hb : Below (w5.heap.size + 1) W6 w') => (unhide HBX w' (unhide HUP w' hb)).2.1)
  have HN2 := hide (fun w' (hb : Below (w5.heap.size + 1) W6 w') => (unhide HBX2 w' hb).2.1)
  have HFi := hide (fun w' (hb : Below (w5.heap.size + 1) W6 w') => (unhide HBX w' (unhide HUP w' hb)).2.2.1)
  have HDc : Hid (∀ w' k, Below (w5.heap.size + 1) W6 w' → k < D.tail.length → ∃ b o, da = some ⟨b, o, none⟩ ∧ w'.cell? ⟨b, o + k, none⟩ = some (.int .i64 (D.tail.getD k 0))) := hide fun w' k hb hk => by
    obtain ⟨b, o, e1, -, e2⟩ := unhide HDa k hk
    exact ⟨b, o, e1, e2 w' (unhide HBX2 w' hb).2.2.2.2⟩
  clear HDa hd5 hb5 hBX2 hs6 hTR2 hW6 hs5 HUP HBX HTR HBX2
  have hb6 : Below (w5.heap.size + 1) W6 W6 := Below.refl _ _
  have HCd : Hid (∀ w', Below (w5.heap.size + 1) W6 w' → Calls Try.prog 16 #[.agg #[.int .i64 D.n, .slice da D.tail.length dc, .slice ea D.next.length ec, .slice ga D.cap.length gc]] w' fun e w'' => e = .returned (.int .i64 0) ∧ Below w'.heap.size w' w'') := hide fun w' hb => by
    have h := check2_any D _ _ _ _ w' (unhide HN2 w' hb) (by have := (unhide HDk).n0; omega) (by have := (unhide HDk).n1; omega)
    rw [(unhide HDk).check] at h
    exact h
  have HFn := hide (fun w' (hb : Below (w5.heap.size + 1) W6 w') => unhide HF0 w' _ _ _ _ (unhide HN1 w' hb))
  have HAb : Hid (∀ x : Nat, x < q.tail.length → ∃ L : List Int, L.length ≤ 1000001 ∧ (∀ w', Below (w5.heap.size + 1) W6 w' → Calls Try.prog 18 #[.agg #[.int .i64 D.n, .slice da D.tail.length dc, .slice ea D.next.length ec, .slice ga D.cap.length gc], .int .i64 (x : Int)] w' fun e w'' => ∃ vA, e = .returned vA ∧ Ints w'' vA L ∧ Below w'.heap.size w' w'') ∧ (∀ w', Below (w5.heap.size + 1) W6 w' → Calls Try.prog 19 #[.agg #[.int .i64 q.n, .slice ta q.tail.length tc, .slice na q.next.length nc, .slice ca q.cap.length cc], .int .i64 (x : Int)] w' fun e w'' => ∃ vA, e = .returned vA ∧ Ints w'' vA L ∧ Below w'.heap.size w' w'')) := hide fun x hx => by
    have hL := unhide HLQ
    have hb := hL.pm.behind (by rw [hL.nx]; exact hL.ev)
    have hlb : (Sp.behindL q.next).length = q.tail.length := by rw [Sp.behindL_len, hL.nx]
    obtain ⟨m1, m2, m3, m4⟩ := hb.per (d := x) (by rw [hlb]; exact hx)
    rw [hlb] at m2
    have h60 := hL.le
    have hDn := (unhide HDt).2
    refine ⟨Sp.rounds (Sp.behindL q.next) x (Sp.per (Sp.behindL q.next) x), by rw [Sp.rounds_len]; omega, fun w' hbw => ?_, fun w' hbw => ?_⟩
    · have hlD : D.next.length = q.tail.length := by rw [hDn, hlb]
      have h := about2_any D _ _ _ _ x (Sp.per (Sp.behindL q.next) x) w' (unhide HN2 w' hbw) (by omega) (by rw [hlD]; exact hL.ev) (by rw [hDn]; exact hb.bd) (by omega) m1 (by omega) (by rw [hDn]; exact m3) (by rw [hDn]; exact m4)
      rw [hDn] at h ⊢
      exact h.mono fun e w'' ⟨lv, a1, a2, a3⟩ => ⟨lv, a1, a2.ints, a3⟩
    · exact (face2_any q _ _ _ _ x (Sp.per (Sp.behindL q.next) x) w' (unhide HN1 w' hbw) (by rw [hL.nx]; omega) (by rw [hL.nx]; exact hL.ev) hL.pm.bd (by rw [hL.nx]; exact hx) m1 (by omega) m3 m4).mono fun e w'' ⟨lv, a1, a2, a3⟩ => ⟨lv, a1, a2.ints, a3⟩
  have HLe : Hid (q.tail.length % 2 = 0) := hide (unhide HLQ).ev
  have hl60 : q.tail.length ≤ 60 := (unhide HLQ).le
  have hDn : D.next.length = q.tail.length := by rw [(unhide HDt).2, Sp.behindL_len, (unhide HLQ).nx]
  have hDl : D.tail.length = q.tail.length := by rw [(unhide HDt).1, unhide HFl]
  rw [(unhide HDt).1] at HDc
  rw [unhide HFl] at HDc
  rw [hDl, hDn] at HX2 HW6 HCd
  simp only [hDl, hDn] at HAb
  rw [hDl, hDn]
  clear HDt HF0 HDk HMk HN1 HN2 HOK HCk HWK HLQ hDl hDn
  generalize (Sp.faces2 q).1 = F at *
  generalize max (Sp.faces2 q).2 1 = K at *
  generalize q.tail.length = ln at *
  have eL : ((ln : Int) != (ln : Int)) = false := by simp
  have eE : ((ln : Int) == (ln : Int)) = true := beq_self_eq_true _
  obtain ⟨y0, y1, y2, y3⟩ := unhide HX1 W6 hb6
  go_upto_region 5 with fail
  rw [← unhide HW6]
  go_wp2_with fail
  go_at_call 13
  refine (unhide HFn W6 hb6).mono ?_
  clear y0 y1 y2 y3 HFn
  rintro e w7 ⟨fv, rfl, hf7, hl7⟩
  have hb7 := unhide HTR2 _ _ hb6 hl7
  clear hb6 hl7
  obtain ⟨fa, fc, hve, -, -, HFa⟩ := hf7.ints.allD
  rw [unhide HFl] at hve
  subst hve
  rw [unhide HFl] at HFa
  clear hf7
  obtain ⟨y0, y1, y2, y3⟩ := unhide HX1 w7 hb7
  obtain ⟨u0, u1, u2, u3⟩ := unhide HX2 w7 hb7
  by_cases hz : ln = 0
  · subst hz
    have HF := hide (unhide HFi _ hb7)
    go_wp2
    rw [unhide HP]
    exact ⟨by rfl, unhide HF⟩
  · have hzI : ¬ (ln : Int) = 0 := by omega
    have hzB : ((ln : Int) == 0) = false := beq_eq_false_iff_ne.2 hzI
    go_wp2_with fail
    go_at_call 16
    refine (unhide HCd w7 hb7).mono ?_
    clear y0 y1 y2 y3 u0 u1 u2 u3
    rintro e w10 ⟨rfl, hl10⟩
    have hb10 := unhide HTR2 _ _ hb7 hl10
    have HW := hide (within3_any d ln w10 (by omega) (by omega))
    have d0 := Int.emod_nonneg d hzI
    have d1 : d % (ln : Int) < ln := Int.emod_lt_of_pos _ (by omega)
    obtain ⟨x, hx⟩ : ∃ y : Nat, d % (ln : Int) = (y : Int) := ⟨(d % (ln : Int)).toNat, by omega⟩
    rw [hx] at HW d1
    clear d0 hx
    have hxl : x < ln := by omega
    have hol := oth_lt hxl (unhide HLe)
    have hX := xor_oth ⟨x, by omega⟩
    simp only at hX
    obtain ⟨db, d0, rfl, -⟩ := unhide HDc w10 x hb10 hxl
    obtain ⟨fb, f0, rfl, -, -⟩ := unhide HFa x hxl
    obtain ⟨L, hLl, hA1, hA2⟩ := unhide HAb x hxl
    have HAb2 := hide hA1
    have HFc := hide hA2
    have HLl := hide hLl
    clear hA1 hA2 hLl HAb
    have HAb := HAb2
    clear HAb2
    obtain ⟨ox, hox⟩ : ∃ ox, Sp.oth x = ox := ⟨_, rfl⟩
    obtain ⟨z1, hz1⟩ : ∃ z, F.getD x 0 = z := ⟨_, rfl⟩
    obtain ⟨z2, hz2⟩ : ∃ z, F.getD ox 0 = z := ⟨_, rfl⟩
    rw [hox] at hX hol
    have hoI : (ox : Int) < (ln : Int) := by omega
    have HS : Hid (∀ w', Below w10.heap.size w10 w' → ((w'.cell? ⟨w3.heap.size, 0, none⟩ = some (.int .i64 q.n) ∧ w'.cell? ⟨w3.heap.size, 1, none⟩ = some (.slice ta ln tc) ∧ w'.cell? ⟨w3.heap.size, 2, none⟩ = some (.slice na q.next.length nc) ∧ w'.cell? ⟨w3.heap.size, 3, none⟩ = some (.slice ca q.cap.length cc)) ∧ w'.cell? ⟨w5.heap.size, 0, none⟩ = some (.int .i64 D.n) ∧ w'.cell? ⟨w5.heap.size, 1, none⟩ = some (.slice (some ⟨db, d0, none⟩) ln dc) ∧ w'.cell? ⟨w5.heap.size, 2, none⟩ = some (.slice ea ln ec) ∧ w'.cell? ⟨w5.heap.size, 3, none⟩ = some (.slice ga D.cap.length gc)) ∧ w'.cell? ⟨db, d0 + x, none⟩ = some (.int .i64 z1) ∧ w'.cell? ⟨fb, f0 + x, none⟩ = some (.int .i64 z1) ∧ w'.cell? ⟨db, d0 + ox, none⟩ = some (.int .i64 z2) ∧ w'.cell? ⟨fb, f0 + ox, none⟩ = some (.int .i64 z2)) := hide fun w' hbb => by
      have h := unhide HTR2 _ _ hb10 hbb
      obtain ⟨b1, o1, e1, c1⟩ := unhide HDc w' x h hxl
      obtain ⟨b2, o2, e2, c2⟩ := unhide HDc w' ox h hol
      obtain ⟨b3, o3, e3, -, c3⟩ := unhide HFa x hxl
      obtain ⟨b4, o4, e4, -, c4⟩ := unhide HFa ox hol
      injection e1 with e1
      injection e1 with e1 e1'
      subst e1 e1'
      injection e2 with e2
      injection e2 with e2 e2'
      subst e2 e2'
      injection e3 with e3
      injection e3 with e3 e3'
      subst e3 e3'
      injection e4 with e4
      injection e4 with e4 e4'
      subst e4 e4'
      rw [hz1] at c1 c3
      rw [hz2] at c2 c4
      have h7 : Below w7.heap.size w7 w' := hl10.trans (hbb.mono hl10.size)
      exact ⟨⟨unhide HX1 w' h, unhide HX2 w' h⟩, c1, c3 w' h7, c2, c4 w' h7⟩
    have HIs : Hid (∀ w' v u, Ints w' v L → Ints w' u L → Calls Try.prog 17 #[v, u] w' fun e w'' => e = .returned (.bool true) ∧ Below w'.heap.size w' w'') := by
      refine hide fun w' v u h1 h2 => ?_
      refine (rInts_any _ _ v u w' h1 h2 (unhide HLl) (unhide HLl)).mono fun e w'' ⟨a1, a2⟩ => ⟨?_, a2⟩
      rw [a1, decide_eq_true rfl]
    have e1 : (z1 == z1) = true := beq_self_eq_true _
    have e2 : (z2 == z2) = true := beq_self_eq_true _
    clear hz1 hz2 hl10 hb7 HDc HFa hox
    go_wp2_with fail
    go_at_call 11
    refine (unhide HW).mono ?_
    rintro e w9 ⟨rfl, h9⟩
    have h9' := h9.symm
    clear h9 HW
    subst h9'
    go_upto_region 11 with fail
    have hb10d := hb10.drew
    have hx10d : Below w10.heap.size w10 w10.drew := (Below.refl _ _).drew
    refine wp_region_G (fun w' => ((w'.cell? ⟨w3.heap.size, 0, none⟩ = some (.int .i64 q.n) ∧ w'.cell? ⟨w3.heap.size, 1, none⟩ = some (.slice ta ln tc) ∧ w'.cell? ⟨w3.heap.size, 2, none⟩ = some (.slice na q.next.length nc) ∧ w'.cell? ⟨w3.heap.size, 3, none⟩ = some (.slice ca q.cap.length cc)) ∧ w'.cell? ⟨w5.heap.size, 0, none⟩ = some (.int .i64 D.n) ∧ w'.cell? ⟨w5.heap.size, 1, none⟩ = some (.slice (some ⟨db, d0, none⟩) ln dc) ∧ w'.cell? ⟨w5.heap.size, 2, none⟩ = some (.slice ea ln ec) ∧ w'.cell? ⟨w5.heap.size, 3, none⟩ = some (.slice ga D.cap.length gc)) ∧ w'.cell? ⟨db, d0 + x, none⟩ = some (.int .i64 z1) ∧ w'.cell? ⟨fb, f0 + x, none⟩ = some (.int .i64 z1) ∧ w'.cell? ⟨db, d0 + ox, none⟩ = some (.int .i64 z2) ∧ w'.cell? ⟨fb, f0 + ox, none⟩ = some (.int .i64 z2)) (fun _ => false) (by kernel_rfl) (unhide HS _ hx10d) (fun hHeld => ?_)
    generalize w10.drew = wq at *
    refine wpAnyG_take (v := ?_) 0 (by rfl) (by kernel_rfl) (by kernel_rfl) (by kernel_rfl) (by kernel_rfl) (fun _ _ _ h => h) (Or.inl ⟨by rfl, ?_⟩) (by assumption) ?_
    rotate_left
    · (intro w' hSw; (try dsimp only at hSw); (try simp only [List.getElem_toArray, List.getElem_cons_zero]); go_simp; try (with_reducible rfl))
    simp only [Act.put, List.getElem_toArray, List.getElem_cons_zero, List.setIfInBounds_toArray, List.set_cons_zero, List.set_cons_succ]
    refine wpAnyG_take (v := ?_) 1 (by rfl) (by kernel_rfl) (by kernel_rfl) (by kernel_rfl) (by kernel_rfl) (fun _ _ _ h => h) (Or.inl ⟨by rfl, ?_⟩) (by assumption) ?_
    rotate_left
    · (intro w' hSw; (try dsimp only at hSw); (try simp only [List.getElem_toArray, List.getElem_cons_succ, List.getElem_cons_zero]); go_simp; try (with_reducible rfl))
    simp only [Act.put, List.getElem_toArray, List.getElem_cons_succ, List.getElem_cons_zero, List.setIfInBounds_toArray, List.set_cons_zero, List.set_cons_succ]
    refine wpAnyG_take (v := ?_) 2 (by rfl) (by kernel_rfl) (by kernel_rfl) (by kernel_rfl) (by kernel_rfl) (fun _ _ _ h => h) (Or.inl ⟨by rfl, ?_⟩) (by assumption) ?_
    rotate_left
    · (intro w' hSw; (try dsimp only at hSw); (try simp only [List.getElem_toArray, List.getElem_cons_succ, List.getElem_cons_zero]); go_simp; try (with_reducible rfl))
    simp only [Act.put, List.getElem_toArray, List.getElem_cons_succ, List.getElem_cons_zero, List.setIfInBounds_toArray, List.set_cons_zero, List.set_cons_succ]
    refine wpAnyG_take (v := ?_) 3 (by rfl) (by kernel_rfl) (by kernel_rfl) (by kernel_rfl) (by kernel_rfl) (fun _ _ _ h => h) (Or.inl ⟨by rfl, ?_⟩) (by assumption) ?_
    rotate_left
    · (intro w' hSw; (try dsimp only at hSw); (try simp only [List.getElem_toArray, List.getElem_cons_succ, List.getElem_cons_zero]); go_simp; try (with_reducible rfl))
    simp only [Act.put, List.getElem_toArray, List.getElem_cons_succ, List.getElem_cons_zero, List.setIfInBounds_toArray, List.set_cons_zero, List.set_cons_succ]
    refine wpAnyG_take (v := ?_) 4 (by rfl) (by kernel_rfl) (by kernel_rfl) (by kernel_rfl) (by kernel_rfl) (fun _ _ _ h => h) (Or.inl ⟨by rfl, ?_⟩) (by assumption) ?_
    rotate_left
    · (intro w' hSw; (try dsimp only at hSw); (try simp only [List.getElem_toArray, List.getElem_cons_succ, List.getElem_cons_zero]); go_simp; try (with_reducible rfl))
    simp only [Act.put, List.getElem_toArray, List.getElem_cons_succ, List.getElem_cons_zero, List.setIfInBounds_toArray, List.set_cons_zero, List.set_cons_succ]
    refine wpAnyG_take (v := ?_) 5 (by rfl) (by kernel_rfl) (by kernel_rfl) (by kernel_rfl) (by kernel_rfl) (fun _ _ _ h => h) (Or.inl ⟨by rfl, ?_⟩) (by assumption) ?_
    rotate_left
    · (intro w' hSw; (try dsimp only at hSw); (try simp only [List.getElem_toArray, List.getElem_cons_succ, List.getElem_cons_zero]); go_simp; try (with_reducible rfl))
    simp only [Act.put, List.getElem_toArray, List.getElem_cons_succ, List.getElem_cons_zero, List.setIfInBounds_toArray, List.set_cons_zero, List.set_cons_succ]
    refine wpAnyG_take (v := ?_) 6 (by rfl) (by kernel_rfl) (by kernel_rfl) (by kernel_rfl) (by kernel_rfl) (fun _ _ _ h => h) (Or.inl ⟨by rfl, ?_⟩) (by assumption) ?_
    rotate_left
    · (intro w' hSw; (try dsimp only at hSw); (try simp only [List.getElem_toArray, List.getElem_cons_succ, List.getElem_cons_zero]); go_simp; try (with_reducible rfl))
    simp only [Act.put, List.getElem_toArray, List.getElem_cons_succ, List.getElem_cons_zero, List.setIfInBounds_toArray, List.set_cons_zero, List.set_cons_succ]
    refine wpAnyG_take (v := ?_) 7 (by rfl) (by kernel_rfl) (by kernel_rfl) (by kernel_rfl) (by kernel_rfl) (fun _ _ _ h => h) (Or.inl ⟨by rfl, ?_⟩) (by assumption) ?_
    rotate_left
    · (intro w' hSw; (try dsimp only at hSw); (try simp only [List.getElem_toArray, List.getElem_cons_succ, List.getElem_cons_zero]); go_simp; try (with_reducible rfl))
    simp only [Act.put, List.getElem_toArray, List.getElem_cons_succ, List.getElem_cons_zero, List.setIfInBounds_toArray, List.set_cons_zero, List.set_cons_succ]
    refine wpAnyG_take (v := ?_) 8 (by rfl) (by kernel_rfl) (by kernel_rfl) (by kernel_rfl) (by kernel_rfl) (fun _ _ _ h => h) (Or.inl ⟨by rfl, ?_⟩) (by assumption) ?_
    rotate_left
    · (intro w' hSw; (try dsimp only at hSw); (try simp only [List.getElem_toArray, List.getElem_cons_succ, List.getElem_cons_zero]); go_simp; try (with_reducible rfl))
    simp only [Act.put, List.getElem_toArray, List.getElem_cons_succ, List.getElem_cons_zero, List.setIfInBounds_toArray, List.set_cons_zero, List.set_cons_succ]
    refine wpAnyG_take (v := ?_) 9 (by rfl) (by kernel_rfl) (by kernel_rfl) (by kernel_rfl) (by kernel_rfl) (fun _ _ _ h => h) (Or.inl ⟨by rfl, ?_⟩) (by assumption) ?_
    rotate_left
    · (intro w' hSw; (try dsimp only at hSw); (try simp only [List.getElem_toArray, List.getElem_cons_succ, List.getElem_cons_zero]); go_simp; try (with_reducible rfl))
    simp only [Act.put, List.getElem_toArray, List.getElem_cons_succ, List.getElem_cons_zero, List.setIfInBounds_toArray, List.set_cons_zero, List.set_cons_succ]
    refine wpAnyG_take (v := ?_) 10 (by rfl) (by kernel_rfl) (by kernel_rfl) (by kernel_rfl) (by kernel_rfl) (fun _ _ _ h => h) (Or.inl ⟨by rfl, ?_⟩) (by assumption) ?_
    rotate_left
    · (intro w' hSw; (try dsimp only at hSw); (try simp only [List.getElem_toArray, List.getElem_cons_succ, List.getElem_cons_zero]); go_simp; try (with_reducible rfl))
    simp only [Act.put, List.getElem_toArray, List.getElem_cons_succ, List.getElem_cons_zero, List.setIfInBounds_toArray, List.set_cons_zero, List.set_cons_succ]
    refine wpAnyG_take (v := ?_) 11 (by rfl) (by kernel_rfl) (by kernel_rfl) (by kernel_rfl) (by kernel_rfl) (fun _ _ _ h => h) (Or.inl ⟨by rfl, ?_⟩) (by assumption) ?_
    rotate_left
    · (intro w' hSw; (try dsimp only at hSw); (try simp only [List.getElem_toArray, List.getElem_cons_succ, List.getElem_cons_zero]); go_simp; try (with_reducible rfl))
    simp only [Act.put, List.getElem_toArray, List.getElem_cons_succ, List.getElem_cons_zero, List.setIfInBounds_toArray, List.set_cons_zero, List.set_cons_succ]
    refine wpAnyG_take (v := ?_) 12 (by rfl) (by kernel_rfl) (by kernel_rfl) (by kernel_rfl) (by kernel_rfl) (fun _ _ _ h => h) (Or.inl ⟨by rfl, ?_⟩) (by assumption) ?_
    rotate_left
    · (intro w' hSw; (try dsimp only at hSw); (try simp only [List.getElem_toArray, List.getElem_cons_succ, List.getElem_cons_zero]); go_simp; try (with_reducible rfl))
    simp only [Act.put, List.getElem_toArray, List.getElem_cons_succ, List.getElem_cons_zero, List.setIfInBounds_toArray, List.set_cons_zero, List.set_cons_succ]
    refine wpAnyG_take (v := ?_) 13 (by rfl) (by kernel_rfl) (by kernel_rfl) (by kernel_rfl) (by kernel_rfl) (fun _ _ _ h => h) (Or.inl ⟨by rfl, ?_⟩) (by assumption) ?_
    rotate_left
    · (intro w' hSw; (try dsimp only at hSw); (try simp only [List.getElem_toArray, List.getElem_cons_succ, List.getElem_cons_zero]); go_simp; try (with_reducible rfl))
    simp only [Act.put, List.getElem_toArray, List.getElem_cons_succ, List.getElem_cons_zero, List.setIfInBounds_toArray, List.set_cons_zero, List.set_cons_succ]
    refine wpAnyG_take (v := ?_) 14 (by rfl) (by kernel_rfl) (by kernel_rfl) (by kernel_rfl) (by kernel_rfl) (fun _ _ _ h => h) (Or.inl ⟨by rfl, ?_⟩) (by assumption) ?_
    rotate_left
    · (intro w' hSw; (try dsimp only at hSw); (try simp only [List.getElem_toArray, List.getElem_cons_succ, List.getElem_cons_zero]); go_simp; try (with_reducible rfl))
    simp only [Act.put, List.getElem_toArray, List.getElem_cons_succ, List.getElem_cons_zero, List.setIfInBounds_toArray, List.set_cons_zero, List.set_cons_succ]
    refine wpAnyG_take (v := ?_) 15 (by rfl) (by kernel_rfl) (by kernel_rfl) (by kernel_rfl) (by kernel_rfl) (fun _ _ _ h => h) (Or.inl ⟨by rfl, ?_⟩) (by assumption) ?_
    rotate_left
    · (intro w' hSw; (try dsimp only at hSw); (try simp only [List.getElem_toArray, List.getElem_cons_succ, List.getElem_cons_zero]); go_simp; try (with_reducible rfl))
    simp only [Act.put, List.getElem_toArray, List.getElem_cons_succ, List.getElem_cons_zero, List.setIfInBounds_toArray, List.set_cons_zero, List.set_cons_succ]
    refine wpAnyG_take (v := ?_) 16 (by rfl) (by kernel_rfl) (by kernel_rfl) (by kernel_rfl) (by kernel_rfl) (fun _ _ _ h => h) (Or.inl ⟨by rfl, ?_⟩) (by assumption) ?_
    rotate_left
    · (intro w' hSw; (try dsimp only at hSw); (try simp only [List.getElem_toArray, List.getElem_cons_succ, List.getElem_cons_zero]); go_simp; try (with_reducible rfl))
    simp only [Act.put, List.getElem_toArray, List.getElem_cons_succ, List.getElem_cons_zero, List.setIfInBounds_toArray, List.set_cons_zero, List.set_cons_succ]
    refine wpAnyG_take (v := ?_) 17 (by rfl) (by kernel_rfl) (by kernel_rfl) (by kernel_rfl) (by kernel_rfl) (fun _ _ _ h => h) (Or.inl ⟨by rfl, ?_⟩) (by assumption) ?_
    rotate_left
    · (intro w' hSw; (try dsimp only at hSw); (try simp only [List.getElem_toArray, List.getElem_cons_succ, List.getElem_cons_zero]); go_simp; try (with_reducible rfl))
    simp only [Act.put, List.getElem_toArray, List.getElem_cons_succ, List.getElem_cons_zero, List.setIfInBounds_toArray, List.set_cons_zero, List.set_cons_succ]
    refine wpAnyG_take (v := ?_) 18 (by rfl) (by kernel_rfl) (by kernel_rfl) (by kernel_rfl) (by kernel_rfl) (fun _ _ _ h => h) (Or.inl ⟨by rfl, ?_⟩) (by assumption) ?_
    rotate_left
    · (intro w' hSw; (try dsimp only at hSw); (try simp only [List.getElem_toArray, List.getElem_cons_succ, List.getElem_cons_zero]); go_simp; try (with_reducible rfl))
    simp only [Act.put, List.getElem_toArray, List.getElem_cons_succ, List.getElem_cons_zero, List.setIfInBounds_toArray, List.set_cons_zero, List.set_cons_succ]
    refine wpAnyG_take (v := ?_) 19 (by rfl) (by kernel_rfl) (by kernel_rfl) (by kernel_rfl) (by kernel_rfl) (fun _ _ _ h => h) (Or.inl ⟨by rfl, ?_⟩) (by assumption) ?_
    rotate_left
    · (intro w' hSw; (try dsimp only at hSw); (try simp only [List.getElem_toArray, List.getElem_cons_succ, List.getElem_cons_zero]); go_simp; try (with_reducible rfl))
    simp only [Act.put, List.getElem_toArray, List.getElem_cons_succ, List.getElem_cons_zero, List.setIfInBounds_toArray, List.set_cons_zero, List.set_cons_succ]
    refine wpAnyG_take (v := ?_) 20 (by rfl) (by kernel_rfl) (by kernel_rfl) (by kernel_rfl) (by kernel_rfl) (fun _ _ _ h => h) (Or.inl ⟨by rfl, ?_⟩) (by assumption) ?_
    rotate_left
    · (intro w' hSw; (try dsimp only at hSw); (try simp only [List.getElem_toArray, List.getElem_cons_succ, List.getElem_cons_zero]); go_simp; try (with_reducible rfl))
    simp only [Act.put, List.getElem_toArray, List.getElem_cons_succ, List.getElem_cons_zero, List.setIfInBounds_toArray, List.set_cons_zero, List.set_cons_succ]
    refine wpAnyG_take (v := ?_) 21 (by rfl) (by kernel_rfl) (by kernel_rfl) (by kernel_rfl) (by kernel_rfl) (fun _ _ _ h => h) (Or.inl ⟨by rfl, ?_⟩) (by assumption) ?_
    rotate_left
    · (intro w' hSw; (try dsimp only at hSw); (try simp only [List.getElem_toArray, List.getElem_cons_succ, List.getElem_cons_zero]); go_simp; try (with_reducible rfl))
    simp only [Act.put, List.getElem_toArray, List.getElem_cons_succ, List.getElem_cons_zero, List.setIfInBounds_toArray, List.set_cons_zero, List.set_cons_succ]
    refine wpAnyG_take (v := ?_) 22 (by rfl) (by kernel_rfl) (by kernel_rfl) (by kernel_rfl) (by kernel_rfl) (fun _ _ _ h => h) (Or.inl ⟨by rfl, ?_⟩) (by assumption) ?_
    rotate_left
    · (intro w' hSw; (try dsimp only at hSw); (try simp only [List.getElem_toArray, List.getElem_cons_succ, List.getElem_cons_zero]); go_simp; try (with_reducible rfl))
    simp only [Act.put, List.getElem_toArray, List.getElem_cons_succ, List.getElem_cons_zero, List.setIfInBounds_toArray, List.set_cons_zero, List.set_cons_succ]
    refine wpAnyG_take (v := ?_) 23 (by rfl) (by kernel_rfl) (by kernel_rfl) (by kernel_rfl) (by kernel_rfl) (fun _ _ _ h => h) (Or.inl ⟨by rfl, ?_⟩) (by assumption) ?_
    rotate_left
    · (intro w' hSw; (try dsimp only at hSw); (try simp only [List.getElem_toArray, List.getElem_cons_succ, List.getElem_cons_zero]); go_simp; try (with_reducible rfl))
    simp only [Act.put, List.getElem_toArray, List.getElem_cons_succ, List.getElem_cons_zero, List.setIfInBounds_toArray, List.set_cons_zero, List.set_cons_succ]
    refine wpAnyG_take (v := ?_) 24 (by rfl) (by kernel_rfl) (by kernel_rfl) (by kernel_rfl) (by kernel_rfl) (fun _ _ _ h => h) (Or.inl ⟨by rfl, ?_⟩) (by assumption) ?_
    rotate_left
    · (intro w' hSw; (try dsimp only at hSw); (try simp only [List.getElem_toArray, List.getElem_cons_succ, List.getElem_cons_zero]); go_simp; try (with_reducible rfl))
    simp only [Act.put, List.getElem_toArray, List.getElem_cons_succ, List.getElem_cons_zero, List.setIfInBounds_toArray, List.set_cons_zero, List.set_cons_succ]
    refine wpAnyG_take (v := ?_) 25 (by rfl) (by kernel_rfl) (by kernel_rfl) (by kernel_rfl) (by kernel_rfl) (fun _ _ _ h => h) (Or.inl ⟨by rfl, ?_⟩) (by assumption) ?_
    rotate_left
    · (intro w' hSw; (try dsimp only at hSw); (try simp only [List.getElem_toArray, List.getElem_cons_succ, List.getElem_cons_zero]); go_simp; try (with_reducible rfl))
    simp only [Act.put, List.getElem_toArray, List.getElem_cons_succ, List.getElem_cons_zero, List.setIfInBounds_toArray, List.set_cons_zero, List.set_cons_succ]
    refine wpAnyG_take (v := ?_) 26 (by rfl) (by kernel_rfl) (by kernel_rfl) (by kernel_rfl) (by kernel_rfl) (fun _ _ _ h => h) (Or.inl ⟨by rfl, ?_⟩) (by assumption) ?_
    rotate_left
    · (intro w' hSw; (try dsimp only at hSw); (try simp only [List.getElem_toArray, List.getElem_cons_succ, List.getElem_cons_zero]); go_simp; try (with_reducible rfl))
    simp only [Act.put, List.getElem_toArray, List.getElem_cons_succ, List.getElem_cons_zero, List.setIfInBounds_toArray, List.set_cons_zero, List.set_cons_succ]
    refine wpAnyG_take (v := ?_) 28 (by rfl) (by kernel_rfl) (by kernel_rfl) (by kernel_rfl) (by kernel_rfl) (fun _ _ _ h => h) (Or.inl ⟨by rfl, ?_⟩) (by assumption) ?_
    rotate_left
    · (intro w' hSw; (try dsimp only at hSw); (try simp only [List.getElem_toArray, List.getElem_cons_succ, List.getElem_cons_zero]); go_simp; try (with_reducible rfl))
    simp only [Act.put, List.getElem_toArray, List.getElem_cons_succ, List.getElem_cons_zero, List.setIfInBounds_toArray, List.set_cons_zero, List.set_cons_succ]
    refine wpAnyG_take (v := ?_) 29 (by rfl) (by kernel_rfl) (by kernel_rfl) (by kernel_rfl) (by kernel_rfl) (fun _ _ _ h => h) (Or.inl ⟨by rfl, ?_⟩) (by assumption) ?_
    rotate_left
    · (intro w' hSw; (try dsimp only at hSw); (try simp only [List.getElem_toArray, List.getElem_cons_succ, List.getElem_cons_zero]); go_simp; try (with_reducible rfl))
    simp only [Act.put, List.getElem_toArray, List.getElem_cons_succ, List.getElem_cons_zero, List.setIfInBounds_toArray, List.set_cons_zero, List.set_cons_succ]
    refine wpAnyG_ready [27] (by kernel_rfl) (by simp) ?_
    refine AllReadyG.cons 27 (by rfl) (fun K hK => ?_) ?_
    · simp only [List.getElem_toArray, List.getElem_cons_succ, List.getElem_cons_zero]
      go_simp
      go_at_call 18
      refine (unhide HAb _ hb10d).mono ?_
      rintro e w11 ⟨vA, rfl, hA, hl11⟩
      have hb11 := unhide HTR2 _ _ hb10d hl11
      have hx11 := hx10d.trans (hl11.mono hx10d.size)
      refine hK.out _ _ (unhide HS _ hx11) (fun _ => ?_)
      clear hK K
      try simp only [Act.put, List.setIfInBounds_toArray, List.set_cons_zero, List.set_cons_succ]
      refine wpAnyG_ready [30] (by kernel_rfl) (by simp) ?_
      refine AllReadyG.cons 30 (by rfl) (fun K hK => ?_) ?_
      · simp only [List.getElem_toArray, List.getElem_cons_succ, List.getElem_cons_zero]
        go_simp
        go_at_call 19
        refine (unhide HFc _ hb11).mono ?_
        rintro e w12 ⟨vF, rfl, hF, hl12⟩
        have hb12 := unhide HTR2 _ _ hb11 hl12
        have hx12 := hx11.trans (hl12.mono hx11.size)
        replace hA := hA.below hl12
        refine hK.out _ _ (unhide HS _ hx12) (fun _ => ?_)
        clear hK K
        try simp only [Act.put, List.setIfInBounds_toArray, List.set_cons_zero, List.set_cons_succ]
        refine wpAnyG_ready [31] (by kernel_rfl) (by simp) ?_
        refine AllReadyG.cons 31 (by rfl) (fun K hK => ?_) ?_
        · simp only [List.getElem_toArray, List.getElem_cons_succ, List.getElem_cons_zero]
          go_simp
          go_at_call 17
          refine (unhide HIs _ _ _ hA hF).mono ?_
          rintro e w13 ⟨rfl, hl13⟩
          have hb13 := unhide HTR2 _ _ hb12 hl13
          have hx13 := hx12.trans (hl13.mono hx12.size)
          refine hK.out _ _ (unhide HS _ hx13) (fun _ => ?_)
          clear hK K
          try simp only [Act.put, List.setIfInBounds_toArray, List.set_cons_zero, List.set_cons_succ]
          refine wpAnyG_take (v := ?_) 32 (by rfl) (by kernel_rfl) (by kernel_rfl) (by kernel_rfl) (by kernel_rfl) (fun _ _ _ h => h) (Or.inl ⟨by rfl, ?_⟩) (by assumption) ?_
          rotate_left
          · (intro w' hSw; (try dsimp only at hSw); (try simp only [List.getElem_toArray, List.getElem_cons_succ, List.getElem_cons_zero]); go_simp; try (with_reducible rfl))
          simp only [Act.put, List.getElem_toArray, List.getElem_cons_succ, List.getElem_cons_zero, List.setIfInBounds_toArray, List.set_cons_zero, List.set_cons_succ]
          refine wpAnyG_take (v := ?_) 33 (by rfl) (by kernel_rfl) (by kernel_rfl) (by kernel_rfl) (by kernel_rfl) (fun _ _ _ h => h) (Or.inl ⟨by rfl, ?_⟩) (by assumption) ?_
          rotate_left
          · (intro w' hSw; (try dsimp only at hSw); (try simp only [List.getElem_toArray, List.getElem_cons_succ, List.getElem_cons_zero]); go_simp; try (with_reducible rfl))
          simp only [Act.put, List.getElem_toArray, List.getElem_cons_succ, List.getElem_cons_zero, List.setIfInBounds_toArray, List.set_cons_zero, List.set_cons_succ]
          refine wpAnyG_done (by kernel_rfl) ?_ _
          refine NoPanic.normal ?_
          go_wp2
          rw [unhide HP]
          exact ⟨by rfl, unhide HFi _ hb13⟩
        exact AllReadyG.nil
      exact AllReadyG.nil
    exact AllReadyG.nil
end Go.Proofs.Ytcdpgiklmonabab


/- The law DualFirst, walked. -/
namespace Go.Proofs.Ytcdpgiklmonabab
open Go Go.RowKit

/-- Was a dart of the face that begins at the vertex met among the first ones? -/
def Sp.mt (T F : List Int) (f : Nat) (v : Int) : Nat → Bool
  | 0 => false
  | j + 1 => Sp.mt T F f v j || (F.getD j 0 == (f : Int) && T.getD j 0 == v)
theorem Sp.mt_iff (T F : List Int) (f : Nat) (v : Int) : ∀ j, Sp.mt T F f v j = true ↔ ∃ d, d < j ∧ T.getD d 0 = v ∧ F.getD d 0 = (f : Int)
  | 0 => ⟨fun h => by simp [Sp.mt] at h, fun ⟨d, h, _⟩ => by omega⟩
  | j + 1 => by
    rw [Sp.mt, Bool.or_eq_true, Sp.mt_iff T F f v j, Bool.and_eq_true, beq_iff_eq, beq_iff_eq]
    constructor
    · rintro (⟨d, h1, h2⟩ | ⟨h1, h2⟩)
      · exact ⟨d, by omega, h2⟩
      · exact ⟨j, by omega, h2, h1⟩
    · rintro ⟨d, h1, h2, h3⟩
      by_cases h : d = j
      · subst h; exact .inr ⟨h3, h2⟩
      · exact .inl ⟨d, by omega, h2, h3⟩
theorem Sp.mt_meets (T F : List Int) (f : Nat) (v : Int) : Sp.mt T F f v T.length = Sp.meetsB T F f v := by
  rw [Bool.eq_iff_iff, Sp.mt_iff]
  constructor
  · intro h; exact Sp.meetsB_true h
  · intro h; exact Sp.meetsB_of h
theorem Sp.sharedGo_some {T F : List Int} {s t : Int} : ∀ g f (c : Nat), f ≤ c → c < f + g → Sp.meets T F c s → Sp.meets T F c t → (Sp.sharedGo T F s t g f).2 = true
  | 0, f, c, h1, h2, _, _ => by omega
  | g + 1, f, c, h1, h2, h3, h4 => by
    rw [Sp.sharedGo]
    split
    · rfl
    · rename_i h
      refine Sp.sharedGo_some g (f + 1) c ?_ (by omega) h3 h4
      rcases Nat.lt_or_ge f c with h5 | h5
      · omega
      · obtain rfl : f = c := by omega
        exact absurd ⟨Sp.meetsB_true h3, Sp.meetsB_true h4⟩ h
/-- The ends of an edge share a face. -/
theorem Sp.DualQ.edge {q : Sp.Net} (h : Sp.DualQ q) {x : Nat} (hx : x < q.tail.length) : (Sp.shared q (q.tail.getD x 0) (q.tail.getD (Sp.oth x) 0)).2 = (q.tail.getD x 0 != q.tail.getD (Sp.oth x) 0) := by
  unfold Sp.shared
  by_cases e : q.tail.getD x 0 = q.tail.getD (Sp.oth x) 0
  · rw [if_pos e, e]; simp
  · rw [if_neg e]
    have e2 : (q.tail.getD x 0 != q.tail.getD (Sp.oth x) 0) = true := by simpa using e
    rw [e2]
    have ho := oth_lt hx h.link.ev
    have hb := h.fb hx
    have hn := h.mpN _ ho
    have hk := h.k1
    have e3 : ((((Sp.faces2 q).1.getD x 0).toNat : Nat) : Int) = (Sp.faces2 q).1.getD x 0 := by omega
    refine Sp.sharedGo_some _ 0 ((Sp.faces2 q).1.getD x 0).toNat (by omega) (by omega) ⟨x, hx, rfl, e3.symm⟩ ⟨Sp.fn q.next (Sp.oth x), hn, ?_, ?_⟩
    · have hv := h.pl.vert.inv _ ho
      have b1 := h.tb _ (Sp.getD_mem (l := q.tail) hn)
      have b2 := h.tb _ (Sp.getD_mem (l := q.tail) ho)
      omega
    · rw [e3, h.turn ho, oth_oth]
theorem Sp.edge_plane (ns : List Int) : ∀ x, x < (Sp.plane ns).tail.length → (Sp.shared (Sp.plane ns) ((Sp.plane ns).tail.getD x 0) ((Sp.plane ns).tail.getD (Sp.oth x) 0)).2 = ((Sp.plane ns).tail.getD x 0 != (Sp.plane ns).tail.getD (Sp.oth x) 0) := by
  rcases Sp.dualQ_plane ns with e | h
  · rw [e]
    intro x hx
    exact absurd hx (Nat.not_lt_zero _)
  · exact fun x hx => h.edge hx
set_option maxRecDepth 100000 in
set_option maxHeartbeats 4000000 in
theorem dualFirst_any (ns : List Int) (x : Value) (d s t : Int) (w : World) (hx : Ints w x ns) :
    Calls Try.prog 6 #[x, .int .i64 d, .int .i64 s, .int .i64 t] w fun e w' => e = .returned (.bool true) ∧ Below w.heap.size w w' := by
  obtain ⟨a, c, rfl, hc, hm⟩ := hx.form
  have HPL := hide (fun w' (hb : Below w.heap.size w w') => plane_any ns (.slice a ns.length c) w' (hx.below hb))
  have HOK := hide (Sp.plane_ok ns)
  have HLQ := hide (Sp.linkQ_plane ns)
  have HCk := hide (Sp.check_plane ns)
  have HEd := hide (Sp.edge_plane ns)
  generalize Sp.plane ns = q at *
  generalize ns.length = n at *
  clear hx
  obtain ⟨P, hP⟩ : ∃ P : Ending → World → Prop, P = fun e w' => e = .returned (.bool true) ∧ Below w.heap.size w w' := ⟨_, rfl⟩
  rw [← hP]
  have HP := hide hP
  clear hP
  go_enter Try.func6, Try.ntmps6
  go_wp2_with fail
  go_at_call 9
  refine (known3_any w).mono ?_
  rintro e w2 ⟨rfl, hb2⟩
  have Hb2 := hide hb2
  clear hb2
  go_wp2_with fail
  go_at_call 10
  refine (unhide HPL _ (unhide Hb2)).mono ?_
  clear HPL
  rintro e w3 ⟨v, tv, nv, cv, rfl, hnv, hb3⟩
  have hval := hnv.val
  subst hval
  obtain ⟨ta, tc, rfl, htc, htm, HT⟩ := hnv.netI.tail.allD
  obtain ⟨na, nc, rfl, -, -⟩ := hnv.netI.next.form
  obtain ⟨ca, cc, rfl, -, -⟩ := hnv.netI.cap.form
  obtain ⟨W4, hW4⟩ : ∃ W4, W4 = w3.alloc (.cells #[.int .i64 q.n, .slice ta q.tail.length tc, .slice na q.next.length nc, .slice ca q.cap.length cc] 25) := ⟨_, rfl⟩
  obtain ⟨hBX, hs4, hTR⟩ := boxed ((unhide Hb2).trans (hb3.mono (unhide Hb2).size)) hnv.netI W4 hW4
  have HBX := hide hBX
  have HTR := hide hTR
  have Hs4 := hide hs4
  have HW4 := hide hW4
  clear hnv hb3 Hb2 hBX hTR hs4 hW4
  have hb4 : Below (w3.heap.size + 1) W4 W4 := Below.refl _ _
  have HWK := hide ((unhide HOK).walk (by omega))
  have hn0 : 1 ≤ q.n := (unhide HOK).n0
  have hn1 : q.n ≤ 100 := by have := (unhide HOK).n1; omega
  have HA := hide (fun (s t : Int) w' (hb : Below (w3.heap.size + 1) W4 w') => shared_any q _ _ _ _ s t w' (unhide HBX w' hb).2.1 (unhide HLQ) (unhide HCk) (by omega) (by omega))
  have HF0 := hide (faces2_any q _ _ _ _ W4 (unhide HBX W4 hb4).2.1 (unhide HLQ).nx (by have := (unhide HLQ).le; omega) (unhide HLQ).ev (unhide HLQ).pm)
  have HFl := hide (Sp.faces2_len q)
  have hl60 : q.tail.length ≤ 60 := (unhide HLQ).le
  have HLe : Hid (q.tail.length % 2 = 0) := hide (unhide HLQ).ev
  have HSh : Hid (∀ s t, Sp.shared q s t = if s = t then (0, false) else Sp.sharedGo q.tail (Sp.faces2 q).1 s t (max (Sp.faces2 q).2 1) 0) := hide fun s t => rfl
  have hK60 : max (Sp.faces2 q).2 1 ≤ 1000 := by have := Sp.faces2_le q; omega
  have hK1 : 1 ≤ max (Sp.faces2 q).2 1 := by omega
  generalize (Sp.faces2 q).1 = F at *
  generalize max (Sp.faces2 q).2 1 = K at *
  have HMt := hide (fun f v => Sp.mt_meets q.tail F f v)
  have HWs := hide (fun w' => within3_any s q.n w' (by omega) (by omega))
  have HWt := hide (fun w' => within3_any t q.n w' (by omega) (by omega))
  obtain ⟨x0, x1, x2, x3⟩ := (unhide HBX W4 hb4).1
  go_wp2_with fail
  rw [← unhide HW4]
  go_at_call 13
  refine (unhide HF0).mono ?_
  clear x0 x1 x2 x3 HF0
  rintro e w7 ⟨fv, rfl, hf7, hl7⟩
  have hb7 := unhide HTR _ _ hb4 hl7
  obtain ⟨fa, fc, hve, -, -, HFa⟩ := hf7.ints.allD
  rw [unhide HFl] at hve
  subst hve
  rw [unhide HFl] at HFa
  clear hf7 hl7 hb4 htc htm
  have HTt : Hid (∀ w' k, Below (w3.heap.size + 1) W4 w' → k < q.tail.length → ∃ b o, ta = some ⟨b, o, none⟩ ∧ w'.cell? ⟨b, o + k, none⟩ = some (.int .i64 (q.tail.getD k 0))) := hide fun w' k hb hk => by
    obtain ⟨b, o, e1, -, e2⟩ := unhide HT k hk
    exact ⟨b, o, e1, e2 w' (unhide HBX w' hb).2.2.2.2⟩
  have HFt : Hid (∀ w' k, Below w7.heap.size w7 w' → k < q.tail.length → ∃ b o, fa = some ⟨b, o, none⟩ ∧ w'.cell? ⟨b, o + k, none⟩ = some (.int .i64 (F.getD k 0))) := hide fun w' k hb hk => by
    obtain ⟨b, o, e1, -, e2⟩ := unhide HFa k hk
    exact ⟨b, o, e1, e2 w' hb⟩
  have HDn : Hid (∀ wr nq, Hid (Below (w3.heap.size + 1) W4 wr ∧ Below w7.heap.size w7 wr) → Hid (Below (w3.heap.size + 1) W4 (World.drewN wr nq) ∧ Below w7.heap.size w7 (World.drewN wr nq))) := hide fun wr nq h => hide ⟨below_dn (unhide h).1 nq, below_dn (unhide h).2 nq⟩
  have HTr : Hid (∀ w' w'', Hid (Below (w3.heap.size + 1) W4 w' ∧ Below w7.heap.size w7 w') → Below w'.heap.size w' w'' → Hid (Below (w3.heap.size + 1) W4 w'' ∧ Below w7.heap.size w7 w'')) := hide fun w' w'' h h' => hide ⟨unhide HTR _ _ (unhide h).1 h', (unhide h).2.trans (h'.mono (unhide h).2.size)⟩
  have HI7 : Hid (Below (w3.heap.size + 1) W4 w7 ∧ Below w7.heap.size w7 w7) := hide ⟨hb7, Below.refl _ _⟩
  clear HT HFa HOK HCk HWK hb7
  go_upto_region 5 with fail
  go_cut [36] (fun s36 wx => s36 = .bool (decide (0 < q.tail.length)) ∧ wx = w7)
  case first =>
    by_cases hz : 0 < q.tail.length
    · have hz0 : (0 : Int) < (q.tail.length : Int) := by omega
      go_wp2
      go_meet
      exact ⟨by rw [decide_eq_true hz], rfl⟩
    · have hz0 : ¬ (0 : Int) < (q.tail.length : Int) := by omega
      have Hz := hide hz
      have hz1 : decide (0 < q.tail.length) = false := decide_eq_false hz
      clear hz
      go_wp2
      go_meet
      exact ⟨by rw [decide_eq_false (unhide Hz)], rfl⟩
  case rest =>
  obtain ⟨rfl, hwc⟩ := hcut
  have hwc' := hwc.symm
  clear hwc
  subst hwc'
  refine (‹∀ (a : Act) (w : World), Code.wp Try.prog (Code.cond _ _ _) _ a w → _›) _ _ ?_
  go_cut [] (fun wx => Hid (Below (w3.heap.size + 1) W4 wx ∧ Below w7.heap.size w7 wx))
  case first =>
    by_cases hz : q.tail.length = 0
    · rw [decide_eq_false (show ¬ 0 < q.tail.length by omega)]
      clear hz
      go_wp2
      go_meet
      exact HI7
    · have hzI : ¬ (q.tail.length : Int) = 0 := by omega
      have hz0 : (0 : Int) < (q.tail.length : Int) := by omega
      have hz1 : 0 < q.tail.length := by omega
      have HW := hide (within3_any d q.tail.length w7 (by omega) (by omega))
      have d0 := Int.emod_nonneg d hzI
      have d1 : d % (q.tail.length : Int) < q.tail.length := Int.emod_lt_of_pos _ (by omega)
      obtain ⟨y, hy⟩ : ∃ y : Nat, d % (q.tail.length : Int) = (y : Int) := ⟨(d % (q.tail.length : Int)).toNat, by omega⟩
      rw [hy] at HW d1
      have hyl : y < q.tail.length := by omega
      have hol := oth_lt hyl (unhide HLe)
      have hX := xor_oth ⟨y, by omega⟩
      simp only at hX
      have hed := unhide HEd y hyl
      have HAe := hide (unhide HA (q.tail.getD y 0) (q.tail.getD (Sp.oth y) 0))
      rw [hed] at HAe
      generalize (Sp.shared q (q.tail.getD y 0) (q.tail.getD (Sp.oth y) 0)).1 = g0 at *
      obtain ⟨tb, t0, rfl, c1⟩ := unhide HTt w7 y (unhide HI7).1 hyl
      obtain ⟨tb', t0', et, c2⟩ := unhide HTt w7 (Sp.oth y) (unhide HI7).1 hol
      injection et with et
      injection et with et1 et2
      subst et1 et2
      obtain ⟨x0, x1, x2, x3⟩ := (unhide HBX w7 (unhide HI7).1).1
      generalize q.tail.getD y 0 = z1 at *
      generalize q.tail.getD (Sp.oth y) 0 = z2 at *
      generalize Sp.oth y = oy at *
      have hoI : (oy : Int) < (q.tail.length : Int) := by omega
      clear d0 hy hed x0 x2 x3 hz hzI
      rw [decide_eq_true hz1]
      go_wp2_with fail
      go_at_call 11
      refine (unhide HW).mono ?_
      rintro e w9 ⟨rfl, h9⟩
      have h9' := h9.symm
      clear h9 HW
      subst h9'
      go_wp2
      go_quiet (fail)
      have HIq := unhide HDn _ nq HI7
      clear c1 c2 x1
      generalize w7.drewN nq = wq at *
      obtain ⟨x0, x1, x2, x3⟩ := (unhide HBX wq (unhide HIq).1).1
      go_wp2_with fail
      go_at_call 14
      refine (unhide HAe wq (unhide HIq).1).mono ?_
      clear x0 x1 x2 x3
      rintro e wS ⟨rfl, hlS⟩
      have HIS := unhide HTr _ _ HIq hlS
      clear hlS HIq
      by_cases hzz : z1 = z2
      · subst hzz
        have e1 : (z1 != z1) = false := by simp
        rw [e1]
        go_wp2
        go_meet
        exact HIS
      · have e1 : (z1 != z2) = true := by simpa using hzz
        rw [e1]
        go_wp2
        go_meet
        exact HIS
  case rest =>
    obtain ⟨wP, rfl⟩ : ∃ wP, wP = wc := ⟨_, rfl⟩
    have HIP := hcut
    clear hcut HI7 HEd
    obtain ⟨x0, x1, x2, x3⟩ := (unhide HBX wP (unhide HIP).1).1
    have HA1 := hide (unhide HA (s % q.n) (t % q.n))
    have HSh1 := hide (unhide HSh (s % q.n) (t % q.n))
    generalize Sp.shared q (s % q.n) (t % q.n) = R at *
    generalize s % q.n = a1 at *
    generalize t % q.n = b1 at *
    go_wp2
    go_quiet (first
      | (go_at_call_of 11 s
         exact Calls.quiet_of_same (unhide HWs _))
      | (go_at_call_of 11 t
         exact Calls.quiet_of_same (unhide HWt _)))
    have HIq := unhide HDn _ nq HIP
    clear x0 x1 x2 x3 HIP
    generalize wP.drewN nq = wq at *
    obtain ⟨x0, x1, x2, x3⟩ := (unhide HBX wq (unhide HIq).1).1
    go_wp2_with fail
    go_at_call 14
    refine (unhide HA1 wq (unhide HIq).1).mono ?_
    clear x0 x1 x2 x3
    rintro e wS ⟨rfl, hlS⟩
    have HIS := unhide HTr _ _ HIq hlS
    clear hlS HIq
    obtain ⟨gR, bR⟩ := R
    dsimp only
    by_cases hab : a1 = b1
    · subst hab
      rw [if_pos rfl] at HSh1
      have h1 := unhide HSh1
      injection h1 with h1 h2
      subst h1 h2
      have e1 : (a1 != a1) = false := by simp
      have h0K : (0 : Int) < (K : Int) := by omega
      have h0N : 0 < K := by omega
      have HF := hide (unhide HBX _ (unhide HIS).1).2.2.1
      go_wp2
      go_loopg [21] 0 (fun g s21 wr => g = 0 ∧ s21 = .int .i64 0 ∧ wr = wS)
      case atStart => exact ⟨rfl, rfl, rfl⟩
      case round =>
        obtain ⟨-, rfl, hwr⟩ := hrel
        subst hwr
        go_wp2
        rw [unhide HP]
        exact ⟨by rfl, unhide HF⟩
    · rw [if_neg hab] at HSh1
      have e0 : (a1 != b1) = true := by simpa using hab
      go_wp2
      go_loopg [21] K (fun g s21 wr => ∃ cf : Nat, cf + g = K ∧ s21 = .int .i64 (cf : Int) ∧ Hid (Hid (Below (w3.heap.size + 1) W4 wr ∧ Below w7.heap.size w7 wr) ∧ (gR, bR) = Sp.sharedGo q.tail F a1 b1 g cf))
      case atStart => exact ⟨0, by omega, rfl, hide ⟨HIS, unhide HSh1⟩⟩
      case round =>
        clear HIS HSh1
        obtain ⟨cf, hcg, rfl, HJ⟩ := hrel
        cases gk with
        | zero =>
          obtain rfl : cf = K := by omega
          have h1 : (gR, bR) = ((0 : Int), false) := (unhide HJ).2
          injection h1 with h1 h2
          subst h1 h2
          have HF := hide (unhide HBX _ (unhide (unhide HJ).1).1).2.2.1
          clear HJ
          go_wp2
          rw [unhide HP]
          exact ⟨by rfl, unhide HF⟩
        | succ g' =>
          have hlt : cf < K := by omega
          have hltI : (cf : Int) < (K : Int) := by omega
          have HR : Hid ((gR, bR) = if Sp.meetsB q.tail F cf a1 = true ∧ Sp.meetsB q.tail F cf b1 = true then ((cf : Int), true) else Sp.sharedGo q.tail F a1 b1 g' (cf + 1)) := hide (unhide HJ).2
          rw [← unhide HMt cf a1, ← unhide HMt cf b1] at HR
          have HIr := (unhide HJ).1
          clear HJ
          go_wp2
          go_loopg [22, 23, 24] q.tail.length (fun g2 s22 s23 s24 wr => ∃ j : Nat, j + g2 = q.tail.length ∧ s24 = .int .i64 (j : Int) ∧ s22 = .bool (Sp.mt q.tail F cf a1 j) ∧ s23 = .bool (Sp.mt q.tail F cf b1 j) ∧ Hid (Below (w3.heap.size + 1) W4 wr ∧ Below w7.heap.size w7 wr))
          case atStart => exact ⟨0, by omega, rfl, rfl, rfl, HIr⟩
          case round =>
            clear HIr
            obtain ⟨j, hjg, rfl, rfl, rfl, HI⟩ := hrel
            cases gk with
            | zero =>
              obtain rfl : j = q.tail.length := by omega
              generalize Sp.mt q.tail F cf a1 q.tail.length = pv at *
              generalize Sp.mt q.tail F cf b1 q.tail.length = qv at *
              cases pv with
              | true =>
                cases qv with
                | true =>
                  have h1 : (gR, bR) = ((cf : Int), true) := by rw [unhide HR, if_pos (by simp)]
                  injection h1 with h1 h2
                  subst h1 h2
                  have HF := hide (unhide HBX _ (unhide HI).1).2.2.1
                  have ec : ((cf : Int) == (cf : Int)) = true := beq_self_eq_true _
                  clear HI HR
                  go_wp2
                  rw [unhide HP]
                  exact ⟨by rfl, unhide HF⟩
                | false =>
                  have HR2 : Hid ((gR, bR) = Sp.sharedGo q.tail F a1 b1 g' (cf + 1)) := hide (by rw [unhide HR, if_neg (by simp)])
                  go_wp2
                  go_roundg g'
                  case rel => exact ⟨cf + 1, by omega, by go_num, hide ⟨HI, unhide HR2⟩⟩
                  case measure => omega
              | false =>
                have HR2 : Hid ((gR, bR) = Sp.sharedGo q.tail F a1 b1 g' (cf + 1)) := hide (by rw [unhide HR, if_neg (by simp)])
                go_wp2
                go_roundg g'
                case rel => exact ⟨cf + 1, by omega, by go_num, hide ⟨HI, unhide HR2⟩⟩
                case measure => omega
            | succ g2 =>
              have hjl : j < q.tail.length := by omega
              have hjI : (j : Int) < (q.tail.length : Int) := by omega
              obtain ⟨tb, t0, rfl, c1⟩ := unhide HTt wr j (unhide HI).1 hjl
              obtain ⟨fb, f0, rfl, c2⟩ := unhide HFt wr j (unhide HI).2 hjl
              have x1 := (unhide HBX wr (unhide HI).1).1.2.1
              have hp2 : Sp.mt q.tail F cf a1 (j + 1) = (Sp.mt q.tail F cf a1 j || (F.getD j 0 == (cf : Int) && q.tail.getD j 0 == a1)) := rfl
              have hq2 : Sp.mt q.tail F cf b1 (j + 1) = (Sp.mt q.tail F cf b1 j || (F.getD j 0 == (cf : Int) && q.tail.getD j 0 == b1)) := rfl
              generalize F.getD j 0 = fz at *
              generalize q.tail.getD j 0 = tz at *
              by_cases hFc : fz = (cf : Int)
              · by_cases hTa : tz = a1
                · have e1 : (fz == (cf : Int)) = true := by rw [hFc]; exact beq_self_eq_true _
                  have e2 : (tz == a1) = true := by rw [hTa]; exact beq_self_eq_true _
                  have e3 : (tz == b1) = false := by rw [hTa]; exact beq_eq_false_iff_ne.2 hab
                  rw [e1, e2] at hp2
                  rw [e1, e3] at hq2
                  generalize Sp.mt q.tail F cf a1 j = pv at *
                  generalize Sp.mt q.tail F cf b1 j = qv at *
                  clear hFc hTa
                  cases pv <;> cases qv <;> simp at hp2 hq2
                  all_goals
                    have Hp2 := hide hp2
                    have Hq2 := hide hq2
                    clear hp2 hq2
                    go_wp2
                    go_quiet (fail)
                    have HIq := unhide HDn _ nq HI
                    clear c1 c2 x1 HI
                    generalize wr.drewN nq = wq at *
                    go_wp2
                    go_roundg g2
                    case rel => exact ⟨j + 1, by omega, by go_num, by rw [unhide Hp2], by rw [unhide Hq2], HIq⟩
                    case measure => omega
                · by_cases hTb : tz = b1
                  · have e1 : (fz == (cf : Int)) = true := by rw [hFc]; exact beq_self_eq_true _
                    have e2 : (tz == a1) = false := beq_eq_false_iff_ne.2 hTa
                    have e3 : (tz == b1) = true := by rw [hTb]; exact beq_self_eq_true _
                    rw [e1, e2] at hp2
                    rw [e1, e3] at hq2
                    generalize Sp.mt q.tail F cf a1 j = pv at *
                    generalize Sp.mt q.tail F cf b1 j = qv at *
                    clear hFc hTa hTb
                    cases pv <;> cases qv <;> simp at hp2 hq2
                    all_goals
                      have Hp2 := hide hp2
                      have Hq2 := hide hq2
                      clear hp2 hq2
                      go_wp2
                      go_quiet (fail)
                      have HIq := unhide HDn _ nq HI
                      clear c1 c2 x1 HI
                      generalize wr.drewN nq = wq at *
                      go_wp2
                      go_roundg g2
                      case rel => exact ⟨j + 1, by omega, by go_num, by rw [unhide Hp2], by rw [unhide Hq2], HIq⟩
                      case measure => omega
                  · have e1 : (fz == (cf : Int)) = true := by rw [hFc]; exact beq_self_eq_true _
                    have e2 : (tz == a1) = false := beq_eq_false_iff_ne.2 hTa
                    have e3 : (tz == b1) = false := beq_eq_false_iff_ne.2 hTb
                    rw [e1, e2] at hp2
                    rw [e1, e3] at hq2
                    generalize Sp.mt q.tail F cf a1 j = pv at *
                    generalize Sp.mt q.tail F cf b1 j = qv at *
                    clear hFc hTa hTb
                    cases pv <;> cases qv <;> simp at hp2 hq2
                    all_goals
                      have Hp2 := hide hp2
                      have Hq2 := hide hq2
                      clear hp2 hq2
                      go_wp2
                      go_quiet (fail)
                      have HIq := unhide HDn _ nq HI
                      clear c1 c2 x1 HI
                      generalize wr.drewN nq = wq at *
                      go_wp2
                      go_roundg g2
                      case rel => exact ⟨j + 1, by omega, by go_num, by rw [unhide Hp2], by rw [unhide Hq2], HIq⟩
                      case measure => omega
              · have e1 : (fz == (cf : Int)) = false := beq_eq_false_iff_ne.2 hFc
                rw [e1] at hp2 hq2
                generalize Sp.mt q.tail F cf a1 j = pv at *
                generalize Sp.mt q.tail F cf b1 j = qv at *
                clear hFc
                cases pv <;> cases qv <;> simp at hp2 hq2
                all_goals
                  have Hp2 := hide hp2
                  have Hq2 := hide hq2
                  clear hp2 hq2
                  go_wp2
                  go_quiet (fail)
                  have HIq := unhide HDn _ nq HI
                  clear c1 c2 x1 HI
                  generalize wr.drewN nq = wq at *
                  go_wp2
                  go_roundg g2
                  case rel => exact ⟨j + 1, by omega, by go_num, by rw [unhide Hp2], by rw [unhide Hq2], HIq⟩
                  case measure => omega
end Go.Proofs.Ytcdpgiklmonabab


/- What a split face's halves are. -/
namespace Go.Proofs.Ytcdpgiklmonabab
open Go Go.RowKit

theorem getD_set0 (l : List Int) (i k : Nat) (v : Int) (hi : i < l.length) : (l.set i v).getD k 0 = if i = k then v else l.getD k 0 := by
  rw [List.getD_eq_getElem?_getD, List.getElem?_set, List.getD_eq_getElem?_getD]
  by_cases h : i = k
  · subst h
    rw [if_pos rfl, if_pos hi, if_pos rfl]
    rfl
  · rw [if_neg h, if_neg h]
theorem Sp.splitAt_in {x : Nat → Nat} {K f : Int} {jb : Nat} {F : List Int} {p : Nat} (hx : ∀ m, x m < F.length) (hi : ∀ m n, m < p → n < p → x m = x n → m = n) : ∀ j, j ≤ p → ∀ m, m < j → (Sp.splitAt x K f jb F j).getD (x m) 0 = if jb ≤ m then K else f
  | 0, _, m, h => by omega
  | j + 1, hj, m, h => by
    rw [Sp.splitAt, getD_set0 _ _ _ _ (by rw [Sp.splitAt_len]; exact hx j)]
    by_cases e : x j = x m
    · obtain rfl := hi j m (by omega) (by omega) e
      rw [if_pos rfl]
    · rw [if_neg e]
      refine Sp.splitAt_in hx hi j (by omega) m ?_
      rcases Nat.lt_or_ge m j with h1 | h1
      · exact h1
      · exact absurd (by rw [show m = j by omega]) e
theorem Sp.splitAt_out {x : Nat → Nat} {K f : Int} {jb : Nat} {F : List Int} (hx : ∀ m, x m < F.length) {i : Nat} : ∀ j, (∀ m, m < j → x m ≠ i) → (Sp.splitAt x K f jb F j).getD i 0 = F.getD i 0
  | 0, _ => rfl
  | j + 1, h => by
    rw [Sp.splitAt, getD_set0 _ _ _ _ (by rw [Sp.splitAt_len]; exact hx j), if_neg (h j (by omega))]
    exact Sp.splitAt_out hx j fun m hm => h m (by omega)
theorem cnt_two (p : Nat → Bool) {u v : Nat} (huv : u ≠ v) : ∀ n, (∀ i, i < n → (p i = true ↔ i = u ∨ i = v)) → Sp.cnt p n = (if u < n then 1 else 0) + (if v < n then 1 else 0)
  | 0, _ => by rw [if_neg (by omega), if_neg (by omega)]; rfl
  | n + 1, h => by
    have ih := cnt_two p huv n fun i hi => h i (by omega)
    rw [Sp.cnt_succ, ih]
    have hn := h n (by omega)
    by_cases hp : p n = true
    · rw [if_pos hp]
      have hc := hn.1 hp
      split <;> split <;> split <;> split <;> omega
    · rw [if_neg hp]
      have h1 : n ≠ u := fun e => hp (hn.2 (.inl e))
      have h2 : n ≠ v := fun e => hp (hn.2 (.inr e))
      split <;> split <;> split <;> split <;> omega
/-- The halves of a face that is split between s and t. -/
structure Sp.HalfQ (q : Sp.Net) (s t : Int) (f K : Nat) (L : List Int) : Prop where
  len : L.length = q.tail.length
  out : ∀ i, i < q.tail.length → (Sp.faces2 q).1.getD i 0 ≠ (f : Int) → L.getD i 0 = (Sp.faces2 q).1.getD i 0
  inn : ∀ i, i < q.tail.length → (Sp.faces2 q).1.getD i 0 = (f : Int) → L.getD i 0 = (f : Int) ∨ L.getD i 0 = (K : Int)
  fK : f < K
  lt : ∀ i, i < q.tail.length → (Sp.faces2 q).1.getD i 0 < (K : Int)
  has1 : ∃ i, i < q.tail.length ∧ L.getD i 0 = (f : Int)
  has2 : ∃ i, i < q.tail.length ∧ L.getD i 0 = (K : Int)
  step : ∀ d, d < q.tail.length → L.getD d 0 = L.getD (Sp.fn (Sp.behindL q.next) d) 0 ∨ (L.getD (Sp.fn (Sp.behindL q.next) d) 0 = (K : Int) ∧ q.tail.getD (Sp.fn (Sp.behindL q.next) d) 0 = t) ∨ (L.getD (Sp.fn (Sp.behindL q.next) d) 0 = (f : Int) ∧ q.tail.getD (Sp.fn (Sp.behindL q.next) d) 0 = s)
  turns : Sp.cnt (fun d => L.getD d 0 != L.getD (Sp.fn (Sp.behindL q.next) d) 0) q.tail.length = 2
theorem Sp.DualQ.halves {q : Sp.Net} (h : Sp.DualQ q) {s t : Int} {f d0 a jb : Nat} (hs : Sp.SplitQ q s t f d0 a jb) : Sp.HalfQ q s t f (max (Sp.faces2 q).2 1) (Sp.splitL q f d0 a jb) := by
  have hF := Sp.faces2_len q
  have hb := h.fp
  have hlb := h.bl
  have hdb : d0 < (Sp.behindL q.next).length := by rw [hlb]; exact hs.d0l
  have hk := h.k1
  have hK : max (Sp.faces2 q).2 1 = (Sp.faces2 q).2 := by omega
  have hxa : itf (Sp.fn (Sp.behindL q.next)) d0 a < (Sp.behindL q.next).length := hb.fnP.it hdb a
  have hper := per_along hb hdb a
  have hxl : ∀ m, itf (Sp.fn (Sp.behindL q.next)) d0 (a + m) < q.tail.length := fun m => by have := hb.fnP.it hdb (a + m); rw [hlb] at this; exact this
  have hxF : ∀ m, itf (Sp.fn (Sp.behindL q.next)) d0 (a + m) < (Sp.faces2 q).1.length := fun m => by rw [hF]; exact hxl m
  have hfa : ∀ m, (Sp.faces2 q).1.getD (itf (Sp.fn (Sp.behindL q.next)) d0 (a + m)) 0 = (f : Int) := fun m => by rw [Sp.faces_along h.link hs.d0l, hs.d0f]
  have hinj : ∀ m n, m < Sp.per (Sp.behindL q.next) d0 → n < Sp.per (Sp.behindL q.next) d0 → itf (Sp.fn (Sp.behindL q.next)) d0 (a + m) = itf (Sp.fn (Sp.behindL q.next)) d0 (a + n) → m = n := fun m n hm hn e => by
    rw [itf_add, itf_add] at e
    rcases Nat.lt_trichotomy m n with h1 | h1 | h1
    · exact absurd e (itf_apart hb hxa h1 (by rw [hper]; exact hn))
    · exact h1
    · exact absurd e.symm (itf_apart hb hxa h1 (by rw [hper]; exact hm))
  have hcov : ∀ i, i < q.tail.length → (Sp.faces2 q).1.getD i 0 = (f : Int) → ∃ m, m < Sp.per (Sp.behindL q.next) d0 ∧ itf (Sp.fn (Sp.behindL q.next)) d0 (a + m) = i := fun i hi e => by
    obtain ⟨m, h1, h2⟩ := Sp.faces_orb h.link (d := itf (Sp.fn (Sp.behindL q.next)) d0 a) (by rw [← hlb]; exact hxa) hi (by rw [e, ← hfa 0, Nat.add_zero])
    rw [hper] at h1
    exact ⟨m, h1, by rw [itf_add]; exact h2⟩
  have hin : ∀ m, m < Sp.per (Sp.behindL q.next) d0 → (Sp.splitL q f d0 a jb).getD (itf (Sp.fn (Sp.behindL q.next)) d0 (a + m)) 0 = if jb ≤ m then ((max (Sp.faces2 q).2 1 : Nat) : Int) else (f : Int) := fun m hm =>
    Sp.splitAt_in (x := fun j => itf (Sp.fn (Sp.behindL q.next)) d0 (a + j)) hxF hinj _ (Nat.le_refl _) m hm
  have hout : ∀ i, i < q.tail.length → (Sp.faces2 q).1.getD i 0 ≠ (f : Int) → (Sp.splitL q f d0 a jb).getD i 0 = (Sp.faces2 q).1.getD i 0 := fun i hi e =>
    Sp.splitAt_out (x := fun j => itf (Sp.fn (Sp.behindL q.next)) d0 (a + j)) hxF _ fun m _ e2 => e (by rw [← e2]; exact hfa m)
  have hper0 : itf (Sp.fn (Sp.behindL q.next)) d0 (a + Sp.per (Sp.behindL q.next) d0) = itf (Sp.fn (Sp.behindL q.next)) d0 (a + 0) := by
    have := itf_mod hb hdb (a + Sp.per (Sp.behindL q.next) d0)
    rw [← this, Nat.add_mod_right, itf_mod hb hdb, Nat.add_zero]
  have hfn : ∀ m, Sp.fn (Sp.behindL q.next) (itf (Sp.fn (Sp.behindL q.next)) d0 (a + m)) = itf (Sp.fn (Sp.behindL q.next)) d0 (a + (m + 1)) := fun m => rfl
  have hlF : ∀ i, i < q.tail.length → (Sp.faces2 q).1.getD i 0 < ((max (Sp.faces2 q).2 1 : Nat) : Int) := fun i hi => by rw [hK]; exact (h.fb hi).2
  have hfK : f < max (Sp.faces2 q).2 1 := by have := hlF d0 hs.d0l; rw [hs.d0f] at this; omega
  have b0 := hs.b0
  have bl := hs.bl
  have hdiff : ∀ d, d < q.tail.length → ((Sp.splitL q f d0 a jb).getD d 0 = (Sp.splitL q f d0 a jb).getD (Sp.fn (Sp.behindL q.next) d) 0 ∧ d ≠ itf (Sp.fn (Sp.behindL q.next)) d0 (a + (jb - 1)) ∧ d ≠ itf (Sp.fn (Sp.behindL q.next)) d0 (a + (Sp.per (Sp.behindL q.next) d0 - 1))) ∨ (d = itf (Sp.fn (Sp.behindL q.next)) d0 (a + (jb - 1)) ∧ (Sp.splitL q f d0 a jb).getD d 0 = (f : Int) ∧ (Sp.splitL q f d0 a jb).getD (Sp.fn (Sp.behindL q.next) d) 0 = ((max (Sp.faces2 q).2 1 : Nat) : Int) ∧ q.tail.getD (Sp.fn (Sp.behindL q.next) d) 0 = t) ∨ (d = itf (Sp.fn (Sp.behindL q.next)) d0 (a + (Sp.per (Sp.behindL q.next) d0 - 1)) ∧ (Sp.splitL q f d0 a jb).getD d 0 = ((max (Sp.faces2 q).2 1 : Nat) : Int) ∧ (Sp.splitL q f d0 a jb).getD (Sp.fn (Sp.behindL q.next) d) 0 = (f : Int) ∧ q.tail.getD (Sp.fn (Sp.behindL q.next) d) 0 = s) := by
    intro d hd
    by_cases e : (Sp.faces2 q).1.getD d 0 = (f : Int)
    · obtain ⟨m, hm, rfl⟩ := hcov d hd e
      rw [hfn]
      by_cases h1 : m + 1 = Sp.per (Sp.behindL q.next) d0
      · refine .inr (.inr ⟨by rw [show m = Sp.per (Sp.behindL q.next) d0 - 1 by omega], ?_, ?_, ?_⟩)
        · rw [hin m hm, if_pos (by omega)]
        · rw [h1, hper0, hin 0 (by omega), if_neg (by omega)]
        · rw [h1, hper0, Nat.add_zero]; exact hs.at_
      · by_cases h2 : m + 1 = jb
        · refine .inr (.inl ⟨by rw [show m = jb - 1 by omega], ?_, ?_, ?_⟩)
          · rw [hin m hm, if_neg (by omega)]
          · rw [h2, hin jb bl, if_pos (by omega)]
          · rw [h2]; exact hs.bt
        · refine .inl ⟨?_, fun e2 => ?_, fun e2 => ?_⟩
          · rw [hin m hm, hin (m + 1) (by omega)]
            by_cases h3 : jb ≤ m
            · rw [if_pos h3, if_pos (by omega)]
            · rw [if_neg h3, if_neg (by omega)]
          · have := hinj m (jb - 1) hm (by omega) e2; omega
          · have := hinj m _ hm (by omega) e2; omega
    · have he : (Sp.faces2 q).1.getD (Sp.fn (Sp.behindL q.next) d) 0 = (Sp.faces2 q).1.getD d 0 := Sp.faces_along h.link hd 1
      refine .inl ⟨?_, fun e2 => e (by rw [e2]; exact hfa _), fun e2 => e (by rw [e2]; exact hfa _)⟩
      rw [hout d hd e, hout _ (h.mp d hd) (by rw [he]; exact e), he]
  refine ⟨?_, hout, fun i hi e => ?_, hfK, hlF, ⟨_, hxl 0, by rw [hin 0 (by omega), if_neg (by omega)]⟩, ⟨_, hxl jb, by rw [hin jb bl, if_pos (by omega)]⟩, fun d hd => ?_, ?_⟩
  · unfold Sp.splitL
    rw [Sp.splitAt_len, hF]
  · obtain ⟨m, hm, rfl⟩ := hcov i hi e
    rw [hin m hm]
    by_cases h3 : jb ≤ m
    · rw [if_pos h3]; exact .inr rfl
    · rw [if_neg h3]; exact .inl rfl
  · rcases hdiff d hd with e | e | e
    · exact .inl e.1
    · exact .inr (.inl e.2.2)
    · exact .inr (.inr e.2.2)
  · have hne : itf (Sp.fn (Sp.behindL q.next)) d0 (a + (jb - 1)) ≠ itf (Sp.fn (Sp.behindL q.next)) d0 (a + (Sp.per (Sp.behindL q.next) d0 - 1)) := fun e => by
      have := hinj (jb - 1) _ (by omega) (by omega) e
      omega
    rw [cnt_two _ hne q.tail.length fun i hi => ?_, if_pos (hxl _), if_pos (hxl _)]
    rcases hdiff i hi with e | e | e
    · rw [bne_iff_ne]
      refine ⟨fun h1 => absurd e.1 h1, fun h1 => ?_⟩
      rcases h1 with h1 | h1
      · exact absurd h1 e.2.1
      · exact absurd h1 e.2.2
    · rw [bne_iff_ne, e.2.1, e.2.2.1]
      exact ⟨fun _ => .inl e.1, fun _ h2 => by omega⟩
    · rw [bne_iff_ne, e.2.1, e.2.2.1]
      exact ⟨fun _ => .inr e.1, fun _ h2 => by omega⟩
end Go.Proofs.Ytcdpgiklmonabab


