/- What the proof needs, part 16. -/
import Derived.Test.YtenffkplneimlaaL15
/- The law RotOwn, walked. -/
namespace Go.Proofs.Ytenffkplneimlaa
open Go Go.RowKit

theorem Open'.below {w w' : World} {B g o n : Nat} (h : Open' w g o n) (hb : Below B w w') (hg : g < B) : Open' w' g o n := fun j hj => by
  obtain ⟨v, h1, h2⟩ := h j hj
  exact ⟨v, (hb.cell (by exact hg)).trans h1, (hb.frozen (by exact hg)).trans h2⟩
/-- The net that was turned, on the way: what stays. -/
structure MAt (X bm ln g1 g2 g3 : Nat) (W6 wr : World) (o : Obj) : Prop where
  bel : Below X W6 wr
  box : wr.heap[bm]? = some o
  o1 : Open' wr g1 0 ln
  o2 : Open' wr g2 0 ln
  o3 : Open' wr g3 0 ln
theorem MAt.drew {X bm ln g1 g2 g3 : Nat} {W6 wr : World} {o : Obj} (h : MAt X bm ln g1 g2 g3 W6 wr o) : MAt X bm ln g1 g2 g3 W6 wr.drew o := ⟨h.bel.drew, h.box, h.o1, h.o2, h.o3⟩
end Go.Proofs.Ytenffkplneimlaa


/- The law TreeOwn, walked. -/
namespace Go.Proofs.Ytenffkplneimlaa
open Go Go.RowKit

set_option maxRecDepth 100000 in
set_option maxHeartbeats 4000000 in
theorem treeOwn_any (ns : List Int) (x : Value) (root v : Int) (w : World) (hx : Ints w x ns) :
    Calls Try.prog 7 #[x, .int .i64 root, .int .i64 v] w fun e w' => e = .returned (.bool true) ∧ Below w.heap.size w w' := by
  obtain ⟨a, c, rfl, hc, hm⟩ := hx.form
  have HPL := hide (fun w' (hb : Below w.heap.size w w') => plane_any ns (.slice a ns.length c) w' (hx.below hb))
  have HOK := hide (Sp.plane_ok ns)
  have HTQ := hide (Sp.treeQ_plane ns)
  generalize Sp.plane ns = q at *
  generalize ns.length = n at *
  clear hx
  have hl48 : q.tail.length ≤ 48 := (unhide HOK).le
  obtain ⟨ln, hln⟩ : ∃ ln, q.tail.length = ln := ⟨_, rfl⟩
  rw [hln] at hl48
  have hnl : q.next.length = ln := by rw [(unhide HOK).nx, hln]
  have hcl : q.cap.length = ln := by rw [(unhide HOK).cp, hln]
  have hn0 : 1 ≤ q.n := (unhide HOK).n0
  have hn1 : q.n ≤ 100 := by have := (unhide HOK).n1; omega
  obtain ⟨P, hP⟩ : ∃ P : Ending → World → Prop, P = fun e w' => e = .returned (.bool true) ∧ Below w.heap.size w w' := ⟨_, rfl⟩
  rw [← hP]
  have HP := hide hP
  clear hP
  have Hln := hide hln
  have Hnl := hide hnl
  have Hcl := hide hcl
  clear hln hnl hcl
  go_enter Try.func7, Try.ntmps7
  go_wp2_with fail
  go_at_call 9
  refine (known4_any w).mono ?_
  rintro e w2 ⟨rfl, hb2⟩
  have Hb2 := hide hb2
  clear hb2
  go_wp2_with fail
  go_at_call 10
  refine (unhide HPL _ (unhide Hb2)).mono ?_
  rintro e w3 ⟨nvv, tv, nv, cv, rfl, hnv, hb3⟩
  have hval := hnv.val
  subst hval
  have Hb3 := hide ((unhide Hb2).trans (hb3.mono (unhide Hb2).size))
  obtain ⟨ta, tc, htv, -, -⟩ := hnv.netI.tail.form
  obtain ⟨na, nc, hnv', -, -⟩ := hnv.netI.next.form
  obtain ⟨ca, cc, hcv, -, -⟩ := hnv.netI.cap.form
  rw [unhide Hln] at htv
  rw [unhide Hnl] at hnv'
  rw [unhide Hcl] at hcv
  subst htv hnv' hcv
  have HN3 := hide hnv.netI
  clear hnv hb3 Hb2
  go_wp2_with fail
  go_at_call 10
  refine (unhide HPL _ (unhide Hb3)).mono ?_
  clear HPL
  rintro e w4 ⟨nvv, tv, nv, cv, rfl, hnv, hb4⟩
  have hval := hnv.val
  subst hval
  obtain ⟨ta2, tc2, htv, -, -⟩ := hnv.netI.tail.form
  obtain ⟨na2, nc2, hnv', -, -⟩ := hnv.netI.next.form
  obtain ⟨ca2, cc2, hcv, -, -⟩ := hnv.netI.cap.form
  rw [unhide Hln] at htv
  rw [unhide Hnl] at hnv'
  rw [unhide Hcl] at hcv
  subst htv hnv' hcv
  obtain ⟨W6, hW6⟩ : ∃ W6, W6 = (w4.alloc (.cells #[.int .i64 q.n, .slice ta ln tc, .slice na ln nc, .slice ca ln cc] 25)).alloc (.cells #[.int .i64 q.n, .slice ta2 ln tc2, .slice na2 ln nc2, .slice ca2 ln cc2] 25) := ⟨_, rfl⟩
  obtain ⟨hBX, hs6, hTR⟩ := boxes2 ((unhide Hb3).trans (hb4.mono (unhide Hb3).size)) (⟨rfl, (unhide HN3).tail.below hb4, (unhide HN3).next.below hb4, (unhide HN3).cap.below hb4⟩ : NetI w4 (.agg #[.int .i64 q.n, .slice ta ln tc, .slice na ln nc, .slice ca ln cc]) q (.slice ta ln tc) (.slice na ln nc) (.slice ca ln cc)) hnv.netI W6 hW6
  have HBX := hide hBX
  have HTR := hide hTR
  have Hs6 := hide hs6
  have HW6 := hide hW6
  clear hnv hb4 Hb3 HN3 hBX hTR hs6 hW6
  have hb6 : Below (w4.heap.size + 2) W6 W6 := Below.refl _ _
  have hln : q.tail.length = ln := unhide Hln
  obtain ⟨N, hN⟩ : ∃ N : Nat, q.n = (N : Int) := ⟨q.n.toNat, by omega⟩
  have hN60 : N ≤ 60 := by have := (unhide HTQ).n1; omega
  have hN1 : 1 ≤ N := by omega
  have HNN := hide hN
  have HTn : Hid (∀ x ∈ q.tail, 0 ≤ x ∧ x < (N : Int)) := hide fun x hx => by have := (unhide HTQ).tb x hx; omega
  have HIs : Hid (∀ (l : List Int) w' v u, l.length ≤ 1000001 → Ints w' v l → Ints w' u l → Calls Try.prog 13 #[v, u] w' fun e w'' => e = .returned (.bool true) ∧ Below w'.heap.size w' w'') := hide fun l w' v u hl h1 h2 => by
    refine (rInts_any l l v u w' h1 h2 hl hl).mono fun e w'' ⟨a1, a2⟩ => ⟨?_, a2⟩
    rw [a1, decide_eq_true rfl]
  have HSm : Hid (∀ w', Below (w4.heap.size + 2) W6 w' → Calls Try.prog 24 #[.agg #[.int .i64 q.n, .slice ta ln tc, .slice na ln nc, .slice ca ln cc], .agg #[.int .i64 q.n, .slice ta2 ln tc2, .slice na2 ln nc2, .slice ca2 ln cc2]] w' fun e w'' => e = .returned (.bool true) ∧ Below w'.heap.size w' w'') := by
    refine hide fun w' hb => ?_
    have hnx := unhide Hnl
    have hcp := unhide Hcl
    have htl := unhide Hln
    refine (same_any q q _ _ _ _ _ _ _ _ w' (unhide HBX w' hb).2.2.1 (unhide HBX w' hb).2.2.2.1 ⟨by omega, by omega, by omega⟩ ⟨by omega, by omega, by omega⟩).mono fun e w'' ⟨a1, a2⟩ => ⟨?_, a2⟩
    rw [a1, netEq_refl]
  have hnI : (0 : Int) < q.n := by omega
  have HWr := hide (fun w' => within4_any root q.n w' (by omega) (by omega))
  obtain ⟨r, hr⟩ : ∃ r : Nat, root % q.n = (r : Int) := ⟨(root % q.n).toNat, by have := Int.emod_nonneg root (show q.n ≠ 0 by omega); omega⟩
  have hrN : r < N := by have := Int.emod_lt_of_pos root hnI; omega
  rw [hr] at HWr
  have HWx := hide (fun w' => within4_any v q.n w' (by omega) (by omega))
  obtain ⟨x, hx⟩ : ∃ x : Nat, v % q.n = (x : Int) := ⟨(v % q.n).toNat, by have := Int.emod_nonneg v (show q.n ≠ 0 by omega); omega⟩
  have hxN : x < N := by have := Int.emod_lt_of_pos v hnI; omega
  rw [hx] at HWx
  clear hr hx hnI
  have HU0 := hide ((unhide HTQ).span (unhide HNN) hrN)
  have HUF := hide ((unhide HTQ).spanF (unhide HNN) hrN)
  obtain ⟨R, hR⟩ := Sp.way_ends (unhide HNN) (unhide HTn) (unhide HU0) hxN
  have HR := hide hR
  have hRl : R.length ≤ 100 := by have := Sp.way_le hR; omega
  have HUl : Hid ((Sp.span q (r : Int)).length = N) := hide (unhide HUF).row.len
  have HLl : Hid ((Sp.leftL q (Sp.span q (r : Int))).length + (N - 1) = q.tail.length / 2) := hide ((unhide HUF).row.left (unhide HTQ).ev)
  have hLl : (Sp.leftL q (Sp.span q (r : Int))).length ≤ 100 := by have := unhide HLl; omega
  have HSp : Hid (∀ w', Below (w4.heap.size + 2) W6 w' → Calls Try.prog 12 #[.agg #[.int .i64 q.n, .slice ta ln tc, .slice na ln nc, .slice ca ln cc], .int .i64 (r : Int)] w' fun e w'' => ∃ lv, e = .returned lv ∧ Ints w'' lv (Sp.span q (r : Int)) ∧ Below w'.heap.size w' w'') := hide fun w' hb =>
    (span_any q r N _ _ _ _ w' (unhide HBX w' hb).2.2.1 (unhide HTQ).ev (by omega) (unhide HNN) hN60 (unhide HTQ).nE hrN (unhide HTn)).mono fun e w'' ⟨lv, a1, a2, a3⟩ => ⟨lv, a1, OwnI.ints a2, a3⟩
  have HSr : Hid (∀ w', Below (w4.heap.size + 2) W6 w' → Calls Try.prog 14 #[.agg #[.int .i64 q.n, .slice ta2 ln tc2, .slice na2 ln nc2, .slice ca2 ln cc2], .int .i64 (r : Int)] w' fun e w'' => ∃ lv, e = .returned lv ∧ Ints w'' lv (Sp.span q (r : Int)) ∧ Below w'.heap.size w' w'') := hide fun w' hb =>
    (span2_any q r N _ _ _ _ w' (unhide HBX w' hb).2.2.2.1 (unhide HTQ).ev (by omega) (unhide HNN) (by omega) hrN (unhide HTn)).mono fun e w'' ⟨lv, a1, a2, a3⟩ => ⟨lv, a1, OwnI.ints a2, a3⟩
  have HLp : Hid (∀ w' uv, Below (w4.heap.size + 2) W6 w' → Ints w' uv (Sp.span q (r : Int)) → Calls Try.prog 16 #[.agg #[.int .i64 q.n, .slice ta ln tc, .slice na ln nc, .slice ca ln cc], uv] w' fun e w'' => ∃ la lc, e = .returned (.slice la (Sp.leftL q (Sp.span q (r : Int))).length lc) ∧ Hid (0 < (Sp.leftL q (Sp.span q (r : Int))).length → ∃ g, la = some ⟨g, 0, none⟩ ∧ w'.heap.size ≤ g ∧ g < w''.heap.size ∧ Open' w'' g 0 (Sp.leftL q (Sp.span q (r : Int))).length) ∧ Below w'.heap.size w' w'') := hide fun w' uv hb hu => by
    refine (left_any q _ r N _ _ _ _ uv w' (unhide HBX w' hb).2.2.1 hu (unhide HTQ).ev (by omega) (unhide HNN) hN60 (unhide HTQ).nE (unhide HTQ).tb (unhide HU0)).mono fun e w'' ⟨lv, a1, a2, a3⟩ => ?_
    obtain ⟨la, lc, hlv, -, -⟩ := (OwnI.ints a2).form
    subst hlv
    refine ⟨la, lc, a1, hide fun h0 => ?_, a3⟩
    obtain ⟨g, c, e1, e2, e3, -, -⟩ := own_form a2 h0
    injection e1 with e1 _ e4
    subst e1 e4
    exact ⟨g, rfl, e2, e3, own_open a2⟩
  have HWp : Hid (∀ w' uv, Below (w4.heap.size + 2) W6 w' → Ints w' uv (Sp.span q (r : Int)) → Calls Try.prog 18 #[.agg #[.int .i64 q.n, .slice ta ln tc, .slice na ln nc, .slice ca ln cc], uv, .int .i64 (x : Int)] w' fun e w'' => ∃ la lc, e = .returned (.slice la R.length lc) ∧ Hid (0 < R.length → ∃ g, la = some ⟨g, 0, none⟩ ∧ w'.heap.size ≤ g ∧ g < w''.heap.size ∧ Open' w'' g 0 R.length) ∧ Below w'.heap.size w' w'') := hide fun w' uv hb hu => by
    refine (way_any q _ r N x (N + 1) R _ _ _ _ uv w' (unhide HBX w' hb).2.2.1 hu (unhide HTQ).ev (by omega) (unhide HNN) hN60 (unhide HTQ).nE (unhide HTQ).tb (unhide HU0) hxN (by omega) (unhide HR)).mono fun e w'' ⟨lv, a1, a2, a3⟩ => ?_
    obtain ⟨la, lc, hlv, -, -⟩ := (OwnI.ints a2).form
    subst hlv
    refine ⟨la, lc, a1, hide fun h0 => ?_, a3⟩
    obtain ⟨g, c, e1, e2, e3, -, -⟩ := own_form a2 h0
    injection e1 with e1 _ e4
    subst e1 e4
    exact ⟨g, rfl, e2, e3, own_open a2⟩
  obtain ⟨m, hm⟩ : ∃ m, (Sp.leftL q (Sp.span q (r : Int))).length = m := ⟨_, rfl⟩
  obtain ⟨p, hp⟩ : ∃ p, R.length = p := ⟨_, rfl⟩
  rw [hm] at HLp hLl
  rw [hp] at HWp hRl
  clear hm hp hR hN hln HU0 HUF HLl HR
  obtain ⟨x0, x1, x2, x3⟩ := (unhide HBX W6 hb6).1
  go_wp2_with fail
  rw [← unhide HW6]
  go_at_call 11
  refine (unhide HWr _).mono ?_
  rintro e w5 ⟨rfl, h5⟩
  have h5' := h5.symm
  subst h5'
  clear h5
  go_wp2_with fail
  go_at_call 12
  refine (unhide HSp W6 hb6).mono ?_
  rintro e w7 ⟨uv, rfl, hU7, hl7⟩
  have hb7 := unhide HTR _ _ hb6 hl7
  obtain ⟨ua, uc, huv, -, -⟩ := hU7.form
  rw [unhide HUl] at huv
  subst huv
  clear x0 x1 x2 x3 hl7 hb6
  go_wp2_with (at_builtin; refine wpList_app (w := w7.alloc (.cells #[] 3)) rfl _ _ rfl w7.heap.size _ _ [] (Sp.span q (r : Int)) rfl rfl (own_lit w7 _ _ 0 [] rfl rfl (Nat.le_refl _) (by simp)) (hU7.below ((Below.refl _ w7).alloc (Nat.le_refl _) _)) N (by rw [unhide HUl]; simp) (by omega) (by simp) ?_)
  rintro ka kc w8 hk8 hg8 -
  have hl8 : Below w7.heap.size w7 w8 := ((Below.refl _ w7).alloc (Nat.le_refl _) _).trans hg8
  have hb8 := unhide HTR _ _ hb7 hl8
  have HU8 := hide (hU7.below hl8)
  have HK8 : Hid (Ints w8 (.slice ka N kc) (Sp.span q (r : Int))) := hide (OwnI.ints hk8)
  clear hk8 hg8 hl8 hb7 hU7
  have HB8 : Hid (∀ w', Below w8.heap.size w8 w' → Below (w4.heap.size + 2) W6 w') := hide fun w' hb => unhide HTR _ _ hb8 hb
  obtain ⟨x0, x1, x2, x3⟩ := (unhide HBX w8 hb8).1
  go_upto_region 7 with fail
  clear x0 x1 x2 x3
  go_cut [12, 13] (fun s12 s13 wx => ∃ la lc wa wc, s12 = .slice la m lc ∧ s13 = .slice wa p wc ∧ Hid (Below w8.heap.size w8 wx ∧ (0 < m → ∃ g, la = some ⟨g, 0, none⟩ ∧ w8.heap.size ≤ g ∧ Open' wx g 0 m) ∧ (0 < p → ∃ g, wa = some ⟨g, 0, none⟩ ∧ w8.heap.size ≤ g ∧ Open' wx g 0 p)))
  case first =>
    have hbq := hb8.drew
    have hUq := (unhide HU8).below (Below.refl _ w8).drew
    have h8q : Below w8.heap.size w8 w8.drew := (Below.refl _ w8).drew
    refine wp_region_G (fun w' => (w'.cell? ⟨w4.heap.size, 0, none⟩ = some (.int .i64 q.n) ∧ w'.cell? ⟨w4.heap.size, 1, none⟩ = some (.slice ta ln tc) ∧ w'.cell? ⟨w4.heap.size, 2, none⟩ = some (.slice na ln nc) ∧ w'.cell? ⟨w4.heap.size, 3, none⟩ = some (.slice ca ln cc))) (fun _ => false) (by kernel_rfl) (unhide HBX _ hbq).1 (fun hHeld => ?_)
    generalize w8.drew = wq at *
    refine wpAnyG_take (v := ?_) 0 (by rfl) (by kernel_rfl) (by kernel_rfl) (by kernel_rfl) (by kernel_rfl) (fun _ _ _ h => h) (Or.inl ⟨by rfl, ?_⟩) (by assumption) ?_
    rotate_left
    · (intro w' hSw; (try dsimp only at hSw); (try simp only [List.getElem_toArray, List.getElem_cons_zero]); go_simp; try (with_reducible rfl))
    simp only [Act.put, List.getElem_toArray, List.getElem_cons_zero, List.setIfInBounds_toArray, List.set_cons_zero, List.set_cons_succ]
    refine wpAnyG_take (v := ?_) 1 (by rfl) (by kernel_rfl) (by kernel_rfl) (by kernel_rfl) (by kernel_rfl) (fun _ _ _ h => h) (Or.inl ⟨by rfl, ?_⟩) (by assumption) ?_
    rotate_left
    · (intro w' hSw; (try dsimp only at hSw); (try simp only [List.getElem_toArray, List.getElem_cons_succ, List.getElem_cons_zero]); go_simp; try (with_reducible rfl))
    simp only [Act.put, List.getElem_toArray, List.getElem_cons_succ, List.getElem_cons_zero, List.setIfInBounds_toArray, List.set_cons_zero, List.set_cons_succ]
    refine wpAnyG_take (v := ?_) 3 (by rfl) (by kernel_rfl) (by kernel_rfl) (by kernel_rfl) (by kernel_rfl) (fun _ _ _ h => h) (Or.inl ⟨by rfl, ?_⟩) (by assumption) ?_
    rotate_left
    · (intro w' hSw; (try dsimp only at hSw); (try simp only [List.getElem_toArray, List.getElem_cons_succ, List.getElem_cons_zero]); go_simp; try (with_reducible rfl))
    simp only [Act.put, List.getElem_toArray, List.getElem_cons_succ, List.getElem_cons_zero, List.setIfInBounds_toArray, List.set_cons_zero, List.set_cons_succ]
    refine wpAnyG_take (v := ?_) 4 (by rfl) (by kernel_rfl) (by kernel_rfl) (by kernel_rfl) (by kernel_rfl) (fun _ _ _ h => h) (Or.inl ⟨by rfl, ?_⟩) (by assumption) ?_
    rotate_left
    · (intro w' hSw; (try dsimp only at hSw); (try simp only [List.getElem_toArray, List.getElem_cons_succ, List.getElem_cons_zero]); go_simp; try (with_reducible rfl))
    simp only [Act.put, List.getElem_toArray, List.getElem_cons_succ, List.getElem_cons_zero, List.setIfInBounds_toArray, List.set_cons_zero, List.set_cons_succ]
    refine wpAnyG_take (v := ?_) 5 (by rfl) (by kernel_rfl) (by kernel_rfl) (by kernel_rfl) (by kernel_rfl) (fun _ _ _ h => h) (Or.inl ⟨by rfl, ?_⟩) (by assumption) ?_
    rotate_left
    · (intro w' hSw; (try dsimp only at hSw); (try simp only [List.getElem_toArray, List.getElem_cons_succ, List.getElem_cons_zero]); go_simp; try (with_reducible rfl))
    simp only [Act.put, List.getElem_toArray, List.getElem_cons_succ, List.getElem_cons_zero, List.setIfInBounds_toArray, List.set_cons_zero, List.set_cons_succ]
    refine wpAnyG_take (v := ?_) 6 (by rfl) (by kernel_rfl) (by kernel_rfl) (by kernel_rfl) (by kernel_rfl) (fun _ _ _ h => h) (Or.inl ⟨by rfl, ?_⟩) (by assumption) ?_
    rotate_left
    · (intro w' hSw; (try dsimp only at hSw); (try simp only [List.getElem_toArray, List.getElem_cons_succ, List.getElem_cons_zero]); go_simp; try (with_reducible rfl))
    simp only [Act.put, List.getElem_toArray, List.getElem_cons_succ, List.getElem_cons_zero, List.setIfInBounds_toArray, List.set_cons_zero, List.set_cons_succ]
    refine wpAnyG_take (v := ?_) 7 (by rfl) (by kernel_rfl) (by kernel_rfl) (by kernel_rfl) (by kernel_rfl) (fun _ _ _ h => h) (Or.inl ⟨by rfl, ?_⟩) (by assumption) ?_
    rotate_left
    · (intro w' hSw; (try dsimp only at hSw); (try simp only [List.getElem_toArray, List.getElem_cons_succ, List.getElem_cons_zero]); go_simp; try (with_reducible rfl))
    simp only [Act.put, List.getElem_toArray, List.getElem_cons_succ, List.getElem_cons_zero, List.setIfInBounds_toArray, List.set_cons_zero, List.set_cons_succ]
    refine wpAnyG_ready [2] (by kernel_rfl) (by simp) ?_
    refine AllReadyG.cons 2 (by rfl) (fun K hK => ?_) ?_
    · simp only [List.getElem_toArray, List.getElem_cons_succ, List.getElem_cons_zero]
      go_simp
      go_at_call 16
      refine (unhide HLp _ _ hbq hUq).mono ?_
      rintro e wc1 ⟨la, lc, rfl, HL1, hlc1⟩
      have hbc1 := unhide HTR _ _ hbq hlc1
      have hUc1 := hUq.below hlc1
      have h8c1 := h8q.trans (hlc1.mono h8q.size)
      refine hK.out _ _ (unhide HBX _ hbc1).1 (fun _ => ?_)
      clear hK K
      try simp only [Act.put, List.setIfInBounds_toArray, List.set_cons_zero, List.set_cons_succ]
      refine wpAnyG_ready [8] (by kernel_rfl) (by simp) ?_
      refine AllReadyG.cons 8 (by rfl) (fun K hK => ?_) ?_
      · simp only [List.getElem_toArray, List.getElem_cons_succ, List.getElem_cons_zero]
        go_simp
        go_at_call 11
        refine (unhide HWx _).mono ?_
        rintro e wc1 ⟨rfl, hlc1⟩
        have hlc1' := hlc1.symm
        clear hlc1
        subst hlc1'
        refine hK.out _ _ (unhide HBX _ hbc1).1 (fun _ => ?_)
        clear hK K
        try simp only [Act.put, List.setIfInBounds_toArray, List.set_cons_zero, List.set_cons_succ]
        refine wpAnyG_ready [9] (by kernel_rfl) (by simp) ?_
        refine AllReadyG.cons 9 (by rfl) (fun K hK => ?_) ?_
        · simp only [List.getElem_toArray, List.getElem_cons_succ, List.getElem_cons_zero]
          go_simp
          go_at_call 18
          refine (unhide HWp _ _ hbc1 hUc1).mono ?_
          rintro e wc2 ⟨wa, wvc, rfl, HL2, hlc2⟩
          have hbc2 := unhide HTR _ _ hbc1 hlc2
          have h8c2 := h8c1.trans (hlc2.mono h8c1.size)
          refine hK.out _ _ (unhide HBX _ hbc2).1 (fun _ => ?_)
          clear hK K
          try simp only [Act.put, List.setIfInBounds_toArray, List.set_cons_zero, List.set_cons_succ]
          refine wpAnyG_take (v := ?_) 10 (by rfl) (by kernel_rfl) (by kernel_rfl) (by kernel_rfl) (by kernel_rfl) (fun _ _ _ h => h) (Or.inl ⟨by rfl, ?_⟩) (by assumption) ?_
          rotate_left
          · (intro w' hSw; (try dsimp only at hSw); (try simp only [List.getElem_toArray, List.getElem_cons_succ, List.getElem_cons_zero]); go_simp; try (with_reducible rfl))
          simp only [Act.put, List.getElem_toArray, List.getElem_cons_succ, List.getElem_cons_zero, List.setIfInBounds_toArray, List.set_cons_zero, List.set_cons_succ]
          refine wpAnyG_take (v := ?_) 11 (by rfl) (by kernel_rfl) (by kernel_rfl) (by kernel_rfl) (by kernel_rfl) (fun _ _ _ h => h) (Or.inl ⟨by rfl, ?_⟩) (by assumption) ?_
          rotate_left
          · (intro w' hSw; (try dsimp only at hSw); (try simp only [List.getElem_toArray, List.getElem_cons_succ, List.getElem_cons_zero]); go_simp; try (with_reducible rfl))
          simp only [Act.put, List.getElem_toArray, List.getElem_cons_succ, List.getElem_cons_zero, List.setIfInBounds_toArray, List.set_cons_zero, List.set_cons_succ]
          refine wpAnyG_done (by kernel_rfl) ?_ _
          refine NoPanic.normal ?_
          go_wp2
          go_meet
          refine ⟨_, _, _, _, rfl, rfl, hide ⟨h8c2, fun h0 => ?_, fun h0 => ?_⟩⟩
          · obtain ⟨g, e1, e2, e3, e4⟩ := unhide HL1 h0
            exact ⟨g, e1, Nat.le_trans h8q.size e2, e4.below hlc2 e3⟩
          · obtain ⟨g, e1, e2, e3, e4⟩ := unhide HL2 h0
            exact ⟨g, e1, Nat.le_trans h8c1.size e2, e4⟩
        exact AllReadyG.nil
      exact AllReadyG.nil
    exact AllReadyG.nil
  case rest =>
    obtain ⟨wP, rfl⟩ : ∃ wP, wP = wc := ⟨_, rfl⟩
    obtain ⟨la, lc, wa, wvc, rfl, rfl, HO⟩ := hcut
    have HLg : Hid (0 < m → ∃ g, la = some ⟨g, 0, none⟩ ∧ w8.heap.size ≤ g) := hide fun h0 => by
      obtain ⟨g, e1, e2, -⟩ := (unhide HO).2.1 h0
      exact ⟨g, e1, e2⟩
    have HWg : Hid (0 < p → ∃ g, wa = some ⟨g, 0, none⟩ ∧ w8.heap.size ≤ g) := hide fun h0 => by
      obtain ⟨g, e1, e2, -⟩ := (unhide HO).2.2 h0
      exact ⟨g, e1, e2⟩
    have HO0 : Hid (Below w8.heap.size w8 wP ∧ (∀ g, la = some ⟨g, 0, none⟩ → 0 < m → Open' wP g 0 m) ∧ (∀ g, wa = some ⟨g, 0, none⟩ → 0 < p → Open' wP g 0 p)) := hide ⟨(unhide HO).1, fun g e h0 => by
      obtain ⟨g', e1, -, e3⟩ := (unhide HO).2.1 h0
      rw [e] at e1
      injection e1 with e1
      injection e1 with e1 _
      subst e1
      exact e3, fun g e h0 => by
      obtain ⟨g', e1, -, e3⟩ := (unhide HO).2.2 h0
      rw [e] at e1
      injection e1 with e1
      injection e1 with e1 _
      subst e1
      exact e3⟩
    clear HO hb8
    go_wp2
    go_loopg [14] m (fun g s14 wr => ∃ i : Nat, i + g = m ∧ s14 = .int .i64 (i : Int) ∧ Hid (Below w8.heap.size w8 wr ∧ (∀ g, la = some ⟨g, 0, none⟩ → 0 < m → Open' wr g 0 m) ∧ (∀ g, wa = some ⟨g, 0, none⟩ → 0 < p → Open' wr g 0 p)))
    case atStart => exact ⟨0, by omega, rfl, HO0⟩
    case round =>
      clear HO0
      obtain ⟨i, hig, rfl, HI⟩ := hrel
      cases gk with
      | succ g' =>
        have hil : i < m := by omega
        have hiI : (i : Int) < (m : Int) := by omega
        obtain ⟨fg, rfl, hfg⟩ := unhide HLg (by omega)
        obtain ⟨vi, ci, fi⟩ := (unhide HI).2.1 fg rfl (by omega) i hil
        rw [Nat.zero_add] at ci fi
        have HA2 : Hid (∀ v, Below w8.heap.size w8 (wr.setCell ⟨fg, i, none⟩ v) ∧ (∀ g, (some ⟨fg, 0, none⟩ : Option Addr) = some ⟨g, 0, none⟩ → 0 < m → Open' (wr.setCell ⟨fg, i, none⟩ v) g 0 m) ∧ (∀ g, wa = some ⟨g, 0, none⟩ → 0 < p → Open' (wr.setCell ⟨fg, i, none⟩ v) g 0 p)) := hide fun v => ⟨(unhide HI).1.setCell (by exact hfg) v, fun g e h0 => ((unhide HI).2.1 g e h0).set _ _, fun g e h0 => ((unhide HI).2.2 g e h0).set _ _⟩
        clear HI
        go_wp2
        go_roundg g'
        case rel => exact ⟨i + 1, by omega, by go_num, hide (unhide HA2 _)⟩
        case measure => omega
      | zero =>
        have hie : i = m := by omega
        rw [hie]
        clear hie hig
        have HI0 : Hid (Below w8.heap.size w8 wr ∧ (∀ g, wa = some ⟨g, 0, none⟩ → 0 < p → Open' wr g 0 p)) := hide ⟨(unhide HI).1, (unhide HI).2.2⟩
        clear HI
        go_wp2
        go_loopg [15] p (fun g s15 wr => ∃ i : Nat, i + g = p ∧ s15 = .int .i64 (i : Int) ∧ Hid (Below w8.heap.size w8 wr ∧ (∀ g, wa = some ⟨g, 0, none⟩ → 0 < p → Open' wr g 0 p)))
        case atStart => exact ⟨0, by omega, rfl, HI0⟩
        case round =>
          clear HI0
          obtain ⟨i, hig, rfl, HI⟩ := hrel
          cases gk with
          | succ g' =>
            have hil : i < p := by omega
            have hiI : (i : Int) < (p : Int) := by omega
            obtain ⟨fg, rfl, hfg⟩ := unhide HWg (by omega)
            obtain ⟨vi, ci, fi⟩ := (unhide HI).2 fg rfl (by omega) i hil
            rw [Nat.zero_add] at ci fi
            have HA2 : Hid (∀ v, Below w8.heap.size w8 (wr.setCell ⟨fg, i, none⟩ v) ∧ (∀ g, (some ⟨fg, 0, none⟩ : Option Addr) = some ⟨g, 0, none⟩ → 0 < p → Open' (wr.setCell ⟨fg, i, none⟩ v) g 0 p)) := hide fun v => ⟨(unhide HI).1.setCell (by exact hfg) v, fun g e h0 => ((unhide HI).2 g e h0).set _ _⟩
            clear HI
            go_wp2
            go_roundg g'
            case rel => exact ⟨i + 1, by omega, by go_num, hide (unhide HA2 _)⟩
            case measure => omega
          | zero =>
            have hie : i = p := by omega
            rw [hie]
            clear hie hig
            have hb9 := unhide HB8 _ (unhide HI).1
            have hU := (unhide HU8).below (unhide HI).1
            have hK8 := (unhide HK8).below (unhide HI).1
            clear HI
            obtain ⟨x0, x1, x2, x3⟩ := (unhide HBX _ hb9).1
            obtain ⟨y0, y1, y2, y3⟩ := (unhide HBX _ hb9).2.1
            go_upto_region 16 with fail
            clear x0 x1 x2 x3 y0 y1 y2 y3
            have hbq := hb9.drew
            replace hU := hU.below (Below.refl _ _).drew
            replace hK8 := hK8.below (Below.refl _ _).drew
            refine wp_region_G (fun w' => (w'.cell? ⟨w4.heap.size, 0, none⟩ = some (.int .i64 q.n) ∧ w'.cell? ⟨w4.heap.size, 1, none⟩ = some (.slice ta ln tc) ∧ w'.cell? ⟨w4.heap.size, 2, none⟩ = some (.slice na ln nc) ∧ w'.cell? ⟨w4.heap.size, 3, none⟩ = some (.slice ca ln cc)) ∧ (w'.cell? ⟨w4.heap.size + 1, 0, none⟩ = some (.int .i64 q.n) ∧ w'.cell? ⟨w4.heap.size + 1, 1, none⟩ = some (.slice ta2 ln tc2) ∧ w'.cell? ⟨w4.heap.size + 1, 2, none⟩ = some (.slice na2 ln nc2) ∧ w'.cell? ⟨w4.heap.size + 1, 3, none⟩ = some (.slice ca2 ln cc2))) (fun _ => false) (by kernel_rfl) ⟨(unhide HBX _ hbq).1, (unhide HBX _ hbq).2.1⟩ (fun hHeld => ?_)
            generalize wr.drew = wq at *
            refine wpAnyG_take (v := ?_) 0 (by rfl) (by kernel_rfl) (by kernel_rfl) (by kernel_rfl) (by kernel_rfl) (fun _ _ _ h => h) (Or.inl ⟨by rfl, ?_⟩) (by assumption) ?_
            rotate_left
            · (intro w' hSw; (try dsimp only at hSw); (try simp only [List.getElem_toArray, List.getElem_cons_zero]); go_simp; try (with_reducible rfl))
            simp only [Act.put, List.getElem_toArray, List.getElem_cons_zero, List.setIfInBounds_toArray, List.set_cons_zero, List.set_cons_succ]
            refine wpAnyG_take (v := ?_) 1 (by rfl) (by kernel_rfl) (by kernel_rfl) (by kernel_rfl) (by kernel_rfl) (fun _ _ _ h => h) (Or.inl ⟨by rfl, ?_⟩) (by assumption) ?_
            rotate_left
            · (intro w' hSw; (try dsimp only at hSw); (try simp only [List.getElem_toArray, List.getElem_cons_succ, List.getElem_cons_zero]); go_simp; try (with_reducible rfl))
            simp only [Act.put, List.getElem_toArray, List.getElem_cons_succ, List.getElem_cons_zero, List.setIfInBounds_toArray, List.set_cons_zero, List.set_cons_succ]
            refine wpAnyG_ready [2] (by kernel_rfl) (by simp) ?_
            refine AllReadyG.cons 2 (by rfl) (fun K hK => ?_) ?_
            · simp only [List.getElem_toArray, List.getElem_cons_succ, List.getElem_cons_zero]
              go_simp
              go_at_call 24
              refine (unhide HSm _ hbq).mono ?_
              rintro e wc1 ⟨rfl, hlc1⟩
              have hbc1 := unhide HTR _ _ hbq hlc1
              replace hU := Ints.below hU hlc1
              replace hK8 := Ints.below hK8 hlc1
              refine hK.out _ _ ⟨(unhide HBX _ hbc1).1, (unhide HBX _ hbc1).2.1⟩ (fun _ => ?_)
              clear hK K
              try simp only [Act.put, List.setIfInBounds_toArray, List.set_cons_zero, List.set_cons_succ]
              refine wpAnyG_take (v := ?_) 3 (by rfl) (by kernel_rfl) (by kernel_rfl) (by kernel_rfl) (by kernel_rfl) (fun _ _ _ h => h) (Or.inl ⟨by rfl, ?_⟩) (by assumption) ?_
              rotate_left
              · (intro w' hSw; (try dsimp only at hSw); (try simp only [List.getElem_toArray, List.getElem_cons_succ, List.getElem_cons_zero]); go_simp; try (with_reducible rfl))
              simp only [Act.put, List.getElem_toArray, List.getElem_cons_succ, List.getElem_cons_zero, List.setIfInBounds_toArray, List.set_cons_zero, List.set_cons_succ]
              refine wpAnyG_take (v := ?_) 4 (by rfl) (by kernel_rfl) (by kernel_rfl) (by kernel_rfl) (by kernel_rfl) (fun _ _ _ h => h) (Or.inl ⟨by rfl, ?_⟩) (by assumption) ?_
              rotate_left
              · (intro w' hSw; (try dsimp only at hSw); (try simp only [List.getElem_toArray, List.getElem_cons_succ, List.getElem_cons_zero]); go_simp; try (with_reducible rfl))
              simp only [Act.put, List.getElem_toArray, List.getElem_cons_succ, List.getElem_cons_zero, List.setIfInBounds_toArray, List.set_cons_zero, List.set_cons_succ]
              refine wpAnyG_take (v := ?_) 5 (by rfl) (by kernel_rfl) (by kernel_rfl) (by kernel_rfl) (by kernel_rfl) (fun _ _ _ h => h) (Or.inl ⟨by rfl, ?_⟩) (by assumption) ?_
              rotate_left
              · (intro w' hSw; (try dsimp only at hSw); (try simp only [List.getElem_toArray, List.getElem_cons_succ, List.getElem_cons_zero]); go_simp; try (with_reducible rfl))
              simp only [Act.put, List.getElem_toArray, List.getElem_cons_succ, List.getElem_cons_zero, List.setIfInBounds_toArray, List.set_cons_zero, List.set_cons_succ]
              refine wpAnyG_ready [6] (by kernel_rfl) (by simp) ?_
              refine AllReadyG.cons 6 (by rfl) (fun K hK => ?_) ?_
              · simp only [List.getElem_toArray, List.getElem_cons_succ, List.getElem_cons_zero]
                go_simp
                go_at_call 13
                refine (unhide HIs _ _ _ _ (by rw [unhide HUl]; omega) hU hK8).mono ?_
                rintro e wc2 ⟨rfl, hlc2⟩
                have hbc2 := unhide HTR _ _ hbc1 hlc2
                replace hU := Ints.below hU hlc2
                replace hK8 := Ints.below hK8 hlc2
                refine hK.out _ _ ⟨(unhide HBX _ hbc2).1, (unhide HBX _ hbc2).2.1⟩ (fun _ => ?_)
                clear hK K
                try simp only [Act.put, List.setIfInBounds_toArray, List.set_cons_zero, List.set_cons_succ]
                refine wpAnyG_take (v := ?_) 7 (by rfl) (by kernel_rfl) (by kernel_rfl) (by kernel_rfl) (by kernel_rfl) (fun _ _ _ h => h) (Or.inl ⟨by rfl, ?_⟩) (by assumption) ?_
                rotate_left
                · (intro w' hSw; (try dsimp only at hSw); (try simp only [List.getElem_toArray, List.getElem_cons_succ, List.getElem_cons_zero]); go_simp; try (with_reducible rfl))
                simp only [Act.put, List.getElem_toArray, List.getElem_cons_succ, List.getElem_cons_zero, List.setIfInBounds_toArray, List.set_cons_zero, List.set_cons_succ]
                refine wpAnyG_take (v := ?_) 8 (by rfl) (by kernel_rfl) (by kernel_rfl) (by kernel_rfl) (by kernel_rfl) (fun _ _ _ h => h) (Or.inl ⟨by rfl, ?_⟩) (by assumption) ?_
                rotate_left
                · (intro w' hSw; (try dsimp only at hSw); (try simp only [List.getElem_toArray, List.getElem_cons_succ, List.getElem_cons_zero]); go_simp; try (with_reducible rfl))
                simp only [Act.put, List.getElem_toArray, List.getElem_cons_succ, List.getElem_cons_zero, List.setIfInBounds_toArray, List.set_cons_zero, List.set_cons_succ]
                refine wpAnyG_take (v := ?_) 9 (by rfl) (by kernel_rfl) (by kernel_rfl) (by kernel_rfl) (by kernel_rfl) (fun _ _ _ h => h) (Or.inl ⟨by rfl, ?_⟩) (by assumption) ?_
                rotate_left
                · (intro w' hSw; (try dsimp only at hSw); (try simp only [List.getElem_toArray, List.getElem_cons_succ, List.getElem_cons_zero]); go_simp; try (with_reducible rfl))
                simp only [Act.put, List.getElem_toArray, List.getElem_cons_succ, List.getElem_cons_zero, List.setIfInBounds_toArray, List.set_cons_zero, List.set_cons_succ]
                refine wpAnyG_take (v := ?_) 10 (by rfl) (by kernel_rfl) (by kernel_rfl) (by kernel_rfl) (by kernel_rfl) (fun _ _ _ h => h) (Or.inl ⟨by rfl, ?_⟩) (by assumption) ?_
                rotate_left
                · (intro w' hSw; (try dsimp only at hSw); (try simp only [List.getElem_toArray, List.getElem_cons_succ, List.getElem_cons_zero]); go_simp; try (with_reducible rfl))
                simp only [Act.put, List.getElem_toArray, List.getElem_cons_succ, List.getElem_cons_zero, List.setIfInBounds_toArray, List.set_cons_zero, List.set_cons_succ]
                refine wpAnyG_take (v := ?_) 12 (by rfl) (by kernel_rfl) (by kernel_rfl) (by kernel_rfl) (by kernel_rfl) (fun _ _ _ h => h) (Or.inl ⟨by rfl, ?_⟩) (by assumption) ?_
                rotate_left
                · (intro w' hSw; (try dsimp only at hSw); (try simp only [List.getElem_toArray, List.getElem_cons_succ, List.getElem_cons_zero]); go_simp; try (with_reducible rfl))
                simp only [Act.put, List.getElem_toArray, List.getElem_cons_succ, List.getElem_cons_zero, List.setIfInBounds_toArray, List.set_cons_zero, List.set_cons_succ]
                refine wpAnyG_take (v := ?_) 13 (by rfl) (by kernel_rfl) (by kernel_rfl) (by kernel_rfl) (by kernel_rfl) (fun _ _ _ h => h) (Or.inl ⟨by rfl, ?_⟩) (by assumption) ?_
                rotate_left
                · (intro w' hSw; (try dsimp only at hSw); (try simp only [List.getElem_toArray, List.getElem_cons_succ, List.getElem_cons_zero]); go_simp; try (with_reducible rfl))
                simp only [Act.put, List.getElem_toArray, List.getElem_cons_succ, List.getElem_cons_zero, List.setIfInBounds_toArray, List.set_cons_zero, List.set_cons_succ]
                refine wpAnyG_ready [11] (by kernel_rfl) (by simp) ?_
                refine AllReadyG.cons 11 (by rfl) (fun K hK => ?_) ?_
                · simp only [List.getElem_toArray, List.getElem_cons_succ, List.getElem_cons_zero]
                  go_simp
                  go_at_call 12
                  refine (unhide HSp _ hbc2).mono ?_
                  rintro e wc3 ⟨rv3, rfl, hI3, hlc3⟩
                  have hbc3 := unhide HTR _ _ hbc2 hlc3
                  replace hU := Ints.below hU hlc3
                  replace hK8 := Ints.below hK8 hlc3
                  refine hK.out _ _ ⟨(unhide HBX _ hbc3).1, (unhide HBX _ hbc3).2.1⟩ (fun _ => ?_)
                  clear hK K
                  try simp only [Act.put, List.setIfInBounds_toArray, List.set_cons_zero, List.set_cons_succ]
                  refine wpAnyG_ready [14] (by kernel_rfl) (by simp) ?_
                  refine AllReadyG.cons 14 (by rfl) (fun K hK => ?_) ?_
                  · simp only [List.getElem_toArray, List.getElem_cons_succ, List.getElem_cons_zero]
                    go_simp
                    go_at_call 14
                    refine (unhide HSr _ hbc3).mono ?_
                    rintro e wc4 ⟨rv4, rfl, hI4, hlc4⟩
                    have hbc4 := unhide HTR _ _ hbc3 hlc4
                    replace hU := Ints.below hU hlc4
                    replace hK8 := Ints.below hK8 hlc4
                    replace hI3 := Ints.below hI3 hlc4
                    refine hK.out _ _ ⟨(unhide HBX _ hbc4).1, (unhide HBX _ hbc4).2.1⟩ (fun _ => ?_)
                    clear hK K
                    try simp only [Act.put, List.setIfInBounds_toArray, List.set_cons_zero, List.set_cons_succ]
                    refine wpAnyG_ready [15] (by kernel_rfl) (by simp) ?_
                    refine AllReadyG.cons 15 (by rfl) (fun K hK => ?_) ?_
                    · simp only [List.getElem_toArray, List.getElem_cons_succ, List.getElem_cons_zero]
                      go_simp
                      go_at_call 13
                      refine (unhide HIs _ _ _ _ (by rw [unhide HUl]; omega) hI3 hI4).mono ?_
                      rintro e wc5 ⟨rfl, hlc5⟩
                      have hbc5 := unhide HTR _ _ hbc4 hlc5
                      replace hU := Ints.below hU hlc5
                      replace hK8 := Ints.below hK8 hlc5
                      replace hI3 := Ints.below hI3 hlc5
                      replace hI4 := Ints.below hI4 hlc5
                      refine hK.out _ _ ⟨(unhide HBX _ hbc5).1, (unhide HBX _ hbc5).2.1⟩ (fun _ => ?_)
                      clear hK K
                      try simp only [Act.put, List.setIfInBounds_toArray, List.set_cons_zero, List.set_cons_succ]
                      refine wpAnyG_take (v := ?_) 16 (by rfl) (by kernel_rfl) (by kernel_rfl) (by kernel_rfl) (by kernel_rfl) (fun _ _ _ h => h) (Or.inl ⟨by rfl, ?_⟩) (by assumption) ?_
                      rotate_left
                      · (intro w' hSw; (try dsimp only at hSw); (try simp only [List.getElem_toArray, List.getElem_cons_succ, List.getElem_cons_zero]); go_simp; try (with_reducible rfl))
                      simp only [Act.put, List.getElem_toArray, List.getElem_cons_succ, List.getElem_cons_zero, List.setIfInBounds_toArray, List.set_cons_zero, List.set_cons_succ]
                      refine wpAnyG_take (v := ?_) 17 (by rfl) (by kernel_rfl) (by kernel_rfl) (by kernel_rfl) (by kernel_rfl) (fun _ _ _ h => h) (Or.inl ⟨by rfl, ?_⟩) (by assumption) ?_
                      rotate_left
                      · (intro w' hSw; (try dsimp only at hSw); (try simp only [List.getElem_toArray, List.getElem_cons_succ, List.getElem_cons_zero]); go_simp; try (with_reducible rfl))
                      simp only [Act.put, List.getElem_toArray, List.getElem_cons_succ, List.getElem_cons_zero, List.setIfInBounds_toArray, List.set_cons_zero, List.set_cons_succ]
                      refine wpAnyG_done (by kernel_rfl) ?_ _
                      refine NoPanic.normal ?_
                      go_wp2
                      rw [unhide HP]
                      exact ⟨rfl, (unhide HBX _ hbc5).2.2.2.2.1⟩
                    exact AllReadyG.nil
                  exact AllReadyG.nil
                exact AllReadyG.nil
              exact AllReadyG.nil
            exact AllReadyG.nil
end Go.Proofs.Ytenffkplneimlaa


