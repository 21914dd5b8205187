/- What the proof needs, part 13. -/
import Derived.Test.YtenffkplneimlaaL12
/- The law TreeRight, walked. -/
namespace Go.Proofs.Ytenffkplneimlaa
open Go Go.RowKit

set_option maxRecDepth 100000 in
set_option maxHeartbeats 4000000 in
theorem treeRight_any (ns : List Int) (x : Value) (root aT v : Int) (wv : Value) (raw : List Int) (other : Int) (w : World) (hx : Ints w x ns) (hwv : Ints w wv raw) :
    Calls Try.prog 4 #[x, .int .i64 root, .int .i64 aT, .int .i64 v, wv, .int .i64 other] w fun e w' => e = .returned (.bool true) ∧ Below w.heap.size w w' := by
  obtain ⟨a, c, rfl, hc, hm⟩ := hx.form
  obtain ⟨ra, rc, rfl, -, -⟩ := hwv.form
  have HWV := hide hwv
  clear hwv
  have HPL := hide (fun w' (hb : Below w.heap.size w w') => plane_any ns (.slice a ns.length c) w' (hx.below hb))
  have HOK := hide (Sp.plane_ok ns)
  have HTQ := hide (Sp.treeQ_plane ns)
  generalize Sp.plane ns = q at *
  generalize ns.length = n at *
  clear hx
  obtain ⟨P, hP⟩ : ∃ P : Ending → World → Prop, P = fun e w' => e = .returned (.bool true) ∧ Below w.heap.size w w' := ⟨_, rfl⟩
  rw [← hP]
  have HP := hide hP
  clear hP
  go_enter Try.func4, Try.ntmps4
  go_wp2_with fail
  go_at_call 9
  refine (known4_any w).mono ?_
  rintro e w2 ⟨rfl, hb2⟩
  have Hb2 := hide hb2
  clear hb2
  by_cases hlong : 100 < raw.length
  · have hlI : (100 : Int) < (raw.length : Int) := by omega
    have HF := hide (unhide Hb2)
    clear hlong
    go_wp2
    rw [unhide HP]
    exact ⟨rfl, unhide HF⟩
  have hlI : ¬ (100 : Int) < (raw.length : Int) := by omega
  go_wp2_with fail
  go_at_call 10
  refine (unhide HPL _ (unhide Hb2)).mono ?_
  clear HPL
  rintro e w3 ⟨v, tv, nv, cv, rfl, hnv, hb3⟩
  have hval := hnv.val
  subst hval
  obtain ⟨ta, tc, rfl, htc, htm, HT⟩ := hnv.netI.tail.allD
  obtain ⟨na, nc, rfl, -, -⟩ := hnv.netI.next.form
  obtain ⟨ca, cc, rfl, -, -⟩ := hnv.netI.cap.form
  obtain ⟨W4, hW4⟩ : ∃ W4, W4 = w3.alloc (.cells #[.int .i64 q.n, .slice ta q.tail.length tc, .slice na q.next.length nc, .slice ca q.cap.length cc] 25) := ⟨_, rfl⟩
  obtain ⟨hBX, hs4, hTR⟩ := boxed ((unhide Hb2).trans (hb3.mono (unhide Hb2).size)) hnv.netI W4 hW4
  have HBX := hide hBX
  have HTR := hide hTR
  have Hs4 := hide hs4
  have HW4 := hide hW4
  clear hnv hb3 Hb2 hBX hTR hs4 hW4
  have hb4 : Below (w3.heap.size + 1) W4 W4 := Below.refl _ _
  have HWK := hide ((unhide HOK).walk (by omega))
  have hn0 : 1 ≤ q.n := (unhide HOK).n0
  have hn1 : q.n ≤ 100 := by have := (unhide HOK).n1; omega
  obtain ⟨N, hN⟩ : ∃ N : Nat, q.n = (N : Int) := ⟨q.n.toNat, by omega⟩
  have hN60 : N ≤ 60 := by have := (unhide HTQ).n1; omega
  have hN1 : 1 ≤ N := by omega
  have hl48 : q.tail.length ≤ 48 := (unhide HTQ).le
  have HNN := hide hN
  have HTn : Hid (∀ x ∈ q.tail, 0 ≤ x ∧ x < (N : Int)) := hide fun x hx => by have := (unhide HTQ).tb x hx; omega
  have HIs : Hid (∀ (l : List Int) w' v u, l.length ≤ 1000001 → Ints w' v l → Ints w' u l → Calls Try.prog 13 #[v, u] w' fun e w'' => e = .returned (.bool true) ∧ Below w'.heap.size w' w'') := hide fun l w' v u hl h1 h2 => by
    refine (rInts_any l l v u w' h1 h2 hl hl).mono fun e w'' ⟨a1, a2⟩ => ⟨?_, a2⟩
    rw [a1, decide_eq_true rfl]
  have hnI : (0 : Int) < q.n := by omega
  have HWr := hide (fun w' => within4_any root q.n w' (by omega) (by omega))
  obtain ⟨r, hr⟩ : ∃ r : Nat, root % q.n = (r : Int) := ⟨(root % q.n).toNat, by have := Int.emod_nonneg root (show q.n ≠ 0 by omega); omega⟩
  have hrN : r < N := by have := Int.emod_lt_of_pos root hnI; omega
  rw [hr] at HWr
  clear hr hnI
  have HU0 := hide ((unhide HTQ).span (unhide HNN) hrN)
  have HUl : Hid ((Sp.span q (r : Int)).length = N) := hide ((unhide HTQ).spanF (unhide HNN) hrN).row.len
  have HSr : Hid (∀ w', Below (w3.heap.size + 1) W4 w' → Calls Try.prog 14 #[.agg #[.int .i64 q.n, .slice ta q.tail.length tc, .slice na q.next.length nc, .slice ca q.cap.length cc], .int .i64 (r : Int)] w' fun e w'' => ∃ lv, e = .returned lv ∧ OwnI w'' w'.heap.size lv (Sp.span q (r : Int)) ∧ Below w'.heap.size w' w'') := hide fun w' hb =>
    span2_any q r N _ _ _ _ w' (unhide HBX w' hb).2.1 (unhide HTQ).ev (by omega) (unhide HNN) (by omega) hrN (unhide HTn)
  have HRp : Hid (∀ (l : List Int) (s : Int) w' uv, Below (w3.heap.size + 1) W4 w' → Ints w' uv l → Calls Try.prog 15 #[.agg #[.int .i64 q.n, .slice ta q.tail.length tc, .slice na q.next.length nc, .slice ca q.cap.length cc], uv, .int .i64 s] w' fun e w'' => e = .returned (.bool (Sp.rightB q l s)) ∧ Below w'.heap.size w' w'') := hide fun l s w' uv hb hu =>
    right_any q l s N _ _ _ _ uv w' (unhide HBX w' hb).2.1 hu (unhide HTQ).ev (by omega) (unhide HNN) hN60 (unhide HTQ).nE (unhide HTQ).tb
  have HRr : Hid (∀ (l : List Int) (s : Int) w' uv, Below (w3.heap.size + 1) W4 w' → Ints w' uv l → Calls Try.prog 20 #[.agg #[.int .i64 q.n, .slice ta q.tail.length tc, .slice na q.next.length nc, .slice ca q.cap.length cc], uv, .int .i64 s] w' fun e w'' => e = .returned (.bool (Sp.rightB q l s)) ∧ Below w'.heap.size w' w'') := hide fun l s w' uv hb hu =>
    right2_any q l s N _ _ _ _ uv w' (unhide HBX w' hb).2.1 hu (unhide HTQ).ev (by omega) (unhide HNN) (by omega) (unhide HTn)
  have HNo : Hid (Sp.rightB q (Sp.span q (r : Int) ++ [-1]) (r : Int) = false) := hide (by
    unfold Sp.rightB
    rw [decide_eq_false (fun h => by have := h.1; rw [List.length_append, unhide HUl, unhide HNN] at this; simp at this; omega)]
    rfl)
  have HWV4 : Hid (∀ w', Below (w3.heap.size + 1) W4 w' → Ints w' (.slice ra raw.length rc) raw) := hide fun w' hb => (unhide HWV).below (unhide HBX w' hb).2.2.1
  have HWa := hide (fun w' => within4_any aT N w' (by omega) (by omega))
  have HWm := hide (fun w' => within4_any v ((q.tail.length : Int) + 1) w' (by omega) (by omega))
  have HWb := hide (fun w' => within4_any v 3 w' (by omega) (by omega))
  obtain ⟨aN', haI⟩ : ∃ a : Nat, aT % (N : Int) = (a : Int) := ⟨(aT % (N : Int)).toNat, by have := Int.emod_nonneg aT (show (N : Int) ≠ 0 by omega); omega⟩
  have haN : aN' < N := by have := Int.emod_lt_of_pos aT (show 0 < (N : Int) by omega); omega
  rw [haI] at HWa
  generalize v % ((q.tail.length : Int) + 1) = vm at *
  obtain ⟨bt, zl, hbt, hb3, hzl⟩ : ∃ (b : Nat) (z : Int), v % 3 = (b : Int) ∧ b < 3 ∧ (#[.int .i64 (-1), .int .i64 v, .int .i64 vm] : Array Value)[b]? = some (.int .i64 z) := by
    rcases (show v % 3 = 0 ∨ v % 3 = 1 ∨ v % 3 = 2 by omega) with h | h | h
    · exact ⟨0, -1, h, by omega, rfl⟩
    · exact ⟨1, v, h, by omega, rfl⟩
    · exact ⟨2, vm, h, by omega, rfl⟩
  rw [hbt] at HWb
  have hb3I : (bt : Int) < 3 := by omega
  have haNI : (aN' : Int) < (N : Int) := by omega
  have hw1 : IntKind.i64.wrap ((q.tail.length : Int) + 1) = (q.tail.length : Int) + 1 := by rw [IntKind.wrap_i64]; omega
  clear hN hbt haI HWV
  obtain ⟨x0, x1, x2, x3⟩ := (unhide HBX W4 hb4).1
  go_wp2_with fail
  rw [← unhide HW4]
  go_at_call 11
  refine (unhide HWr _).mono ?_
  rintro e w5 ⟨rfl, h5⟩
  have h5' := h5.symm
  subst h5'
  clear h5
  go_wp2_with fail
  go_at_call 14
  refine (unhide HSr W4 hb4).mono ?_
  rintro e w6 ⟨uv, rfl, hO6, hl6⟩
  have hb6 := unhide HTR _ _ hb4 hl6
  have hO60 := own_base hO6 (show w3.heap.size + 1 ≤ W4.heap.size from by rw [unhide Hs4]; exact Nat.le_refl _)
  clear x0 x1 x2 x3 hO6 hl6 hb4
  obtain ⟨x0, x1, x2, x3⟩ := (unhide HBX w6 hb6).1
  obtain ⟨ua, uc, huv, -, -⟩ := (OwnI.ints hO60).form
  subst huv
  go_wp2_with (at_builtin; refine wpList_app (w := w6.alloc (.cells #[] 3)) rfl _ _ rfl w6.heap.size _ _ [] (Sp.span q (r : Int)) rfl rfl (own_lit w6 _ _ 0 [] rfl rfl (Nat.le_refl _) (by simp)) ((OwnI.ints hO60).below ((Below.refl _ w6).alloc (Nat.le_refl _) _)) N (by rw [unhide HUl]; simp) (by omega) (by simp) ?_)
  rintro xa xc w7 hx7 hg7 -
  have h67 : Below w6.heap.size w6 w7 := ((Below.refl _ w6).alloc (Nat.le_refl _) _).trans hg7
  have hb7 := unhide HTR _ _ hb6 h67
  obtain ⟨gx, xc', hxv, hgx, -, -, -⟩ := own_form hx7 (by rw [unhide HUl]; omega)
  rw [unhide HUl] at hxv
  injection hxv with e1 e2 e3
  subst e1 e3
  have hgx3 : w3.heap.size + 1 ≤ gx := by have := (unhide HBX _ hb6).2.2.2.1; omega
  clear hg7 x0 x1 x2 x3
  obtain ⟨x0, x1, x2, x3⟩ := (unhide HBX w7 hb7).1
  go_upto_region 9 with fail
  clear x0 x1 x2 x3
  go_cut [] (fun wx => ∃ z : Int, Hid (OwnI wx w6.heap.size (.slice (some ⟨gx, 0, none⟩) N xc) ((Sp.span q (r : Int)).set aN' z) ∧ Below w6.heap.size w6 wx))
  case first =>
    refine wp_region_G (fun w' => w'.cell? ⟨w3.heap.size, 0, none⟩ = some (.int .i64 q.n) ∧ w'.cell? ⟨w3.heap.size, 1, none⟩ = some (.slice ta q.tail.length tc) ∧ w'.cell? ⟨w3.heap.size, 2, none⟩ = some (.slice na q.next.length nc) ∧ w'.cell? ⟨w3.heap.size, 3, none⟩ = some (.slice ca q.cap.length cc)) (fun _ => false) (by kernel_rfl) (unhide HBX _ hb7.drew).1 (fun hHeld => ?_)
    have hbq := hb7.drew
    have hx := own_below hx7 (Below.refl _ w7).drew
    have h6 := h67.drew
    generalize w7.drew = wq at *
    refine wpAnyG_take (v := ?_) 0 (by rfl) (by kernel_rfl) (by kernel_rfl) (by kernel_rfl) (by kernel_rfl) (fun _ _ _ h => h) (Or.inl ⟨by rfl, ?_⟩) (by assumption) ?_
    rotate_left
    · (intro w' hSw; (try dsimp only at hSw); (try simp only [List.getElem_toArray, List.getElem_cons_zero]); go_simp; try (with_reducible rfl))
    simp only [Act.put, List.getElem_toArray, List.getElem_cons_zero, List.setIfInBounds_toArray, List.set_cons_zero, List.set_cons_succ]
    refine wpAnyG_take (v := ?_) 1 (by rfl) (by kernel_rfl) (by kernel_rfl) (by kernel_rfl) (by kernel_rfl) (fun _ _ _ h => h) (Or.inl ⟨by rfl, ?_⟩) (by assumption) ?_
    rotate_left
    · (intro w' hSw; (try dsimp only at hSw); (try simp only [List.getElem_toArray, List.getElem_cons_succ, List.getElem_cons_zero]); go_simp; try (with_reducible rfl))
    simp only [Act.put, List.getElem_toArray, List.getElem_cons_succ, List.getElem_cons_zero, List.setIfInBounds_toArray, List.set_cons_zero, List.set_cons_succ]
    refine wpAnyG_take (v := ?_) 2 (by rfl) (by kernel_rfl) (by kernel_rfl) (by kernel_rfl) (by kernel_rfl) (fun _ _ _ h => h) (Or.inl ⟨by rfl, ?_⟩) (by assumption) ?_
    rotate_left
    · (intro w' hSw; (try dsimp only at hSw); (try simp only [List.getElem_toArray, List.getElem_cons_succ, List.getElem_cons_zero]); go_simp; try (with_reducible rfl))
    simp only [Act.put, List.getElem_toArray, List.getElem_cons_succ, List.getElem_cons_zero, List.setIfInBounds_toArray, List.set_cons_zero, List.set_cons_succ]
    refine wpAnyG_take (v := ?_) 3 (by rfl) (by kernel_rfl) (by kernel_rfl) (by kernel_rfl) (by kernel_rfl) (fun _ _ _ h => h) (Or.inl ⟨by rfl, ?_⟩) (by assumption) ?_
    rotate_left
    · (intro w' hSw; (try dsimp only at hSw); (try simp only [List.getElem_toArray, List.getElem_cons_succ, List.getElem_cons_zero]); go_simp; try (with_reducible rfl))
    simp only [Act.put, List.getElem_toArray, List.getElem_cons_succ, List.getElem_cons_zero, List.setIfInBounds_toArray, List.set_cons_zero, List.set_cons_succ]
    refine wpAnyG_take (v := ?_) 5 (by rfl) (by kernel_rfl) (by kernel_rfl) (by kernel_rfl) (by kernel_rfl) (fun _ _ _ h => h) (Or.inl ⟨by rfl, ?_⟩) (by assumption) ?_
    rotate_left
    · (intro w' hSw; (try dsimp only at hSw); (try simp only [List.getElem_toArray, List.getElem_cons_succ, List.getElem_cons_zero]); go_simp; try (with_reducible rfl))
    simp only [Act.put, List.getElem_toArray, List.getElem_cons_succ, List.getElem_cons_zero, List.setIfInBounds_toArray, List.set_cons_zero, List.set_cons_succ]
    refine wpAnyG_take (v := ?_) 6 (by rfl) (by kernel_rfl) (by kernel_rfl) (by kernel_rfl) (by kernel_rfl) (fun _ _ _ h => h) (Or.inl ⟨by rfl, ?_⟩) (by assumption) ?_
    rotate_left
    · (intro w' hSw; (try dsimp only at hSw); (try simp only [List.getElem_toArray, List.getElem_cons_succ, List.getElem_cons_zero]); go_simp; try (with_reducible rfl))
    simp only [Act.put, List.getElem_toArray, List.getElem_cons_succ, List.getElem_cons_zero, List.setIfInBounds_toArray, List.set_cons_zero, List.set_cons_succ]
    refine wpAnyG_take (v := ?_) 7 (by rfl) (by kernel_rfl) (by kernel_rfl) (by kernel_rfl) (by kernel_rfl) (fun _ _ _ h => h) (Or.inl ⟨by rfl, ?_⟩) (by assumption) ?_
    rotate_left
    · (intro w' hSw; (try dsimp only at hSw); (try simp only [List.getElem_toArray, List.getElem_cons_succ, List.getElem_cons_zero]); go_simp; try (with_reducible rfl))
    simp only [Act.put, List.getElem_toArray, List.getElem_cons_succ, List.getElem_cons_zero, List.setIfInBounds_toArray, List.set_cons_zero, List.set_cons_succ]
    refine wpAnyG_take (v := ?_) 8 (by rfl) (by kernel_rfl) (by kernel_rfl) (by kernel_rfl) (by kernel_rfl) (fun _ _ _ h => h) (Or.inl ⟨by rfl, ?_⟩) (by assumption) ?_
    rotate_left
    · (intro w' hSw; (try dsimp only at hSw); (try simp only [List.getElem_toArray, List.getElem_cons_succ, List.getElem_cons_zero]); go_simp; try (with_reducible rfl))
    simp only [Act.put, List.getElem_toArray, List.getElem_cons_succ, List.getElem_cons_zero, List.setIfInBounds_toArray, List.set_cons_zero, List.set_cons_succ]
    refine wpAnyG_take (v := ?_) 9 (by rfl) (by kernel_rfl) (by kernel_rfl) (by kernel_rfl) (by kernel_rfl) (fun _ _ _ h => h) (Or.inl ⟨by rfl, ?_⟩) (by assumption) ?_
    rotate_left
    · (intro w' hSw; (try dsimp only at hSw); (try simp only [List.getElem_toArray, List.getElem_cons_succ, List.getElem_cons_zero]); go_simp; try (with_reducible rfl))
    simp only [Act.put, List.getElem_toArray, List.getElem_cons_succ, List.getElem_cons_zero, List.setIfInBounds_toArray, List.set_cons_zero, List.set_cons_succ]
    refine wpAnyG_take (v := ?_) 10 (by rfl) (by kernel_rfl) (by kernel_rfl) (by kernel_rfl) (by kernel_rfl) (fun _ _ _ h => h) (Or.inl ⟨by rfl, ?_⟩) (by assumption) ?_
    rotate_left
    · (intro w' hSw; (try dsimp only at hSw); (try simp only [List.getElem_toArray, List.getElem_cons_succ, List.getElem_cons_zero]); go_simp; try (with_reducible rfl))
    simp only [Act.put, List.getElem_toArray, List.getElem_cons_succ, List.getElem_cons_zero, List.setIfInBounds_toArray, List.set_cons_zero, List.set_cons_succ]
    refine wpAnyG_take (v := ?_) 13 (by rfl) (by kernel_rfl) (by kernel_rfl) (by kernel_rfl) (by kernel_rfl) (fun _ _ _ h => h) (Or.inl ⟨by rfl, ?_⟩) (by assumption) ?_
    rotate_left
    · (intro w' hSw; (try dsimp only at hSw); (try simp only [List.getElem_toArray, List.getElem_cons_succ, List.getElem_cons_zero]); go_simp; try (with_reducible rfl))
    simp only [Act.put, List.getElem_toArray, List.getElem_cons_succ, List.getElem_cons_zero, List.setIfInBounds_toArray, List.set_cons_zero, List.set_cons_succ]
    refine wpAnyG_ready [4] (by kernel_rfl) (by simp) ?_
    refine AllReadyG.cons 4 (by rfl) (fun K hK => ?_) ?_
    · simp only [List.getElem_toArray, List.getElem_cons_succ, List.getElem_cons_zero]
      go_simp
      go_at_call 11
      refine (unhide HWa _).mono ?_
      rintro e wc1 ⟨rfl, hlc1⟩
      have hlc1' := hlc1.symm
      clear hlc1
      subst hlc1'
      refine hK.out _ _ (unhide HBX _ hbq).1 (fun _ => ?_)
      clear hK K
      try simp only [Act.put, List.setIfInBounds_toArray, List.set_cons_zero, List.set_cons_succ]
      refine wpAnyG_ready [11] (by kernel_rfl) (by simp) ?_
      refine AllReadyG.cons 11 (by rfl) (fun K hK => ?_) ?_
      · simp only [List.getElem_toArray, List.getElem_cons_succ, List.getElem_cons_zero]
        go_simp
        go_at_call 11
        refine (unhide HWm _).mono ?_
        rintro e wc2 ⟨rfl, hlc2⟩
        have hlc2' := hlc2.symm
        clear hlc2
        subst hlc2'
        refine hK.out _ _ (unhide HBX _ hbq).1 (fun _ => ?_)
        clear hK K
        try simp only [Act.put, List.setIfInBounds_toArray, List.set_cons_zero, List.set_cons_succ]
        refine wpAnyG_ready [12, 14] (by kernel_rfl) (by simp) ?_
        refine AllReadyG.cons 12 (by rfl) (fun K hK => ?_) ?_
        · simp only [List.getElem_toArray, List.getElem_cons_succ, List.getElem_cons_zero]
          go_simp
          refine hK.out _ _ (unhide HBX _ (hbq.alloc (unhide HBX _ hbq).2.2.2.1 _)).1 (fun _ => ?_)
          clear hK K
          try simp only [Act.put, List.setIfInBounds_toArray, List.set_cons_zero, List.set_cons_succ]
          have hbl : Below (w3.heap.size + 1) W4 (wq.alloc (.cells #[.int .i64 (-1), .int .i64 v, .int .i64 vm] 3)) := hbq.alloc (unhide HBX _ hbq).2.2.2.1 _
          have h6l : Below w6.heap.size w6 (wq.alloc (.cells #[.int .i64 (-1), .int .i64 v, .int .i64 vm] 3)) := h6.alloc h6.size _
          have hxl : OwnI (wq.alloc (.cells #[.int .i64 (-1), .int .i64 v, .int .i64 vm] 3)) w6.heap.size (.slice (some ⟨gx, 0, none⟩) N xc) (Sp.span q (r : Int)) := World.ownsRow.alloc hx _
          obtain ⟨gl, hgl⟩ : ∃ g, g = wq.heap.size := ⟨_, rfl⟩
          have hL : (wq.alloc (.cells #[.int .i64 (-1), .int .i64 v, .int .i64 vm] 3)).heap[gl]? = some (.cells #[.int .i64 (-1), .int .i64 v, .int .i64 vm] 3) := by rw [hgl]; exact heap_alloc_new wq _
          have kl : (wq.alloc (.cells #[.int .i64 (-1), .int .i64 v, .int .i64 vm] 3)).cell? ⟨gl, bt, none⟩ = some (.int .i64 zl) := by rw [cell_of_row _ _ _ _ _ _ hL]; exact hzl
          try rw [← hgl]
          clear hL hgl
          generalize (wq.alloc (.cells #[.int .i64 (-1), .int .i64 v, .int .i64 vm] 3)) = wl at *
          refine wpAnyG_ready [14] (by kernel_rfl) (by simp) ?_
          refine AllReadyG.cons 14 (by rfl) (fun K hK => ?_) ?_
          · simp only [List.getElem_toArray, List.getElem_cons_succ, List.getElem_cons_zero]
            go_simp
            go_at_call 11
            refine (unhide HWb _).mono ?_
            rintro e wc3 ⟨rfl, hlc3⟩
            have hlc3' := hlc3.symm
            clear hlc3
            subst hlc3'
            refine hK.out _ _ (unhide HBX _ hbl).1 (fun _ => ?_)
            clear hK K
            try simp only [Act.put, List.setIfInBounds_toArray, List.set_cons_zero, List.set_cons_succ]
            refine wpAnyG_take (v := ?_) 15 (by rfl) (by kernel_rfl) (by kernel_rfl) (by kernel_rfl) (by kernel_rfl) (fun _ _ _ h => h) (Or.inl ⟨by rfl, ?_⟩) (by assumption) ?_
            rotate_left
            · (intro w' hSw; (try dsimp only at hSw); (try simp only [List.getElem_toArray, List.getElem_cons_succ, List.getElem_cons_zero]); go_simp; try (with_reducible rfl))
            simp only [Act.put, List.getElem_toArray, List.getElem_cons_succ, List.getElem_cons_zero, List.setIfInBounds_toArray, List.set_cons_zero, List.set_cons_succ]
            refine wpAnyG_ready [16] (by kernel_rfl) (by simp) ?_
            refine AllReadyG.cons 16 (by rfl) (fun K hK => ?_) ?_
            · simp only [List.getElem_toArray, List.getElem_cons_succ, List.getElem_cons_zero]
              go_simp
              refine hK.out _ _ (unhide HBX _ hbl).1 (fun _ => ?_)
              clear hK K
              try simp only [Act.put, List.setIfInBounds_toArray, List.set_cons_zero, List.set_cons_succ]
              have kc := own_cell hxl aN' (by rw [unhide HUl]; exact haN)
              have fc := own_frozen hxl aN'
              refine wpAnyG_take (v := ?_) 17 (by rfl) (by kernel_rfl) (by kernel_rfl) (by kernel_rfl) (by kernel_rfl) (fun _ _ _ h => h) (Or.inl ⟨by rfl, ?_⟩) (by assumption) ?_
              rotate_left
              · (intro w' hSw; (try dsimp only at hSw); (try simp only [List.getElem_toArray, List.getElem_cons_succ, List.getElem_cons_zero]); go_simp; try (with_reducible rfl))
              simp only [Act.put, List.getElem_toArray, List.getElem_cons_succ, List.getElem_cons_zero, List.setIfInBounds_toArray, List.set_cons_zero, List.set_cons_succ]
              refine wpAnyG_ready [18] (by kernel_rfl) (by simp) ?_
              refine AllReadyG.cons 18 (by rfl) (fun K hK => ?_) ?_
              · simp only [List.getElem_toArray, List.getElem_cons_succ, List.getElem_cons_zero]
                go_simp
                refine hK.out _ _ (unhide HBX _ (hbl.setCell (by exact hgx3) _)).1 (fun _ => ?_)
                clear hK K
                try simp only [Act.put, List.setIfInBounds_toArray, List.set_cons_zero, List.set_cons_succ]
                refine wpAnyG_done (by kernel_rfl) ?_ _
                refine NoPanic.normal ?_
                go_wp2
                go_meet
                exact ⟨zl, hide ⟨own_setCell hxl aN' zl, h6l.setCell (by exact hgx) _⟩⟩
              exact AllReadyG.nil
            exact AllReadyG.nil
          exact AllReadyG.nil
        refine AllReadyG.cons 14 (by rfl) (fun K hK => ?_) ?_
        · simp only [List.getElem_toArray, List.getElem_cons_succ, List.getElem_cons_zero]
          go_simp
          go_at_call 11
          refine (unhide HWb _).mono ?_
          rintro e wc3 ⟨rfl, hlc3⟩
          have hlc3' := hlc3.symm
          clear hlc3
          subst hlc3'
          refine hK.out _ _ (unhide HBX _ hbq).1 (fun _ => ?_)
          clear hK K
          try simp only [Act.put, List.setIfInBounds_toArray, List.set_cons_zero, List.set_cons_succ]
          refine wpAnyG_ready [12] (by kernel_rfl) (by simp) ?_
          refine AllReadyG.cons 12 (by rfl) (fun K hK => ?_) ?_
          · simp only [List.getElem_toArray, List.getElem_cons_succ, List.getElem_cons_zero]
            go_simp
            refine hK.out _ _ (unhide HBX _ (hbq.alloc (unhide HBX _ hbq).2.2.2.1 _)).1 (fun _ => ?_)
            clear hK K
            try simp only [Act.put, List.setIfInBounds_toArray, List.set_cons_zero, List.set_cons_succ]
            have hbl : Below (w3.heap.size + 1) W4 (wq.alloc (.cells #[.int .i64 (-1), .int .i64 v, .int .i64 vm] 3)) := hbq.alloc (unhide HBX _ hbq).2.2.2.1 _
            have h6l : Below w6.heap.size w6 (wq.alloc (.cells #[.int .i64 (-1), .int .i64 v, .int .i64 vm] 3)) := h6.alloc h6.size _
            have hxl : OwnI (wq.alloc (.cells #[.int .i64 (-1), .int .i64 v, .int .i64 vm] 3)) w6.heap.size (.slice (some ⟨gx, 0, none⟩) N xc) (Sp.span q (r : Int)) := World.ownsRow.alloc hx _
            obtain ⟨gl, hgl⟩ : ∃ g, g = wq.heap.size := ⟨_, rfl⟩
            have hL : (wq.alloc (.cells #[.int .i64 (-1), .int .i64 v, .int .i64 vm] 3)).heap[gl]? = some (.cells #[.int .i64 (-1), .int .i64 v, .int .i64 vm] 3) := by rw [hgl]; exact heap_alloc_new wq _
            have kl : (wq.alloc (.cells #[.int .i64 (-1), .int .i64 v, .int .i64 vm] 3)).cell? ⟨gl, bt, none⟩ = some (.int .i64 zl) := by rw [cell_of_row _ _ _ _ _ _ hL]; exact hzl
            try rw [← hgl]
            clear hL hgl
            generalize (wq.alloc (.cells #[.int .i64 (-1), .int .i64 v, .int .i64 vm] 3)) = wl at *
            refine wpAnyG_take (v := ?_) 15 (by rfl) (by kernel_rfl) (by kernel_rfl) (by kernel_rfl) (by kernel_rfl) (fun _ _ _ h => h) (Or.inl ⟨by rfl, ?_⟩) (by assumption) ?_
            rotate_left
            · (intro w' hSw; (try dsimp only at hSw); (try simp only [List.getElem_toArray, List.getElem_cons_succ, List.getElem_cons_zero]); go_simp; try (with_reducible rfl))
            simp only [Act.put, List.getElem_toArray, List.getElem_cons_succ, List.getElem_cons_zero, List.setIfInBounds_toArray, List.set_cons_zero, List.set_cons_succ]
            refine wpAnyG_ready [16] (by kernel_rfl) (by simp) ?_
            refine AllReadyG.cons 16 (by rfl) (fun K hK => ?_) ?_
            · simp only [List.getElem_toArray, List.getElem_cons_succ, List.getElem_cons_zero]
              go_simp
              refine hK.out _ _ (unhide HBX _ hbl).1 (fun _ => ?_)
              clear hK K
              try simp only [Act.put, List.setIfInBounds_toArray, List.set_cons_zero, List.set_cons_succ]
              have kc := own_cell hxl aN' (by rw [unhide HUl]; exact haN)
              have fc := own_frozen hxl aN'
              refine wpAnyG_take (v := ?_) 17 (by rfl) (by kernel_rfl) (by kernel_rfl) (by kernel_rfl) (by kernel_rfl) (fun _ _ _ h => h) (Or.inl ⟨by rfl, ?_⟩) (by assumption) ?_
              rotate_left
              · (intro w' hSw; (try dsimp only at hSw); (try simp only [List.getElem_toArray, List.getElem_cons_succ, List.getElem_cons_zero]); go_simp; try (with_reducible rfl))
              simp only [Act.put, List.getElem_toArray, List.getElem_cons_succ, List.getElem_cons_zero, List.setIfInBounds_toArray, List.set_cons_zero, List.set_cons_succ]
              refine wpAnyG_ready [18] (by kernel_rfl) (by simp) ?_
              refine AllReadyG.cons 18 (by rfl) (fun K hK => ?_) ?_
              · simp only [List.getElem_toArray, List.getElem_cons_succ, List.getElem_cons_zero]
                go_simp
                refine hK.out _ _ (unhide HBX _ (hbl.setCell (by exact hgx3) _)).1 (fun _ => ?_)
                clear hK K
                try simp only [Act.put, List.setIfInBounds_toArray, List.set_cons_zero, List.set_cons_succ]
                refine wpAnyG_done (by kernel_rfl) ?_ _
                refine NoPanic.normal ?_
                go_wp2
                go_meet
                exact ⟨zl, hide ⟨own_setCell hxl aN' zl, h6l.setCell (by exact hgx) _⟩⟩
              exact AllReadyG.nil
            exact AllReadyG.nil
          exact AllReadyG.nil
        exact AllReadyG.nil
      exact AllReadyG.nil
    exact AllReadyG.nil
  case rest =>
    obtain ⟨wz, rfl⟩ : ∃ wz, wz = wc := ⟨_, rfl⟩
    obtain ⟨z, HZ⟩ := hcut
    have hX := OwnI.ints (unhide HZ).1
    have h6z := (unhide HZ).2
    have hb9 := unhide HTR _ _ hb6 h6z
    have hO := own_below hO60 h6z
    have hW := unhide HWV4 wz hb9
    clear HZ hO60 h6z h67 hb7 hx7 HWV4 hzl
    generalize (Sp.span q (r : Int)).set aN' z = X at *
    obtain ⟨x0, x1, x2, x3⟩ := (unhide HBX wz hb9).1
    go_upto_region 10 with fail
    clear x0 x1 x2 x3
    refine wp_region_G (fun w' => w'.cell? ⟨w3.heap.size, 0, none⟩ = some (.int .i64 q.n) ∧ w'.cell? ⟨w3.heap.size, 1, none⟩ = some (.slice ta q.tail.length tc) ∧ w'.cell? ⟨w3.heap.size, 2, none⟩ = some (.slice na q.next.length nc) ∧ w'.cell? ⟨w3.heap.size, 3, none⟩ = some (.slice ca q.cap.length cc)) (fun _ => false) (by kernel_rfl) (unhide HBX _ hb9.drew).1 (fun hHeld => ?_)
    have hbq := hb9.drew
    replace hX := hX.below (Below.refl _ _).drew
    replace hW := hW.below (Below.refl _ _).drew
    replace hO := own_below hO (Below.refl _ _).drew
    generalize wz.drew = wq at *
    refine wpAnyG_take (v := ?_) 0 (by rfl) (by kernel_rfl) (by kernel_rfl) (by kernel_rfl) (by kernel_rfl) (fun _ _ _ h => h) (Or.inl ⟨by rfl, ?_⟩) (by assumption) ?_
    rotate_left
    · (intro w' hSw; (try dsimp only at hSw); (try simp only [List.getElem_toArray, List.getElem_cons_zero]); go_simp; try (with_reducible rfl))
    simp only [Act.put, List.getElem_toArray, List.getElem_cons_zero, List.setIfInBounds_toArray, List.set_cons_zero, List.set_cons_succ]
    refine wpAnyG_take (v := ?_) 1 (by rfl) (by kernel_rfl) (by kernel_rfl) (by kernel_rfl) (by kernel_rfl) (fun _ _ _ h => h) (Or.inl ⟨by rfl, ?_⟩) (by assumption) ?_
    rotate_left
    · (intro w' hSw; (try dsimp only at hSw); (try simp only [List.getElem_toArray, List.getElem_cons_succ, List.getElem_cons_zero]); go_simp; try (with_reducible rfl))
    simp only [Act.put, List.getElem_toArray, List.getElem_cons_succ, List.getElem_cons_zero, List.setIfInBounds_toArray, List.set_cons_zero, List.set_cons_succ]
    refine wpAnyG_take (v := ?_) 2 (by rfl) (by kernel_rfl) (by kernel_rfl) (by kernel_rfl) (by kernel_rfl) (fun _ _ _ h => h) (Or.inl ⟨by rfl, ?_⟩) (by assumption) ?_
    rotate_left
    · (intro w' hSw; (try dsimp only at hSw); (try simp only [List.getElem_toArray, List.getElem_cons_succ, List.getElem_cons_zero]); go_simp; try (with_reducible rfl))
    simp only [Act.put, List.getElem_toArray, List.getElem_cons_succ, List.getElem_cons_zero, List.setIfInBounds_toArray, List.set_cons_zero, List.set_cons_succ]
    refine wpAnyG_take (v := ?_) 4 (by rfl) (by kernel_rfl) (by kernel_rfl) (by kernel_rfl) (by kernel_rfl) (fun _ _ _ h => h) (Or.inl ⟨by rfl, ?_⟩) (by assumption) ?_
    rotate_left
    · (intro w' hSw; (try dsimp only at hSw); (try simp only [List.getElem_toArray, List.getElem_cons_succ, List.getElem_cons_zero]); go_simp; try (with_reducible rfl))
    simp only [Act.put, List.getElem_toArray, List.getElem_cons_succ, List.getElem_cons_zero, List.setIfInBounds_toArray, List.set_cons_zero, List.set_cons_succ]
    refine wpAnyG_take (v := ?_) 5 (by rfl) (by kernel_rfl) (by kernel_rfl) (by kernel_rfl) (by kernel_rfl) (fun _ _ _ h => h) (Or.inl ⟨by rfl, ?_⟩) (by assumption) ?_
    rotate_left
    · (intro w' hSw; (try dsimp only at hSw); (try simp only [List.getElem_toArray, List.getElem_cons_succ, List.getElem_cons_zero]); go_simp; try (with_reducible rfl))
    simp only [Act.put, List.getElem_toArray, List.getElem_cons_succ, List.getElem_cons_zero, List.setIfInBounds_toArray, List.set_cons_zero, List.set_cons_succ]
    refine wpAnyG_take (v := ?_) 6 (by rfl) (by kernel_rfl) (by kernel_rfl) (by kernel_rfl) (by kernel_rfl) (fun _ _ _ h => h) (Or.inl ⟨by rfl, ?_⟩) (by assumption) ?_
    rotate_left
    · (intro w' hSw; (try dsimp only at hSw); (try simp only [List.getElem_toArray, List.getElem_cons_succ, List.getElem_cons_zero]); go_simp; try (with_reducible rfl))
    simp only [Act.put, List.getElem_toArray, List.getElem_cons_succ, List.getElem_cons_zero, List.setIfInBounds_toArray, List.set_cons_zero, List.set_cons_succ]
    refine wpAnyG_ready [3] (by kernel_rfl) (by simp) ?_
    refine AllReadyG.cons 3 (by rfl) (fun K hK => ?_) ?_
    · simp only [List.getElem_toArray, List.getElem_cons_succ, List.getElem_cons_zero]
      go_simp
      go_at_call 15
      refine (unhide HRp _ _ _ _ hbq hX).mono ?_
      rintro e wc1 ⟨rfl, hlc1⟩
      have hbc1 := unhide HTR _ _ hbq hlc1
      replace hX := Ints.below hX hlc1
      replace hW := Ints.below hW hlc1
      replace hO := own_below hO hlc1
      refine hK.out _ _ (unhide HBX _ hbc1).1 (fun _ => ?_)
      clear hK K
      try simp only [Act.put, List.setIfInBounds_toArray, List.set_cons_zero, List.set_cons_succ]
      refine wpAnyG_ready [7] (by kernel_rfl) (by simp) ?_
      refine AllReadyG.cons 7 (by rfl) (fun K hK => ?_) ?_
      · simp only [List.getElem_toArray, List.getElem_cons_succ, List.getElem_cons_zero]
        go_simp
        go_at_call 20
        refine (unhide HRr _ _ _ _ hbc1 hX).mono ?_
        rintro e wc2 ⟨rfl, hlc2⟩
        have hbc2 := unhide HTR _ _ hbc1 hlc2
        replace hX := Ints.below hX hlc2
        replace hW := Ints.below hW hlc2
        replace hO := own_below hO hlc2
        refine hK.out _ _ (unhide HBX _ hbc2).1 (fun _ => ?_)
        clear hK K
        try simp only [Act.put, List.setIfInBounds_toArray, List.set_cons_zero, List.set_cons_succ]
        refine wpAnyG_take (v := ?_) 8 (by rfl) (by kernel_rfl) (by kernel_rfl) (by kernel_rfl) (by kernel_rfl) (fun _ _ _ h => h) (Or.inl ⟨by rfl, ?_⟩) (by assumption) ?_
        rotate_left
        · (intro w' hSw; (try dsimp only at hSw); (try simp only [List.getElem_toArray, List.getElem_cons_succ, List.getElem_cons_zero]); go_simp; try (with_reducible rfl))
        simp only [Act.put, List.getElem_toArray, List.getElem_cons_succ, List.getElem_cons_zero, List.setIfInBounds_toArray, List.set_cons_zero, List.set_cons_succ]
        refine wpAnyG_take (v := ?_) 9 (by rfl) (by kernel_rfl) (by kernel_rfl) (by kernel_rfl) (by kernel_rfl) (fun _ _ _ h => h) (Or.inl ⟨by rfl, ?_⟩) (by assumption) ?_
        rotate_left
        · (intro w' hSw; (try dsimp only at hSw); (try simp only [List.getElem_toArray, List.getElem_cons_succ, List.getElem_cons_zero]); go_simp; try (with_reducible rfl))
        simp only [Act.put, List.getElem_toArray, List.getElem_cons_succ, List.getElem_cons_zero, List.setIfInBounds_toArray, List.set_cons_zero, List.set_cons_succ]
        refine wpAnyG_take (v := ?_) 10 (by rfl) (by kernel_rfl) (by kernel_rfl) (by kernel_rfl) (by kernel_rfl) (fun _ _ _ h => h) (Or.inl ⟨by rfl, ?_⟩) (by assumption) ?_
        rotate_left
        · (intro w' hSw; (try dsimp only at hSw); (try simp only [List.getElem_toArray, List.getElem_cons_succ, List.getElem_cons_zero]); go_simp; try (with_reducible rfl))
        simp only [Act.put, List.getElem_toArray, List.getElem_cons_succ, List.getElem_cons_zero, List.setIfInBounds_toArray, List.set_cons_zero, List.set_cons_succ]
        refine wpAnyG_take (v := ?_) 11 (by rfl) (by kernel_rfl) (by kernel_rfl) (by kernel_rfl) (by kernel_rfl) (fun _ _ _ h => h) (Or.inl ⟨by rfl, ?_⟩) (by assumption) ?_
        rotate_left
        · (intro w' hSw; (try dsimp only at hSw); (try simp only [List.getElem_toArray, List.getElem_cons_succ, List.getElem_cons_zero]); go_simp; try (with_reducible rfl))
        simp only [Act.put, List.getElem_toArray, List.getElem_cons_succ, List.getElem_cons_zero, List.setIfInBounds_toArray, List.set_cons_zero, List.set_cons_succ]
        refine wpAnyG_take (v := ?_) 12 (by rfl) (by kernel_rfl) (by kernel_rfl) (by kernel_rfl) (by kernel_rfl) (fun _ _ _ h => h) (Or.inl ⟨by rfl, ?_⟩) (by assumption) ?_
        rotate_left
        · (intro w' hSw; (try dsimp only at hSw); (try simp only [List.getElem_toArray, List.getElem_cons_succ, List.getElem_cons_zero]); go_simp; try (with_reducible rfl))
        simp only [Act.put, List.getElem_toArray, List.getElem_cons_succ, List.getElem_cons_zero, List.setIfInBounds_toArray, List.set_cons_zero, List.set_cons_succ]
        refine wpAnyG_take (v := ?_) 14 (by rfl) (by kernel_rfl) (by kernel_rfl) (by kernel_rfl) (by kernel_rfl) (fun _ _ _ h => h) (Or.inl ⟨by rfl, ?_⟩) (by assumption) ?_
        rotate_left
        · (intro w' hSw; (try dsimp only at hSw); (try simp only [List.getElem_toArray, List.getElem_cons_succ, List.getElem_cons_zero]); go_simp; try (with_reducible rfl))
        simp only [Act.put, List.getElem_toArray, List.getElem_cons_succ, List.getElem_cons_zero, List.setIfInBounds_toArray, List.set_cons_zero, List.set_cons_succ]
        refine wpAnyG_take (v := ?_) 15 (by rfl) (by kernel_rfl) (by kernel_rfl) (by kernel_rfl) (by kernel_rfl) (fun _ _ _ h => h) (Or.inl ⟨by rfl, ?_⟩) (by assumption) ?_
        rotate_left
        · (intro w' hSw; (try dsimp only at hSw); (try simp only [List.getElem_toArray, List.getElem_cons_succ, List.getElem_cons_zero]); go_simp; try (with_reducible rfl))
        simp only [Act.put, List.getElem_toArray, List.getElem_cons_succ, List.getElem_cons_zero, List.setIfInBounds_toArray, List.set_cons_zero, List.set_cons_succ]
        refine wpAnyG_take (v := ?_) 16 (by rfl) (by kernel_rfl) (by kernel_rfl) (by kernel_rfl) (by kernel_rfl) (fun _ _ _ h => h) (Or.inl ⟨by rfl, ?_⟩) (by assumption) ?_
        rotate_left
        · (intro w' hSw; (try dsimp only at hSw); (try simp only [List.getElem_toArray, List.getElem_cons_succ, List.getElem_cons_zero]); go_simp; try (with_reducible rfl))
        simp only [Act.put, List.getElem_toArray, List.getElem_cons_succ, List.getElem_cons_zero, List.setIfInBounds_toArray, List.set_cons_zero, List.set_cons_succ]
        refine wpAnyG_ready [13] (by kernel_rfl) (by simp) ?_
        refine AllReadyG.cons 13 (by rfl) (fun K hK => ?_) ?_
        · simp only [List.getElem_toArray, List.getElem_cons_succ, List.getElem_cons_zero]
          go_simp
          go_at_call 15
          refine (unhide HRp _ _ _ _ hbc2 hW).mono ?_
          rintro e wc3 ⟨rfl, hlc3⟩
          have hbc3 := unhide HTR _ _ hbc2 hlc3
          replace hX := Ints.below hX hlc3
          replace hW := Ints.below hW hlc3
          replace hO := own_below hO hlc3
          refine hK.out _ _ (unhide HBX _ hbc3).1 (fun _ => ?_)
          clear hK K
          try simp only [Act.put, List.setIfInBounds_toArray, List.set_cons_zero, List.set_cons_succ]
          refine wpAnyG_ready [17] (by kernel_rfl) (by simp) ?_
          refine AllReadyG.cons 17 (by rfl) (fun K hK => ?_) ?_
          · simp only [List.getElem_toArray, List.getElem_cons_succ, List.getElem_cons_zero]
            go_simp
            go_at_call 20
            refine (unhide HRr _ _ _ _ hbc3 hW).mono ?_
            rintro e wc4 ⟨rfl, hlc4⟩
            have hbc4 := unhide HTR _ _ hbc3 hlc4
            replace hX := Ints.below hX hlc4
            replace hW := Ints.below hW hlc4
            replace hO := own_below hO hlc4
            refine hK.out _ _ (unhide HBX _ hbc4).1 (fun _ => ?_)
            clear hK K
            try simp only [Act.put, List.setIfInBounds_toArray, List.set_cons_zero, List.set_cons_succ]
            refine wpAnyG_take (v := ?_) 18 (by rfl) (by kernel_rfl) (by kernel_rfl) (by kernel_rfl) (by kernel_rfl) (fun _ _ _ h => h) (Or.inl ⟨by rfl, ?_⟩) (by assumption) ?_
            rotate_left
            · (intro w' hSw; (try dsimp only at hSw); (try simp only [List.getElem_toArray, List.getElem_cons_succ, List.getElem_cons_zero]); go_simp; try (with_reducible rfl))
            simp only [Act.put, List.getElem_toArray, List.getElem_cons_succ, List.getElem_cons_zero, List.setIfInBounds_toArray, List.set_cons_zero, List.set_cons_succ]
            refine wpAnyG_take (v := ?_) 19 (by rfl) (by kernel_rfl) (by kernel_rfl) (by kernel_rfl) (by kernel_rfl) (fun _ _ _ h => h) (Or.inl ⟨by rfl, ?_⟩) (by assumption) ?_
            rotate_left
            · (intro w' hSw; (try dsimp only at hSw); (try simp only [List.getElem_toArray, List.getElem_cons_succ, List.getElem_cons_zero]); go_simp; try (with_reducible rfl))
            simp only [Act.put, List.getElem_toArray, List.getElem_cons_succ, List.getElem_cons_zero, List.setIfInBounds_toArray, List.set_cons_zero, List.set_cons_succ]
            refine wpAnyG_take (v := ?_) 20 (by rfl) (by kernel_rfl) (by kernel_rfl) (by kernel_rfl) (by kernel_rfl) (fun _ _ _ h => h) (Or.inl ⟨by rfl, ?_⟩) (by assumption) ?_
            rotate_left
            · (intro w' hSw; (try dsimp only at hSw); (try simp only [List.getElem_toArray, List.getElem_cons_succ, List.getElem_cons_zero]); go_simp; try (with_reducible rfl))
            simp only [Act.put, List.getElem_toArray, List.getElem_cons_succ, List.getElem_cons_zero, List.setIfInBounds_toArray, List.set_cons_zero, List.set_cons_succ]
            refine wpAnyG_take (v := ?_) 21 (by rfl) (by kernel_rfl) (by kernel_rfl) (by kernel_rfl) (by kernel_rfl) (fun _ _ _ h => h) (Or.inl ⟨by rfl, ?_⟩) (by assumption) ?_
            rotate_left
            · (intro w' hSw; (try dsimp only at hSw); (try simp only [List.getElem_toArray, List.getElem_cons_succ, List.getElem_cons_zero]); go_simp; try (with_reducible rfl))
            simp only [Act.put, List.getElem_toArray, List.getElem_cons_succ, List.getElem_cons_zero, List.setIfInBounds_toArray, List.set_cons_zero, List.set_cons_succ]
            refine wpAnyG_take (v := ?_) 22 (by rfl) (by kernel_rfl) (by kernel_rfl) (by kernel_rfl) (by kernel_rfl) (fun _ _ _ h => h) (Or.inl ⟨by rfl, ?_⟩) (by assumption) ?_
            rotate_left
            · (intro w' hSw; (try dsimp only at hSw); (try simp only [List.getElem_toArray, List.getElem_cons_succ, List.getElem_cons_zero]); go_simp; try (with_reducible rfl))
            simp only [Act.put, List.getElem_toArray, List.getElem_cons_succ, List.getElem_cons_zero, List.setIfInBounds_toArray, List.set_cons_zero, List.set_cons_succ]
            refine wpAnyG_take (v := ?_) 23 (by rfl) (by kernel_rfl) (by kernel_rfl) (by kernel_rfl) (by kernel_rfl) (fun _ _ _ h => h) (Or.inl ⟨by rfl, ?_⟩) (by assumption) ?_
            rotate_left
            · (intro w' hSw; (try dsimp only at hSw); (try simp only [List.getElem_toArray, List.getElem_cons_succ, List.getElem_cons_zero]); go_simp; try (with_reducible rfl))
            simp only [Act.put, List.getElem_toArray, List.getElem_cons_succ, List.getElem_cons_zero, List.setIfInBounds_toArray, List.set_cons_zero, List.set_cons_succ]
            refine wpAnyG_take (v := ?_) 25 (by rfl) (by kernel_rfl) (by kernel_rfl) (by kernel_rfl) (by kernel_rfl) (fun _ _ _ h => h) (Or.inl ⟨by rfl, ?_⟩) (by assumption) ?_
            rotate_left
            · (intro w' hSw; (try dsimp only at hSw); (try simp only [List.getElem_toArray, List.getElem_cons_succ, List.getElem_cons_zero]); go_simp; try (with_reducible rfl))
            simp only [Act.put, List.getElem_toArray, List.getElem_cons_succ, List.getElem_cons_zero, List.setIfInBounds_toArray, List.set_cons_zero, List.set_cons_succ]
            refine wpAnyG_take (v := ?_) 26 (by rfl) (by kernel_rfl) (by kernel_rfl) (by kernel_rfl) (by kernel_rfl) (fun _ _ _ h => h) (Or.inl ⟨by rfl, ?_⟩) (by assumption) ?_
            rotate_left
            · (intro w' hSw; (try dsimp only at hSw); (try simp only [List.getElem_toArray, List.getElem_cons_succ, List.getElem_cons_zero]); go_simp; try (with_reducible rfl))
            simp only [Act.put, List.getElem_toArray, List.getElem_cons_succ, List.getElem_cons_zero, List.setIfInBounds_toArray, List.set_cons_zero, List.set_cons_succ]
            refine wpAnyG_take (v := ?_) 27 (by rfl) (by kernel_rfl) (by kernel_rfl) (by kernel_rfl) (by kernel_rfl) (fun _ _ _ h => h) (Or.inl ⟨by rfl, ?_⟩) (by assumption) ?_
            rotate_left
            · (intro w' hSw; (try dsimp only at hSw); (try simp only [List.getElem_toArray, List.getElem_cons_succ, List.getElem_cons_zero]); go_simp; try (with_reducible rfl))
            simp only [Act.put, List.getElem_toArray, List.getElem_cons_succ, List.getElem_cons_zero, List.setIfInBounds_toArray, List.set_cons_zero, List.set_cons_succ]
            refine wpAnyG_ready [24] (by kernel_rfl) (by simp) ?_
            refine AllReadyG.cons 24 (by rfl) (fun K hK => ?_) ?_
            · simp only [List.getElem_toArray, List.getElem_cons_succ, List.getElem_cons_zero]
              go_simp
              go_at_call 15
              refine (unhide HRp _ _ _ _ hbc4 (OwnI.ints hO)).mono ?_
              rintro e wc5 ⟨rfl, hlc5⟩
              have hbc5 := unhide HTR _ _ hbc4 hlc5
              replace hX := Ints.below hX hlc5
              replace hW := Ints.below hW hlc5
              replace hO := own_below hO hlc5
              refine hK.out _ _ (unhide HBX _ hbc5).1 (fun _ => ?_)
              clear hK K
              try simp only [Act.put, List.setIfInBounds_toArray, List.set_cons_zero, List.set_cons_succ]
              refine wpAnyG_ready [28] (by kernel_rfl) (by simp) ?_
              refine AllReadyG.cons 28 (by rfl) (fun K hK => ?_) ?_
              · simp only [List.getElem_toArray, List.getElem_cons_succ, List.getElem_cons_zero]
                go_simp
                go_at_call 20
                refine (unhide HRr _ _ _ _ hbc5 (OwnI.ints hO)).mono ?_
                rintro e wc6 ⟨rfl, hlc6⟩
                have hbc6 := unhide HTR _ _ hbc5 hlc6
                replace hX := Ints.below hX hlc6
                replace hW := Ints.below hW hlc6
                replace hO := own_below hO hlc6
                refine hK.out _ _ (unhide HBX _ hbc6).1 (fun _ => ?_)
                clear hK K
                try simp only [Act.put, List.setIfInBounds_toArray, List.set_cons_zero, List.set_cons_succ]
                refine wpAnyG_take (v := ?_) 29 (by rfl) (by kernel_rfl) (by kernel_rfl) (by kernel_rfl) (by kernel_rfl) (fun _ _ _ h => h) (Or.inl ⟨by rfl, ?_⟩) (by assumption) ?_
                rotate_left
                · (intro w' hSw; (try dsimp only at hSw); (try simp only [List.getElem_toArray, List.getElem_cons_succ, List.getElem_cons_zero]); go_simp; try (with_reducible rfl))
                simp only [Act.put, List.getElem_toArray, List.getElem_cons_succ, List.getElem_cons_zero, List.setIfInBounds_toArray, List.set_cons_zero, List.set_cons_succ]
                refine wpAnyG_take (v := ?_) 30 (by rfl) (by kernel_rfl) (by kernel_rfl) (by kernel_rfl) (by kernel_rfl) (fun _ _ _ h => h) (Or.inl ⟨by rfl, ?_⟩) (by assumption) ?_
                rotate_left
                · (intro w' hSw; (try dsimp only at hSw); (try simp only [List.getElem_toArray, List.getElem_cons_succ, List.getElem_cons_zero]); go_simp; try (with_reducible rfl))
                simp only [Act.put, List.getElem_toArray, List.getElem_cons_succ, List.getElem_cons_zero, List.setIfInBounds_toArray, List.set_cons_zero, List.set_cons_succ]
                refine wpAnyG_take (v := ?_) 31 (by rfl) (by kernel_rfl) (by kernel_rfl) (by kernel_rfl) (by kernel_rfl) (fun _ _ _ h => h) (Or.inl ⟨by rfl, ?_⟩) (by assumption) ?_
                rotate_left
                · (intro w' hSw; (try dsimp only at hSw); (try simp only [List.getElem_toArray, List.getElem_cons_succ, List.getElem_cons_zero]); go_simp; try (with_reducible rfl))
                simp only [Act.put, List.getElem_toArray, List.getElem_cons_succ, List.getElem_cons_zero, List.setIfInBounds_toArray, List.set_cons_zero, List.set_cons_succ]
                refine wpAnyG_take (v := ?_) 32 (by rfl) (by kernel_rfl) (by kernel_rfl) (by kernel_rfl) (by kernel_rfl) (fun _ _ _ h => h) (Or.inl ⟨by rfl, ?_⟩) (by assumption) ?_
                rotate_left
                · (intro w' hSw; (try dsimp only at hSw); (try simp only [List.getElem_toArray, List.getElem_cons_succ, List.getElem_cons_zero]); go_simp; try (with_reducible rfl))
                simp only [Act.put, List.getElem_toArray, List.getElem_cons_succ, List.getElem_cons_zero, List.setIfInBounds_toArray, List.set_cons_zero, List.set_cons_succ]
                refine wpAnyG_take (v := ?_) 33 (by rfl) (by kernel_rfl) (by kernel_rfl) (by kernel_rfl) (by kernel_rfl) (fun _ _ _ h => h) (Or.inl ⟨by rfl, ?_⟩) (by assumption) ?_
                rotate_left
                · (intro w' hSw; (try dsimp only at hSw); (try simp only [List.getElem_toArray, List.getElem_cons_succ, List.getElem_cons_zero]); go_simp; try (with_reducible rfl))
                simp only [Act.put, List.getElem_toArray, List.getElem_cons_succ, List.getElem_cons_zero, List.setIfInBounds_toArray, List.set_cons_zero, List.set_cons_succ]
                refine wpAnyG_take (v := ?_) 36 (by rfl) (by kernel_rfl) (by kernel_rfl) (by kernel_rfl) (by kernel_rfl) (fun _ _ _ h => h) (Or.inl ⟨by rfl, ?_⟩) (by assumption) ?_
                rotate_left
                · (intro w' hSw; (try dsimp only at hSw); (try simp only [List.getElem_toArray, List.getElem_cons_succ, List.getElem_cons_zero]); go_simp; try (with_reducible rfl))
                simp only [Act.put, List.getElem_toArray, List.getElem_cons_succ, List.getElem_cons_zero, List.setIfInBounds_toArray, List.set_cons_zero, List.set_cons_succ]
                refine wpAnyG_ready [34] (by kernel_rfl) (by simp) ?_
                refine AllReadyG.cons 34 (by rfl) (fun K hK => ?_) ?_
                · simp only [List.getElem_toArray, List.getElem_cons_succ, List.getElem_cons_zero]
                  go_simp
                  refine hK.out _ _ (unhide HBX _ (hbc6.alloc (unhide HBX _ hbc6).2.2.2.1 _)).1 (fun _ => ?_)
                  clear hK K
                  try simp only [Act.put, List.setIfInBounds_toArray, List.set_cons_zero, List.set_cons_succ]
                  have hbl : Below (w3.heap.size + 1) W4 (wc6.alloc (.cells #[.int .i64 (-1)] 3)) := hbc6.alloc (unhide HBX _ hbc6).2.2.2.1 _
                  have hOl : OwnI (wc6.alloc (.cells #[.int .i64 (-1)] 3)) (w3.heap.size + 1) (.slice ua (Sp.span q (r : Int)).length uc) (Sp.span q (r : Int)) := World.ownsRow.alloc hO _
                  have hLl : Ints (wc6.alloc (.cells #[.int .i64 (-1)] 3)) (.slice (some ⟨wc6.heap.size, 0, none⟩) 1 1) [-1] := OwnI.ints (own_lit wc6 0 wc6.heap.size 1 [-1] rfl rfl (Nat.zero_le _) (by decide))
                  generalize (wc6.alloc (.cells #[.int .i64 (-1)] 3)) = wl at *
                  refine wpAnyG_ready [35] (by kernel_rfl) (by simp) ?_
                  refine AllReadyG.cons 35 (by rfl) (fun K hK => ?_) ?_
                  · simp only [List.getElem_toArray, List.getElem_cons_succ, List.getElem_cons_zero]
                    refine if_wanted (by rfl) (wp_app (w := wl) _ _ (by rfl) (w3.heap.size + 1) _ _ (Sp.span q (r : Int)) [-1] (by rfl) (by rfl) hOl hLl (N + 1) (by rw [unhide HUl]; rfl) (by omega) ((unhide HBX _ hbl).2.2.2.1) ?_)
                    intro a5 c5 wa hOa hla hga
                    have hba := hbl.trans hla
                    have hIa := OwnI.ints hOa
                    refine hK.out _ _ (unhide HBX _ hba).1 (fun _ => ?_)
                    clear hK K
                    try simp only [Act.put, List.setIfInBounds_toArray, List.set_cons_zero, List.set_cons_succ]
                    clear hOl hLl hOa hla hga
                    refine wpAnyG_ready [37] (by kernel_rfl) (by simp) ?_
                    refine AllReadyG.cons 37 (by rfl) (fun K hK => ?_) ?_
                    · simp only [List.getElem_toArray, List.getElem_cons_succ, List.getElem_cons_zero]
                      go_simp
                      go_at_call 15
                      refine (unhide HRp _ _ _ _ hba hIa).mono ?_
                      rintro e wc7 ⟨rfl, hlc7⟩
                      have hbc7 := unhide HTR _ _ hba hlc7
                      rw [unhide HNo]
                      refine hK.out _ _ (unhide HBX _ hbc7).1 (fun _ => ?_)
                      clear hK K
                      try simp only [Act.put, List.setIfInBounds_toArray, List.set_cons_zero, List.set_cons_succ]
                      refine wpAnyG_take (v := ?_) 38 (by rfl) (by kernel_rfl) (by kernel_rfl) (by kernel_rfl) (by kernel_rfl) (fun _ _ _ h => h) (Or.inl ⟨by rfl, ?_⟩) (by assumption) ?_
                      rotate_left
                      · (intro w' hSw; (try dsimp only at hSw); (try simp only [List.getElem_toArray, List.getElem_cons_succ, List.getElem_cons_zero]); go_simp; try (with_reducible rfl))
                      simp only [Act.put, List.getElem_toArray, List.getElem_cons_succ, List.getElem_cons_zero, List.setIfInBounds_toArray, List.set_cons_zero, List.set_cons_succ]
                      refine wpAnyG_take (v := ?_) 39 (by rfl) (by kernel_rfl) (by kernel_rfl) (by kernel_rfl) (by kernel_rfl) (fun _ _ _ h => h) (Or.inl ⟨by rfl, ?_⟩) (by assumption) ?_
                      rotate_left
                      · (intro w' hSw; (try dsimp only at hSw); (try simp only [List.getElem_toArray, List.getElem_cons_succ, List.getElem_cons_zero]); go_simp; try (with_reducible rfl))
                      simp only [Act.put, List.getElem_toArray, List.getElem_cons_succ, List.getElem_cons_zero, List.setIfInBounds_toArray, List.set_cons_zero, List.set_cons_succ]
                      refine wpAnyG_take (v := ?_) 40 (by rfl) (by kernel_rfl) (by kernel_rfl) (by kernel_rfl) (by kernel_rfl) (fun _ _ _ h => h) (Or.inl ⟨by rfl, ?_⟩) (by assumption) ?_
                      rotate_left
                      · (intro w' hSw; (try dsimp only at hSw); (try simp only [List.getElem_toArray, List.getElem_cons_succ, List.getElem_cons_zero]); go_simp; try (with_reducible rfl))
                      simp only [Act.put, List.getElem_toArray, List.getElem_cons_succ, List.getElem_cons_zero, List.setIfInBounds_toArray, List.set_cons_zero, List.set_cons_succ]
                      refine wpAnyG_done (by kernel_rfl) ?_ _
                      refine NoPanic.normal ?_
                      go_wp2
                      rw [unhide HP]
                      exact ⟨rfl, (unhide HBX _ hbc7).2.2.1⟩
                    exact AllReadyG.nil
                  exact AllReadyG.nil
                exact AllReadyG.nil
              exact AllReadyG.nil
            exact AllReadyG.nil
          exact AllReadyG.nil
        exact AllReadyG.nil
      exact AllReadyG.nil
    exact AllReadyG.nil
end Go.Proofs.Ytenffkplneimlaa


/- What a tree leaves hangs all faces together; joined one by one, each edge of it joins two (P402). -/
namespace Go.Proofs.Ytenffkplneimlaa
open Go Go.RowKit

theorem Sp.cotree {q : Sp.Net} (h : Sp.DualQ q) {U : List Int} {r N : Nat} (hN : q.n = (N : Int)) (hr : Sp.RowT q.tail U r N) (g : Int → Int)
    (hg : ∀ e, 2 * e < q.tail.length → Sp.usedB U (2 * e) U.length = false → g ((Sp.faces2 q).1.getD (2 * e) 0) = g ((Sp.faces2 q).1.getD (2 * e + 1) 0)) :
    ∀ x y, x < q.tail.length → y < q.tail.length → g ((Sp.faces2 q).1.getD x 0) = g ((Sp.faces2 q).1.getD y 0) := by
  have hev := h.link.ev
  have hF := Sp.faces2_len q
  have hp := h.link.pm
  have hT' : ∀ x ∈ q.tail, 0 ≤ x ∧ x < (N : Int) := fun x hx => by have := h.tb x hx; omega
  -- an edge of no vertex's is none between
  have hfree : ∀ d, d < q.tail.length → (∀ v, v < N → v ≠ r → U.getD v 0 ≠ (d : Int) ∧ U.getD v 0 ≠ ((Sp.oth d : Nat) : Int)) → g ((Sp.faces2 q).1.getD d 0) = g ((Sp.faces2 q).1.getD (Sp.oth d) 0) := by
    intro d hd hv
    have hu : Sp.usedB U (2 * (d / 2)) U.length = false := by
      cases hc : Sp.usedB U (2 * (d / 2)) U.length with
      | false => rfl
      | true =>
        obtain ⟨v, h1, h2⟩ := (Sp.usedB_ex _ _ _).1 hc
        rw [hr.len] at h1
        exfalso
        by_cases e : v = r
        · subst e; rw [hr.rt] at h2; omega
        · have h3 := hv v h1 e
          unfold Sp.oth at h3
          split at h3 <;> omega
    have h1 := hg (d / 2) (by omega) hu
    unfold Sp.oth
    split
    · rw [show 2 * (d / 2) = d by omega] at h1; exact h1
    · rw [show 2 * (d / 2) = d - 1 by omega, show d - 1 + 1 = d by omega] at h1; exact h1.symm
  have key : ∀ m v l, v < N → v ≠ r → Sp.Mn q.tail U (r : Int) l v → N + 1 < l + m → ∀ d0 : Nat, U.getD v 0 = (d0 : Int) → g ((Sp.faces2 q).1.getD d0 0) = g ((Sp.faces2 q).1.getD (Sp.oth d0) 0) := by
    intro m
    induction m with
    | zero =>
      intro v l hv _ hl hlt
      have := hl.2 (N + 1) (by omega)
      rw [(hr.rc v hv).soon (fun y _ => Sp.nx_bd hT' (by omega) y) hv] at this
      cases this
    | succ m ih =>
      intro v l hv hvr hl hlt d0 hd0
      obtain ⟨d0', hd, e1, et⟩ := hr.dart v hv hvr
      obtain rfl : d0' = d0 := by omega
      have hx : d0' < q.next.length := by rw [h.link.nx]; exact hd
      obtain ⟨p1, p2, p3, p4⟩ := hp.per hx
      have hit : itf (Sp.fn q.next) d0' (Sp.per q.next d0') = d0' := by
        have := hp.nth_it hx (Sp.per q.next d0')
        rw [p3] at this
        omega
      have hne : ∀ i, 0 < i → i < Sp.per q.next d0' → itf (Sp.fn q.next) d0' i ≠ d0' := fun i h1 h2 e => p4 i h1 h2 (by rw [hp.nth_it hx, e])
      have hb : ∀ i, itf (Sp.fn q.next) d0' i < q.tail.length := fun i => by
        have := hp.fnP.it hx i
        rw [h.link.nx] at this; exact this
      have htl : ∀ i, q.tail.getD (itf (Sp.fn q.next) d0' i) 0 = (v : Int) := by
        intro i
        induction i with
        | zero => exact et
        | succ i ihi =>
          have h1 := h.pl.vert.inv _ (hb i)
          have b1 := h.tb _ (Sp.getD_mem (l := q.tail) (hb (i + 1)))
          have e : itf (Sp.fn q.next) d0' (i + 1) = Sp.fn q.next (itf (Sp.fn q.next) d0' i) := rfl
          rw [e] at b1 ⊢
          omega
      have hst : ∀ i, 0 < i → i < Sp.per q.next d0' → g ((Sp.faces2 q).1.getD (itf (Sp.fn q.next) d0' (i + 1)) 0) = g ((Sp.faces2 q).1.getD (itf (Sp.fn q.next) d0' i) 0) := by
        intro i h1 h2
        have e : itf (Sp.fn q.next) d0' (i + 1) = Sp.fn q.next (itf (Sp.fn q.next) d0' i) := rfl
        rw [e, h.turn (hb i)]
        have hne' := hne i h1 h2
        have hti := htl i
        have hbi := hb i
        generalize itf (Sp.fn q.next) d0' i = d at *
        by_cases hw : ∃ w, w < N ∧ w ≠ r ∧ U.getD w 0 = ((Sp.oth d : Nat) : Int)
        · obtain ⟨w, w1, w2, w3⟩ := hw
          obtain ⟨lw, hlw⟩ := (hr.rc w w1).least
          have hnx : Sp.nx q.tail U w = v := by rw [hr.nx w3, oth_oth, hti, Int.toNat_natCast]
          have hlw' : l + 1 = lw := by
            cases lw with
            | zero => have := hlw.zero; omega
            | succ lw =>
              have := hlw.next.2
              rw [hnx] at this
              have e : lw = l := by
                rcases Nat.lt_trichotomy lw l with h1 | h1 | h1
                · have := hl.2 lw h1; rw [‹Sp.Mn q.tail U (r : Int) lw v›.1] at this; cases this
                · exact h1
                · have h3 := ‹Sp.Mn q.tail U (r : Int) lw v›.2 l h1; rw [hl.1] at h3; cases h3
              omega
          have := ih w lw w1 w2 hlw (by omega) (Sp.oth d) w3
          rw [oth_oth] at this
          exact this
        · refine (hfree d hbi fun w w1 w2 => ⟨fun e => hne' ?_, fun e => hw ⟨w, w1, w2, e⟩⟩).symm
          obtain ⟨c, -, c1, c2⟩ := hr.dart w w1 w2
          obtain rfl : c = d := by omega
          have : w = v := by omega
          subst this
          omega
      have hch : ∀ i, i < Sp.per q.next d0' → g ((Sp.faces2 q).1.getD (itf (Sp.fn q.next) d0' (i + 1)) 0) = g ((Sp.faces2 q).1.getD (itf (Sp.fn q.next) d0' 1) 0) := by
        intro i
        induction i with
        | zero => intro _; rfl
        | succ i ihi => intro hi; rw [hst (i + 1) (by omega) hi]; exact ihi (by omega)
      have h1 := hch (Sp.per q.next d0' - 1) (by omega)
      rw [show Sp.per q.next d0' - 1 + 1 = Sp.per q.next d0' by omega, hit] at h1
      rw [h1]
      have e : itf (Sp.fn q.next) d0' 1 = Sp.fn q.next d0' := rfl
      rw [e, h.turn hd]
  have hall : ∀ d, d < q.tail.length → g ((Sp.faces2 q).1.getD d 0) = g ((Sp.faces2 q).1.getD (Sp.oth d) 0) := by
    intro d hd
    by_cases hw : ∃ w, w < N ∧ w ≠ r ∧ (U.getD w 0 = (d : Int) ∨ U.getD w 0 = ((Sp.oth d : Nat) : Int))
    · obtain ⟨w, w1, w2, w3⟩ := hw
      obtain ⟨lw, hlw⟩ := (hr.rc w w1).least
      rcases w3 with w3 | w3
      · exact key (N + 2) w lw w1 w2 hlw (by omega) d w3
      · have := key (N + 2) w lw w1 w2 hlw (by omega) (Sp.oth d) w3
        rw [oth_oth] at this
        exact this.symm
    · exact hfree d hd fun w w1 w2 => ⟨fun e => hw ⟨w, w1, w2, .inl e⟩, fun e => hw ⟨w, w1, w2, .inr e⟩⟩
  intro x y hx hy
  have tx := h.tb _ (Sp.getD_mem (l := q.tail) hx)
  have ty := h.tb _ (Sp.getD_mem (l := q.tail) hy)
  have rr := ((h.pl.conn _ tx.1 tx.2).symm hev).trans (h.pl.conn _ ty.1 ty.2)
  have := h.all hx rr y hy rfl
  refine this.ind (p := fun z => g ((Sp.faces2 q).1.getD x 0) = g z) rfl fun d hd _ ih => ?_
  rw [hF] at hd
  rw [ih]
  exact hall d hd
/-- One label becomes another. -/
def Sp.mg (of : List Int) (a b : Int) : List Int := of.map fun x => if x = b then a else x
/-- The labels, when the first i edges have joined. -/
def Sp.un (F l : List Int) (k : Nat) : Nat → List Int
  | 0 => (List.range k).map fun j => ((j : Nat) : Int)
  | i + 1 => Sp.mg (Sp.un F l k i) ((Sp.un F l k i).getD (F.getD (l.getD i 0).toNat 0).toNat 0) ((Sp.un F l k i).getD (F.getD ((l.getD i 0).toNat + 1) 0).toNat 0)
theorem Sp.mg_len (of : List Int) (a b : Int) : (Sp.mg of a b).length = of.length := by simp [Sp.mg]
theorem Sp.mg_get {of : List Int} {a b : Int} {j : Nat} (hj : j < of.length) : (Sp.mg of a b).getD j 0 = if of.getD j 0 = b then a else of.getD j 0 := by
  rw [Sp.getD_eq _ _ (by rw [Sp.mg_len]; exact hj), Sp.getD_eq _ _ hj]
  simp [Sp.mg]
theorem Sp.un_len (F l : List Int) (k : Nat) : ∀ i, (Sp.un F l k i).length = k
  | 0 => by simp [Sp.un]
  | i + 1 => by rw [Sp.un, Sp.mg_len, Sp.un_len F l k i]
/-- Labels that stand for themselves. -/
structure Sp.UnS (of : List Int) (k : Nat) : Prop where
  bd : ∀ j, j < k → 0 ≤ of.getD j 0 ∧ of.getD j 0 < (k : Int)
  rep : ∀ j, j < k → of.getD (of.getD j 0).toNat 0 = of.getD j 0
theorem Sp.UnS.first (k : Nat) : Sp.UnS ((List.range k).map fun j => ((j : Nat) : Int)) k := by
  have e : ∀ j, j < k → ((List.range k).map fun j => ((j : Nat) : Int)).getD j 0 = (j : Int) := fun j hj => by
    rw [Sp.getD_eq _ _ (by simpa using hj)]; simp
  exact ⟨fun j hj => by rw [e j hj]; omega, fun j hj => by rw [e j hj, Int.toNat_natCast, e j hj]⟩
theorem Sp.UnS.step {of : List Int} {k x y : Nat} (h : Sp.UnS of k) (hl : of.length = k) (hx : x < k) (hy : y < k) : Sp.UnS (Sp.mg of (of.getD x 0) (of.getD y 0)) k ∧ Sp.cnt (fun j => decide (of.getD j 0 = (j : Int))) k ≤ Sp.cnt (fun j => decide ((Sp.mg of (of.getD x 0) (of.getD y 0)).getD j 0 = (j : Int))) k + (if of.getD x 0 = of.getD y 0 then 0 else 1) := by
  have hbx := h.bd x hx
  have hby := h.bd y hy
  have hg : ∀ j, j < k → (Sp.mg of (of.getD x 0) (of.getD y 0)).getD j 0 = if of.getD j 0 = of.getD y 0 then of.getD x 0 else of.getD j 0 := fun j hj => Sp.mg_get (by rw [hl]; exact hj)
  constructor
  · refine ⟨fun j hj => ?_, fun j hj => ?_⟩
    · rw [hg j hj]; split
      · exact hbx
      · exact h.bd j hj
    · have hbj := h.bd j hj
      rw [hg j hj]
      split
      · rw [hg _ (by omega), h.rep x hx]
        split <;> rfl
      · rename_i hne
        rw [hg _ (by omega), h.rep j hj, if_neg hne]
  · split
    · rename_i e
      refine Nat.le_of_eq (Sp.cnt_congr k fun j hj => ?_)
      rw [hg j hj, e]
      split
      · rename_i e2; rw [e2]
      · rfl
    · rename_i e
      have hone : Sp.cnt (fun j => decide (j = (of.getD y 0).toNat)) k ≤ 1 := by
        have : ∀ m, Sp.cnt (fun j => decide (j = (of.getD y 0).toNat)) m ≤ if (of.getD y 0).toNat < m then 1 else 0 := by
          intro m
          induction m with
          | zero => simp [Sp.cnt]
          | succ m ih =>
            rw [Sp.cnt_succ]
            simp only [decide_eq_true_eq]
            split at ih <;> split <;> split <;> omega
        have := this k
        split at this <;> omega
      have hadd : ∀ m, m ≤ k → Sp.cnt (fun j => decide (of.getD j 0 = (j : Int))) m ≤ Sp.cnt (fun j => decide ((Sp.mg of (of.getD x 0) (of.getD y 0)).getD j 0 = (j : Int))) m + Sp.cnt (fun j => decide (j = (of.getD y 0).toNat)) m := by
        intro m
        induction m with
        | zero => intro _; simp [Sp.cnt]
        | succ m ih =>
          intro hm
          have := ih (by omega)
          rw [Sp.cnt_succ, Sp.cnt_succ, Sp.cnt_succ, hg m (by omega)]
          simp only [decide_eq_true_eq]
          by_cases e1 : of.getD m 0 = (m : Int)
          · by_cases e2 : m = (of.getD y 0).toNat
            · rw [if_pos e2, if_pos e1]; omega
            · have e3 : ¬ of.getD m 0 = of.getD y 0 := by omega
              rw [if_neg e3, if_pos e1]; omega
          · rw [if_neg e1]; omega
      have := hadd k (Nat.le_refl _)
      omega
theorem Sp.un_st {F l : List Int} {k : Nat} (hF : ∀ x ∈ F, 0 ≤ x ∧ x < (k : Int)) (hl : ∀ x ∈ l, 0 ≤ x ∧ x + 1 < (F.length : Int)) : ∀ i, i ≤ l.length → Sp.UnS (Sp.un F l k i) k ∧
    (∀ j, j < i → (Sp.un F l k i).getD (F.getD (l.getD j 0).toNat 0).toNat 0 = (Sp.un F l k i).getD (F.getD ((l.getD j 0).toNat + 1) 0).toNat 0)
  | 0, _ => ⟨Sp.UnS.first k, fun j hj => by omega⟩
  | i + 1, hi => by
    obtain ⟨h1, h2⟩ := Sp.un_st hF hl i (by omega)
    have hb := hl _ (Sp.getD_mem (l := l) (show i < l.length by omega))
    have hfx := hF _ (Sp.getD_mem (l := F) (show (l.getD i 0).toNat < F.length by omega))
    have hfy := hF _ (Sp.getD_mem (l := F) (show (l.getD i 0).toNat + 1 < F.length by omega))
    have hln := Sp.un_len F l k i
    refine ⟨(h1.step hln (by omega) (by omega)).1, fun j hj => ?_⟩
    rw [Sp.un]
    have hbj := hl _ (Sp.getD_mem (l := l) (show j < l.length by omega))
    have hjx := hF _ (Sp.getD_mem (l := F) (show (l.getD j 0).toNat < F.length by omega))
    have hjy := hF _ (Sp.getD_mem (l := F) (show (l.getD j 0).toNat + 1 < F.length by omega))
    rw [Sp.mg_get (by rw [hln]; omega), Sp.mg_get (by rw [hln]; omega)]
    by_cases hji : j = i
    · subst hji
      rw [if_pos (rfl : (Sp.un F l k j).getD (F.getD ((l.getD j 0).toNat + 1) 0).toNat 0 = _)]
      split <;> rfl
    · rw [h2 j (by omega)]
theorem Sp.un_count {F l : List Int} {k : Nat} (hF : ∀ x ∈ F, 0 ≤ x ∧ x < (k : Int)) (hl : ∀ x ∈ l, 0 ≤ x ∧ x + 1 < (F.length : Int)) (p : Nat) (hp : p < l.length) (heq : (Sp.un F l k p).getD (F.getD (l.getD p 0).toNat 0).toNat 0 = (Sp.un F l k p).getD (F.getD ((l.getD p 0).toNat + 1) 0).toNat 0) : ∀ i, i ≤ l.length → k ≤ Sp.cnt (fun j => decide ((Sp.un F l k i).getD j 0 = (j : Int))) k + (if p < i then i - 1 else i)
  | 0, _ => by
    have e : Sp.cnt (fun j => decide ((Sp.un F l k 0).getD j 0 = (j : Int))) k = Sp.cnt (fun _ => true) k := Sp.cnt_congr k fun j hj => by
      rw [Sp.un, Sp.getD_eq _ _ (by simpa using hj)]; simp
    rw [e]
    have : Sp.cnt (fun _ => true) k = k := by rw [Sp.cnt, List.filter_eq_self.2 (fun _ _ => rfl), List.length_range]
    omega
  | i + 1, hi => by
    have ih := Sp.un_count hF hl p hp heq i (by omega)
    obtain ⟨h1, -⟩ := Sp.un_st hF hl i (by omega)
    have hb := hl _ (Sp.getD_mem (l := l) (show i < l.length by omega))
    have hfx := hF _ (Sp.getD_mem (l := F) (show (l.getD i 0).toNat < F.length by omega))
    have hfy := hF _ (Sp.getD_mem (l := F) (show (l.getD i 0).toNat + 1 < F.length by omega))
    have hs := (h1.step (Sp.un_len F l k i) (show (F.getD (l.getD i 0).toNat 0).toNat < k by omega) (show (F.getD ((l.getD i 0).toNat + 1) 0).toNat < k by omega)).2
    rw [Sp.un]
    by_cases hpi : p = i
    · subst hpi
      rw [if_pos heq] at hs
      split at ih <;> split <;> omega
    · split at hs <;> split at ih <;> split <;> omega
/-- Where edges that hang all together are one fewer than the labels, each joins two. -/
theorem Sp.un_apart {F l : List Int} {k : Nat} (hF : ∀ x ∈ F, 0 ≤ x ∧ x < (k : Int)) (hl : ∀ x ∈ l, 0 ≤ x ∧ x + 1 < (F.length : Int)) (hk : l.length + 1 = k)
    (hon : ∀ c, c < k → ∃ x, x < F.length ∧ F.getD x 0 = (c : Int))
    (hc : ∀ g : Int → Int, (∀ j, j < l.length → g (F.getD (l.getD j 0).toNat 0) = g (F.getD ((l.getD j 0).toNat + 1) 0)) → ∀ x y, x < F.length → y < F.length → g (F.getD x 0) = g (F.getD y 0))
    (p : Nat) (hp : p < l.length) : (Sp.un F l k p).getD (F.getD (l.getD p 0).toNat 0).toNat 0 ≠ (Sp.un F l k p).getD (F.getD ((l.getD p 0).toNat + 1) 0).toNat 0 := by
  intro heq
  have h1 := Sp.un_count hF hl p hp heq l.length (Nat.le_refl _)
  rw [if_pos hp] at h1
  obtain ⟨h2, h3⟩ := Sp.un_st hF hl l.length (Nat.le_refl _)
  have h4 := hc (fun f => (Sp.un F l k l.length).getD f.toNat 0) h3
  have h5 : ∀ a b, a < k → b < k → (Sp.un F l k l.length).getD a 0 = (Sp.un F l k l.length).getD b 0 := by
    intro a b ha hb
    obtain ⟨x, hx, e1⟩ := hon a ha
    obtain ⟨y, hy, e2⟩ := hon b hb
    have := h4 x y hx hy
    simp only [e1, e2, Int.toNat_natCast] at this
    exact this
  generalize Sp.un F l k l.length = of at *
  have h6 : Sp.cnt (fun j => decide (of.getD j 0 = (j : Int))) k ≤ 1 := by
    have e : Sp.cnt (fun j => decide (of.getD j 0 = (j : Int))) k = Sp.cnt (fun j => decide (j = (of.getD 0 0).toNat)) k := Sp.cnt_congr k fun j hj => by
      have e1 := h5 j 0 hj (by omega)
      have e2 := h2.bd 0 (by omega)
      rw [e1]
      by_cases e3 : of.getD 0 0 = (j : Int)
      · rw [decide_eq_true e3, decide_eq_true (by omega)]
      · rw [decide_eq_false e3, decide_eq_false (by omega)]
    rw [e]
    have : ∀ m, Sp.cnt (fun j => decide (j = (of.getD 0 0).toNat)) m ≤ if (of.getD 0 0).toNat < m then 1 else 0 := by
      intro m
      induction m with
      | zero => simp [Sp.cnt]
      | succ m ih =>
        rw [Sp.cnt_succ]
        simp only [decide_eq_true_eq]
        split at ih <;> split <;> split <;> omega
    have := this k
    split at this <;> omega
  omega
end Go.Proofs.Ytenffkplneimlaa


