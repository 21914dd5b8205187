/- What the proof needs, part 15. -/
import Derived.Test.YtenffkplneimlaaL14
/- The law TreeLeft, walked. -/
namespace Go.Proofs.Ytenffkplneimlaa
open Go Go.RowKit

theorem own_getD {w : World} {B g n c : Nat} {l : List Int} (h : OwnI w B (.slice (some ⟨g, 0, none⟩) n c) l) (k : Nat) (hk : k < l.length) : w.cell? ⟨g, k, none⟩ = some (.int .i64 (l.getD k 0)) := by
  rw [own_cell h k hk, Sp.getD_eq _ _ hk]
theorem list_eq_getD {l m : List Int} (h : l.length = m.length) (he : ∀ j, j < l.length → l.getD j 0 = m.getD j 0) : l = m :=
  List.ext_getElem h fun j h1 h2 => by
    have := he j h1
    rw [Sp.getD_eq _ _ h1, Sp.getD_eq _ _ h2] at this
    exact this
set_option maxRecDepth 100000 in
set_option maxHeartbeats 4000000 in
theorem treeLeft_any (ns : List Int) (x : Value) (root : Int) (w : World) (hx : Ints w x ns) :
    Calls Try.prog 5 #[x, .int .i64 root] w fun e w' => e = .returned (.bool true) ∧ Below w.heap.size w w' := by
  obtain ⟨a, c, rfl, hc, hm⟩ := hx.form
  have HPL := hide (fun w' (hb : Below w.heap.size w w') => plane_any ns (.slice a ns.length c) w' (hx.below hb))
  have HOK := hide (Sp.plane_ok ns)
  have HTQ := hide (Sp.treeQ_plane ns)
  have HLF0 := hide (fun (r N : Nat) hN hr => @Sp.leftF_plane ns r N hN hr)
  have HLQ := hide (Sp.linkQ_plane ns)
  generalize Sp.plane ns = q at *
  generalize ns.length = n at *
  clear hx
  obtain ⟨P, hP⟩ : ∃ P : Ending → World → Prop, P = fun e w' => e = .returned (.bool true) ∧ Below w.heap.size w w' := ⟨_, rfl⟩
  rw [← hP]
  have HP := hide hP
  clear hP
  go_enter Try.func5, Try.ntmps5
  go_wp2_with fail
  go_at_call 9
  refine (known4_any w).mono ?_
  rintro e w2 ⟨rfl, hb2⟩
  have Hb2 := hide hb2
  clear hb2
  go_wp2_with fail
  go_at_call 10
  refine (unhide HPL _ (unhide Hb2)).mono ?_
  clear HPL
  rintro e w3 ⟨v, tv, nv, cv, rfl, hnv, hb3⟩
  have hval := hnv.val
  subst hval
  obtain ⟨ta, tc, rfl, htc, htm, HT⟩ := hnv.netI.tail.allD
  obtain ⟨na, nc, rfl, -, -⟩ := hnv.netI.next.form
  obtain ⟨ca, cc, rfl, -, -⟩ := hnv.netI.cap.form
  obtain ⟨W4, hW4⟩ : ∃ W4, W4 = w3.alloc (.cells #[.int .i64 q.n, .slice ta q.tail.length tc, .slice na q.next.length nc, .slice ca q.cap.length cc] 25) := ⟨_, rfl⟩
  obtain ⟨hBX, hs4, hTR⟩ := boxed ((unhide Hb2).trans (hb3.mono (unhide Hb2).size)) hnv.netI W4 hW4
  have HBX := hide hBX
  have HTR := hide hTR
  have Hs4 := hide hs4
  have HW4 := hide hW4
  clear hnv hb3 Hb2 hBX hTR hs4 hW4
  have hb4 : Below (w3.heap.size + 1) W4 W4 := Below.refl _ _
  have HWK := hide ((unhide HOK).walk (by omega))
  have hn0 : 1 ≤ q.n := (unhide HOK).n0
  have hn1 : q.n ≤ 100 := by have := (unhide HOK).n1; omega
  obtain ⟨N, hN⟩ : ∃ N : Nat, q.n = (N : Int) := ⟨q.n.toNat, by omega⟩
  have hN60 : N ≤ 60 := by have := (unhide HTQ).n1; omega
  have hN1 : 1 ≤ N := by omega
  have hl48 : q.tail.length ≤ 48 := (unhide HTQ).le
  have HNN := hide hN
  have HTn : Hid (∀ x ∈ q.tail, 0 ≤ x ∧ x < (N : Int)) := hide fun x hx => by have := (unhide HTQ).tb x hx; omega
  have HIs : Hid (∀ (l : List Int) w' v u, l.length ≤ 1000001 → Ints w' v l → Ints w' u l → Calls Try.prog 13 #[v, u] w' fun e w'' => e = .returned (.bool true) ∧ Below w'.heap.size w' w'') := hide fun l w' v u hl h1 h2 => by
    refine (rInts_any l l v u w' h1 h2 hl hl).mono fun e w'' ⟨a1, a2⟩ => ⟨?_, a2⟩
    rw [a1, decide_eq_true rfl]
  have hnI : (0 : Int) < q.n := by omega
  have HWr := hide (fun w' => within4_any root q.n w' (by omega) (by omega))
  obtain ⟨r, hr⟩ : ∃ r : Nat, root % q.n = (r : Int) := ⟨(root % q.n).toNat, by have := Int.emod_nonneg root (show q.n ≠ 0 by omega); omega⟩
  have hrN : r < N := by have := Int.emod_lt_of_pos root hnI; omega
  rw [hr] at HWr
  clear hr hnI
  have HU0 := hide ((unhide HTQ).span (unhide HNN) hrN)
  have HUF := hide ((unhide HTQ).spanF (unhide HNN) hrN)
  have HSp : Hid (∀ w', Below (w3.heap.size + 1) W4 w' → Calls Try.prog 12 #[.agg #[.int .i64 q.n, .slice ta q.tail.length tc, .slice na q.next.length nc, .slice ca q.cap.length cc], .int .i64 (r : Int)] w' fun e w'' => ∃ lv, e = .returned lv ∧ OwnI w'' w'.heap.size lv (Sp.span q (r : Int)) ∧ Below w'.heap.size w' w'') := hide fun w' hb =>
    span_any q r N _ _ _ _ w' (unhide HBX w' hb).2.1 (unhide HTQ).ev (by omega) (unhide HNN) hN60 (unhide HTQ).nE hrN (unhide HTn)
  have HSr : Hid (∀ w', Below (w3.heap.size + 1) W4 w' → Calls Try.prog 14 #[.agg #[.int .i64 q.n, .slice ta q.tail.length tc, .slice na q.next.length nc, .slice ca q.cap.length cc], .int .i64 (r : Int)] w' fun e w'' => ∃ lv, e = .returned lv ∧ Ints w'' lv (Sp.span q (r : Int)) ∧ Below w'.heap.size w' w'') := hide fun w' hb =>
    (span2_any q r N _ _ _ _ w' (unhide HBX w' hb).2.1 (unhide HTQ).ev (by omega) (unhide HNN) (by omega) hrN (unhide HTn)).mono fun e w'' ⟨lv, a1, a2, a3⟩ => ⟨lv, a1, OwnI.ints a2, a3⟩
  have HRt : Hid (∀ w' uv, Below (w3.heap.size + 1) W4 w' → Ints w' uv (Sp.span q (r : Int)) → Calls Try.prog 15 #[.agg #[.int .i64 q.n, .slice ta q.tail.length tc, .slice na q.next.length nc, .slice ca q.cap.length cc], uv, .int .i64 (r : Int)] w' fun e w'' => e = .returned (.bool true) ∧ Below w'.heap.size w' w'') := hide fun w' uv hb hu => by
    have h := right_any q _ (r : Int) N _ _ _ _ uv w' (unhide HBX w' hb).2.1 hu (unhide HTQ).ev (by omega) (unhide HNN) hN60 (unhide HTQ).nE (unhide HTQ).tb
    rw [unhide HU0] at h
    exact h
  have HLp : Hid (∀ w' uv, Below (w3.heap.size + 1) W4 w' → Ints w' uv (Sp.span q (r : Int)) → Calls Try.prog 16 #[.agg #[.int .i64 q.n, .slice ta q.tail.length tc, .slice na q.next.length nc, .slice ca q.cap.length cc], uv] w' fun e w'' => ∃ lv, e = .returned lv ∧ OwnI w'' w'.heap.size lv (Sp.leftL q (Sp.span q (r : Int))) ∧ Below w'.heap.size w' w'') := hide fun w' uv hb hu =>
    left_any q _ r N _ _ _ _ uv w' (unhide HBX w' hb).2.1 hu (unhide HTQ).ev (by omega) (unhide HNN) hN60 (unhide HTQ).nE (unhide HTQ).tb (unhide HU0)
  have HLr : Hid (∀ w' uv, Below (w3.heap.size + 1) W4 w' → Ints w' uv (Sp.span q (r : Int)) → Calls Try.prog 17 #[.agg #[.int .i64 q.n, .slice ta q.tail.length tc, .slice na q.next.length nc, .slice ca q.cap.length cc], uv] w' fun e w'' => ∃ lv, e = .returned lv ∧ Ints w'' lv (Sp.leftL q (Sp.span q (r : Int))) ∧ Below w'.heap.size w' w'') := hide fun w' uv hb hu =>
    (left2_any q _ _ _ _ _ uv w' (unhide HBX w' hb).2.1 hu (unhide HTQ).ev (by omega) (by rw [(unhide HUF).row.len]; omega)).mono fun e w'' ⟨lv, a1, a2, a3⟩ => ⟨lv, a1, OwnI.ints a2, a3⟩
  have HUl : Hid ((Sp.span q (r : Int)).length = N) := hide (unhide HUF).row.len
  have HLl : Hid ((Sp.leftL q (Sp.span q (r : Int))).length + (N - 1) = q.tail.length / 2) := hide ((unhide HUF).row.left (unhide HTQ).ev)
  have HLF1 := hide (unhide HLF0 r N (unhide HNN) hrN)
  have HFa := hide (fun w' (hb : Below (w3.heap.size + 1) W4 w') => faces2_any q _ _ _ _ w' (unhide HBX w' hb).2.1 (unhide HLQ).nx (by omega) (unhide HLQ).ev (unhide HLQ).pm)
  have HMk := hide (fun w' (hb : Below (w3.heap.size + 1) W4 w') => dmake2_any q _ _ _ _ w' (unhide HBX w' hb).2.1 (unhide HLQ))
  have HKF : Hid ((Sp.faces2 q).2 ≤ 1000) := hide (by have := Sp.faces2_le q; omega)
  obtain ⟨F, hF⟩ : ∃ F, F = (Sp.faces2 q).1 := ⟨_, rfl⟩
  obtain ⟨K, hK⟩ : ∃ K, max (Sp.faces2 q).2 1 = K := ⟨_, rfl⟩
  obtain ⟨L, hL⟩ : ∃ L, L = Sp.leftL q (Sp.span q (r : Int)) := ⟨_, rfl⟩
  have hK1000 : K ≤ 1000 := by have := unhide HKF; omega
  have hFL : F.length ≤ 1000 := by rw [hF, Sp.faces2_len]; omega
  rw [← hF, ← hL, hK] at HLF1
  rw [← hF, hK] at HFa
  rw [← hL] at HLp
  have HK := hide hK
  have HLF := HLF1
  have hLK : L.length ≤ 1000 := by have := (unhide HLF).cnt; omega
  clear hF hK hL HLF1 HLF0 hN HSr HRt HLr HU0 HUF HLl
  obtain ⟨x0, x1, x2, x3⟩ := (unhide HBX W4 hb4).1
  go_upto_region 4 with fail
  rw [← unhide HW4]
  clear x0 x1 x2 x3
  refine wp_region_G (fun w' => w'.cell? ⟨w3.heap.size, 0, none⟩ = some (.int .i64 q.n) ∧ w'.cell? ⟨w3.heap.size, 1, none⟩ = some (.slice ta q.tail.length tc) ∧ w'.cell? ⟨w3.heap.size, 2, none⟩ = some (.slice na q.next.length nc) ∧ w'.cell? ⟨w3.heap.size, 3, none⟩ = some (.slice ca q.cap.length cc)) (fun _ => false) (by kernel_rfl) (unhide HBX _ hb4.drew).1 (fun hHeld => ?_)
  have hbq := hb4.drew
  generalize W4.drew = wq at *
  refine wpAnyG_take (v := ?_) 0 (by rfl) (by kernel_rfl) (by kernel_rfl) (by kernel_rfl) (by kernel_rfl) (fun _ _ _ h => h) (Or.inl ⟨by rfl, ?_⟩) (by assumption) ?_
  rotate_left
  · (intro w' hSw; (try dsimp only at hSw); (try simp only [List.getElem_toArray, List.getElem_cons_zero]); go_simp; try (with_reducible rfl))
  simp only [Act.put, List.getElem_toArray, List.getElem_cons_zero, List.setIfInBounds_toArray, List.set_cons_zero, List.set_cons_succ]
  refine wpAnyG_take (v := ?_) 1 (by rfl) (by kernel_rfl) (by kernel_rfl) (by kernel_rfl) (by kernel_rfl) (fun _ _ _ h => h) (Or.inl ⟨by rfl, ?_⟩) (by assumption) ?_
  rotate_left
  · (intro w' hSw; (try dsimp only at hSw); (try simp only [List.getElem_toArray, List.getElem_cons_succ, List.getElem_cons_zero]); go_simp; try (with_reducible rfl))
  simp only [Act.put, List.getElem_toArray, List.getElem_cons_succ, List.getElem_cons_zero, List.setIfInBounds_toArray, List.set_cons_zero, List.set_cons_succ]
  refine wpAnyG_take (v := ?_) 2 (by rfl) (by kernel_rfl) (by kernel_rfl) (by kernel_rfl) (by kernel_rfl) (fun _ _ _ h => h) (Or.inl ⟨by rfl, ?_⟩) (by assumption) ?_
  rotate_left
  · (intro w' hSw; (try dsimp only at hSw); (try simp only [List.getElem_toArray, List.getElem_cons_succ, List.getElem_cons_zero]); go_simp; try (with_reducible rfl))
  simp only [Act.put, List.getElem_toArray, List.getElem_cons_succ, List.getElem_cons_zero, List.setIfInBounds_toArray, List.set_cons_zero, List.set_cons_succ]
  refine wpAnyG_take (v := ?_) 3 (by rfl) (by kernel_rfl) (by kernel_rfl) (by kernel_rfl) (by kernel_rfl) (fun _ _ _ h => h) (Or.inl ⟨by rfl, ?_⟩) (by assumption) ?_
  rotate_left
  · (intro w' hSw; (try dsimp only at hSw); (try simp only [List.getElem_toArray, List.getElem_cons_succ, List.getElem_cons_zero]); go_simp; try (with_reducible rfl))
  simp only [Act.put, List.getElem_toArray, List.getElem_cons_succ, List.getElem_cons_zero, List.setIfInBounds_toArray, List.set_cons_zero, List.set_cons_succ]
  refine wpAnyG_ready [4] (by kernel_rfl) (by simp) ?_
  refine AllReadyG.cons 4 (by rfl) (fun K hK => ?_) ?_
  · simp only [List.getElem_toArray, List.getElem_cons_succ, List.getElem_cons_zero]
    go_simp
    go_at_call 11
    refine (unhide HWr _).mono ?_
    rintro e wc1 ⟨rfl, hlc1⟩
    have hlc1' := hlc1.symm
    clear hlc1
    subst hlc1'
    refine hK.out _ _ (unhide HBX _ hbq).1 (fun _ => ?_)
    clear hK K
    try simp only [Act.put, List.setIfInBounds_toArray, List.set_cons_zero, List.set_cons_succ]
    refine wpAnyG_ready [5] (by kernel_rfl) (by simp) ?_
    refine AllReadyG.cons 5 (by rfl) (fun K hK => ?_) ?_
    · simp only [List.getElem_toArray, List.getElem_cons_succ, List.getElem_cons_zero]
      go_simp
      go_at_call 12
      refine (unhide HSp _ hbq).mono ?_
      rintro e wc2 ⟨uv, rfl, hO6, hlc2⟩
      have hbc2 := unhide HTR _ _ hbq hlc2
      have hI6 := OwnI.ints hO6
      clear hO6
      refine hK.out _ _ (unhide HBX _ hbc2).1 (fun _ => ?_)
      clear hK K
      try simp only [Act.put, List.setIfInBounds_toArray, List.set_cons_zero, List.set_cons_succ]
      refine wpAnyG_take (v := ?_) 6 (by rfl) (by kernel_rfl) (by kernel_rfl) (by kernel_rfl) (by kernel_rfl) (fun _ _ _ h => h) (Or.inl ⟨by rfl, ?_⟩) (by assumption) ?_
      rotate_left
      · (intro w' hSw; (try dsimp only at hSw); (try simp only [List.getElem_toArray, List.getElem_cons_succ, List.getElem_cons_zero]); go_simp; try (with_reducible rfl))
      simp only [Act.put, List.getElem_toArray, List.getElem_cons_succ, List.getElem_cons_zero, List.setIfInBounds_toArray, List.set_cons_zero, List.set_cons_succ]
      refine wpAnyG_done (by kernel_rfl) ?_ _
      refine NoPanic.normal ?_
      obtain ⟨x0, x1, x2, x3⟩ := (unhide HBX _ hbc2).1
      obtain ⟨w6, hw6⟩ : ∃ w6, w6 = wc2 := ⟨_, rfl⟩
      have hb6 := hbc2
      have hU := hI6
      clear hbc2 hI6 hHeld hlc2
      go_wp2_with fail
      go_at_call 16
      refine (unhide HLp _ _ hb6 hU).mono ?_
      rintro e w7 ⟨lv, rfl, hO7, hl7⟩
      have hb7 := unhide HTR _ _ hb6 hl7
      have hL7 := OwnI.ints hO7
      clear x0 x1 x2 x3 hO7 hl7 hU
      obtain ⟨x0, x1, x2, x3⟩ := (unhide HBX _ hb7).1
      go_wp2_with fail
      go_at_call 21
      refine (unhide HFa _ hb7).mono ?_
      rintro e w8 ⟨fv, rfl, hO8, hl8⟩
      have hb8 := unhide HTR _ _ hb7 hl8
      have hF8 := OwnI.ints hO8
      replace hL7 := hL7.below hl8
      clear x0 x1 x2 x3 hO8 hl8
      obtain ⟨x0, x1, x2, x3⟩ := (unhide HBX _ hb8).1
      go_wp2_with fail
      go_at_call 22
      refine (unhide HMk _ hb8).mono ?_
      rintro e w9 ⟨v2, tvm, nvm, cvm, rfl, hnm, hl9⟩
      have hb9 := unhide HTR _ _ hb8 hl9
      replace hL7 := hL7.below hl9
      replace hF8 := hF8.below hl9
      have hval := hnm.val
      subst hval
      obtain ⟨ma, mc, htvm, -, -⟩ := hnm.tail.form
      obtain ⟨mna, mnc, hnvm, -, -⟩ := hnm.next.form
      obtain ⟨mca, mcc, hcvm, -, -⟩ := hnm.cap.form
      obtain ⟨l1, hl1⟩ : ∃ l1, (Sp.dual q).tail.length = l1 := ⟨_, rfl⟩
      obtain ⟨l2, hl2⟩ : ∃ l2, (Sp.dual q).next.length = l2 := ⟨_, rfl⟩
      obtain ⟨l3, hl3⟩ : ∃ l3, (Sp.dual q).cap.length = l3 := ⟨_, rfl⟩
      rw [hl1] at htvm
      rw [hl2] at hnvm
      rw [hl3] at hcvm
      subst htvm hnvm hcvm
      clear hl1 hl2 hl3
      have hdn : (Sp.dual q).n = (K : Int) := by rw [← unhide HK]; rfl
      rw [hdn]
      have hX := box_new w9 (K : Int) (.slice ma l1 mc) (.slice mna l2 mnc) (.slice mca l3 mcc) _ (Below.refl _ _)
      have hl10 : Below w9.heap.size w9 (w9.alloc (.cells #[.int .i64 (K : Int), .slice ma l1 mc, .slice mna l2 mnc, .slice mca l3 mcc] 25)) := (Below.refl _ _).alloc (Nat.le_refl _) _
      obtain ⟨y0, -, -, -, -⟩ := hX
      have hb10 := unhide HTR _ _ hb9 hl10
      replace hL7 := hL7.below hl10
      replace hF8 := hF8.below hl10
      clear x0 x1 x2 x3 hl9 hnm hdn
      have hkk : ((K : Int) != (K : Int)) = false := by simp
      have hkw : IntKind.i64.wrap ((K : Int) - 1) = ((L.length : Nat) : Int) := by have := (unhide HLF).cnt; rw [IntKind.wrap_i64]; omega
      have hll : (((L.length : Nat) : Int) != ((L.length : Nat) : Int)) = false := by simp
      obtain ⟨la, lc, rfl, -, -, HLc⟩ := hL7.allD
      obtain ⟨fa, fc, hfv, -, -, HFc⟩ := hF8.allD
      subst hfv
      clear hL7 hF8 hl10
      have HB10 := hide hb10
      clear hb6 hb7 hb8 hb9 hb10
      go_upto_region 10 with fail
      generalize w9.alloc (.cells #[.int .i64 (K : Int), .slice ma l1 mc, .slice mna l2 mnc, .slice mca l3 mcc] 25) = w10 at *
      clear y0
      go_wp2_with (at_make; refine wpList_mk rfl _ _ rfl w10.heap.size K rfl rfl (by omega) (Nat.le_refl _) ?_)
      rintro w11 hown11 hb11 -
      have H11 : Hid (Below w10.heap.size w10 w11 ∧ OwnI w11 w10.heap.size (.slice (some ⟨w10.heap.size, 0, none⟩) K K) (List.replicate K 0)) := hide ⟨hb11, hown11⟩
      obtain ⟨G, hG⟩ : ∃ G, w10.heap.size = G := ⟨_, rfl⟩
      have H11' : Hid (Below w10.heap.size w10 w11 ∧ OwnI w11 w10.heap.size (.slice (some ⟨G, 0, none⟩) K K) (List.replicate K 0)) := by rw [← hG]; exact H11
      have HGG : Hid (w10.heap.size ≤ G) := hide (by omega)
      clear hown11 hb11 H11
      rw [hG]
      clear hG
      go_wp2
      go_loopg [12] K (fun g s12 wr => ∃ (i : Nat) (ol : List Int), i + g = K ∧ s12 = .int .i64 (i : Int) ∧ ol.length = K ∧ Hid (Below w10.heap.size w10 wr ∧ OwnI wr w10.heap.size (.slice (some ⟨G, 0, none⟩) K K) ol) ∧ Hid (∀ j : Nat, j < i → ol.getD j 0 = (j : Int)))
      case atStart => exact ⟨0, _, by omega, rfl, List.length_replicate, H11', hide fun j hj => by omega⟩
      case round =>
        clear H11'
        obtain ⟨i, ol, hig, rfl, hol, HI, HJ⟩ := hrel
        cases gk with
        | succ g' =>
          have hiK : i < K := by omega
          have hiI : (i : Int) < (K : Int) := by omega
          have c0 := own_getD (unhide HI).2 i (by omega)
          have f0 := own_frozen (unhide HI).2 i
          have HI2 : Hid (Below w10.heap.size w10 (wr.setCell ⟨G, i, none⟩ (.int .i64 (i : Int))) ∧ OwnI (wr.setCell ⟨G, i, none⟩ (.int .i64 (i : Int))) w10.heap.size (.slice (some ⟨G, 0, none⟩) K K) (ol.set i (i : Int))) := hide ⟨(unhide HI).1.setCell (by exact unhide HGG) _, own_setCell (unhide HI).2 i _⟩
          have HJ2 : Hid (∀ j : Nat, j < i + 1 → (ol.set i (i : Int)).getD j 0 = (j : Int)) := hide fun j hj => by
            rw [getD_set1 _ _ _ _ (by omega)]
            by_cases h : i = j
            · rw [if_pos h, h]
            · rw [if_neg h]; exact unhide HJ j (by omega)
          clear HI HJ
          go_wp2
          go_roundg g'
          case rel => exact ⟨i + 1, _, by omega, by go_num, by rw [List.length_set]; exact hol, HI2, HJ2⟩
          case measure => omega
        | zero =>
          have hiK : K = i := by omega
          subst hiK
          have hun : ol = Sp.un F L K 0 := list_eq_getD (by rw [Sp.un_len, hol]) fun j hj => by
            rw [unhide HJ j (by omega), Sp.un, Sp.getD_eq _ _ (by simp; omega)]
            simp
          have HU0' : Hid (Below w10.heap.size w10 wr ∧ OwnI wr w10.heap.size (.slice (some ⟨G, 0, none⟩) K K) (Sp.un F L K 0)) := hide ⟨(unhide HI).1, by rw [← hun]; exact (unhide HI).2⟩
          clear hun HI HJ hig hol
          go_wp2
          go_loopg [13] L.length (fun g s13 wr => ∃ i : Nat, i + g = L.length ∧ s13 = .int .i64 (i : Int) ∧ Hid (Below w10.heap.size w10 wr ∧ OwnI wr w10.heap.size (.slice (some ⟨G, 0, none⟩) K K) (Sp.un F L K i)))
          case atStart => exact ⟨0, by omega, rfl, HU0'⟩
          case round =>
            clear HU0'
            obtain ⟨i, hig, rfl, HI⟩ := hrel
            cases gk with
            | zero =>
              obtain rfl : i = L.length := by omega
              have HFin := hide (unhide HBX _ (unhide HTR _ _ (unhide HB10) (unhide HI).1)).2.2.1
              clear HI
              go_wp2
              rw [unhide HP]
              exact ⟨rfl, unhide HFin⟩
            | succ g' =>
              have hiL : i < L.length := by omega
              have hiI : (i : Int) < (L.length : Int) := by omega
              obtain ⟨lb, lo, rfl, -, hlc⟩ := unhide HLc i hiL
              have hbi := (unhide HLF).bd _ (Sp.getD_mem (l := L) hiL)
              obtain ⟨e, he⟩ : ∃ e : Nat, L.getD i 0 = (e : Int) := ⟨(L.getD i 0).toNat, by omega⟩
              rw [he] at hbi
              have c1 := hlc wr.drew (unhide HI).1.drew
              have c1' := hlc wr.drew.drew (unhide HI).1.drew.drew
              rw [he] at c1 c1'
              have heF : e + 1 < F.length := by omega
              obtain ⟨fb, fo, rfl, -, hfc⟩ := unhide HFc e (by omega)
              obtain ⟨fb', fo', e3, -, hfc'⟩ := unhide HFc (e + 1) heF
              injection e3 with e3
              injection e3 with e3 e4
              subst e3 e4
              have hbx := (unhide HLF).fb _ (Sp.getD_mem (l := F) (show e < F.length by omega))
              have hby := (unhide HLF).fb _ (Sp.getD_mem (l := F) heF)
              obtain ⟨x, hx⟩ : ∃ x : Nat, F.getD e 0 = (x : Int) := ⟨(F.getD e 0).toNat, by omega⟩
              obtain ⟨y, hy⟩ : ∃ y : Nat, F.getD (e + 1) 0 = (y : Int) := ⟨(F.getD (e + 1) 0).toNat, by omega⟩
              rw [hx] at hbx
              rw [hy] at hby
              have c2 := hfc wr.drew.drew (unhide HI).1.drew.drew
              have c3 := hfc' wr.drew.drew (unhide HI).1.drew.drew
              rw [hx] at c2
              rw [hy] at c3
              have hul := Sp.un_len F L K i
              have c4 : wr.drew.drew.cell? ⟨G, x, none⟩ = some (.int .i64 ((Sp.un F L K i).getD x 0)) := own_getD (own_drew (own_drew (unhide HI).2)) x (by omega)
              have c5 : wr.drew.drew.cell? ⟨G, y, none⟩ = some (.int .i64 ((Sp.un F L K i).getD y 0)) := own_getD (own_drew (own_drew (unhide HI).2)) y (by omega)
              have hap := (unhide HLF).apart i hiL
              have hst : Sp.un F L K (i + 1) = Sp.mg (Sp.un F L K i) ((Sp.un F L K i).getD x 0) ((Sp.un F L K i).getD y 0) := by
                rw [Sp.un, he, Int.toNat_natCast, hx, hy, Int.toNat_natCast, Int.toNat_natCast]
              rw [he, Int.toNat_natCast, hx, hy, Int.toNat_natCast, Int.toNat_natCast] at hap
              have HST := hide hst
              obtain ⟨A, hA⟩ : ∃ A, (Sp.un F L K i).getD x 0 = A := ⟨_, rfl⟩
              obtain ⟨B, hB⟩ : ∃ B, (Sp.un F L K i).getD y 0 = B := ⟨_, rfl⟩
              rw [hA] at c4 hap HST
              rw [hB] at c5 hap HST
              have hab : (A == B) = false := beq_eq_false_iff_ne.2 hap
              have hxI : (x : Int) < (K : Int) := by omega
              have hyI : (y : Int) < (K : Int) := by omega
              have hxK : x < K := by omega
              have hyK : y < K := by omega
              have heI : (e : Int) < (F.length : Int) := by omega
              have heN : e < F.length := by omega
              obtain ⟨d, hd⟩ : ∃ d, e + 1 = d := ⟨_, rfl⟩
              have he1I : (d : Int) < (F.length : Int) := by omega
              have he1L : d < F.length := by omega
              have he1W : IntKind.i64.wrap ((e : Int) + 1) = (d : Int) := by rw [IntKind.wrap_i64]; omega
              have he1D : decide ((F.length : Int) ≤ (d : Int)) = false := decide_eq_false (by omega)
              have he1N : ¬ F.length ≤ d := by omega
              have he1E : decide (F.length ≤ d) = false := decide_eq_false he1N
              have he0D : decide ((e : Int) < 0) = false := decide_eq_false (by omega)
              rw [hd] at c3 heF
              clear hd
              have HC := hide (And.intro c1' (And.intro c2 (And.intro c3 (And.intro c4 c5))))
              have Hi1 : Hid (∀ i1, i = i1 + 1 → ∃ e1 : Nat, e1 < e ∧ wr.drew.cell? ⟨lb, lo + i1, none⟩ = some (.int .i64 (e1 : Int))) := hide fun i1 hi1 => by
                obtain ⟨lb', lo', e5, -, hlc'⟩ := unhide HLc i1 (by omega)
                injection e5 with e5
                injection e5 with e5 e6
                subst e5 e6
                have hb1 := (unhide HLF).bd _ (Sp.getD_mem (l := L) (show i1 < L.length by omega))
                have hu := (unhide HLF).up i1 (by omega)
                rw [← hi1, he] at hu
                refine ⟨(L.getD i1 0).toNat, by omega, ?_⟩
                rw [show (((L.getD i1 0).toNat : Nat) : Int) = L.getD i1 0 by omega]
                exact hlc' _ (unhide HI).1.drew
              have HUL := hide hul
              clear hlc hfc hfc' c1' c2 c3 c4 c5 hap hst hA hB he hx hy hbx hby hbi hul
              go_upto_region 18 with fail
              go_cut [95] (fun s95 wx => s95 = .bool false ∧ wx = wr.drew)
              case first =>
                by_cases hi0 : i = 0
                · have hgt : decide ((0 : Int) < (i : Int)) = false := decide_eq_false (by omega)
                  have hgtE : decide (0 < i) = false := decide_eq_false (by omega)
                  clear hi0
                  refine wp_region_G (fun w' => w'.cell? ⟨lb, lo + i, none⟩ = some (.int .i64 (e : Int))) (fun _ => false) (by kernel_rfl) c1 (fun hHeld => ?_)
                  refine wpAnyG_take (v := ?_) 0 (by rfl) (by kernel_rfl) (by kernel_rfl) (by kernel_rfl) (by kernel_rfl) (fun _ _ _ h => h) (Or.inl ⟨by rfl, ?_⟩) (by assumption) ?_
                  rotate_left
                  · (intro w' hSw; (try dsimp only at hSw); (try simp only [List.getElem_toArray, List.getElem_cons_zero]); go_simp; try (with_reducible rfl))
                  simp only [Act.put, List.getElem_toArray, List.getElem_cons_zero, List.setIfInBounds_toArray, List.set_cons_zero, List.set_cons_succ]
                  refine wpAnyG_take (v := ?_) 1 (by rfl) (by kernel_rfl) (by kernel_rfl) (by kernel_rfl) (by kernel_rfl) (fun _ _ _ h => h) (Or.inl ⟨by rfl, ?_⟩) (by assumption) ?_
                  rotate_left
                  · (intro w' hSw; (try dsimp only at hSw); (try simp only [List.getElem_toArray, List.getElem_cons_succ, List.getElem_cons_zero]); go_simp; try (with_reducible rfl))
                  simp only [Act.put, List.getElem_toArray, List.getElem_cons_succ, List.getElem_cons_zero, List.setIfInBounds_toArray, List.set_cons_zero, List.set_cons_succ]
                  refine wpAnyG_take (v := ?_) 2 (by rfl) (by kernel_rfl) (by kernel_rfl) (by kernel_rfl) (by kernel_rfl) (fun _ _ _ h => h) (Or.inl ⟨by rfl, ?_⟩) (by assumption) ?_
                  rotate_left
                  · (intro w' hSw; (try dsimp only at hSw); (try simp only [List.getElem_toArray, List.getElem_cons_succ, List.getElem_cons_zero]); go_simp; try (with_reducible rfl))
                  simp only [Act.put, List.getElem_toArray, List.getElem_cons_succ, List.getElem_cons_zero, List.setIfInBounds_toArray, List.set_cons_zero, List.set_cons_succ]
                  refine wpAnyG_take (v := ?_) 3 (by rfl) (by kernel_rfl) (by kernel_rfl) (by kernel_rfl) (by kernel_rfl) (fun _ _ _ h => h) (Or.inl ⟨by rfl, ?_⟩) (by assumption) ?_
                  rotate_left
                  · (intro w' hSw; (try dsimp only at hSw); (try simp only [List.getElem_toArray, List.getElem_cons_succ, List.getElem_cons_zero]); go_simp; try (with_reducible rfl))
                  simp only [Act.put, List.getElem_toArray, List.getElem_cons_succ, List.getElem_cons_zero, List.setIfInBounds_toArray, List.set_cons_zero, List.set_cons_succ]
                  refine wpAnyG_take (v := ?_) 4 (by rfl) (by kernel_rfl) (by kernel_rfl) (by kernel_rfl) (by kernel_rfl) (fun _ _ _ h => h) (Or.inl ⟨by rfl, ?_⟩) (by assumption) ?_
                  rotate_left
                  · (intro w' hSw; (try dsimp only at hSw); (try simp only [List.getElem_toArray, List.getElem_cons_succ, List.getElem_cons_zero]); go_simp; try (with_reducible rfl))
                  simp only [Act.put, List.getElem_toArray, List.getElem_cons_succ, List.getElem_cons_zero, List.setIfInBounds_toArray, List.set_cons_zero, List.set_cons_succ]
                  refine wpAnyG_take (v := ?_) 5 (by rfl) (by kernel_rfl) (by kernel_rfl) (by kernel_rfl) (by kernel_rfl) (fun _ _ _ h => h) (Or.inl ⟨by rfl, ?_⟩) (by assumption) ?_
                  rotate_left
                  · (intro w' hSw; (try dsimp only at hSw); (try simp only [List.getElem_toArray, List.getElem_cons_succ, List.getElem_cons_zero]); go_simp; try (with_reducible rfl))
                  simp only [Act.put, List.getElem_toArray, List.getElem_cons_succ, List.getElem_cons_zero, List.setIfInBounds_toArray, List.set_cons_zero, List.set_cons_succ]
                  refine wpAnyG_take (v := ?_) 6 (by rfl) (by kernel_rfl) (by kernel_rfl) (by kernel_rfl) (by kernel_rfl) (fun _ _ _ h => h) (Or.inl ⟨by rfl, ?_⟩) (by assumption) ?_
                  rotate_left
                  · (intro w' hSw; (try dsimp only at hSw); (try simp only [List.getElem_toArray, List.getElem_cons_succ, List.getElem_cons_zero]); go_simp; try (with_reducible rfl))
                  simp only [Act.put, List.getElem_toArray, List.getElem_cons_succ, List.getElem_cons_zero, List.setIfInBounds_toArray, List.set_cons_zero, List.set_cons_succ]
                  refine wpAnyG_take (v := ?_) 7 (by rfl) (by kernel_rfl) (by kernel_rfl) (by kernel_rfl) (by kernel_rfl) (fun _ _ _ h => h) (Or.inl ⟨by rfl, ?_⟩) (by assumption) ?_
                  rotate_left
                  · (intro w' hSw; (try dsimp only at hSw); (try simp only [List.getElem_toArray, List.getElem_cons_succ, List.getElem_cons_zero]); go_simp; try (with_reducible rfl))
                  simp only [Act.put, List.getElem_toArray, List.getElem_cons_succ, List.getElem_cons_zero, List.setIfInBounds_toArray, List.set_cons_zero, List.set_cons_succ]
                  refine wpAnyG_take (v := ?_) 8 (by rfl) (by kernel_rfl) (by kernel_rfl) (by kernel_rfl) (by kernel_rfl) (fun _ _ _ h => h) (Or.inl ⟨by rfl, ?_⟩) (by assumption) ?_
                  rotate_left
                  · (intro w' hSw; (try dsimp only at hSw); (try simp only [List.getElem_toArray, List.getElem_cons_succ, List.getElem_cons_zero]); go_simp; try (with_reducible rfl))
                  simp only [Act.put, List.getElem_toArray, List.getElem_cons_succ, List.getElem_cons_zero, List.setIfInBounds_toArray, List.set_cons_zero, List.set_cons_succ]
                  refine wpAnyG_take (v := ?_) 9 (by rfl) (by kernel_rfl) (by kernel_rfl) (by kernel_rfl) (by kernel_rfl) (fun _ _ _ h => h) (Or.inl ⟨by rfl, ?_⟩) (by assumption) ?_
                  rotate_left
                  · (intro w' hSw; (try dsimp only at hSw); (try simp only [List.getElem_toArray, List.getElem_cons_succ, List.getElem_cons_zero]); go_simp; try (with_reducible rfl))
                  simp only [Act.put, List.getElem_toArray, List.getElem_cons_succ, List.getElem_cons_zero, List.setIfInBounds_toArray, List.set_cons_zero, List.set_cons_succ]
                  refine wpAnyG_take (v := ?_) 10 (by rfl) (by kernel_rfl) (by kernel_rfl) (by kernel_rfl) (by kernel_rfl) (fun _ _ _ h => h) (Or.inl ⟨by rfl, ?_⟩) (by assumption) ?_
                  rotate_left
                  · (intro w' hSw; (try dsimp only at hSw); (try simp only [List.getElem_toArray, List.getElem_cons_succ, List.getElem_cons_zero]); go_simp; try (with_reducible rfl))
                  simp only [Act.put, List.getElem_toArray, List.getElem_cons_succ, List.getElem_cons_zero, List.setIfInBounds_toArray, List.set_cons_zero, List.set_cons_succ]
                  refine wpAnyG_take (v := ?_) 11 (by rfl) (by kernel_rfl) (by kernel_rfl) (by kernel_rfl) (by kernel_rfl) (fun _ _ _ h => h) (Or.inl ⟨by rfl, ?_⟩) (by assumption) ?_
                  rotate_left
                  · (intro w' hSw; (try dsimp only at hSw); (try simp only [List.getElem_toArray, List.getElem_cons_succ, List.getElem_cons_zero]); go_simp; try (with_reducible rfl))
                  simp only [Act.put, List.getElem_toArray, List.getElem_cons_succ, List.getElem_cons_zero, List.setIfInBounds_toArray, List.set_cons_zero, List.set_cons_succ]
                  refine wpAnyG_take (v := ?_) 12 (by rfl) (by kernel_rfl) (by kernel_rfl) (by kernel_rfl) (by kernel_rfl) (fun _ _ _ h => h) (Or.inl ⟨by rfl, ?_⟩) (by assumption) ?_
                  rotate_left
                  · (intro w' hSw; (try dsimp only at hSw); (try simp only [List.getElem_toArray, List.getElem_cons_succ, List.getElem_cons_zero]); go_simp; try (with_reducible rfl))
                  simp only [Act.put, List.getElem_toArray, List.getElem_cons_succ, List.getElem_cons_zero, List.setIfInBounds_toArray, List.set_cons_zero, List.set_cons_succ]
                  refine wpAnyG_take (v := ?_) 13 (by rfl) (by kernel_rfl) (by kernel_rfl) (by kernel_rfl) (by kernel_rfl) (fun _ _ _ h => h) (Or.inl ⟨by rfl, ?_⟩) (by assumption) ?_
                  rotate_left
                  · (intro w' hSw; (try dsimp only at hSw); (try simp only [List.getElem_toArray, List.getElem_cons_succ, List.getElem_cons_zero]); go_simp; try (with_reducible rfl))
                  simp only [Act.put, List.getElem_toArray, List.getElem_cons_succ, List.getElem_cons_zero, List.setIfInBounds_toArray, List.set_cons_zero, List.set_cons_succ]
                  refine wpAnyG_take (v := ?_) 14 (by rfl) (by kernel_rfl) (by kernel_rfl) (by kernel_rfl) (by kernel_rfl) (fun _ _ _ h => h) (Or.inl ⟨by rfl, ?_⟩) (by assumption) ?_
                  rotate_left
                  · (intro w' hSw; (try dsimp only at hSw); (try simp only [List.getElem_toArray, List.getElem_cons_succ, List.getElem_cons_zero]); go_simp; try (with_reducible rfl))
                  simp only [Act.put, List.getElem_toArray, List.getElem_cons_succ, List.getElem_cons_zero, List.setIfInBounds_toArray, List.set_cons_zero, List.set_cons_succ]
                  refine wpAnyG_take (v := ?_) 15 (by rfl) (by kernel_rfl) (by kernel_rfl) (by kernel_rfl) (by kernel_rfl) (fun _ _ _ h => h) (Or.inl ⟨by rfl, ?_⟩) (by assumption) ?_
                  rotate_left
                  · (intro w' hSw; (try dsimp only at hSw); (try simp only [List.getElem_toArray, List.getElem_cons_succ, List.getElem_cons_zero]); go_simp; try (with_reducible rfl))
                  simp only [Act.put, List.getElem_toArray, List.getElem_cons_succ, List.getElem_cons_zero, List.setIfInBounds_toArray, List.set_cons_zero, List.set_cons_succ]
                  refine wpAnyG_take (v := ?_) 16 (by rfl) (by kernel_rfl) (by kernel_rfl) (by kernel_rfl) (by kernel_rfl) (fun _ _ _ h => h) (Or.inl ⟨by rfl, ?_⟩) (by assumption) ?_
                  rotate_left
                  · (intro w' hSw; (try dsimp only at hSw); (try simp only [List.getElem_toArray, List.getElem_cons_succ, List.getElem_cons_zero]); go_simp; try (with_reducible rfl))
                  simp only [Act.put, List.getElem_toArray, List.getElem_cons_succ, List.getElem_cons_zero, List.setIfInBounds_toArray, List.set_cons_zero, List.set_cons_succ]
                  refine wpAnyG_take (v := ?_) 17 (by rfl) (by kernel_rfl) (by kernel_rfl) (by kernel_rfl) (by kernel_rfl) (fun _ _ _ h => h) (Or.inl ⟨by rfl, ?_⟩) (by assumption) ?_
                  rotate_left
                  · (intro w' hSw; (try dsimp only at hSw); (try simp only [List.getElem_toArray, List.getElem_cons_succ, List.getElem_cons_zero]); go_simp; try (with_reducible rfl))
                  simp only [Act.put, List.getElem_toArray, List.getElem_cons_succ, List.getElem_cons_zero, List.setIfInBounds_toArray, List.set_cons_zero, List.set_cons_succ]
                  refine wpAnyG_take (v := ?_) 18 (by rfl) (by kernel_rfl) (by kernel_rfl) (by kernel_rfl) (by kernel_rfl) (fun _ _ _ h => h) (Or.inl ⟨by rfl, ?_⟩) (by assumption) ?_
                  rotate_left
                  · (intro w' hSw; (try dsimp only at hSw); (try simp only [List.getElem_toArray, List.getElem_cons_succ, List.getElem_cons_zero]); go_simp; try (with_reducible rfl))
                  simp only [Act.put, List.getElem_toArray, List.getElem_cons_succ, List.getElem_cons_zero, List.setIfInBounds_toArray, List.set_cons_zero, List.set_cons_succ]
                  refine wpAnyG_take (v := undef) 19 (by rfl) (by kernel_rfl) (by kernel_rfl) (by kernel_rfl) (by kernel_rfl) (fun _ _ _ h => h) (Or.inr ⟨by rfl, rfl⟩) (by assumption) ?_
                  simp only [Act.put, List.getElem_toArray, List.getElem_cons_succ, List.getElem_cons_zero, List.setIfInBounds_toArray, List.set_cons_zero, List.set_cons_succ]
                  refine wpAnyG_take (v := undef) 20 (by rfl) (by kernel_rfl) (by kernel_rfl) (by kernel_rfl) (by kernel_rfl) (fun _ _ _ h => h) (Or.inr ⟨by rfl, rfl⟩) (by assumption) ?_
                  simp only [Act.put, List.getElem_toArray, List.getElem_cons_succ, List.getElem_cons_zero, List.setIfInBounds_toArray, List.set_cons_zero, List.set_cons_succ]
                  refine wpAnyG_take (v := undef) 21 (by rfl) (by kernel_rfl) (by kernel_rfl) (by kernel_rfl) (by kernel_rfl) (fun _ _ _ h => h) (Or.inr ⟨by rfl, rfl⟩) (by assumption) ?_
                  simp only [Act.put, List.getElem_toArray, List.getElem_cons_succ, List.getElem_cons_zero, List.setIfInBounds_toArray, List.set_cons_zero, List.set_cons_succ]
                  refine wpAnyG_take (v := undef) 22 (by rfl) (by kernel_rfl) (by kernel_rfl) (by kernel_rfl) (by kernel_rfl) (fun _ _ _ h => h) (Or.inr ⟨by rfl, rfl⟩) (by assumption) ?_
                  simp only [Act.put, List.getElem_toArray, List.getElem_cons_succ, List.getElem_cons_zero, List.setIfInBounds_toArray, List.set_cons_zero, List.set_cons_succ]
                  refine wpAnyG_take (v := undef) 23 (by rfl) (by kernel_rfl) (by kernel_rfl) (by kernel_rfl) (by kernel_rfl) (fun _ _ _ h => h) (Or.inr ⟨by rfl, rfl⟩) (by assumption) ?_
                  simp only [Act.put, List.getElem_toArray, List.getElem_cons_succ, List.getElem_cons_zero, List.setIfInBounds_toArray, List.set_cons_zero, List.set_cons_succ]
                  refine wpAnyG_take (v := undef) 24 (by rfl) (by kernel_rfl) (by kernel_rfl) (by kernel_rfl) (by kernel_rfl) (fun _ _ _ h => h) (Or.inr ⟨by rfl, rfl⟩) (by assumption) ?_
                  simp only [Act.put, List.getElem_toArray, List.getElem_cons_succ, List.getElem_cons_zero, List.setIfInBounds_toArray, List.set_cons_zero, List.set_cons_succ]
                  refine wpAnyG_take (v := undef) 25 (by rfl) (by kernel_rfl) (by kernel_rfl) (by kernel_rfl) (by kernel_rfl) (fun _ _ _ h => h) (Or.inr ⟨by rfl, rfl⟩) (by assumption) ?_
                  simp only [Act.put, List.getElem_toArray, List.getElem_cons_succ, List.getElem_cons_zero, List.setIfInBounds_toArray, List.set_cons_zero, List.set_cons_succ]
                  refine wpAnyG_take (v := undef) 26 (by rfl) (by kernel_rfl) (by kernel_rfl) (by kernel_rfl) (by kernel_rfl) (fun _ _ _ h => h) (Or.inr ⟨by rfl, rfl⟩) (by assumption) ?_
                  simp only [Act.put, List.getElem_toArray, List.getElem_cons_succ, List.getElem_cons_zero, List.setIfInBounds_toArray, List.set_cons_zero, List.set_cons_succ]
                  refine wpAnyG_take (v := undef) 27 (by rfl) (by kernel_rfl) (by kernel_rfl) (by kernel_rfl) (by kernel_rfl) (fun _ _ _ h => h) (Or.inr ⟨by rfl, rfl⟩) (by assumption) ?_
                  simp only [Act.put, List.getElem_toArray, List.getElem_cons_succ, List.getElem_cons_zero, List.setIfInBounds_toArray, List.set_cons_zero, List.set_cons_succ]
                  refine wpAnyG_take (v := undef) 28 (by rfl) (by kernel_rfl) (by kernel_rfl) (by kernel_rfl) (by kernel_rfl) (fun _ _ _ h => h) (Or.inr ⟨by rfl, rfl⟩) (by assumption) ?_
                  simp only [Act.put, List.getElem_toArray, List.getElem_cons_succ, List.getElem_cons_zero, List.setIfInBounds_toArray, List.set_cons_zero, List.set_cons_succ]
                  refine wpAnyG_take (v := ?_) 29 (by rfl) (by kernel_rfl) (by kernel_rfl) (by kernel_rfl) (by kernel_rfl) (fun _ _ _ h => h) (Or.inl ⟨by rfl, ?_⟩) (by assumption) ?_
                  rotate_left
                  · (intro w' hSw; (try dsimp only at hSw); (try simp only [List.getElem_toArray, List.getElem_cons_succ, List.getElem_cons_zero]); go_simp; try (with_reducible rfl))
                  simp only [Act.put, List.getElem_toArray, List.getElem_cons_succ, List.getElem_cons_zero, List.setIfInBounds_toArray, List.set_cons_zero, List.set_cons_succ]
                  refine wpAnyG_take (v := ?_) 30 (by rfl) (by kernel_rfl) (by kernel_rfl) (by kernel_rfl) (by kernel_rfl) (fun _ _ _ h => h) (Or.inl ⟨by rfl, ?_⟩) (by assumption) ?_
                  rotate_left
                  · (intro w' hSw; (try dsimp only at hSw); (try simp only [List.getElem_toArray, List.getElem_cons_succ, List.getElem_cons_zero]); go_simp; try (with_reducible rfl))
                  simp only [Act.put, List.getElem_toArray, List.getElem_cons_succ, List.getElem_cons_zero, List.setIfInBounds_toArray, List.set_cons_zero, List.set_cons_succ]
                  refine wpAnyG_done (by kernel_rfl) ?_ _
                  refine NoPanic.normal ?_
                  go_wp2
                  go_meet
                  exact ⟨rfl, rfl⟩
                · obtain ⟨i1, hi1⟩ : ∃ i1, i = i1 + 1 := ⟨i - 1, by omega⟩
                  obtain ⟨e1, he1, c1b⟩ := unhide Hi1 i1 hi1
                  have hgt : decide ((0 : Int) < (i : Int)) = true := decide_eq_true (by omega)
                  have hw1 : IntKind.i64.wrap ((i : Int) - 1) = (i1 : Int) := by rw [IntKind.wrap_i64]; omega
                  have hi1L : i1 < L.length := by omega
                  have hi1I : (i1 : Int) < (L.length : Int) := by omega
                  have hge : decide ((e : Int) ≤ (e1 : Int)) = false := decide_eq_false (by omega)
                  have hgeN : ¬ e ≤ e1 := by omega
                  have hgeE : decide (e ≤ e1) = false := decide_eq_false hgeN
                  have hi0N : 0 < i := by omega
                  clear hi1 hi0 he1
                  refine wp_region_G (fun w' => w'.cell? ⟨lb, lo + i, none⟩ = some (.int .i64 (e : Int)) ∧ w'.cell? ⟨lb, lo + i1, none⟩ = some (.int .i64 (e1 : Int))) (fun _ => false) (by kernel_rfl) ⟨c1, c1b⟩ (fun hHeld => ?_)
                  refine wpAnyG_take (v := ?_) 0 (by rfl) (by kernel_rfl) (by kernel_rfl) (by kernel_rfl) (by kernel_rfl) (fun _ _ _ h => h) (Or.inl ⟨by rfl, ?_⟩) (by assumption) ?_
                  rotate_left
                  · (intro w' hSw; (try dsimp only at hSw); (try simp only [List.getElem_toArray, List.getElem_cons_zero]); go_simp; try (with_reducible rfl))
                  simp only [Act.put, List.getElem_toArray, List.getElem_cons_zero, List.setIfInBounds_toArray, List.set_cons_zero, List.set_cons_succ]
                  refine wpAnyG_take (v := ?_) 1 (by rfl) (by kernel_rfl) (by kernel_rfl) (by kernel_rfl) (by kernel_rfl) (fun _ _ _ h => h) (Or.inl ⟨by rfl, ?_⟩) (by assumption) ?_
                  rotate_left
                  · (intro w' hSw; (try dsimp only at hSw); (try simp only [List.getElem_toArray, List.getElem_cons_succ, List.getElem_cons_zero]); go_simp; try (with_reducible rfl))
                  simp only [Act.put, List.getElem_toArray, List.getElem_cons_succ, List.getElem_cons_zero, List.setIfInBounds_toArray, List.set_cons_zero, List.set_cons_succ]
                  refine wpAnyG_take (v := ?_) 2 (by rfl) (by kernel_rfl) (by kernel_rfl) (by kernel_rfl) (by kernel_rfl) (fun _ _ _ h => h) (Or.inl ⟨by rfl, ?_⟩) (by assumption) ?_
                  rotate_left
                  · (intro w' hSw; (try dsimp only at hSw); (try simp only [List.getElem_toArray, List.getElem_cons_succ, List.getElem_cons_zero]); go_simp; try (with_reducible rfl))
                  simp only [Act.put, List.getElem_toArray, List.getElem_cons_succ, List.getElem_cons_zero, List.setIfInBounds_toArray, List.set_cons_zero, List.set_cons_succ]
                  refine wpAnyG_take (v := ?_) 3 (by rfl) (by kernel_rfl) (by kernel_rfl) (by kernel_rfl) (by kernel_rfl) (fun _ _ _ h => h) (Or.inl ⟨by rfl, ?_⟩) (by assumption) ?_
                  rotate_left
                  · (intro w' hSw; (try dsimp only at hSw); (try simp only [List.getElem_toArray, List.getElem_cons_succ, List.getElem_cons_zero]); go_simp; try (with_reducible rfl))
                  simp only [Act.put, List.getElem_toArray, List.getElem_cons_succ, List.getElem_cons_zero, List.setIfInBounds_toArray, List.set_cons_zero, List.set_cons_succ]
                  refine wpAnyG_take (v := ?_) 4 (by rfl) (by kernel_rfl) (by kernel_rfl) (by kernel_rfl) (by kernel_rfl) (fun _ _ _ h => h) (Or.inl ⟨by rfl, ?_⟩) (by assumption) ?_
                  rotate_left
                  · (intro w' hSw; (try dsimp only at hSw); (try simp only [List.getElem_toArray, List.getElem_cons_succ, List.getElem_cons_zero]); go_simp; try (with_reducible rfl))
                  simp only [Act.put, List.getElem_toArray, List.getElem_cons_succ, List.getElem_cons_zero, List.setIfInBounds_toArray, List.set_cons_zero, List.set_cons_succ]
                  refine wpAnyG_take (v := ?_) 5 (by rfl) (by kernel_rfl) (by kernel_rfl) (by kernel_rfl) (by kernel_rfl) (fun _ _ _ h => h) (Or.inl ⟨by rfl, ?_⟩) (by assumption) ?_
                  rotate_left
                  · (intro w' hSw; (try dsimp only at hSw); (try simp only [List.getElem_toArray, List.getElem_cons_succ, List.getElem_cons_zero]); go_simp; try (with_reducible rfl))
                  simp only [Act.put, List.getElem_toArray, List.getElem_cons_succ, List.getElem_cons_zero, List.setIfInBounds_toArray, List.set_cons_zero, List.set_cons_succ]
                  refine wpAnyG_take (v := ?_) 6 (by rfl) (by kernel_rfl) (by kernel_rfl) (by kernel_rfl) (by kernel_rfl) (fun _ _ _ h => h) (Or.inl ⟨by rfl, ?_⟩) (by assumption) ?_
                  rotate_left
                  · (intro w' hSw; (try dsimp only at hSw); (try simp only [List.getElem_toArray, List.getElem_cons_succ, List.getElem_cons_zero]); go_simp; try (with_reducible rfl))
                  simp only [Act.put, List.getElem_toArray, List.getElem_cons_succ, List.getElem_cons_zero, List.setIfInBounds_toArray, List.set_cons_zero, List.set_cons_succ]
                  refine wpAnyG_take (v := ?_) 7 (by rfl) (by kernel_rfl) (by kernel_rfl) (by kernel_rfl) (by kernel_rfl) (fun _ _ _ h => h) (Or.inl ⟨by rfl, ?_⟩) (by assumption) ?_
                  rotate_left
                  · (intro w' hSw; (try dsimp only at hSw); (try simp only [List.getElem_toArray, List.getElem_cons_succ, List.getElem_cons_zero]); go_simp; try (with_reducible rfl))
                  simp only [Act.put, List.getElem_toArray, List.getElem_cons_succ, List.getElem_cons_zero, List.setIfInBounds_toArray, List.set_cons_zero, List.set_cons_succ]
                  refine wpAnyG_take (v := ?_) 8 (by rfl) (by kernel_rfl) (by kernel_rfl) (by kernel_rfl) (by kernel_rfl) (fun _ _ _ h => h) (Or.inl ⟨by rfl, ?_⟩) (by assumption) ?_
                  rotate_left
                  · (intro w' hSw; (try dsimp only at hSw); (try simp only [List.getElem_toArray, List.getElem_cons_succ, List.getElem_cons_zero]); go_simp; try (with_reducible rfl))
                  simp only [Act.put, List.getElem_toArray, List.getElem_cons_succ, List.getElem_cons_zero, List.setIfInBounds_toArray, List.set_cons_zero, List.set_cons_succ]
                  refine wpAnyG_take (v := ?_) 9 (by rfl) (by kernel_rfl) (by kernel_rfl) (by kernel_rfl) (by kernel_rfl) (fun _ _ _ h => h) (Or.inl ⟨by rfl, ?_⟩) (by assumption) ?_
                  rotate_left
                  · (intro w' hSw; (try dsimp only at hSw); (try simp only [List.getElem_toArray, List.getElem_cons_succ, List.getElem_cons_zero]); go_simp; try (with_reducible rfl))
                  simp only [Act.put, List.getElem_toArray, List.getElem_cons_succ, List.getElem_cons_zero, List.setIfInBounds_toArray, List.set_cons_zero, List.set_cons_succ]
                  refine wpAnyG_take (v := ?_) 10 (by rfl) (by kernel_rfl) (by kernel_rfl) (by kernel_rfl) (by kernel_rfl) (fun _ _ _ h => h) (Or.inl ⟨by rfl, ?_⟩) (by assumption) ?_
                  rotate_left
                  · (intro w' hSw; (try dsimp only at hSw); (try simp only [List.getElem_toArray, List.getElem_cons_succ, List.getElem_cons_zero]); go_simp; try (with_reducible rfl))
                  simp only [Act.put, List.getElem_toArray, List.getElem_cons_succ, List.getElem_cons_zero, List.setIfInBounds_toArray, List.set_cons_zero, List.set_cons_succ]
                  refine wpAnyG_take (v := ?_) 11 (by rfl) (by kernel_rfl) (by kernel_rfl) (by kernel_rfl) (by kernel_rfl) (fun _ _ _ h => h) (Or.inl ⟨by rfl, ?_⟩) (by assumption) ?_
                  rotate_left
                  · (intro w' hSw; (try dsimp only at hSw); (try simp only [List.getElem_toArray, List.getElem_cons_succ, List.getElem_cons_zero]); go_simp; try (with_reducible rfl))
                  simp only [Act.put, List.getElem_toArray, List.getElem_cons_succ, List.getElem_cons_zero, List.setIfInBounds_toArray, List.set_cons_zero, List.set_cons_succ]
                  refine wpAnyG_take (v := ?_) 12 (by rfl) (by kernel_rfl) (by kernel_rfl) (by kernel_rfl) (by kernel_rfl) (fun _ _ _ h => h) (Or.inl ⟨by rfl, ?_⟩) (by assumption) ?_
                  rotate_left
                  · (intro w' hSw; (try dsimp only at hSw); (try simp only [List.getElem_toArray, List.getElem_cons_succ, List.getElem_cons_zero]); go_simp; try (with_reducible rfl))
                  simp only [Act.put, List.getElem_toArray, List.getElem_cons_succ, List.getElem_cons_zero, List.setIfInBounds_toArray, List.set_cons_zero, List.set_cons_succ]
                  refine wpAnyG_take (v := ?_) 13 (by rfl) (by kernel_rfl) (by kernel_rfl) (by kernel_rfl) (by kernel_rfl) (fun _ _ _ h => h) (Or.inl ⟨by rfl, ?_⟩) (by assumption) ?_
                  rotate_left
                  · (intro w' hSw; (try dsimp only at hSw); (try simp only [List.getElem_toArray, List.getElem_cons_succ, List.getElem_cons_zero]); go_simp; try (with_reducible rfl))
                  simp only [Act.put, List.getElem_toArray, List.getElem_cons_succ, List.getElem_cons_zero, List.setIfInBounds_toArray, List.set_cons_zero, List.set_cons_succ]
                  refine wpAnyG_take (v := ?_) 14 (by rfl) (by kernel_rfl) (by kernel_rfl) (by kernel_rfl) (by kernel_rfl) (fun _ _ _ h => h) (Or.inl ⟨by rfl, ?_⟩) (by assumption) ?_
                  rotate_left
                  · (intro w' hSw; (try dsimp only at hSw); (try simp only [List.getElem_toArray, List.getElem_cons_succ, List.getElem_cons_zero]); go_simp; try (with_reducible rfl))
                  simp only [Act.put, List.getElem_toArray, List.getElem_cons_succ, List.getElem_cons_zero, List.setIfInBounds_toArray, List.set_cons_zero, List.set_cons_succ]
                  refine wpAnyG_take (v := ?_) 15 (by rfl) (by kernel_rfl) (by kernel_rfl) (by kernel_rfl) (by kernel_rfl) (fun _ _ _ h => h) (Or.inl ⟨by rfl, ?_⟩) (by assumption) ?_
                  rotate_left
                  · (intro w' hSw; (try dsimp only at hSw); (try simp only [List.getElem_toArray, List.getElem_cons_succ, List.getElem_cons_zero]); go_simp; try (with_reducible rfl))
                  simp only [Act.put, List.getElem_toArray, List.getElem_cons_succ, List.getElem_cons_zero, List.setIfInBounds_toArray, List.set_cons_zero, List.set_cons_succ]
                  refine wpAnyG_take (v := ?_) 16 (by rfl) (by kernel_rfl) (by kernel_rfl) (by kernel_rfl) (by kernel_rfl) (fun _ _ _ h => h) (Or.inl ⟨by rfl, ?_⟩) (by assumption) ?_
                  rotate_left
                  · (intro w' hSw; (try dsimp only at hSw); (try simp only [List.getElem_toArray, List.getElem_cons_succ, List.getElem_cons_zero]); go_simp; try (with_reducible rfl))
                  simp only [Act.put, List.getElem_toArray, List.getElem_cons_succ, List.getElem_cons_zero, List.setIfInBounds_toArray, List.set_cons_zero, List.set_cons_succ]
                  refine wpAnyG_take (v := ?_) 17 (by rfl) (by kernel_rfl) (by kernel_rfl) (by kernel_rfl) (by kernel_rfl) (fun _ _ _ h => h) (Or.inl ⟨by rfl, ?_⟩) (by assumption) ?_
                  rotate_left
                  · (intro w' hSw; (try dsimp only at hSw); (try simp only [List.getElem_toArray, List.getElem_cons_succ, List.getElem_cons_zero]); go_simp; try (with_reducible rfl))
                  simp only [Act.put, List.getElem_toArray, List.getElem_cons_succ, List.getElem_cons_zero, List.setIfInBounds_toArray, List.set_cons_zero, List.set_cons_succ]
                  refine wpAnyG_take (v := ?_) 18 (by rfl) (by kernel_rfl) (by kernel_rfl) (by kernel_rfl) (by kernel_rfl) (fun _ _ _ h => h) (Or.inl ⟨by rfl, ?_⟩) (by assumption) ?_
                  rotate_left
                  · (intro w' hSw; (try dsimp only at hSw); (try simp only [List.getElem_toArray, List.getElem_cons_succ, List.getElem_cons_zero]); go_simp; try (with_reducible rfl))
                  simp only [Act.put, List.getElem_toArray, List.getElem_cons_succ, List.getElem_cons_zero, List.setIfInBounds_toArray, List.set_cons_zero, List.set_cons_succ]
                  refine wpAnyG_take (v := ?_) 19 (by rfl) (by kernel_rfl) (by kernel_rfl) (by kernel_rfl) (by kernel_rfl) (fun _ _ _ h => h) (Or.inl ⟨by rfl, ?_⟩) (by assumption) ?_
                  rotate_left
                  · (intro w' hSw; (try dsimp only at hSw); (try simp only [List.getElem_toArray, List.getElem_cons_succ, List.getElem_cons_zero]); go_simp; try (with_reducible rfl))
                  simp only [Act.put, List.getElem_toArray, List.getElem_cons_succ, List.getElem_cons_zero, List.setIfInBounds_toArray, List.set_cons_zero, List.set_cons_succ]
                  refine wpAnyG_take (v := ?_) 20 (by rfl) (by kernel_rfl) (by kernel_rfl) (by kernel_rfl) (by kernel_rfl) (fun _ _ _ h => h) (Or.inl ⟨by rfl, ?_⟩) (by assumption) ?_
                  rotate_left
                  · (intro w' hSw; (try dsimp only at hSw); (try simp only [List.getElem_toArray, List.getElem_cons_succ, List.getElem_cons_zero]); go_simp; try (with_reducible rfl))
                  simp only [Act.put, List.getElem_toArray, List.getElem_cons_succ, List.getElem_cons_zero, List.setIfInBounds_toArray, List.set_cons_zero, List.set_cons_succ]
                  refine wpAnyG_take (v := ?_) 21 (by rfl) (by kernel_rfl) (by kernel_rfl) (by kernel_rfl) (by kernel_rfl) (fun _ _ _ h => h) (Or.inl ⟨by rfl, ?_⟩) (by assumption) ?_
                  rotate_left
                  · (intro w' hSw; (try dsimp only at hSw); (try simp only [List.getElem_toArray, List.getElem_cons_succ, List.getElem_cons_zero]); go_simp; try (with_reducible rfl))
                  simp only [Act.put, List.getElem_toArray, List.getElem_cons_succ, List.getElem_cons_zero, List.setIfInBounds_toArray, List.set_cons_zero, List.set_cons_succ]
                  refine wpAnyG_take (v := ?_) 22 (by rfl) (by kernel_rfl) (by kernel_rfl) (by kernel_rfl) (by kernel_rfl) (fun _ _ _ h => h) (Or.inl ⟨by rfl, ?_⟩) (by assumption) ?_
                  rotate_left
                  · (intro w' hSw; (try dsimp only at hSw); (try simp only [List.getElem_toArray, List.getElem_cons_succ, List.getElem_cons_zero]); go_simp; try (with_reducible rfl))
                  simp only [Act.put, List.getElem_toArray, List.getElem_cons_succ, List.getElem_cons_zero, List.setIfInBounds_toArray, List.set_cons_zero, List.set_cons_succ]
                  refine wpAnyG_take (v := ?_) 23 (by rfl) (by kernel_rfl) (by kernel_rfl) (by kernel_rfl) (by kernel_rfl) (fun _ _ _ h => h) (Or.inl ⟨by rfl, ?_⟩) (by assumption) ?_
                  rotate_left
                  · (intro w' hSw; (try dsimp only at hSw); (try simp only [List.getElem_toArray, List.getElem_cons_succ, List.getElem_cons_zero]); go_simp; try (with_reducible rfl))
                  simp only [Act.put, List.getElem_toArray, List.getElem_cons_succ, List.getElem_cons_zero, List.setIfInBounds_toArray, List.set_cons_zero, List.set_cons_succ]
                  refine wpAnyG_take (v := ?_) 24 (by rfl) (by kernel_rfl) (by kernel_rfl) (by kernel_rfl) (by kernel_rfl) (fun _ _ _ h => h) (Or.inl ⟨by rfl, ?_⟩) (by assumption) ?_
                  rotate_left
                  · (intro w' hSw; (try dsimp only at hSw); (try simp only [List.getElem_toArray, List.getElem_cons_succ, List.getElem_cons_zero]); go_simp; try (with_reducible rfl))
                  simp only [Act.put, List.getElem_toArray, List.getElem_cons_succ, List.getElem_cons_zero, List.setIfInBounds_toArray, List.set_cons_zero, List.set_cons_succ]
                  refine wpAnyG_take (v := ?_) 25 (by rfl) (by kernel_rfl) (by kernel_rfl) (by kernel_rfl) (by kernel_rfl) (fun _ _ _ h => h) (Or.inl ⟨by rfl, ?_⟩) (by assumption) ?_
                  rotate_left
                  · (intro w' hSw; (try dsimp only at hSw); (try simp only [List.getElem_toArray, List.getElem_cons_succ, List.getElem_cons_zero]); go_simp; try (with_reducible rfl))
                  simp only [Act.put, List.getElem_toArray, List.getElem_cons_succ, List.getElem_cons_zero, List.setIfInBounds_toArray, List.set_cons_zero, List.set_cons_succ]
                  refine wpAnyG_take (v := ?_) 26 (by rfl) (by kernel_rfl) (by kernel_rfl) (by kernel_rfl) (by kernel_rfl) (fun _ _ _ h => h) (Or.inl ⟨by rfl, ?_⟩) (by assumption) ?_
                  rotate_left
                  · (intro w' hSw; (try dsimp only at hSw); (try simp only [List.getElem_toArray, List.getElem_cons_succ, List.getElem_cons_zero]); go_simp; try (with_reducible rfl))
                  simp only [Act.put, List.getElem_toArray, List.getElem_cons_succ, List.getElem_cons_zero, List.setIfInBounds_toArray, List.set_cons_zero, List.set_cons_succ]
                  refine wpAnyG_take (v := ?_) 27 (by rfl) (by kernel_rfl) (by kernel_rfl) (by kernel_rfl) (by kernel_rfl) (fun _ _ _ h => h) (Or.inl ⟨by rfl, ?_⟩) (by assumption) ?_
                  rotate_left
                  · (intro w' hSw; (try dsimp only at hSw); (try simp only [List.getElem_toArray, List.getElem_cons_succ, List.getElem_cons_zero]); go_simp; try (with_reducible rfl))
                  simp only [Act.put, List.getElem_toArray, List.getElem_cons_succ, List.getElem_cons_zero, List.setIfInBounds_toArray, List.set_cons_zero, List.set_cons_succ]
                  refine wpAnyG_take (v := ?_) 28 (by rfl) (by kernel_rfl) (by kernel_rfl) (by kernel_rfl) (by kernel_rfl) (fun _ _ _ h => h) (Or.inl ⟨by rfl, ?_⟩) (by assumption) ?_
                  rotate_left
                  · (intro w' hSw; (try dsimp only at hSw); (try simp only [List.getElem_toArray, List.getElem_cons_succ, List.getElem_cons_zero]); go_simp; try (with_reducible rfl))
                  simp only [Act.put, List.getElem_toArray, List.getElem_cons_succ, List.getElem_cons_zero, List.setIfInBounds_toArray, List.set_cons_zero, List.set_cons_succ]
                  refine wpAnyG_take (v := ?_) 29 (by rfl) (by kernel_rfl) (by kernel_rfl) (by kernel_rfl) (by kernel_rfl) (fun _ _ _ h => h) (Or.inl ⟨by rfl, ?_⟩) (by assumption) ?_
                  rotate_left
                  · (intro w' hSw; (try dsimp only at hSw); (try simp only [List.getElem_toArray, List.getElem_cons_succ, List.getElem_cons_zero]); go_simp; try (with_reducible rfl))
                  simp only [Act.put, List.getElem_toArray, List.getElem_cons_succ, List.getElem_cons_zero, List.setIfInBounds_toArray, List.set_cons_zero, List.set_cons_succ]
                  refine wpAnyG_take (v := ?_) 30 (by rfl) (by kernel_rfl) (by kernel_rfl) (by kernel_rfl) (by kernel_rfl) (fun _ _ _ h => h) (Or.inl ⟨by rfl, ?_⟩) (by assumption) ?_
                  rotate_left
                  · (intro w' hSw; (try dsimp only at hSw); (try simp only [List.getElem_toArray, List.getElem_cons_succ, List.getElem_cons_zero]); go_simp; try (with_reducible rfl))
                  simp only [Act.put, List.getElem_toArray, List.getElem_cons_succ, List.getElem_cons_zero, List.setIfInBounds_toArray, List.set_cons_zero, List.set_cons_succ]
                  refine wpAnyG_done (by kernel_rfl) ?_ _
                  refine NoPanic.normal ?_
                  go_wp2
                  go_meet
                  exact ⟨rfl, rfl⟩
              case rest =>
                obtain ⟨rfl, hwc⟩ := hcut
                have hwc' := hwc.symm
                subst hwc'
                clear hwc c1 Hi1
                obtain ⟨c1, c2, c3, c4, c5⟩ := unhide HC
                go_upto_region 20 with fail
                go_cut [14, 15] (fun s14 s15 wx => s14 = .int .i64 A ∧ s15 = .int .i64 B ∧ wx = wr.drew.drew)
                case first =>
                  refine wp_region_G (fun w' => w'.cell? ⟨lb, lo + i, none⟩ = some (.int .i64 (e : Int)) ∧ w'.cell? ⟨fb, fo + e, none⟩ = some (.int .i64 (x : Int)) ∧ w'.cell? ⟨fb, fo + d, none⟩ = some (.int .i64 (y : Int)) ∧ w'.cell? ⟨G, x, none⟩ = some (.int .i64 A) ∧ w'.cell? ⟨G, y, none⟩ = some (.int .i64 B)) (fun _ => false) (by kernel_rfl) ⟨c1, c2, c3, c4, c5⟩ (fun hHeld => ?_)
                  refine wpAnyG_take (v := ?_) 0 (by rfl) (by kernel_rfl) (by kernel_rfl) (by kernel_rfl) (by kernel_rfl) (fun _ _ _ h => h) (Or.inl ⟨by rfl, ?_⟩) (by assumption) ?_
                  rotate_left
                  · (intro w' hSw; (try dsimp only at hSw); (try simp only [List.getElem_toArray, List.getElem_cons_zero]); go_simp; try (with_reducible rfl))
                  simp only [Act.put, List.getElem_toArray, List.getElem_cons_zero, List.setIfInBounds_toArray, List.set_cons_zero, List.set_cons_succ]
                  refine wpAnyG_take (v := ?_) 1 (by rfl) (by kernel_rfl) (by kernel_rfl) (by kernel_rfl) (by kernel_rfl) (fun _ _ _ h => h) (Or.inl ⟨by rfl, ?_⟩) (by assumption) ?_
                  rotate_left
                  · (intro w' hSw; (try dsimp only at hSw); (try simp only [List.getElem_toArray, List.getElem_cons_succ, List.getElem_cons_zero]); go_simp; try (with_reducible rfl))
                  simp only [Act.put, List.getElem_toArray, List.getElem_cons_succ, List.getElem_cons_zero, List.setIfInBounds_toArray, List.set_cons_zero, List.set_cons_succ]
                  refine wpAnyG_take (v := ?_) 2 (by rfl) (by kernel_rfl) (by kernel_rfl) (by kernel_rfl) (by kernel_rfl) (fun _ _ _ h => h) (Or.inl ⟨by rfl, ?_⟩) (by assumption) ?_
                  rotate_left
                  · (intro w' hSw; (try dsimp only at hSw); (try simp only [List.getElem_toArray, List.getElem_cons_succ, List.getElem_cons_zero]); go_simp; try (with_reducible rfl))
                  simp only [Act.put, List.getElem_toArray, List.getElem_cons_succ, List.getElem_cons_zero, List.setIfInBounds_toArray, List.set_cons_zero, List.set_cons_succ]
                  refine wpAnyG_take (v := ?_) 3 (by rfl) (by kernel_rfl) (by kernel_rfl) (by kernel_rfl) (by kernel_rfl) (fun _ _ _ h => h) (Or.inl ⟨by rfl, ?_⟩) (by assumption) ?_
                  rotate_left
                  · (intro w' hSw; (try dsimp only at hSw); (try simp only [List.getElem_toArray, List.getElem_cons_succ, List.getElem_cons_zero]); go_simp; try (with_reducible rfl))
                  simp only [Act.put, List.getElem_toArray, List.getElem_cons_succ, List.getElem_cons_zero, List.setIfInBounds_toArray, List.set_cons_zero, List.set_cons_succ]
                  refine wpAnyG_take (v := ?_) 4 (by rfl) (by kernel_rfl) (by kernel_rfl) (by kernel_rfl) (by kernel_rfl) (fun _ _ _ h => h) (Or.inl ⟨by rfl, ?_⟩) (by assumption) ?_
                  rotate_left
                  · (intro w' hSw; (try dsimp only at hSw); (try simp only [List.getElem_toArray, List.getElem_cons_succ, List.getElem_cons_zero]); go_simp; try (with_reducible rfl))
                  simp only [Act.put, List.getElem_toArray, List.getElem_cons_succ, List.getElem_cons_zero, List.setIfInBounds_toArray, List.set_cons_zero, List.set_cons_succ]
                  refine wpAnyG_take (v := ?_) 5 (by rfl) (by kernel_rfl) (by kernel_rfl) (by kernel_rfl) (by kernel_rfl) (fun _ _ _ h => h) (Or.inl ⟨by rfl, ?_⟩) (by assumption) ?_
                  rotate_left
                  · (intro w' hSw; (try dsimp only at hSw); (try simp only [List.getElem_toArray, List.getElem_cons_succ, List.getElem_cons_zero]); go_simp; try (with_reducible rfl))
                  simp only [Act.put, List.getElem_toArray, List.getElem_cons_succ, List.getElem_cons_zero, List.setIfInBounds_toArray, List.set_cons_zero, List.set_cons_succ]
                  refine wpAnyG_take (v := ?_) 6 (by rfl) (by kernel_rfl) (by kernel_rfl) (by kernel_rfl) (by kernel_rfl) (fun _ _ _ h => h) (Or.inl ⟨by rfl, ?_⟩) (by assumption) ?_
                  rotate_left
                  · (intro w' hSw; (try dsimp only at hSw); (try simp only [List.getElem_toArray, List.getElem_cons_succ, List.getElem_cons_zero]); go_simp; try (with_reducible rfl))
                  simp only [Act.put, List.getElem_toArray, List.getElem_cons_succ, List.getElem_cons_zero, List.setIfInBounds_toArray, List.set_cons_zero, List.set_cons_succ]
                  refine wpAnyG_take (v := ?_) 7 (by rfl) (by kernel_rfl) (by kernel_rfl) (by kernel_rfl) (by kernel_rfl) (fun _ _ _ h => h) (Or.inl ⟨by rfl, ?_⟩) (by assumption) ?_
                  rotate_left
                  · (intro w' hSw; (try dsimp only at hSw); (try simp only [List.getElem_toArray, List.getElem_cons_succ, List.getElem_cons_zero]); go_simp; try (with_reducible rfl))
                  simp only [Act.put, List.getElem_toArray, List.getElem_cons_succ, List.getElem_cons_zero, List.setIfInBounds_toArray, List.set_cons_zero, List.set_cons_succ]
                  refine wpAnyG_take (v := ?_) 8 (by rfl) (by kernel_rfl) (by kernel_rfl) (by kernel_rfl) (by kernel_rfl) (fun _ _ _ h => h) (Or.inl ⟨by rfl, ?_⟩) (by assumption) ?_
                  rotate_left
                  · (intro w' hSw; (try dsimp only at hSw); (try simp only [List.getElem_toArray, List.getElem_cons_succ, List.getElem_cons_zero]); go_simp; try (with_reducible rfl))
                  simp only [Act.put, List.getElem_toArray, List.getElem_cons_succ, List.getElem_cons_zero, List.setIfInBounds_toArray, List.set_cons_zero, List.set_cons_succ]
                  refine wpAnyG_take (v := ?_) 9 (by rfl) (by kernel_rfl) (by kernel_rfl) (by kernel_rfl) (by kernel_rfl) (fun _ _ _ h => h) (Or.inl ⟨by rfl, ?_⟩) (by assumption) ?_
                  rotate_left
                  · (intro w' hSw; (try dsimp only at hSw); (try simp only [List.getElem_toArray, List.getElem_cons_succ, List.getElem_cons_zero]); go_simp; try (with_reducible rfl))
                  simp only [Act.put, List.getElem_toArray, List.getElem_cons_succ, List.getElem_cons_zero, List.setIfInBounds_toArray, List.set_cons_zero, List.set_cons_succ]
                  refine wpAnyG_take (v := ?_) 21 (by rfl) (by kernel_rfl) (by kernel_rfl) (by kernel_rfl) (by kernel_rfl) (fun _ _ _ h => h) (Or.inl ⟨by rfl, ?_⟩) (by assumption) ?_
                  rotate_left
                  · (intro w' hSw; (try dsimp only at hSw); (try simp only [List.getElem_toArray, List.getElem_cons_succ, List.getElem_cons_zero]); go_simp; try (with_reducible rfl))
                  simp only [Act.put, List.getElem_toArray, List.getElem_cons_succ, List.getElem_cons_zero, List.setIfInBounds_toArray, List.set_cons_zero, List.set_cons_succ]
                  refine wpAnyG_take (v := ?_) 10 (by rfl) (by kernel_rfl) (by kernel_rfl) (by kernel_rfl) (by kernel_rfl) (fun _ _ _ h => h) (Or.inl ⟨by rfl, ?_⟩) (by assumption) ?_
                  rotate_left
                  · (intro w' hSw; (try dsimp only at hSw); (try simp only [List.getElem_toArray, List.getElem_cons_succ, List.getElem_cons_zero]); go_simp; try (with_reducible rfl))
                  simp only [Act.put, List.getElem_toArray, List.getElem_cons_succ, List.getElem_cons_zero, List.setIfInBounds_toArray, List.set_cons_zero, List.set_cons_succ]
                  refine wpAnyG_take (v := ?_) 11 (by rfl) (by kernel_rfl) (by kernel_rfl) (by kernel_rfl) (by kernel_rfl) (fun _ _ _ h => h) (Or.inl ⟨by rfl, ?_⟩) (by assumption) ?_
                  rotate_left
                  · (intro w' hSw; (try dsimp only at hSw); (try simp only [List.getElem_toArray, List.getElem_cons_succ, List.getElem_cons_zero]); go_simp; try (with_reducible rfl))
                  simp only [Act.put, List.getElem_toArray, List.getElem_cons_succ, List.getElem_cons_zero, List.setIfInBounds_toArray, List.set_cons_zero, List.set_cons_succ]
                  refine wpAnyG_take (v := ?_) 12 (by rfl) (by kernel_rfl) (by kernel_rfl) (by kernel_rfl) (by kernel_rfl) (fun _ _ _ h => h) (Or.inl ⟨by rfl, ?_⟩) (by assumption) ?_
                  rotate_left
                  · (intro w' hSw; (try dsimp only at hSw); (try simp only [List.getElem_toArray, List.getElem_cons_succ, List.getElem_cons_zero]); go_simp; try (with_reducible rfl))
                  simp only [Act.put, List.getElem_toArray, List.getElem_cons_succ, List.getElem_cons_zero, List.setIfInBounds_toArray, List.set_cons_zero, List.set_cons_succ]
                  refine wpAnyG_take (v := ?_) 13 (by rfl) (by kernel_rfl) (by kernel_rfl) (by kernel_rfl) (by kernel_rfl) (fun _ _ _ h => h) (Or.inl ⟨by rfl, ?_⟩) (by assumption) ?_
                  rotate_left
                  · (intro w' hSw; (try dsimp only at hSw); (try simp only [List.getElem_toArray, List.getElem_cons_succ, List.getElem_cons_zero]); go_simp; try (with_reducible rfl))
                  simp only [Act.put, List.getElem_toArray, List.getElem_cons_succ, List.getElem_cons_zero, List.setIfInBounds_toArray, List.set_cons_zero, List.set_cons_succ]
                  refine wpAnyG_take (v := ?_) 14 (by rfl) (by kernel_rfl) (by kernel_rfl) (by kernel_rfl) (by kernel_rfl) (fun _ _ _ h => h) (Or.inl ⟨by rfl, ?_⟩) (by assumption) ?_
                  rotate_left
                  · (intro w' hSw; (try dsimp only at hSw); (try simp only [List.getElem_toArray, List.getElem_cons_succ, List.getElem_cons_zero]); go_simp; try (with_reducible rfl))
                  simp only [Act.put, List.getElem_toArray, List.getElem_cons_succ, List.getElem_cons_zero, List.setIfInBounds_toArray, List.set_cons_zero, List.set_cons_succ]
                  refine wpAnyG_take (v := ?_) 15 (by rfl) (by kernel_rfl) (by kernel_rfl) (by kernel_rfl) (by kernel_rfl) (fun _ _ _ h => h) (Or.inl ⟨by rfl, ?_⟩) (by assumption) ?_
                  rotate_left
                  · (intro w' hSw; (try dsimp only at hSw); (try simp only [List.getElem_toArray, List.getElem_cons_succ, List.getElem_cons_zero]); go_simp; try (with_reducible rfl))
                  simp only [Act.put, List.getElem_toArray, List.getElem_cons_succ, List.getElem_cons_zero, List.setIfInBounds_toArray, List.set_cons_zero, List.set_cons_succ]
                  refine wpAnyG_take (v := ?_) 16 (by rfl) (by kernel_rfl) (by kernel_rfl) (by kernel_rfl) (by kernel_rfl) (fun _ _ _ h => h) (Or.inl ⟨by rfl, ?_⟩) (by assumption) ?_
                  rotate_left
                  · (intro w' hSw; (try dsimp only at hSw); (try simp only [List.getElem_toArray, List.getElem_cons_succ, List.getElem_cons_zero]); go_simp; try (with_reducible rfl))
                  simp only [Act.put, List.getElem_toArray, List.getElem_cons_succ, List.getElem_cons_zero, List.setIfInBounds_toArray, List.set_cons_zero, List.set_cons_succ]
                  refine wpAnyG_take (v := ?_) 17 (by rfl) (by kernel_rfl) (by kernel_rfl) (by kernel_rfl) (by kernel_rfl) (fun _ _ _ h => h) (Or.inl ⟨by rfl, ?_⟩) (by assumption) ?_
                  rotate_left
                  · (intro w' hSw; (try dsimp only at hSw); (try simp only [List.getElem_toArray, List.getElem_cons_succ, List.getElem_cons_zero]); go_simp; try (with_reducible rfl))
                  simp only [Act.put, List.getElem_toArray, List.getElem_cons_succ, List.getElem_cons_zero, List.setIfInBounds_toArray, List.set_cons_zero, List.set_cons_succ]
                  refine wpAnyG_take (v := ?_) 18 (by rfl) (by kernel_rfl) (by kernel_rfl) (by kernel_rfl) (by kernel_rfl) (fun _ _ _ h => h) (Or.inl ⟨by rfl, ?_⟩) (by assumption) ?_
                  rotate_left
                  · (intro w' hSw; (try dsimp only at hSw); (try simp only [List.getElem_toArray, List.getElem_cons_succ, List.getElem_cons_zero]); go_simp; try (with_reducible rfl))
                  simp only [Act.put, List.getElem_toArray, List.getElem_cons_succ, List.getElem_cons_zero, List.setIfInBounds_toArray, List.set_cons_zero, List.set_cons_succ]
                  refine wpAnyG_take (v := ?_) 19 (by rfl) (by kernel_rfl) (by kernel_rfl) (by kernel_rfl) (by kernel_rfl) (fun _ _ _ h => h) (Or.inl ⟨by rfl, ?_⟩) (by assumption) ?_
                  rotate_left
                  · (intro w' hSw; (try dsimp only at hSw); (try simp only [List.getElem_toArray, List.getElem_cons_succ, List.getElem_cons_zero]); go_simp; try (with_reducible rfl))
                  simp only [Act.put, List.getElem_toArray, List.getElem_cons_succ, List.getElem_cons_zero, List.setIfInBounds_toArray, List.set_cons_zero, List.set_cons_succ]
                  refine wpAnyG_take (v := ?_) 20 (by rfl) (by kernel_rfl) (by kernel_rfl) (by kernel_rfl) (by kernel_rfl) (fun _ _ _ h => h) (Or.inl ⟨by rfl, ?_⟩) (by assumption) ?_
                  rotate_left
                  · (intro w' hSw; (try dsimp only at hSw); (try simp only [List.getElem_toArray, List.getElem_cons_succ, List.getElem_cons_zero]); go_simp; try (with_reducible rfl))
                  simp only [Act.put, List.getElem_toArray, List.getElem_cons_succ, List.getElem_cons_zero, List.setIfInBounds_toArray, List.set_cons_zero, List.set_cons_succ]
                  refine wpAnyG_take (v := ?_) 22 (by rfl) (by kernel_rfl) (by kernel_rfl) (by kernel_rfl) (by kernel_rfl) (fun _ _ _ h => h) (Or.inl ⟨by rfl, ?_⟩) (by assumption) ?_
                  rotate_left
                  · (intro w' hSw; (try dsimp only at hSw); (try simp only [List.getElem_toArray, List.getElem_cons_succ, List.getElem_cons_zero]); go_simp; try (with_reducible rfl))
                  simp only [Act.put, List.getElem_toArray, List.getElem_cons_succ, List.getElem_cons_zero, List.setIfInBounds_toArray, List.set_cons_zero, List.set_cons_succ]
                  refine wpAnyG_done (by kernel_rfl) ?_ _
                  refine NoPanic.normal ?_
                  go_wp2
                  go_meet
                  exact ⟨rfl, rfl, rfl⟩
                case rest =>
                  obtain ⟨rfl, rfl, hwc⟩ := hcut
                  have hwc' := hwc.symm
                  subst hwc'
                  clear hwc c1 c2 c3 c4 c5 HC
                  have HI2 : Hid (Below w10.heap.size w10 wr.drew.drew ∧ OwnI wr.drew.drew w10.heap.size (.slice (some ⟨G, 0, none⟩) K K) (Sp.un F L K i)) := hide ⟨(unhide HI).1.drew.drew, own_drew (own_drew (unhide HI).2)⟩
                  generalize wr.drew.drew = wD at *
                  clear HI
                  go_wp2
                  go_loopg [16] K (fun g s16 wr => ∃ (j : Nat) (ol : List Int), j + g = K ∧ s16 = .int .i64 (j : Int) ∧ ol.length = K ∧ Hid (Below w10.heap.size w10 wr ∧ OwnI wr w10.heap.size (.slice (some ⟨G, 0, none⟩) K K) ol) ∧ Hid ((∀ t, t < j → ol.getD t 0 = (Sp.mg (Sp.un F L K i) A B).getD t 0) ∧ ∀ t, j ≤ t → ol.getD t 0 = (Sp.un F L K i).getD t 0))
                  case atStart => exact ⟨0, _, by omega, rfl, unhide HUL, HI2, hide ⟨fun t ht => by omega, fun t _ => rfl⟩⟩
                  case round =>
                    clear HI2
                    obtain ⟨j, ol, hjg, rfl, hol, HI3, HJ3⟩ := hrel
                    cases gk with
                    | zero =>
                      obtain rfl : j = K := by omega
                      have hun : ol = Sp.un F L j (i + 1) := by
                        rw [unhide HST]
                        exact list_eq_getD (by rw [Sp.mg_len, unhide HUL, hol]) fun t ht => (unhide HJ3).1 t (by omega)
                      have HI4 : Hid (Below w10.heap.size w10 wr ∧ OwnI wr w10.heap.size (.slice (some ⟨G, 0, none⟩) j j) (Sp.un F L j (i + 1))) := hide ⟨(unhide HI3).1, by rw [← hun]; exact (unhide HI3).2⟩
                      clear hun HI3 HJ3
                      go_wp2
                      go_roundg g'
                      case rel => exact ⟨i + 1, by omega, by go_num, HI4⟩
                      case measure => omega
                    | succ g2 =>
                      have hjK : j < K := by omega
                      have hjI : (j : Int) < (K : Int) := by omega
                      have hul := unhide HUL
                      have c0 := own_getD (unhide HI3).2 j (by omega)
                      have f0 := own_frozen (unhide HI3).2 j
                      have hmg := Sp.mg_get (of := Sp.un F L K i) (a := A) (b := B) (j := j) (by omega)
                      have hoj := (unhide HJ3).2 j (Nat.le_refl _)
                      rw [hoj] at c0
                      by_cases hE : (Sp.un F L K i).getD j 0 = B
                      · rw [if_pos hE] at hmg
                        have hEb : ((Sp.un F L K i).getD j 0 == B) = true := by rw [hE]; exact beq_self_eq_true _
                        have HI5 : Hid (Below w10.heap.size w10 (wr.setCell ⟨G, j, none⟩ (.int .i64 A)) ∧ OwnI (wr.setCell ⟨G, j, none⟩ (.int .i64 A)) w10.heap.size (.slice (some ⟨G, 0, none⟩) K K) (ol.set j A)) := hide ⟨(unhide HI3).1.setCell (by exact unhide HGG) _, own_setCell (unhide HI3).2 j A⟩
                        have HJ5 : Hid ((∀ t, t < j + 1 → (ol.set j A).getD t 0 = (Sp.mg (Sp.un F L K i) A B).getD t 0) ∧ ∀ t, j + 1 ≤ t → (ol.set j A).getD t 0 = (Sp.un F L K i).getD t 0) := hide ⟨fun t ht => by
                          rw [getD_set1 _ _ _ _ (by omega)]
                          by_cases h : j = t
                          · rw [if_pos h, ← h, hmg]
                          · rw [if_neg h]; exact (unhide HJ3).1 t (by omega), fun t ht => by
                          rw [getD_set1 _ _ _ _ (by omega), if_neg (by omega)]
                          exact (unhide HJ3).2 t (by omega)⟩
                        have hol5 : (ol.set j A).length = K := by rw [List.length_set]; exact hol
                        generalize ol.set j A = ol5 at *
                        generalize (Sp.un F L K i).getD j 0 = z at *
                        clear HI3 HJ3 hmg hoj hE hul
                        go_wp2
                        go_roundg g2
                        case rel => exact ⟨j + 1, ol5, by omega, by go_num, hol5, HI5, HJ5⟩
                        case measure => omega
                      · rw [if_neg hE] at hmg
                        have hEb : ((Sp.un F L K i).getD j 0 == B) = false := beq_eq_false_iff_ne.2 hE
                        have HJ5 : Hid ((∀ t, t < j + 1 → ol.getD t 0 = (Sp.mg (Sp.un F L K i) A B).getD t 0) ∧ ∀ t, j + 1 ≤ t → ol.getD t 0 = (Sp.un F L K i).getD t 0) := hide ⟨fun t ht => by
                          by_cases h : j = t
                          · rw [← h, hmg, hoj]
                          · exact (unhide HJ3).1 t (by omega), fun t ht => (unhide HJ3).2 t (by omega)⟩
                        generalize (Sp.un F L K i).getD j 0 = z at *
                        clear HJ3 hmg hoj hE hul
                        go_wp2
                        go_roundg g2
                        case rel => exact ⟨j + 1, ol, by omega, by go_num, hol, HI3, HJ5⟩
                        case measure => omega
    exact AllReadyG.nil
  exact AllReadyG.nil
end Go.Proofs.Ytenffkplneimlaa


