/- What the proof needs, part 10. -/
import Derived.Test.YtenffkplneimlabL9
/- The law TreeAny, walked. -/
namespace Go.Proofs.Ytenffkplneimlab
open Go Go.RowKit

theorem ownB_getD {w : World} {B g n : Nat} {l : List Bool} (h : OwnB w B (.slice (some ⟨g, 0, none⟩) n n) l) (hl : l.length = n) (k : Nat) (hk : k < n) : w.cell? ⟨g, k, none⟩ = some (.bool (l.getD k false)) := by
  rw [owns_bool h hl k hk, List.getD_eq_getElem?_getD, List.getElem?_eq_getElem (by omega)]
  rfl
theorem ownB_frozen {w : World} {B g n : Nat} {l : List Bool} (h : OwnB w B (.slice (some ⟨g, 0, none⟩) n n) l) (hl : l.length = n) (k : Nat) : w.frozen? ⟨g, k, none⟩ = false := by
  unfold OwnB at h
  rw [hl] at h
  exact World.ownsRow.frozenAt h k
theorem ownB_set {w : World} {B g n : Nat} {l : List Bool} (h : OwnB w B (.slice (some ⟨g, 0, none⟩) n n) l) (hl : l.length = n) (k : Nat) (b : Bool) : OwnB (w.setCell ⟨g, k, none⟩ (.bool b)) B (.slice (some ⟨g, 0, none⟩) n n) (l.set k b) := by
  unfold OwnB at h ⊢
  rw [List.length_set]
  rw [hl] at h ⊢
  rw [List.map_set]
  exact (World.ownsRow.stored h k (.bool b)).1
theorem ownB_but {w w' : World} {B g g' n : Nat} {l : List Bool} (h : OwnB w B (.slice (some ⟨g', 0, none⟩) n n) l) (hb : ButRow g w w') (hne : g' ≠ g) : OwnB w' B (.slice (some ⟨g', 0, none⟩) n n) l := by
  obtain ⟨hx, hv | ⟨k, cap, cur, hv, hg, hh, r⟩⟩ := h
  · exact ⟨hx, .inl hv⟩
  · refine ⟨hx, .inr ⟨k, cap, cur, hv, hg, ?_, r⟩⟩
    have hk : g' = k := by injection hv with hv; injection hv with hv; injection hv with hv
    rw [hb.block k (fun e => hne (by rw [hk, e]))]
    exact hh
set_option maxRecDepth 100000 in
set_option maxHeartbeats 4000000 in
theorem treeAny_any (ns : List Int) (x : Value) (root : Int) (wv : Value) (ds : List Int) (w : World) (hx : Ints w x ns) (hwv : Ints w wv ds) :
    Calls Try.prog 5 #[x, .int .i64 root, wv] w fun e w' => e = .returned (.bool true) ∧ Below w.heap.size w w' := by
  obtain ⟨iB, hiB, hB0, hB1, hB2⟩ := info_parts infoB
  obtain ⟨a, c, rfl, hc, hm⟩ := hx.form
  obtain ⟨da, dc, rfl, -, -⟩ := hwv.form
  have HWV := hide hwv
  clear hwv
  have HPL := hide (fun w' (hb : Below w.heap.size w w') => plane_any ns (.slice a ns.length c) w' (hx.below hb))
  have HOK := hide (Sp.plane_ok ns)
  have HTQ := hide (Sp.treeQ_plane ns)
  generalize Sp.plane ns = q at *
  generalize ns.length = n at *
  clear hx
  obtain ⟨P, hP⟩ : ∃ P : Ending → World → Prop, P = fun e w' => e = .returned (.bool true) ∧ Below w.heap.size w w' := ⟨_, rfl⟩
  rw [← hP]
  have HP := hide hP
  clear hP
  go_enter Try.func5, Try.ntmps5
  go_wp2_with fail
  go_at_call 6
  refine (known4_any w).mono ?_
  rintro e w2 ⟨rfl, hb2⟩
  have Hb2 := hide hb2
  clear hb2
  go_wp2_with fail
  go_at_call 7
  refine (unhide HPL _ (unhide Hb2)).mono ?_
  clear HPL
  rintro e w3 ⟨v, tv, nv, cv, rfl, hnv, hb3⟩
  have hval := hnv.val
  subst hval
  obtain ⟨ta, tc, rfl, htc, htm, HT⟩ := hnv.netI.tail.allD
  obtain ⟨na, nc, rfl, -, -⟩ := hnv.netI.next.form
  obtain ⟨ca, cc, rfl, -, -⟩ := hnv.netI.cap.form
  obtain ⟨W4, hW4⟩ : ∃ W4, W4 = w3.alloc (.cells #[.int .i64 q.n, .slice ta q.tail.length tc, .slice na q.next.length nc, .slice ca q.cap.length cc] 25) := ⟨_, rfl⟩
  obtain ⟨hBX, hs4, hTR⟩ := boxed ((unhide Hb2).trans (hb3.mono (unhide Hb2).size)) hnv.netI W4 hW4
  have HBX := hide hBX
  have HTR := hide hTR
  have Hs4 := hide hs4
  have HW4 := hide hW4
  clear hnv hb3 Hb2 hBX hTR hs4 hW4
  have hb4 : Below (w3.heap.size + 1) W4 W4 := Below.refl _ _
  have HWK := hide ((unhide HOK).walk (by omega))
  have hn0 : 1 ≤ q.n := (unhide HOK).n0
  have hn1 : q.n ≤ 100 := by have := (unhide HOK).n1; omega
  obtain ⟨N, hN⟩ : ∃ N : Nat, q.n = (N : Int) := ⟨q.n.toNat, by omega⟩
  have hN60 : N ≤ 60 := by have := (unhide HTQ).n1; omega
  have hN1 : 1 ≤ N := by omega
  have hl48 : q.tail.length ≤ 48 := (unhide HTQ).le
  have HNN := hide hN
  have HTn : Hid (∀ x ∈ q.tail, 0 ≤ x ∧ x < (N : Int)) := hide fun x hx => by have := (unhide HTQ).tb x hx; omega
  have HIs : Hid (∀ (l : List Int) w' v u, l.length ≤ 1000001 → Ints w' v l → Ints w' u l → Calls Try.prog 16 #[v, u] w' fun e w'' => e = .returned (.bool true) ∧ Below w'.heap.size w' w'') := hide fun l w' v u hl h1 h2 => by
    refine (rInts_any l l v u w' h1 h2 hl hl).mono fun e w'' ⟨a1, a2⟩ => ⟨?_, a2⟩
    rw [a1, decide_eq_true rfl]
  have hnI : (0 : Int) < q.n := by omega
  have HWr := hide (fun w' => within4_any root q.n w' (by omega) (by omega))
  obtain ⟨r, hr⟩ : ∃ r : Nat, root % q.n = (r : Int) := ⟨(root % q.n).toNat, by have := Int.emod_nonneg root (show q.n ≠ 0 by omega); omega⟩
  have hrN : r < N := by have := Int.emod_lt_of_pos root hnI; omega
  rw [hr] at HWr
  clear hr hnI
  have hev := (unhide HTQ).ev
  have HHd : Hid (∀ (y : Nat) w', Below (w3.heap.size + 1) W4 w' → y < q.tail.length → Calls Try.prog 11 #[.agg #[.int .i64 q.n, .slice ta q.tail.length tc, .slice na q.next.length nc, .slice ca q.cap.length cc], .int .i64 (y : Int)] w' fun e w'' => e = .returned (.int .i64 (q.tail.getD (Sp.oth y) 0)) ∧ Below w'.heap.size w' w'') := hide fun y w' hb hy =>
    head2_any q _ _ _ _ y w' (unhide HBX w' hb).2.1 hy hev (by omega)
  have HEv := hide hev
  have HWV4 : Hid (∀ w', Below (w3.heap.size + 1) W4 w' → Ints w' (.slice da ds.length dc) ds) := hide fun w' hb => (unhide HWV).below (unhide HBX w' hb).2.2.1
  obtain ⟨N1, hN1e⟩ : ∃ N1, N = N1 + 1 := ⟨N - 1, by omega⟩
  have HN1 := hide hN1e
  have hqw : IntKind.i64.wrap (q.n - 1) = (N1 : Int) := by rw [IntKind.wrap_i64]; omega
  have hN1N : N1 ≤ N := by omega
  clear hev hN hN1e HWV HOK
  obtain ⟨x0, x1, x2, x3⟩ := (unhide HBX W4 hb4).1
  go_wp2_with fail
  rw [← unhide HW4]
  go_at_call 8
  refine (unhide HWr _).mono ?_
  rintro e w5 ⟨rfl, h5⟩
  have h5' := h5.symm
  subst h5'
  clear h5
  have hNq := unhide HNN
  rw [hNq] at x0
  go_wp2_with (at_make; refine wpList_mk rfl _ _ rfl (w3.heap.size + 1) N rfl rfl (by omega) (by rw [unhide Hs4]; exact Nat.le_refl _) ?_)
  rintro w6 ho6 hb6 -
  obtain ⟨G1, hG1⟩ : ∃ G, W4.heap.size = G := ⟨_, rfl⟩
  rw [hG1] at ho6 ⊢
  have H6 : Hid (Below (w3.heap.size + 1) W4 w6 ∧ OwnI w6 (w3.heap.size + 1) (.slice (some ⟨G1, 0, none⟩) N N) (List.replicate N 0)) := hide ⟨hb6, ho6⟩
  have hgG : (w3.heap.size + 1) ≤ G1 := by rw [← hG1, unhide Hs4]; exact Nat.le_refl _
  have HGG := hide hgG
  clear ho6 hb4 hG1 hgG x0 x1 x2 x3 hNq
  obtain ⟨x0, x1, x2, x3⟩ := (unhide HBX w6 hb6).1
  clear hb6
  go_wp2
  go_loopg [10] N (fun g s10 wr => ∃ (i : Nat) (ol : List Int), i + g = N ∧ s10 = .int .i64 (i : Int) ∧ ol.length = N ∧ Hid (Below (w3.heap.size + 1) W4 wr ∧ OwnI wr (w3.heap.size + 1) (.slice (some ⟨G1, 0, none⟩) N N) ol) ∧ Hid (∀ j : Nat, j < i → ol.getD j 0 = -1))
  case atStart => exact ⟨0, _, by omega, rfl, List.length_replicate, H6, hide fun j hj => by omega⟩
  case round =>
    clear H6 x0 x1 x2 x3
    obtain ⟨i, ol, hig, rfl, hol, HI, HJ⟩ := hrel
    obtain ⟨x0, x1, x2, x3⟩ := (unhide HBX _ (unhide HI).1).1
    cases gk with
    | succ g' =>
      have hiN : i < N := by omega
      have hiI : (i : Int) < (N : Int) := by omega
      have hiq : (i : Int) < q.n := by rw [unhide HNN]; exact hiI
      have c0 := own_getD (unhide HI).2 i (by omega)
      have f0 := own_frozen (unhide HI).2 i
      have HI2 : Hid (Below (w3.heap.size + 1) W4 (wr.setCell ⟨G1, i, none⟩ (.int .i64 (-1))) ∧ OwnI (wr.setCell ⟨G1, i, none⟩ (.int .i64 (-1))) (w3.heap.size + 1) (.slice (some ⟨G1, 0, none⟩) N N) (ol.set i (-1))) := hide ⟨(unhide HI).1.setCell (by exact unhide HGG) _, own_setCell (unhide HI).2 i _⟩
      have HJ2 : Hid (∀ j : Nat, j < i + 1 → (ol.set i (-1)).getD j 0 = -1) := hide fun j hj => by
        rw [getD_set1 _ _ _ _ (by omega)]
        by_cases h : i = j
        · rw [if_pos h]
        · rw [if_neg h]; exact unhide HJ j (by omega)
      clear HI HJ
      go_wp2
      go_roundg g'
      case rel => exact ⟨i + 1, _, by omega, by go_num, by rw [List.length_set]; exact hol, HI2, HJ2⟩
      case measure => omega
    | zero =>
      have hiN : i = N := by omega
      have hiq : ¬ (i : Int) < q.n := by rw [unhide HNN]; omega
      have hszr := (unhide HBX _ (unhide HI).1).2.2.2.1
      have HUm : Hid (∀ v, v < N → ol.getD v 0 = -1) := hide fun v hv => unhide HJ v (by omega)
      have hNq := unhide HNN
      rw [hNq] at x0 hiq
      clear HJ hiN hig
      go_wp2_with (at_make; refine wpList_make_full _ rfl _ _ 36 rfl (w3.heap.size + 1) 4 iB (.bool false) 1 Try.underlying36 hiB hB0 hB1 .i64 .i64 _ _ N rfl rfl rfl rfl (by rw [hB2]; omega) (by unfold maxLen; omega) hszr ?_)
      intro w7 hown7 hg7
      have ho7 : OwnB w7 (w3.heap.size + 1) (.slice (some ⟨wr.heap.size, 0, none⟩) N N) (List.replicate N false) := by
        unfold OwnB
        rw [List.length_replicate, ← made_bools']
        exact hown7
      have hl7 : Below wr.heap.size wr w7 := (Below.refl _ _).grown hg7 (Nat.le_refl _) (by simp)
      have hG1l : G1 < wr.heap.size := ((unhide HI).2.lt G1 rfl).2
      have hb7 := unhide HTR _ _ (unhide HI).1 hl7
      have hu7 := own_below (unhide HI).2 hl7
      obtain ⟨G2, hG2⟩ : ∃ G, wr.heap.size = G := ⟨_, rfl⟩
      rw [hG2] at ho7 hG1l ⊢
      have hne : G1 ≠ G2 := by omega
      have HNE := hide hne
      have HG2 : Hid ((w3.heap.size + 1) ≤ G2) := hide (by omega)
      have hrI : (r : Int) < (N : Int) := by omega
      have c0 := ownB_getD ho7 List.length_replicate r hrN
      have f0 := ownB_frozen ho7 List.length_replicate r
      have hgw : Sp.Gw q.tail ol ((List.replicate N false).set r true) r N 0 := Sp.Gw.first hol (by simp) hrN (unhide HUm) fun v hv => by
        rw [getD_setB _ _ _ _ (by simp; exact hrN)]
        by_cases e : r = v
        · rw [if_pos e, decide_eq_true e.symm]
        · rw [if_neg e, decide_eq_false (fun h => e h.symm), List.getD_eq_getElem?_getD, List.getElem?_replicate]
          split <;> rfl
      have H8 : Hid (Sp.Gw q.tail ol ((List.replicate N false).set r true) r N 0 ∧ Below (w3.heap.size + 1) W4 (w7.setCell ⟨G2, r, none⟩ (.bool true)) ∧ OwnI (w7.setCell ⟨G2, r, none⟩ (.bool true)) (w3.heap.size + 1) (.slice (some ⟨G1, 0, none⟩) N N) ol ∧ OwnB (w7.setCell ⟨G2, r, none⟩ (.bool true)) (w3.heap.size + 1) (.slice (some ⟨G2, 0, none⟩) N N) ((List.replicate N false).set r true)) := hide ⟨hgw, hb7.setCell (by exact unhide HG2) _, own_but hu7 ((ButRow.refl G2 w7).setCell r _) (by simpa [Value.ownBlock] using hne), ownB_set ho7 List.length_replicate r true⟩
      clear hown7 hg7 hl7 hG1l hne hgw HI HUm hG2 hszr x0 x1 x2 x3 hNq hiq hu7 hb7
      rename_i sJ sK2 sa3 sa2 sK1 sa1 sK sa
      clear sa3 sa2 sa1
      obtain ⟨x0, x1, x2, x3⟩ := (unhide HBX _ (unhide H8).2.1).1
      generalize (List.replicate N false).getD r false = bz at *
      generalize (List.replicate N false).set r true = Bl0 at *
      go_wp2
      clear c0 f0
      generalize w7.setCell ⟨G2, r, none⟩ (.bool true) = w8 at *
      clear ho7
      go_loopg [12] N1 (fun g s12 wr => ∃ (k : Nat) (U : List Int) (Bl : List Bool), k + g = N1 ∧ s12 = .int .i64 (k : Int) ∧ Hid (Sp.Gw q.tail U Bl r N k ∧ Below (w3.heap.size + 1) W4 wr ∧ OwnI wr (w3.heap.size + 1) (.slice (some ⟨G1, 0, none⟩) N N) U ∧ OwnB wr (w3.heap.size + 1) (.slice (some ⟨G2, 0, none⟩) N N) Bl))
      case atStart => exact ⟨0, _, _, by omega, rfl, H8⟩
      case round =>
        clear H8 x0 x1 x2 x3
        obtain ⟨k, U, Bl, hkg, rfl, HI⟩ := hrel
        obtain ⟨x0, x1, x2, x3⟩ := (unhide HBX _ (unhide HI).2.1).1
        cases gk with
        | zero =>
          have hkN : ¬ (k : Int) < (N1 : Int) := by omega
          have hRow := (unhide HI).1.done hrN (by have := unhide HN1; omega)
          have hRt := Sp.rowT_right (unhide HNN) (unhide HTQ).tb hRow
          have hLf := hRow.left (unhide HTQ).ev
          have hUl := hRow.len
          have HRt : Hid (∀ w' uv, Below (w3.heap.size + 1) W4 w' → Ints w' uv U → Calls Try.prog 15 #[.agg #[.int .i64 q.n, .slice ta q.tail.length tc, .slice na q.next.length nc, .slice ca q.cap.length cc], uv, .int .i64 (r : Int)] w' fun e w'' => e = .returned (.bool true) ∧ Below w'.heap.size w' w'') := hide fun w' uv hb hu => by
            have h := right_any q _ (r : Int) N _ _ _ _ uv w' (unhide HBX w' hb).2.1 hu (unhide HTQ).ev (by omega) (unhide HNN) hN60 (unhide HTQ).nE (unhide HTQ).tb
            rw [hRt] at h
            exact h
          have HLp : Hid (∀ w' uv, Below (w3.heap.size + 1) W4 w' → Ints w' uv U → Calls Try.prog 12 #[.agg #[.int .i64 q.n, .slice ta q.tail.length tc, .slice na q.next.length nc, .slice ca q.cap.length cc], uv] w' fun e w'' => ∃ lv, e = .returned lv ∧ Ints w'' lv (Sp.leftL q U) ∧ Below w'.heap.size w' w'') := hide fun w' uv hb hu =>
            (left_any q _ r N _ _ _ _ uv w' (unhide HBX w' hb).2.1 hu (unhide HTQ).ev (by omega) (unhide HNN) hN60 (unhide HTQ).nE (unhide HTQ).tb hRt).mono fun e w'' ⟨lv, a1, a2, a3⟩ => ⟨lv, a1, OwnI.ints a2, a3⟩
          have HLr : Hid (∀ w' uv, Below (w3.heap.size + 1) W4 w' → Ints w' uv U → Calls Try.prog 17 #[.agg #[.int .i64 q.n, .slice ta q.tail.length tc, .slice na q.next.length nc, .slice ca q.cap.length cc], uv] w' fun e w'' => ∃ lv, e = .returned lv ∧ Ints w'' lv (Sp.leftL q U) ∧ Below w'.heap.size w' w'') := hide fun w' uv hb hu =>
            (left2_any q _ _ _ _ _ uv w' (unhide HBX w' hb).2.1 hu (unhide HTQ).ev (by omega) (by rw [hUl]; omega)).mono fun e w'' ⟨lv, a1, a2, a3⟩ => ⟨lv, a1, OwnI.ints a2, a3⟩
          have HLL : Hid ((Sp.leftL q U).length ≤ 1000001) := hide (by omega)
          obtain ⟨m, hm⟩ : ∃ m, q.tail.length = 2 * m := ⟨q.tail.length / 2, by have := (unhide HTQ).ev; omega⟩
          have hdv : ((q.tail.length : Nat) : Int).tdiv 2 = (m : Int) := by
            rw [hm]
            have := Int.ofNat_tdiv (2 * m) 2
            rw [Nat.mul_div_cancel_left m (by decide)] at this
            exact this.symm
          have hmw : IntKind.i64.wrap (m : Int) = (m : Int) := by rw [IntKind.wrap_i64]; omega
          rw [hm, Nat.mul_div_cancel_left m (by decide)] at hLf
          have hw1 : IntKind.i64.wrap ((m : Int) - q.n) = (m : Int) - q.n := by rw [IntKind.wrap_i64]; omega
          have hw2 : IntKind.i64.wrap ((m : Int) - q.n + 1) = (((Sp.leftL q U).length : Nat) : Int) := by rw [IntKind.wrap_i64, unhide HNN]; omega
          have hLLb : ((((Sp.leftL q U).length : Nat) : Int) == (((Sp.leftL q U).length : Nat) : Int)) = true := beq_self_eq_true _
          have hU := OwnI.ints (unhide HI).2.2.1
          have hb9 := (unhide HI).2.1
          generalize Sp.leftL q U = LL at *
          clear hRow hRt hLf hUl hm HI hkg
          go_upto_region 29 with fail
          clear x0 x1 x2 x3
          have hbq := hb9.drew
          replace hU := hU.below (Below.refl _ _).drew
          refine wp_region_G (fun w' => w'.cell? ⟨w3.heap.size, 0, none⟩ = some (.int .i64 q.n) ∧ w'.cell? ⟨w3.heap.size, 1, none⟩ = some (.slice ta q.tail.length tc) ∧ w'.cell? ⟨w3.heap.size, 2, none⟩ = some (.slice na q.next.length nc) ∧ w'.cell? ⟨w3.heap.size, 3, none⟩ = some (.slice ca q.cap.length cc)) (fun _ => false) (by kernel_rfl) (unhide HBX _ hbq).1 (fun hHeld => ?_)
          generalize wr.drew = wq at *
          refine wpAnyG_take (v := ?_) 0 (by rfl) (by kernel_rfl) (by kernel_rfl) (by kernel_rfl) (by kernel_rfl) (fun _ _ _ h => h) (Or.inl ⟨by rfl, ?_⟩) (by assumption) ?_
          rotate_left
          · (intro w' hSw; (try dsimp only at hSw); (try simp only [List.getElem_toArray, List.getElem_cons_zero]); go_simp; try (with_reducible rfl))
          simp only [Act.put, List.getElem_toArray, List.getElem_cons_zero, List.setIfInBounds_toArray, List.set_cons_zero, List.set_cons_succ]
          refine wpAnyG_take (v := ?_) 1 (by rfl) (by kernel_rfl) (by kernel_rfl) (by kernel_rfl) (by kernel_rfl) (fun _ _ _ h => h) (Or.inl ⟨by rfl, ?_⟩) (by assumption) ?_
          rotate_left
          · (intro w' hSw; (try dsimp only at hSw); (try simp only [List.getElem_toArray, List.getElem_cons_succ, List.getElem_cons_zero]); go_simp; try (with_reducible rfl))
          simp only [Act.put, List.getElem_toArray, List.getElem_cons_succ, List.getElem_cons_zero, List.setIfInBounds_toArray, List.set_cons_zero, List.set_cons_succ]
          refine wpAnyG_take (v := ?_) 2 (by rfl) (by kernel_rfl) (by kernel_rfl) (by kernel_rfl) (by kernel_rfl) (fun _ _ _ h => h) (Or.inl ⟨by rfl, ?_⟩) (by assumption) ?_
          rotate_left
          · (intro w' hSw; (try dsimp only at hSw); (try simp only [List.getElem_toArray, List.getElem_cons_succ, List.getElem_cons_zero]); go_simp; try (with_reducible rfl))
          simp only [Act.put, List.getElem_toArray, List.getElem_cons_succ, List.getElem_cons_zero, List.setIfInBounds_toArray, List.set_cons_zero, List.set_cons_succ]
          refine wpAnyG_ready [3] (by kernel_rfl) (by simp) ?_
          refine AllReadyG.cons 3 (by rfl) (fun K hK => ?_) ?_
          · simp only [List.getElem_toArray, List.getElem_cons_succ, List.getElem_cons_zero]
            go_simp
            go_at_call 15
            refine (unhide HRt _ _ hbq hU).mono ?_
            rintro e wc1 ⟨rfl, hlc1⟩
            have hbc1 := unhide HTR _ _ hbq hlc1
            replace hU := Ints.below hU hlc1
            refine hK.out _ _ (unhide HBX _ hbc1).1 (fun _ => ?_)
            clear hK K
            try simp only [Act.put, List.setIfInBounds_toArray, List.set_cons_zero, List.set_cons_succ]
            refine wpAnyG_take (v := ?_) 4 (by rfl) (by kernel_rfl) (by kernel_rfl) (by kernel_rfl) (by kernel_rfl) (fun _ _ _ h => h) (Or.inl ⟨by rfl, ?_⟩) (by assumption) ?_
            rotate_left
            · (intro w' hSw; (try dsimp only at hSw); (try simp only [List.getElem_toArray, List.getElem_cons_succ, List.getElem_cons_zero]); go_simp; try (with_reducible rfl))
            simp only [Act.put, List.getElem_toArray, List.getElem_cons_succ, List.getElem_cons_zero, List.setIfInBounds_toArray, List.set_cons_zero, List.set_cons_succ]
            refine wpAnyG_take (v := ?_) 5 (by rfl) (by kernel_rfl) (by kernel_rfl) (by kernel_rfl) (by kernel_rfl) (fun _ _ _ h => h) (Or.inl ⟨by rfl, ?_⟩) (by assumption) ?_
            rotate_left
            · (intro w' hSw; (try dsimp only at hSw); (try simp only [List.getElem_toArray, List.getElem_cons_succ, List.getElem_cons_zero]); go_simp; try (with_reducible rfl))
            simp only [Act.put, List.getElem_toArray, List.getElem_cons_succ, List.getElem_cons_zero, List.setIfInBounds_toArray, List.set_cons_zero, List.set_cons_succ]
            refine wpAnyG_take (v := ?_) 6 (by rfl) (by kernel_rfl) (by kernel_rfl) (by kernel_rfl) (by kernel_rfl) (fun _ _ _ h => h) (Or.inl ⟨by rfl, ?_⟩) (by assumption) ?_
            rotate_left
            · (intro w' hSw; (try dsimp only at hSw); (try simp only [List.getElem_toArray, List.getElem_cons_succ, List.getElem_cons_zero]); go_simp; try (with_reducible rfl))
            simp only [Act.put, List.getElem_toArray, List.getElem_cons_succ, List.getElem_cons_zero, List.setIfInBounds_toArray, List.set_cons_zero, List.set_cons_succ]
            refine wpAnyG_take (v := ?_) 8 (by rfl) (by kernel_rfl) (by kernel_rfl) (by kernel_rfl) (by kernel_rfl) (fun _ _ _ h => h) (Or.inl ⟨by rfl, ?_⟩) (by assumption) ?_
            rotate_left
            · (intro w' hSw; (try dsimp only at hSw); (try simp only [List.getElem_toArray, List.getElem_cons_succ, List.getElem_cons_zero]); go_simp; try (with_reducible rfl))
            simp only [Act.put, List.getElem_toArray, List.getElem_cons_succ, List.getElem_cons_zero, List.setIfInBounds_toArray, List.set_cons_zero, List.set_cons_succ]
            refine wpAnyG_take (v := ?_) 9 (by rfl) (by kernel_rfl) (by kernel_rfl) (by kernel_rfl) (by kernel_rfl) (fun _ _ _ h => h) (Or.inl ⟨by rfl, ?_⟩) (by assumption) ?_
            rotate_left
            · (intro w' hSw; (try dsimp only at hSw); (try simp only [List.getElem_toArray, List.getElem_cons_succ, List.getElem_cons_zero]); go_simp; try (with_reducible rfl))
            simp only [Act.put, List.getElem_toArray, List.getElem_cons_succ, List.getElem_cons_zero, List.setIfInBounds_toArray, List.set_cons_zero, List.set_cons_succ]
            refine wpAnyG_ready [7] (by kernel_rfl) (by simp) ?_
            refine AllReadyG.cons 7 (by rfl) (fun K hK => ?_) ?_
            · simp only [List.getElem_toArray, List.getElem_cons_succ, List.getElem_cons_zero]
              go_simp
              go_at_call 12
              refine (unhide HLp _ _ hbc1 hU).mono ?_
              rintro e wc2 ⟨rv2, rfl, hI2, hlc2⟩
              have hbc2 := unhide HTR _ _ hbc1 hlc2
              replace hU := Ints.below hU hlc2
              refine hK.out _ _ (unhide HBX _ hbc2).1 (fun _ => ?_)
              clear hK K
              try simp only [Act.put, List.setIfInBounds_toArray, List.set_cons_zero, List.set_cons_succ]
              refine wpAnyG_ready [10] (by kernel_rfl) (by simp) ?_
              refine AllReadyG.cons 10 (by rfl) (fun K hK => ?_) ?_
              · simp only [List.getElem_toArray, List.getElem_cons_succ, List.getElem_cons_zero]
                go_simp
                go_at_call 17
                refine (unhide HLr _ _ hbc2 hU).mono ?_
                rintro e wc3 ⟨rv3, rfl, hI3, hlc3⟩
                have hbc3 := unhide HTR _ _ hbc2 hlc3
                replace hU := Ints.below hU hlc3
                replace hI2 := Ints.below hI2 hlc3
                refine hK.out _ _ (unhide HBX _ hbc3).1 (fun _ => ?_)
                clear hK K
                try simp only [Act.put, List.setIfInBounds_toArray, List.set_cons_zero, List.set_cons_succ]
                refine wpAnyG_ready [11] (by kernel_rfl) (by simp) ?_
                refine AllReadyG.cons 11 (by rfl) (fun K hK => ?_) ?_
                · simp only [List.getElem_toArray, List.getElem_cons_succ, List.getElem_cons_zero]
                  go_simp
                  go_at_call 16
                  refine (unhide HIs _ _ _ _ (unhide HLL) hI2 hI3).mono ?_
                  rintro e wc4 ⟨rfl, hlc4⟩
                  have hbc4 := unhide HTR _ _ hbc3 hlc4
                  replace hU := Ints.below hU hlc4
                  replace hI2 := Ints.below hI2 hlc4
                  replace hI3 := Ints.below hI3 hlc4
                  refine hK.out _ _ (unhide HBX _ hbc4).1 (fun _ => ?_)
                  clear hK K
                  try simp only [Act.put, List.setIfInBounds_toArray, List.set_cons_zero, List.set_cons_succ]
                  refine wpAnyG_take (v := ?_) 12 (by rfl) (by kernel_rfl) (by kernel_rfl) (by kernel_rfl) (by kernel_rfl) (fun _ _ _ h => h) (Or.inl ⟨by rfl, ?_⟩) (by assumption) ?_
                  rotate_left
                  · (intro w' hSw; (try dsimp only at hSw); (try simp only [List.getElem_toArray, List.getElem_cons_succ, List.getElem_cons_zero]); go_simp; try (with_reducible rfl))
                  simp only [Act.put, List.getElem_toArray, List.getElem_cons_succ, List.getElem_cons_zero, List.setIfInBounds_toArray, List.set_cons_zero, List.set_cons_succ]
                  refine wpAnyG_take (v := ?_) 13 (by rfl) (by kernel_rfl) (by kernel_rfl) (by kernel_rfl) (by kernel_rfl) (fun _ _ _ h => h) (Or.inl ⟨by rfl, ?_⟩) (by assumption) ?_
                  rotate_left
                  · (intro w' hSw; (try dsimp only at hSw); (try simp only [List.getElem_toArray, List.getElem_cons_succ, List.getElem_cons_zero]); go_simp; try (with_reducible rfl))
                  simp only [Act.put, List.getElem_toArray, List.getElem_cons_succ, List.getElem_cons_zero, List.setIfInBounds_toArray, List.set_cons_zero, List.set_cons_succ]
                  refine wpAnyG_take (v := ?_) 14 (by rfl) (by kernel_rfl) (by kernel_rfl) (by kernel_rfl) (by kernel_rfl) (fun _ _ _ h => h) (Or.inl ⟨by rfl, ?_⟩) (by assumption) ?_
                  rotate_left
                  · (intro w' hSw; (try dsimp only at hSw); (try simp only [List.getElem_toArray, List.getElem_cons_succ, List.getElem_cons_zero]); go_simp; try (with_reducible rfl))
                  simp only [Act.put, List.getElem_toArray, List.getElem_cons_succ, List.getElem_cons_zero, List.setIfInBounds_toArray, List.set_cons_zero, List.set_cons_succ]
                  refine wpAnyG_take (v := ?_) 15 (by rfl) (by kernel_rfl) (by kernel_rfl) (by kernel_rfl) (by kernel_rfl) (fun _ _ _ h => h) (Or.inl ⟨by rfl, ?_⟩) (by assumption) ?_
                  rotate_left
                  · (intro w' hSw; (try dsimp only at hSw); (try simp only [List.getElem_toArray, List.getElem_cons_succ, List.getElem_cons_zero]); go_simp; try (with_reducible rfl))
                  simp only [Act.put, List.getElem_toArray, List.getElem_cons_succ, List.getElem_cons_zero, List.setIfInBounds_toArray, List.set_cons_zero, List.set_cons_succ]
                  refine wpAnyG_take (v := ?_) 18 (by rfl) (by kernel_rfl) (by kernel_rfl) (by kernel_rfl) (by kernel_rfl) (fun _ _ _ h => h) (Or.inl ⟨by rfl, ?_⟩) (by assumption) ?_
                  rotate_left
                  · (intro w' hSw; (try dsimp only at hSw); (try simp only [List.getElem_toArray, List.getElem_cons_succ, List.getElem_cons_zero]); go_simp; try (with_reducible rfl))
                  simp only [Act.put, List.getElem_toArray, List.getElem_cons_succ, List.getElem_cons_zero, List.setIfInBounds_toArray, List.set_cons_zero, List.set_cons_succ]
                  refine wpAnyG_take (v := ?_) 19 (by rfl) (by kernel_rfl) (by kernel_rfl) (by kernel_rfl) (by kernel_rfl) (fun _ _ _ h => h) (Or.inl ⟨by rfl, ?_⟩) (by assumption) ?_
                  rotate_left
                  · (intro w' hSw; (try dsimp only at hSw); (try simp only [List.getElem_toArray, List.getElem_cons_succ, List.getElem_cons_zero]); go_simp; try (with_reducible rfl))
                  simp only [Act.put, List.getElem_toArray, List.getElem_cons_succ, List.getElem_cons_zero, List.setIfInBounds_toArray, List.set_cons_zero, List.set_cons_succ]
                  refine wpAnyG_take (v := ?_) 20 (by rfl) (by kernel_rfl) (by kernel_rfl) (by kernel_rfl) (by kernel_rfl) (fun _ _ _ h => h) (Or.inl ⟨by rfl, ?_⟩) (by assumption) ?_
                  rotate_left
                  · (intro w' hSw; (try dsimp only at hSw); (try simp only [List.getElem_toArray, List.getElem_cons_succ, List.getElem_cons_zero]); go_simp; try (with_reducible rfl))
                  simp only [Act.put, List.getElem_toArray, List.getElem_cons_succ, List.getElem_cons_zero, List.setIfInBounds_toArray, List.set_cons_zero, List.set_cons_succ]
                  refine wpAnyG_take (v := ?_) 21 (by rfl) (by kernel_rfl) (by kernel_rfl) (by kernel_rfl) (by kernel_rfl) (fun _ _ _ h => h) (Or.inl ⟨by rfl, ?_⟩) (by assumption) ?_
                  rotate_left
                  · (intro w' hSw; (try dsimp only at hSw); (try simp only [List.getElem_toArray, List.getElem_cons_succ, List.getElem_cons_zero]); go_simp; try (with_reducible rfl))
                  simp only [Act.put, List.getElem_toArray, List.getElem_cons_succ, List.getElem_cons_zero, List.setIfInBounds_toArray, List.set_cons_zero, List.set_cons_succ]
                  refine wpAnyG_take (v := ?_) 22 (by rfl) (by kernel_rfl) (by kernel_rfl) (by kernel_rfl) (by kernel_rfl) (fun _ _ _ h => h) (Or.inl ⟨by rfl, ?_⟩) (by assumption) ?_
                  rotate_left
                  · (intro w' hSw; (try dsimp only at hSw); (try simp only [List.getElem_toArray, List.getElem_cons_succ, List.getElem_cons_zero]); go_simp; try (with_reducible rfl))
                  simp only [Act.put, List.getElem_toArray, List.getElem_cons_succ, List.getElem_cons_zero, List.setIfInBounds_toArray, List.set_cons_zero, List.set_cons_succ]
                  refine wpAnyG_take (v := ?_) 23 (by rfl) (by kernel_rfl) (by kernel_rfl) (by kernel_rfl) (by kernel_rfl) (fun _ _ _ h => h) (Or.inl ⟨by rfl, ?_⟩) (by assumption) ?_
                  rotate_left
                  · (intro w' hSw; (try dsimp only at hSw); (try simp only [List.getElem_toArray, List.getElem_cons_succ, List.getElem_cons_zero]); go_simp; try (with_reducible rfl))
                  simp only [Act.put, List.getElem_toArray, List.getElem_cons_succ, List.getElem_cons_zero, List.setIfInBounds_toArray, List.set_cons_zero, List.set_cons_succ]
                  refine wpAnyG_take (v := ?_) 24 (by rfl) (by kernel_rfl) (by kernel_rfl) (by kernel_rfl) (by kernel_rfl) (fun _ _ _ h => h) (Or.inl ⟨by rfl, ?_⟩) (by assumption) ?_
                  rotate_left
                  · (intro w' hSw; (try dsimp only at hSw); (try simp only [List.getElem_toArray, List.getElem_cons_succ, List.getElem_cons_zero]); go_simp; try (with_reducible rfl))
                  simp only [Act.put, List.getElem_toArray, List.getElem_cons_succ, List.getElem_cons_zero, List.setIfInBounds_toArray, List.set_cons_zero, List.set_cons_succ]
                  refine wpAnyG_take (v := ?_) 25 (by rfl) (by kernel_rfl) (by kernel_rfl) (by kernel_rfl) (by kernel_rfl) (fun _ _ _ h => h) (Or.inl ⟨by rfl, ?_⟩) (by assumption) ?_
                  rotate_left
                  · (intro w' hSw; (try dsimp only at hSw); (try simp only [List.getElem_toArray, List.getElem_cons_succ, List.getElem_cons_zero]); go_simp; try (with_reducible rfl))
                  simp only [Act.put, List.getElem_toArray, List.getElem_cons_succ, List.getElem_cons_zero, List.setIfInBounds_toArray, List.set_cons_zero, List.set_cons_succ]
                  refine wpAnyG_ready [16] (by kernel_rfl) (by simp) ?_
                  refine AllReadyG.cons 16 (by rfl) (fun K hK => ?_) ?_
                  · simp only [List.getElem_toArray, List.getElem_cons_succ, List.getElem_cons_zero]
                    go_simp
                    go_at_call 12
                    refine (unhide HLp _ _ hbc4 hU).mono ?_
                    rintro e wc5 ⟨rv5, rfl, hI5, hlc5⟩
                    have hbc5 := unhide HTR _ _ hbc4 hlc5
                    replace hU := Ints.below hU hlc5
                    replace hI2 := Ints.below hI2 hlc5
                    replace hI3 := Ints.below hI3 hlc5
                    obtain ⟨_, _, rfl, -, -⟩ := hI5.form
                    refine hK.out _ _ (unhide HBX _ hbc5).1 (fun _ => ?_)
                    clear hK K
                    try simp only [Act.put, List.setIfInBounds_toArray, List.set_cons_zero, List.set_cons_succ]
                    refine wpAnyG_take (v := ?_) 17 (by rfl) (by kernel_rfl) (by kernel_rfl) (by kernel_rfl) (by kernel_rfl) (fun _ _ _ h => h) (Or.inl ⟨by rfl, ?_⟩) (by assumption) ?_
                    rotate_left
                    · (intro w' hSw; (try dsimp only at hSw); (try simp only [List.getElem_toArray, List.getElem_cons_succ, List.getElem_cons_zero]); go_simp; try (with_reducible rfl))
                    simp only [Act.put, List.getElem_toArray, List.getElem_cons_succ, List.getElem_cons_zero, List.setIfInBounds_toArray, List.set_cons_zero, List.set_cons_succ]
                    refine wpAnyG_take (v := ?_) 26 (by rfl) (by kernel_rfl) (by kernel_rfl) (by kernel_rfl) (by kernel_rfl) (fun _ _ _ h => h) (Or.inl ⟨by rfl, ?_⟩) (by assumption) ?_
                    rotate_left
                    · (intro w' hSw; (try dsimp only at hSw); (try simp only [List.getElem_toArray, List.getElem_cons_succ, List.getElem_cons_zero]); go_simp; try (with_reducible rfl))
                    simp only [Act.put, List.getElem_toArray, List.getElem_cons_succ, List.getElem_cons_zero, List.setIfInBounds_toArray, List.set_cons_zero, List.set_cons_succ]
                    refine wpAnyG_take (v := ?_) 27 (by rfl) (by kernel_rfl) (by kernel_rfl) (by kernel_rfl) (by kernel_rfl) (fun _ _ _ h => h) (Or.inl ⟨by rfl, ?_⟩) (by assumption) ?_
                    rotate_left
                    · (intro w' hSw; (try dsimp only at hSw); (try simp only [List.getElem_toArray, List.getElem_cons_succ, List.getElem_cons_zero]); go_simp; try (with_reducible rfl))
                    simp only [Act.put, List.getElem_toArray, List.getElem_cons_succ, List.getElem_cons_zero, List.setIfInBounds_toArray, List.set_cons_zero, List.set_cons_succ]
                    refine wpAnyG_take (v := ?_) 28 (by rfl) (by kernel_rfl) (by kernel_rfl) (by kernel_rfl) (by kernel_rfl) (fun _ _ _ h => h) (Or.inl ⟨by rfl, ?_⟩) (by assumption) ?_
                    rotate_left
                    · (intro w' hSw; (try dsimp only at hSw); (try simp only [List.getElem_toArray, List.getElem_cons_succ, List.getElem_cons_zero]); go_simp; try (with_reducible rfl))
                    simp only [Act.put, List.getElem_toArray, List.getElem_cons_succ, List.getElem_cons_zero, List.setIfInBounds_toArray, List.set_cons_zero, List.set_cons_succ]
                    refine wpAnyG_done (by kernel_rfl) ?_ _
                    refine NoPanic.normal ?_
                    go_wp2
                    rw [unhide HP]
                    exact ⟨rfl, (unhide HBX _ hbc5).2.2.1⟩
                  exact AllReadyG.nil
                exact AllReadyG.nil
              exact AllReadyG.nil
            exact AllReadyG.nil
          exact AllReadyG.nil
        | succ g' =>
          have hkN1 : k < N1 := by omega
          have hkI : (k : Int) < (N1 : Int) := by omega
          obtain ⟨wK, hwK⟩ : ∃ wK, wK = wr := ⟨_, rfl⟩
          have HI0 : Hid (Below wK.heap.size wK wK ∧ OwnI wK wK.heap.size (.slice none 0 0) (Sp.gwL q.tail Bl 0)) := hide ⟨Below.refl _ _, ⟨by simp [Sp.gwL], .inl ⟨rfl, rfl⟩⟩⟩
          rw [← hwK] at HI x0 x1 x2 x3 ⊢
          clear hwK
          have HbK : Hid (∀ w', Below wK.heap.size wK w' → Below (w3.heap.size + 1) W4 w' ∧ OwnI w' (w3.heap.size + 1) (.slice (some ⟨G1, 0, none⟩) N N) U ∧ OwnB w' (w3.heap.size + 1) (.slice (some ⟨G2, 0, none⟩) N N) Bl) := hide fun w' hb => ⟨unhide HTR _ _ (unhide HI).2.1 hb, own_below (unhide HI).2.2.1 hb, own_below (unhide HI).2.2.2 hb⟩
          go_wp2
          go_loopg [13, 14] q.tail.length (fun g s13 s14 wr => ∃ (d : Nat) (la : Option Addr) (lc : Nat), d + g = q.tail.length ∧ s14 = .int .i64 (d : Int) ∧ s13 = .slice la (Sp.gwL q.tail Bl d).length lc ∧ Hid (Below wK.heap.size wK wr ∧ OwnI wr wK.heap.size (.slice la (Sp.gwL q.tail Bl d).length lc) (Sp.gwL q.tail Bl d)))
          case atStart => exact ⟨0, none, 0, by omega, rfl, rfl, HI0⟩
          case round =>
            clear HI0 x0 x1 x2 x3
            obtain ⟨d, la, lc, hdg, rfl, rfl, HL⟩ := hrel
            have hS := unhide HbK _ (unhide HL).1
            obtain ⟨x0, x1, x2, x3⟩ := (unhide HBX _ hS.1).1
            cases gk with
            | succ g2 =>
              have hdt : d < q.tail.length := by omega
              have hdI : (d : Int) < (q.tail.length : Int) := by omega
              have hbl := (unhide HI).1.bl
              have ho := oth_lt hdt (unhide HEv)
              have bt := unhide HTn _ (Sp.getD_mem (l := q.tail) hdt)
              have bh := unhide HTn _ (Sp.getD_mem (l := q.tail) ho)
              obtain ⟨tb, t0, rfl, -, htc'⟩ := unhide HT d hdt
              have c1 := htc' wr (unhide HBX _ hS.1).2.2.2.2
              obtain ⟨t, ht⟩ : ∃ t : Nat, q.tail.getD d 0 = (t : Int) := ⟨(q.tail.getD d 0).toNat, by omega⟩
              obtain ⟨h, hth⟩ : ∃ h : Nat, q.tail.getD (Sp.oth d) 0 = (h : Int) := ⟨(q.tail.getD (Sp.oth d) 0).toNat, by omega⟩
              rw [ht] at bt c1
              rw [hth] at bh
              have htN : t < N := by omega
              have hhN : h < N := by omega
              have htI : (t : Int) < (N : Int) := bt.2
              have hhI : (h : Int) < (N : Int) := bh.2
              have c2 := ownB_getD hS.2.2 hbl t htN
              have hHd := unhide HHd d wr hS.1 hdt
              rw [hth] at hHd
              have HH := hide hHd
              have hstep : Sp.gwL q.tail Bl (d + 1) = if (Bl.getD t false && !Bl.getD h false) = true then Sp.gwL q.tail Bl d ++ [(d : Int)] else Sp.gwL q.tail Bl d := by
                rw [Sp.gwL, ht, hth, Int.toNat_natCast, Int.toNat_natCast]
              have hllen := Sp.gwL_len q.tail Bl d
              have HS := hide hS
              clear htc' ht hth bt bh hHd hS ho
              cases hbt : Bl.getD t false with
              | false =>
                rw [hbt] at c2 hstep
                have HSt := hide hstep
                clear hstep HH HS hbt
                go_wp2
                go_roundg g2
                case rel => exact ⟨d + 1, la, lc, by omega, by go_num, by rw [unhide HSt]; rfl, by rw [unhide HSt]; exact HL⟩
                case measure => omega
              | true =>
                rw [hbt] at c2 hstep
                go_wp2_with fail
                go_at_call 11
                refine (unhide HH).mono ?_
                rintro e wh ⟨rfl, hlh⟩
                have HSh := hide (And.intro (unhide HTR _ _ (unhide HS).1 hlh) (And.intro (own_below (unhide HS).2.1 hlh) (own_below (unhide HS).2.2 hlh)))
                have HLh := hide (And.intro ((unhide HL).1.trans (hlh.mono (unhide HL).1.size)) (own_below (unhide HL).2 hlh))
                have c3 := ownB_getD (unhide HSh).2.2 hbl h hhN
                have hszk := (unhide HLh).1.size
                clear hlh HH HS HL c1 c2 hbt x0 x1 x2 x3
                cases hbh : Bl.getD h false with
                | true =>
                  rw [hbh] at c3 hstep
                  have HSt := hide hstep
                  clear hstep hbh
                  go_wp2
                  go_roundg g2
                  case rel => exact ⟨d + 1, la, lc, by omega, by go_num, by rw [unhide HSt]; rfl, by rw [unhide HSt]; exact HLh⟩
                  case measure => omega
                | false =>
                  rw [hbh] at c3 hstep
                  have HSt := hide hstep
                  clear hstep hbh
                  generalize Sp.gwL q.tail Bl d = out at *
                  go_wp2_with (at_builtin; refine wpList_app (w := wh.alloc (.cells #[.int .i64 (d : Int)] 3)) rfl _ _ rfl wK.heap.size _ _ out [(d : Int)] rfl rfl (World.ownsRow.alloc (unhide HLh).2 _) (OwnI.ints (own_lit wh 0 _ 1 [(d : Int)] rfl rfl (by omega) (by simp))) (out.length + 1) (by simp) (by omega) (by simp; omega) ?_)
                  intro a6 c6 w6' hown6 hb6' hgr6
                  have HL6 : Hid (Below wK.heap.size wK w6' ∧ OwnI w6' wK.heap.size (.slice a6 (out.length + 1) c6) (out ++ [(d : Int)])) := hide ⟨((unhide HLh).1.alloc hszk _).trans hb6', hown6⟩
                  have hlen : (out ++ [(d : Int)]).length = out.length + 1 := by simp
                  have HSt2 : Hid (Sp.gwL q.tail Bl (d + 1) = out ++ [(d : Int)]) := hide (by rw [unhide HSt]; rfl)
                  clear hgr6 hb6' hown6 HLh HSh HSt c3
                  go_wp2
                  go_roundg g2
                  case rel => exact ⟨d + 1, a6, c6, by omega, by go_num, by rw [unhide HSt2, hlen], by rw [unhide HSt2, hlen]; exact HL6⟩
                  case measure => omega
            | zero =>
              have hdL : d = q.tail.length := by omega
              rw [hdL] at HL ⊢
              obtain ⟨LL, hLL⟩ : ∃ LL, Sp.gwL q.tail Bl q.tail.length = LL := ⟨_, rfl⟩
              have hmem : ∀ z, z ∈ LL ↔ ∃ d, d < q.tail.length ∧ z = (d : Int) ∧ Bl.getD (q.tail.getD d 0).toNat false = true ∧ Bl.getD (q.tail.getD (Sp.oth d) 0).toNat false = false := fun z => by rw [← hLL]; exact Sp.gwL_mem q.tail Bl _ z
              have hllen := Sp.gwL_len q.tail Bl q.tail.length
              rw [hLL] at HL hllen ⊢
              obtain ⟨d0, hd0, hd1, hd2⟩ := (unhide HI).1.out (unhide HTQ) (unhide HNN) hrN (by have := unhide HN1; omega)
              have hpos : 0 < LL.length := by
                have := (hmem (d0 : Int)).2 ⟨d0, hd0, rfl, hd1, hd2⟩
                exact List.length_pos_iff_exists_mem.2 ⟨_, this⟩
              obtain ⟨gl, lc', hlv, -, -, -, -⟩ := own_form (unhide HL).2 hpos
              injection hlv with e1 e2 e3
              subst e1 e3
              obtain ⟨C, hC⟩ : ∃ C : Int, C = if k < ds.length then ds.getD k 0 else (k : Int) := ⟨_, rfl⟩
              have HWc := hide (fun w' => within4_any C LL.length w' (by omega) (by omega))
              obtain ⟨j, hj⟩ : ∃ j : Nat, C % (LL.length : Int) = (j : Int) := ⟨(C % (LL.length : Int)).toNat, by have := Int.emod_nonneg C (show (LL.length : Int) ≠ 0 by omega); omega⟩
              have hjl : j < LL.length := by have := Int.emod_lt_of_pos C (show (0 : Int) < (LL.length : Int) by omega); omega
              rw [hj] at HWc
              obtain ⟨dd, hddt, hjd, hin, hout⟩ := (hmem _).1 (Sp.getD_mem (l := LL) hjl)
              have c4 := own_getD (unhide HL).2 j hjl
              rw [hjd] at c4
              have hddI : (dd : Int) < (q.tail.length : Int) := by omega
              have hX := xor_oth ⟨dd, by omega⟩
              simp only at hX
              have ho := oth_lt hddt (unhide HEv)
              have bh := unhide HTn _ (Sp.getD_mem (l := q.tail) ho)
              obtain ⟨h, hth⟩ : ∃ h : Nat, q.tail.getD (Sp.oth dd) 0 = (h : Int) := ⟨(q.tail.getD (Sp.oth dd) 0).toNat, by omega⟩
              rw [hth] at bh hout
              rw [Int.toNat_natCast] at hout
              have hhN : h < N := by omega
              have hhI : (h : Int) < (N : Int) := bh.2
              have hbl := (unhide HI).1.bl
              have hul := (unhide HI).1.ul
              have HGr := hide ((unhide HI).1.grow (unhide HTn) (unhide HEv) hddt hin hth hout)
              have hjI : (j : Int) < (LL.length : Int) := by omega
              have hl0 : (((LL.length : Nat) : Int) == 0) = false := beq_eq_false_iff_ne.2 (by omega)
              have hl0N : ¬ LL.length = 0 := by omega
              have HS := hide hS
              have HWVr := (unhide HWV4 wr hS.1).allD
              have hdlI : ¬ (q.tail.length : Int) < (q.tail.length : Int) := by omega
              clear hmem hLL hd0 hd1 hd2 hj hjd hin hout ho bh hS hdL hdg HL HbK hpos
              by_cases hkd : k < ds.length
              · rw [if_pos hkd] at hC
                have hkdI : (k : Int) < (ds.length : Int) := by omega
                obtain ⟨da', dc', e1, -, -, HD⟩ := HWVr
                injection e1 with e1 e2 e3
                subst e1 e3
                obtain ⟨db, d0', rfl, -, hdc⟩ := unhide HD k hkd
                have cd := hdc _ (Below.refl _ _)
                rw [← hC] at cd
                clear hC hdc
                go_wp2_with fail
                go_at_call 8
                refine (unhide HWc _).mono ?_
                rintro e wz ⟨rfl, hwz⟩
                have hwz' := hwz.symm
                subst hwz'
                clear hwz
                go_wp2_with fail
                go_at_call 11
                refine (unhide HHd dd _ (unhide HS).1 hddt).mono ?_
                rw [hth]
                rintro e wh ⟨rfl, hlh⟩
                have h1a := unhide HTR _ _ (unhide HS).1 hlh
                have h1u := own_below (unhide HS).2.1 hlh
                have h1b := own_below (unhide HS).2.2 hlh
                have c5 := ownB_getD h1b hbl h hhN
                have f5 := ownB_frozen h1b hbl h
                have H9 : Hid (Below (w3.heap.size + 1) W4 (wh.setCell ⟨G2, h, none⟩ (.bool true)) ∧ OwnI (wh.setCell ⟨G2, h, none⟩ (.bool true)) (w3.heap.size + 1) (.slice (some ⟨G1, 0, none⟩) N N) U ∧ OwnB (wh.setCell ⟨G2, h, none⟩ (.bool true)) (w3.heap.size + 1) (.slice (some ⟨G2, 0, none⟩) N N) (Bl.set h true)) := hide ⟨h1a.setCell (by exact unhide HG2) _, own_but h1u ((ButRow.refl G2 wh).setCell h _) (by simpa [Value.ownBlock] using unhide HNE), ownB_set h1b hbl h true⟩
                obtain ⟨x0, x1, x2, x3⟩ := (unhide HBX _ (unhide H9).1).1
                clear hlh h1a h1u h1b
                go_wp2_with fail
                generalize wh.setCell ⟨G2, h, none⟩ (.bool true) = w9 at *
                clear c5 f5
                go_at_call 11
                refine (unhide HHd dd _ (unhide H9).1 hddt).mono ?_
                rw [hth]
                rintro e wh2 ⟨rfl, hlh⟩
                have h2a := unhide HTR _ _ (unhide H9).1 hlh
                have h2u := own_below (unhide H9).2.1 hlh
                have h2b := own_below (unhide H9).2.2 hlh
                have c6 := own_getD h2u h (by rw [hul]; exact hhN)
                have f6 := own_frozen h2u h
                have H10 : Hid (Sp.Gw q.tail (U.set h ((Sp.oth dd : Nat) : Int)) (Bl.set h true) r N (k + 1) ∧ Below (w3.heap.size + 1) W4 (wh2.setCell ⟨G1, h, none⟩ (.int .i64 ((Sp.oth dd : Nat) : Int))) ∧ OwnI (wh2.setCell ⟨G1, h, none⟩ (.int .i64 ((Sp.oth dd : Nat) : Int))) (w3.heap.size + 1) (.slice (some ⟨G1, 0, none⟩) N N) (U.set h ((Sp.oth dd : Nat) : Int)) ∧ OwnB (wh2.setCell ⟨G1, h, none⟩ (.int .i64 ((Sp.oth dd : Nat) : Int))) (w3.heap.size + 1) (.slice (some ⟨G2, 0, none⟩) N N) (Bl.set h true)) := hide ⟨unhide HGr, h2a.setCell (by exact unhide HGG) _, own_setCell h2u h _, ownB_but h2b ((ButRow.refl G1 wh2).setCell h _) (fun e => unhide HNE e.symm)⟩
                clear hlh h2a h2u h2b H9 x0 x1 x2 x3
                go_wp2
                go_roundg g'
                case rel => exact ⟨k + 1, _, _, by omega, by go_num, H10⟩
                case measure => omega
              · rw [if_neg hkd] at hC
                have hkdI : ¬ (k : Int) < (ds.length : Int) := by omega
                subst hC
                clear HWVr
                go_wp2_with fail
                go_at_call 8
                refine (unhide HWc _).mono ?_
                rintro e wz ⟨rfl, hwz⟩
                have hwz' := hwz.symm
                subst hwz'
                clear hwz
                go_wp2_with fail
                go_at_call 11
                refine (unhide HHd dd _ (unhide HS).1 hddt).mono ?_
                rw [hth]
                rintro e wh ⟨rfl, hlh⟩
                have h1a := unhide HTR _ _ (unhide HS).1 hlh
                have h1u := own_below (unhide HS).2.1 hlh
                have h1b := own_below (unhide HS).2.2 hlh
                have c5 := ownB_getD h1b hbl h hhN
                have f5 := ownB_frozen h1b hbl h
                have H9 : Hid (Below (w3.heap.size + 1) W4 (wh.setCell ⟨G2, h, none⟩ (.bool true)) ∧ OwnI (wh.setCell ⟨G2, h, none⟩ (.bool true)) (w3.heap.size + 1) (.slice (some ⟨G1, 0, none⟩) N N) U ∧ OwnB (wh.setCell ⟨G2, h, none⟩ (.bool true)) (w3.heap.size + 1) (.slice (some ⟨G2, 0, none⟩) N N) (Bl.set h true)) := hide ⟨h1a.setCell (by exact unhide HG2) _, own_but h1u ((ButRow.refl G2 wh).setCell h _) (by simpa [Value.ownBlock] using unhide HNE), ownB_set h1b hbl h true⟩
                obtain ⟨x0, x1, x2, x3⟩ := (unhide HBX _ (unhide H9).1).1
                clear hlh h1a h1u h1b
                go_wp2_with fail
                generalize wh.setCell ⟨G2, h, none⟩ (.bool true) = w9 at *
                clear c5 f5
                go_at_call 11
                refine (unhide HHd dd _ (unhide H9).1 hddt).mono ?_
                rw [hth]
                rintro e wh2 ⟨rfl, hlh⟩
                have h2a := unhide HTR _ _ (unhide H9).1 hlh
                have h2u := own_below (unhide H9).2.1 hlh
                have h2b := own_below (unhide H9).2.2 hlh
                have c6 := own_getD h2u h (by rw [hul]; exact hhN)
                have f6 := own_frozen h2u h
                have H10 : Hid (Sp.Gw q.tail (U.set h ((Sp.oth dd : Nat) : Int)) (Bl.set h true) r N (k + 1) ∧ Below (w3.heap.size + 1) W4 (wh2.setCell ⟨G1, h, none⟩ (.int .i64 ((Sp.oth dd : Nat) : Int))) ∧ OwnI (wh2.setCell ⟨G1, h, none⟩ (.int .i64 ((Sp.oth dd : Nat) : Int))) (w3.heap.size + 1) (.slice (some ⟨G1, 0, none⟩) N N) (U.set h ((Sp.oth dd : Nat) : Int)) ∧ OwnB (wh2.setCell ⟨G1, h, none⟩ (.int .i64 ((Sp.oth dd : Nat) : Int))) (w3.heap.size + 1) (.slice (some ⟨G2, 0, none⟩) N N) (Bl.set h true)) := hide ⟨unhide HGr, h2a.setCell (by exact unhide HGG) _, own_setCell h2u h _, ownB_but h2b ((ButRow.refl G1 wh2).setCell h _) (fun e => unhide HNE e.symm)⟩
                clear hlh h2a h2u h2b H9 x0 x1 x2 x3
                go_wp2
                go_roundg g'
                case rel => exact ⟨k + 1, _, _, by omega, by go_num, H10⟩
                case measure => omega
end Go.Proofs.Ytenffkplneimlab


