/- What the proof needs, part 3. -/
import Derived.Test.YtohfmohkaaidpabL2
/- Package link: Turn. -/
namespace Go.Proofs.Ytohfmohkaaidpab
open Go Go.RowKit

noncomputable def Sp.dp (U : Nat → Int) (v : Nat) : Nat := Classical.epsilon fun k => ∃ a, Sp.Upw U k v a ∧ U a = -1
theorem Sp.dp_is {U : Nat → Int} {k v a : Nat} (h : Sp.Upw U k v a) (ha : U a = -1) : Sp.dp U v = k := by
  have h2 : ∃ a, Sp.Upw U (Sp.dp U v) v a ∧ U a = -1 := Classical.epsilon_spec (p := fun k => ∃ a, Sp.Upw U k v a ∧ U a = -1) ⟨k, a, h, ha⟩
  obtain ⟨a', h3, h4⟩ := h2
  exact (Sp.Upw.uniq h3 h4 h ha).1
def Sp.intOf : Value → Int
  | .int _ q => q
  | _ => 0
/-- What Turn leaves. -/
noncomputable def Sp.tn (n : Nat) (U W : Nat → Int) (v : Int) : (Nat → Int) × (Nat → Int) := if Sp.hs n v = true then Sp.trn (Sp.dp U v.toNat + 1) U W v.toNat (-1) 0 else (U, W)
theorem Sp.Fo.tn {n : Nat} {U : Nat → Int} (h : Sp.Fo n U) (W : Nat → Int) (v : Int) : Sp.Fo n (Sp.tn n U W v).1 := by
  unfold Sp.tn
  split
  · rename_i hh
    have hv := of_decide_eq_true hh
    obtain ⟨k, a, h1, h2, -⟩ := h.ex (v := v.toNat) (by omega)
    rw [Sp.dp_is h1 h2]
    exact (Sp.trn_ok (W := W) (x := 0) ⟨h, by omega, h1, h2, .inl ⟨rfl, rfl⟩⟩).1
  · exact h
theorem edge_cells {w : World} {b : Nat} {x y : Value} (h : w.heap[b]? = some (.cells #[x, y] 48)) : w.cell? ⟨b, 0, none⟩ = some x ∧ w.cell? ⟨b, 1, none⟩ = some y ∧ ∀ i, w.frozen? ⟨b, i, none⟩ = false := by
  refine ⟨?_, ?_, fun i => ?_⟩
  · simp only [World.cell?, h]; rfl
  · simp only [World.cell?, h]; rfl
  · simp only [World.frozen?, h]; simp
theorem edge_set {w : World} {b : Nat} {x y : Value} (h : w.heap[b]? = some (.cells #[x, y] 48)) (u v : Value) : ((w.setCell ⟨b, 0, none⟩ u).setCell ⟨b, 1, none⟩ v).heap[b]? = some (.cells #[u, v] 48) := by
  simp only [World.setCell, Array.getElem?_modify, if_pos, h]; rfl
/-- Where Turn stands at its label. -/
structure Sp.TnJ (n : Nat) (U : Nat → Int) (F : (Nat → Int) × (Nat → Int)) (U1 W1 : Nat → Int) (v1 : Nat) (l1 x1 : Int) (d : Nat) : Prop where
  ti : ∃ b a, Sp.TrnI n U1 d v1 b l1 a
  fin : Sp.trn (d + 1) U1 W1 v1 l1 x1 = F
  dep : Sp.dp U v1 = d
  old : ∀ x, (∃ j, Sp.Upw U j v1 x) → U1 x = U x
  top : ∃ b, Sp.Upw U d v1 b ∧ U b = -1
theorem Sp.TnJ.step {n : Nat} {U : Nat → Int} {F : (Nat → Int) × (Nat → Int)} {U1 W1 : Nat → Int} {v1 : Nat} {l1 x1 : Int} {d : Nat} (h : Sp.TnJ n U F U1 W1 v1 l1 x1 (d + 1)) (hF : Sp.Fo n U) : ∃ u : Nat, U1 v1 = (u : Int) ∧ Sp.TnJ n U F (Sp.upd U1 v1 l1) (Sp.upd W1 v1 x1) u (v1 : Int) (W1 v1) d ∧ u < n := by
  obtain ⟨b, a, ht⟩ := h.ti
  obtain ⟨u, e, hne, h2⟩ := ht.step
  have e2 : U v1 = (u : Int) := by rw [← h.old v1 ⟨0, rfl⟩]; exact e
  obtain ⟨bb, hb1, hb2⟩ := h.top
  obtain ⟨u', e3, hb3⟩ := hb1
  obtain rfl : u = u' := by omega
  refine ⟨u, e, ⟨⟨b, a, h2⟩, ?_, Sp.dp_is hb3 hb2, fun x ⟨j, hj⟩ => ?_, bb, hb3, hb2⟩, h2.lt⟩
  · have h3 := h.fin
    rw [Sp.trn, if_neg hne, e, Int.toNat_natCast] at h3
    exact h3
  · have hx : x ≠ v1 := fun e4 => hF.no_round ht.lt (k := j) ⟨u, e2, by rw [← e4]; exact hj⟩
    rw [Sp.upd_other _ _ hx]
    exact h.old x ⟨j + 1, u, e2, hj⟩
theorem Sp.TnJ.last {n : Nat} {U : Nat → Int} {F : (Nat → Int) × (Nat → Int)} {U1 W1 : Nat → Int} {v1 : Nat} {l1 x1 : Int} (h : Sp.TnJ n U F U1 W1 v1 l1 x1 0) : U1 v1 = -1 ∧ F = (Sp.upd U1 v1 l1, Sp.upd W1 v1 x1) := by
  obtain ⟨b, a, ht⟩ := h.ti
  obtain ⟨e, -⟩ := ht.zero
  have h3 := h.fin
  rw [Sp.trn, if_pos e] at h3
  exact ⟨e, h3.symm⟩
set_option maxRecDepth 100000 in
set_option maxHeartbeats 8000000 in
theorem lkturn_any {f g n : Nat} {U W : Nat → Int} (hF : Sp.Fo n U) (v : Int) (w : World) (h : LkP w f g n U W) :
    Calls Try.prog 11 #[.pointer (some ⟨f, 0, none⟩), .int .i64 v] w fun e w' => e = .returned (.bool (Sp.hs n v)) ∧ LkP w' f g n (Sp.tn n U W v).1 (Sp.tn n U W v).2 ∧ Bt (fun b => b = g) w w' := by
  have HC := hide (lkhas_any v w h)
  unfold Sp.tn
  rcases Sp.int_case n v with h1 | ⟨k, rfl, hk⟩
  · have hsn : Sp.hs n v = false := Sp.hs_no h1
    rw [hsn] at HC ⊢
    rw [if_neg (by decide)]
    have H := hide h
    obtain ⟨P, hP⟩ : ∃ P : Ending → World → Prop, P = fun e w' => e = .returned (.bool false) ∧ LkP w' f g n U W ∧ Bt (fun b => b = g) w w' := ⟨_, rfl⟩
    rw [← hP]
    have HP := hide hP
    clear h h1 hsn hF hP
    go_enter Try.func11, Try.ntmps11
    go_wp2
    go_step3
    go_wp2_with fail
    go_at_call 22
    refine (unhide HC).mono ?_
    rintro e w' ⟨rfl, hw⟩
    have hw' := hw.symm
    subst hw'
    go_wp2
    rw [unhide HP]
    exact ⟨rfl, unhide H, Bt.refl _ _⟩
  · rw [Sp.hs_yes hk] at HC ⊢
    rw [if_pos rfl, Int.toNat_natCast]
    obtain ⟨d0, b0, hu, hb0, -⟩ := hF.ex hk
    rw [Sp.dp_is hu hb0]
    obtain ⟨F, hFF⟩ : ∃ F, Sp.trn (d0 + 1) U W k (-1) 0 = F := ⟨_, rfl⟩
    rw [hFF]
    have HJ0 : Hid (Sp.TnJ n U F U W k (-1) 0 d0) := hide ⟨⟨b0, k, hF, hk, hu, hb0, .inl ⟨rfl, rfl⟩⟩, hFF, Sp.dp_is hu hb0, fun _ _ => rfl, b0, hu, hb0⟩
    have HF := hide hF
    have H := hide h
    have hgl := h.lt
    have hfg := h.ne
    obtain ⟨P, hP⟩ : ∃ P : Ending → World → Prop, P = fun e w' => e = .returned (.bool true) ∧ LkP w' f g n F.1 F.2 ∧ Bt (fun b => b = g) w w' := ⟨_, rfl⟩
    rw [← hP]
    have HP := hide hP
    clear h hF hu hb0 hFF hP
    go_enter Try.func11, Try.ntmps11
    go_wp2
    refine wp_scope_more (fun l a' w' => l = 0 ∧ ∃ (U1 W1 : Nat → Int) (v1 d tb : Nat) (l1 x1 : Int) (u2 u3 u6 u7 u8 u9 u10 u11 u12 u13 u14 u15 u16 u17 u18 u19 u20 u21 u22 u23 u24 u25 u26 u27 u28 u29 u30 u31 : Value), a' = { tmps := #[.pointer (some ⟨f, 0, none⟩), .int .i64 (v1 : Int), u2, u3, .bool false, .pointer (some ⟨tb, 0, none⟩), u6, u7, u8, u9, u10, u11, u12, u13, u14, u15, u16, u17, u18, u19, u20, u21, u22, u23, u24, u25, u26, u27, u28, u29, u30, u31], defers := [] } ∧ v1 < n ∧ Hid (Sp.TnJ n U F U1 W1 v1 l1 x1 d) ∧ Hid (LkP w' f g n U1 W1 ∧ w'.heap[tb]? = some (.cells #[.int .i64 l1, .int .i64 x1] 48) ∧ Bt (fun b => b = g) w w') ∧ w.heap.size ≤ tb) (fun _ a' _ => Sp.dp U (Sp.intOf (a'.tmps.getD 1 undef)).toNat) ?pass ?first
    case first =>
      intro hfirst
      go_wp2_with fail
      go_at_call 22
      refine (unhide HC).mono ?_
      rintro e w' ⟨rfl, hw⟩
      have hw' := hw.symm
      subst hw'
      clear hw
      have HI0 : Hid (LkP (w.alloc (.cells #[.int .i64 (-1), .int .i64 0] 48)) f g n U W ∧ (w.alloc (.cells #[.int .i64 (-1), .int .i64 0] 48)).heap[w.heap.size]? = some (.cells #[.int .i64 (-1), .int .i64 0] 48) ∧ Bt (fun b => b = g) w (w.alloc (.cells #[.int .i64 (-1), .int .i64 0] 48))) := hide ⟨(unhide H).below ((Below.refl _ w).alloc (Nat.le_refl _) _), heap_alloc_new w _, (Bt.refl _ w).alloc _⟩
      have Hf := hide hfirst
      clear hfirst
      go_wp2
      go_step3
      rename_i hlast
      exact hlast _ _ (unhide Hf 0 _ _ _ ⟨rfl, U, W, k, d0, w.heap.size, -1, 0, _, _, _, _, _, _, _, _, _, _, _, _, _, _, _, _, _, _, _, _, _, _, _, _, _, _,  _, _, rfl, hk, HJ0, HI0, Nat.le_refl _⟩ rfl)
    case pass =>
      rintro l a' w' ⟨rfl, U1, W1, v1, d, tb, l1, x1, u2, u3, u6, u7, u8, u9, u10, u11, u12, u13, u14, u15, u16, u17, u18, u19, u20, u21, u22, u23, u24, u25, u26, u27, u28, u29, u30, u31, rfl, hv1, HJ, HI, htb⟩
      refine ⟨_, rfl, ?_⟩
      have hq := (unhide HI).1
      have htbl : tb < w'.heap.size := (Array.getElem?_eq_some_iff.1 (unhide HI).2.1).1
      have htf : tb ≠ f := by omega
      have htg : tb ≠ g := by omega
      have hvI : (v1 : Int) < (n : Int) := by omega
      obtain ⟨y0, hy0⟩ : ∃ y0, U1 v1 = y0 := ⟨_, rfl⟩
      obtain ⟨y1, hy1⟩ : ∃ y1, W1 v1 = y1 := ⟨_, rfl⟩
      have hb := Below.refl w'.heap.size w'
      have hqd : LkP w'.drew f g n U1 W1 := hq.below hb.drew
      have htd : w'.drew.heap[tb]? = some (.cells #[.int .i64 l1, .int .i64 x1] 48) := (unhide HI).2.1
      have hbd : Bt (fun b => b = g) w w'.drew := (unhide HI).2.2.drew
      obtain ⟨t0, t1, tf⟩ := edge_cells htd
      have g0 := hqd.up hv1
      have g1 := hqd.wt hv1
      rw [hy0] at g0
      rw [hy1] at g1
      have hS4 : w'.drew.cell? ⟨f, 0, none⟩ = some (.slice (some ⟨g, 0, none⟩) n n) ∧ w'.drew.cell? ⟨g, v1 * 2, none⟩ = some (.int .i64 y0) ∧ w'.drew.cell? ⟨g, v1 * 2 + 1, none⟩ = some (.int .i64 y1) ∧ w'.drew.cell? ⟨tb, 0, none⟩ = some (.int .i64 l1) ∧ w'.drew.cell? ⟨tb, 1, none⟩ = some (.int .i64 x1) := ⟨hqd.slot, g0, g1, t0, t1⟩
      have gf := fun i => hqd.frozen i
      have HY := hide (And.intro hy0 hy1)
      clear hy0 hy1 hq hb
      go_upto_region 4 with fail
      go_cut [] (fun w9 => ∃ ws, ws = w9 ∧ Hid (LkP ws f g n (Sp.upd U1 v1 l1) (Sp.upd W1 v1 x1) ∧ ws.heap[tb]? = some (.cells #[.int .i64 y0, .int .i64 y1] 48) ∧ Bt (fun b => b = g) w ws))
      case first =>
        generalize hwd : w'.drew = wq at *
        have g1' := fun v : Value => show (wq.setCell ⟨g, v1 * 2, none⟩ v).cell? ⟨g, v1 * 2 + 1, none⟩ = some (.int .i64 y1) by rw [cell_set_ne (by omega)]; exact g1
        have hqs := hqd.set v1 l1 x1
        have hts : ((wq.setCell ⟨g, v1 * 2, none⟩ (.int .i64 l1)).setCell ⟨g, v1 * 2 + 1, none⟩ (.int .i64 x1)).heap[tb]? = some (.cells #[.int .i64 l1, .int .i64 x1] 48) := by rw [Below.heap_setCell _ _ _ _ htg, Below.heap_setCell _ _ _ _ htg]; exact htd
        obtain ⟨s0, s1, sf⟩ := edge_cells hts
        have s1' := fun v : Value => show (((wq.setCell ⟨g, v1 * 2, none⟩ (.int .i64 l1)).setCell ⟨g, v1 * 2 + 1, none⟩ (.int .i64 x1)).setCell ⟨tb, 0, none⟩ v).cell? ⟨tb, 1, none⟩ = some (.int .i64 x1) by rw [cell_set_ne (by omega)]; exact s1
        have HQ : Hid (LkP ((((wq.setCell ⟨g, v1 * 2, none⟩ (.int .i64 l1)).setCell ⟨g, v1 * 2 + 1, none⟩ (.int .i64 x1)).setCell ⟨tb, 0, none⟩ (.int .i64 y0)).setCell ⟨tb, 1, none⟩ (.int .i64 y1)) f g n (Sp.upd U1 v1 l1) (Sp.upd W1 v1 x1) ∧ ((((wq.setCell ⟨g, v1 * 2, none⟩ (.int .i64 l1)).setCell ⟨g, v1 * 2 + 1, none⟩ (.int .i64 x1)).setCell ⟨tb, 0, none⟩ (.int .i64 y0)).setCell ⟨tb, 1, none⟩ (.int .i64 y1)).heap[tb]? = some (.cells #[.int .i64 y0, .int .i64 y1] 48) ∧ Bt (fun b => b = g) w ((((wq.setCell ⟨g, v1 * 2, none⟩ (.int .i64 l1)).setCell ⟨g, v1 * 2 + 1, none⟩ (.int .i64 x1)).setCell ⟨tb, 0, none⟩ (.int .i64 y0)).setCell ⟨tb, 1, none⟩ (.int .i64 y1))) := hide ⟨hqs.bt (p := fun b => b = tb) (((Bt.refl (fun b => b = tb) _).set (.inl rfl) _ _ _).set (.inl rfl) _ _ _) (fun e => htf e.symm) (fun e => htg e.symm), edge_set hts _ _, (((hbd.set (.inl rfl) _ _ _).set (.inl rfl) _ _ _).set (.inr htb) _ _ _).set (.inr htb) _ _ _⟩
        clear hqs hts hqd htd hbd g1
        subst hwd
        refine wp_region_G (fun w' => w'.cell? ⟨f, 0, none⟩ = some (.slice (some ⟨g, 0, none⟩) n n) ∧ w'.cell? ⟨g, v1 * 2, none⟩ = some (.int .i64 y0) ∧ w'.cell? ⟨g, v1 * 2 + 1, none⟩ = some (.int .i64 y1) ∧ w'.cell? ⟨tb, 0, none⟩ = some (.int .i64 l1) ∧ w'.cell? ⟨tb, 1, none⟩ = some (.int .i64 x1)) (fun j => j == 14 || j == 15) (by kernel_rfl) hS4 (fun hHeld => ?_)
        generalize w'.drew = wq at *
        refine wpAnyG_take (v := ?_) 0 (by rfl) (by kernel_rfl) (by kernel_rfl) (by kernel_rfl) (by kernel_rfl) (fun _ _ _ h => h) (Or.inl ⟨by rfl, ?_⟩) (by assumption) ?_
        rotate_left
        · (intro w' hSw; (try dsimp only at hSw); (try simp only [List.getElem_toArray, List.getElem_cons_zero]); go_simp; try (with_reducible rfl))
        simp only [Act.put, List.getElem_toArray, List.getElem_cons_zero, List.setIfInBounds_toArray, List.set_cons_zero, List.set_cons_succ]
        refine wpAnyG_take (v := ?_) 1 (by rfl) (by kernel_rfl) (by kernel_rfl) (by kernel_rfl) (by kernel_rfl) (fun _ _ _ h => h) (Or.inl ⟨by rfl, ?_⟩) (by assumption) ?_
        rotate_left
        · (intro w' hSw; (try dsimp only at hSw); (try simp only [List.getElem_toArray, List.getElem_cons_succ, List.getElem_cons_zero]); go_simp; try (with_reducible rfl))
        simp only [Act.put, List.getElem_toArray, List.getElem_cons_succ, List.getElem_cons_zero, List.setIfInBounds_toArray, List.set_cons_zero, List.set_cons_succ]
        refine wpAnyG_take (v := ?_) 2 (by rfl) (by kernel_rfl) (by kernel_rfl) (by kernel_rfl) (by kernel_rfl) (fun _ _ _ h => h) (Or.inl ⟨by rfl, ?_⟩) (by assumption) ?_
        rotate_left
        · (intro w' hSw; (try dsimp only at hSw); (try simp only [List.getElem_toArray, List.getElem_cons_succ, List.getElem_cons_zero]); go_simp; try (with_reducible rfl))
        simp only [Act.put, List.getElem_toArray, List.getElem_cons_succ, List.getElem_cons_zero, List.setIfInBounds_toArray, List.set_cons_zero, List.set_cons_succ]
        refine wpAnyG_take (v := ?_) 3 (by rfl) (by kernel_rfl) (by kernel_rfl) (by kernel_rfl) (by kernel_rfl) (fun _ _ _ h => h) (Or.inl ⟨by rfl, ?_⟩) (by assumption) ?_
        rotate_left
        · (intro w' hSw; (try dsimp only at hSw); (try simp only [List.getElem_toArray, List.getElem_cons_succ, List.getElem_cons_zero]); go_simp; try (with_reducible rfl))
        simp only [Act.put, List.getElem_toArray, List.getElem_cons_succ, List.getElem_cons_zero, List.setIfInBounds_toArray, List.set_cons_zero, List.set_cons_succ]
        refine wpAnyG_take (v := ?_) 4 (by rfl) (by kernel_rfl) (by kernel_rfl) (by kernel_rfl) (by kernel_rfl) (fun _ _ _ h => h) (Or.inl ⟨by rfl, ?_⟩) (by assumption) ?_
        rotate_left
        · (intro w' hSw; (try dsimp only at hSw); (try simp only [List.getElem_toArray, List.getElem_cons_succ, List.getElem_cons_zero]); go_simp; try (with_reducible rfl))
        simp only [Act.put, List.getElem_toArray, List.getElem_cons_succ, List.getElem_cons_zero, List.setIfInBounds_toArray, List.set_cons_zero, List.set_cons_succ]
        refine wpAnyG_take (v := ?_) 5 (by rfl) (by kernel_rfl) (by kernel_rfl) (by kernel_rfl) (by kernel_rfl) (fun _ _ _ h => h) (Or.inl ⟨by rfl, ?_⟩) (by assumption) ?_
        rotate_left
        · (intro w' hSw; (try dsimp only at hSw); (try simp only [List.getElem_toArray, List.getElem_cons_succ, List.getElem_cons_zero]); go_simp; try (with_reducible rfl))
        simp only [Act.put, List.getElem_toArray, List.getElem_cons_succ, List.getElem_cons_zero, List.setIfInBounds_toArray, List.set_cons_zero, List.set_cons_succ]
        refine wpAnyG_takeW (v := ?_) 6 (by rfl) (by kernel_rfl) (by kernel_rfl) (by kernel_rfl) (by kernel_rfl) (fun _ _ _ h => h) (Or.inl ⟨by rfl, ?_⟩) (by assumption) ?_
        rotate_left
        · (intro w' hSw; (try dsimp only at hSw); (try simp only [List.getElem_toArray, List.getElem_cons_succ, List.getElem_cons_zero]); go_simp; try (with_reducible rfl))
        simp only [Act.put, List.getElem_toArray, List.getElem_cons_succ, List.getElem_cons_zero, List.setIfInBounds_toArray, List.set_cons_zero, List.set_cons_succ]
        refine wpAnyG_takeW (v := ?_) 7 (by rfl) (by kernel_rfl) (by kernel_rfl) (by kernel_rfl) (by kernel_rfl) (fun _ _ _ h => h) (Or.inl ⟨by rfl, ?_⟩) (by assumption) ?_
        rotate_left
        · (intro w' hSw; (try dsimp only at hSw); (try simp only [List.getElem_toArray, List.getElem_cons_succ, List.getElem_cons_zero]); go_simp; try (with_reducible rfl))
        simp only [Act.put, List.getElem_toArray, List.getElem_cons_succ, List.getElem_cons_zero, List.setIfInBounds_toArray, List.set_cons_zero, List.set_cons_succ]
        refine wpAnyG_takeW (v := ?_) 8 (by rfl) (by kernel_rfl) (by kernel_rfl) (by kernel_rfl) (by kernel_rfl) (fun _ _ _ h => h) (Or.inl ⟨by rfl, ?_⟩) (by assumption) ?_
        rotate_left
        · (intro w' hSw; (try dsimp only at hSw); (try simp only [List.getElem_toArray, List.getElem_cons_succ, List.getElem_cons_zero]); go_simp; try (with_reducible rfl))
        simp only [Act.put, List.getElem_toArray, List.getElem_cons_succ, List.getElem_cons_zero, List.setIfInBounds_toArray, List.set_cons_zero, List.set_cons_succ]
        refine wpAnyG_take (v := ?_) 9 (by rfl) (by kernel_rfl) (by kernel_rfl) (by kernel_rfl) (by kernel_rfl) (fun _ _ _ h => h) (Or.inl ⟨by rfl, ?_⟩) (by assumption) ?_
        rotate_left
        · (intro w' hSw; (try dsimp only at hSw); (try simp only [List.getElem_toArray, List.getElem_cons_succ, List.getElem_cons_zero]); go_simp; try (with_reducible rfl))
        simp only [Act.put, List.getElem_toArray, List.getElem_cons_succ, List.getElem_cons_zero, List.setIfInBounds_toArray, List.set_cons_zero, List.set_cons_succ]
        refine wpAnyG_takeW (v := ?_) 10 (by rfl) (by kernel_rfl) (by kernel_rfl) (by kernel_rfl) (by kernel_rfl) (fun _ _ _ h => h) (Or.inl ⟨by rfl, ?_⟩) (by assumption) ?_
        rotate_left
        · (intro w' hSw; (try dsimp only at hSw); (try simp only [List.getElem_toArray, List.getElem_cons_succ, List.getElem_cons_zero]); go_simp; try (with_reducible rfl))
        simp only [Act.put, List.getElem_toArray, List.getElem_cons_succ, List.getElem_cons_zero, List.setIfInBounds_toArray, List.set_cons_zero, List.set_cons_succ]
        refine wpAnyG_takeW (v := ?_) 11 (by rfl) (by kernel_rfl) (by kernel_rfl) (by kernel_rfl) (by kernel_rfl) (fun _ _ _ h => h) (Or.inl ⟨by rfl, ?_⟩) (by assumption) ?_
        rotate_left
        · (intro w' hSw; (try dsimp only at hSw); (try simp only [List.getElem_toArray, List.getElem_cons_succ, List.getElem_cons_zero]); go_simp; try (with_reducible rfl))
        simp only [Act.put, List.getElem_toArray, List.getElem_cons_succ, List.getElem_cons_zero, List.setIfInBounds_toArray, List.set_cons_zero, List.set_cons_succ]
        refine wpAnyG_take (v := ?_) 12 (by rfl) (by kernel_rfl) (by kernel_rfl) (by kernel_rfl) (by kernel_rfl) (fun _ _ _ h => h) (Or.inl ⟨by rfl, ?_⟩) (by assumption) ?_
        rotate_left
        · (intro w' hSw; (try dsimp only at hSw); (try simp only [List.getElem_toArray, List.getElem_cons_succ, List.getElem_cons_zero]); go_simp; try (with_reducible rfl))
        simp only [Act.put, List.getElem_toArray, List.getElem_cons_succ, List.getElem_cons_zero, List.setIfInBounds_toArray, List.set_cons_zero, List.set_cons_succ]
        refine wpAnyG_take (v := ?_) 13 (by rfl) (by kernel_rfl) (by kernel_rfl) (by kernel_rfl) (by kernel_rfl) (fun _ _ _ h => h) (Or.inl ⟨by rfl, ?_⟩) (by assumption) ?_
        rotate_left
        · (intro w' hSw; (try dsimp only at hSw); (try simp only [List.getElem_toArray, List.getElem_cons_succ, List.getElem_cons_zero]); go_simp; try (with_reducible rfl))
        simp only [Act.put, List.getElem_toArray, List.getElem_cons_succ, List.getElem_cons_zero, List.setIfInBounds_toArray, List.set_cons_zero, List.set_cons_succ]
        refine wpAnyG_ready [14] (by kernel_rfl) (by simp) ?_
        refine AllReadyG.last 14 (by rfl) (by kernel_rfl) (fun K hK => ?_) ?_
        · simp only [List.getElem_toArray, List.getElem_cons_succ, List.getElem_cons_zero]
          go_simp
          refine hK.out _ _ ?_
          clear hK K
          try simp only [Act.put, List.setIfInBounds_toArray, List.set_cons_zero, List.set_cons_succ]
          refine wpAnyG_ready [15] (by kernel_rfl) (by simp) ?_
          refine AllReadyG.last 15 (by rfl) (by kernel_rfl) (fun K hK => ?_) ?_
          · simp only [List.getElem_toArray, List.getElem_cons_succ, List.getElem_cons_zero]
            go_simp
            refine hK.out _ _ ?_
            clear hK K
            try simp only [Act.put, List.setIfInBounds_toArray, List.set_cons_zero, List.set_cons_succ]
            refine wpAnyG_done (by kernel_rfl) ?_ _
            refine NoPanic.normal ?_
            go_wp2
            go_meet
            exact ⟨_, rfl, HQ⟩
          exact AllReadyG.nil
        exact AllReadyG.nil

      case rest =>
        obtain ⟨ws, rfl, HZ⟩ := hcut
        obtain ⟨t0, t1, tf⟩ := edge_cells (unhide HZ).2.1
        clear hqd htd hbd hS4 g0 g1 gf
        cases d with
        | zero =>
          obtain ⟨e1, e2⟩ := (unhide HJ).last
          have e3 : y0 = -1 := by rw [← (unhide HY).1]; exact e1
          subst e3
          have HE : Hid (LkP ws f g n F.1 F.2 ∧ Bt (fun b => b = g) w ws) := hide ⟨by rw [e2]; exact (unhide HZ).1, (unhide HZ).2.2⟩
          clear e1 e2 HJ HI HZ
          go_wp2
          rw [unhide HP]
          exact ⟨rfl, unhide HE⟩
        | succ d =>
          obtain ⟨u, e1, hJ2, hun⟩ := (unhide HJ).step (unhide HF)
          have e3 : y0 = (u : Int) := by rw [← (unhide HY).1]; exact e1
          subst e3
          rw [(unhide HY).2] at hJ2
          have hub : ((u : Int) != -1) = true := bne_iff_ne.2 (by omega)
          have HJ2 := hide hJ2
          have HM : Hid (Sp.dp U u < Sp.dp U v1) := hide (by rw [hJ2.dep, (unhide HJ).dep]; omega)
          have HZ2 : Hid (LkP (ws.setCell ⟨tb, 0, none⟩ (.int .i64 (v1 : Int))) f g n (Sp.upd U1 v1 l1) (Sp.upd W1 v1 x1) ∧ (ws.setCell ⟨tb, 0, none⟩ (.int .i64 (v1 : Int))).heap[tb]? = some (.cells #[.int .i64 (v1 : Int), .int .i64 y1] 48) ∧ Bt (fun b => b = g) w (ws.setCell ⟨tb, 0, none⟩ (.int .i64 (v1 : Int)))) := hide ⟨(unhide HZ).1.bt (p := fun b => b = tb) ((Bt.refl (fun b => b = tb) _).set (.inl rfl) _ _ _) (fun e => htf e.symm) (fun e => htg e.symm), by simp only [World.setCell, Array.getElem?_modify, if_pos, (unhide HZ).2.1]; rfl, (unhide HZ).2.2.set (.inr htb) _ _ _⟩
          clear hJ2 HJ HI HZ e1 HY
          go_wp2
          go_step3
          refine ⟨⟨rfl, _, _, u, d, tb, (v1 : Int), y1, _, _, _, _, _, _, _, _, _, _, _, _, _, _, _, _, _, _, _, _, _, _, _, _, _, _, _, _, rfl, hun, HJ2, HZ2, htb⟩, ?_⟩
          show Sp.dp U (Sp.intOf (.int .i64 (u : Int))).toNat < Sp.dp U (Sp.intOf (.int .i64 (v1 : Int))).toNat
          show Sp.dp U ((u : Int)).toNat < Sp.dp U ((v1 : Int)).toNat
          rw [Int.toNat_natCast, Int.toNat_natCast]
          exact unhide HM
end Go.Proofs.Ytohfmohkaaidpab


/- Package link: Add, Least. -/
namespace Go.Proofs.Ytohfmohkaaidpab
open Go Go.RowKit

/-- What Add leaves. -/
noncomputable def Sp.ad (n : Nat) (U W : Nat → Int) (v by_ : Int) : Nat → Int := if Sp.hs n v = true then Sp.addW U by_ (Sp.dp U v.toNat + 1) W v.toNat else W
theorem Sp.addW_one {U : Nat → Int} {by_ : Int} {W : Nat → Int} {v : Nat} (h : U v = -1) (k : Nat) : Sp.addW U by_ (k + 1) W v = W := by
  rw [Sp.addW, if_pos h]
theorem Sp.addW_step {U : Nat → Int} {by_ : Int} {W : Nat → Int} {v u : Nat} (h : U v = (u : Int)) (k : Nat) : Sp.addW U by_ (k + 1) W v = Sp.addW U by_ k (Sp.upd W v (IntKind.i64.wrap (W v + by_))) u := by
  rw [Sp.addW, if_neg (by omega), h, Int.toNat_natCast]
set_option maxRecDepth 100000 in
set_option maxHeartbeats 4000000 in
theorem lkadd_any {f g n : Nat} {U W : Nat → Int} (hF : Sp.Fo n U) (v by_ : Int) (w : World) (h : LkP w f g n U W) :
    Calls Try.prog 30 #[.pointer (some ⟨f, 0, none⟩), .int .i64 v, .int .i64 by_] w fun e w' => e = .returned (.bool (Sp.hs n v)) ∧ LkP w' f g n U (Sp.ad n U W v by_) ∧ Bt (fun b => b = g) w w' := by
  unfold Sp.ad
  rcases Sp.int_case n v with h1 | ⟨k, rfl, hk⟩
  · have HC := hide (lkhangs_any v w h)
    have HC2 := hide (lkhas_any v w h)
    rw [Sp.hg_no h1] at HC
    rw [Sp.hs_no h1] at HC2 ⊢
    rw [if_neg (by decide)]
    have H := hide h
    obtain ⟨P, hP⟩ : ∃ P : Ending → World → Prop, P = fun e w' => e = .returned (.bool false) ∧ LkP w' f g n U W ∧ Bt (fun b => b = g) w w' := ⟨_, rfl⟩
    rw [← hP]
    have HP := hide hP
    clear h h1 hF hP
    go_enter Try.func30, Try.ntmps30
    go_wp2
    go_loopg [7] 0 (fun _g s7 wr => s7 = .int .i64 v ∧ wr = w)
    case atStart => exact ⟨rfl, rfl⟩
    case round =>
      obtain ⟨rfl, hwr⟩ := hrel
      subst hwr
      go_wp2_with fail
      go_at_call 23
      refine (unhide HC).mono ?_
      rintro e w' ⟨rfl, hw⟩
      have hw' := hw.symm
      subst hw'
      clear hw
      go_wp2_with fail
      go_at_call 22
      refine (unhide HC2).mono ?_
      rintro e w' ⟨rfl, hw⟩
      have hw' := hw.symm
      subst hw'
      go_wp2
      rw [unhide HP]
      exact ⟨rfl, unhide H, Bt.refl _ _⟩
  · rw [Sp.hs_yes hk, if_pos rfl, Int.toNat_natCast]
    obtain ⟨m, a, hu, ha, -⟩ := hF.ex hk
    rw [Sp.dp_is hu ha]
    obtain ⟨F, hFF⟩ : ∃ F, Sp.addW U by_ (m + 1) W k = F := ⟨_, rfl⟩
    rw [hFF]
    have HU : Hid (Sp.Upw U m k a ∧ Sp.addW U by_ (m + 1) W k = F) := hide ⟨hu, hFF⟩
    have HF := hide hF
    have Ha := hide ha
    have H : Hid (LkP w f g n U W ∧ Bt (fun b => b = g) w w) := hide ⟨h, Bt.refl _ _⟩
    have HHs : Hid (∀ w' W', LkP w' f g n U W' → Calls Try.prog 22 #[.pointer (some ⟨f, 0, none⟩), .int .i64 (k : Int)] w' fun e w'' => e = .returned (.bool true) ∧ w'' = w') := hide fun w' W' h' => by
      have h2 := lkhas_any (k : Int) w' h'
      rw [Sp.hs_yes hk] at h2
      exact h2
    obtain ⟨P, hP⟩ : ∃ P : Ending → World → Prop, P = fun e w' => e = .returned (.bool true) ∧ LkP w' f g n U F ∧ Bt (fun b => b = g) w w' := ⟨_, rfl⟩
    rw [← hP]
    have HP := hide hP
    clear hP hu hF ha h hFF
    go_enter Try.func30, Try.ntmps30
    go_wp2
    go_loopg [7] m (fun g' s7 wr => ∃ (v1 : Nat) (W1 : Nat → Int), s7 = .int .i64 (v1 : Int) ∧ v1 < n ∧ Hid (Sp.Upw U g' v1 a ∧ Sp.addW U by_ (g' + 1) W1 v1 = F) ∧ Hid (LkP wr f g n U W1 ∧ Bt (fun b => b = g) w wr))
    case atStart => exact ⟨k, W, rfl, hk, HU, H⟩
    case round =>
      clear HU hk
      obtain ⟨v1, W1, rfl, hv, HV, HI⟩ := hrel
      have HC := hide (lkhangs_any (v1 : Int) wr (unhide HI).1)
      have hvI : (v1 : Int) < (n : Int) := by omega
      cases gk with
      | zero =>
        have e : a = v1 := (unhide HV).1
        subst e
        have e2 := (unhide HV).2
        rw [Sp.addW_one (unhide Ha)] at e2
        rw [Sp.hg_root (unhide Ha)] at HC
        have HHs2 := hide (unhide HHs wr W1 (unhide HI).1)
        have HI2 : Hid (LkP wr f g n U F ∧ Bt (fun b => b = g) w wr) := hide (by rw [← e2]; exact unhide HI)
        clear e2 HHs
        go_wp2_with fail
        go_at_call 23
        refine (unhide HC).mono ?_
        rintro e w' ⟨rfl, hw⟩
        have hw' := hw.symm
        subst hw'
        clear hw
        go_wp2_with fail
        go_at_call 22
        refine (unhide HHs2).mono ?_
        rintro e w' ⟨rfl, hw⟩
        have hw' := hw.symm
        subst hw'
        go_wp2
        rw [unhide HP]
        exact ⟨rfl, unhide HI2⟩
      | succ g' =>
        obtain ⟨⟨u, e, hu⟩, h2⟩ := unhide HV
        rw [Sp.addW_step e] at h2
        have hun : u < n := (unhide HF).up_lt hv (k := 1) ⟨u, e, rfl⟩
        rw [Sp.hg_yes hv (by omega)] at HC
        obtain ⟨y, hy⟩ : ∃ y, W1 v1 = y := ⟨_, rfl⟩
        rw [hy] at h2
        obtain ⟨z, hz⟩ : ∃ z, IntKind.i64.wrap (y + by_) = z := ⟨_, rfl⟩
        rw [hz] at h2
        have hs0 := (unhide HI).1.slot
        have c0 := (unhide HI).1.up hv
        have c1 := (unhide HI).1.wt hv
        have cf := fun i => (unhide HI).1.frozen i
        rw [e] at c0
        rw [hy] at c1
        have c0' := fun v : Value => show (wr.setCell ⟨g, v1 * 2 + 1, none⟩ v).cell? ⟨g, v1 * 2, none⟩ = some (.int .i64 (u : Int)) by rw [cell_set_ne (by omega)]; exact c0
        have hs0' := fun v : Value => show (wr.setCell ⟨g, v1 * 2 + 1, none⟩ v).cell? ⟨f, 0, none⟩ = some (.slice (some ⟨g, 0, none⟩) n n) from (World.cell?_of_block (w := wr) (Below.heap_setCell _ _ _ _ (unhide HI).1.ne)).trans hs0
        have HV2 : Hid (Sp.Upw U g' u a ∧ Sp.addW U by_ (g' + 1) (Sp.upd W1 v1 z) u = F) := hide ⟨hu, h2⟩
        have HI2 : Hid (LkP (wr.setCell ⟨g, v1 * 2 + 1, none⟩ (.int .i64 z)) f g n U (Sp.upd W1 v1 z) ∧ Bt (fun b => b = g) w (wr.setCell ⟨g, v1 * 2 + 1, none⟩ (.int .i64 z))) := hide ⟨(unhide HI).1.setW v1 z, (unhide HI).2.set (.inl rfl) _ _ _⟩
        clear hu e h2 HV HI hy HHs
        go_wp2_with fail
        go_at_call 23
        refine (unhide HC).mono ?_
        rintro e w' ⟨rfl, hw⟩
        have hw' := hw.symm
        subst hw'
        clear hw
        go_wp2
        go_roundg g'
        case rel => exact ⟨u, _, rfl, hun, HV2, HI2⟩
        case measure => omega
/-- The least edge that Least tells. -/
noncomputable def Sp.ls (U W : Nat → Int) (v : Int) : Nat := Sp.leastA U W (Sp.dp U v.toNat + 1) v.toNat v.toNat
theorem Sp.leastA_one {U W : Nat → Int} {v a : Nat} (h : U v = -1) (k : Nat) : Sp.leastA U W (k + 1) v a = a := by
  rw [Sp.leastA, if_pos h]
theorem Sp.leastA_step {U W : Nat → Int} {v a u : Nat} (h : U v = (u : Int)) (k : Nat) : Sp.leastA U W (k + 1) v a = Sp.leastA U W k u (if W v ≤ W a then v else a) := by
  rw [Sp.leastA, if_neg (by omega), h, Int.toNat_natCast]
set_option maxRecDepth 100000 in
set_option maxHeartbeats 8000000 in
theorem lkleast_any {f g n : Nat} {U W : Nat → Int} (hF : Sp.Fo n U) (v : Int) (w : World) (h : LkP w f g n U W) :
    Calls Try.prog 10 #[.pointer (some ⟨f, 0, none⟩), .int .i64 v] w fun e w' => e = .returned (.tuple #[.int .i64 (if Sp.hg n U v = true then ((Sp.ls U W v : Nat) : Int) else 0), .int .i64 (if Sp.hg n U v = true then W (Sp.ls U W v) else 0), .bool (Sp.hg n U v)]) ∧ Below w.heap.size w w' := by
  have HC := hide (lkhas_any v w h)
  rcases Sp.int_case n v with h1 | ⟨k, rfl, hk⟩
  · rw [Sp.hs_no h1] at HC
    rw [Sp.hg_no h1, if_neg (by decide), if_neg (by decide)]
    obtain ⟨P, hP⟩ : ∃ P : Ending → World → Prop, P = fun e w' => e = .returned (.tuple #[.int .i64 0, .int .i64 0, .bool false]) ∧ Below w.heap.size w w' := ⟨_, rfl⟩
    rw [← hP]
    have HP := hide hP
    clear h h1 hF hP
    go_enter Try.func10, Try.ntmps10
    go_wp2
    go_step3
    go_wp2_with fail
    go_at_call 22
    refine (unhide HC).mono ?_
    rintro e w' ⟨rfl, hw⟩
    have hw' := hw.symm
    subst hw'
    go_wp2
    rw [unhide HP]
    refine ⟨rfl, _, results_tmp3 rfl _ _ _, ?_⟩
    exact ⟨rfl, Below.refl _ _⟩
  · rw [Sp.hs_yes hk] at HC
    obtain ⟨m, a, hu, ha, -⟩ := hF.ex hk
    obtain ⟨A, hA⟩ : ∃ A, Sp.ls U W (k : Int) = A := ⟨_, rfl⟩
    have hA2 := hA
    unfold Sp.ls at hA2
    rw [Int.toNat_natCast, Sp.dp_is hu ha] at hA2
    rw [hA]
    obtain ⟨R, hR⟩ : ∃ R, Sp.hg n U (k : Int) = R := ⟨_, rfl⟩
    rw [hR]
    have HR1 : Hid (U k = -1 → R = false) := hide fun e => by rw [← hR]; exact Sp.hg_root e
    have HR2 : Hid (U k ≠ -1 → R = true) := hide fun e => by rw [← hR]; exact Sp.hg_yes hk e
    have HU : Hid (Sp.Upw U m k a ∧ Sp.leastA U W (m + 1) k k = A) := hide ⟨hu, hA2⟩
    have HF := hide hF
    have Ha := hide ha
    have H := hide h
    obtain ⟨P, hP⟩ : ∃ P : Ending → World → Prop, P = fun e w' => e = .returned (.tuple #[.int .i64 (if R = true then (A : Int) else 0), .int .i64 (if R = true then W A else 0), .bool R]) ∧ Below w.heap.size w w' := ⟨_, rfl⟩
    rw [← hP]
    have HP := hide hP
    clear hP hu hF ha h hA hA2 hR
    go_enter Try.func10, Try.ntmps10
    go_wp2
    go_step3
    go_wp2_with fail
    go_at_call 22
    refine (unhide HC).mono ?_
    rintro e w' ⟨rfl, hw⟩
    have hw' := hw.symm
    subst hw'
    clear hw HC
    go_wp2
    go_step3
    go_wp2
    go_loopg [1, 4, 5, 6] m (fun g' s1 s4 s5 s6 wr => ∃ (v1 a1 : Nat) (is : Bool), s1 = .int .i64 (v1 : Int) ∧ s6 = .bool is ∧ v1 < n ∧ a1 < n ∧ Hid (Sp.Upw U g' v1 a ∧ Sp.leastA U W (g' + 1) v1 a1 = A) ∧ ((is = false ∧ v1 = k ∧ a1 = k ∧ s4 = .int .i64 0 ∧ s5 = .int .i64 0) ∨ (is = true ∧ U k ≠ -1 ∧ s4 = .int .i64 (a1 : Int) ∧ s5 = .int .i64 (W a1))) ∧ Hid (Below w.heap.size w wr))
    case atStart => exact ⟨k, k, false, rfl, rfl, hk, hk, HU, .inl ⟨rfl, rfl, rfl, rfl, rfl⟩, hide (Below.refl _ _)⟩
    case round =>
      clear HU
      obtain ⟨v1, a1, is, rfl, rfl, hv, hv2, HV, hcase, HI⟩ := hrel
      have hq := (unhide H).below (unhide HI)
      have hs0 := hq.slot
      have c0 := hq.up hv
      have c1 := hq.wt hv
      have hvI : (v1 : Int) < (n : Int) := by omega
      clear hq
      cases gk with
      | zero =>
        have e : a = v1 := (unhide HV).1
        subst e
        have e2 := (unhide HV).2
        rw [Sp.leastA_one (unhide Ha)] at e2
        subst e2
        have hua := unhide Ha
        rw [hua] at c0
        have HI2 : Hid (∀ o, Below w.heap.size w (wr.alloc o)) := hide fun o => (unhide HI).alloc (unhide HI).size o
        rcases hcase with ⟨rfl, e1, e2, rfl, rfl⟩ | ⟨rfl, hk2, rfl, rfl⟩
        · obtain rfl : k = a := e1.symm
          have hRf := unhide HR1 (unhide Ha)
          subst hRf
          clear HR1 HR2 HV hua
          go_wp2
          rw [unhide HP]
          go_ret3
          exact ⟨rfl, unhide HI2 _⟩
        · have hRt := unhide HR2 hk2
          subst hRt
          have HP2 : Hid (P = fun e w' => e = .returned (.tuple #[.int .i64 (a1 : Int), .int .i64 (W a1), .bool true]) ∧ Below w.heap.size w w') := hide (by rw [unhide HP]; rfl)
          clear HR1 HR2 HV HP hua hk2
          go_wp2
          rw [unhide HP2]
          refine ⟨rfl, _, results_tmp3 rfl _ _ _, ?_⟩
          exact ⟨rfl, unhide HI2 _⟩
      | succ g' =>
        obtain ⟨⟨u, e, hu⟩, h2⟩ := unhide HV
        rw [Sp.leastA_step e] at h2
        have hun : u < n := (unhide HF).up_lt hv (k := 1) ⟨u, e, rfl⟩
        have hub : ((u : Int) == -1) = false := beq_eq_false_iff_ne.2 (by omega)
        rw [e] at c0
        have HI2 : Hid (∀ nq o, Below w.heap.size w ((wr.alloc o).drewN nq)) := hide fun nq o => below_dn ((unhide HI).alloc (unhide HI).size o) nq
        have HI3 : Hid (∀ o, Below w.heap.size w (wr.alloc o)) := hide fun o => (unhide HI).alloc (unhide HI).size o
        have Hu := hide hu
        rcases hcase with ⟨rfl, e1, e2, rfl, rfl⟩ | ⟨rfl, hk2, rfl, rfl⟩
        · obtain rfl : v1 = k := e1
          obtain rfl : v1 = a1 := e2.symm
          rw [if_pos (Int.le_refl _)] at h2
          have HV2 : Hid (Sp.Upw U g' u a ∧ Sp.leastA U W (g' + 1) u v1 = A) := hide ⟨hu, h2⟩
          have hk2 : U v1 ≠ -1 := by omega
          have Hk2 := hide hk2
          clear h2 HV hu e hk2
          go_wp2_with fail
          go_quiet (fail)
          go_wp2
          go_roundg g'
          case rel => exact ⟨u, v1, true, rfl, rfl, hun, hv, HV2, .inr ⟨rfl, unhide Hk2, rfl, rfl⟩, hide (unhide HI2 _ _)⟩
          case measure => omega
        · have Hk2 := hide hk2
          by_cases hle : W v1 ≤ W a1
          · rw [if_pos hle] at h2
            have HV2 : Hid (Sp.Upw U g' u a ∧ Sp.leastA U W (g' + 1) u v1 = A) := hide ⟨hu, h2⟩
            clear h2 HV hu e hk2
            go_wp2_with fail
            go_quiet (fail)
            go_wp2
            go_roundg g'
            case rel => exact ⟨u, v1, true, rfl, rfl, hun, hv, HV2, .inr ⟨rfl, unhide Hk2, rfl, rfl⟩, hide (unhide HI2 _ _)⟩
            case measure => omega
          · rw [if_neg hle] at h2
            have HV2 : Hid (Sp.Upw U g' u a ∧ Sp.leastA U W (g' + 1) u a1 = A) := hide ⟨hu, h2⟩
            clear h2 HV hu e hk2
            go_wp2
            go_roundg g'
            case rel => exact ⟨u, a1, true, rfl, rfl, hun, hv2, HV2, .inr ⟨rfl, unhide Hk2, rfl, rfl⟩, hide (unhide HI3 _)⟩
            case measure => omega
end Go.Proofs.Ytohfmohkaaidpab


/- The reference's forest: Root, Up, Weight, Cut, Link, Turn, Add, Least. -/
namespace Go.Proofs.Ytohfmohkaaidpab
open Go Go.RowKit

theorem LkR.upc {w : World} {x o c n co cw : Nat} {U W : Nat → Int} (h : LkR w x o c n co cw U W) {v : Nat} (hv : v < n) : w.cell? ⟨o, v, none⟩ = some (.int .i64 (U v)) := h.on.cell hv
theorem LkR.wtc {w : World} {x o c n co cw : Nat} {U W : Nat → Int} (h : LkR w x o c n co cw U W) {v : Nat} (hv : v < n) : w.cell? ⟨c, v, none⟩ = some (.int .i64 (W v)) := h.wt.cell hv
theorem LkR.cap {w : World} {x o c n co cw : Nat} {U W : Nat → Int} (h : LkR w x o c n co cw U W) : n ≤ co ∧ n ≤ cw := by
  obtain ⟨_, -, -, h1, -⟩ := h.on
  obtain ⟨_, -, -, h2, -⟩ := h.wt
  exact ⟨h1, h2⟩
/-- The world where a row's cell was set, as the struct sees it. -/
theorem slot_set {w : World} {x b j s : Nat} {u v : Value} (hne : x ≠ b) (h : w.cell? ⟨x, s, none⟩ = some u) : (w.setCell ⟨b, j, none⟩ v).cell? ⟨x, s, none⟩ = some u :=
  (World.cell?_of_block (w := w) (Below.heap_setCell _ _ _ _ hne)).trans h
set_option maxRecDepth 100000 in
set_option maxHeartbeats 4000000 in
theorem lkrroot_any {x o c n co cw : Nat} {U W : Nat → Int} (hF : Sp.Fo n U) (v : Int) (w : World) (h : LkR w x o c n co cw U W) :
    Calls Try.prog 25 #[.pointer (some ⟨x, 0, none⟩), .int .i64 v] w fun e w' => e = .returned (.int .i64 (Sp.rt n U v)) ∧ w' = w := by
  have HC := hide (lkris_any v w h)
  rcases Sp.int_case n v with h1 | ⟨k, rfl, hk⟩
  · have hsn : Sp.hs n v = false := Sp.hs_no h1
    rw [hsn] at HC
    rw [Sp.rt_no h1]
    clear h h1 hsn
    go_enter Try.func25, Try.ntmps25
    go_wp2_with fail
    go_at_call 24
    refine (unhide HC).mono ?_
    rintro e w' ⟨rfl, hw⟩
    have hw' := hw.symm
    subst hw'
    clear hw
    go_wp2
    go_ret
    exact ⟨rfl, rfl⟩
  · rw [Sp.hs_yes hk] at HC
    obtain ⟨m, a, hu, ha, -⟩ := hF.ex hk
    rw [Sp.rt_is hk ⟨m, hu, ha⟩]
    have HU := hide hu
    have HF := hide hF
    have Ha := hide ha
    have H := hide h
    have h0 := h.slot0
    obtain ⟨P, hP⟩ : ∃ P : Ending → World → Prop, P = fun e w' => e = .returned (.int .i64 (a : Int)) ∧ w' = w := ⟨_, rfl⟩
    rw [← hP]
    have HP := hide hP
    clear hP
    clear hu hF ha h
    go_enter Try.func25, Try.ntmps25
    go_wp2_with fail
    go_at_call 24
    refine (unhide HC).mono ?_
    rintro e w' ⟨rfl, hw⟩
    have hw' := hw.symm
    subst hw'
    clear hw
    clear HC
    go_wp2
    go_loopg [1] m (fun g' s1 wr => ∃ v : Nat, s1 = .int .i64 (v : Int) ∧ v < n ∧ Hid (Sp.Upw U g' v a) ∧ wr = w)
    case atStart => exact ⟨k, rfl, hk, HU, rfl⟩
    case round =>
      clear HU hk
      obtain ⟨v, rfl, hv, HV, hwr⟩ := hrel
      subst hwr
      have h1 := (unhide H).upc hv
      have hvI : (v : Int) < (n : Int) := by omega
      cases gk with
      | zero =>
        have e : a = v := unhide HV
        subst e
        rw [unhide Ha] at h1
        go_wp2
        rw [unhide HP]
        exact ⟨rfl, rfl⟩
      | succ g' =>
        obtain ⟨u, e, hu⟩ := unhide HV
        have hun : u < n := (unhide HF).up_lt hv (k := 1) ⟨u, e, rfl⟩
        rw [e] at h1
        have hud : (u : Int) ≥ 0 := by omega
        have HV2 := hide hu
        clear hu e HV
        go_wp2
        go_roundg g'
        case rel => exact ⟨u, rfl, hun, HV2, rfl⟩
        case measure => omega
set_option maxRecDepth 100000 in
set_option maxHeartbeats 4000000 in
theorem lkrup_any {x o c n co cw : Nat} {U W : Nat → Int} (hF : Sp.Fo n U) (v : Int) (w : World) (h : LkR w x o c n co cw U W) :
    Calls Try.prog 26 #[.pointer (some ⟨x, 0, none⟩), .int .i64 v] w fun e w' => e = .returned (.tuple #[.int .i64 (if Sp.hg n U v = true then U v.toNat else 0), .bool (Sp.hg n U v)]) ∧ w' = w := by
  have HC := hide (lkris_any v w h)
  rcases Sp.int_case n v with h1 | ⟨k, rfl, hk⟩
  · rw [Sp.hs_no h1] at HC
    rw [Sp.hg_no h1, if_neg (by decide)]
    clear h h1 hF
    go_enter Try.func26, Try.ntmps26
    go_wp2_with fail
    go_at_call 24
    refine (unhide HC).mono ?_
    rintro e w' ⟨rfl, hw⟩
    have hw' := hw.symm
    subst hw'
    clear hw
    go_wp2
    go_ret2
    exact ⟨rfl, rfl⟩
  · rw [Sp.hs_yes hk] at HC
    have h0 := h.slot0
    have h0' := h.slot1
    have h1 := h.upc hk
    have h2 := h.wtc hk
    have hkI : (k : Int) < (n : Int) := by omega
    rw [Int.toNat_natCast]
    rcases hF.at_ hk with e | ⟨u, e, -⟩
    · rw [e] at h1
      rw [Sp.hg_root e, if_neg (by decide)]
      clear h hF e
      go_enter Try.func26, Try.ntmps26
      go_wp2_with fail
      go_at_call 24
      refine (unhide HC).mono ?_
      rintro e w' ⟨rfl, hw⟩
      have hw' := hw.symm
      subst hw'
      clear hw
      go_wp2
      go_ret2
      exact ⟨rfl, rfl⟩
    · have hg := Sp.hg_yes hk (show U k ≠ -1 by omega)
      rw [hg, if_pos rfl]
      rw [e] at h1
      rw [e]
      have hud : ¬ (u : Int) < 0 := by omega
      clear h hF e hg
      go_enter Try.func26, Try.ntmps26
      go_wp2_with fail
      go_at_call 24
      refine (unhide HC).mono ?_
      rintro e w' ⟨rfl, hw⟩
      have hw' := hw.symm
      subst hw'
      clear hw
      go_wp2
      go_ret2
      exact ⟨rfl, rfl⟩
set_option maxRecDepth 100000 in
set_option maxHeartbeats 4000000 in
theorem lkrweight_any {x o c n co cw : Nat} {U W : Nat → Int} (hF : Sp.Fo n U) (v : Int) (w : World) (h : LkR w x o c n co cw U W) :
    Calls Try.prog 27 #[.pointer (some ⟨x, 0, none⟩), .int .i64 v] w fun e w' => e = .returned (.tuple #[.int .i64 (if Sp.hg n U v = true then W v.toNat else 0), .bool (Sp.hg n U v)]) ∧ w' = w := by
  have HC := hide (lkris_any v w h)
  rcases Sp.int_case n v with h1 | ⟨k, rfl, hk⟩
  · rw [Sp.hs_no h1] at HC
    rw [Sp.hg_no h1, if_neg (by decide)]
    clear h h1 hF
    go_enter Try.func27, Try.ntmps27
    go_wp2_with fail
    go_at_call 24
    refine (unhide HC).mono ?_
    rintro e w' ⟨rfl, hw⟩
    have hw' := hw.symm
    subst hw'
    clear hw
    go_wp2
    go_ret2
    exact ⟨rfl, rfl⟩
  · rw [Sp.hs_yes hk] at HC
    have h0 := h.slot0
    have h0' := h.slot1
    have h1 := h.upc hk
    have h2 := h.wtc hk
    have hkI : (k : Int) < (n : Int) := by omega
    rw [Int.toNat_natCast]
    rcases hF.at_ hk with e | ⟨u, e, -⟩
    · rw [e] at h1
      rw [Sp.hg_root e, if_neg (by decide)]
      clear h hF e
      go_enter Try.func27, Try.ntmps27
      go_wp2_with fail
      go_at_call 24
      refine (unhide HC).mono ?_
      rintro e w' ⟨rfl, hw⟩
      have hw' := hw.symm
      subst hw'
      clear hw
      go_wp2
      go_ret2
      exact ⟨rfl, rfl⟩
    · have hg := Sp.hg_yes hk (show U k ≠ -1 by omega)
      rw [hg, if_pos rfl]
      rw [e] at h1
      generalize W k = y at *
      have hud : ¬ (u : Int) < 0 := by omega
      clear h hF e hg
      go_enter Try.func27, Try.ntmps27
      go_wp2_with fail
      go_at_call 24
      refine (unhide HC).mono ?_
      rintro e w' ⟨rfl, hw⟩
      have hw' := hw.symm
      subst hw'
      clear hw
      go_wp2
      go_ret2
      exact ⟨rfl, rfl⟩
set_option maxRecDepth 100000 in
set_option maxHeartbeats 4000000 in
theorem lkrcut_any {x o c n co cw : Nat} {U W : Nat → Int} (hF : Sp.Fo n U) (v : Int) (w : World) (h : LkR w x o c n co cw U W) :
    Calls Try.prog 28 #[.pointer (some ⟨x, 0, none⟩), .int .i64 v] w fun e w' => e = .returned (.int .i64 (Sp.ctE n U v)) ∧ LkR w' x o c n co cw (Sp.ctU n U v) (Sp.ctW n U W v) ∧ Bt (fun b => b = o ∨ b = c) w w' := by
  have HC := hide (lkris_any v w h)
  unfold Sp.ctE Sp.ctU Sp.ctW
  rcases Sp.int_case n v with h1 | ⟨k, rfl, hk⟩
  · rw [Sp.hs_no h1] at HC ⊢
    rw [Sp.hg_no h1, if_neg (by decide), if_neg (by decide), if_neg (by decide)]
    have H := hide h
    clear h h1 hF
    go_enter Try.func28, Try.ntmps28
    go_wp2_with fail
    go_at_call 24
    refine (unhide HC).mono ?_
    rintro e w' ⟨rfl, hw⟩
    have hw' := hw.symm
    subst hw'
    clear hw
    go_wp2
    go_ret
    exact ⟨rfl, unhide H, Bt.refl _ _⟩
  · rw [Sp.hs_yes hk] at HC ⊢
    rw [if_pos rfl]
    have h0 := h.slot0
    have h0' := h.slot1
    have h1 := h.upc hk
    have hkI : (k : Int) < (n : Int) := by omega
    rw [Int.toNat_natCast]
    rcases hF.at_ hk with e | ⟨u, e, -⟩
    · rw [e] at h1
      rw [Sp.hg_root e, if_neg (by decide), if_neg (by decide), if_neg (by decide)]
      have H := hide h
      clear h hF e
      go_enter Try.func28, Try.ntmps28
      go_wp2_with fail
      go_at_call 24
      refine (unhide HC).mono ?_
      rintro e w' ⟨rfl, hw⟩
      have hw' := hw.symm
      subst hw'
      clear hw
      go_wp2
      go_ret
      exact ⟨rfl, unhide H, Bt.refl _ _⟩
    · have hg := Sp.hg_yes hk (show U k ≠ -1 by omega)
      rw [hg, if_pos rfl, if_pos rfl, if_pos rfl]
      rw [e] at h1
      have hud : ¬ (u : Int) < 0 := by omega
      obtain ⟨P, hP⟩ : ∃ P : Ending → World → Prop, P = fun e w' => e = .returned (.int .i64 0) ∧ LkR w' x o c n co cw (Sp.upd U k (-1)) (Sp.upd W k 0) ∧ Bt (fun b => b = o ∨ b = c) w w' := ⟨_, rfl⟩
      rw [← hP]
      have HP := hide hP
      clear hP
      have H := hide h
      clear h hF e hg
      go_enter Try.func28, Try.ntmps28
      go_wp2_with fail
      go_at_call 24
      refine (unhide HC).mono ?_
      rintro e w' ⟨rfl, hw⟩
      have hw' := hw.symm
      subst hw'
      clear hw
      have hq := unhide H
      have hb : Bt (fun b => b = o ∨ b = c) w w := Bt.refl _ _
      have hvn := hk
      go_upto_region 5 with fail
      clear h0 h0' h1
      have hqd := hq.below (Below.refl _ _).drew
      have hbd := hb.drew
      have hxo := hqd.xo
      have hxc := hqd.xc
      have hS0 : w.drew.cell? ⟨x, 0, none⟩ = some (.slice (some ⟨o, 0, none⟩) n co) ∧ w.drew.cell? ⟨x, 1, none⟩ = some (.slice (some ⟨c, 0, none⟩) n cw) := ⟨hqd.slot0, hqd.slot1⟩
      refine wp_region_G (fun w' => w'.cell? ⟨x, 0, none⟩ = some (.slice (some ⟨o, 0, none⟩) n co) ∧ w'.cell? ⟨x, 1, none⟩ = some (.slice (some ⟨c, 0, none⟩) n cw)) (fun _ => false) (by kernel_rfl) hS0 (fun hHeld => ?_)
      generalize w.drew = wq at *
      have k0 := hqd.upc hvn
      have kf := fun i => hqd.on.frozen i
      have k1 : (wq.setCell ⟨o, k, none⟩ (.int .i64 (-1))).cell? ⟨c, k, none⟩ = some (.int .i64 (W k)) := (World.cell?_of_block (w := wq) (Below.heap_setCell _ _ _ _ (fun e => hqd.oc e.symm))).trans (hqd.wtc hvn)
      have kg := fun i => hqd.wt.frozen i
      have HQ : Hid (LkR ((wq.setCell ⟨o, k, none⟩ (.int .i64 (-1))).setCell ⟨c, k, none⟩ (.int .i64 0)) x o c n co cw (Sp.upd U k (-1)) (Sp.upd W k 0) ∧ Bt (fun b => b = o ∨ b = c) w ((wq.setCell ⟨o, k, none⟩ (.int .i64 (-1))).setCell ⟨c, k, none⟩ (.int .i64 0))) := hide ⟨hqd.set k (-1) 0, (hbd.set (.inl (.inl rfl)) _ _ _).set (.inl (.inr rfl)) _ _ _⟩
      clear hqd hbd
      refine wpAnyG_take (v := ?_) 0 (by rfl) (by kernel_rfl) (by kernel_rfl) (by kernel_rfl) (by kernel_rfl) (fun _ _ _ h => h) (Or.inl ⟨by rfl, ?_⟩) (by assumption) ?_
      rotate_left
      · (intro w' hSw; (try dsimp only at hSw); (try simp only [List.getElem_toArray, List.getElem_cons_zero]); go_simp; try (with_reducible rfl))
      simp only [Act.put, List.getElem_toArray, List.getElem_cons_zero, List.setIfInBounds_toArray, List.set_cons_zero, List.set_cons_succ]
      refine wpAnyG_take (v := ?_) 1 (by rfl) (by kernel_rfl) (by kernel_rfl) (by kernel_rfl) (by kernel_rfl) (fun _ _ _ h => h) (Or.inl ⟨by rfl, ?_⟩) (by assumption) ?_
      rotate_left
      · (intro w' hSw; (try dsimp only at hSw); (try simp only [List.getElem_toArray, List.getElem_cons_succ, List.getElem_cons_zero]); go_simp; try (with_reducible rfl))
      simp only [Act.put, List.getElem_toArray, List.getElem_cons_succ, List.getElem_cons_zero, List.setIfInBounds_toArray, List.set_cons_zero, List.set_cons_succ]
      refine wpAnyG_take (v := ?_) 2 (by rfl) (by kernel_rfl) (by kernel_rfl) (by kernel_rfl) (by kernel_rfl) (fun _ _ _ h => h) (Or.inl ⟨by rfl, ?_⟩) (by assumption) ?_
      rotate_left
      · (intro w' hSw; (try dsimp only at hSw); (try simp only [List.getElem_toArray, List.getElem_cons_succ, List.getElem_cons_zero]); go_simp; try (with_reducible rfl))
      simp only [Act.put, List.getElem_toArray, List.getElem_cons_succ, List.getElem_cons_zero, List.setIfInBounds_toArray, List.set_cons_zero, List.set_cons_succ]
      refine wpAnyG_take (v := ?_) 3 (by rfl) (by kernel_rfl) (by kernel_rfl) (by kernel_rfl) (by kernel_rfl) (fun _ _ _ h => h) (Or.inl ⟨by rfl, ?_⟩) (by assumption) ?_
      rotate_left
      · (intro w' hSw; (try dsimp only at hSw); (try simp only [List.getElem_toArray, List.getElem_cons_succ, List.getElem_cons_zero]); go_simp; try (with_reducible rfl))
      simp only [Act.put, List.getElem_toArray, List.getElem_cons_succ, List.getElem_cons_zero, List.setIfInBounds_toArray, List.set_cons_zero, List.set_cons_succ]
      refine wpAnyG_take (v := ?_) 4 (by rfl) (by kernel_rfl) (by kernel_rfl) (by kernel_rfl) (by kernel_rfl) (fun _ _ _ h => h) (Or.inl ⟨by rfl, ?_⟩) (by assumption) ?_
      rotate_left
      · (intro w' hSw; (try dsimp only at hSw); (try simp only [List.getElem_toArray, List.getElem_cons_succ, List.getElem_cons_zero]); go_simp; try (with_reducible rfl))
      simp only [Act.put, List.getElem_toArray, List.getElem_cons_succ, List.getElem_cons_zero, List.setIfInBounds_toArray, List.set_cons_zero, List.set_cons_succ]
      refine wpAnyG_take (v := ?_) 5 (by rfl) (by kernel_rfl) (by kernel_rfl) (by kernel_rfl) (by kernel_rfl) (fun _ _ _ h => h) (Or.inl ⟨by rfl, ?_⟩) (by assumption) ?_
      rotate_left
      · (intro w' hSw; (try dsimp only at hSw); (try simp only [List.getElem_toArray, List.getElem_cons_succ, List.getElem_cons_zero]); go_simp; try (with_reducible rfl))
      simp only [Act.put, List.getElem_toArray, List.getElem_cons_succ, List.getElem_cons_zero, List.setIfInBounds_toArray, List.set_cons_zero, List.set_cons_succ]
      refine wpAnyG_take (v := ?_) 6 (by rfl) (by kernel_rfl) (by kernel_rfl) (by kernel_rfl) (by kernel_rfl) (fun _ _ _ h => h) (Or.inl ⟨by rfl, ?_⟩) (by assumption) ?_
      rotate_left
      · (intro w' hSw; (try dsimp only at hSw); (try simp only [List.getElem_toArray, List.getElem_cons_succ, List.getElem_cons_zero]); go_simp; try (with_reducible rfl))
      simp only [Act.put, List.getElem_toArray, List.getElem_cons_succ, List.getElem_cons_zero, List.setIfInBounds_toArray, List.set_cons_zero, List.set_cons_succ]
      refine wpAnyG_take (v := ?_) 7 (by rfl) (by kernel_rfl) (by kernel_rfl) (by kernel_rfl) (by kernel_rfl) (fun _ _ _ h => h) (Or.inl ⟨by rfl, ?_⟩) (by assumption) ?_
      rotate_left
      · (intro w' hSw; (try dsimp only at hSw); (try simp only [List.getElem_toArray, List.getElem_cons_succ, List.getElem_cons_zero]); go_simp; try (with_reducible rfl))
      simp only [Act.put, List.getElem_toArray, List.getElem_cons_succ, List.getElem_cons_zero, List.setIfInBounds_toArray, List.set_cons_zero, List.set_cons_succ]
      refine wpAnyG_take (v := ?_) 8 (by rfl) (by kernel_rfl) (by kernel_rfl) (by kernel_rfl) (by kernel_rfl) (fun _ _ _ h => h) (Or.inl ⟨by rfl, ?_⟩) (by assumption) ?_
      rotate_left
      · (intro w' hSw; (try dsimp only at hSw); (try simp only [List.getElem_toArray, List.getElem_cons_succ, List.getElem_cons_zero]); go_simp; try (with_reducible rfl))
      simp only [Act.put, List.getElem_toArray, List.getElem_cons_succ, List.getElem_cons_zero, List.setIfInBounds_toArray, List.set_cons_zero, List.set_cons_succ]
      refine wpAnyG_take (v := ?_) 9 (by rfl) (by kernel_rfl) (by kernel_rfl) (by kernel_rfl) (by kernel_rfl) (fun _ _ _ h => h) (Or.inl ⟨by rfl, ?_⟩) (by assumption) ?_
      rotate_left
      · (intro w' hSw; (try dsimp only at hSw); (try simp only [List.getElem_toArray, List.getElem_cons_succ, List.getElem_cons_zero]); go_simp; try (with_reducible rfl))
      simp only [Act.put, List.getElem_toArray, List.getElem_cons_succ, List.getElem_cons_zero, List.setIfInBounds_toArray, List.set_cons_zero, List.set_cons_succ]
      refine wpAnyG_take (v := ?_) 10 (by rfl) (by kernel_rfl) (by kernel_rfl) (by kernel_rfl) (by kernel_rfl) (fun _ _ _ h => h) (Or.inl ⟨by rfl, ?_⟩) (by assumption) ?_
      rotate_left
      · (intro w' hSw; (try dsimp only at hSw); (try simp only [List.getElem_toArray, List.getElem_cons_succ, List.getElem_cons_zero]); go_simp; try (with_reducible rfl))
      simp only [Act.put, List.getElem_toArray, List.getElem_cons_succ, List.getElem_cons_zero, List.setIfInBounds_toArray, List.set_cons_zero, List.set_cons_succ]
      refine wpAnyG_ready [11] (by kernel_rfl) (by simp) ?_
      refine AllReadyG.cons 11 (by rfl) (fun K hK => ?_) ?_
      · simp only [List.getElem_toArray, List.getElem_cons_succ, List.getElem_cons_zero]
        go_simp
        refine hK.out _ _ ⟨slot_set hxo hS0.1, slot_set hxo hS0.2⟩ (fun _ => ?_)
        clear hK K
        try simp only [Act.put, List.setIfInBounds_toArray, List.set_cons_zero, List.set_cons_succ]
        refine wpAnyG_take (v := ?_) 12 (by rfl) (by kernel_rfl) (by kernel_rfl) (by kernel_rfl) (by kernel_rfl) (fun _ _ _ h => h) (Or.inl ⟨by rfl, ?_⟩) (by assumption) ?_
        rotate_left
        · (intro w' hSw; (try dsimp only at hSw); (try simp only [List.getElem_toArray, List.getElem_cons_succ, List.getElem_cons_zero]); go_simp; try (with_reducible rfl))
        simp only [Act.put, List.getElem_toArray, List.getElem_cons_succ, List.getElem_cons_zero, List.setIfInBounds_toArray, List.set_cons_zero, List.set_cons_succ]
        refine wpAnyG_ready [13] (by kernel_rfl) (by simp) ?_
        refine AllReadyG.cons 13 (by rfl) (fun K hK => ?_) ?_
        · simp only [List.getElem_toArray, List.getElem_cons_succ, List.getElem_cons_zero]
          go_simp
          refine hK.out _ _ ⟨slot_set hxc (slot_set hxo hS0.1), slot_set hxc (slot_set hxo hS0.2)⟩ (fun _ => ?_)
          clear hK K
          try simp only [Act.put, List.setIfInBounds_toArray, List.set_cons_zero, List.set_cons_succ]
          refine wpAnyG_done (by kernel_rfl) ?_ _
          refine NoPanic.normal ?_
          clear hHeld hS0 k0 kf k1 kg
          go_wp2
          rw [unhide HP]
          exact ⟨rfl, unhide HQ⟩
        exact AllReadyG.nil
      exact AllReadyG.nil
set_option maxRecDepth 100000 in
set_option maxHeartbeats 8000000 in
theorem lkrlink_any {x o c n co cw : Nat} {U W : Nat → Int} (hF : Sp.Fo n U) (v u y : Int) (w : World) (h : LkR w x o c n co cw U W) :
    Calls Try.prog 16 #[.pointer (some ⟨x, 0, none⟩), .int .i64 v, .int .i64 u, .int .i64 y] w fun e w' => e = .returned (.int .i64 (Sp.lkE n U v u)) ∧ LkR w' x o c n co cw (Sp.lkU n U v u) (Sp.lkW n U W v u y) ∧ Bt (fun b => b = o ∨ b = c) w w' := by
  have HC1 := hide (lkris_any v w h)
  have HC2 := hide (lkris_any u w h)
  have HC4 := hide (lkrroot_any hF u w h)
  have H := hide h
  unfold Sp.lkU Sp.lkW
  rcases Sp.int_case n v with h1 | ⟨k, rfl, hk⟩
  · have h1' := Sp.hs_no h1
    rw [h1'] at HC1
    have e : Sp.lkE n U v u = 3 := by unfold Sp.lkE; rw [if_neg (fun hh => by rw [h1'] at hh; cases hh.1)]
    rw [e, if_neg (by decide), if_neg (by decide)]
    clear h hF e h1 h1' HC2 HC4
    go_enter Try.func16, Try.ntmps16
    go_wp2_with fail
    go_at_call 24
    refine (unhide HC1).mono ?_
    rintro e w' ⟨rfl, hw⟩
    have hw' := hw.symm
    subst hw'
    clear hw
    go_wp2
    go_ret
    exact ⟨rfl, unhide H, Bt.refl _ _⟩
  · have h1' := Sp.hs_yes hk
    rw [h1'] at HC1
    rcases Sp.int_case n u with h2 | ⟨j, rfl, hj⟩
    · have h2' := Sp.hs_no h2
      rw [h2'] at HC2
      have e : Sp.lkE n U (k : Int) u = 3 := by unfold Sp.lkE; rw [if_neg (fun hh => by rw [h2'] at hh; cases hh.2)]
      rw [e, if_neg (by decide), if_neg (by decide)]
      clear h hF e h1' h2 h2' HC4
      go_enter Try.func16, Try.ntmps16
      go_wp2_with fail
      go_at_call 24
      refine (unhide HC1).mono ?_
      rintro e w' ⟨rfl, hw⟩
      have hw' := hw.symm
      subst hw'
      clear hw
      go_wp2_with fail
      go_at_call 24
      refine (unhide HC2).mono ?_
      rintro e w' ⟨rfl, hw⟩
      have hw' := hw.symm
      subst hw'
      clear hw
      go_wp2
      go_ret
      exact ⟨rfl, unhide H, Bt.refl _ _⟩
    · have h2' := Sp.hs_yes hj
      rw [h2'] at HC2
      have h0 := h.slot0
      have h0' := h.slot1
      have h1 := h.upc hk
      have hkI : (k : Int) < (n : Int) := by omega
      rcases hF.at_ hk with e0 | ⟨u0, e0, -⟩
      · rw [e0] at h1
        by_cases h4 : Sp.rt n U (j : Int) = (k : Int)
        · have e : Sp.lkE n U (k : Int) (j : Int) = 8 := by unfold Sp.lkE; rw [if_pos ⟨h1', h2'⟩, Sp.hg_root e0, if_neg (by decide), if_pos h4]
          rw [e, if_neg (by decide), if_neg (by decide)]
          rw [h4] at HC4
          have hb : ((k : Int) == (k : Int)) = true := by simp
          clear h hF e h1' h2' h4 e0
          go_enter Try.func16, Try.ntmps16
          go_wp2_with fail
          go_at_call 24
          refine (unhide HC1).mono ?_
          rintro e w' ⟨rfl, hw⟩
          have hw' := hw.symm
          subst hw'
          clear hw
          go_wp2_with fail
          go_at_call 24
          refine (unhide HC2).mono ?_
          rintro e w' ⟨rfl, hw⟩
          have hw' := hw.symm
          subst hw'
          clear hw
          go_wp2_with fail
          go_at_call 25
          refine (unhide HC4).mono ?_
          rintro e w' ⟨rfl, hw⟩
          have hw' := hw.symm
          subst hw'
          clear hw
          go_wp2
          go_ret
          exact ⟨rfl, unhide H, Bt.refl _ _⟩
        · have e : Sp.lkE n U (k : Int) (j : Int) = 0 := by unfold Sp.lkE; rw [if_pos ⟨h1', h2'⟩, Sp.hg_root e0, if_neg (by decide), if_neg h4]
          rw [e, if_pos rfl, if_pos rfl, Int.toNat_natCast]
          have hbb : (Sp.rt n U (j : Int) == (k : Int)) = false := beq_eq_false_iff_ne.2 h4
          generalize Sp.rt n U (j : Int) = rr at *
          obtain ⟨P, hP⟩ : ∃ P : Ending → World → Prop, P = fun e w' => e = .returned (.int .i64 0) ∧ LkR w' x o c n co cw (Sp.upd U k (j : Int)) (Sp.upd W k y) ∧ Bt (fun b => b = o ∨ b = c) w w' := ⟨_, rfl⟩
          rw [← hP]
          have HP := hide hP
          clear hP
          clear h hF e h1' h2' h4 e0
          go_enter Try.func16, Try.ntmps16
          go_wp2_with fail
          go_at_call 24
          refine (unhide HC1).mono ?_
          rintro e w' ⟨rfl, hw⟩
          have hw' := hw.symm
          subst hw'
          clear hw
          go_wp2_with fail
          go_at_call 24
          refine (unhide HC2).mono ?_
          rintro e w' ⟨rfl, hw⟩
          have hw' := hw.symm
          subst hw'
          clear hw
          go_wp2_with fail
          go_at_call 25
          refine (unhide HC4).mono ?_
          rintro e w' ⟨rfl, hw⟩
          have hw' := hw.symm
          subst hw'
          clear hw
          have hq := unhide H
          have hb : Bt (fun b => b = o ∨ b = c) w w := Bt.refl _ _
          have hvn := hk
          go_upto_region 7 with fail
          clear h0 h0' h1 hbb HC1 HC2 HC4
          have hqd := hq.below (Below.refl _ _).drew
          have hbd := hb.drew
          have hxo := hqd.xo
          have hxc := hqd.xc
          have hS0 : w.drew.cell? ⟨x, 0, none⟩ = some (.slice (some ⟨o, 0, none⟩) n co) ∧ w.drew.cell? ⟨x, 1, none⟩ = some (.slice (some ⟨c, 0, none⟩) n cw) := ⟨hqd.slot0, hqd.slot1⟩
          refine wp_region_G (fun w' => w'.cell? ⟨x, 0, none⟩ = some (.slice (some ⟨o, 0, none⟩) n co) ∧ w'.cell? ⟨x, 1, none⟩ = some (.slice (some ⟨c, 0, none⟩) n cw)) (fun _ => false) (by kernel_rfl) hS0 (fun hHeld => ?_)
          generalize w.drew = wq at *
          have k0 := hqd.upc hvn
          have kf := fun i => hqd.on.frozen i
          have k1 : (wq.setCell ⟨o, k, none⟩ (.int .i64 (j : Int))).cell? ⟨c, k, none⟩ = some (.int .i64 (W k)) := (World.cell?_of_block (w := wq) (Below.heap_setCell _ _ _ _ (fun e => hqd.oc e.symm))).trans (hqd.wtc hvn)
          have kg := fun i => hqd.wt.frozen i
          have HQ : Hid (LkR ((wq.setCell ⟨o, k, none⟩ (.int .i64 (j : Int))).setCell ⟨c, k, none⟩ (.int .i64 y)) x o c n co cw (Sp.upd U k (j : Int)) (Sp.upd W k y) ∧ Bt (fun b => b = o ∨ b = c) w ((wq.setCell ⟨o, k, none⟩ (.int .i64 (j : Int))).setCell ⟨c, k, none⟩ (.int .i64 y))) := hide ⟨hqd.set k (j : Int) y, (hbd.set (.inl (.inl rfl)) _ _ _).set (.inl (.inr rfl)) _ _ _⟩
          clear hqd hbd
          refine wpAnyG_take (v := ?_) 0 (by rfl) (by kernel_rfl) (by kernel_rfl) (by kernel_rfl) (by kernel_rfl) (fun _ _ _ h => h) (Or.inl ⟨by rfl, ?_⟩) (by assumption) ?_
          rotate_left
          · (intro w' hSw; (try dsimp only at hSw); (try simp only [List.getElem_toArray, List.getElem_cons_zero]); go_simp; try (with_reducible rfl))
          simp only [Act.put, List.getElem_toArray, List.getElem_cons_zero, List.setIfInBounds_toArray, List.set_cons_zero, List.set_cons_succ]
          refine wpAnyG_take (v := ?_) 1 (by rfl) (by kernel_rfl) (by kernel_rfl) (by kernel_rfl) (by kernel_rfl) (fun _ _ _ h => h) (Or.inl ⟨by rfl, ?_⟩) (by assumption) ?_
          rotate_left
          · (intro w' hSw; (try dsimp only at hSw); (try simp only [List.getElem_toArray, List.getElem_cons_succ, List.getElem_cons_zero]); go_simp; try (with_reducible rfl))
          simp only [Act.put, List.getElem_toArray, List.getElem_cons_succ, List.getElem_cons_zero, List.setIfInBounds_toArray, List.set_cons_zero, List.set_cons_succ]
          refine wpAnyG_take (v := ?_) 2 (by rfl) (by kernel_rfl) (by kernel_rfl) (by kernel_rfl) (by kernel_rfl) (fun _ _ _ h => h) (Or.inl ⟨by rfl, ?_⟩) (by assumption) ?_
          rotate_left
          · (intro w' hSw; (try dsimp only at hSw); (try simp only [List.getElem_toArray, List.getElem_cons_succ, List.getElem_cons_zero]); go_simp; try (with_reducible rfl))
          simp only [Act.put, List.getElem_toArray, List.getElem_cons_succ, List.getElem_cons_zero, List.setIfInBounds_toArray, List.set_cons_zero, List.set_cons_succ]
          refine wpAnyG_take (v := ?_) 3 (by rfl) (by kernel_rfl) (by kernel_rfl) (by kernel_rfl) (by kernel_rfl) (fun _ _ _ h => h) (Or.inl ⟨by rfl, ?_⟩) (by assumption) ?_
          rotate_left
          · (intro w' hSw; (try dsimp only at hSw); (try simp only [List.getElem_toArray, List.getElem_cons_succ, List.getElem_cons_zero]); go_simp; try (with_reducible rfl))
          simp only [Act.put, List.getElem_toArray, List.getElem_cons_succ, List.getElem_cons_zero, List.setIfInBounds_toArray, List.set_cons_zero, List.set_cons_succ]
          refine wpAnyG_take (v := ?_) 4 (by rfl) (by kernel_rfl) (by kernel_rfl) (by kernel_rfl) (by kernel_rfl) (fun _ _ _ h => h) (Or.inl ⟨by rfl, ?_⟩) (by assumption) ?_
          rotate_left
          · (intro w' hSw; (try dsimp only at hSw); (try simp only [List.getElem_toArray, List.getElem_cons_succ, List.getElem_cons_zero]); go_simp; try (with_reducible rfl))
          simp only [Act.put, List.getElem_toArray, List.getElem_cons_succ, List.getElem_cons_zero, List.setIfInBounds_toArray, List.set_cons_zero, List.set_cons_succ]
          refine wpAnyG_take (v := ?_) 5 (by rfl) (by kernel_rfl) (by kernel_rfl) (by kernel_rfl) (by kernel_rfl) (fun _ _ _ h => h) (Or.inl ⟨by rfl, ?_⟩) (by assumption) ?_
          rotate_left
          · (intro w' hSw; (try dsimp only at hSw); (try simp only [List.getElem_toArray, List.getElem_cons_succ, List.getElem_cons_zero]); go_simp; try (with_reducible rfl))
          simp only [Act.put, List.getElem_toArray, List.getElem_cons_succ, List.getElem_cons_zero, List.setIfInBounds_toArray, List.set_cons_zero, List.set_cons_succ]
          refine wpAnyG_take (v := ?_) 6 (by rfl) (by kernel_rfl) (by kernel_rfl) (by kernel_rfl) (by kernel_rfl) (fun _ _ _ h => h) (Or.inl ⟨by rfl, ?_⟩) (by assumption) ?_
          rotate_left
          · (intro w' hSw; (try dsimp only at hSw); (try simp only [List.getElem_toArray, List.getElem_cons_succ, List.getElem_cons_zero]); go_simp; try (with_reducible rfl))
          simp only [Act.put, List.getElem_toArray, List.getElem_cons_succ, List.getElem_cons_zero, List.setIfInBounds_toArray, List.set_cons_zero, List.set_cons_succ]
          refine wpAnyG_take (v := ?_) 7 (by rfl) (by kernel_rfl) (by kernel_rfl) (by kernel_rfl) (by kernel_rfl) (fun _ _ _ h => h) (Or.inl ⟨by rfl, ?_⟩) (by assumption) ?_
          rotate_left
          · (intro w' hSw; (try dsimp only at hSw); (try simp only [List.getElem_toArray, List.getElem_cons_succ, List.getElem_cons_zero]); go_simp; try (with_reducible rfl))
          simp only [Act.put, List.getElem_toArray, List.getElem_cons_succ, List.getElem_cons_zero, List.setIfInBounds_toArray, List.set_cons_zero, List.set_cons_succ]
          refine wpAnyG_take (v := ?_) 8 (by rfl) (by kernel_rfl) (by kernel_rfl) (by kernel_rfl) (by kernel_rfl) (fun _ _ _ h => h) (Or.inl ⟨by rfl, ?_⟩) (by assumption) ?_
          rotate_left
          · (intro w' hSw; (try dsimp only at hSw); (try simp only [List.getElem_toArray, List.getElem_cons_succ, List.getElem_cons_zero]); go_simp; try (with_reducible rfl))
          simp only [Act.put, List.getElem_toArray, List.getElem_cons_succ, List.getElem_cons_zero, List.setIfInBounds_toArray, List.set_cons_zero, List.set_cons_succ]
          refine wpAnyG_take (v := ?_) 9 (by rfl) (by kernel_rfl) (by kernel_rfl) (by kernel_rfl) (by kernel_rfl) (fun _ _ _ h => h) (Or.inl ⟨by rfl, ?_⟩) (by assumption) ?_
          rotate_left
          · (intro w' hSw; (try dsimp only at hSw); (try simp only [List.getElem_toArray, List.getElem_cons_succ, List.getElem_cons_zero]); go_simp; try (with_reducible rfl))
          simp only [Act.put, List.getElem_toArray, List.getElem_cons_succ, List.getElem_cons_zero, List.setIfInBounds_toArray, List.set_cons_zero, List.set_cons_succ]
          refine wpAnyG_take (v := ?_) 10 (by rfl) (by kernel_rfl) (by kernel_rfl) (by kernel_rfl) (by kernel_rfl) (fun _ _ _ h => h) (Or.inl ⟨by rfl, ?_⟩) (by assumption) ?_
          rotate_left
          · (intro w' hSw; (try dsimp only at hSw); (try simp only [List.getElem_toArray, List.getElem_cons_succ, List.getElem_cons_zero]); go_simp; try (with_reducible rfl))
          simp only [Act.put, List.getElem_toArray, List.getElem_cons_succ, List.getElem_cons_zero, List.setIfInBounds_toArray, List.set_cons_zero, List.set_cons_succ]
          refine wpAnyG_take (v := ?_) 11 (by rfl) (by kernel_rfl) (by kernel_rfl) (by kernel_rfl) (by kernel_rfl) (fun _ _ _ h => h) (Or.inl ⟨by rfl, ?_⟩) (by assumption) ?_
          rotate_left
          · (intro w' hSw; (try dsimp only at hSw); (try simp only [List.getElem_toArray, List.getElem_cons_succ, List.getElem_cons_zero]); go_simp; try (with_reducible rfl))
          simp only [Act.put, List.getElem_toArray, List.getElem_cons_succ, List.getElem_cons_zero, List.setIfInBounds_toArray, List.set_cons_zero, List.set_cons_succ]
          refine wpAnyG_take (v := ?_) 12 (by rfl) (by kernel_rfl) (by kernel_rfl) (by kernel_rfl) (by kernel_rfl) (fun _ _ _ h => h) (Or.inl ⟨by rfl, ?_⟩) (by assumption) ?_
          rotate_left
          · (intro w' hSw; (try dsimp only at hSw); (try simp only [List.getElem_toArray, List.getElem_cons_succ, List.getElem_cons_zero]); go_simp; try (with_reducible rfl))
          simp only [Act.put, List.getElem_toArray, List.getElem_cons_succ, List.getElem_cons_zero, List.setIfInBounds_toArray, List.set_cons_zero, List.set_cons_succ]
          refine wpAnyG_ready [13] (by kernel_rfl) (by simp) ?_
          refine AllReadyG.cons 13 (by rfl) (fun K hK => ?_) ?_
          · simp only [List.getElem_toArray, List.getElem_cons_succ, List.getElem_cons_zero]
            go_simp
            refine hK.out _ _ ⟨slot_set hxo hS0.1, slot_set hxo hS0.2⟩ (fun _ => ?_)
            clear hK K
            try simp only [Act.put, List.setIfInBounds_toArray, List.set_cons_zero, List.set_cons_succ]
            refine wpAnyG_take (v := ?_) 14 (by rfl) (by kernel_rfl) (by kernel_rfl) (by kernel_rfl) (by kernel_rfl) (fun _ _ _ h => h) (Or.inl ⟨by rfl, ?_⟩) (by assumption) ?_
            rotate_left
            · (intro w' hSw; (try dsimp only at hSw); (try simp only [List.getElem_toArray, List.getElem_cons_succ, List.getElem_cons_zero]); go_simp; try (with_reducible rfl))
            simp only [Act.put, List.getElem_toArray, List.getElem_cons_succ, List.getElem_cons_zero, List.setIfInBounds_toArray, List.set_cons_zero, List.set_cons_succ]
            refine wpAnyG_ready [15] (by kernel_rfl) (by simp) ?_
            refine AllReadyG.cons 15 (by rfl) (fun K hK => ?_) ?_
            · simp only [List.getElem_toArray, List.getElem_cons_succ, List.getElem_cons_zero]
              go_simp
              refine hK.out _ _ ⟨slot_set hxc (slot_set hxo hS0.1), slot_set hxc (slot_set hxo hS0.2)⟩ (fun _ => ?_)
              clear hK K
              try simp only [Act.put, List.setIfInBounds_toArray, List.set_cons_zero, List.set_cons_succ]
              refine wpAnyG_done (by kernel_rfl) ?_ _
              refine NoPanic.normal ?_
              clear hHeld hS0 k0 kf k1 kg
              go_wp2
              rw [unhide HP]
              exact ⟨rfl, unhide HQ⟩
            exact AllReadyG.nil
          exact AllReadyG.nil
      · rw [e0] at h1
        have hud : (u0 : Int) ≥ 0 := by omega
        have e : Sp.lkE n U (k : Int) (j : Int) = 11 := by unfold Sp.lkE; rw [if_pos ⟨h1', h2'⟩, if_pos (Sp.hg_yes hk (show U k ≠ -1 by omega))]
        rw [e, if_neg (by decide), if_neg (by decide)]
        clear h hF e h1' h2' e0 HC4
        go_enter Try.func16, Try.ntmps16
        go_wp2_with fail
        go_at_call 24
        refine (unhide HC1).mono ?_
        rintro e w' ⟨rfl, hw⟩
        have hw' := hw.symm
        subst hw'
        clear hw
        go_wp2_with fail
        go_at_call 24
        refine (unhide HC2).mono ?_
        rintro e w' ⟨rfl, hw⟩
        have hw' := hw.symm
        subst hw'
        clear hw
        go_wp2
        go_ret
        exact ⟨rfl, unhide H, Bt.refl _ _⟩
end Go.Proofs.Ytohfmohkaaidpab


