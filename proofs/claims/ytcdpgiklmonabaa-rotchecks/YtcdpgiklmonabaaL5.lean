/- What the proof needs, part 5. -/
import Derived.Lib.SliceRun
import Derived.Test.YtcdpgiklmonabaaL4
/- The walks of slices.Clone and of package rot: Turn. -/
namespace Go.Proofs.Ytcdpgiklmonabaa
open Go Go.RowKit

set_option maxRecDepth 100000 in
set_option maxHeartbeats 1000000 in
theorem clone_any (l : List Int) (v : Value) (w : World) (hv : Ints w v l) (hl : l.length ≤ 240) :
    Calls Try.prog 52 #[v] w fun e w' => ∃ rv, e = .returned rv ∧ OwnI w' w.heap.size rv l ∧ Below w.heap.size w w' := by
  have q22 : ∀ (w : World) (a : Option Addr) (n c n' c' : Nat), (binOp .eql 22 (.slice a n c) (.slice none n' c')).run Try.prog w = .ok (.bool a.isNone) w := fun w a n c n' c' => Lib.run_eql_slice_nil w _ _ a n c n' c' Try.underlying22
  have HV := hide hv
  obtain ⟨a, c, rfl, hlc, hcm, HC⟩ := hv.all
  obtain ⟨P, hP⟩ : ∃ P : Ending → World → Prop, P = fun e w' => ∃ rv, e = .returned rv ∧ OwnI w' w.heap.size rv l ∧ Below w.heap.size w w' := ⟨_, rfl⟩
  rw [← hP]
  have HP := hide hP
  clear hP hv
  cases a with
  | none =>
    have hl0 : l = [] := by
      cases l with
      | nil => rfl
      | cons x r => obtain ⟨b, o, h, _⟩ := unhide HC 0 (by simp); cases h
    subst hl0
    go_enter Try.func52, Try.ntmps52
    go_wp2
    rw [unhide HP]
    exact ⟨_, rfl, World.ownsRow_nil _ _ _ _, Below.refl _ _⟩
  | some ad =>
    have HI : Hid (Ints (w.alloc (.cells #[] 3)) (.slice (some ad) l.length c) l) := hide ((unhide HV).below ((Below.refl _ w).alloc (Nat.le_refl _) _))
    have HO : Hid (OwnI (w.alloc (.cells #[] 3)) w.heap.size (.slice (some ⟨w.heap.size, 0, none⟩) 0 0) []) := hide (own_lit w w.heap.size w.heap.size 0 [] rfl rfl (Nat.le_refl _) (by simp))
    have hb1 : Below w.heap.size w (w.alloc (.cells #[] 3)) := (Below.refl _ w).alloc (Nat.le_refl _) _
    have HB1 := hide hb1
    clear hb1
    go_enter Try.func52, Try.ntmps52
    go_wp2_with (at_builtin; refine wpList_app (w := w.alloc (.cells #[] 3)) rfl _ _ rfl w.heap.size _ _ [] l rfl rfl (unhide HO) (unhide HI) l.length (by simp) (by omega) (by simp) ?_)
    intro a6 c6 w6 hown6 hb6 hgr6
    go_wp2
    rw [unhide HP]
    exact ⟨_, rfl, hown6, (unhide HB1).trans hb6⟩
theorem make_runs (n : Nat) (hn : n ≤ 240) : ∃ F : World → World, ∀ w, (Instr.makeSlice 22 (.int .i64 (n : Int)) (.int .i64 (n : Int))).run Try.prog w = .ok (.slice (some ⟨w.heap.size, 0, none⟩) n n) (F w) ∧ OwnI (F w) w.heap.size (.slice (some ⟨w.heap.size, 0, none⟩) n n) (List.replicate n 0) ∧ Below w.heap.size w (F w) := by
  obtain ⟨i0, hi, hz0, hz1, hz2⟩ := info_parts info3
  have h : ∀ w : World, ∃ w', (Instr.makeSlice 22 (.int .i64 (n : Int)) (.int .i64 (n : Int))).run Try.prog w = .ok (.slice (some ⟨w.heap.size, 0, none⟩) n n) w' ∧ OwnI w' w.heap.size (.slice (some ⟨w.heap.size, 0, none⟩) n n) (List.replicate n 0) ∧ Below w.heap.size w w' := fun w => by
    obtain ⟨w', hrun, r1, r2⟩ := run_make_full (P := Try.prog) w w.heap.size 22 3 i0 (.int .i64 0) 1 Try.underlying22 hi hz0 hz1 .i64 .i64 n (by rw [hz2]; omega) (by unfold maxLen; omega) (Nat.le_refl _)
    rw [made_ints] at r1
    refine ⟨w', hrun, ?_, (Below.refl _ _).grown r2 (Nat.le_refl _) (by simp)⟩
    unfold OwnI
    rw [List.length_replicate]
    exact r1
  exact ⟨fun w => Classical.choose (h w), fun w => Classical.choose_spec (h w)⟩
def Sp.invGo (nx : List Int) : Nat → Nat → List Int → List Int
  | 0, _, L => L
  | c + 1, d, L => Sp.invGo nx c (d + 1) (L.set (nx.getD d 0).toNat (d : Int))
/-- The next ones seen from behind. -/
def Sp.turnL (nx : List Int) : List Int := Sp.invGo nx nx.length 0 (List.replicate nx.length 0)
/-- The net that Turn builds, in a block of its own; its result's block is still empty. -/
structure TurnAt (w wx : World) (g gn : Nat) (q : Sp.Net) (tv nv cv vT vC : Value) (L : List Int) : Prop where
  box : BoxAt w wx q.n tv nv cv
  ob : wx.heap[g]? = some (.cells #[.int .i64 q.n, vT, .slice (some ⟨gn, 0, none⟩) q.next.length q.next.length, vC] 25 (0, 0))
  far : w.heap.size + 2 ≤ g
  own : OwnI wx (w.heap.size + 2) (.slice (some ⟨gn, 0, none⟩) q.next.length q.next.length) L
  ne : gn ≠ g
  ot : OwnI wx (w.heap.size + 2) vT q.tail
  oc : OwnI wx (w.heap.size + 2) vC q.cap
  nt : vT.ownBlock ≠ some gn
  nc : vC.ownBlock ≠ some gn
theorem own_but {w w' : World} {B g : Nat} {v : Value} {l : List Int} (h : OwnI w B v l) (hb : ButRow g w w') (hne : v.ownBlock ≠ some g) : OwnI w' B v l := by
  obtain ⟨hx, hv | ⟨k, cap, cur, hv, hg, hh, r⟩⟩ := h
  · exact ⟨hx, .inl hv⟩
  · refine ⟨hx, .inr ⟨k, cap, cur, hv, hg, ?_, r⟩⟩
    rw [hb.block k (fun e => hne (by rw [hv, e]; rfl))]
    exact hh
theorem four_cells {X : World} {g : Nat} (h : X.heap[g]? = some (.cells #[.int .i64 0, .slice none 0 0, .slice none 0 0, .slice none 0 0] 25 (0, 0))) (n' : Int) (a b c : Value) : ((((X.setCell ⟨g, 0, none⟩ (.int .i64 n')).setCell ⟨g, 1, none⟩ a).setCell ⟨g, 2, none⟩ b).setCell ⟨g, 3, none⟩ c).heap[g]? = some (.cells #[.int .i64 n', a, b, c] 25 (0, 0)) := by
  have h0 := heap_setCell_same X g 0 _ _ (.int .i64 n') h
  have h1 := heap_setCell_same _ g 1 _ _ a h0
  have h2 := heap_setCell_same _ g 2 _ _ b h1
  have h3 := heap_setCell_same _ g 3 _ _ c h2
  rw [h3]; rfl
theorem turn_met {w W3 X : World} {q : Sp.Net} {gM gA : Nat} {vT vC tv nv cv : Value} (hT : OwnI X W3.heap.size vT q.tail) (hM : OwnI X W3.heap.size (.slice (some ⟨gM, 0, none⟩) q.next.length q.next.length) (List.replicate q.next.length 0)) (hC : OwnI X W3.heap.size vC q.cap)
    (hA : X.heap[gA]? = some (.cells #[.int .i64 0, .slice none 0 0, .slice none 0 0, .slice none 0 0] 25 (0, 0))) (neT : vT.ownBlock ≠ some gA) (neM : gM ≠ gA) (neC : vC.ownBlock ≠ some gA) (nTM : vT.ownBlock ≠ some gM) (nCM : vC.ownBlock ≠ some gM) (hb : Below W3.heap.size W3 X) (hgA : W3.heap.size ≤ gA) (hW : BoxAt w W3 q.n tv nv cv) :
    ∃ g gn vT' vC', Value.pointer (some ⟨gA, 0, none⟩) = .pointer (some ⟨g, 0, none⟩) ∧ TurnAt w ((((X.setCell ⟨gA, 0, none⟩ (.int .i64 q.n)).setCell ⟨gA, 1, none⟩ vT).setCell ⟨gA, 2, none⟩ (.slice (some ⟨gM, 0, none⟩) q.next.length q.next.length)).setCell ⟨gA, 3, none⟩ vC) g gn q tv nv cv vT' vC' (List.replicate q.next.length 0) := by
  have hs := hW.size
  have hbut : ButRow gA X ((((X.setCell ⟨gA, 0, none⟩ (.int .i64 q.n)).setCell ⟨gA, 1, none⟩ vT).setCell ⟨gA, 2, none⟩ (.slice (some ⟨gM, 0, none⟩) q.next.length q.next.length)).setCell ⟨gA, 3, none⟩ vC) := ((((ButRow.refl gA X).setCell 0 _).setCell 1 _).setCell 2 _).setCell 3 _
  have hbx : Below W3.heap.size W3 ((((X.setCell ⟨gA, 0, none⟩ (.int .i64 q.n)).setCell ⟨gA, 1, none⟩ vT).setCell ⟨gA, 2, none⟩ (.slice (some ⟨gM, 0, none⟩) q.next.length q.next.length)).setCell ⟨gA, 3, none⟩ vC) := (((hb.setCell (by exact hgA) _).setCell (by exact hgA) _).setCell (by exact hgA) _).setCell (by exact hgA) _
  refine ⟨gA, gM, vT, vC, rfl, hW.below hbx, ?_, by omega, own_base (own_but hM hbut (by simpa [Value.ownBlock] using neM)) (by omega), neM, own_base (own_but hT hbut neT) (by omega), own_base (own_but hC hbut neC) (by omega), nTM, nCM⟩
  exact four_cells hA q.n vT _ vC
theorem TurnAt.put {w wx : World} {g gn : Nat} {q : Sp.Net} {tv nv cv vT vC : Value} {L : List Int} (h : TurnAt w wx g gn q tv nv cv vT vC L) (x : Nat) (d : Int) : TurnAt w (wx.setCell ⟨gn, x, none⟩ (.int .i64 d)) g gn q tv nv cv vT vC (L.set x d) := by
  have hbut : ButRow gn wx (wx.setCell ⟨gn, x, none⟩ (.int .i64 d)) := (ButRow.refl gn wx).setCell x _
  have hgn := (h.own.lt gn rfl).1
  exact ⟨h.box.other gn x (by omega) _, (hbut.block g (Ne.symm h.ne)).trans h.ob, h.far, own_setCell h.own x d, h.ne, own_but h.ot hbut h.nt, own_but h.oc hbut h.nc, h.nt, h.nc⟩
set_option maxRecDepth 100000 in
set_option maxHeartbeats 2000000 in
theorem rturn_any (q : Sp.Net) (v tv nv cv : Value) (w : World) (hv : NetI w v q tv nv cv) (hw : Sp.walkB q = true) :
    Calls Try.prog 21 #[v] w fun e w' => ∃ tv nv cv, e = .returned (.agg #[.int .i64 q.n, tv, nv, cv]) ∧ OwnI w' w.heap.size tv q.tail ∧ OwnI w' w.heap.size nv (Sp.turnL q.next) ∧ OwnI w' w.heap.size cv q.cap ∧ Below w.heap.size w w' := by
  have hq := walkQ hw
  have hv' := hv
  obtain ⟨rfl, h1, h2, h3⟩ := hv
  obtain ⟨ta, tc, rfl, -, -⟩ := h1.form
  obtain ⟨na, nc, rfl, -, -⟩ := h2.form
  obtain ⟨ca, cc, rfl, -, -⟩ := h3.form
  clear h1 h2 h3
  have HV : Hid (∀ w', Below w.heap.size w w' → NetI w' (.agg #[.int .i64 q.n, .slice ta q.tail.length tc, .slice na q.next.length nc, .slice ca q.cap.length cc]) q (.slice ta q.tail.length tc) (.slice na q.next.length nc) (.slice ca q.cap.length cc)) := hide fun w' hb => hv'.below hb
  have HQ := hide hq
  obtain ⟨P, hP⟩ : ∃ P : Ending → World → Prop, P = fun e w' => ∃ tv nv cv, e = .returned (.agg #[.int .i64 q.n, tv, nv, cv]) ∧ OwnI w' w.heap.size tv q.tail ∧ OwnI w' w.heap.size nv (Sp.turnL q.next) ∧ OwnI w' w.heap.size cv q.cap ∧ Below w.heap.size w w' := ⟨_, rfl⟩
  rw [← hP]
  have HP := hide hP
  have Hw := hide hw
  clear hv' hw hq hP
  go_enter Try.func21, Try.ntmps21
  go_wp2_with fail
  go_at_call 48
  have HB2 := BoxAt.start w q.n (.slice ta q.tail.length tc) (.slice na q.next.length nc) (.slice ca q.cap.length cc) 0
  have HC1 := rwalkable_any q _ _ _ _ _ (unhide HV _ HB2.bel)
  rw [unhide Hw] at HC1
  refine (show Calls _ _ _ _ _ from HC1).mono ?_
  clear HC1
  rintro e w3 ⟨rfl, hb3⟩
  have HB3 := hide (HB2.below hb3)
  clear hb3 HB2
  obtain ⟨F, hF⟩ := make_runs q.next.length (by rw [(unhide HQ).nx]; exact (unhide HQ).big)
  have hF1 := fun w => (hF w).1
  have hF2 := hide fun w => (hF w).2.1
  have hF3 := fun w => (hF w).2.2
  clear hF
  obtain ⟨x0, x1, x2, x3, -⟩ := obj_cells (unhide HB3).b1
  go_upto_region 3 with fail
  go_cut [3] (fun s wx => ∃ g gn vT vC, s = .pointer (some ⟨g, 0, none⟩) ∧ TurnAt w wx g gn q (.slice ta q.tail.length tc) (.slice na q.next.length nc) (.slice ca q.cap.length cc) vT vC (List.replicate q.next.length 0))
  case first =>
    have HX1 := hide ((unhide HB3).below (Below.refl _ _).drew)
    have HS : Hid (∀ w', Below w3.drew.heap.size w3.drew w' → w'.cell? ⟨w.heap.size, 0, none⟩ = some (.int .i64 q.n) ∧ w'.cell? ⟨w.heap.size, 1, none⟩ = some (.slice ta q.tail.length tc) ∧ w'.cell? ⟨w.heap.size, 2, none⟩ = some (.slice na q.next.length nc) ∧ w'.cell? ⟨w.heap.size, 3, none⟩ = some (.slice ca q.cap.length cc)) := by
      refine hide fun w' hb => ?_
      have h := (unhide HX1).below hb
      obtain ⟨x0, x1, x2, x3, -⟩ := obj_cells h.b1
      exact ⟨x0, x1, x2, x3⟩
    have HU : Hid (∀ w', Below w3.drew.heap.size w3.drew w' → Ints w' (.slice ta q.tail.length tc) q.tail ∧ Ints w' (.slice ca q.cap.length cc) q.cap ∧ q.tail.length ≤ 240 ∧ q.cap.length ≤ 240) := by
      refine hide fun w' hb => ?_
      have h := (unhide HX1).below hb
      have hn := unhide HV _ h.bel
      exact ⟨hn.tail, hn.cap, (unhide HQ).big, by rw [(unhide HQ).cp]; exact (unhide HQ).big⟩
    have hW3 : BoxAt w w3.drew q.n (.slice ta q.tail.length tc) (.slice na q.next.length nc) (.slice ca q.cap.length cc) := unhide HX1
    have hsz := hW3.size
    refine wp_region_G (fun w' => w'.cell? ⟨w.heap.size, 0, none⟩ = some (.int .i64 q.n) ∧ w'.cell? ⟨w.heap.size, 1, none⟩ = some (.slice ta q.tail.length tc) ∧ w'.cell? ⟨w.heap.size, 2, none⟩ = some (.slice na q.next.length nc) ∧ w'.cell? ⟨w.heap.size, 3, none⟩ = some (.slice ca q.cap.length cc)) (fun i => i == 14) (by kernel_rfl) (unhide HS _ (Below.refl _ _)) (fun hHeld => ?_)
    generalize w3.drew = W3 at *
    have hb0 : Below W3.heap.size W3 W3 := Below.refl _ _
    refine wpAnyG_take (v := ?_) 0 (by rfl) (by kernel_rfl) (by kernel_rfl) (by kernel_rfl) (by kernel_rfl) (fun _ _ _ h => h) (Or.inl ⟨by rfl, ?_⟩) (by assumption) ?_
    rotate_left
    · (intro w' hSw; (try dsimp only at hSw); (try simp only [List.getElem_toArray, List.getElem_cons_zero]); go_simp; try (with_reducible rfl))
    simp only [Act.put, List.getElem_toArray, List.getElem_cons_zero, List.setIfInBounds_toArray, List.set_cons_zero, List.set_cons_succ]
    refine wpAnyG_take (v := ?_) 1 (by rfl) (by kernel_rfl) (by kernel_rfl) (by kernel_rfl) (by kernel_rfl) (fun _ _ _ h => h) (Or.inl ⟨by rfl, ?_⟩) (by assumption) ?_
    rotate_left
    · (intro w' hSw; (try dsimp only at hSw); (try simp only [List.getElem_toArray, List.getElem_cons_succ, List.getElem_cons_zero]); go_simp; try (with_reducible rfl))
    simp only [Act.put, List.getElem_toArray, List.getElem_cons_succ, List.getElem_cons_zero, List.setIfInBounds_toArray, List.set_cons_zero, List.set_cons_succ]
    refine wpAnyG_take (v := ?_) 2 (by rfl) (by kernel_rfl) (by kernel_rfl) (by kernel_rfl) (by kernel_rfl) (fun _ _ _ h => h) (Or.inl ⟨by rfl, ?_⟩) (by assumption) ?_
    rotate_left
    · (intro w' hSw; (try dsimp only at hSw); (try simp only [List.getElem_toArray, List.getElem_cons_succ, List.getElem_cons_zero]); go_simp; try (with_reducible rfl))
    simp only [Act.put, List.getElem_toArray, List.getElem_cons_succ, List.getElem_cons_zero, List.setIfInBounds_toArray, List.set_cons_zero, List.set_cons_succ]
    refine wpAnyG_take (v := ?_) 3 (by rfl) (by kernel_rfl) (by kernel_rfl) (by kernel_rfl) (by kernel_rfl) (fun _ _ _ h => h) (Or.inl ⟨by rfl, ?_⟩) (by assumption) ?_
    rotate_left
    · (intro w' hSw; (try dsimp only at hSw); (try simp only [List.getElem_toArray, List.getElem_cons_succ, List.getElem_cons_zero]); go_simp; try (with_reducible rfl))
    simp only [Act.put, List.getElem_toArray, List.getElem_cons_succ, List.getElem_cons_zero, List.setIfInBounds_toArray, List.set_cons_zero, List.set_cons_succ]
    refine wpAnyG_take (v := ?_) 5 (by rfl) (by kernel_rfl) (by kernel_rfl) (by kernel_rfl) (by kernel_rfl) (fun _ _ _ h => h) (Or.inl ⟨by rfl, ?_⟩) (by assumption) ?_
    rotate_left
    · (intro w' hSw; (try dsimp only at hSw); (try simp only [List.getElem_toArray, List.getElem_cons_succ, List.getElem_cons_zero]); go_simp; try (with_reducible rfl))
    simp only [Act.put, List.getElem_toArray, List.getElem_cons_succ, List.getElem_cons_zero, List.setIfInBounds_toArray, List.set_cons_zero, List.set_cons_succ]
    refine wpAnyG_take (v := ?_) 6 (by rfl) (by kernel_rfl) (by kernel_rfl) (by kernel_rfl) (by kernel_rfl) (fun _ _ _ h => h) (Or.inl ⟨by rfl, ?_⟩) (by assumption) ?_
    rotate_left
    · (intro w' hSw; (try dsimp only at hSw); (try simp only [List.getElem_toArray, List.getElem_cons_succ, List.getElem_cons_zero]); go_simp; try (with_reducible rfl))
    simp only [Act.put, List.getElem_toArray, List.getElem_cons_succ, List.getElem_cons_zero, List.setIfInBounds_toArray, List.set_cons_zero, List.set_cons_succ]
    refine wpAnyG_take (v := ?_) 7 (by rfl) (by kernel_rfl) (by kernel_rfl) (by kernel_rfl) (by kernel_rfl) (fun _ _ _ h => h) (Or.inl ⟨by rfl, ?_⟩) (by assumption) ?_
    rotate_left
    · (intro w' hSw; (try dsimp only at hSw); (try simp only [List.getElem_toArray, List.getElem_cons_succ, List.getElem_cons_zero]); go_simp; try (with_reducible rfl))
    simp only [Act.put, List.getElem_toArray, List.getElem_cons_succ, List.getElem_cons_zero, List.setIfInBounds_toArray, List.set_cons_zero, List.set_cons_succ]
    refine wpAnyG_take (v := ?_) 9 (by rfl) (by kernel_rfl) (by kernel_rfl) (by kernel_rfl) (by kernel_rfl) (fun _ _ _ h => h) (Or.inl ⟨by rfl, ?_⟩) (by assumption) ?_
    rotate_left
    · (intro w' hSw; (try dsimp only at hSw); (try simp only [List.getElem_toArray, List.getElem_cons_succ, List.getElem_cons_zero]); go_simp; try (with_reducible rfl))
    simp only [Act.put, List.getElem_toArray, List.getElem_cons_succ, List.getElem_cons_zero, List.setIfInBounds_toArray, List.set_cons_zero, List.set_cons_succ]
    refine wpAnyG_take (v := ?_) 10 (by rfl) (by kernel_rfl) (by kernel_rfl) (by kernel_rfl) (by kernel_rfl) (fun _ _ _ h => h) (Or.inl ⟨by rfl, ?_⟩) (by assumption) ?_
    rotate_left
    · (intro w' hSw; (try dsimp only at hSw); (try simp only [List.getElem_toArray, List.getElem_cons_succ, List.getElem_cons_zero]); go_simp; try (with_reducible rfl))
    simp only [Act.put, List.getElem_toArray, List.getElem_cons_succ, List.getElem_cons_zero, List.setIfInBounds_toArray, List.set_cons_zero, List.set_cons_succ]
    refine wpAnyG_ready [4, 8, 13] (by kernel_rfl) (by simp) ?_
    refine AllReadyG.cons 4 (by rfl) (fun K hK => ?_) ?_
    · simp only [List.getElem_toArray, List.getElem_cons_succ, List.getElem_cons_zero]
      go_simp
      refine (clone_any q.tail _ W3 (unhide HU W3 hb0).1 (unhide HU W3 hb0).2.2.1).mono ?_
      rintro e w1T ⟨vT, rfl, hT, hx1⟩
      obtain ⟨aT, cT, rfl, -, -⟩ := hT.ints.form
      have hb1T : Below W3.heap.size W3 w1T := hb0.trans (hx1.mono hb0.size)
      replace hT : OwnI w1T W3.heap.size (.slice aT q.tail.length cT) q.tail := own_base hT hb0.size
      clear hx1
      try go_wp2_with fail
      refine hK.out _ _ (unhide HS _ hb1T) (fun _ => ?_)
      clear hK K
      try simp only [Act.put, List.setIfInBounds_toArray, List.set_cons_zero, List.set_cons_succ]
      refine wpAnyG_ready [8, 11, 13] (by kernel_rfl) (by simp) ?_
      refine AllReadyG.cons 8 (by rfl) (fun K hK => ?_) ?_
      · simp only [List.getElem_toArray, List.getElem_cons_succ, List.getElem_cons_zero]
        go_simp
        refine hK.out _ _ (unhide HS _ (hb1T.trans ((hF3 w1T).mono hb1T.size))) (fun _ => ?_)
        clear hK K
        try simp only [Act.put, List.setIfInBounds_toArray, List.set_cons_zero, List.set_cons_succ]
        obtain ⟨gM, hgM⟩ : ∃ g, g = w1T.heap.size := ⟨_, rfl⟩
        rw [← hgM]
        have hM : OwnI (F w1T) w1T.heap.size (.slice (some ⟨gM, 0, none⟩) q.next.length q.next.length) (List.replicate q.next.length 0) := by rw [hgM]; exact unhide hF2 w1T
        have hb2M : Below W3.heap.size W3 (F w1T) := hb1T.trans ((hF3 w1T).mono hb1T.size)
        have hx2 := hF3 w1T
        have nTM : (Value.slice aT q.tail.length cT).ownBlock ≠ some gM := fun e => by have := (hT.lt _ e).2; omega
        replace hM := own_base hM hb1T.size
        replace hT := own_below hT hx2
        clear hx2
        clear hgM
        generalize F w1T = w2M at *
        refine wpAnyG_ready [11, 13] (by kernel_rfl) (by simp) ?_
        refine AllReadyG.cons 11 (by rfl) (fun K hK => ?_) ?_
        · simp only [List.getElem_toArray, List.getElem_cons_succ, List.getElem_cons_zero]
          go_simp
          refine (clone_any q.cap _ w2M (unhide HU w2M hb2M).2.1 (unhide HU w2M hb2M).2.2.2).mono ?_
          rintro e w3C ⟨vC, rfl, hC, hx3⟩
          obtain ⟨aC, cC, rfl, -, -⟩ := hC.ints.form
          have hb3C : Below W3.heap.size W3 w3C := hb2M.trans (hx3.mono hb2M.size)
          have nCM : (Value.slice aC q.cap.length cC).ownBlock ≠ some gM := fun e => by have := (hC.lt _ e).1; have := (hM.lt gM rfl).2; omega
          replace hC : OwnI w3C W3.heap.size (.slice aC q.cap.length cC) q.cap := own_base hC hb2M.size
          replace hT := own_below hT hx3
          replace hM := own_below hM hx3
          clear hx3
          try go_wp2_with fail
          refine hK.out _ _ (unhide HS _ hb3C) (fun _ => ?_)
          clear hK K
          try simp only [Act.put, List.setIfInBounds_toArray, List.set_cons_zero, List.set_cons_succ]
          refine wpAnyG_takeW (v := ?_) 12 (by rfl) (by kernel_rfl) (by kernel_rfl) (by kernel_rfl) (by kernel_rfl) (fun _ _ _ h => h) (Or.inl ⟨by rfl, ?_⟩) (by assumption) ?_
          rotate_left
          · (intro w' hSw; (try dsimp only at hSw); (try simp only [List.getElem_toArray, List.getElem_cons_succ, List.getElem_cons_zero]); go_simp; try (with_reducible rfl))
          simp only [Act.put, List.getElem_toArray, List.getElem_cons_succ, List.getElem_cons_zero, List.setIfInBounds_toArray, List.set_cons_zero, List.set_cons_succ]
          refine wpAnyG_ready [13] (by kernel_rfl) (by simp) ?_
          refine AllReadyG.cons 13 (by rfl) (fun K hK => ?_) ?_
          · simp only [List.getElem_toArray, List.getElem_cons_succ, List.getElem_cons_zero]
            go_simp
            refine hK.out _ _ (unhide HS _ (hb3C.alloc hb3C.size _)) (fun _ => ?_)
            clear hK K
            try simp only [Act.put, List.setIfInBounds_toArray, List.set_cons_zero, List.set_cons_succ]
            obtain ⟨gA, hgA0⟩ : ∃ g, g = w3C.heap.size := ⟨_, rfl⟩
            rw [← hgA0]
            have hA : (w3C.alloc (.cells #[.int .i64 0, .slice none 0 0, .slice none 0 0, .slice none 0 0] 25)).heap[gA]? = some (.cells #[.int .i64 0, .slice none 0 0, .slice none 0 0, .slice none 0 0] 25) := by rw [hgA0]; exact heap_alloc_new w3C (.cells #[.int .i64 0, .slice none 0 0, .slice none 0 0, .slice none 0 0] 25)
            have hb4A : Below W3.heap.size W3 (w3C.alloc (.cells #[.int .i64 0, .slice none 0 0, .slice none 0 0, .slice none 0 0] 25)) := hb3C.alloc hb3C.size _
            have hx4 : Below w3C.heap.size w3C (w3C.alloc (.cells #[.int .i64 0, .slice none 0 0, .slice none 0 0, .slice none 0 0] 25)) := (Below.refl _ _).alloc (Nat.le_refl _) _
            have hgA : W3.heap.size ≤ gA := by rw [hgA0]; exact hb3C.size
            have neT : (Value.slice aT q.tail.length cT).ownBlock ≠ some gA := fun e => by have := (hT.lt _ e).2; omega
            have neM : gM ≠ gA := by have := (hM.lt gM rfl).2; omega
            have neC : (Value.slice aC q.cap.length cC).ownBlock ≠ some gA := fun e => by have := (hC.lt _ e).2; omega
            replace hT := own_below hT hx4
            replace hM := own_below hM hx4
            replace hC := own_below hC hx4
            clear hx4
            clear hgA0
            generalize w3C.alloc (.cells #[.int .i64 0, .slice none 0 0, .slice none 0 0, .slice none 0 0] 25) = w4A at *
            obtain ⟨z0, z1, z2, z3, k0, k1, k2, k3⟩ := obj_cells hA
            refine wpAnyG_ready [14] (by kernel_rfl) (by simp) ?_
            refine AllReadyG.last 14 (by rfl) (by kernel_rfl) (fun K hK => ?_) ?_
            · simp only [List.getElem_toArray, List.getElem_cons_succ, List.getElem_cons_zero]
              go_simp
              refine hK.out _ _ ?_
              clear hK K
              try simp only [Act.put, List.setIfInBounds_toArray, List.set_cons_zero, List.set_cons_succ]
              refine wpAnyG_done (by kernel_rfl) ?_ _
              refine NoPanic.normal ?_
              go_wp2
              go_meet
              exact turn_met hT hM hC hA neT neM neC nTM nCM hb4A hgA hW3
            exact AllReadyG.nil
          exact AllReadyG.nil
        refine AllReadyG.cons 13 (by rfl) (fun K hK => ?_) ?_
        · simp only [List.getElem_toArray, List.getElem_cons_succ, List.getElem_cons_zero]
          go_simp
          refine hK.out _ _ (unhide HS _ (hb2M.alloc hb2M.size _)) (fun _ => ?_)
          clear hK K
          try simp only [Act.put, List.setIfInBounds_toArray, List.set_cons_zero, List.set_cons_succ]
          obtain ⟨gA, hgA0⟩ : ∃ g, g = w2M.heap.size := ⟨_, rfl⟩
          rw [← hgA0]
          have hA : (w2M.alloc (.cells #[.int .i64 0, .slice none 0 0, .slice none 0 0, .slice none 0 0] 25)).heap[gA]? = some (.cells #[.int .i64 0, .slice none 0 0, .slice none 0 0, .slice none 0 0] 25) := by rw [hgA0]; exact heap_alloc_new w2M (.cells #[.int .i64 0, .slice none 0 0, .slice none 0 0, .slice none 0 0] 25)
          have hb3A : Below W3.heap.size W3 (w2M.alloc (.cells #[.int .i64 0, .slice none 0 0, .slice none 0 0, .slice none 0 0] 25)) := hb2M.alloc hb2M.size _
          have hx3 : Below w2M.heap.size w2M (w2M.alloc (.cells #[.int .i64 0, .slice none 0 0, .slice none 0 0, .slice none 0 0] 25)) := (Below.refl _ _).alloc (Nat.le_refl _) _
          have hgA : W3.heap.size ≤ gA := by rw [hgA0]; exact hb2M.size
          have neT : (Value.slice aT q.tail.length cT).ownBlock ≠ some gA := fun e => by have := (hT.lt _ e).2; omega
          have neM : gM ≠ gA := by have := (hM.lt gM rfl).2; omega
          replace hT := own_below hT hx3
          replace hM := own_below hM hx3
          clear hx3
          clear hgA0
          generalize w2M.alloc (.cells #[.int .i64 0, .slice none 0 0, .slice none 0 0, .slice none 0 0] 25) = w3A at *
          refine wpAnyG_ready [11] (by kernel_rfl) (by simp) ?_
          refine AllReadyG.cons 11 (by rfl) (fun K hK => ?_) ?_
          · simp only [List.getElem_toArray, List.getElem_cons_succ, List.getElem_cons_zero]
            go_simp
            refine (clone_any q.cap _ w3A (unhide HU w3A hb3A).2.1 (unhide HU w3A hb3A).2.2.2).mono ?_
            rintro e w4C ⟨vC, rfl, hC, hx4⟩
            obtain ⟨aC, cC, rfl, -, -⟩ := hC.ints.form
            have hb4C : Below W3.heap.size W3 w4C := hb3A.trans (hx4.mono hb3A.size)
            have neC : (Value.slice aC q.cap.length cC).ownBlock ≠ some gA := fun e => by have := (hC.lt _ e).1; have := heap_lt hA; omega
            have nCM : (Value.slice aC q.cap.length cC).ownBlock ≠ some gM := fun e => by have := (hC.lt _ e).1; have := (hM.lt gM rfl).2; omega
            replace hC : OwnI w4C W3.heap.size (.slice aC q.cap.length cC) q.cap := own_base hC hb3A.size
            replace hT := own_below hT hx4
            replace hM := own_below hM hx4
            replace hA := (hx4.block _ (heap_lt hA)).trans hA
            clear hx4
            try go_wp2_with fail
            refine hK.out _ _ (unhide HS _ hb4C) (fun _ => ?_)
            clear hK K
            try simp only [Act.put, List.setIfInBounds_toArray, List.set_cons_zero, List.set_cons_succ]
            refine wpAnyG_takeW (v := ?_) 12 (by rfl) (by kernel_rfl) (by kernel_rfl) (by kernel_rfl) (by kernel_rfl) (fun _ _ _ h => h) (Or.inl ⟨by rfl, ?_⟩) (by assumption) ?_
            rotate_left
            · (intro w' hSw; (try dsimp only at hSw); (try simp only [List.getElem_toArray, List.getElem_cons_succ, List.getElem_cons_zero]); go_simp; try (with_reducible rfl))
            simp only [Act.put, List.getElem_toArray, List.getElem_cons_succ, List.getElem_cons_zero, List.setIfInBounds_toArray, List.set_cons_zero, List.set_cons_succ]
            obtain ⟨z0, z1, z2, z3, k0, k1, k2, k3⟩ := obj_cells hA
            refine wpAnyG_ready [14] (by kernel_rfl) (by simp) ?_
            refine AllReadyG.last 14 (by rfl) (by kernel_rfl) (fun K hK => ?_) ?_
            · simp only [List.getElem_toArray, List.getElem_cons_succ, List.getElem_cons_zero]
              go_simp
              refine hK.out _ _ ?_
              clear hK K
              try simp only [Act.put, List.setIfInBounds_toArray, List.set_cons_zero, List.set_cons_succ]
              refine wpAnyG_done (by kernel_rfl) ?_ _
              refine NoPanic.normal ?_
              go_wp2
              go_meet
              exact turn_met hT hM hC hA neT neM neC nTM nCM hb4C hgA hW3
            exact AllReadyG.nil
          exact AllReadyG.nil
        exact AllReadyG.nil
      refine AllReadyG.cons 11 (by rfl) (fun K hK => ?_) ?_
      · simp only [List.getElem_toArray, List.getElem_cons_succ, List.getElem_cons_zero]
        go_simp
        refine (clone_any q.cap _ w1T (unhide HU w1T hb1T).2.1 (unhide HU w1T hb1T).2.2.2).mono ?_
        rintro e w2C ⟨vC, rfl, hC, hx2⟩
        obtain ⟨aC, cC, rfl, -, -⟩ := hC.ints.form
        have hb2C : Below W3.heap.size W3 w2C := hb1T.trans (hx2.mono hb1T.size)
        replace hC : OwnI w2C W3.heap.size (.slice aC q.cap.length cC) q.cap := own_base hC hb1T.size
        replace hT := own_below hT hx2
        clear hx2
        try go_wp2_with fail
        refine hK.out _ _ (unhide HS _ hb2C) (fun _ => ?_)
        clear hK K
        try simp only [Act.put, List.setIfInBounds_toArray, List.set_cons_zero, List.set_cons_succ]
        refine wpAnyG_ready [8, 13] (by kernel_rfl) (by simp) ?_
        refine AllReadyG.cons 8 (by rfl) (fun K hK => ?_) ?_
        · simp only [List.getElem_toArray, List.getElem_cons_succ, List.getElem_cons_zero]
          go_simp
          refine hK.out _ _ (unhide HS _ (hb2C.trans ((hF3 w2C).mono hb2C.size))) (fun _ => ?_)
          clear hK K
          try simp only [Act.put, List.setIfInBounds_toArray, List.set_cons_zero, List.set_cons_succ]
          obtain ⟨gM, hgM⟩ : ∃ g, g = w2C.heap.size := ⟨_, rfl⟩
          rw [← hgM]
          have hM : OwnI (F w2C) w2C.heap.size (.slice (some ⟨gM, 0, none⟩) q.next.length q.next.length) (List.replicate q.next.length 0) := by rw [hgM]; exact unhide hF2 w2C
          have hb3M : Below W3.heap.size W3 (F w2C) := hb2C.trans ((hF3 w2C).mono hb2C.size)
          have hx3 := hF3 w2C
          have nTM : (Value.slice aT q.tail.length cT).ownBlock ≠ some gM := fun e => by have := (hT.lt _ e).2; omega
          have nCM : (Value.slice aC q.cap.length cC).ownBlock ≠ some gM := fun e => by have := (hC.lt _ e).2; omega
          replace hM := own_base hM hb2C.size
          replace hT := own_below hT hx3
          replace hC := own_below hC hx3
          clear hx3
          clear hgM
          generalize F w2C = w3M at *
          refine wpAnyG_takeW (v := ?_) 12 (by rfl) (by kernel_rfl) (by kernel_rfl) (by kernel_rfl) (by kernel_rfl) (fun _ _ _ h => h) (Or.inl ⟨by rfl, ?_⟩) (by assumption) ?_
          rotate_left
          · (intro w' hSw; (try dsimp only at hSw); (try simp only [List.getElem_toArray, List.getElem_cons_succ, List.getElem_cons_zero]); go_simp; try (with_reducible rfl))
          simp only [Act.put, List.getElem_toArray, List.getElem_cons_succ, List.getElem_cons_zero, List.setIfInBounds_toArray, List.set_cons_zero, List.set_cons_succ]
          refine wpAnyG_ready [13] (by kernel_rfl) (by simp) ?_
          refine AllReadyG.cons 13 (by rfl) (fun K hK => ?_) ?_
          · simp only [List.getElem_toArray, List.getElem_cons_succ, List.getElem_cons_zero]
            go_simp
            refine hK.out _ _ (unhide HS _ (hb3M.alloc hb3M.size _)) (fun _ => ?_)
            clear hK K
            try simp only [Act.put, List.setIfInBounds_toArray, List.set_cons_zero, List.set_cons_succ]
            obtain ⟨gA, hgA0⟩ : ∃ g, g = w3M.heap.size := ⟨_, rfl⟩
            rw [← hgA0]
            have hA : (w3M.alloc (.cells #[.int .i64 0, .slice none 0 0, .slice none 0 0, .slice none 0 0] 25)).heap[gA]? = some (.cells #[.int .i64 0, .slice none 0 0, .slice none 0 0, .slice none 0 0] 25) := by rw [hgA0]; exact heap_alloc_new w3M (.cells #[.int .i64 0, .slice none 0 0, .slice none 0 0, .slice none 0 0] 25)
            have hb4A : Below W3.heap.size W3 (w3M.alloc (.cells #[.int .i64 0, .slice none 0 0, .slice none 0 0, .slice none 0 0] 25)) := hb3M.alloc hb3M.size _
            have hx4 : Below w3M.heap.size w3M (w3M.alloc (.cells #[.int .i64 0, .slice none 0 0, .slice none 0 0, .slice none 0 0] 25)) := (Below.refl _ _).alloc (Nat.le_refl _) _
            have hgA : W3.heap.size ≤ gA := by rw [hgA0]; exact hb3M.size
            have neT : (Value.slice aT q.tail.length cT).ownBlock ≠ some gA := fun e => by have := (hT.lt _ e).2; omega
            have neC : (Value.slice aC q.cap.length cC).ownBlock ≠ some gA := fun e => by have := (hC.lt _ e).2; omega
            have neM : gM ≠ gA := by have := (hM.lt gM rfl).2; omega
            replace hT := own_below hT hx4
            replace hC := own_below hC hx4
            replace hM := own_below hM hx4
            clear hx4
            clear hgA0
            generalize w3M.alloc (.cells #[.int .i64 0, .slice none 0 0, .slice none 0 0, .slice none 0 0] 25) = w4A at *
            obtain ⟨z0, z1, z2, z3, k0, k1, k2, k3⟩ := obj_cells hA
            refine wpAnyG_ready [14] (by kernel_rfl) (by simp) ?_
            refine AllReadyG.last 14 (by rfl) (by kernel_rfl) (fun K hK => ?_) ?_
            · simp only [List.getElem_toArray, List.getElem_cons_succ, List.getElem_cons_zero]
              go_simp
              refine hK.out _ _ ?_
              clear hK K
              try simp only [Act.put, List.setIfInBounds_toArray, List.set_cons_zero, List.set_cons_succ]
              refine wpAnyG_done (by kernel_rfl) ?_ _
              refine NoPanic.normal ?_
              go_wp2
              go_meet
              exact turn_met hT hM hC hA neT neM neC nTM nCM hb4A hgA hW3
            exact AllReadyG.nil
          exact AllReadyG.nil
        refine AllReadyG.cons 13 (by rfl) (fun K hK => ?_) ?_
        · simp only [List.getElem_toArray, List.getElem_cons_succ, List.getElem_cons_zero]
          go_simp
          refine hK.out _ _ (unhide HS _ (hb2C.alloc hb2C.size _)) (fun _ => ?_)
          clear hK K
          try simp only [Act.put, List.setIfInBounds_toArray, List.set_cons_zero, List.set_cons_succ]
          obtain ⟨gA, hgA0⟩ : ∃ g, g = w2C.heap.size := ⟨_, rfl⟩
          rw [← hgA0]
          have hA : (w2C.alloc (.cells #[.int .i64 0, .slice none 0 0, .slice none 0 0, .slice none 0 0] 25)).heap[gA]? = some (.cells #[.int .i64 0, .slice none 0 0, .slice none 0 0, .slice none 0 0] 25) := by rw [hgA0]; exact heap_alloc_new w2C (.cells #[.int .i64 0, .slice none 0 0, .slice none 0 0, .slice none 0 0] 25)
          have hb3A : Below W3.heap.size W3 (w2C.alloc (.cells #[.int .i64 0, .slice none 0 0, .slice none 0 0, .slice none 0 0] 25)) := hb2C.alloc hb2C.size _
          have hx3 : Below w2C.heap.size w2C (w2C.alloc (.cells #[.int .i64 0, .slice none 0 0, .slice none 0 0, .slice none 0 0] 25)) := (Below.refl _ _).alloc (Nat.le_refl _) _
          have hgA : W3.heap.size ≤ gA := by rw [hgA0]; exact hb2C.size
          have neT : (Value.slice aT q.tail.length cT).ownBlock ≠ some gA := fun e => by have := (hT.lt _ e).2; omega
          have neC : (Value.slice aC q.cap.length cC).ownBlock ≠ some gA := fun e => by have := (hC.lt _ e).2; omega
          replace hT := own_below hT hx3
          replace hC := own_below hC hx3
          clear hx3
          clear hgA0
          generalize w2C.alloc (.cells #[.int .i64 0, .slice none 0 0, .slice none 0 0, .slice none 0 0] 25) = w3A at *
          refine wpAnyG_ready [8] (by kernel_rfl) (by simp) ?_
          refine AllReadyG.cons 8 (by rfl) (fun K hK => ?_) ?_
          · simp only [List.getElem_toArray, List.getElem_cons_succ, List.getElem_cons_zero]
            go_simp
            refine hK.out _ _ (unhide HS _ (hb3A.trans ((hF3 w3A).mono hb3A.size))) (fun _ => ?_)
            clear hK K
            try simp only [Act.put, List.setIfInBounds_toArray, List.set_cons_zero, List.set_cons_succ]
            obtain ⟨gM, hgM⟩ : ∃ g, g = w3A.heap.size := ⟨_, rfl⟩
            rw [← hgM]
            have hM : OwnI (F w3A) w3A.heap.size (.slice (some ⟨gM, 0, none⟩) q.next.length q.next.length) (List.replicate q.next.length 0) := by rw [hgM]; exact unhide hF2 w3A
            have hb4M : Below W3.heap.size W3 (F w3A) := hb3A.trans ((hF3 w3A).mono hb3A.size)
            have hx4 := hF3 w3A
            have nTM : (Value.slice aT q.tail.length cT).ownBlock ≠ some gM := fun e => by have := (hT.lt _ e).2; omega
            have nCM : (Value.slice aC q.cap.length cC).ownBlock ≠ some gM := fun e => by have := (hC.lt _ e).2; omega
            have neM : gM ≠ gA := by have := heap_lt hA; omega
            replace hM := own_base hM hb3A.size
            replace hT := own_below hT hx4
            replace hC := own_below hC hx4
            replace hA := (hx4.block _ (heap_lt hA)).trans hA
            clear hx4
            clear hgM
            generalize F w3A = w4M at *
            refine wpAnyG_takeW (v := ?_) 12 (by rfl) (by kernel_rfl) (by kernel_rfl) (by kernel_rfl) (by kernel_rfl) (fun _ _ _ h => h) (Or.inl ⟨by rfl, ?_⟩) (by assumption) ?_
            rotate_left
            · (intro w' hSw; (try dsimp only at hSw); (try simp only [List.getElem_toArray, List.getElem_cons_succ, List.getElem_cons_zero]); go_simp; try (with_reducible rfl))
            simp only [Act.put, List.getElem_toArray, List.getElem_cons_succ, List.getElem_cons_zero, List.setIfInBounds_toArray, List.set_cons_zero, List.set_cons_succ]
            obtain ⟨z0, z1, z2, z3, k0, k1, k2, k3⟩ := obj_cells hA
            refine wpAnyG_ready [14] (by kernel_rfl) (by simp) ?_
            refine AllReadyG.last 14 (by rfl) (by kernel_rfl) (fun K hK => ?_) ?_
            · simp only [List.getElem_toArray, List.getElem_cons_succ, List.getElem_cons_zero]
              go_simp
              refine hK.out _ _ ?_
              clear hK K
              try simp only [Act.put, List.setIfInBounds_toArray, List.set_cons_zero, List.set_cons_succ]
              refine wpAnyG_done (by kernel_rfl) ?_ _
              refine NoPanic.normal ?_
              go_wp2
              go_meet
              exact turn_met hT hM hC hA neT neM neC nTM nCM hb4M hgA hW3
            exact AllReadyG.nil
          exact AllReadyG.nil
        exact AllReadyG.nil
      refine AllReadyG.cons 13 (by rfl) (fun K hK => ?_) ?_
      · simp only [List.getElem_toArray, List.getElem_cons_succ, List.getElem_cons_zero]
        go_simp
        refine hK.out _ _ (unhide HS _ (hb1T.alloc hb1T.size _)) (fun _ => ?_)
        clear hK K
        try simp only [Act.put, List.setIfInBounds_toArray, List.set_cons_zero, List.set_cons_succ]
        obtain ⟨gA, hgA0⟩ : ∃ g, g = w1T.heap.size := ⟨_, rfl⟩
        rw [← hgA0]
        have hA : (w1T.alloc (.cells #[.int .i64 0, .slice none 0 0, .slice none 0 0, .slice none 0 0] 25)).heap[gA]? = some (.cells #[.int .i64 0, .slice none 0 0, .slice none 0 0, .slice none 0 0] 25) := by rw [hgA0]; exact heap_alloc_new w1T (.cells #[.int .i64 0, .slice none 0 0, .slice none 0 0, .slice none 0 0] 25)
        have hb2A : Below W3.heap.size W3 (w1T.alloc (.cells #[.int .i64 0, .slice none 0 0, .slice none 0 0, .slice none 0 0] 25)) := hb1T.alloc hb1T.size _
        have hx2 : Below w1T.heap.size w1T (w1T.alloc (.cells #[.int .i64 0, .slice none 0 0, .slice none 0 0, .slice none 0 0] 25)) := (Below.refl _ _).alloc (Nat.le_refl _) _
        have hgA : W3.heap.size ≤ gA := by rw [hgA0]; exact hb1T.size
        have neT : (Value.slice aT q.tail.length cT).ownBlock ≠ some gA := fun e => by have := (hT.lt _ e).2; omega
        replace hT := own_below hT hx2
        clear hx2
        clear hgA0
        generalize w1T.alloc (.cells #[.int .i64 0, .slice none 0 0, .slice none 0 0, .slice none 0 0] 25) = w2A at *
        refine wpAnyG_ready [8, 11] (by kernel_rfl) (by simp) ?_
        refine AllReadyG.cons 8 (by rfl) (fun K hK => ?_) ?_
        · simp only [List.getElem_toArray, List.getElem_cons_succ, List.getElem_cons_zero]
          go_simp
          refine hK.out _ _ (unhide HS _ (hb2A.trans ((hF3 w2A).mono hb2A.size))) (fun _ => ?_)
          clear hK K
          try simp only [Act.put, List.setIfInBounds_toArray, List.set_cons_zero, List.set_cons_succ]
          obtain ⟨gM, hgM⟩ : ∃ g, g = w2A.heap.size := ⟨_, rfl⟩
          rw [← hgM]
          have hM : OwnI (F w2A) w2A.heap.size (.slice (some ⟨gM, 0, none⟩) q.next.length q.next.length) (List.replicate q.next.length 0) := by rw [hgM]; exact unhide hF2 w2A
          have hb3M : Below W3.heap.size W3 (F w2A) := hb2A.trans ((hF3 w2A).mono hb2A.size)
          have hx3 := hF3 w2A
          have nTM : (Value.slice aT q.tail.length cT).ownBlock ≠ some gM := fun e => by have := (hT.lt _ e).2; omega
          have neM : gM ≠ gA := by have := heap_lt hA; omega
          replace hM := own_base hM hb2A.size
          replace hT := own_below hT hx3
          replace hA := (hx3.block _ (heap_lt hA)).trans hA
          clear hx3
          clear hgM
          generalize F w2A = w3M at *
          refine wpAnyG_ready [11] (by kernel_rfl) (by simp) ?_
          refine AllReadyG.cons 11 (by rfl) (fun K hK => ?_) ?_
          · simp only [List.getElem_toArray, List.getElem_cons_succ, List.getElem_cons_zero]
            go_simp
            refine (clone_any q.cap _ w3M (unhide HU w3M hb3M).2.1 (unhide HU w3M hb3M).2.2.2).mono ?_
            rintro e w4C ⟨vC, rfl, hC, hx4⟩
            obtain ⟨aC, cC, rfl, -, -⟩ := hC.ints.form
            have hb4C : Below W3.heap.size W3 w4C := hb3M.trans (hx4.mono hb3M.size)
            have neC : (Value.slice aC q.cap.length cC).ownBlock ≠ some gA := fun e => by have := (hC.lt _ e).1; have := heap_lt hA; omega
            have nCM : (Value.slice aC q.cap.length cC).ownBlock ≠ some gM := fun e => by have := (hC.lt _ e).1; have := (hM.lt gM rfl).2; omega
            replace hC : OwnI w4C W3.heap.size (.slice aC q.cap.length cC) q.cap := own_base hC hb3M.size
            replace hT := own_below hT hx4
            replace hA := (hx4.block _ (heap_lt hA)).trans hA
            replace hM := own_below hM hx4
            clear hx4
            try go_wp2_with fail
            refine hK.out _ _ (unhide HS _ hb4C) (fun _ => ?_)
            clear hK K
            try simp only [Act.put, List.setIfInBounds_toArray, List.set_cons_zero, List.set_cons_succ]
            refine wpAnyG_takeW (v := ?_) 12 (by rfl) (by kernel_rfl) (by kernel_rfl) (by kernel_rfl) (by kernel_rfl) (fun _ _ _ h => h) (Or.inl ⟨by rfl, ?_⟩) (by assumption) ?_
            rotate_left
            · (intro w' hSw; (try dsimp only at hSw); (try simp only [List.getElem_toArray, List.getElem_cons_succ, List.getElem_cons_zero]); go_simp; try (with_reducible rfl))
            simp only [Act.put, List.getElem_toArray, List.getElem_cons_succ, List.getElem_cons_zero, List.setIfInBounds_toArray, List.set_cons_zero, List.set_cons_succ]
            obtain ⟨z0, z1, z2, z3, k0, k1, k2, k3⟩ := obj_cells hA
            refine wpAnyG_ready [14] (by kernel_rfl) (by simp) ?_
            refine AllReadyG.last 14 (by rfl) (by kernel_rfl) (fun K hK => ?_) ?_
            · simp only [List.getElem_toArray, List.getElem_cons_succ, List.getElem_cons_zero]
              go_simp
              refine hK.out _ _ ?_
              clear hK K
              try simp only [Act.put, List.setIfInBounds_toArray, List.set_cons_zero, List.set_cons_succ]
              refine wpAnyG_done (by kernel_rfl) ?_ _
              refine NoPanic.normal ?_
              go_wp2
              go_meet
              exact turn_met hT hM hC hA neT neM neC nTM nCM hb4C hgA hW3
            exact AllReadyG.nil
          exact AllReadyG.nil
        refine AllReadyG.cons 11 (by rfl) (fun K hK => ?_) ?_
        · simp only [List.getElem_toArray, List.getElem_cons_succ, List.getElem_cons_zero]
          go_simp
          refine (clone_any q.cap _ w2A (unhide HU w2A hb2A).2.1 (unhide HU w2A hb2A).2.2.2).mono ?_
          rintro e w3C ⟨vC, rfl, hC, hx3⟩
          obtain ⟨aC, cC, rfl, -, -⟩ := hC.ints.form
          have hb3C : Below W3.heap.size W3 w3C := hb2A.trans (hx3.mono hb2A.size)
          have neC : (Value.slice aC q.cap.length cC).ownBlock ≠ some gA := fun e => by have := (hC.lt _ e).1; have := heap_lt hA; omega
          replace hC : OwnI w3C W3.heap.size (.slice aC q.cap.length cC) q.cap := own_base hC hb2A.size
          replace hT := own_below hT hx3
          replace hA := (hx3.block _ (heap_lt hA)).trans hA
          clear hx3
          try go_wp2_with fail
          refine hK.out _ _ (unhide HS _ hb3C) (fun _ => ?_)
          clear hK K
          try simp only [Act.put, List.setIfInBounds_toArray, List.set_cons_zero, List.set_cons_succ]
          refine wpAnyG_ready [8] (by kernel_rfl) (by simp) ?_
          refine AllReadyG.cons 8 (by rfl) (fun K hK => ?_) ?_
          · simp only [List.getElem_toArray, List.getElem_cons_succ, List.getElem_cons_zero]
            go_simp
            refine hK.out _ _ (unhide HS _ (hb3C.trans ((hF3 w3C).mono hb3C.size))) (fun _ => ?_)
            clear hK K
            try simp only [Act.put, List.setIfInBounds_toArray, List.set_cons_zero, List.set_cons_succ]
            obtain ⟨gM, hgM⟩ : ∃ g, g = w3C.heap.size := ⟨_, rfl⟩
            rw [← hgM]
            have hM : OwnI (F w3C) w3C.heap.size (.slice (some ⟨gM, 0, none⟩) q.next.length q.next.length) (List.replicate q.next.length 0) := by rw [hgM]; exact unhide hF2 w3C
            have hb4M : Below W3.heap.size W3 (F w3C) := hb3C.trans ((hF3 w3C).mono hb3C.size)
            have hx4 := hF3 w3C
            have nTM : (Value.slice aT q.tail.length cT).ownBlock ≠ some gM := fun e => by have := (hT.lt _ e).2; omega
            have nCM : (Value.slice aC q.cap.length cC).ownBlock ≠ some gM := fun e => by have := (hC.lt _ e).2; omega
            have neM : gM ≠ gA := by have := heap_lt hA; omega
            replace hM := own_base hM hb3C.size
            replace hT := own_below hT hx4
            replace hA := (hx4.block _ (heap_lt hA)).trans hA
            replace hC := own_below hC hx4
            clear hx4
            clear hgM
            generalize F w3C = w4M at *
            refine wpAnyG_takeW (v := ?_) 12 (by rfl) (by kernel_rfl) (by kernel_rfl) (by kernel_rfl) (by kernel_rfl) (fun _ _ _ h => h) (Or.inl ⟨by rfl, ?_⟩) (by assumption) ?_
            rotate_left
            · (intro w' hSw; (try dsimp only at hSw); (try simp only [List.getElem_toArray, List.getElem_cons_succ, List.getElem_cons_zero]); go_simp; try (with_reducible rfl))
            simp only [Act.put, List.getElem_toArray, List.getElem_cons_succ, List.getElem_cons_zero, List.setIfInBounds_toArray, List.set_cons_zero, List.set_cons_succ]
            obtain ⟨z0, z1, z2, z3, k0, k1, k2, k3⟩ := obj_cells hA
            refine wpAnyG_ready [14] (by kernel_rfl) (by simp) ?_
            refine AllReadyG.last 14 (by rfl) (by kernel_rfl) (fun K hK => ?_) ?_
            · simp only [List.getElem_toArray, List.getElem_cons_succ, List.getElem_cons_zero]
              go_simp
              refine hK.out _ _ ?_
              clear hK K
              try simp only [Act.put, List.setIfInBounds_toArray, List.set_cons_zero, List.set_cons_succ]
              refine wpAnyG_done (by kernel_rfl) ?_ _
              refine NoPanic.normal ?_
              go_wp2
              go_meet
              exact turn_met hT hM hC hA neT neM neC nTM nCM hb4M hgA hW3
            exact AllReadyG.nil
          exact AllReadyG.nil
        exact AllReadyG.nil
      exact AllReadyG.nil
    refine AllReadyG.cons 8 (by rfl) (fun K hK => ?_) ?_
    · simp only [List.getElem_toArray, List.getElem_cons_succ, List.getElem_cons_zero]
      go_simp
      refine hK.out _ _ (unhide HS _ (hb0.trans ((hF3 W3).mono hb0.size))) (fun _ => ?_)
      clear hK K
      try simp only [Act.put, List.setIfInBounds_toArray, List.set_cons_zero, List.set_cons_succ]
      obtain ⟨gM, hgM⟩ : ∃ g, g = W3.heap.size := ⟨_, rfl⟩
      rw [← hgM]
      have hM : OwnI (F W3) W3.heap.size (.slice (some ⟨gM, 0, none⟩) q.next.length q.next.length) (List.replicate q.next.length 0) := by rw [hgM]; exact unhide hF2 W3
      have hb1M : Below W3.heap.size W3 (F W3) := hb0.trans ((hF3 W3).mono hb0.size)
      have hx1 := hF3 W3
      replace hM := own_base hM hb0.size
      clear hx1
      clear hgM
      generalize F W3 = w1M at *
      refine wpAnyG_ready [4, 13] (by kernel_rfl) (by simp) ?_
      refine AllReadyG.cons 4 (by rfl) (fun K hK => ?_) ?_
      · simp only [List.getElem_toArray, List.getElem_cons_succ, List.getElem_cons_zero]
        go_simp
        refine (clone_any q.tail _ w1M (unhide HU w1M hb1M).1 (unhide HU w1M hb1M).2.2.1).mono ?_
        rintro e w2T ⟨vT, rfl, hT, hx2⟩
        obtain ⟨aT, cT, rfl, -, -⟩ := hT.ints.form
        have hb2T : Below W3.heap.size W3 w2T := hb1M.trans (hx2.mono hb1M.size)
        have nTM : (Value.slice aT q.tail.length cT).ownBlock ≠ some gM := fun e => by have := (hT.lt _ e).1; have := (hM.lt gM rfl).2; omega
        replace hT : OwnI w2T W3.heap.size (.slice aT q.tail.length cT) q.tail := own_base hT hb1M.size
        replace hM := own_below hM hx2
        clear hx2
        try go_wp2_with fail
        refine hK.out _ _ (unhide HS _ hb2T) (fun _ => ?_)
        clear hK K
        try simp only [Act.put, List.setIfInBounds_toArray, List.set_cons_zero, List.set_cons_succ]
        refine wpAnyG_ready [11, 13] (by kernel_rfl) (by simp) ?_
        refine AllReadyG.cons 11 (by rfl) (fun K hK => ?_) ?_
        · simp only [List.getElem_toArray, List.getElem_cons_succ, List.getElem_cons_zero]
          go_simp
          refine (clone_any q.cap _ w2T (unhide HU w2T hb2T).2.1 (unhide HU w2T hb2T).2.2.2).mono ?_
          rintro e w3C ⟨vC, rfl, hC, hx3⟩
          obtain ⟨aC, cC, rfl, -, -⟩ := hC.ints.form
          have hb3C : Below W3.heap.size W3 w3C := hb2T.trans (hx3.mono hb2T.size)
          have nCM : (Value.slice aC q.cap.length cC).ownBlock ≠ some gM := fun e => by have := (hC.lt _ e).1; have := (hM.lt gM rfl).2; omega
          replace hC : OwnI w3C W3.heap.size (.slice aC q.cap.length cC) q.cap := own_base hC hb2T.size
          replace hM := own_below hM hx3
          replace hT := own_below hT hx3
          clear hx3
          try go_wp2_with fail
          refine hK.out _ _ (unhide HS _ hb3C) (fun _ => ?_)
          clear hK K
          try simp only [Act.put, List.setIfInBounds_toArray, List.set_cons_zero, List.set_cons_succ]
          refine wpAnyG_takeW (v := ?_) 12 (by rfl) (by kernel_rfl) (by kernel_rfl) (by kernel_rfl) (by kernel_rfl) (fun _ _ _ h => h) (Or.inl ⟨by rfl, ?_⟩) (by assumption) ?_
          rotate_left
          · (intro w' hSw; (try dsimp only at hSw); (try simp only [List.getElem_toArray, List.getElem_cons_succ, List.getElem_cons_zero]); go_simp; try (with_reducible rfl))
          simp only [Act.put, List.getElem_toArray, List.getElem_cons_succ, List.getElem_cons_zero, List.setIfInBounds_toArray, List.set_cons_zero, List.set_cons_succ]
          refine wpAnyG_ready [13] (by kernel_rfl) (by simp) ?_
          refine AllReadyG.cons 13 (by rfl) (fun K hK => ?_) ?_
          · simp only [List.getElem_toArray, List.getElem_cons_succ, List.getElem_cons_zero]
            go_simp
            refine hK.out _ _ (unhide HS _ (hb3C.alloc hb3C.size _)) (fun _ => ?_)
            clear hK K
            try simp only [Act.put, List.setIfInBounds_toArray, List.set_cons_zero, List.set_cons_succ]
            obtain ⟨gA, hgA0⟩ : ∃ g, g = w3C.heap.size := ⟨_, rfl⟩
            rw [← hgA0]
            have hA : (w3C.alloc (.cells #[.int .i64 0, .slice none 0 0, .slice none 0 0, .slice none 0 0] 25)).heap[gA]? = some (.cells #[.int .i64 0, .slice none 0 0, .slice none 0 0, .slice none 0 0] 25) := by rw [hgA0]; exact heap_alloc_new w3C (.cells #[.int .i64 0, .slice none 0 0, .slice none 0 0, .slice none 0 0] 25)
            have hb4A : Below W3.heap.size W3 (w3C.alloc (.cells #[.int .i64 0, .slice none 0 0, .slice none 0 0, .slice none 0 0] 25)) := hb3C.alloc hb3C.size _
            have hx4 : Below w3C.heap.size w3C (w3C.alloc (.cells #[.int .i64 0, .slice none 0 0, .slice none 0 0, .slice none 0 0] 25)) := (Below.refl _ _).alloc (Nat.le_refl _) _
            have hgA : W3.heap.size ≤ gA := by rw [hgA0]; exact hb3C.size
            have neM : gM ≠ gA := by have := (hM.lt gM rfl).2; omega
            have neT : (Value.slice aT q.tail.length cT).ownBlock ≠ some gA := fun e => by have := (hT.lt _ e).2; omega
            have neC : (Value.slice aC q.cap.length cC).ownBlock ≠ some gA := fun e => by have := (hC.lt _ e).2; omega
            replace hM := own_below hM hx4
            replace hT := own_below hT hx4
            replace hC := own_below hC hx4
            clear hx4
            clear hgA0
            generalize w3C.alloc (.cells #[.int .i64 0, .slice none 0 0, .slice none 0 0, .slice none 0 0] 25) = w4A at *
            obtain ⟨z0, z1, z2, z3, k0, k1, k2, k3⟩ := obj_cells hA
            refine wpAnyG_ready [14] (by kernel_rfl) (by simp) ?_
            refine AllReadyG.last 14 (by rfl) (by kernel_rfl) (fun K hK => ?_) ?_
            · simp only [List.getElem_toArray, List.getElem_cons_succ, List.getElem_cons_zero]
              go_simp
              refine hK.out _ _ ?_
              clear hK K
              try simp only [Act.put, List.setIfInBounds_toArray, List.set_cons_zero, List.set_cons_succ]
              refine wpAnyG_done (by kernel_rfl) ?_ _
              refine NoPanic.normal ?_
              go_wp2
              go_meet
              exact turn_met hT hM hC hA neT neM neC nTM nCM hb4A hgA hW3
            exact AllReadyG.nil
          exact AllReadyG.nil
        refine AllReadyG.cons 13 (by rfl) (fun K hK => ?_) ?_
        · simp only [List.getElem_toArray, List.getElem_cons_succ, List.getElem_cons_zero]
          go_simp
          refine hK.out _ _ (unhide HS _ (hb2T.alloc hb2T.size _)) (fun _ => ?_)
          clear hK K
          try simp only [Act.put, List.setIfInBounds_toArray, List.set_cons_zero, List.set_cons_succ]
          obtain ⟨gA, hgA0⟩ : ∃ g, g = w2T.heap.size := ⟨_, rfl⟩
          rw [← hgA0]
          have hA : (w2T.alloc (.cells #[.int .i64 0, .slice none 0 0, .slice none 0 0, .slice none 0 0] 25)).heap[gA]? = some (.cells #[.int .i64 0, .slice none 0 0, .slice none 0 0, .slice none 0 0] 25) := by rw [hgA0]; exact heap_alloc_new w2T (.cells #[.int .i64 0, .slice none 0 0, .slice none 0 0, .slice none 0 0] 25)
          have hb3A : Below W3.heap.size W3 (w2T.alloc (.cells #[.int .i64 0, .slice none 0 0, .slice none 0 0, .slice none 0 0] 25)) := hb2T.alloc hb2T.size _
          have hx3 : Below w2T.heap.size w2T (w2T.alloc (.cells #[.int .i64 0, .slice none 0 0, .slice none 0 0, .slice none 0 0] 25)) := (Below.refl _ _).alloc (Nat.le_refl _) _
          have hgA : W3.heap.size ≤ gA := by rw [hgA0]; exact hb2T.size
          have neM : gM ≠ gA := by have := (hM.lt gM rfl).2; omega
          have neT : (Value.slice aT q.tail.length cT).ownBlock ≠ some gA := fun e => by have := (hT.lt _ e).2; omega
          replace hM := own_below hM hx3
          replace hT := own_below hT hx3
          clear hx3
          clear hgA0
          generalize w2T.alloc (.cells #[.int .i64 0, .slice none 0 0, .slice none 0 0, .slice none 0 0] 25) = w3A at *
          refine wpAnyG_ready [11] (by kernel_rfl) (by simp) ?_
          refine AllReadyG.cons 11 (by rfl) (fun K hK => ?_) ?_
          · simp only [List.getElem_toArray, List.getElem_cons_succ, List.getElem_cons_zero]
            go_simp
            refine (clone_any q.cap _ w3A (unhide HU w3A hb3A).2.1 (unhide HU w3A hb3A).2.2.2).mono ?_
            rintro e w4C ⟨vC, rfl, hC, hx4⟩
            obtain ⟨aC, cC, rfl, -, -⟩ := hC.ints.form
            have hb4C : Below W3.heap.size W3 w4C := hb3A.trans (hx4.mono hb3A.size)
            have neC : (Value.slice aC q.cap.length cC).ownBlock ≠ some gA := fun e => by have := (hC.lt _ e).1; have := heap_lt hA; omega
            have nCM : (Value.slice aC q.cap.length cC).ownBlock ≠ some gM := fun e => by have := (hC.lt _ e).1; have := (hM.lt gM rfl).2; omega
            replace hC : OwnI w4C W3.heap.size (.slice aC q.cap.length cC) q.cap := own_base hC hb3A.size
            replace hM := own_below hM hx4
            replace hT := own_below hT hx4
            replace hA := (hx4.block _ (heap_lt hA)).trans hA
            clear hx4
            try go_wp2_with fail
            refine hK.out _ _ (unhide HS _ hb4C) (fun _ => ?_)
            clear hK K
            try simp only [Act.put, List.setIfInBounds_toArray, List.set_cons_zero, List.set_cons_succ]
            refine wpAnyG_takeW (v := ?_) 12 (by rfl) (by kernel_rfl) (by kernel_rfl) (by kernel_rfl) (by kernel_rfl) (fun _ _ _ h => h) (Or.inl ⟨by rfl, ?_⟩) (by assumption) ?_
            rotate_left
            · (intro w' hSw; (try dsimp only at hSw); (try simp only [List.getElem_toArray, List.getElem_cons_succ, List.getElem_cons_zero]); go_simp; try (with_reducible rfl))
            simp only [Act.put, List.getElem_toArray, List.getElem_cons_succ, List.getElem_cons_zero, List.setIfInBounds_toArray, List.set_cons_zero, List.set_cons_succ]
            obtain ⟨z0, z1, z2, z3, k0, k1, k2, k3⟩ := obj_cells hA
            refine wpAnyG_ready [14] (by kernel_rfl) (by simp) ?_
            refine AllReadyG.last 14 (by rfl) (by kernel_rfl) (fun K hK => ?_) ?_
            · simp only [List.getElem_toArray, List.getElem_cons_succ, List.getElem_cons_zero]
              go_simp
              refine hK.out _ _ ?_
              clear hK K
              try simp only [Act.put, List.setIfInBounds_toArray, List.set_cons_zero, List.set_cons_succ]
              refine wpAnyG_done (by kernel_rfl) ?_ _
              refine NoPanic.normal ?_
              go_wp2
              go_meet
              exact turn_met hT hM hC hA neT neM neC nTM nCM hb4C hgA hW3
            exact AllReadyG.nil
          exact AllReadyG.nil
        exact AllReadyG.nil
      refine AllReadyG.cons 13 (by rfl) (fun K hK => ?_) ?_
      · simp only [List.getElem_toArray, List.getElem_cons_succ, List.getElem_cons_zero]
        go_simp
        refine hK.out _ _ (unhide HS _ (hb1M.alloc hb1M.size _)) (fun _ => ?_)
        clear hK K
        try simp only [Act.put, List.setIfInBounds_toArray, List.set_cons_zero, List.set_cons_succ]
        obtain ⟨gA, hgA0⟩ : ∃ g, g = w1M.heap.size := ⟨_, rfl⟩
        rw [← hgA0]
        have hA : (w1M.alloc (.cells #[.int .i64 0, .slice none 0 0, .slice none 0 0, .slice none 0 0] 25)).heap[gA]? = some (.cells #[.int .i64 0, .slice none 0 0, .slice none 0 0, .slice none 0 0] 25) := by rw [hgA0]; exact heap_alloc_new w1M (.cells #[.int .i64 0, .slice none 0 0, .slice none 0 0, .slice none 0 0] 25)
        have hb2A : Below W3.heap.size W3 (w1M.alloc (.cells #[.int .i64 0, .slice none 0 0, .slice none 0 0, .slice none 0 0] 25)) := hb1M.alloc hb1M.size _
        have hx2 : Below w1M.heap.size w1M (w1M.alloc (.cells #[.int .i64 0, .slice none 0 0, .slice none 0 0, .slice none 0 0] 25)) := (Below.refl _ _).alloc (Nat.le_refl _) _
        have hgA : W3.heap.size ≤ gA := by rw [hgA0]; exact hb1M.size
        have neM : gM ≠ gA := by have := (hM.lt gM rfl).2; omega
        replace hM := own_below hM hx2
        clear hx2
        clear hgA0
        generalize w1M.alloc (.cells #[.int .i64 0, .slice none 0 0, .slice none 0 0, .slice none 0 0] 25) = w2A at *
        refine wpAnyG_ready [4] (by kernel_rfl) (by simp) ?_
        refine AllReadyG.cons 4 (by rfl) (fun K hK => ?_) ?_
        · simp only [List.getElem_toArray, List.getElem_cons_succ, List.getElem_cons_zero]
          go_simp
          refine (clone_any q.tail _ w2A (unhide HU w2A hb2A).1 (unhide HU w2A hb2A).2.2.1).mono ?_
          rintro e w3T ⟨vT, rfl, hT, hx3⟩
          obtain ⟨aT, cT, rfl, -, -⟩ := hT.ints.form
          have hb3T : Below W3.heap.size W3 w3T := hb2A.trans (hx3.mono hb2A.size)
          have neT : (Value.slice aT q.tail.length cT).ownBlock ≠ some gA := fun e => by have := (hT.lt _ e).1; have := heap_lt hA; omega
          have nTM : (Value.slice aT q.tail.length cT).ownBlock ≠ some gM := fun e => by have := (hT.lt _ e).1; have := (hM.lt gM rfl).2; omega
          replace hT : OwnI w3T W3.heap.size (.slice aT q.tail.length cT) q.tail := own_base hT hb2A.size
          replace hM := own_below hM hx3
          replace hA := (hx3.block _ (heap_lt hA)).trans hA
          clear hx3
          try go_wp2_with fail
          refine hK.out _ _ (unhide HS _ hb3T) (fun _ => ?_)
          clear hK K
          try simp only [Act.put, List.setIfInBounds_toArray, List.set_cons_zero, List.set_cons_succ]
          refine wpAnyG_ready [11] (by kernel_rfl) (by simp) ?_
          refine AllReadyG.cons 11 (by rfl) (fun K hK => ?_) ?_
          · simp only [List.getElem_toArray, List.getElem_cons_succ, List.getElem_cons_zero]
            go_simp
            refine (clone_any q.cap _ w3T (unhide HU w3T hb3T).2.1 (unhide HU w3T hb3T).2.2.2).mono ?_
            rintro e w4C ⟨vC, rfl, hC, hx4⟩
            obtain ⟨aC, cC, rfl, -, -⟩ := hC.ints.form
            have hb4C : Below W3.heap.size W3 w4C := hb3T.trans (hx4.mono hb3T.size)
            have neC : (Value.slice aC q.cap.length cC).ownBlock ≠ some gA := fun e => by have := (hC.lt _ e).1; have := heap_lt hA; omega
            have nCM : (Value.slice aC q.cap.length cC).ownBlock ≠ some gM := fun e => by have := (hC.lt _ e).1; have := (hM.lt gM rfl).2; omega
            replace hC : OwnI w4C W3.heap.size (.slice aC q.cap.length cC) q.cap := own_base hC hb3T.size
            replace hM := own_below hM hx4
            replace hA := (hx4.block _ (heap_lt hA)).trans hA
            replace hT := own_below hT hx4
            clear hx4
            try go_wp2_with fail
            refine hK.out _ _ (unhide HS _ hb4C) (fun _ => ?_)
            clear hK K
            try simp only [Act.put, List.setIfInBounds_toArray, List.set_cons_zero, List.set_cons_succ]
            refine wpAnyG_takeW (v := ?_) 12 (by rfl) (by kernel_rfl) (by kernel_rfl) (by kernel_rfl) (by kernel_rfl) (fun _ _ _ h => h) (Or.inl ⟨by rfl, ?_⟩) (by assumption) ?_
            rotate_left
            · (intro w' hSw; (try dsimp only at hSw); (try simp only [List.getElem_toArray, List.getElem_cons_succ, List.getElem_cons_zero]); go_simp; try (with_reducible rfl))
            simp only [Act.put, List.getElem_toArray, List.getElem_cons_succ, List.getElem_cons_zero, List.setIfInBounds_toArray, List.set_cons_zero, List.set_cons_succ]
            obtain ⟨z0, z1, z2, z3, k0, k1, k2, k3⟩ := obj_cells hA
            refine wpAnyG_ready [14] (by kernel_rfl) (by simp) ?_
            refine AllReadyG.last 14 (by rfl) (by kernel_rfl) (fun K hK => ?_) ?_
            · simp only [List.getElem_toArray, List.getElem_cons_succ, List.getElem_cons_zero]
              go_simp
              refine hK.out _ _ ?_
              clear hK K
              try simp only [Act.put, List.setIfInBounds_toArray, List.set_cons_zero, List.set_cons_succ]
              refine wpAnyG_done (by kernel_rfl) ?_ _
              refine NoPanic.normal ?_
              go_wp2
              go_meet
              exact turn_met hT hM hC hA neT neM neC nTM nCM hb4C hgA hW3
            exact AllReadyG.nil
          exact AllReadyG.nil
        exact AllReadyG.nil
      exact AllReadyG.nil
    refine AllReadyG.cons 13 (by rfl) (fun K hK => ?_) ?_
    · simp only [List.getElem_toArray, List.getElem_cons_succ, List.getElem_cons_zero]
      go_simp
      refine hK.out _ _ (unhide HS _ (hb0.alloc hb0.size _)) (fun _ => ?_)
      clear hK K
      try simp only [Act.put, List.setIfInBounds_toArray, List.set_cons_zero, List.set_cons_succ]
      obtain ⟨gA, hgA0⟩ : ∃ g, g = W3.heap.size := ⟨_, rfl⟩
      rw [← hgA0]
      have hA : (W3.alloc (.cells #[.int .i64 0, .slice none 0 0, .slice none 0 0, .slice none 0 0] 25)).heap[gA]? = some (.cells #[.int .i64 0, .slice none 0 0, .slice none 0 0, .slice none 0 0] 25) := by rw [hgA0]; exact heap_alloc_new W3 (.cells #[.int .i64 0, .slice none 0 0, .slice none 0 0, .slice none 0 0] 25)
      have hb1A : Below W3.heap.size W3 (W3.alloc (.cells #[.int .i64 0, .slice none 0 0, .slice none 0 0, .slice none 0 0] 25)) := hb0.alloc hb0.size _
      have hx1 : Below W3.heap.size W3 (W3.alloc (.cells #[.int .i64 0, .slice none 0 0, .slice none 0 0, .slice none 0 0] 25)) := (Below.refl _ _).alloc (Nat.le_refl _) _
      have hgA : W3.heap.size ≤ gA := by rw [hgA0]; exact hb0.size
      clear hx1
      clear hgA0
      generalize W3.alloc (.cells #[.int .i64 0, .slice none 0 0, .slice none 0 0, .slice none 0 0] 25) = w1A at *
      refine wpAnyG_ready [4, 8] (by kernel_rfl) (by simp) ?_
      refine AllReadyG.cons 4 (by rfl) (fun K hK => ?_) ?_
      · simp only [List.getElem_toArray, List.getElem_cons_succ, List.getElem_cons_zero]
        go_simp
        refine (clone_any q.tail _ w1A (unhide HU w1A hb1A).1 (unhide HU w1A hb1A).2.2.1).mono ?_
        rintro e w2T ⟨vT, rfl, hT, hx2⟩
        obtain ⟨aT, cT, rfl, -, -⟩ := hT.ints.form
        have hb2T : Below W3.heap.size W3 w2T := hb1A.trans (hx2.mono hb1A.size)
        have neT : (Value.slice aT q.tail.length cT).ownBlock ≠ some gA := fun e => by have := (hT.lt _ e).1; have := heap_lt hA; omega
        replace hT : OwnI w2T W3.heap.size (.slice aT q.tail.length cT) q.tail := own_base hT hb1A.size
        replace hA := (hx2.block _ (heap_lt hA)).trans hA
        clear hx2
        try go_wp2_with fail
        refine hK.out _ _ (unhide HS _ hb2T) (fun _ => ?_)
        clear hK K
        try simp only [Act.put, List.setIfInBounds_toArray, List.set_cons_zero, List.set_cons_succ]
        refine wpAnyG_ready [8, 11] (by kernel_rfl) (by simp) ?_
        refine AllReadyG.cons 8 (by rfl) (fun K hK => ?_) ?_
        · simp only [List.getElem_toArray, List.getElem_cons_succ, List.getElem_cons_zero]
          go_simp
          refine hK.out _ _ (unhide HS _ (hb2T.trans ((hF3 w2T).mono hb2T.size))) (fun _ => ?_)
          clear hK K
          try simp only [Act.put, List.setIfInBounds_toArray, List.set_cons_zero, List.set_cons_succ]
          obtain ⟨gM, hgM⟩ : ∃ g, g = w2T.heap.size := ⟨_, rfl⟩
          rw [← hgM]
          have hM : OwnI (F w2T) w2T.heap.size (.slice (some ⟨gM, 0, none⟩) q.next.length q.next.length) (List.replicate q.next.length 0) := by rw [hgM]; exact unhide hF2 w2T
          have hb3M : Below W3.heap.size W3 (F w2T) := hb2T.trans ((hF3 w2T).mono hb2T.size)
          have hx3 := hF3 w2T
          have nTM : (Value.slice aT q.tail.length cT).ownBlock ≠ some gM := fun e => by have := (hT.lt _ e).2; omega
          have neM : gM ≠ gA := by have := heap_lt hA; omega
          replace hM := own_base hM hb2T.size
          replace hA := (hx3.block _ (heap_lt hA)).trans hA
          replace hT := own_below hT hx3
          clear hx3
          clear hgM
          generalize F w2T = w3M at *
          refine wpAnyG_ready [11] (by kernel_rfl) (by simp) ?_
          refine AllReadyG.cons 11 (by rfl) (fun K hK => ?_) ?_
          · simp only [List.getElem_toArray, List.getElem_cons_succ, List.getElem_cons_zero]
            go_simp
            refine (clone_any q.cap _ w3M (unhide HU w3M hb3M).2.1 (unhide HU w3M hb3M).2.2.2).mono ?_
            rintro e w4C ⟨vC, rfl, hC, hx4⟩
            obtain ⟨aC, cC, rfl, -, -⟩ := hC.ints.form
            have hb4C : Below W3.heap.size W3 w4C := hb3M.trans (hx4.mono hb3M.size)
            have neC : (Value.slice aC q.cap.length cC).ownBlock ≠ some gA := fun e => by have := (hC.lt _ e).1; have := heap_lt hA; omega
            have nCM : (Value.slice aC q.cap.length cC).ownBlock ≠ some gM := fun e => by have := (hC.lt _ e).1; have := (hM.lt gM rfl).2; omega
            replace hC : OwnI w4C W3.heap.size (.slice aC q.cap.length cC) q.cap := own_base hC hb3M.size
            replace hA := (hx4.block _ (heap_lt hA)).trans hA
            replace hT := own_below hT hx4
            replace hM := own_below hM hx4
            clear hx4
            try go_wp2_with fail
            refine hK.out _ _ (unhide HS _ hb4C) (fun _ => ?_)
            clear hK K
            try simp only [Act.put, List.setIfInBounds_toArray, List.set_cons_zero, List.set_cons_succ]
            refine wpAnyG_takeW (v := ?_) 12 (by rfl) (by kernel_rfl) (by kernel_rfl) (by kernel_rfl) (by kernel_rfl) (fun _ _ _ h => h) (Or.inl ⟨by rfl, ?_⟩) (by assumption) ?_
            rotate_left
            · (intro w' hSw; (try dsimp only at hSw); (try simp only [List.getElem_toArray, List.getElem_cons_succ, List.getElem_cons_zero]); go_simp; try (with_reducible rfl))
            simp only [Act.put, List.getElem_toArray, List.getElem_cons_succ, List.getElem_cons_zero, List.setIfInBounds_toArray, List.set_cons_zero, List.set_cons_succ]
            obtain ⟨z0, z1, z2, z3, k0, k1, k2, k3⟩ := obj_cells hA
            refine wpAnyG_ready [14] (by kernel_rfl) (by simp) ?_
            refine AllReadyG.last 14 (by rfl) (by kernel_rfl) (fun K hK => ?_) ?_
            · simp only [List.getElem_toArray, List.getElem_cons_succ, List.getElem_cons_zero]
              go_simp
              refine hK.out _ _ ?_
              clear hK K
              try simp only [Act.put, List.setIfInBounds_toArray, List.set_cons_zero, List.set_cons_succ]
              refine wpAnyG_done (by kernel_rfl) ?_ _
              refine NoPanic.normal ?_
              go_wp2
              go_meet
              exact turn_met hT hM hC hA neT neM neC nTM nCM hb4C hgA hW3
            exact AllReadyG.nil
          exact AllReadyG.nil
        refine AllReadyG.cons 11 (by rfl) (fun K hK => ?_) ?_
        · simp only [List.getElem_toArray, List.getElem_cons_succ, List.getElem_cons_zero]
          go_simp
          refine (clone_any q.cap _ w2T (unhide HU w2T hb2T).2.1 (unhide HU w2T hb2T).2.2.2).mono ?_
          rintro e w3C ⟨vC, rfl, hC, hx3⟩
          obtain ⟨aC, cC, rfl, -, -⟩ := hC.ints.form
          have hb3C : Below W3.heap.size W3 w3C := hb2T.trans (hx3.mono hb2T.size)
          have neC : (Value.slice aC q.cap.length cC).ownBlock ≠ some gA := fun e => by have := (hC.lt _ e).1; have := heap_lt hA; omega
          replace hC : OwnI w3C W3.heap.size (.slice aC q.cap.length cC) q.cap := own_base hC hb2T.size
          replace hA := (hx3.block _ (heap_lt hA)).trans hA
          replace hT := own_below hT hx3
          clear hx3
          try go_wp2_with fail
          refine hK.out _ _ (unhide HS _ hb3C) (fun _ => ?_)
          clear hK K
          try simp only [Act.put, List.setIfInBounds_toArray, List.set_cons_zero, List.set_cons_succ]
          refine wpAnyG_ready [8] (by kernel_rfl) (by simp) ?_
          refine AllReadyG.cons 8 (by rfl) (fun K hK => ?_) ?_
          · simp only [List.getElem_toArray, List.getElem_cons_succ, List.getElem_cons_zero]
            go_simp
            refine hK.out _ _ (unhide HS _ (hb3C.trans ((hF3 w3C).mono hb3C.size))) (fun _ => ?_)
            clear hK K
            try simp only [Act.put, List.setIfInBounds_toArray, List.set_cons_zero, List.set_cons_succ]
            obtain ⟨gM, hgM⟩ : ∃ g, g = w3C.heap.size := ⟨_, rfl⟩
            rw [← hgM]
            have hM : OwnI (F w3C) w3C.heap.size (.slice (some ⟨gM, 0, none⟩) q.next.length q.next.length) (List.replicate q.next.length 0) := by rw [hgM]; exact unhide hF2 w3C
            have hb4M : Below W3.heap.size W3 (F w3C) := hb3C.trans ((hF3 w3C).mono hb3C.size)
            have hx4 := hF3 w3C
            have nTM : (Value.slice aT q.tail.length cT).ownBlock ≠ some gM := fun e => by have := (hT.lt _ e).2; omega
            have nCM : (Value.slice aC q.cap.length cC).ownBlock ≠ some gM := fun e => by have := (hC.lt _ e).2; omega
            have neM : gM ≠ gA := by have := heap_lt hA; omega
            replace hM := own_base hM hb3C.size
            replace hA := (hx4.block _ (heap_lt hA)).trans hA
            replace hT := own_below hT hx4
            replace hC := own_below hC hx4
            clear hx4
            clear hgM
            generalize F w3C = w4M at *
            refine wpAnyG_takeW (v := ?_) 12 (by rfl) (by kernel_rfl) (by kernel_rfl) (by kernel_rfl) (by kernel_rfl) (fun _ _ _ h => h) (Or.inl ⟨by rfl, ?_⟩) (by assumption) ?_
            rotate_left
            · (intro w' hSw; (try dsimp only at hSw); (try simp only [List.getElem_toArray, List.getElem_cons_succ, List.getElem_cons_zero]); go_simp; try (with_reducible rfl))
            simp only [Act.put, List.getElem_toArray, List.getElem_cons_succ, List.getElem_cons_zero, List.setIfInBounds_toArray, List.set_cons_zero, List.set_cons_succ]
            obtain ⟨z0, z1, z2, z3, k0, k1, k2, k3⟩ := obj_cells hA
            refine wpAnyG_ready [14] (by kernel_rfl) (by simp) ?_
            refine AllReadyG.last 14 (by rfl) (by kernel_rfl) (fun K hK => ?_) ?_
            · simp only [List.getElem_toArray, List.getElem_cons_succ, List.getElem_cons_zero]
              go_simp
              refine hK.out _ _ ?_
              clear hK K
              try simp only [Act.put, List.setIfInBounds_toArray, List.set_cons_zero, List.set_cons_succ]
              refine wpAnyG_done (by kernel_rfl) ?_ _
              refine NoPanic.normal ?_
              go_wp2
              go_meet
              exact turn_met hT hM hC hA neT neM neC nTM nCM hb4M hgA hW3
            exact AllReadyG.nil
          exact AllReadyG.nil
        exact AllReadyG.nil
      refine AllReadyG.cons 8 (by rfl) (fun K hK => ?_) ?_
      · simp only [List.getElem_toArray, List.getElem_cons_succ, List.getElem_cons_zero]
        go_simp
        refine hK.out _ _ (unhide HS _ (hb1A.trans ((hF3 w1A).mono hb1A.size))) (fun _ => ?_)
        clear hK K
        try simp only [Act.put, List.setIfInBounds_toArray, List.set_cons_zero, List.set_cons_succ]
        obtain ⟨gM, hgM⟩ : ∃ g, g = w1A.heap.size := ⟨_, rfl⟩
        rw [← hgM]
        have hM : OwnI (F w1A) w1A.heap.size (.slice (some ⟨gM, 0, none⟩) q.next.length q.next.length) (List.replicate q.next.length 0) := by rw [hgM]; exact unhide hF2 w1A
        have hb2M : Below W3.heap.size W3 (F w1A) := hb1A.trans ((hF3 w1A).mono hb1A.size)
        have hx2 := hF3 w1A
        have neM : gM ≠ gA := by have := heap_lt hA; omega
        replace hM := own_base hM hb1A.size
        replace hA := (hx2.block _ (heap_lt hA)).trans hA
        clear hx2
        clear hgM
        generalize F w1A = w2M at *
        refine wpAnyG_ready [4] (by kernel_rfl) (by simp) ?_
        refine AllReadyG.cons 4 (by rfl) (fun K hK => ?_) ?_
        · simp only [List.getElem_toArray, List.getElem_cons_succ, List.getElem_cons_zero]
          go_simp
          refine (clone_any q.tail _ w2M (unhide HU w2M hb2M).1 (unhide HU w2M hb2M).2.2.1).mono ?_
          rintro e w3T ⟨vT, rfl, hT, hx3⟩
          obtain ⟨aT, cT, rfl, -, -⟩ := hT.ints.form
          have hb3T : Below W3.heap.size W3 w3T := hb2M.trans (hx3.mono hb2M.size)
          have neT : (Value.slice aT q.tail.length cT).ownBlock ≠ some gA := fun e => by have := (hT.lt _ e).1; have := heap_lt hA; omega
          have nTM : (Value.slice aT q.tail.length cT).ownBlock ≠ some gM := fun e => by have := (hT.lt _ e).1; have := (hM.lt gM rfl).2; omega
          replace hT : OwnI w3T W3.heap.size (.slice aT q.tail.length cT) q.tail := own_base hT hb2M.size
          replace hA := (hx3.block _ (heap_lt hA)).trans hA
          replace hM := own_below hM hx3
          clear hx3
          try go_wp2_with fail
          refine hK.out _ _ (unhide HS _ hb3T) (fun _ => ?_)
          clear hK K
          try simp only [Act.put, List.setIfInBounds_toArray, List.set_cons_zero, List.set_cons_succ]
          refine wpAnyG_ready [11] (by kernel_rfl) (by simp) ?_
          refine AllReadyG.cons 11 (by rfl) (fun K hK => ?_) ?_
          · simp only [List.getElem_toArray, List.getElem_cons_succ, List.getElem_cons_zero]
            go_simp
            refine (clone_any q.cap _ w3T (unhide HU w3T hb3T).2.1 (unhide HU w3T hb3T).2.2.2).mono ?_
            rintro e w4C ⟨vC, rfl, hC, hx4⟩
            obtain ⟨aC, cC, rfl, -, -⟩ := hC.ints.form
            have hb4C : Below W3.heap.size W3 w4C := hb3T.trans (hx4.mono hb3T.size)
            have neC : (Value.slice aC q.cap.length cC).ownBlock ≠ some gA := fun e => by have := (hC.lt _ e).1; have := heap_lt hA; omega
            have nCM : (Value.slice aC q.cap.length cC).ownBlock ≠ some gM := fun e => by have := (hC.lt _ e).1; have := (hM.lt gM rfl).2; omega
            replace hC : OwnI w4C W3.heap.size (.slice aC q.cap.length cC) q.cap := own_base hC hb3T.size
            replace hA := (hx4.block _ (heap_lt hA)).trans hA
            replace hM := own_below hM hx4
            replace hT := own_below hT hx4
            clear hx4
            try go_wp2_with fail
            refine hK.out _ _ (unhide HS _ hb4C) (fun _ => ?_)
            clear hK K
            try simp only [Act.put, List.setIfInBounds_toArray, List.set_cons_zero, List.set_cons_succ]
            refine wpAnyG_takeW (v := ?_) 12 (by rfl) (by kernel_rfl) (by kernel_rfl) (by kernel_rfl) (by kernel_rfl) (fun _ _ _ h => h) (Or.inl ⟨by rfl, ?_⟩) (by assumption) ?_
            rotate_left
            · (intro w' hSw; (try dsimp only at hSw); (try simp only [List.getElem_toArray, List.getElem_cons_succ, List.getElem_cons_zero]); go_simp; try (with_reducible rfl))
            simp only [Act.put, List.getElem_toArray, List.getElem_cons_succ, List.getElem_cons_zero, List.setIfInBounds_toArray, List.set_cons_zero, List.set_cons_succ]
            obtain ⟨z0, z1, z2, z3, k0, k1, k2, k3⟩ := obj_cells hA
            refine wpAnyG_ready [14] (by kernel_rfl) (by simp) ?_
            refine AllReadyG.last 14 (by rfl) (by kernel_rfl) (fun K hK => ?_) ?_
            · simp only [List.getElem_toArray, List.getElem_cons_succ, List.getElem_cons_zero]
              go_simp
              refine hK.out _ _ ?_
              clear hK K
              try simp only [Act.put, List.setIfInBounds_toArray, List.set_cons_zero, List.set_cons_succ]
              refine wpAnyG_done (by kernel_rfl) ?_ _
              refine NoPanic.normal ?_
              go_wp2
              go_meet
              exact turn_met hT hM hC hA neT neM neC nTM nCM hb4C hgA hW3
            exact AllReadyG.nil
          exact AllReadyG.nil
        exact AllReadyG.nil
      exact AllReadyG.nil
    exact AllReadyG.nil
  case rest =>
    obtain ⟨g, gn, vT, vC, rfl, hcut⟩ := hcut
    obtain ⟨aT, cT, rfl, -, -⟩ := hcut.ot.ints.form
    obtain ⟨aC, cC, rfl, -, -⟩ := hcut.oc.ints.form
    have HC0 := hide hcut
    obtain ⟨x0, x1, x2, x3, -⟩ := obj_cells hcut.box.b1
    have HTL : Hid (Sp.turnL q.next = Sp.invGo q.next q.next.length 0 (List.replicate q.next.length 0)) := hide rfl
    clear hcut hF1 hF2 hF3 HB3 x0 x1 x3
    obtain ⟨R, hR⟩ : ∃ R, R = Sp.turnL q.next := ⟨_, rfl⟩
    rw [← hR] at HTL HP
    clear hR
    go_wp2
    go_loopg [26] q.next.length (fun gh i wr => ∃ (k : Nat) (L : List Int), k + gh = q.next.length ∧ i = .int .i64 (k : Int) ∧ Hid (L.length = q.next.length ∧ TurnAt w wr g gn q (.slice ta q.tail.length tc) (.slice na q.next.length nc) (.slice ca q.cap.length cc) (.slice aT q.tail.length cT) (.slice aC q.cap.length cC) L ∧ R = Sp.invGo q.next gh k L))
    case atStart => exact ⟨0, _, by omega, rfl, hide ⟨List.length_replicate, unhide HC0, unhide HTL⟩⟩
    case round =>
      clear HC0 HTL x2
      obtain ⟨k, L, hkg, rfl, HI⟩ := hrel
      have hbig : q.next.length ≤ 240 := by rw [(unhide HQ).nx]; exact (unhide HQ).big
      cases gk with
      | zero =>
        obtain rfl : k = q.next.length := by omega
        have HF : Hid (R = L) := hide (unhide HI).2.2
        obtain ⟨x0, x1, x2, x3, -⟩ := obj_cells (unhide HI).2.1.ob
        obtain ⟨y0, y1, y2, y3, f0, f1, f2, f3⟩ := obj_cells (unhide HI).2.1.box.b2
        go_wp2
        have hfin := box_done (unhide HI).2.1.box q.n (.slice aT q.tail.length cT) (.slice (some ⟨gn, 0, none⟩) q.next.length q.next.length) (.slice aC q.cap.length cC)
        have HT' := four_own (unhide HI).2.1.ot (show w.heap.size + 1 < w.heap.size + 2 by omega) q.n (.slice aT q.tail.length cT) (.slice (some ⟨gn, 0, none⟩) q.next.length q.next.length) (.slice aC q.cap.length cC)
        have HN' := four_own (unhide HI).2.1.own (show w.heap.size + 1 < w.heap.size + 2 by omega) q.n (.slice aT q.tail.length cT) (.slice (some ⟨gn, 0, none⟩) q.next.length q.next.length) (.slice aC q.cap.length cC)
        have HC' := four_own (unhide HI).2.1.oc (show w.heap.size + 1 < w.heap.size + 2 by omega) q.n (.slice aT q.tail.length cT) (.slice (some ⟨gn, 0, none⟩) q.next.length q.next.length) (.slice aC q.cap.length cC)
        have hbl' := four_below (unhide HI).2.1.box.bel w.heap.size rfl q.n (.slice aT q.tail.length cT) (.slice (some ⟨gn, 0, none⟩) q.next.length q.next.length) (.slice aC q.cap.length cC)
        clear x0 x1 x2 x3 y0 y1 y2 y3 f0 f1 f2 f3
        generalize (((wr.setCell ⟨w.heap.size + 1, 0, none⟩ (.int .i64 q.n)).setCell ⟨w.heap.size + 1, 1, none⟩ (.slice aT q.tail.length cT)).setCell ⟨w.heap.size + 1, 2, none⟩ (.slice (some ⟨gn, 0, none⟩) q.next.length q.next.length)).setCell ⟨w.heap.size + 1, 3, none⟩ (.slice aC q.cap.length cC) = WF at *
        obtain ⟨r0, r1, r2, r3, -, -, -, -⟩ := obj_cells hfin
        refine bodyPost_ret (v := .agg #[.int .i64 q.n, .slice aT q.tail.length cT, .slice (some ⟨gn, 0, none⟩) q.next.length q.next.length, .slice aC q.cap.length cC]) (by simp [results, Try.results21, go_sem, r0, r1, r2, r3]) rfl ?_
        rw [unhide HP]
        exact ⟨_, _, _, rfl, own_base HT' (by omega), by rw [unhide HF]; exact own_base HN' (by omega), own_base HC' (by omega), hbl'⟩
      | succ g' =>
        have hlt : k < q.next.length := by omega
        have hltI : (k : Int) < (q.next.length : Int) := by omega
        have HN := hide (unhide HV _ (unhide HI).2.1.box.bel).next
        obtain ⟨b, o, c, hna, hc1, -⟩ := (unhide HN).cellAt (Below.refl _ _) k hlt
        injection hna with hna1 hna2 hna3
        subst hna1 hna3
        have hbd := (unhide HQ).nb q.next[k] (List.getElem_mem hlt)
        have HG : Hid (q.next.getD k 0 = q.next[k]) := hide (Sp.getD_eq _ _ hlt)
        generalize q.next[k] = z at *
        obtain ⟨x, rfl⟩ : ∃ x : Nat, z = (x : Int) := ⟨z.toNat, by omega⟩
        have hxn : x < q.next.length := by omega
        have hxI : (x : Int) < (q.next.length : Int) := by omega
        obtain ⟨x0, x1, x2, x3, -⟩ := obj_cells (unhide HI).2.1.ob
        have c1 := own_cell (unhide HI).2.1.own x (by rw [(unhide HI).1]; exact hxn)
        have f1 := own_frozen (unhide HI).2.1.own x
        generalize L[x]'_ = lz at *
        have HR : Hid (R = Sp.invGo q.next g' (k + 1) (L.set x k)) := hide (by rw [(unhide HI).2.2, Sp.invGo, unhide HG, Int.toNat_natCast])
        clear hbd hna2 HN
        go_wp2
        go_roundg g'
        case rel => exact ⟨k + 1, L.set x k, by omega, by go_num, hide ⟨by rw [List.length_set]; exact (unhide HI).1, (unhide HI).2.1.put x k, unhide HR⟩⟩
        case measure => omega
end Go.Proofs.Ytcdpgiklmonabaa


