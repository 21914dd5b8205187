/- What the proof needs, part 7. -/
import Derived.WalkMore
import Derived.Scope
import Derived.Test.YtoegjnolccabjaaL6
/- Package dual: meshOf. -/
namespace Go.Proofs.Ytoegjnolccabjaa
open Go Go.RowKit

theorem obj_cells6 {w : World} {p : Nat} {a b c d e f : Value} {t : TypeId} (h : w.heap[p]? = some (.cells #[a, b, c, d, e, f] t (0, 0))) :
    (w.cell? ⟨p, 0, none⟩ = some a ∧ w.cell? ⟨p, 1, none⟩ = some b ∧ w.cell? ⟨p, 2, none⟩ = some c ∧ w.cell? ⟨p, 3, none⟩ = some d ∧ w.cell? ⟨p, 4, none⟩ = some e ∧ w.cell? ⟨p, 5, none⟩ = some f) ∧
      w.frozen? ⟨p, 0, none⟩ = false ∧ w.frozen? ⟨p, 1, none⟩ = false ∧ w.frozen? ⟨p, 2, none⟩ = false ∧ w.frozen? ⟨p, 3, none⟩ = false ∧ w.frozen? ⟨p, 4, none⟩ = false ∧ w.frozen? ⟨p, 5, none⟩ = false := by
  simp [World.cell?, World.frozen?, h]
theorem six_cells {wx : World} {p : Nat} {t : TypeId} {a0 a1 a2 a3 a4 a5 : Value} (h : wx.heap[p]? = some (.cells #[a0, a1, a2, a3, a4, a5] t (0, 0))) (b0 b1 b2 b3 b4 b5 : Value) :
    ((((((wx.setCell ⟨p, 0, none⟩ b0).setCell ⟨p, 1, none⟩ b1).setCell ⟨p, 2, none⟩ b2).setCell ⟨p, 3, none⟩ b3).setCell ⟨p, 4, none⟩ b4).setCell ⟨p, 5, none⟩ b5).heap[p]? = some (.cells #[b0, b1, b2, b3, b4, b5] t (0, 0)) := by
  rw [heap_setCell_same _ p 5 _ _ _ (by rw [heap_setCell_same _ p 4 _ _ _ (by rw [heap_setCell_same _ p 3 _ _ _ (by rw [heap_setCell_same _ p 2 _ _ _ (by rw [heap_setCell_same _ p 1 _ _ _ (by rw [heap_setCell_same _ p 0 _ _ _ h])])])])])]
  rfl
theorem six_own {wx : World} {p base : Nat} {v : Value} {l : List Int} (h : OwnI wx base v l) (hp : p < base) (b0 b1 b2 b3 b4 b5 : Value) : OwnI ((((((wx.setCell ⟨p, 0, none⟩ b0).setCell ⟨p, 1, none⟩ b1).setCell ⟨p, 2, none⟩ b2).setCell ⟨p, 3, none⟩ b3).setCell ⟨p, 4, none⟩ b4).setCell ⟨p, 5, none⟩ b5) base v l :=
  own_store (own_store (own_store (own_store (own_store (own_store h hp 0 b0) hp 1 b1) hp 2 b2) hp 3 b3) hp 4 b4) hp 5 b5
theorem six_below {w0 wx : World} {p base : Nat} (h : Below base w0 wx) (hp : base ≤ p) (b0 b1 b2 b3 b4 b5 : Value) : Below base w0 ((((((wx.setCell ⟨p, 0, none⟩ b0).setCell ⟨p, 1, none⟩ b1).setCell ⟨p, 2, none⟩ b2).setCell ⟨p, 3, none⟩ b3).setCell ⟨p, 4, none⟩ b4).setCell ⟨p, 5, none⟩ b5) :=
  (((((h.setCell (by exact hp) _).setCell (by exact hp) _).setCell (by exact hp) _).setCell (by exact hp) _).setCell (by exact hp) _).setCell (by exact hp) _
/-- A mesh that is being laid. -/
structure MK (B m O n : Nat) (N : Int) (tv nv cv : Value) (W wr : World) (of : List Int) (k : Int) : Prop where
  pk : PKeep B O n W wr of
  ob : wr.heap[m]? = some (.cells #[.int .i64 N, tv, nv, cv, .slice (some ⟨O, 0, none⟩) n n, .int .i64 k] 74 (0, 0))
  ne : m ≠ O
  mb : B ≤ m
theorem MK.below {B m O n : Nat} {N : Int} {tv nv cv : Value} {W wr w5 : World} {of : List Int} {k : Int} (h : MK B m O n N tv nv cv W wr of k) (hb : Below wr.heap.size wr w5) : MK B m O n N tv nv cv W w5 of k :=
  ⟨h.pk.below hb, (hb.block _ (heap_lt h.ob)).trans h.ob, h.ne, h.mb⟩
theorem MK.setO {B m O n : Nat} {N : Int} {tv nv cv : Value} {W wr : World} {of : List Int} {k : Int} (h : MK B m O n N tv nv cv W wr of k) (x : Nat) (p : Int) : MK B m O n N tv nv cv W (wr.setCell ⟨O, x, none⟩ (.int .i64 p)) (of.set x p) k :=
  ⟨h.pk.set x p, by rw [heap_setCell_other _ _ _ _ (by exact h.ne)]; exact h.ob, h.ne, h.mb⟩
theorem MK.setK {B m O n : Nat} {N : Int} {tv nv cv : Value} {W wr : World} {of : List Int} {k : Int} (h : MK B m O n N tv nv cv W wr of k) (p : Int) : MK B m O n N tv nv cv W (wr.setCell ⟨m, 5, none⟩ (.int .i64 p)) of p :=
  ⟨⟨h.pk.len, own_but h.pk.own ((ButRow.refl m wr).setCell 5 _) (fun e => h.ne (by injection e with e; exact e.symm)), h.pk.bel.setCell (by exact h.mb) _, by have := h.pk.lt; simpa using this, h.pk.ge⟩, by rw [heap_setCell_same wr m 5 _ _ _ h.ob]; rfl, h.ne, h.mb⟩
theorem mesh_met {w W2 W3 : World} {q : Sp.Net} {ta na ca : Option Addr} {tc nc cc : Nat} (hs3 : W3.heap.size = w.heap.size + 2) (hb3 : Below (w.heap.size + 2) W2 W3) {wz : World} {m O : Nat} (hO : OwnI wz O (.slice (some ⟨O, 0, none⟩) q.tail.length q.tail.length) (List.replicate q.tail.length (-1))) (hA : wz.heap[m]? = some (.cells #[.int .i64 0, .slice none 0 0, .slice none 0 0, .slice none 0 0, .slice none 0 0, .int .i64 0] 74)) (hne : m ≠ O) (hbZ : Below W3.heap.size W3 wz) (hmB : W3.heap.size ≤ m) (hOB : W3.heap.size ≤ O) :
    MK (w.heap.size + 2) m O q.tail.length q.n (.slice ta q.tail.length tc) (.slice na q.next.length nc) (.slice ca q.cap.length cc) W2 ((((((wz.setCell ⟨m, 0, none⟩ (.int .i64 q.n)).setCell ⟨m, 1, none⟩ (.slice ta q.tail.length tc)).setCell ⟨m, 2, none⟩ (.slice na q.next.length nc)).setCell ⟨m, 3, none⟩ (.slice ca q.cap.length cc)).setCell ⟨m, 4, none⟩ (.slice (some ⟨O, 0, none⟩) q.tail.length q.tail.length)).setCell ⟨m, 5, none⟩ (.int .i64 0)) (List.replicate q.tail.length (-1)) 0 := by
  have hbt : ButRow m wz ((((((wz.setCell ⟨m, 0, none⟩ (.int .i64 q.n)).setCell ⟨m, 1, none⟩ (.slice ta q.tail.length tc)).setCell ⟨m, 2, none⟩ (.slice na q.next.length nc)).setCell ⟨m, 3, none⟩ (.slice ca q.cap.length cc)).setCell ⟨m, 4, none⟩ (.slice (some ⟨O, 0, none⟩) q.tail.length q.tail.length)).setCell ⟨m, 5, none⟩ (.int .i64 0)) := ((((((ButRow.refl m wz).setCell 0 _).setCell 1 _).setCell 2 _).setCell 3 _).setCell 4 _).setCell 5 _
  have hlt := (hO.lt O rfl).2
  refine ⟨⟨by simp, own_but (own_base hO (by omega)) hbt (fun e => hne (by injection e with e; exact e.symm)), ?_, by simpa using hlt, by omega⟩, ?_, hne, by omega⟩
  · have h := hb3.trans (hbZ.mono (by omega))
    exact (((((h.setCell (by show w.heap.size + 2 ≤ m; omega) _).setCell (by show w.heap.size + 2 ≤ m; omega) _).setCell (by show w.heap.size + 2 ≤ m; omega) _).setCell (by show w.heap.size + 2 ≤ m; omega) _).setCell (by show w.heap.size + 2 ≤ m; omega) _).setCell (by show w.heap.size + 2 ≤ m; omega) _
  · rw [heap_setCell_same _ m 5 _ _ _ (by rw [heap_setCell_same _ m 4 _ _ _ (by rw [heap_setCell_same _ m 3 _ _ _ (by rw [heap_setCell_same _ m 2 _ _ _ (by rw [heap_setCell_same _ m 1 _ _ _ (by rw [heap_setCell_same _ m 0 _ _ _ hA])])])])])]
    rfl
theorem Sp.paint_more (k : Int) (of l : List Int) (x : Int) : Sp.paint k of (l ++ [x]) = (Sp.paint k of l).set x.toNat k := by
  simp [Sp.paint, List.foldl_append]
/-- Along a face that is not laid yet. -/
theorem Sp.FSt.along {st : List Int} (hp : Sp.Perm st) {d k : Nat} {of : List Int} (h : Sp.FSt st d of k) (hd : d < st.length) (h0 : of.getD d 0 = -1) (t : Nat) (ht : t < Sp.per st d) :
    (Sp.paint k of (Sp.rounds st d t)).getD (itf (Sp.fn st) d t) 0 = -1 := by
  have hx := hp.fnP.it hd t
  have hin : ∀ m, of.getD (itf (Sp.fn st) d m) 0 = -1 := fun m => by
    induction m with
    | zero => exact h0
    | succ m ih => exact (h.inv _ (hp.fnP.it hd m)).trans ih
  rw [Sp.paint_get k _ of _ (fun x hx' => ?_) (by rw [h.len]; exact hx), if_neg ?_]
  · exact hin t
  · intro hm
    obtain ⟨i, hi, e⟩ := List.mem_map.1 hm
    rw [List.mem_range] at hi
    rw [hp.nth_it hd] at e
    have e2 : Sp.nth st d (i + (t - i)) = Sp.nth st d i := by rw [show i + (t - i) = t by omega, hp.nth_it hd, hp.nth_it hd, e]
    exact (hp.per hd).2.2.2 (t - i) (by omega) (by omega) (hp.back hd i (t - i) e2)
  · obtain ⟨i, -, rfl⟩ := List.mem_map.1 hx'
    rw [hp.nth_it hd]
    omega
theorem Sp.FSt.round {st : List Int} (hp : Sp.Perm st) {d k : Nat} {of : List Int} (h : Sp.FSt st d of k) (hd : d < st.length) :
    (Sp.paint k of (Sp.rounds st d (Sp.per st d))).getD d 0 = (k : Int) := by
  have hpp := hp.per hd
  rw [Sp.paint_get k _ of _ (fun x hx' => ?_) (by rw [h.len]; exact hd), if_pos ?_]
  · exact List.mem_map.2 ⟨0, List.mem_range.2 (by omega), rfl⟩
  · obtain ⟨i, -, rfl⟩ := List.mem_map.1 hx'
    rw [hp.nth_it hd]
    omega
set_option maxRecDepth 100000 in
set_option maxHeartbeats 4000000 in
theorem meshOf_any (q : Sp.Net) (v tv nv cv : Value) (w : World) (hv : NetI w v q tv nv cv) (hq1 : q.next.length = q.tail.length) (hn : q.tail.length ≤ 60) (hev : q.tail.length % 2 = 0) (hp : Sp.Perm q.next) :
    Calls Try.prog 46 #[v] w fun e w' => ∃ O, e = .returned (.agg #[.int .i64 q.n, tv, nv, cv, .slice (some ⟨O, 0, none⟩) q.tail.length q.tail.length, .int .i64 ((max (Sp.faces2 q).2 1 : Nat) : Int)]) ∧ OwnI w' w.heap.size (.slice (some ⟨O, 0, none⟩) q.tail.length q.tail.length) (Sp.faces2 q).1 ∧ Below w.heap.size w w' := by
  have hv' := hv
  obtain ⟨rfl, h1, h2, h3⟩ := hv
  obtain ⟨ta, tc, rfl, htc, htm⟩ := h1.form
  obtain ⟨na, nc, rfl, -, -⟩ := h2.form
  obtain ⟨ca, cc, rfl, -, -⟩ := h3.form
  clear h1 h2 h3
  have HPm := hide (hp.behind (by rw [hq1]; exact hev))
  have HBL : Hid ((Sp.behindL q.next).length = q.tail.length) := hide (by rw [Sp.behindL_len, hq1])
  have HF1 : Hid (Sp.faces2 q = Sp.faces2Go (Sp.behindL q.next) q.tail.length 0 (List.replicate q.tail.length (-1)) 0) := hide rfl
  generalize Sp.faces2 q = R at *
  obtain ⟨W2, hW2⟩ : ∃ W2, W2 = (w.alloc (.cells #[.int .i64 q.n, .slice ta q.tail.length tc, .slice na q.next.length nc, .slice ca q.cap.length cc] 25)).alloc (.cells #[.int .i64 0, .slice none 0 0, .slice none 0 0, .slice none 0 0, .slice none 0 0, .int .i64 0] 74) := ⟨_, rfl⟩
  have hs2 : W2.heap.size = w.heap.size + 2 := by rw [hW2]; simp
  have hbW : Below w.heap.size w W2 := by rw [hW2]; exact ((Below.refl _ w).alloc (Nat.le_refl _) _).alloc (by simp) _
  have HW : Hid (∀ w', Below (w.heap.size + 2) W2 w' → Below w.heap.size w w') := hide fun w' hb => hbW.trans (hb.mono (by omega))
  have HV : Hid (∀ w', Below (w.heap.size + 2) W2 w' → NetI w' (.agg #[.int .i64 q.n, .slice ta q.tail.length tc, .slice na q.next.length nc, .slice ca q.cap.length cc]) q (.slice ta q.tail.length tc) (.slice na q.next.length nc) (.slice ca q.cap.length cc)) := hide fun w' hb => hv'.below (unhide HW _ hb)
  have HBX : Hid (∀ w', Below (w.heap.size + 2) W2 w' → w'.cell? ⟨w.heap.size, 0, none⟩ = some (.int .i64 q.n) ∧ w'.cell? ⟨w.heap.size, 1, none⟩ = some (.slice ta q.tail.length tc) ∧ w'.cell? ⟨w.heap.size, 2, none⟩ = some (.slice na q.next.length nc) ∧ w'.cell? ⟨w.heap.size, 3, none⟩ = some (.slice ca q.cap.length cc)) := hide fun w' hb => by
    have h1 := heap_alloc_new w (.cells #[.int .i64 q.n, .slice ta q.tail.length tc, .slice na q.next.length nc, .slice ca q.cap.length cc] 25)
    have h2 : w'.heap[w.heap.size]? = some (.cells #[.int .i64 q.n, .slice ta q.tail.length tc, .slice na q.next.length nc, .slice ca q.cap.length cc] 25) := by
      rw [hb.block w.heap.size (by omega), hW2]
      exact (((Below.refl (w.heap.size + 1) _).alloc (by simp) _).block w.heap.size (by omega)).trans h1
    obtain ⟨e0, e1, e2, e3, -⟩ := obj_cells h2
    exact ⟨e0, e1, e2, e3⟩
  have HRC : Hid (∀ w', Below (w.heap.size + 2) W2 w' → w'.heap[w.heap.size + 1]? = some (.cells #[.int .i64 0, .slice none 0 0, .slice none 0 0, .slice none 0 0, .slice none 0 0, .int .i64 0] 74 (0, 0))) := hide fun w' hb => by
    rw [hb.block (w.heap.size + 1) (by omega), hW2]
    have h := heap_alloc_new (w.alloc (.cells #[.int .i64 q.n, .slice ta q.tail.length tc, .slice na q.next.length nc, .slice ca q.cap.length cc] 25)) (.cells #[.int .i64 0, .slice none 0 0, .slice none 0 0, .slice none 0 0, .slice none 0 0, .int .i64 0] 74)
    rw [show (w.alloc (.cells #[.int .i64 q.n, .slice ta q.tail.length tc, .slice na q.next.length nc, .slice ca q.cap.length cc] 25)).heap.size = w.heap.size + 1 by simp] at h
    exact h
  have HW2 := hide hW2
  have Hs2 := hide hs2
  obtain ⟨P, hP⟩ : ∃ P : Ending → World → Prop, P = fun e w' => ∃ O, e = .returned (.agg #[.int .i64 q.n, .slice ta q.tail.length tc, .slice na q.next.length nc, .slice ca q.cap.length cc, .slice (some ⟨O, 0, none⟩) q.tail.length q.tail.length, .int .i64 ((max R.2 1 : Nat) : Int)]) ∧ OwnI w' w.heap.size (.slice (some ⟨O, 0, none⟩) q.tail.length q.tail.length) R.1 ∧ Below w.heap.size w w' := ⟨_, rfl⟩
  rw [← hP]
  have HP := hide hP
  have Hev := hide hev
  have Hq1 := hide hq1
  clear hv' hP hs2 hbW hW2 hp hq1 hev
  go_enter Try.func46, Try.ntmps46
  go_upto_region 1 with fail
  rw [← unhide HW2]
  have hbr : Below (w.heap.size + 2) W2 W2 := Below.refl _ _
  go_cut [3] (fun s3 wx => ∃ m O, s3 = .pointer (some ⟨m, 0, none⟩) ∧ Hid (MK (w.heap.size + 2) m O q.tail.length q.n (.slice ta q.tail.length tc) (.slice na q.next.length nc) (.slice ca q.cap.length cc) W2 wx (List.replicate q.tail.length (-1)) 0))
  case first =>
    have hb0 := hbr.drew
    clear hbr
    have hs3 : W2.drew.heap.size = w.heap.size + 2 := unhide Hs2
    have HS : Hid (∀ w', Below W2.drew.heap.size W2.drew w' → w'.cell? ⟨w.heap.size, 0, none⟩ = some (.int .i64 q.n) ∧ w'.cell? ⟨w.heap.size, 1, none⟩ = some (.slice ta q.tail.length tc) ∧ w'.cell? ⟨w.heap.size, 2, none⟩ = some (.slice na q.next.length nc) ∧ w'.cell? ⟨w.heap.size, 3, none⟩ = some (.slice ca q.cap.length cc)) := hide fun w' hb => unhide HBX w' (hb0.trans (hb.mono (by rw [hs3]; exact Nat.le_refl _)))
    refine wp_region_G (fun w' => w'.cell? ⟨w.heap.size, 0, none⟩ = some (.int .i64 q.n) ∧ w'.cell? ⟨w.heap.size, 1, none⟩ = some (.slice ta q.tail.length tc) ∧ w'.cell? ⟨w.heap.size, 2, none⟩ = some (.slice na q.next.length nc) ∧ w'.cell? ⟨w.heap.size, 3, none⟩ = some (.slice ca q.cap.length cc)) (fun i => i == 8) (by kernel_rfl) (unhide HS _ (Below.refl _ _)) (fun hHeld => ?_)
    have hbW3 := hb0
    have mesh_met := @mesh_met w W2 W2.drew q ta na ca tc nc cc hs3 hbW3
    clear hbW3 hb0 hs3
    generalize W2.drew = W3 at *
    have hb0 : Below W3.heap.size W3 W3 := Below.refl _ _
    refine wpAnyG_take (v := ?_) 0 (by rfl) (by kernel_rfl) (by kernel_rfl) (by kernel_rfl) (by kernel_rfl) (fun _ _ _ h => h) (Or.inl ⟨by rfl, ?_⟩) (by assumption) ?_
    rotate_left
    · (intro w' hSw; (try dsimp only at hSw); (try simp only [List.getElem_toArray, List.getElem_cons_zero]); go_simp; try (with_reducible rfl))
    simp only [Act.put, List.getElem_toArray, List.getElem_cons_zero, List.setIfInBounds_toArray, List.set_cons_zero, List.set_cons_succ]
    refine wpAnyG_take (v := ?_) 2 (by rfl) (by kernel_rfl) (by kernel_rfl) (by kernel_rfl) (by kernel_rfl) (fun _ _ _ h => h) (Or.inl ⟨by rfl, ?_⟩) (by assumption) ?_
    rotate_left
    · (intro w' hSw; (try dsimp only at hSw); (try simp only [List.getElem_toArray, List.getElem_cons_succ, List.getElem_cons_zero]); go_simp; try (with_reducible rfl))
    simp only [Act.put, List.getElem_toArray, List.getElem_cons_succ, List.getElem_cons_zero, List.setIfInBounds_toArray, List.set_cons_zero, List.set_cons_succ]
    refine wpAnyG_take (v := ?_) 3 (by rfl) (by kernel_rfl) (by kernel_rfl) (by kernel_rfl) (by kernel_rfl) (fun _ _ _ h => h) (Or.inl ⟨by rfl, ?_⟩) (by assumption) ?_
    rotate_left
    · (intro w' hSw; (try dsimp only at hSw); (try simp only [List.getElem_toArray, List.getElem_cons_succ, List.getElem_cons_zero]); go_simp; try (with_reducible rfl))
    simp only [Act.put, List.getElem_toArray, List.getElem_cons_succ, List.getElem_cons_zero, List.setIfInBounds_toArray, List.set_cons_zero, List.set_cons_succ]
    refine wpAnyG_take (v := ?_) 4 (by rfl) (by kernel_rfl) (by kernel_rfl) (by kernel_rfl) (by kernel_rfl) (fun _ _ _ h => h) (Or.inl ⟨by rfl, ?_⟩) (by assumption) ?_
    rotate_left
    · (intro w' hSw; (try dsimp only at hSw); (try simp only [List.getElem_toArray, List.getElem_cons_succ, List.getElem_cons_zero]); go_simp; try (with_reducible rfl))
    simp only [Act.put, List.getElem_toArray, List.getElem_cons_succ, List.getElem_cons_zero, List.setIfInBounds_toArray, List.set_cons_zero, List.set_cons_succ]
    refine wpAnyG_ready [1, 7] (by kernel_rfl) (by simp) ?_
    refine AllReadyG.cons 1 (by rfl) (fun K hK => ?_) ?_
    · simp only [List.getElem_toArray, List.getElem_cons_succ, List.getElem_cons_zero]
      go_simp
      refine hK.out _ _ (unhide HS _ (hb0.alloc hb0.size _)) (fun _ => ?_)
      clear hK K
      try simp only [Act.put, List.setIfInBounds_toArray, List.set_cons_zero, List.set_cons_succ]
      obtain ⟨gl, hgl⟩ : ∃ g, g = W3.heap.size := ⟨_, rfl⟩
      rw [← hgl]
      have hL : (W3.alloc (.cells #[.int .i64 (-1)] 3)).cell? ⟨gl, 0, none⟩ = some (.int .i64 (-1)) := by rw [hgl]; exact own_cell (own_lit W3 0 W3.heap.size 1 [-1] rfl rfl (Nat.zero_le _) (by simp)) 0 (by simp)
      have hLs : gl < (W3.alloc (.cells #[.int .i64 (-1)] 3)).heap.size := by rw [hgl]; simp
      have hbA : Below W3.heap.size W3 (W3.alloc (.cells #[.int .i64 (-1)] 3)) := hb0.alloc hb0.size _
      have hxL : Below W3.heap.size W3 (W3.alloc (.cells #[.int .i64 (-1)] 3)) := (Below.refl _ _).alloc (Nat.le_refl _) _
      clear hxL hgl
      generalize W3.alloc (.cells #[.int .i64 (-1)] 3) = whbA at *
      refine wpAnyG_ready [5, 7] (by kernel_rfl) (by simp) ?_
      refine AllReadyG.cons 5 (by rfl) (fun K hK => ?_) ?_
      · simp only [List.getElem_toArray, List.getElem_cons_succ, List.getElem_cons_zero]
        go_simp
        go_at_call 54
        refine (repeat_any (-1) gl q.tail.length whbA hn hL hLs).mono ?_
        rintro e whbB ⟨rfl, hO, hxR⟩
        have hbB : Below W3.heap.size W3 whbB := hbA.trans (hxR.mono hbA.size)
        have hOB : W3.heap.size ≤ whbA.heap.size := hbA.size
        refine hK.out _ _ (unhide HS _ hbB) (fun _ => ?_)
        clear hK K
        try simp only [Act.put, List.setIfInBounds_toArray, List.set_cons_zero, List.set_cons_succ]
        obtain ⟨O, hOe⟩ : ∃ O, O = whbA.heap.size := ⟨_, rfl⟩
        rw [← hOe] at hO hOB ⊢
        clear hxR hOe
        refine wpAnyG_take (v := ?_) 6 (by rfl) (by kernel_rfl) (by kernel_rfl) (by kernel_rfl) (by kernel_rfl) (fun _ _ _ h => h) (Or.inl ⟨by rfl, ?_⟩) (by assumption) ?_
        rotate_left
        · (intro w' hSw; (try dsimp only at hSw); (try simp only [List.getElem_toArray, List.getElem_cons_succ, List.getElem_cons_zero]); go_simp; try (with_reducible rfl))
        simp only [Act.put, List.getElem_toArray, List.getElem_cons_succ, List.getElem_cons_zero, List.setIfInBounds_toArray, List.set_cons_zero, List.set_cons_succ]
        refine wpAnyG_ready [7] (by kernel_rfl) (by simp) ?_
        refine AllReadyG.cons 7 (by rfl) (fun K hK => ?_) ?_
        · simp only [List.getElem_toArray, List.getElem_cons_succ, List.getElem_cons_zero]
          go_simp
          refine hK.out _ _ (unhide HS _ (hbB.alloc hbB.size _)) (fun _ => ?_)
          clear hK K
          try simp only [Act.put, List.setIfInBounds_toArray, List.set_cons_zero, List.set_cons_succ]
          obtain ⟨m, hm⟩ : ∃ m, m = whbB.heap.size := ⟨_, rfl⟩
          rw [← hm]
          have hA : (whbB.alloc (.cells #[.int .i64 0, .slice none 0 0, .slice none 0 0, .slice none 0 0, .slice none 0 0, .int .i64 0] 74)).heap[m]? = some (.cells #[.int .i64 0, .slice none 0 0, .slice none 0 0, .slice none 0 0, .slice none 0 0, .int .i64 0] 74) := by rw [hm]; exact heap_alloc_new whbB _
          have hbZ : Below W3.heap.size W3 (whbB.alloc (.cells #[.int .i64 0, .slice none 0 0, .slice none 0 0, .slice none 0 0, .slice none 0 0, .int .i64 0] 74)) := hbB.alloc hbB.size _
          have hxA : Below whbB.heap.size whbB (whbB.alloc (.cells #[.int .i64 0, .slice none 0 0, .slice none 0 0, .slice none 0 0, .slice none 0 0, .int .i64 0] 74)) := (Below.refl _ _).alloc (Nat.le_refl _) _
          have hmB : W3.heap.size ≤ m := by rw [hm]; exact hbB.size
          have hne : m ≠ O := by have := (hO.lt O rfl).2; omega
          replace hO := own_below hO hxA
          clear hxA hm
          generalize whbB.alloc (.cells #[.int .i64 0, .slice none 0 0, .slice none 0 0, .slice none 0 0, .slice none 0 0, .int .i64 0] 74) = whbZ at *
          obtain ⟨⟨y0, y1, y2, y3, y4, y5⟩, f0, f1, f2, f3, f4, f5⟩ := obj_cells6 hA
          refine wpAnyG_ready [8] (by kernel_rfl) (by simp) ?_
          refine AllReadyG.last 8 (by rfl) (by kernel_rfl) (fun K hK => ?_) ?_
          · simp only [List.getElem_toArray, List.getElem_cons_succ, List.getElem_cons_zero]
            go_simp
            refine hK.out _ _ ?_
            clear hK K
            try simp only [Act.put, List.setIfInBounds_toArray, List.set_cons_zero, List.set_cons_succ]
            refine wpAnyG_done (by kernel_rfl) ?_ _
            refine NoPanic.normal ?_
            go_wp2
            go_meet
            exact ⟨m, O, rfl, hide (mesh_met hO hA hne hbZ hmB hOB)⟩
          exact AllReadyG.nil
        exact AllReadyG.nil
      refine AllReadyG.cons 7 (by rfl) (fun K hK => ?_) ?_
      · simp only [List.getElem_toArray, List.getElem_cons_succ, List.getElem_cons_zero]
        go_simp
        refine hK.out _ _ (unhide HS _ (hbA.alloc hbA.size _)) (fun _ => ?_)
        clear hK K
        try simp only [Act.put, List.setIfInBounds_toArray, List.set_cons_zero, List.set_cons_succ]
        obtain ⟨m, hm⟩ : ∃ m, m = whbA.heap.size := ⟨_, rfl⟩
        rw [← hm]
        have hA : (whbA.alloc (.cells #[.int .i64 0, .slice none 0 0, .slice none 0 0, .slice none 0 0, .slice none 0 0, .int .i64 0] 74)).heap[m]? = some (.cells #[.int .i64 0, .slice none 0 0, .slice none 0 0, .slice none 0 0, .slice none 0 0, .int .i64 0] 74) := by rw [hm]; exact heap_alloc_new whbA _
        have hbC : Below W3.heap.size W3 (whbA.alloc (.cells #[.int .i64 0, .slice none 0 0, .slice none 0 0, .slice none 0 0, .slice none 0 0, .int .i64 0] 74)) := hbA.alloc hbA.size _
        have hxA : Below whbA.heap.size whbA (whbA.alloc (.cells #[.int .i64 0, .slice none 0 0, .slice none 0 0, .slice none 0 0, .slice none 0 0, .int .i64 0] 74)) := (Below.refl _ _).alloc (Nat.le_refl _) _
        have hmB : W3.heap.size ≤ m := by rw [hm]; exact hbA.size
        replace hL := (hxA.cell (by exact hLs)).trans hL
        replace hLs := Nat.lt_of_lt_of_le hLs hxA.size
        clear hxA hm
        generalize whbA.alloc (.cells #[.int .i64 0, .slice none 0 0, .slice none 0 0, .slice none 0 0, .slice none 0 0, .int .i64 0] 74) = whbC at *
        refine wpAnyG_ready [5] (by kernel_rfl) (by simp) ?_
        refine AllReadyG.cons 5 (by rfl) (fun K hK => ?_) ?_
        · simp only [List.getElem_toArray, List.getElem_cons_succ, List.getElem_cons_zero]
          go_simp
          go_at_call 54
          refine (repeat_any (-1) gl q.tail.length whbC hn hL hLs).mono ?_
          rintro e whbZ ⟨rfl, hO, hxR⟩
          have hbZ : Below W3.heap.size W3 whbZ := hbC.trans (hxR.mono hbC.size)
          have hOB : W3.heap.size ≤ whbC.heap.size := hbC.size
          have hA0 := hA
          replace hA := (hxR.block _ (heap_lt hA)).trans hA
          refine hK.out _ _ (unhide HS _ hbZ) (fun _ => ?_)
          clear hK K
          try simp only [Act.put, List.setIfInBounds_toArray, List.set_cons_zero, List.set_cons_succ]
          obtain ⟨O, hOe⟩ : ∃ O, O = whbC.heap.size := ⟨_, rfl⟩
          rw [← hOe] at hO hOB ⊢
          have hne : m ≠ O := by have := heap_lt hA0; omega
          clear hxR hOe
          refine wpAnyG_take (v := ?_) 6 (by rfl) (by kernel_rfl) (by kernel_rfl) (by kernel_rfl) (by kernel_rfl) (fun _ _ _ h => h) (Or.inl ⟨by rfl, ?_⟩) (by assumption) ?_
          rotate_left
          · (intro w' hSw; (try dsimp only at hSw); (try simp only [List.getElem_toArray, List.getElem_cons_succ, List.getElem_cons_zero]); go_simp; try (with_reducible rfl))
          simp only [Act.put, List.getElem_toArray, List.getElem_cons_succ, List.getElem_cons_zero, List.setIfInBounds_toArray, List.set_cons_zero, List.set_cons_succ]
          obtain ⟨⟨y0, y1, y2, y3, y4, y5⟩, f0, f1, f2, f3, f4, f5⟩ := obj_cells6 hA
          refine wpAnyG_ready [8] (by kernel_rfl) (by simp) ?_
          refine AllReadyG.last 8 (by rfl) (by kernel_rfl) (fun K hK => ?_) ?_
          · simp only [List.getElem_toArray, List.getElem_cons_succ, List.getElem_cons_zero]
            go_simp
            refine hK.out _ _ ?_
            clear hK K
            try simp only [Act.put, List.setIfInBounds_toArray, List.set_cons_zero, List.set_cons_succ]
            refine wpAnyG_done (by kernel_rfl) ?_ _
            refine NoPanic.normal ?_
            go_wp2
            go_meet
            exact ⟨m, O, rfl, hide (mesh_met hO hA hne hbZ hmB hOB)⟩
          exact AllReadyG.nil
        exact AllReadyG.nil
      exact AllReadyG.nil
    refine AllReadyG.cons 7 (by rfl) (fun K hK => ?_) ?_
    · simp only [List.getElem_toArray, List.getElem_cons_succ, List.getElem_cons_zero]
      go_simp
      refine hK.out _ _ (unhide HS _ (hb0.alloc hb0.size _)) (fun _ => ?_)
      clear hK K
      try simp only [Act.put, List.setIfInBounds_toArray, List.set_cons_zero, List.set_cons_succ]
      obtain ⟨m, hm⟩ : ∃ m, m = W3.heap.size := ⟨_, rfl⟩
      rw [← hm]
      have hA : (W3.alloc (.cells #[.int .i64 0, .slice none 0 0, .slice none 0 0, .slice none 0 0, .slice none 0 0, .int .i64 0] 74)).heap[m]? = some (.cells #[.int .i64 0, .slice none 0 0, .slice none 0 0, .slice none 0 0, .slice none 0 0, .int .i64 0] 74) := by rw [hm]; exact heap_alloc_new W3 _
      have hbA : Below W3.heap.size W3 (W3.alloc (.cells #[.int .i64 0, .slice none 0 0, .slice none 0 0, .slice none 0 0, .slice none 0 0, .int .i64 0] 74)) := hb0.alloc hb0.size _
      have hxA : Below W3.heap.size W3 (W3.alloc (.cells #[.int .i64 0, .slice none 0 0, .slice none 0 0, .slice none 0 0, .slice none 0 0, .int .i64 0] 74)) := (Below.refl _ _).alloc (Nat.le_refl _) _
      have hmB : W3.heap.size ≤ m := by rw [hm]; exact hb0.size
      clear hxA hm
      generalize W3.alloc (.cells #[.int .i64 0, .slice none 0 0, .slice none 0 0, .slice none 0 0, .slice none 0 0, .int .i64 0] 74) = whbA at *
      refine wpAnyG_ready [1] (by kernel_rfl) (by simp) ?_
      refine AllReadyG.cons 1 (by rfl) (fun K hK => ?_) ?_
      · simp only [List.getElem_toArray, List.getElem_cons_succ, List.getElem_cons_zero]
        go_simp
        refine hK.out _ _ (unhide HS _ (hbA.alloc hbA.size _)) (fun _ => ?_)
        clear hK K
        try simp only [Act.put, List.setIfInBounds_toArray, List.set_cons_zero, List.set_cons_succ]
        obtain ⟨gl, hgl⟩ : ∃ g, g = whbA.heap.size := ⟨_, rfl⟩
        rw [← hgl]
        have hL : (whbA.alloc (.cells #[.int .i64 (-1)] 3)).cell? ⟨gl, 0, none⟩ = some (.int .i64 (-1)) := by rw [hgl]; exact own_cell (own_lit whbA 0 whbA.heap.size 1 [-1] rfl rfl (Nat.zero_le _) (by simp)) 0 (by simp)
        have hLs : gl < (whbA.alloc (.cells #[.int .i64 (-1)] 3)).heap.size := by rw [hgl]; simp
        have hbC : Below W3.heap.size W3 (whbA.alloc (.cells #[.int .i64 (-1)] 3)) := hbA.alloc hbA.size _
        have hxL : Below whbA.heap.size whbA (whbA.alloc (.cells #[.int .i64 (-1)] 3)) := (Below.refl _ _).alloc (Nat.le_refl _) _
        replace hA := (hxL.block _ (heap_lt hA)).trans hA
        clear hxL hgl
        generalize whbA.alloc (.cells #[.int .i64 (-1)] 3) = whbC at *
        refine wpAnyG_ready [5] (by kernel_rfl) (by simp) ?_
        refine AllReadyG.cons 5 (by rfl) (fun K hK => ?_) ?_
        · simp only [List.getElem_toArray, List.getElem_cons_succ, List.getElem_cons_zero]
          go_simp
          go_at_call 54
          refine (repeat_any (-1) gl q.tail.length whbC hn hL hLs).mono ?_
          rintro e whbZ ⟨rfl, hO, hxR⟩
          have hbZ : Below W3.heap.size W3 whbZ := hbC.trans (hxR.mono hbC.size)
          have hOB : W3.heap.size ≤ whbC.heap.size := hbC.size
          have hA0 := hA
          replace hA := (hxR.block _ (heap_lt hA)).trans hA
          refine hK.out _ _ (unhide HS _ hbZ) (fun _ => ?_)
          clear hK K
          try simp only [Act.put, List.setIfInBounds_toArray, List.set_cons_zero, List.set_cons_succ]
          obtain ⟨O, hOe⟩ : ∃ O, O = whbC.heap.size := ⟨_, rfl⟩
          rw [← hOe] at hO hOB ⊢
          have hne : m ≠ O := by have := heap_lt hA0; omega
          clear hxR hOe
          refine wpAnyG_take (v := ?_) 6 (by rfl) (by kernel_rfl) (by kernel_rfl) (by kernel_rfl) (by kernel_rfl) (fun _ _ _ h => h) (Or.inl ⟨by rfl, ?_⟩) (by assumption) ?_
          rotate_left
          · (intro w' hSw; (try dsimp only at hSw); (try simp only [List.getElem_toArray, List.getElem_cons_succ, List.getElem_cons_zero]); go_simp; try (with_reducible rfl))
          simp only [Act.put, List.getElem_toArray, List.getElem_cons_succ, List.getElem_cons_zero, List.setIfInBounds_toArray, List.set_cons_zero, List.set_cons_succ]
          obtain ⟨⟨y0, y1, y2, y3, y4, y5⟩, f0, f1, f2, f3, f4, f5⟩ := obj_cells6 hA
          refine wpAnyG_ready [8] (by kernel_rfl) (by simp) ?_
          refine AllReadyG.last 8 (by rfl) (by kernel_rfl) (fun K hK => ?_) ?_
          · simp only [List.getElem_toArray, List.getElem_cons_succ, List.getElem_cons_zero]
            go_simp
            refine hK.out _ _ ?_
            clear hK K
            try simp only [Act.put, List.setIfInBounds_toArray, List.set_cons_zero, List.set_cons_succ]
            refine wpAnyG_done (by kernel_rfl) ?_ _
            refine NoPanic.normal ?_
            go_wp2
            go_meet
            exact ⟨m, O, rfl, hide (mesh_met hO hA hne hbZ hmB hOB)⟩
          exact AllReadyG.nil
        exact AllReadyG.nil
      exact AllReadyG.nil
    exact AllReadyG.nil
  case rest =>
    obtain ⟨wP, rfl⟩ : ∃ wP, wP = wc := ⟨_, rfl⟩
    obtain ⟨m, O, rfl, HM⟩ := hcut
    clear hbr
    obtain ⟨n, hnn⟩ : ∃ n, q.tail.length = n := ⟨_, rfl⟩
    rw [hnn] at HM HF1 HBX HV HBL hn htc HP ⊢
    have Hnn := hide hnn
    clear hnn
    have hst0 : Sp.FSt (Sp.behindL q.next) 0 (List.replicate n (-1)) 0 := by
      have h := Sp.FSt.first (Sp.behindL q.next) (unhide HPm)
      rw [unhide HBL] at h
      exact h
    have HI0 := hide (And.intro (unhide HM) (And.intro hst0 (unhide HF1)))
    obtain ⟨⟨x0, x1, x2, x3, x4, x5⟩, -⟩ := obj_cells6 (unhide HM).ob
    clear HM hst0 HF1
    go_wp2
    clear x0 x1 x2 x3 x4 x5
    go_loopg [16] n (fun g s16 wr => ∃ (d k : Nat) (of : List Int), d + g = n ∧ k ≤ d ∧ s16 = .int .i64 (d : Int) ∧ Hid (MK (w.heap.size + 2) m O n q.n (.slice ta n tc) (.slice na q.next.length nc) (.slice ca q.cap.length cc) W2 wr of (k : Int) ∧ Sp.FSt (Sp.behindL q.next) d of k ∧ R = Sp.faces2Go (Sp.behindL q.next) g d of k))
    case atStart => exact ⟨0, 0, _, by omega, by omega, rfl, HI0⟩
    case round =>
      clear HI0
      obtain ⟨d, k, of, hdg, hkd, rfl, HI⟩ := hrel
      obtain ⟨⟨x0, x1, x2, x3, x4, x5⟩, z0, z1, z2, z3, z4, z5⟩ := obj_cells6 (unhide HI).1.ob
      cases gk with
      | zero =>
        obtain rfl : d = n := by omega
        have HF : Hid (R = (of, k)) := hide (unhide HI).2.2
        obtain ⟨⟨r0, r1, r2, r3, r4, r5⟩, s0, s1, s2, s3, s4, s5⟩ := obj_cells6 (unhide HRC wr (unhide HI).1.pk.bel)
        have hm1 : m ≠ w.heap.size + 1 := by have := (unhide HI).1.mb; omega
        have hm2 := hm1.symm
        have hmx : (if (k : Int) < 1 then (1 : Int) else k) = ((max k 1 : Nat) : Int) := by split <;> omega
        have HI1 := hide (unhide HI).1
        clear HI
        go_wp2
        have HI2 := (unhide HI1).setK ((max k 1 : Nat) : Int)
        have hfin0 : (wr.setCell ⟨m, 5, none⟩ (.int .i64 ((max k 1 : Nat) : Int))).heap[w.heap.size + 1]? = some (.cells #[.int .i64 0, .slice none 0 0, .slice none 0 0, .slice none 0 0, .slice none 0 0, .int .i64 0] 74 (0, 0)) := by
          rw [heap_setCell_other _ _ _ _ (by exact hm2)]
          exact unhide HRC wr (unhide HI1).pk.bel
        have hfin := six_cells hfin0 (.int .i64 q.n) (.slice ta d tc) (.slice na q.next.length nc) (.slice ca q.cap.length cc) (.slice (some ⟨O, 0, none⟩) d d) (.int .i64 ((max k 1 : Nat) : Int))
        have hown := six_own HI2.pk.own (show w.heap.size + 1 < w.heap.size + 2 by omega) (.int .i64 q.n) (.slice ta d tc) (.slice na q.next.length nc) (.slice ca q.cap.length cc) (.slice (some ⟨O, 0, none⟩) d d) (.int .i64 ((max k 1 : Nat) : Int))
        have hbl := six_below (unhide HW _ HI2.pk.bel) (show w.heap.size ≤ w.heap.size + 1 by omega) (.int .i64 q.n) (.slice ta d tc) (.slice na q.next.length nc) (.slice ca q.cap.length cc) (.slice (some ⟨O, 0, none⟩) d d) (.int .i64 ((max k 1 : Nat) : Int))
        clear hfin0 x0 x1 x2 x3 x4 x5 z0 z1 z2 z3 z4 z5 r0 r1 r2 r3 r4 r5 s0 s1 s2 s3 s4 s5
        generalize ((((((wr.setCell ⟨m, 5, none⟩ (.int .i64 ((max k 1 : Nat) : Int))).setCell ⟨w.heap.size + 1, 0, none⟩ (.int .i64 q.n)).setCell ⟨w.heap.size + 1, 1, none⟩ (.slice ta d tc)).setCell ⟨w.heap.size + 1, 2, none⟩ (.slice na q.next.length nc)).setCell ⟨w.heap.size + 1, 3, none⟩ (.slice ca q.cap.length cc)).setCell ⟨w.heap.size + 1, 4, none⟩ (.slice (some ⟨O, 0, none⟩) d d)).setCell ⟨w.heap.size + 1, 5, none⟩ (.int .i64 ((max k 1 : Nat) : Int)) = WF at *
        obtain ⟨⟨r0, r1, r2, r3, r4, r5⟩, -⟩ := obj_cells6 hfin
        refine bodyPost_ret (v := .agg #[.int .i64 q.n, .slice ta d tc, .slice na q.next.length nc, .slice ca q.cap.length cc, .slice (some ⟨O, 0, none⟩) d d, .int .i64 ((max k 1 : Nat) : Int)]) (by simp [results, Try.results46, go_sem, r0, r1, r2, r3, r4, r5]) rfl ?_
        rw [unhide HP]
        exact ⟨O, by rw [unhide HF], by rw [unhide HF]; exact own_base hown (by omega), hbl⟩
      | succ g' =>
        have hlt : d < n := by omega
        have hltI : (d : Int) < (n : Int) := by omega
        have hdl : d < (Sp.behindL q.next).length := by rw [unhide HBL]; exact hlt
        have c1 := own_cell (unhide HI).1.pk.own d (by rw [(unhide HI).1.pk.len]; exact hlt)
        rw [← Sp.getD_eq] at c1
        have hbd := (unhide HI).2.1.bd d hdl
        by_cases hz : of.getD d 0 = -1
        · have HZ := hide hz
          rw [hz] at c1
          have hcz : ((-1 : Int) != -1) = false := by decide
          have HJ0 : Hid (MK (w.heap.size + 2) m O n q.n (.slice ta n tc) (.slice na q.next.length nc) (.slice ca q.cap.length cc) W2 wr (Sp.paint k of (Sp.rounds (Sp.behindL q.next) d 0)) (k : Int)) := hide (unhide HI).1
          obtain ⟨m1, m2, m3, m4⟩ := (unhide HPm).per hdl
          have HAl := hide (fun t ht => (unhide HI).2.1.along (unhide HPm) hdl hz t ht)
          have HRd := hide ((unhide HI).2.1.round (unhide HPm) hdl)
          have HNx : Hid (∀ t, (Sp.behindL q.next).getD (itf (Sp.fn (Sp.behindL q.next)) d t) 0 = ((itf (Sp.fn (Sp.behindL q.next)) d (t + 1) : Nat) : Int)) := hide fun t => by
            have h := (unhide HPm).nth_it hdl (t + 1)
            rw [← h]
            show _ = (Sp.behindL q.next).getD (Sp.nth (Sp.behindL q.next) d t).toNat 0
            rw [(unhide HPm).nth_it hdl t, Int.toNat_natCast]
          have HXl : Hid (∀ t, itf (Sp.fn (Sp.behindL q.next)) d t < n) := hide fun t => by
            have h := (unhide HPm).fnP.it hdl t
            rw [unhide HBL] at h
            exact h
          have HXp : Hid (itf (Sp.fn (Sp.behindL q.next)) d (Sp.per (Sp.behindL q.next) d) = d) := hide (by
            have h := (unhide HPm).nth_it hdl (Sp.per (Sp.behindL q.next) d)
            rw [m3] at h
            omega)
          have HPs : Hid (∀ t, Sp.paint k of (Sp.rounds (Sp.behindL q.next) d (t + 1)) = (Sp.paint k of (Sp.rounds (Sp.behindL q.next) d t)).set (itf (Sp.fn (Sp.behindL q.next)) d t) k) := hide fun t => by
            rw [Sp.rounds_succ, Sp.paint_more, (unhide HPm).nth_it hdl t, Int.toNat_natCast]
          have HR2 : Hid (R = Sp.faces2Go (Sp.behindL q.next) g' (d + 1) (Sp.paint k of (Sp.rounds (Sp.behindL q.next) d (Sp.per (Sp.behindL q.next) d))) (k + 1) ∧ Sp.FSt (Sp.behindL q.next) (d + 1) (Sp.paint k of (Sp.rounds (Sp.behindL q.next) d (Sp.per (Sp.behindL q.next) d))) (k + 1)) := hide ⟨by rw [(unhide HI).2.2, Sp.faces2Go, if_neg (by rw [hz]; decide)], (unhide HI).2.1.new (unhide HPm) hdl (by rw [hz]; decide)⟩
          have HX0 : Hid (itf (Sp.fn (Sp.behindL q.next)) d 0 = d) := hide rfl
          generalize Sp.per (Sp.behindL q.next) d = pr at *
          generalize itf (Sp.fn (Sp.behindL q.next)) d = xt at *
          generalize hpt : (fun t => Sp.paint k of (Sp.rounds (Sp.behindL q.next) d t)) = pt at *
          have hpt' : ∀ t, Sp.paint k of (Sp.rounds (Sp.behindL q.next) d t) = pt t := fun t => by rw [← hpt]
          simp only [hpt'] at HJ0 HAl HRd HPs HR2
          clear hpt hpt' HI hbd hz m3 m4 HZ
          go_wp2
          clear x0 x1 x2 x3 x4 x5 z0 z1 z2 z3 z4 z5 c1
          go_loopg [5] pr (fun g2 s5 wr => ∃ t, t + g2 = pr ∧ s5 = .int .i64 ((xt t : Nat) : Int) ∧ Hid (MK (w.heap.size + 2) m O n q.n (.slice ta n tc) (.slice na q.next.length nc) (.slice ca q.cap.length cc) W2 wr (pt t) (k : Int)))
          case atStart => exact ⟨0, by omega, by rw [unhide HX0], HJ0⟩
          case round =>
            clear HJ0
            obtain ⟨t, htg, rfl, HJ⟩ := hrel
            obtain ⟨⟨x0, x1, x2, x3, x4, x5⟩, z0, z1, z2, z3, z4, z5⟩ := obj_cells6 (unhide HJ).ob
            have hxl := unhide HXl t
            have c1 := own_cell (unhide HJ).pk.own (xt t) (by rw [(unhide HJ).pk.len]; exact hxl)
            have f1 := own_frozen (unhide HJ).pk.own (xt t)
            rw [← Sp.getD_eq] at c1
            have hxI : ((xt t : Nat) : Int) < (n : Int) := by omega
            cases gk with
            | zero =>
              obtain rfl : t = pr := by omega
              rw [unhide HXp] at c1 f1 hxl hxI ⊢
              rw [unhide HRd] at c1
              have hkz : ((k : Int) == -1) = false := beq_eq_false_iff_ne.2 (by omega)
              have HN := hide ((unhide HJ).setK ((k : Int) + 1))
              have hkw : IntKind.i64.wrap ((k : Int) + 1) = (k : Int) + 1 := by rw [IntKind.wrap_i64]; omega
              clear HJ
              go_wp2
              go_roundg g'
              case rel => exact ⟨d + 1, k + 1, pt t, by omega, by omega, by go_num, hide ⟨unhide HN, (unhide HR2).2, (unhide HR2).1⟩⟩
              case measure => omega
            | succ g2 =>
              rw [unhide HAl t (by omega)] at c1
              have HMb := hide (fun (w' : World) (h : MeshI w' (.agg #[.int .i64 q.n, .slice ta n tc, .slice na q.next.length nc, .slice ca q.cap.length cc, .slice (some ⟨O, 0, none⟩) n n, .int .i64 (k : Int)]) q ((pt t).set (xt t) (k : Int)) k (.slice ta n tc) (.slice na q.next.length nc) (.slice ca q.cap.length cc) (.slice (some ⟨O, 0, none⟩) n n)) => mbehind_any q _ k _ _ _ _ _ (xt t) w' h (by rw [unhide Hq1, unhide Hnn]; exact hxl) (by rw [unhide Hq1]; exact unhide Hev) (by rw [unhide Hq1, unhide Hnn]; omega))
              rw [unhide HNx t] at HMb
              have HJ2 := hide ((unhide HJ).setO (xt t) (k : Int))
              rw [← unhide HPs t] at HJ2
              have HMI : Hid (MeshI (wr.setCell ⟨O, xt t, none⟩ (.int .i64 (k : Int))) (.agg #[.int .i64 q.n, .slice ta n tc, .slice na q.next.length nc, .slice ca q.cap.length cc, .slice (some ⟨O, 0, none⟩) n n, .int .i64 (k : Int)]) q ((pt t).set (xt t) (k : Int)) k (.slice ta n tc) (.slice na q.next.length nc) (.slice ca q.cap.length cc) (.slice (some ⟨O, 0, none⟩) n n)) := hide (by
                have h := unhide HV _ (unhide HJ2).pk.bel
                have ho := (unhide HJ2).pk.own.ints
                rw [unhide HPs t] at ho
                exact ⟨rfl, h.tail, h.next, h.cap, ho⟩)
              have HC := hide (unhide HMb _ (unhide HMI))
              have hOm := (unhide HJ).ne
              have hOm2 := hOm.symm
              clear HJ HMI HMb
              go_wp2_with fail
              go_at_call 55
              refine (unhide HC).mono ?_
              rintro e w6 ⟨rfl, hl6⟩
              have HJ6 := hide ((unhide HJ2).below hl6)
              clear hl6 HC HJ2 x0 x1 x2 x3 x4 x5 z0 z1 z2 z3 z4 z5 c1 f1
              go_wp2
              go_roundg g2
              case rel => exact ⟨t + 1, by omega, by rfl, HJ6⟩
              case measure => omega
        · have hz0 : 0 ≤ of.getD d 0 := by rcases hbd with e | e; · exact absurd e hz
                                           · exact e.1
          have hcz : (of.getD d 0 != -1) = true := by simpa using hz
          have HN : Hid (MK (w.heap.size + 2) m O n q.n (.slice ta n tc) (.slice na q.next.length nc) (.slice ca q.cap.length cc) W2 wr of (k : Int) ∧ Sp.FSt (Sp.behindL q.next) (d + 1) of k ∧ R = Sp.faces2Go (Sp.behindL q.next) g' (d + 1) of k) := hide ⟨(unhide HI).1, (unhide HI).2.1.old hdl hz0, by rw [(unhide HI).2.2, Sp.faces2Go, if_pos hz0]⟩
          generalize of.getD d 0 = z at *
          clear HI hbd hz0 hz
          go_wp2
          go_roundg g'
          case rel => exact ⟨d + 1, k, of, by omega, by omega, by go_num, HN⟩
          case measure => omega
end Go.Proofs.Ytoegjnolccabjaa


/- Package dual: Make. -/
namespace Go.Proofs.Ytoegjnolccabjaa
open Go Go.RowKit

/-- The dual (P301). -/
def Sp.dual (q : Sp.Net) : Sp.Net := ⟨((max (Sp.faces2 q).2 1 : Nat) : Int), (Sp.faces2 q).1, Sp.behindL q.next, q.cap⟩
/-- What Make and the others ask of a net. -/
structure Sp.LinkQ (q : Sp.Net) : Prop where
  nx : q.next.length = q.tail.length
  cp : q.cap.length = q.tail.length
  le : q.tail.length ≤ 60
  ev : q.tail.length % 2 = 0
  pm : Sp.Perm q.next
end Go.Proofs.Ytoegjnolccabjaa


/- Package dual: meets; the reference's. -/
namespace Go.Proofs.Ytoegjnolccabjaa
open Go Go.RowKit

/-- Has a face a dart that begins at a vertex? -/
def Sp.meets (T F : List Int) (f v : Int) : Prop := ∃ d, d < T.length ∧ T.getD d 0 = v ∧ F.getD d 0 = f
noncomputable def Sp.meetsB (T F : List Int) (f v : Int) : Bool := @decide (Sp.meets T F f v) (Classical.propDecidable _)
theorem Sp.meetsB_true {T F : List Int} {f v : Int} (h : Sp.meets T F f v) : Sp.meetsB T F f v = true := @decide_eq_true _ (Classical.propDecidable _) h
theorem Sp.meetsB_false {T F : List Int} {f v : Int} (h : ¬ Sp.meets T F f v) : Sp.meetsB T F f v = false := @decide_eq_false _ (Classical.propDecidable _) h
theorem Sp.meetsB_of {T F : List Int} {f v : Int} (h : Sp.meetsB T F f v = true) : Sp.meets T F f v := @of_decide_eq_true _ (Classical.propDecidable _) h
set_option maxRecDepth 100000 in
set_option maxHeartbeats 2000000 in
theorem meets_any (q : Sp.Net) (F : List Int) (K : Nat) (v tv nv cv fv : Value) (f x : Int) (w : World) (hv : MeshI w v q F K tv nv cv fv) (hF : F.length = q.tail.length) (hn : q.tail.length ≤ 240) :
    Calls Try.prog 53 #[v, .int .i64 f, .int .i64 x] w fun e w' => e = .returned (.bool (Sp.meetsB q.tail F f x)) ∧ Below w.heap.size w w' := by
  have hval := hv.val
  obtain ⟨ta, tc, rfl, -, -, HT⟩ := hv.tail.allG
  obtain ⟨na, nc, rfl, -, -⟩ := hv.next.form
  obtain ⟨ca, cc, rfl, -, -⟩ := hv.cap.form
  obtain ⟨fa, fc, rfl, -, -, HF⟩ := hv.of.allG
  subst hval
  have HBX := hide (mesh_new w q.n (.slice ta q.tail.length tc) (.slice na q.next.length nc) (.slice ca q.cap.length cc) (.slice fa F.length fc) (K : Int))
  obtain ⟨W1, hW1⟩ : ∃ W1, W1 = w.alloc (.cells #[.int .i64 q.n, .slice ta q.tail.length tc, .slice na q.next.length nc, .slice ca q.cap.length cc, .slice fa F.length fc, .int .i64 (K : Int)] 74) := ⟨_, rfl⟩
  have hb1 : Below w.heap.size w W1 := by rw [hW1]; exact (Below.refl _ w).alloc (Nat.le_refl _) _
  rw [← hW1] at HBX
  have HB1 := hide hb1
  have HTr := hide (fun (h : Sp.meets q.tail F f x) => Sp.meetsB_true h)
  have HFa := hide (fun (h : ¬ Sp.meets q.tail F f x) => Sp.meetsB_false h)
  have HDf : Hid (Sp.meets q.tail F f x = ∃ d, d < q.tail.length ∧ q.tail.getD d 0 = x ∧ F.getD d 0 = f) := hide rfl
  generalize Sp.meetsB q.tail F f x = R at *
  generalize Sp.meets q.tail F f x = M at *
  obtain ⟨P, hP⟩ : ∃ P : Ending → World → Prop, P = fun e w' => e = .returned (.bool R) ∧ Below w.heap.size w w' := ⟨_, rfl⟩
  rw [← hP]
  have HP := hide hP
  obtain ⟨x0, x1, x2, x3, x4, x5, -⟩ := unhide HBX W1 (Below.refl _ _)
  have HX := hide (And.intro x1 x4)
  clear hP hb1 hv
  rw [hF] at *
  subst hW1
  go_enter Try.func53, Try.ntmps53
  go_wp2
  clear x0 x1 x2 x3 x4 x5
  generalize w.alloc (.cells #[.int .i64 q.n, .slice ta q.tail.length tc, .slice na q.next.length nc, .slice ca q.cap.length cc, .slice fa q.tail.length fc, .int .i64 (K : Int)] 74) = W1 at *
  generalize hln : q.tail.length = n at *
  go_loop [13] (fun i => ∃ k : Nat, k ≤ n ∧ i = .int .i64 (k : Int) ∧ Hid (∀ j, j < k → ¬ (q.tail.getD j 0 = x ∧ F.getD j 0 = f))) (fun i => n - (intOf i).toNat)
  case atStart => exact ⟨0, by omega, rfl, hide (fun j h => by omega)⟩
  case round =>
    obtain ⟨k, hk, rfl, HA⟩ := hrel
    obtain ⟨x1, x4⟩ := unhide HX
    by_cases hlt : k < n
    · have hltI : (k : Int) < (n : Int) := by omega
      obtain ⟨b, o, rfl, -, hcx⟩ := unhide HT k hlt
      obtain ⟨b2, o2, rfl, -, hcy⟩ := unhide HF k hlt
      have c1 := hcx W1 (unhide HB1)
      have c2 := hcy W1 (unhide HB1)
      by_cases ht : q.tail.getD k 0 = x ∧ F.getD k 0 = f
      · have HM : Hid (R = true) := hide (unhide HTr (by rw [unhide HDf]; exact ⟨k, hlt, ht⟩))
        rw [ht.1] at c1
        rw [ht.2] at c2
        have e1 : (x == x) = true := beq_self_eq_true _
        have e2 : (f == f) = true := beq_self_eq_true _
        clear hcx hcy ht
        go_wp2
        rw [unhide HP]
        exact ⟨by rw [unhide HM], unhide HB1⟩
      · have HN : Hid (∀ j, j < k + 1 → ¬ (q.tail.getD j 0 = x ∧ F.getD j 0 = f)) := hide fun j h => by
          rcases Nat.lt_or_ge j k with h' | h'
          · exact unhide HA j h'
          · obtain rfl : j = k := by omega
            exact ht
        generalize q.tail.getD k 0 = z at *
        generalize F.getD k 0 = z2 at *
        clear hcx hcy
        by_cases ht1 : z = x
        · have ht2 : ¬ z2 = f := fun e => ht ⟨ht1, e⟩
          subst ht1
          have e1 : (z == z) = true := beq_self_eq_true _
          have e2 : (z2 == f) = false := beq_eq_false_iff_ne.2 ht2
          clear ht ht2
          go_wp2
          go_round
          case rel => exact ⟨k + 1, by omega, by go_num, HN⟩
          case measure => simp [intOf]; omega
        · have e1 : (z == x) = false := beq_eq_false_iff_ne.2 ht1
          clear ht ht1
          go_wp2
          go_round
          case rel => exact ⟨k + 1, by omega, by go_num, HN⟩
          case measure => simp [intOf]; omega
    · have HM : Hid (R = false) := hide (unhide HFa (by
        rw [unhide HDf]
        rintro ⟨d, hd, h1, h2⟩
        exact unhide HA d (by omega) ⟨h1, h2⟩))
      go_wp2
      rw [unhide HP]
      exact ⟨by rw [unhide HM], unhide HB1⟩
end Go.Proofs.Ytoegjnolccabjaa


/- The walk of package rot: Check. -/
namespace Go.Proofs.Ytoegjnolccabjaa
open Go Go.RowKit

/-- What Check tells of any lists. -/
def Sp.checkI (q : Sp.Net) : Int :=
  if Sp.fewB q = false then 2 else if Sp.matchedB q = false then 5 else if q.n < 1 then 3 else if Sp.placedB q = false then 3 else if Sp.turningB q = false then 6 else if Sp.heldB q = false then 4
  else if (Sp.pieces q).2 ≠ 1 then 7 else if q.n - ((q.tail.length / 2 : Nat) : Int) + (Sp.facesN q : Int) ≠ 2 then 8 else 0
theorem facesN_le (q : Sp.Net) (h : WalkQ q) : Sp.facesN q ≤ 241 := by
  unfold Sp.facesN
  have hb := Sp.behindL_bd q.next (by rw [h.nx]; exact h.ev) h.nb
  rw [← Sp.behindL_len q.next] at hb
  have : (Sp.rndsD (Sp.behindL q.next)).2.length ≤ 240 := by
    unfold Sp.rndsD
    cases hr : Sp.rnds (Sp.behindL q.next) with
    | none => simp
    | some rp =>
      obtain ⟨row, ps⟩ := rp
      have := (rnds_ok hb hr).2
      rw [Sp.behindL_len, h.nx] at this
      have := h.big
      simp only [Option.getD_some]
      omega
  omega
set_option maxRecDepth 100000 in
set_option maxHeartbeats 2000000 in
theorem check_any (q : Sp.Net) (v tv nv cv : Value) (w : World) (hv : NetI w v q tv nv cv) (hlo : -9223372036854775808 ≤ q.n) (hhi : q.n ≤ 9223372036854775807) :
    Calls Try.prog 52 #[v] w fun e w' => e = .returned (.int .i64 (Sp.checkI q)) ∧ Below w.heap.size w w' := by
  have hv' := hv
  obtain ⟨rfl, h1, h2, h3⟩ := hv
  obtain ⟨ta, tc, rfl, -, -⟩ := h1.form
  obtain ⟨na, nc, rfl, -, -⟩ := h2.form
  obtain ⟨ca, cc, rfl, -, -⟩ := h3.form
  clear h1 h2 h3
  have HBX := hide (box_new w q.n (.slice ta q.tail.length tc) (.slice na q.next.length nc) (.slice ca q.cap.length cc))
  obtain ⟨W1, hW1⟩ : ∃ W1, W1 = w.alloc (.cells #[.int .i64 q.n, .slice ta q.tail.length tc, .slice na q.next.length nc, .slice ca q.cap.length cc] 25) := ⟨_, rfl⟩
  rw [← hW1] at HBX
  have hb1 : Below w.heap.size w W1 := by rw [hW1]; exact (Below.refl _ w).alloc (Nat.le_refl _) _
  have hs1 : W1.heap.size = w.heap.size + 1 := by rw [hW1]; simp
  have HW : Hid (∀ w', Below (w.heap.size + 1) W1 w' → Below w.heap.size w w') := hide fun w' hb => hb1.trans (hb.mono (by omega))
  have HS1 := hide hs1
  have HV : Hid (∀ w', Below (w.heap.size + 1) W1 w' → NetI w' (.agg #[.int .i64 q.n, .slice ta q.tail.length tc, .slice na q.next.length nc, .slice ca q.cap.length cc]) q (.slice ta q.tail.length tc) (.slice na q.next.length nc) (.slice ca q.cap.length cc)) := hide fun w' hb => hv'.below (unhide HW _ hb)
  have HT : Hid (∀ w2 w3, Below (w.heap.size + 1) W1 w2 → w.heap.size + 1 ≤ w2.heap.size → Below w2.heap.size w2 w3 → Below (w.heap.size + 1) W1 w3) := hide fun w2 w3 h2 hs h3 => h2.trans (h3.mono hs)
  have HC1 := hide (few_any q _ _ _ _ W1 (unhide HV W1 (Below.refl _ _)))
  have HF : Hid (Sp.checkI q = if Sp.fewB q = false then 2 else if Sp.matchedB q = false then 5 else if q.n < 1 then 3 else if Sp.placedB q = false then 3 else if Sp.turningB q = false then 6 else if Sp.heldB q = false then 4 else if (Sp.pieces q).2 ≠ 1 then 7 else if q.n - ((q.tail.length / 2 : Nat) : Int) + (Sp.facesN q : Int) ≠ 2 then 8 else 0) := hide rfl
  generalize Sp.checkI q = R at *
  obtain ⟨P, hP⟩ : ∃ P : Ending → World → Prop, P = fun e w' => e = .returned (.int .i64 R) ∧ Below w.heap.size w w' := ⟨_, rfl⟩
  rw [← hP]
  have HP := hide hP
  obtain ⟨x0, x1, x2, x3, -⟩ := unhide HBX W1 (Below.refl _ _)
  clear hb1 hs1 hv' hP
  subst hW1
  go_enter Try.func52, Try.ntmps52
  go_wp2_with fail
  go_at_call 75
  refine (unhide HC1).mono ?_
  clear HC1 x0 x1 x2 x3
  generalize w.alloc (.cells #[.int .i64 q.n, .slice ta q.tail.length tc, .slice na q.next.length nc, .slice ca q.cap.length cc] 25) = W1 at *
  rintro e w2 ⟨rfl, hb2⟩
  rw [unhide HS1] at hb2
  obtain ⟨x0, x1, x2, x3, hsz2⟩ := unhide HBX w2 hb2
  have HC2 := hide (matched_any q _ _ _ _ w2 (unhide HV w2 hb2))
  have Hb2 := hide hb2
  clear hb2
  cases hb : Sp.fewB q with
  | false =>
    have HF2 : Hid (R = 2) := hide (by rw [unhide HF, if_pos hb])
    clear hb
    go_wp2
    rw [unhide HP]
    exact ⟨by rw [unhide HF2]; rfl, unhide HW _ (unhide Hb2)⟩
  | true =>
    rw [hb] at HF
    have HB1 := hide hb
    clear hb
    go_wp2_with fail
    go_at_call 76
    refine (unhide HC2).mono ?_
    clear HC2
    rintro e w3 ⟨rfl, hb3⟩
    have hb3' := unhide HT _ _ (unhide Hb2) hsz2 hb3
    clear hb3 x0 x1 x2 x3
    obtain ⟨x0, x1, x2, x3, hsz3⟩ := unhide HBX w3 hb3'
    have Hb3 := hide hb3'
    have HC3 := hide (placed_any q _ _ _ _ w3 (unhide HV w3 hb3'))
    clear hb3'
    cases hb : Sp.matchedB q with
    | false =>
      have HF2 : Hid (R = 5) := hide (by rw [unhide HF, if_neg (by simp), if_pos hb])
      clear hb
      go_wp2
      rw [unhide HP]
      exact ⟨by rw [unhide HF2]; rfl, unhide HW _ (unhide Hb3)⟩
    | true =>
      rw [hb] at HF
      have HB2 := hide hb
      clear hb
      by_cases hn1 : q.n < 1
      · have HF2 : Hid (R = 3) := hide (by rw [unhide HF, if_neg (by simp), if_neg (by simp), if_pos hn1])
        go_wp2
        rw [unhide HP]
        exact ⟨by rw [unhide HF2]; rfl, unhide HW _ (unhide Hb3)⟩
      · go_wp2_with fail
        go_at_call 77
        refine (unhide HC3).mono ?_
        clear HC3
        rintro e w4 ⟨rfl, hb4⟩
        have hb4' := unhide HT _ _ (unhide Hb3) hsz3 hb4
        clear hb4 x0 x1 x2 x3
        obtain ⟨x0, x1, x2, x3, hsz4⟩ := unhide HBX w4 hb4'
        have Hb4 := hide hb4'
        have HV4 := hide (unhide HV w4 hb4')
        clear hb4'
        cases hb : Sp.placedB q with
        | false =>
          have HF2 : Hid (R = 3) := hide (by rw [unhide HF, if_neg (by simp), if_neg (by simp), if_neg (by omega), if_pos hb])
          clear hb
          go_wp2
          rw [unhide HP]
          exact ⟨by rw [unhide HF2]; rfl, unhide HW _ (unhide Hb4)⟩
        | true =>
          rw [hb] at HF
          have HWB : Hid (Sp.walkB q = true) := hide (by unfold Sp.walkB; rw [unhide HB1, unhide HB2, hb]; rfl)
          have hQ := walkQ (unhide HWB)
          have HC4 := hide (turning_any q _ _ _ _ w4 (unhide HV4) hQ.nx.symm (by rw [hQ.nx]; exact hQ.big) hQ.nb hQ.n0 hQ.n1 hQ.tb)
          have hn60 := hQ.n1
          have hbig := hQ.big
          have hfn := facesN_le q hQ
          clear hb hQ HV4
          go_wp2_with fail
          go_at_call 78
          refine (unhide HC4).mono ?_
          clear HC4
          rintro e w5 ⟨rfl, hb5⟩
          have hb5' := unhide HT _ _ (unhide Hb4) hsz4 hb5
          clear hb5 x0 x1 x2 x3
          obtain ⟨x0, x1, x2, x3, hsz5⟩ := unhide HBX w5 hb5'
          have Hb5 := hide hb5'
          have HC5 := hide (held_any q _ _ _ _ w5 (unhide HV w5 hb5'))
          clear hb5'
          cases hb : Sp.turningB q with
          | false =>
            have HF2 : Hid (R = 6) := hide (by rw [unhide HF, if_neg (by simp), if_neg (by simp), if_neg (by omega), if_neg (by simp), if_pos hb])
            clear hb
            go_wp2
            rw [unhide HP]
            exact ⟨by rw [unhide HF2]; rfl, unhide HW _ (unhide Hb5)⟩
          | true =>
            rw [hb] at HF
            clear hb
            go_wp2_with fail
            go_at_call 79
            refine (unhide HC5).mono ?_
            clear HC5
            rintro e w6 ⟨rfl, hb6⟩
            have hb6' := unhide HT _ _ (unhide Hb5) hsz5 hb6
            clear hb6 x0 x1 x2 x3
            obtain ⟨x0, x1, x2, x3, hsz6⟩ := unhide HBX w6 hb6'
            have Hb6 := hide hb6'
            have HC6 := hide (parts_any q _ _ _ _ w6 (unhide HV w6 hb6') (unhide HWB))
            clear hb6'
            cases hb : Sp.heldB q with
            | false =>
              have HF2 : Hid (R = 4) := hide (by rw [unhide HF, if_neg (by simp), if_neg (by simp), if_neg (by omega), if_neg (by simp), if_neg (by simp), if_pos hb])
              clear hb
              go_wp2
              rw [unhide HP]
              exact ⟨by rw [unhide HF2]; rfl, unhide HW _ (unhide Hb6)⟩
            | true =>
              rw [hb] at HF
              clear hb
              go_wp2_with fail
              go_at_call 80
              refine (unhide HC6).mono ?_
              clear HC6
              rintro e w7 ⟨pv, rfl, -, hb7⟩
              have hb7' := unhide HT _ _ (unhide Hb6) hsz6 hb7
              clear hb7 x0 x1 x2 x3
              obtain ⟨x0, x1, x2, x3, hsz7⟩ := unhide HBX w7 hb7'
              have Hb7 := hide hb7'
              have HC7 := hide (faces_any q _ _ _ _ w7 (unhide HV w7 hb7') (unhide HWB))
              clear hb7'
              generalize (Sp.pieces q).2 = pk at *
              by_cases hp1 : pk = 1
              · subst hp1
                have hkk : (((1 : Nat) : Int) != (1 : Int)) = false := by simp
                go_wp2_with fail
                go_at_call 81
                refine (unhide HC7).mono ?_
                clear HC7
                rintro e w8 ⟨fv, rfl, -, hb8⟩
                have hb8' := unhide HT _ _ (unhide Hb7) hsz7 hb8
                clear hb8 x0 x1 x2 x3
                obtain ⟨x0, x1, x2, x3, hsz8⟩ := unhide HBX w8 hb8'
                have HB8 := hide (unhide HW _ hb8')
                clear hb8'
                generalize Sp.facesN q = fk at *
                have HD : Hid (((q.tail.length / 2 : Nat) : Int) = (q.tail.length : Int) / 2) := hide (by omega)
                by_cases hs : q.n - ((q.tail.length / 2 : Nat) : Int) + (fk : Int) = 2
                · have HF2 : Hid (R = 0) := hide (by rw [unhide HF, if_neg (by simp), if_neg (by simp), if_neg (by omega), if_neg (by simp), if_neg (by simp), if_neg (by simp), if_neg (by simp), if_neg (by simpa using hs)])
                  have hs2 : q.n - (q.tail.length : Int) / 2 + (fk : Int) = 2 := by omega
                  go_wp2
                  all_goals
                    rw [unhide HP]
                    exact ⟨by rw [unhide HF2]; rfl, unhide HB8⟩
                · have HF2 : Hid (R = 8) := hide (by rw [unhide HF, if_neg (by simp), if_neg (by simp), if_neg (by omega), if_neg (by simp), if_neg (by simp), if_neg (by simp), if_neg (by simp), if_pos (by simpa using hs)])
                  have hs2 : ¬ q.n - (q.tail.length : Int) / 2 + (fk : Int) = 2 := by omega
                  go_wp2
                  all_goals
                    rw [unhide HP]
                    exact ⟨by rw [unhide HF2]; rfl, unhide HB8⟩
              · have HF2 : Hid (R = 7) := hide (by rw [unhide HF, if_neg (by simp), if_neg (by simp), if_neg (by omega), if_neg (by simp), if_neg (by simp), if_neg (by simp), if_pos hp1])
                have hkk : ((pk : Int) != (1 : Int)) = true := by simp; omega
                go_wp2
                rw [unhide HP]
                exact ⟨by rw [unhide HF2]; rfl, unhide HW _ (unhide Hb7)⟩
end Go.Proofs.Ytoegjnolccabjaa


/- Package dual: Shared; the reference's. -/
namespace Go.Proofs.Ytoegjnolccabjaa
open Go Go.RowKit

noncomputable def Sp.sharedGo (T F : List Int) (s t : Int) : Nat → Nat → Int × Bool
  | 0, _ => (0, false)
  | g + 1, f => if Sp.meetsB T F f s = true ∧ Sp.meetsB T F f t = true then ((f : Int), true) else Sp.sharedGo T F s t g (f + 1)
/-- The least face that two share (P301). -/
noncomputable def Sp.shared (q : Sp.Net) (s t : Int) : Int × Bool := if s = t then (0, false) else Sp.sharedGo q.tail (Sp.faces2 q).1 s t (max (Sp.faces2 q).2 1) 0
theorem Sp.faces2Go_le (st : List Int) : ∀ g d of k, (Sp.faces2Go st g d of k).2 ≤ k + g
  | 0, _, _, _ => by rw [Sp.faces2Go]; omega
  | g + 1, d, of, k => by
    rw [Sp.faces2Go]
    split
    · have := Sp.faces2Go_le st g (d + 1) of k; omega
    · have := Sp.faces2Go_le st g (d + 1) (Sp.paint k of (Sp.rounds st d (Sp.per st d))) (k + 1); omega
theorem Sp.faces2_le (q : Sp.Net) : (Sp.faces2 q).2 ≤ q.tail.length := by
  have := Sp.faces2Go_le (Sp.behindL q.next) q.tail.length 0 (List.replicate q.tail.length (-1)) 0
  unfold Sp.faces2
  omega
theorem ret_two {a : Int} {x : Bool} {p : Int × Bool} (h : p = (a, x)) : Ending.returned (.tuple #[.int .i64 a, .bool x]) = .returned (.tuple #[.int .i64 p.1, .bool p.2]) := by rw [h]
set_option maxRecDepth 100000 in
set_option maxHeartbeats 4000000 in
theorem shared_any (q : Sp.Net) (v tv nv cv : Value) (s t : Int) (w : World) (hv : NetI w v q tv nv cv) (hq : Sp.LinkQ q) (hc : Sp.checkI q = 0) (hn0 : -9223372036854775808 ≤ q.n) (hn1 : q.n ≤ 9223372036854775807) :
    Calls Try.prog 45 #[v, .int .i64 s, .int .i64 t] w fun e w' => e = .returned (.tuple #[.int .i64 (Sp.shared q s t).1, .bool (Sp.shared q s t).2]) ∧ Below w.heap.size w w' := by
  have hv' := hv
  obtain ⟨rfl, h1, h2, h3⟩ := hv
  obtain ⟨ta, tc, rfl, htc, htm⟩ := h1.form
  obtain ⟨na, nc, rfl, -, -⟩ := h2.form
  obtain ⟨ca, cc, rfl, -, -⟩ := h3.form
  clear h1 h2 h3
  obtain ⟨W1, hW1⟩ : ∃ W1, W1 = w.alloc (.cells #[.int .i64 q.n, .slice ta q.tail.length tc, .slice na q.next.length nc, .slice ca q.cap.length cc] 25) := ⟨_, rfl⟩
  have HBX := hide (box_new w q.n (.slice ta q.tail.length tc) (.slice na q.next.length nc) (.slice ca q.cap.length cc))
  rw [← hW1] at HBX
  have hb1 : Below w.heap.size w W1 := by rw [hW1]; exact (Below.refl _ w).alloc (Nat.le_refl _) _
  have hs1 : W1.heap.size = w.heap.size + 1 := by rw [hW1]; simp
  have HW : Hid (∀ w', Below (w.heap.size + 1) W1 w' → Below w.heap.size w w') := hide fun w' hb => hb1.trans (hb.mono (by omega))
  have HV : Hid (∀ w', Below (w.heap.size + 1) W1 w' → NetI w' (.agg #[.int .i64 q.n, .slice ta q.tail.length tc, .slice na q.next.length nc, .slice ca q.cap.length cc]) q (.slice ta q.tail.length tc) (.slice na q.next.length nc) (.slice ca q.cap.length cc)) := hide fun w' hb => hv'.below (unhide HW _ hb)
  have HCk : Hid (∀ w', Below (w.heap.size + 1) W1 w' → Calls Try.prog 52 #[.agg #[.int .i64 q.n, .slice ta q.tail.length tc, .slice na q.next.length nc, .slice ca q.cap.length cc]] w' fun e w'' => e = .returned (.int .i64 0) ∧ Below w'.heap.size w' w'') := hide fun w' hb => by
    have h := check_any q _ _ _ _ w' (unhide HV w' hb) hn0 hn1
    rw [hc] at h
    exact h
  have HMo := hide (fun w' (hb : Below (w.heap.size + 1) W1 w') => meshOf_any q _ _ _ _ w' (unhide HV w' hb) hq.nx hq.le hq.ev hq.pm)
  have HFl := hide (Sp.faces2_len q)
  have HSh : Hid (Sp.shared q s t = if s = t then (0, false) else Sp.sharedGo q.tail (Sp.faces2 q).1 s t (max (Sp.faces2 q).2 1) 0) := hide rfl
  have HQ := hide hq
  generalize Sp.shared q s t = R at *
  generalize (Sp.faces2 q).1 = F at *
  have hKl : max (Sp.faces2 q).2 1 ≤ 1000 := by have := Sp.faces2_le q; have := hq.le; omega
  generalize max (Sp.faces2 q).2 1 = K at *
  obtain ⟨P, hP⟩ : ∃ P : Ending → World → Prop, P = fun e w' => e = .returned (.tuple #[.int .i64 R.1, .bool R.2]) ∧ Below w.heap.size w w' := ⟨_, rfl⟩
  rw [← hP]
  have HP := hide hP
  have Hs1 := hide hs1
  have hbr : Below (w.heap.size + 1) W1 W1 := Below.refl _ _
  obtain ⟨x0, x1, x2, x3, -⟩ := unhide HBX W1 hbr
  clear hv' hP hs1 hb1 hq hc
  by_cases hst : s = t
  · subst hst
    rw [if_pos rfl] at HSh
    have e1 : (s == s) = true := beq_self_eq_true _
    have HFi := hide (unhide HW W1 hbr)
    clear HBX HV HMo HCk hbr HW
    subst hW1
    go_enter Try.func45, Try.ntmps45
    go_wp2
    go_step3
    go_wp2
    try rw [Exit.noGoto_ret]
    rw [unhide HP]
    exact ⟨ret_two (unhide HSh), unhide HFi⟩
  · rw [if_neg hst] at HSh
    have e1 : (s == t) = false := beq_eq_false_iff_ne.2 hst
    subst hW1
    go_enter Try.func45, Try.ntmps45
    go_wp2
    go_step3
    go_wp2_with fail
    go_at_call 52
    refine (unhide HCk _ hbr).mono ?_
    clear HCk x0 x1 x2 x3
    generalize w.alloc (.cells #[.int .i64 q.n, .slice ta q.tail.length tc, .slice na q.next.length nc, .slice ca q.cap.length cc] 25) = W1 at *
    rintro e w2 ⟨rfl, hb2⟩
    rw [unhide Hs1] at hb2
    obtain ⟨x0, x1, x2, x3, hsz2⟩ := unhide HBX w2 hb2
    go_wp2_with fail
    go_at_call 46
    refine (unhide HMo w2 hb2).mono ?_
    clear HMo x0 x1 x2 x3
    rintro e w4 ⟨O, rfl, hO, hb4⟩
    have hb4' : Below (w.heap.size + 1) W1 w4 := hb2.trans (hb4.mono hsz2)
    have hs4 : w.heap.size + 1 ≤ w4.heap.size := Nat.le_trans hsz2 hb4.size
    obtain ⟨W5, hW5⟩ : ∃ W5, W5 = w4.alloc (.cells #[.int .i64 q.n, .slice ta q.tail.length tc, .slice na q.next.length nc, .slice ca q.cap.length cc, .slice (some ⟨O, 0, none⟩) q.tail.length q.tail.length, .int .i64 (K : Int)] 74) := ⟨_, rfl⟩
    have hb45 : Below w4.heap.size w4 W5 := by rw [hW5]; exact (Below.refl _ w4).alloc (Nat.le_refl _) _
    have hs5 : W5.heap.size = w4.heap.size + 1 := by rw [hW5]; simp
    have HS : Hid (∀ w', Below W5.heap.size W5 w' → w'.cell? ⟨w4.heap.size, 0, none⟩ = some (.int .i64 q.n) ∧ w'.cell? ⟨w4.heap.size, 1, none⟩ = some (.slice ta q.tail.length tc) ∧ w'.cell? ⟨w4.heap.size, 2, none⟩ = some (.slice na q.next.length nc) ∧ w'.cell? ⟨w4.heap.size, 3, none⟩ = some (.slice ca q.cap.length cc) ∧ w'.cell? ⟨w4.heap.size, 4, none⟩ = some (.slice (some ⟨O, 0, none⟩) q.tail.length q.tail.length) ∧ w'.cell? ⟨w4.heap.size, 5, none⟩ = some (.int .i64 (K : Int))) := hide fun w' hb => by
      rw [hs5] at hb
      rw [hW5] at hb
      obtain ⟨e0, e1, e2, e3, e4, e5, -⟩ := mesh_new w4 q.n _ _ _ _ _ w' hb
      exact ⟨e0, e1, e2, e3, e4, e5⟩
    have HBl : Hid (∀ w', Below W5.heap.size W5 w' → Below w.heap.size w w') := hide fun w' hb => unhide HW _ ((hb4'.trans (hb45.mono hs4)).trans (hb.mono (by omega)))
    have HMI : Hid (∀ w', Below W5.heap.size W5 w' → MeshI w' (.agg #[.int .i64 q.n, .slice ta q.tail.length tc, .slice na q.next.length nc, .slice ca q.cap.length cc, .slice (some ⟨O, 0, none⟩) q.tail.length q.tail.length, .int .i64 (K : Int)]) q F K (.slice ta q.tail.length tc) (.slice na q.next.length nc) (.slice ca q.cap.length cc) (.slice (some ⟨O, 0, none⟩) q.tail.length q.tail.length)) := hide fun w' hb => by
      have h := unhide HV w' ((hb4'.trans (hb45.mono hs4)).trans (hb.mono (by omega)))
      exact ⟨rfl, h.tail, h.next, h.cap, (hO.ints.below hb45).below (hb.mono (by omega))⟩
    have HMe := hide (fun (f x : Int) w' (hb : Below W5.heap.size W5 w') => meets_any q F K _ _ _ _ _ f x w' (unhide HMI w' hb) (unhide HFl) (by have := (unhide HQ).le; omega))
    have HTR : Hid (∀ w' w'', Below W5.heap.size W5 w' → Below w'.heap.size w' w'' → Below W5.heap.size W5 w'') := hide fun w' w'' h h' => h.trans (h'.mono h.size)
    have HW5 := hide hW5
    have hb5 : Below W5.heap.size W5 W5 := Below.refl _ _
    clear hW5 hs5 hb45 hO hb4 hb2 hbr hb4' hs4 HFl hsz2 HMI HV HBX
    obtain ⟨x0, x1, x2, x3, x4, x5⟩ := unhide HS W5 hb5
    go_wp2
    go_step3
    go_wp2
    rw [← unhide HW5]
    clear x0 x1 x2 x3 x4 x5
    go_loopg [24] K (fun g s24 wr => ∃ f : Nat, f + g = K ∧ s24 = .int .i64 (f : Int) ∧ Hid (Below W5.heap.size W5 wr ∧ R = Sp.sharedGo q.tail F s t g f))
    case atStart => exact ⟨0, by omega, rfl, hide ⟨hb5, unhide HSh⟩⟩
    case round =>
      clear hb5 HSh
      obtain ⟨f, hfg, rfl, HI⟩ := hrel
      cases gk with
      | zero =>
        obtain rfl : f = K := by omega
        have HF : Hid (R = (0, false)) := hide (unhide HI).2
        have HB := hide (unhide HBl _ (unhide HI).1)
        clear HI
        go_wp2
        rw [unhide HP]
        exact ⟨ret_two (unhide HF), unhide HB⟩
      | succ g' =>
        have hlt : f < K := by omega
        have hltI : (f : Int) < (K : Int) := by omega
        have HR : Hid (R = if Sp.meetsB q.tail F f s = true ∧ Sp.meetsB q.tail F f t = true then ((f : Int), true) else Sp.sharedGo q.tail F s t g' (f + 1)) := hide (unhide HI).2
        have HMs := hide (unhide HMe (f : Int) s)
        have HMt := hide (unhide HMe (f : Int) t)
        have HB := hide (unhide HI).1
        clear HI
        generalize Sp.meetsB q.tail F f s = ms at *
        generalize Sp.meetsB q.tail F f t = mt at *
        go_wp2
        have i0 : ∀ w, (Instr.index 86 (.agg #[.int .i64 s, .int .i64 t]) (.int .i64 0)).run Try.prog w = .ok (.int .i64 s) w := fun _ => by rfl
        have i1 : ∀ w, (Instr.index 86 (.agg #[.int .i64 s, .int .i64 t]) (.int .i64 1)).run Try.prog w = .ok (.int .i64 t) w := fun _ => by rfl
        go_loopg [30] 2 (fun g2 s30 wr => ∃ i : Nat, i + g2 = 2 ∧ s30 = .int .i64 (i : Int) ∧ (1 ≤ i → ms = true) ∧ (2 ≤ i → mt = true) ∧ Hid (Below W5.heap.size W5 wr))
        case atStart => exact ⟨0, by omega, rfl, by omega, by omega, HB⟩
        case round =>
          clear HB
          obtain ⟨i, hig, rfl, hi1, hi2, HB⟩ := hrel
          obtain ⟨x0, x1, x2, x3, x4, x5⟩ := unhide HS wr (unhide HB)
          rcases (show i = 0 ∨ i = 1 ∨ i = 2 by omega) with rfl | rfl | rfl
          · clear hi1 hi2
            go_wp2_with fail
            go_at_call 53
            refine (unhide HMs wr (unhide HB)).mono ?_
            clear x0 x1 x2 x3 x4 x5
            rintro e w7 ⟨rfl, hl7⟩
            have HB7 := hide (unhide HTR _ _ (unhide HB) hl7)
            clear HB hl7
            cases ms with
            | false =>
              have HR2 : Hid (R = Sp.sharedGo q.tail F s t g' (f + 1)) := hide (by rw [unhide HR, if_neg (by simp)])
              go_wp2
              go_roundg g'
              case rel => exact ⟨f + 1, by omega, by go_num, hide ⟨unhide HB7, unhide HR2⟩⟩
              case measure => omega
            | true =>
              go_wp2
              go_roundg 1
              case rel => exact ⟨1, by omega, rfl, by simp, by omega, HB7⟩
              case measure => omega
          · have hms := hi1 (by omega)
            subst hms
            clear hi1 hi2
            go_wp2_with fail
            go_at_call 53
            refine (unhide HMt wr (unhide HB)).mono ?_
            clear x0 x1 x2 x3 x4 x5
            rintro e w7 ⟨rfl, hl7⟩
            have HB7 := hide (unhide HTR _ _ (unhide HB) hl7)
            clear HB hl7
            cases mt with
            | false =>
              have HR2 : Hid (R = Sp.sharedGo q.tail F s t g' (f + 1)) := hide (by rw [unhide HR, if_neg (by simp)])
              go_wp2
              go_roundg g'
              case rel => exact ⟨f + 1, by omega, by go_num, hide ⟨unhide HB7, unhide HR2⟩⟩
              case measure => omega
            | true =>
              go_wp2
              go_roundg 0
              case rel => exact ⟨2, by omega, rfl, by simp, by simp, HB7⟩
              case measure => omega
          · have hms := hi1 (by omega)
            have hmt := hi2 (by omega)
            subst hms hmt
            have HF : Hid (R = ((f : Int), true)) := hide (by rw [unhide HR, if_pos (by simp)])
            have HB2 := hide (unhide HBl _ (unhide HB))
            clear hi1 hi2 HB
            go_wp2
            try rw [Exit.noGoto_ret]
            rw [unhide HP]
            exact ⟨ret_two (unhide HF), unhide HB2⟩
end Go.Proofs.Ytoegjnolccabjaa


