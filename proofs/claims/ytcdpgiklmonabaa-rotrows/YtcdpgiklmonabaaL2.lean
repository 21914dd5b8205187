/- What the proof needs, part 2. -/
import Derived.Test.YtcdpgiklmonabaaL1
/- The walk of the reference's Edge where nothing is wrong. -/
namespace Go.Proofs.Ytcdpgiklmonabaa
open Go Go.RowKit

def Sp.edgeN (q : Sp.Net) (y0 y1 y2 y3 : Int) : Sp.Net := ⟨q.n, q.tail ++ [y0, y1], q.next ++ [(q.tail.length : Int), (q.tail.length : Int) + 1], q.cap ++ [y2, y3]⟩
/-- A call's frame that has boxed a net and made room for one. -/
structure BoxAt (w wx : World) (n : Int) (tv nv cv : Value) : Prop where
  b1 : wx.heap[w.heap.size]? = some (.cells #[.int .i64 n, tv, nv, cv] 25 (0, 0))
  b2 : wx.heap[w.heap.size + 1]? = some (.cells #[.int .i64 0, .slice none 0 0, .slice none 0 0, .slice none 0 0] 25 (0, 0))
  bel : Below w.heap.size w wx
theorem BoxAt.size {w wx : World} {n : Int} {tv nv cv : Value} (h : BoxAt w wx n tv nv cv) : w.heap.size + 1 < wx.heap.size := heap_lt h.b2
theorem BoxAt.below {w wx wy : World} {n : Int} {tv nv cv : Value} (h : BoxAt w wx n tv nv cv) (hb : Below wx.heap.size wx wy) : BoxAt w wy n tv nv cv := by
  have hs := h.size
  exact ⟨(hb.block _ (by omega)).trans h.b1, (hb.block _ (by omega)).trans h.b2, h.bel.trans (hb.mono (by omega))⟩
theorem BoxAt.setT {w wx : World} {n : Int} {tv nv cv : Value} (h : BoxAt w wx n tv nv cv) (u : Value) : BoxAt w (wx.setCell ⟨w.heap.size, 1, none⟩ u) n u nv cv :=
  ⟨by rw [heap_setCell_same wx w.heap.size 1 _ _ _ h.b1]; rfl, by rw [heap_setCell_other _ _ _ _ (by simp)]; exact h.b2, h.bel.setCell (by simp) u⟩
theorem BoxAt.setN {w wx : World} {n : Int} {tv nv cv : Value} (h : BoxAt w wx n tv nv cv) (u : Value) : BoxAt w (wx.setCell ⟨w.heap.size, 2, none⟩ u) n tv u cv :=
  ⟨by rw [heap_setCell_same wx w.heap.size 2 _ _ _ h.b1]; rfl, by rw [heap_setCell_other _ _ _ _ (by simp)]; exact h.b2, h.bel.setCell (by simp) u⟩
theorem BoxAt.setC {w wx : World} {n : Int} {tv nv cv : Value} (h : BoxAt w wx n tv nv cv) (u : Value) : BoxAt w (wx.setCell ⟨w.heap.size, 3, none⟩ u) n tv nv u :=
  ⟨by rw [heap_setCell_same wx w.heap.size 3 _ _ _ h.b1]; rfl, by rw [heap_setCell_other _ _ _ _ (by simp)]; exact h.b2, h.bel.setCell (by simp) u⟩
theorem BoxAt.start (w : World) (n : Int) (tv nv cv : Value) (k : Nat) : BoxAt w (((w.alloc (.cells #[.int .i64 n, tv, nv, cv] 25)).alloc (.cells #[.int .i64 0, .slice none 0 0, .slice none 0 0, .slice none 0 0] 25)).drewN k) n tv nv cv := by
  have hz : (w.alloc (.cells #[.int .i64 n, tv, nv, cv] 25)).heap.size = w.heap.size + 1 := by simp
  refine ⟨?_, ?_, below_dn (((Below.refl _ w).alloc (Nat.le_refl _) _).alloc (by simp) _) k⟩
  · show ((w.alloc _).alloc _).heap[w.heap.size]? = _
    exact (heap_alloc_old _ _ (by simp)).trans (heap_alloc_new w _)
  · show ((w.alloc _).alloc _).heap[w.heap.size + 1]? = _
    rw [← hz]; exact heap_alloc_new _ _
/-- A net's four cells stored into the room made for it. -/
theorem box_done {w wx : World} {n : Int} {tv nv cv : Value} (h : BoxAt w wx n tv nv cv) (n' : Int) (a b c : Value) : ((((wx.setCell ⟨w.heap.size + 1, 0, none⟩ (.int .i64 n')).setCell ⟨w.heap.size + 1, 1, none⟩ a).setCell ⟨w.heap.size + 1, 2, none⟩ b).setCell ⟨w.heap.size + 1, 3, none⟩ c).heap[w.heap.size + 1]? = some (.cells #[.int .i64 n', a, b, c] 25 (0, 0)) := by
  have h0 := heap_setCell_same wx (w.heap.size + 1) 0 _ _ (.int .i64 n') h.b2
  have h1 := heap_setCell_same _ (w.heap.size + 1) 1 _ _ a h0
  have h2 := heap_setCell_same _ (w.heap.size + 1) 2 _ _ b h1
  have h3 := heap_setCell_same _ (w.heap.size + 1) 3 _ _ c h2
  rw [h3]; rfl
theorem four_own {wx : World} {p B : Nat} {v : Value} {l : List Int} (h : OwnI wx B v l) (hp : p < B) (n : Int) (a b c : Value) : OwnI ((((wx.setCell ⟨p, 0, none⟩ (.int .i64 n)).setCell ⟨p, 1, none⟩ a).setCell ⟨p, 2, none⟩ b).setCell ⟨p, 3, none⟩ c) B v l :=
  own_store (own_store (own_store (own_store h hp _ _) hp _ _) hp _ _) hp _ _
theorem four_below {w wx : World} (h : Below w.heap.size w wx) (s : Nat) (hs : s = w.heap.size) (n : Int) (a b c : Value) : Below w.heap.size w ((((wx.setCell ⟨s + 1, 0, none⟩ (.int .i64 n)).setCell ⟨s + 1, 1, none⟩ a).setCell ⟨s + 1, 2, none⟩ b).setCell ⟨s + 1, 3, none⟩ c) := by
  subst hs
  exact (((h.setCell (by simp) _).setCell (by simp) _).setCell (by simp) _).setCell (by simp) _
set_option maxRecDepth 100000 in
set_option maxHeartbeats 600000 in
theorem redge_any (q : Sp.Net) (u tu nu cu x : Value) (y0 y1 y2 y3 : Int) (w : World) (hu : NetI w u q tu nu cu) (hx : Ints w x [y0, y1, y2, y3]) (hl1 : q.tail.length ≤ 238) (hl2 : q.next.length ≤ 238) (hl3 : q.cap.length ≤ 238)
    (h0 : 0 ≤ y0) (h0' : y0 < q.n) (h1 : 0 ≤ y1) (h1' : y1 < q.n) (h2 : y2 ≤ 2147483648) (h3 : y3 ≤ 2147483648) :
    Calls Try.prog 46 #[u, x] w fun e w' => ∃ v tv nv cv, e = .returned (.tuple #[v, .int .i64 0]) ∧ NetV w' w.heap.size v (Sp.edgeN q y0 y1 y2 y3) tv nv cv ∧ Below w.heap.size w w' := by
  obtain ⟨rfl, u1, u2, u3⟩ := hu
  have HB0 : Hid (∀ o o', Below w.heap.size w ((w.alloc o).alloc o')) := hide fun o o' => ((Below.refl _ w).alloc (Nat.le_refl _) o).alloc (by simp) o'
  obtain ⟨b, o, c, rfl, hc, hm, hbl, hcell⟩ := hx.at (by simp)
  have HX : Hid (∀ w', Below w.heap.size w w' → w'.cell? ⟨b, o, none⟩ = some (.int .i64 y0) ∧ w'.cell? ⟨b, o + 1, none⟩ = some (.int .i64 y1) ∧ w'.cell? ⟨b, o + 2, none⟩ = some (.int .i64 y2) ∧ w'.cell? ⟨b, o + 3, none⟩ = some (.int .i64 y3)) := hide fun w' hb =>
    ⟨(hb.cell (by exact hbl)).trans (hcell 0 (by simp)), (hb.cell (by exact hbl)).trans (hcell 1 (by simp)), (hb.cell (by exact hbl)).trans (hcell 2 (by simp)), (hb.cell (by exact hbl)).trans (hcell 3 (by simp))⟩
  clear hcell hx
  have U1 := hide (fun w' (hb : Below w.heap.size w w') => u1.below hb)
  have U2 := hide (fun w' (hb : Below w.heap.size w w') => u2.below hb)
  have U3 := hide (fun w' (hb : Below w.heap.size w w') => u3.below hb)
  obtain ⟨ta, tc, rfl, htc, htm⟩ := u1.form
  obtain ⟨na, nc, rfl, hnc, hnm⟩ := u2.form
  obtain ⟨ca, cc, rfl, hcc, hcm⟩ := u3.form
  clear u1 u2 u3
  have d0 : decide (y0 < 0) = false := decide_eq_false (by omega)
  have d1 : decide (y1 < 0) = false := decide_eq_false (by omega)
  have d2 : decide (q.n ≤ y0) = false := decide_eq_false (by omega)
  have d3 : decide (q.n ≤ y1) = false := decide_eq_false (by omega)
  have d4 : ¬ 2147483648 < y2 := by omega
  have d5 : ¬ 2147483648 < y3 := by omega
  obtain ⟨o1, ho1⟩ : ∃ o1 : Obj, o1 = .cells #[.int .i64 q.n, .slice ta q.tail.length tc, .slice na q.next.length nc, .slice ca q.cap.length cc] 25 := ⟨_, rfl⟩
  obtain ⟨o2, ho2⟩ : ∃ o2 : Obj, o2 = .cells #[.int .i64 0, .slice none 0 0, .slice none 0 0, .slice none 0 0] 25 := ⟨_, rfl⟩
  obtain ⟨g0, g1, g2, g3⟩ := unhide HX _ (unhide HB0 o1 o2)
  subst ho1 ho2
  go_enter Try.func46, Try.ntmps46
  go_wp2
  go_quiet (fail)
  go_upto_region 8 with fail
  clear d0 d1 d2 d3 d4 d5 g0 g1 g2 g3 HB0
  have HX0 := hide (BoxAt.start w q.n (.slice ta q.tail.length tc) (.slice na q.next.length nc) (.slice ca q.cap.length cc) nq)
  generalize (((w.alloc (.cells #[.int .i64 q.n, .slice ta q.tail.length tc, .slice na q.next.length nc, .slice ca q.cap.length cc] 25)).alloc (.cells #[.int .i64 0, .slice none 0 0, .slice none 0 0, .slice none 0 0] 25)).drewN nq) = W2 at *
  go_cut [] (fun wx => ∃ a' c', OwnI wx (w.heap.size + 2) (.slice a' (q.tail.length + 2) c') (q.tail ++ [y0, y1]) ∧ BoxAt w wx q.n (.slice a' (q.tail.length + 2) c') (.slice na q.next.length nc) (.slice ca q.cap.length cc))
  case first =>
    have HX1 := hide ((unhide HX0).below (Below.refl _ _).drew)
    have HS : Hid (∀ w', Below W2.drew.heap.size W2.drew w' → w'.cell? ⟨w.heap.size, 1, none⟩ = some (.slice ta q.tail.length tc) ∧ w'.cell? ⟨b, o, none⟩ = some (.int .i64 y0) ∧ w'.cell? ⟨b, o + 1, none⟩ = some (.int .i64 y1)) := by
      refine hide fun w' hb => ?_
      have h := (unhide HX1).below hb
      obtain ⟨x0, x1, x2, x3⟩ := unhide HX _ h.bel
      exact ⟨(obj_cells h.b1).2.1, x0, x1⟩
    have HU : Hid (∀ w', Below W2.drew.heap.size W2.drew w' → Ints w' (.slice ta q.tail.length tc) q.tail) := hide fun w' hb => unhide U1 _ ((unhide HX1).below hb).bel
    have hsz := (unhide HX1).size
    refine wp_region_G (fun w' => w'.cell? ⟨w.heap.size, 1, none⟩ = some (.slice ta q.tail.length tc) ∧ w'.cell? ⟨b, o, none⟩ = some (.int .i64 y0) ∧ w'.cell? ⟨b, o + 1, none⟩ = some (.int .i64 y1)) (fun i => i == 13) (by kernel_rfl) (unhide HS _ (Below.refl _ _)) (fun hHeld => ?_)
    generalize W2.drew = W3 at *
    refine wpAnyG_take (v := ?_) 1 (by rfl) (by kernel_rfl) (by kernel_rfl) (by kernel_rfl) (by kernel_rfl) (fun _ _ _ h => h) (Or.inl ⟨by rfl, ?_⟩) (by assumption) ?_
    rotate_left
    · (intro w' hSw; (try dsimp only at hSw); (try simp only [List.getElem_toArray, List.getElem_cons_succ, List.getElem_cons_zero]); go_simp; try (with_reducible rfl))
    simp only [Act.put, List.getElem_toArray, List.getElem_cons_succ, List.getElem_cons_zero, List.setIfInBounds_toArray, List.set_cons_zero, List.set_cons_succ]
    refine wpAnyG_take (v := ?_) 2 (by rfl) (by kernel_rfl) (by kernel_rfl) (by kernel_rfl) (by kernel_rfl) (fun _ _ _ h => h) (Or.inl ⟨by rfl, ?_⟩) (by assumption) ?_
    rotate_left
    · (intro w' hSw; (try dsimp only at hSw); (try simp only [List.getElem_toArray, List.getElem_cons_succ, List.getElem_cons_zero]); go_simp; try (with_reducible rfl))
    simp only [Act.put, List.getElem_toArray, List.getElem_cons_succ, List.getElem_cons_zero, List.setIfInBounds_toArray, List.set_cons_zero, List.set_cons_succ]
    refine wpAnyG_take (v := ?_) 4 (by rfl) (by kernel_rfl) (by kernel_rfl) (by kernel_rfl) (by kernel_rfl) (fun _ _ _ h => h) (Or.inl ⟨by rfl, ?_⟩) (by assumption) ?_
    rotate_left
    · (intro w' hSw; (try dsimp only at hSw); (try simp only [List.getElem_toArray, List.getElem_cons_succ, List.getElem_cons_zero]); go_simp; try (with_reducible rfl))
    simp only [Act.put, List.getElem_toArray, List.getElem_cons_succ, List.getElem_cons_zero, List.setIfInBounds_toArray, List.set_cons_zero, List.set_cons_succ]
    refine wpAnyG_take (v := ?_) 5 (by rfl) (by kernel_rfl) (by kernel_rfl) (by kernel_rfl) (by kernel_rfl) (fun _ _ _ h => h) (Or.inl ⟨by rfl, ?_⟩) (by assumption) ?_
    rotate_left
    · (intro w' hSw; (try dsimp only at hSw); (try simp only [List.getElem_toArray, List.getElem_cons_succ, List.getElem_cons_zero]); go_simp; try (with_reducible rfl))
    simp only [Act.put, List.getElem_toArray, List.getElem_cons_succ, List.getElem_cons_zero, List.setIfInBounds_toArray, List.set_cons_zero, List.set_cons_succ]
    refine wpAnyG_take (v := ?_) 6 (by rfl) (by kernel_rfl) (by kernel_rfl) (by kernel_rfl) (by kernel_rfl) (fun _ _ _ h => h) (Or.inl ⟨by rfl, ?_⟩) (by assumption) ?_
    rotate_left
    · (intro w' hSw; (try dsimp only at hSw); (try simp only [List.getElem_toArray, List.getElem_cons_succ, List.getElem_cons_zero]); go_simp; try (with_reducible rfl))
    simp only [Act.put, List.getElem_toArray, List.getElem_cons_succ, List.getElem_cons_zero, List.setIfInBounds_toArray, List.set_cons_zero, List.set_cons_succ]
    refine wpAnyG_take (v := ?_) 7 (by rfl) (by kernel_rfl) (by kernel_rfl) (by kernel_rfl) (by kernel_rfl) (fun _ _ _ h => h) (Or.inl ⟨by rfl, ?_⟩) (by assumption) ?_
    rotate_left
    · (intro w' hSw; (try dsimp only at hSw); (try simp only [List.getElem_toArray, List.getElem_cons_succ, List.getElem_cons_zero]); go_simp; try (with_reducible rfl))
    simp only [Act.put, List.getElem_toArray, List.getElem_cons_succ, List.getElem_cons_zero, List.setIfInBounds_toArray, List.set_cons_zero, List.set_cons_succ]
    refine wpAnyG_take (v := ?_) 8 (by rfl) (by kernel_rfl) (by kernel_rfl) (by kernel_rfl) (by kernel_rfl) (fun _ _ _ h => h) (Or.inl ⟨by rfl, ?_⟩) (by assumption) ?_
    rotate_left
    · (intro w' hSw; (try dsimp only at hSw); (try simp only [List.getElem_toArray, List.getElem_cons_succ, List.getElem_cons_zero]); go_simp; try (with_reducible rfl))
    simp only [Act.put, List.getElem_toArray, List.getElem_cons_succ, List.getElem_cons_zero, List.setIfInBounds_toArray, List.set_cons_zero, List.set_cons_succ]
    refine wpAnyG_take (v := ?_) 9 (by rfl) (by kernel_rfl) (by kernel_rfl) (by kernel_rfl) (by kernel_rfl) (fun _ _ _ h => h) (Or.inl ⟨by rfl, ?_⟩) (by assumption) ?_
    rotate_left
    · (intro w' hSw; (try dsimp only at hSw); (try simp only [List.getElem_toArray, List.getElem_cons_succ, List.getElem_cons_zero]); go_simp; try (with_reducible rfl))
    simp only [Act.put, List.getElem_toArray, List.getElem_cons_succ, List.getElem_cons_zero, List.setIfInBounds_toArray, List.set_cons_zero, List.set_cons_succ]
    refine wpAnyG_ready [0, 10] (by kernel_rfl) (by simp) ?_
    refine AllReadyG.cons 0 (by rfl) (fun K hK => ?_) ?_
    · simp only [List.getElem_toArray, List.getElem_cons_zero]
      go_simp
      refine hK.out _ _ (unhide HS _ (by repeat (first | assumption | exact Below.refl _ _ | refine Below.drew ?_ | refine Below.alloc ?_ (by first | omega | (simp; done) | (simp; omega)) _))) (fun _ => ?_)
      clear hK K
      try simp only [Act.put, List.setIfInBounds_toArray, List.set_cons_zero, List.set_cons_succ]
      refine wpAnyG_ready [3, 10] (by kernel_rfl) (by simp) ?_
      refine AllReadyG.cons 3 (by rfl) (fun K hK => ?_) ?_
      · simp only [List.getElem_toArray, List.getElem_cons_succ, List.getElem_cons_zero]
        refine if_wanted (by rfl) (wp_app (w := W3.alloc (.cells #[] 3)) _ _ (by rfl) W3.heap.size _ _ [] q.tail (by rfl) (by rfl) (own_lit (W3) _ (W3.heap.size) 0 [] (by simp) rfl (by first | omega | (simp; done) | (simp; omega)) (by simp)) (unhide HU _ (by repeat (first | assumption | exact Below.refl _ _ | refine Below.drew ?_ | refine Below.alloc ?_ (by first | omega | (simp; done) | (simp; omega)) _))) q.tail.length (by simp) (by omega) (by first | omega | (simp; done) | (simp; omega)) ?_)
        intro a5 c5 w5 hown5 hb5 hgr5
        have hb5' : Below W3.heap.size W3 w5 := Below.trans (by repeat (first | assumption | exact Below.refl _ _ | refine Below.drew ?_ | refine Below.alloc ?_ (by first | omega | (simp; done) | (simp; omega)) _)) hb5
        have hs5 := hb5'.size
        skip
        clear hb5 hgr5
        refine hK.out _ _ (unhide HS _ (by repeat (first | assumption | exact Below.refl _ _ | refine Below.drew ?_ | refine Below.alloc ?_ (by first | omega | (simp; done) | (simp; omega)) _))) (fun _ => ?_)
        clear hK K
        try simp only [Act.put, List.setIfInBounds_toArray, List.set_cons_zero, List.set_cons_succ]
        refine wpAnyG_ready [10] (by kernel_rfl) (by simp) ?_
        refine AllReadyG.cons 10 (by rfl) (fun K hK => ?_) ?_
        · simp only [List.getElem_toArray, List.getElem_cons_succ, List.getElem_cons_zero]
          go_simp
          refine hK.out _ _ (unhide HS _ (by repeat (first | assumption | exact Below.refl _ _ | refine Below.drew ?_ | refine Below.alloc ?_ (by first | omega | (simp; done) | (simp; omega)) _))) (fun _ => ?_)
          clear hK K
          try simp only [Act.put, List.setIfInBounds_toArray, List.set_cons_zero, List.set_cons_succ]
          refine wpAnyG_ready [11] (by kernel_rfl) (by simp) ?_
          refine AllReadyG.cons 11 (by rfl) (fun K hK => ?_) ?_
          · simp only [List.getElem_toArray, List.getElem_cons_succ, List.getElem_cons_zero]
            refine if_wanted (by rfl) (wp_app (w := w5.alloc (.cells #[.int .i64 y0, .int .i64 y1] 3)) _ _ (by rfl) W3.heap.size _ _ q.tail [y0, y1] (by rfl) (by rfl) (World.ownsRow.alloc hown5 _) (OwnI.ints (own_lit (w5) 0 (w5.heap.size) 2 [y0, y1] (by simp) rfl (by omega) (by simp))) (q.tail.length + 2) (by simp) (by omega) (by first | omega | (simp; done) | (simp; omega)) ?_)
            intro a6 c6 w6 hown6 hb6 hgr6
            have hb6' : Below W3.heap.size W3 w6 := Below.trans (by repeat (first | assumption | exact Below.refl _ _ | refine Below.drew ?_ | refine Below.alloc ?_ (by first | omega | (simp; done) | (simp; omega)) _)) hb6
            have hbox6 := (unhide HX1).below hb6'
            obtain ⟨m0, m1, m2, m3, n0, n1, n2, n3⟩ := obj_cells hbox6.b1
            clear hb6 hgr6
            refine hK.out _ _ (unhide HS _ (by repeat (first | assumption | exact Below.refl _ _ | refine Below.drew ?_ | refine Below.alloc ?_ (by first | omega | (simp; done) | (simp; omega)) _))) (fun _ => ?_)
            clear hK K
            try simp only [Act.put, List.setIfInBounds_toArray, List.set_cons_zero, List.set_cons_succ]
            refine wpAnyG_take (v := ?_) 12 (by rfl) (by kernel_rfl) (by kernel_rfl) (by kernel_rfl) (by kernel_rfl) (fun _ _ _ h => h) (Or.inl ⟨by rfl, ?_⟩) (by assumption) ?_
            rotate_left
            · (intro w' hSw; (try dsimp only at hSw); (try simp only [List.getElem_toArray, List.getElem_cons_succ, List.getElem_cons_zero]); go_simp; try (with_reducible rfl))
            simp only [Act.put, List.getElem_toArray, List.getElem_cons_succ, List.getElem_cons_zero, List.setIfInBounds_toArray, List.set_cons_zero, List.set_cons_succ]
            refine wpAnyG_ready [13] (by kernel_rfl) (by simp) ?_
            refine AllReadyG.last 13 (by rfl) (by kernel_rfl) (fun K hK => ?_) ?_
            · simp only [List.getElem_toArray, List.getElem_cons_succ, List.getElem_cons_zero]
              go_simp
              refine hK.out _ _ ?_
              clear hK K
              try simp only [Act.put, List.setIfInBounds_toArray, List.set_cons_zero, List.set_cons_succ]
              refine wpAnyG_done (by kernel_rfl) ?_ _
              refine NoPanic.normal ?_
              go_wp2
              go_meet
              exact ⟨_, _, own_store (own_base hown6 (by omega)) (by omega) _ _, hbox6.setT _⟩
            exact AllReadyG.nil
          exact AllReadyG.nil
        exact AllReadyG.nil
      refine AllReadyG.cons 10 (by rfl) (fun K hK => ?_) ?_
      · simp only [List.getElem_toArray, List.getElem_cons_succ, List.getElem_cons_zero]
        go_simp
        refine hK.out _ _ (unhide HS _ (by repeat (first | assumption | exact Below.refl _ _ | refine Below.drew ?_ | refine Below.alloc ?_ (by first | omega | (simp; done) | (simp; omega)) _))) (fun _ => ?_)
        clear hK K
        try simp only [Act.put, List.setIfInBounds_toArray, List.set_cons_zero, List.set_cons_succ]
        refine wpAnyG_ready [3] (by kernel_rfl) (by simp) ?_
        refine AllReadyG.cons 3 (by rfl) (fun K hK => ?_) ?_
        · simp only [List.getElem_toArray, List.getElem_cons_succ, List.getElem_cons_zero]
          refine if_wanted (by rfl) (wp_app (w := (W3.alloc (.cells #[] 3)).alloc (.cells #[.int .i64 y0, .int .i64 y1] 3)) _ _ (by rfl) W3.heap.size _ _ [] q.tail (by rfl) (by rfl) (World.ownsRow.alloc (own_lit (W3) _ (W3.heap.size) 0 [] (by simp) rfl (by first | omega | (simp; done) | (simp; omega)) (by simp)) _) (unhide HU _ (by repeat (first | assumption | exact Below.refl _ _ | refine Below.drew ?_ | refine Below.alloc ?_ (by first | omega | (simp; done) | (simp; omega)) _))) q.tail.length (by simp) (by omega) (by first | omega | (simp; done) | (simp; omega)) ?_)
          intro a5 c5 w5 hown5 hb5 hgr5
          have hb5' : Below W3.heap.size W3 w5 := Below.trans (by repeat (first | assumption | exact Below.refl _ _ | refine Below.drew ?_ | refine Below.alloc ?_ (by first | omega | (simp; done) | (simp; omega)) _)) hb5
          have hs5 := hb5'.size
          have hlit5 := lit_kept (own_lit (W3.alloc (.cells #[] 3)) 0 (W3.heap.size + 1) 2 [y0, y1] (by simp) rfl (by omega) (by simp)) hgr5 (by first | omega | (simp; done) | (simp; omega))
          clear hb5 hgr5
          refine hK.out _ _ (unhide HS _ (by repeat (first | assumption | exact Below.refl _ _ | refine Below.drew ?_ | refine Below.alloc ?_ (by first | omega | (simp; done) | (simp; omega)) _))) (fun _ => ?_)
          clear hK K
          try simp only [Act.put, List.setIfInBounds_toArray, List.set_cons_zero, List.set_cons_succ]
          refine wpAnyG_ready [11] (by kernel_rfl) (by simp) ?_
          refine AllReadyG.cons 11 (by rfl) (fun K hK => ?_) ?_
          · simp only [List.getElem_toArray, List.getElem_cons_succ, List.getElem_cons_zero]
            refine if_wanted (by rfl) (wp_app (w := w5) _ _ (by rfl) W3.heap.size _ _ q.tail [y0, y1] (by rfl) (by rfl) (hown5) (OwnI.ints (hlit5)) (q.tail.length + 2) (by simp) (by omega) (by first | omega | (simp; done) | (simp; omega)) ?_)
            intro a6 c6 w6 hown6 hb6 hgr6
            have hb6' : Below W3.heap.size W3 w6 := Below.trans (by repeat (first | assumption | exact Below.refl _ _ | refine Below.drew ?_ | refine Below.alloc ?_ (by first | omega | (simp; done) | (simp; omega)) _)) hb6
            have hbox6 := (unhide HX1).below hb6'
            obtain ⟨m0, m1, m2, m3, n0, n1, n2, n3⟩ := obj_cells hbox6.b1
            clear hb6 hgr6
            refine hK.out _ _ (unhide HS _ (by repeat (first | assumption | exact Below.refl _ _ | refine Below.drew ?_ | refine Below.alloc ?_ (by first | omega | (simp; done) | (simp; omega)) _))) (fun _ => ?_)
            clear hK K
            try simp only [Act.put, List.setIfInBounds_toArray, List.set_cons_zero, List.set_cons_succ]
            refine wpAnyG_take (v := ?_) 12 (by rfl) (by kernel_rfl) (by kernel_rfl) (by kernel_rfl) (by kernel_rfl) (fun _ _ _ h => h) (Or.inl ⟨by rfl, ?_⟩) (by assumption) ?_
            rotate_left
            · (intro w' hSw; (try dsimp only at hSw); (try simp only [List.getElem_toArray, List.getElem_cons_succ, List.getElem_cons_zero]); go_simp; try (with_reducible rfl))
            simp only [Act.put, List.getElem_toArray, List.getElem_cons_succ, List.getElem_cons_zero, List.setIfInBounds_toArray, List.set_cons_zero, List.set_cons_succ]
            refine wpAnyG_ready [13] (by kernel_rfl) (by simp) ?_
            refine AllReadyG.last 13 (by rfl) (by kernel_rfl) (fun K hK => ?_) ?_
            · simp only [List.getElem_toArray, List.getElem_cons_succ, List.getElem_cons_zero]
              go_simp
              refine hK.out _ _ ?_
              clear hK K
              try simp only [Act.put, List.setIfInBounds_toArray, List.set_cons_zero, List.set_cons_succ]
              refine wpAnyG_done (by kernel_rfl) ?_ _
              refine NoPanic.normal ?_
              go_wp2
              go_meet
              exact ⟨_, _, own_store (own_base hown6 (by omega)) (by omega) _ _, hbox6.setT _⟩
            exact AllReadyG.nil
          exact AllReadyG.nil
        exact AllReadyG.nil
      exact AllReadyG.nil
    refine AllReadyG.cons 10 (by rfl) (fun K hK => ?_) ?_
    · simp only [List.getElem_toArray, List.getElem_cons_succ, List.getElem_cons_zero]
      go_simp
      refine hK.out _ _ (unhide HS _ (by repeat (first | assumption | exact Below.refl _ _ | refine Below.drew ?_ | refine Below.alloc ?_ (by first | omega | (simp; done) | (simp; omega)) _))) (fun _ => ?_)
      clear hK K
      try simp only [Act.put, List.setIfInBounds_toArray, List.set_cons_zero, List.set_cons_succ]
      refine wpAnyG_ready [0] (by kernel_rfl) (by simp) ?_
      refine AllReadyG.cons 0 (by rfl) (fun K hK => ?_) ?_
      · simp only [List.getElem_toArray, List.getElem_cons_zero]
        go_simp
        refine hK.out _ _ (unhide HS _ (by repeat (first | assumption | exact Below.refl _ _ | refine Below.drew ?_ | refine Below.alloc ?_ (by first | omega | (simp; done) | (simp; omega)) _))) (fun _ => ?_)
        clear hK K
        try simp only [Act.put, List.setIfInBounds_toArray, List.set_cons_zero, List.set_cons_succ]
        refine wpAnyG_ready [3] (by kernel_rfl) (by simp) ?_
        refine AllReadyG.cons 3 (by rfl) (fun K hK => ?_) ?_
        · simp only [List.getElem_toArray, List.getElem_cons_succ, List.getElem_cons_zero]
          refine if_wanted (by rfl) (wp_app (w := (W3.alloc (.cells #[.int .i64 y0, .int .i64 y1] 3)).alloc (.cells #[] 3)) _ _ (by rfl) W3.heap.size _ _ [] q.tail (by rfl) (by rfl) (own_lit (W3.alloc (.cells #[.int .i64 y0, .int .i64 y1] 3)) _ (W3.heap.size + 1) 0 [] (by simp) rfl (by first | omega | (simp; done) | (simp; omega)) (by simp)) (unhide HU _ (by repeat (first | assumption | exact Below.refl _ _ | refine Below.drew ?_ | refine Below.alloc ?_ (by first | omega | (simp; done) | (simp; omega)) _))) q.tail.length (by simp) (by omega) (by first | omega | (simp; done) | (simp; omega)) ?_)
          intro a5 c5 w5 hown5 hb5 hgr5
          have hb5' : Below W3.heap.size W3 w5 := Below.trans (by repeat (first | assumption | exact Below.refl _ _ | refine Below.drew ?_ | refine Below.alloc ?_ (by first | omega | (simp; done) | (simp; omega)) _)) hb5
          have hs5 := hb5'.size
          have hlit5 := lit_kept (World.ownsRow.alloc (own_lit (W3) 0 (W3.heap.size) 2 [y0, y1] (by simp) rfl (by omega) (by simp)) _) hgr5 (by first | omega | (simp; done) | (simp; omega))
          clear hb5 hgr5
          refine hK.out _ _ (unhide HS _ (by repeat (first | assumption | exact Below.refl _ _ | refine Below.drew ?_ | refine Below.alloc ?_ (by first | omega | (simp; done) | (simp; omega)) _))) (fun _ => ?_)
          clear hK K
          try simp only [Act.put, List.setIfInBounds_toArray, List.set_cons_zero, List.set_cons_succ]
          refine wpAnyG_ready [11] (by kernel_rfl) (by simp) ?_
          refine AllReadyG.cons 11 (by rfl) (fun K hK => ?_) ?_
          · simp only [List.getElem_toArray, List.getElem_cons_succ, List.getElem_cons_zero]
            refine if_wanted (by rfl) (wp_app (w := w5) _ _ (by rfl) W3.heap.size _ _ q.tail [y0, y1] (by rfl) (by rfl) (hown5) (OwnI.ints (hlit5)) (q.tail.length + 2) (by simp) (by omega) (by first | omega | (simp; done) | (simp; omega)) ?_)
            intro a6 c6 w6 hown6 hb6 hgr6
            have hb6' : Below W3.heap.size W3 w6 := Below.trans (by repeat (first | assumption | exact Below.refl _ _ | refine Below.drew ?_ | refine Below.alloc ?_ (by first | omega | (simp; done) | (simp; omega)) _)) hb6
            have hbox6 := (unhide HX1).below hb6'
            obtain ⟨m0, m1, m2, m3, n0, n1, n2, n3⟩ := obj_cells hbox6.b1
            clear hb6 hgr6
            refine hK.out _ _ (unhide HS _ (by repeat (first | assumption | exact Below.refl _ _ | refine Below.drew ?_ | refine Below.alloc ?_ (by first | omega | (simp; done) | (simp; omega)) _))) (fun _ => ?_)
            clear hK K
            try simp only [Act.put, List.setIfInBounds_toArray, List.set_cons_zero, List.set_cons_succ]
            refine wpAnyG_take (v := ?_) 12 (by rfl) (by kernel_rfl) (by kernel_rfl) (by kernel_rfl) (by kernel_rfl) (fun _ _ _ h => h) (Or.inl ⟨by rfl, ?_⟩) (by assumption) ?_
            rotate_left
            · (intro w' hSw; (try dsimp only at hSw); (try simp only [List.getElem_toArray, List.getElem_cons_succ, List.getElem_cons_zero]); go_simp; try (with_reducible rfl))
            simp only [Act.put, List.getElem_toArray, List.getElem_cons_succ, List.getElem_cons_zero, List.setIfInBounds_toArray, List.set_cons_zero, List.set_cons_succ]
            refine wpAnyG_ready [13] (by kernel_rfl) (by simp) ?_
            refine AllReadyG.last 13 (by rfl) (by kernel_rfl) (fun K hK => ?_) ?_
            · simp only [List.getElem_toArray, List.getElem_cons_succ, List.getElem_cons_zero]
              go_simp
              refine hK.out _ _ ?_
              clear hK K
              try simp only [Act.put, List.setIfInBounds_toArray, List.set_cons_zero, List.set_cons_succ]
              refine wpAnyG_done (by kernel_rfl) ?_ _
              refine NoPanic.normal ?_
              go_wp2
              go_meet
              exact ⟨_, _, own_store (own_base hown6 (by omega)) (by omega) _ _, hbox6.setT _⟩
            exact AllReadyG.nil
          exact AllReadyG.nil
        exact AllReadyG.nil
      exact AllReadyG.nil
    exact AllReadyG.nil
  case rest =>
    obtain ⟨wA, rfl⟩ : ∃ wA, wA = wc := ⟨_, rfl⟩
    obtain ⟨a8, c8, hown8, hbox8⟩ := hcut
    clear HX0
    have hs8 := hbox8.size
    obtain ⟨m0, m1, m2, m3, n0, n1, n2, n3⟩ := obj_cells hbox8.b1
    have HB8 := hide hbox8
    have k2 : ∀ ob, (wA.alloc ob).cell? ⟨w.heap.size, 2, none⟩ = some (.slice na q.next.length nc) := fun ob => (obj_cells ((unhide HB8).below ((Below.refl _ _).alloc (Nat.le_refl _) ob)).b1).2.2.1
    go_wp2_with (at_builtin; refine wpList_app (w := wA.alloc (.cells #[] 3)) rfl _ _ rfl wA.heap.size _ _ [] q.next rfl rfl (own_lit wA _ _ 0 [] rfl rfl (Nat.le_refl _) (by simp)) (unhide U2 _ ((unhide HB8).below ((Below.refl _ _).alloc (Nat.le_refl _) _)).bel) q.next.length (by simp) (by omega) (by simp) ?_)
    intro a9 c9 w9 hown9 hb9 hgr9
    have hb9' : Below wA.heap.size wA w9 := ((Below.refl _ _).alloc (Nat.le_refl _) _).trans hb9
    have hs9 := hb9'.size
    clear hgr9 hb9
    go_wp2_with (at_builtin; refine wpList_app (w := w9.alloc (.cells #[.int .i64 (q.tail.length : Int), .int .i64 ((q.tail.length : Int) + 1)] 3)) rfl _ _ rfl wA.heap.size _ _ q.next [(q.tail.length : Int), (q.tail.length : Int) + 1] rfl rfl (World.ownsRow.alloc hown9 _) (OwnI.ints (own_lit w9 0 _ 2 [(q.tail.length : Int), (q.tail.length : Int) + 1] rfl rfl (by omega) (by simp))) (q.next.length + 2) (by simp) (by omega) (by first | omega | (simp; omega)) ?_)
    intro a10 c10 w10 hown10 hb10 hgr10
    have hb10' : Below wA.heap.size wA w10 := (hb9'.alloc (by omega) _).trans hb10
    have hbox10 := (unhide HB8).below hb10'
    have hown8' := own_below hown8 hb10'
    clear m0 m1 m2 m3 n0 n1 n2 n3 k2
    obtain ⟨m0, m1, m2, m3, n0, n1, n2, n3⟩ := obj_cells hbox10.b1
    clear hgr10 hb10 HB8 hbox8 hb9' hown9
    go_upto_region 10 with fail
    have hT := hide (own_store hown8' (by omega : w.heap.size < w.heap.size + 2) 2 (.slice a10 (q.next.length + 2) c10))
    have hN := hide (own_store hown10 (by omega : w.heap.size < wA.heap.size) 2 (.slice a10 (q.next.length + 2) c10))
    have HX0 := hide (hbox10.setN (.slice a10 (q.next.length + 2) c10))
    have hWs : Hid (wA.heap.size ≤ (w10.setCell ⟨w.heap.size, 2, none⟩ (.slice a10 (q.next.length + 2) c10)).heap.size) := hide (by rw [World.size_setCell]; exact hb10'.size)
    have hlt8 : ∀ k, (Value.slice a8 (q.tail.length + 2) c8).ownBlock = some k → k < wA.heap.size := fun k hk => (hown8.lt k hk).2
    have Hlt8 := hide hlt8
    clear m0 m1 m2 m3 n0 n1 n2 n3 hbox10 hown8' hown10 hb10' hlt8 hown8
    generalize w10.setCell ⟨w.heap.size, 2, none⟩ (.slice a10 (q.next.length + 2) c10) = W2 at *
    have hlt9 : ∀ k, (Value.slice a10 (q.next.length + 2) c10).ownBlock = some k → k < W2.heap.size := fun k hk => ((unhide hN).lt k hk).2
    have Hlt9 := hide hlt9
    clear hlt9
    go_cut [] (fun wx => ∃ a' c', OwnI wx W2.heap.size (.slice a' (q.cap.length + 2) c') (q.cap ++ [y2, y3]) ∧ BoxAt w wx q.n (.slice a8 (q.tail.length + 2) c8) (.slice a10 (q.next.length + 2) c10) (.slice a' (q.cap.length + 2) c') ∧ OwnI wx (w.heap.size + 2) (.slice a8 (q.tail.length + 2) c8) (q.tail ++ [y0, y1]) ∧ OwnI wx wA.heap.size (.slice a10 (q.next.length + 2) c10) (q.next ++ [(q.tail.length : Int), (q.tail.length : Int) + 1]))
    case first =>
      have HX1 := hide ((unhide HX0).below (Below.refl _ _).drew)
      have HS : Hid (∀ w', Below W2.drew.heap.size W2.drew w' → w'.cell? ⟨w.heap.size, 3, none⟩ = some (.slice ca q.cap.length cc) ∧ w'.cell? ⟨b, o + 2, none⟩ = some (.int .i64 y2) ∧ w'.cell? ⟨b, o + 3, none⟩ = some (.int .i64 y3)) := by
        refine hide fun w' hb => ?_
        have h := (unhide HX1).below hb
        obtain ⟨x0, x1, x2, x3⟩ := unhide HX _ h.bel
        exact ⟨(obj_cells h.b1).2.2.2.1, x2, x3⟩
      have HU : Hid (∀ w', Below W2.drew.heap.size W2.drew w' → Ints w' (.slice ca q.cap.length cc) q.cap) := hide fun w' hb => unhide U3 _ ((unhide HX1).below hb).bel
      have hsz := (unhide HX1).size
      refine wp_region_G (fun w' => w'.cell? ⟨w.heap.size, 3, none⟩ = some (.slice ca q.cap.length cc) ∧ w'.cell? ⟨b, o + 2, none⟩ = some (.int .i64 y2) ∧ w'.cell? ⟨b, o + 3, none⟩ = some (.int .i64 y3)) (fun i => i == 13) (by kernel_rfl) (unhide HS _ (Below.refl _ _)) (fun hHeld => ?_)
      have hT3 := hide (own_drew (unhide hT))
      have hN3 := hide (own_drew (unhide hN))
      have hWW : Hid (W2.drew.heap.size = W2.heap.size) := hide rfl
      have hWc : Hid (wA.heap.size ≤ W2.heap.size ∧ w.heap.size + 1 < wA.heap.size) := hide ⟨(unhide hWs), hs8⟩
      generalize W2.drew = W3 at *
      refine wpAnyG_take (v := ?_) 1 (by rfl) (by kernel_rfl) (by kernel_rfl) (by kernel_rfl) (by kernel_rfl) (fun _ _ _ h => h) (Or.inl ⟨by rfl, ?_⟩) (by assumption) ?_
      rotate_left
      · (intro w' hSw; (try dsimp only at hSw); (try simp only [List.getElem_toArray, List.getElem_cons_succ, List.getElem_cons_zero]); go_simp; try (with_reducible rfl))
      simp only [Act.put, List.getElem_toArray, List.getElem_cons_succ, List.getElem_cons_zero, List.setIfInBounds_toArray, List.set_cons_zero, List.set_cons_succ]
      refine wpAnyG_take (v := ?_) 2 (by rfl) (by kernel_rfl) (by kernel_rfl) (by kernel_rfl) (by kernel_rfl) (fun _ _ _ h => h) (Or.inl ⟨by rfl, ?_⟩) (by assumption) ?_
      rotate_left
      · (intro w' hSw; (try dsimp only at hSw); (try simp only [List.getElem_toArray, List.getElem_cons_succ, List.getElem_cons_zero]); go_simp; try (with_reducible rfl))
      simp only [Act.put, List.getElem_toArray, List.getElem_cons_succ, List.getElem_cons_zero, List.setIfInBounds_toArray, List.set_cons_zero, List.set_cons_succ]
      refine wpAnyG_take (v := ?_) 4 (by rfl) (by kernel_rfl) (by kernel_rfl) (by kernel_rfl) (by kernel_rfl) (fun _ _ _ h => h) (Or.inl ⟨by rfl, ?_⟩) (by assumption) ?_
      rotate_left
      · (intro w' hSw; (try dsimp only at hSw); (try simp only [List.getElem_toArray, List.getElem_cons_succ, List.getElem_cons_zero]); go_simp; try (with_reducible rfl))
      simp only [Act.put, List.getElem_toArray, List.getElem_cons_succ, List.getElem_cons_zero, List.setIfInBounds_toArray, List.set_cons_zero, List.set_cons_succ]
      refine wpAnyG_take (v := ?_) 5 (by rfl) (by kernel_rfl) (by kernel_rfl) (by kernel_rfl) (by kernel_rfl) (fun _ _ _ h => h) (Or.inl ⟨by rfl, ?_⟩) (by assumption) ?_
      rotate_left
      · (intro w' hSw; (try dsimp only at hSw); (try simp only [List.getElem_toArray, List.getElem_cons_succ, List.getElem_cons_zero]); go_simp; try (with_reducible rfl))
      simp only [Act.put, List.getElem_toArray, List.getElem_cons_succ, List.getElem_cons_zero, List.setIfInBounds_toArray, List.set_cons_zero, List.set_cons_succ]
      refine wpAnyG_take (v := ?_) 6 (by rfl) (by kernel_rfl) (by kernel_rfl) (by kernel_rfl) (by kernel_rfl) (fun _ _ _ h => h) (Or.inl ⟨by rfl, ?_⟩) (by assumption) ?_
      rotate_left
      · (intro w' hSw; (try dsimp only at hSw); (try simp only [List.getElem_toArray, List.getElem_cons_succ, List.getElem_cons_zero]); go_simp; try (with_reducible rfl))
      simp only [Act.put, List.getElem_toArray, List.getElem_cons_succ, List.getElem_cons_zero, List.setIfInBounds_toArray, List.set_cons_zero, List.set_cons_succ]
      refine wpAnyG_take (v := ?_) 7 (by rfl) (by kernel_rfl) (by kernel_rfl) (by kernel_rfl) (by kernel_rfl) (fun _ _ _ h => h) (Or.inl ⟨by rfl, ?_⟩) (by assumption) ?_
      rotate_left
      · (intro w' hSw; (try dsimp only at hSw); (try simp only [List.getElem_toArray, List.getElem_cons_succ, List.getElem_cons_zero]); go_simp; try (with_reducible rfl))
      simp only [Act.put, List.getElem_toArray, List.getElem_cons_succ, List.getElem_cons_zero, List.setIfInBounds_toArray, List.set_cons_zero, List.set_cons_succ]
      refine wpAnyG_take (v := ?_) 8 (by rfl) (by kernel_rfl) (by kernel_rfl) (by kernel_rfl) (by kernel_rfl) (fun _ _ _ h => h) (Or.inl ⟨by rfl, ?_⟩) (by assumption) ?_
      rotate_left
      · (intro w' hSw; (try dsimp only at hSw); (try simp only [List.getElem_toArray, List.getElem_cons_succ, List.getElem_cons_zero]); go_simp; try (with_reducible rfl))
      simp only [Act.put, List.getElem_toArray, List.getElem_cons_succ, List.getElem_cons_zero, List.setIfInBounds_toArray, List.set_cons_zero, List.set_cons_succ]
      refine wpAnyG_take (v := ?_) 9 (by rfl) (by kernel_rfl) (by kernel_rfl) (by kernel_rfl) (by kernel_rfl) (fun _ _ _ h => h) (Or.inl ⟨by rfl, ?_⟩) (by assumption) ?_
      rotate_left
      · (intro w' hSw; (try dsimp only at hSw); (try simp only [List.getElem_toArray, List.getElem_cons_succ, List.getElem_cons_zero]); go_simp; try (with_reducible rfl))
      simp only [Act.put, List.getElem_toArray, List.getElem_cons_succ, List.getElem_cons_zero, List.setIfInBounds_toArray, List.set_cons_zero, List.set_cons_succ]
      refine wpAnyG_ready [0, 10] (by kernel_rfl) (by simp) ?_
      refine AllReadyG.cons 0 (by rfl) (fun K hK => ?_) ?_
      · simp only [List.getElem_toArray, List.getElem_cons_zero]
        go_simp
        refine hK.out _ _ (unhide HS _ (by repeat (first | assumption | exact Below.refl _ _ | refine Below.drew ?_ | refine Below.alloc ?_ (by first | omega | (simp; done) | (simp; omega)) _))) (fun _ => ?_)
        clear hK K
        try simp only [Act.put, List.setIfInBounds_toArray, List.set_cons_zero, List.set_cons_succ]
        refine wpAnyG_ready [3, 10] (by kernel_rfl) (by simp) ?_
        refine AllReadyG.cons 3 (by rfl) (fun K hK => ?_) ?_
        · simp only [List.getElem_toArray, List.getElem_cons_succ, List.getElem_cons_zero]
          refine if_wanted (by rfl) (wp_app (w := W3.alloc (.cells #[] 3)) _ _ (by rfl) W3.heap.size _ _ [] q.cap (by rfl) (by rfl) (own_lit (W3) _ (W3.heap.size) 0 [] (by simp) rfl (by first | omega | (simp; done) | (simp; omega)) (by simp)) (unhide HU _ (by repeat (first | assumption | exact Below.refl _ _ | refine Below.drew ?_ | refine Below.alloc ?_ (by first | omega | (simp; done) | (simp; omega)) _))) q.cap.length (by simp) (by omega) (by first | omega | (simp; done) | (simp; omega)) ?_)
          intro a5 c5 w5 hown5 hb5 hgr5
          have hb5' : Below W3.heap.size W3 w5 := Below.trans (by repeat (first | assumption | exact Below.refl _ _ | refine Below.drew ?_ | refine Below.alloc ?_ (by first | omega | (simp; done) | (simp; omega)) _)) hb5
          have hs5 := hb5'.size
          skip
          clear hb5 hgr5
          refine hK.out _ _ (unhide HS _ (by repeat (first | assumption | exact Below.refl _ _ | refine Below.drew ?_ | refine Below.alloc ?_ (by first | omega | (simp; done) | (simp; omega)) _))) (fun _ => ?_)
          clear hK K
          try simp only [Act.put, List.setIfInBounds_toArray, List.set_cons_zero, List.set_cons_succ]
          refine wpAnyG_ready [10] (by kernel_rfl) (by simp) ?_
          refine AllReadyG.cons 10 (by rfl) (fun K hK => ?_) ?_
          · simp only [List.getElem_toArray, List.getElem_cons_succ, List.getElem_cons_zero]
            go_simp
            refine hK.out _ _ (unhide HS _ (by repeat (first | assumption | exact Below.refl _ _ | refine Below.drew ?_ | refine Below.alloc ?_ (by first | omega | (simp; done) | (simp; omega)) _))) (fun _ => ?_)
            clear hK K
            try simp only [Act.put, List.setIfInBounds_toArray, List.set_cons_zero, List.set_cons_succ]
            refine wpAnyG_ready [11] (by kernel_rfl) (by simp) ?_
            refine AllReadyG.cons 11 (by rfl) (fun K hK => ?_) ?_
            · simp only [List.getElem_toArray, List.getElem_cons_succ, List.getElem_cons_zero]
              refine if_wanted (by rfl) (wp_app (w := w5.alloc (.cells #[.int .i64 y2, .int .i64 y3] 3)) _ _ (by rfl) W3.heap.size _ _ q.cap [y2, y3] (by rfl) (by rfl) (World.ownsRow.alloc hown5 _) (OwnI.ints (own_lit (w5) 0 (w5.heap.size) 2 [y2, y3] (by simp) rfl (by omega) (by simp))) (q.cap.length + 2) (by simp) (by omega) (by first | omega | (simp; done) | (simp; omega)) ?_)
              intro a6 c6 w6 hown6 hb6 hgr6
              have hb6' : Below W3.heap.size W3 w6 := Below.trans (by repeat (first | assumption | exact Below.refl _ _ | refine Below.drew ?_ | refine Below.alloc ?_ (by first | omega | (simp; done) | (simp; omega)) _)) hb6
              have hbox6 := (unhide HX1).below hb6'
              obtain ⟨m0, m1, m2, m3, n0, n1, n2, n3⟩ := obj_cells hbox6.b1
              clear hb6 hgr6
              refine hK.out _ _ (unhide HS _ (by repeat (first | assumption | exact Below.refl _ _ | refine Below.drew ?_ | refine Below.alloc ?_ (by first | omega | (simp; done) | (simp; omega)) _))) (fun _ => ?_)
              clear hK K
              try simp only [Act.put, List.setIfInBounds_toArray, List.set_cons_zero, List.set_cons_succ]
              refine wpAnyG_take (v := ?_) 12 (by rfl) (by kernel_rfl) (by kernel_rfl) (by kernel_rfl) (by kernel_rfl) (fun _ _ _ h => h) (Or.inl ⟨by rfl, ?_⟩) (by assumption) ?_
              rotate_left
              · (intro w' hSw; (try dsimp only at hSw); (try simp only [List.getElem_toArray, List.getElem_cons_succ, List.getElem_cons_zero]); go_simp; try (with_reducible rfl))
              simp only [Act.put, List.getElem_toArray, List.getElem_cons_succ, List.getElem_cons_zero, List.setIfInBounds_toArray, List.set_cons_zero, List.set_cons_succ]
              refine wpAnyG_ready [13] (by kernel_rfl) (by simp) ?_
              refine AllReadyG.last 13 (by rfl) (by kernel_rfl) (fun K hK => ?_) ?_
              · simp only [List.getElem_toArray, List.getElem_cons_succ, List.getElem_cons_zero]
                go_simp
                refine hK.out _ _ ?_
                clear hK K
                try simp only [Act.put, List.setIfInBounds_toArray, List.set_cons_zero, List.set_cons_succ]
                refine wpAnyG_done (by kernel_rfl) ?_ _
                refine NoPanic.normal ?_
                go_wp2
                go_meet
                have hWW := unhide hWW
                have hWc := unhide hWc
                exact ⟨_, _, own_store (own_base hown6 (by omega)) (by omega) _ _, hbox6.setC _, own_store (own_below (unhide hT3) hb6') (by omega) _ _, own_store (own_below (unhide hN3) hb6') (by omega) _ _⟩
              exact AllReadyG.nil
            exact AllReadyG.nil
          exact AllReadyG.nil
        refine AllReadyG.cons 10 (by rfl) (fun K hK => ?_) ?_
        · simp only [List.getElem_toArray, List.getElem_cons_succ, List.getElem_cons_zero]
          go_simp
          refine hK.out _ _ (unhide HS _ (by repeat (first | assumption | exact Below.refl _ _ | refine Below.drew ?_ | refine Below.alloc ?_ (by first | omega | (simp; done) | (simp; omega)) _))) (fun _ => ?_)
          clear hK K
          try simp only [Act.put, List.setIfInBounds_toArray, List.set_cons_zero, List.set_cons_succ]
          refine wpAnyG_ready [3] (by kernel_rfl) (by simp) ?_
          refine AllReadyG.cons 3 (by rfl) (fun K hK => ?_) ?_
          · simp only [List.getElem_toArray, List.getElem_cons_succ, List.getElem_cons_zero]
            refine if_wanted (by rfl) (wp_app (w := (W3.alloc (.cells #[] 3)).alloc (.cells #[.int .i64 y2, .int .i64 y3] 3)) _ _ (by rfl) W3.heap.size _ _ [] q.cap (by rfl) (by rfl) (World.ownsRow.alloc (own_lit (W3) _ (W3.heap.size) 0 [] (by simp) rfl (by first | omega | (simp; done) | (simp; omega)) (by simp)) _) (unhide HU _ (by repeat (first | assumption | exact Below.refl _ _ | refine Below.drew ?_ | refine Below.alloc ?_ (by first | omega | (simp; done) | (simp; omega)) _))) q.cap.length (by simp) (by omega) (by first | omega | (simp; done) | (simp; omega)) ?_)
            intro a5 c5 w5 hown5 hb5 hgr5
            have hb5' : Below W3.heap.size W3 w5 := Below.trans (by repeat (first | assumption | exact Below.refl _ _ | refine Below.drew ?_ | refine Below.alloc ?_ (by first | omega | (simp; done) | (simp; omega)) _)) hb5
            have hs5 := hb5'.size
            have hlit5 := lit_kept (own_lit (W3.alloc (.cells #[] 3)) 0 (W3.heap.size + 1) 2 [y2, y3] (by simp) rfl (by omega) (by simp)) hgr5 (by first | omega | (simp; done) | (simp; omega))
            clear hb5 hgr5
            refine hK.out _ _ (unhide HS _ (by repeat (first | assumption | exact Below.refl _ _ | refine Below.drew ?_ | refine Below.alloc ?_ (by first | omega | (simp; done) | (simp; omega)) _))) (fun _ => ?_)
            clear hK K
            try simp only [Act.put, List.setIfInBounds_toArray, List.set_cons_zero, List.set_cons_succ]
            refine wpAnyG_ready [11] (by kernel_rfl) (by simp) ?_
            refine AllReadyG.cons 11 (by rfl) (fun K hK => ?_) ?_
            · simp only [List.getElem_toArray, List.getElem_cons_succ, List.getElem_cons_zero]
              refine if_wanted (by rfl) (wp_app (w := w5) _ _ (by rfl) W3.heap.size _ _ q.cap [y2, y3] (by rfl) (by rfl) (hown5) (OwnI.ints (hlit5)) (q.cap.length + 2) (by simp) (by omega) (by first | omega | (simp; done) | (simp; omega)) ?_)
              intro a6 c6 w6 hown6 hb6 hgr6
              have hb6' : Below W3.heap.size W3 w6 := Below.trans (by repeat (first | assumption | exact Below.refl _ _ | refine Below.drew ?_ | refine Below.alloc ?_ (by first | omega | (simp; done) | (simp; omega)) _)) hb6
              have hbox6 := (unhide HX1).below hb6'
              obtain ⟨m0, m1, m2, m3, n0, n1, n2, n3⟩ := obj_cells hbox6.b1
              clear hb6 hgr6
              refine hK.out _ _ (unhide HS _ (by repeat (first | assumption | exact Below.refl _ _ | refine Below.drew ?_ | refine Below.alloc ?_ (by first | omega | (simp; done) | (simp; omega)) _))) (fun _ => ?_)
              clear hK K
              try simp only [Act.put, List.setIfInBounds_toArray, List.set_cons_zero, List.set_cons_succ]
              refine wpAnyG_take (v := ?_) 12 (by rfl) (by kernel_rfl) (by kernel_rfl) (by kernel_rfl) (by kernel_rfl) (fun _ _ _ h => h) (Or.inl ⟨by rfl, ?_⟩) (by assumption) ?_
              rotate_left
              · (intro w' hSw; (try dsimp only at hSw); (try simp only [List.getElem_toArray, List.getElem_cons_succ, List.getElem_cons_zero]); go_simp; try (with_reducible rfl))
              simp only [Act.put, List.getElem_toArray, List.getElem_cons_succ, List.getElem_cons_zero, List.setIfInBounds_toArray, List.set_cons_zero, List.set_cons_succ]
              refine wpAnyG_ready [13] (by kernel_rfl) (by simp) ?_
              refine AllReadyG.last 13 (by rfl) (by kernel_rfl) (fun K hK => ?_) ?_
              · simp only [List.getElem_toArray, List.getElem_cons_succ, List.getElem_cons_zero]
                go_simp
                refine hK.out _ _ ?_
                clear hK K
                try simp only [Act.put, List.setIfInBounds_toArray, List.set_cons_zero, List.set_cons_succ]
                refine wpAnyG_done (by kernel_rfl) ?_ _
                refine NoPanic.normal ?_
                go_wp2
                go_meet
                have hWW := unhide hWW
                have hWc := unhide hWc
                exact ⟨_, _, own_store (own_base hown6 (by omega)) (by omega) _ _, hbox6.setC _, own_store (own_below (unhide hT3) hb6') (by omega) _ _, own_store (own_below (unhide hN3) hb6') (by omega) _ _⟩
              exact AllReadyG.nil
            exact AllReadyG.nil
          exact AllReadyG.nil
        exact AllReadyG.nil
      refine AllReadyG.cons 10 (by rfl) (fun K hK => ?_) ?_
      · simp only [List.getElem_toArray, List.getElem_cons_succ, List.getElem_cons_zero]
        go_simp
        refine hK.out _ _ (unhide HS _ (by repeat (first | assumption | exact Below.refl _ _ | refine Below.drew ?_ | refine Below.alloc ?_ (by first | omega | (simp; done) | (simp; omega)) _))) (fun _ => ?_)
        clear hK K
        try simp only [Act.put, List.setIfInBounds_toArray, List.set_cons_zero, List.set_cons_succ]
        refine wpAnyG_ready [0] (by kernel_rfl) (by simp) ?_
        refine AllReadyG.cons 0 (by rfl) (fun K hK => ?_) ?_
        · simp only [List.getElem_toArray, List.getElem_cons_zero]
          go_simp
          refine hK.out _ _ (unhide HS _ (by repeat (first | assumption | exact Below.refl _ _ | refine Below.drew ?_ | refine Below.alloc ?_ (by first | omega | (simp; done) | (simp; omega)) _))) (fun _ => ?_)
          clear hK K
          try simp only [Act.put, List.setIfInBounds_toArray, List.set_cons_zero, List.set_cons_succ]
          refine wpAnyG_ready [3] (by kernel_rfl) (by simp) ?_
          refine AllReadyG.cons 3 (by rfl) (fun K hK => ?_) ?_
          · simp only [List.getElem_toArray, List.getElem_cons_succ, List.getElem_cons_zero]
            refine if_wanted (by rfl) (wp_app (w := (W3.alloc (.cells #[.int .i64 y2, .int .i64 y3] 3)).alloc (.cells #[] 3)) _ _ (by rfl) W3.heap.size _ _ [] q.cap (by rfl) (by rfl) (own_lit (W3.alloc (.cells #[.int .i64 y2, .int .i64 y3] 3)) _ (W3.heap.size + 1) 0 [] (by simp) rfl (by first | omega | (simp; done) | (simp; omega)) (by simp)) (unhide HU _ (by repeat (first | assumption | exact Below.refl _ _ | refine Below.drew ?_ | refine Below.alloc ?_ (by first | omega | (simp; done) | (simp; omega)) _))) q.cap.length (by simp) (by omega) (by first | omega | (simp; done) | (simp; omega)) ?_)
            intro a5 c5 w5 hown5 hb5 hgr5
            have hb5' : Below W3.heap.size W3 w5 := Below.trans (by repeat (first | assumption | exact Below.refl _ _ | refine Below.drew ?_ | refine Below.alloc ?_ (by first | omega | (simp; done) | (simp; omega)) _)) hb5
            have hs5 := hb5'.size
            have hlit5 := lit_kept (World.ownsRow.alloc (own_lit (W3) 0 (W3.heap.size) 2 [y2, y3] (by simp) rfl (by omega) (by simp)) _) hgr5 (by first | omega | (simp; done) | (simp; omega))
            clear hb5 hgr5
            refine hK.out _ _ (unhide HS _ (by repeat (first | assumption | exact Below.refl _ _ | refine Below.drew ?_ | refine Below.alloc ?_ (by first | omega | (simp; done) | (simp; omega)) _))) (fun _ => ?_)
            clear hK K
            try simp only [Act.put, List.setIfInBounds_toArray, List.set_cons_zero, List.set_cons_succ]
            refine wpAnyG_ready [11] (by kernel_rfl) (by simp) ?_
            refine AllReadyG.cons 11 (by rfl) (fun K hK => ?_) ?_
            · simp only [List.getElem_toArray, List.getElem_cons_succ, List.getElem_cons_zero]
              refine if_wanted (by rfl) (wp_app (w := w5) _ _ (by rfl) W3.heap.size _ _ q.cap [y2, y3] (by rfl) (by rfl) (hown5) (OwnI.ints (hlit5)) (q.cap.length + 2) (by simp) (by omega) (by first | omega | (simp; done) | (simp; omega)) ?_)
              intro a6 c6 w6 hown6 hb6 hgr6
              have hb6' : Below W3.heap.size W3 w6 := Below.trans (by repeat (first | assumption | exact Below.refl _ _ | refine Below.drew ?_ | refine Below.alloc ?_ (by first | omega | (simp; done) | (simp; omega)) _)) hb6
              have hbox6 := (unhide HX1).below hb6'
              obtain ⟨m0, m1, m2, m3, n0, n1, n2, n3⟩ := obj_cells hbox6.b1
              clear hb6 hgr6
              refine hK.out _ _ (unhide HS _ (by repeat (first | assumption | exact Below.refl _ _ | refine Below.drew ?_ | refine Below.alloc ?_ (by first | omega | (simp; done) | (simp; omega)) _))) (fun _ => ?_)
              clear hK K
              try simp only [Act.put, List.setIfInBounds_toArray, List.set_cons_zero, List.set_cons_succ]
              refine wpAnyG_take (v := ?_) 12 (by rfl) (by kernel_rfl) (by kernel_rfl) (by kernel_rfl) (by kernel_rfl) (fun _ _ _ h => h) (Or.inl ⟨by rfl, ?_⟩) (by assumption) ?_
              rotate_left
              · (intro w' hSw; (try dsimp only at hSw); (try simp only [List.getElem_toArray, List.getElem_cons_succ, List.getElem_cons_zero]); go_simp; try (with_reducible rfl))
              simp only [Act.put, List.getElem_toArray, List.getElem_cons_succ, List.getElem_cons_zero, List.setIfInBounds_toArray, List.set_cons_zero, List.set_cons_succ]
              refine wpAnyG_ready [13] (by kernel_rfl) (by simp) ?_
              refine AllReadyG.last 13 (by rfl) (by kernel_rfl) (fun K hK => ?_) ?_
              · simp only [List.getElem_toArray, List.getElem_cons_succ, List.getElem_cons_zero]
                go_simp
                refine hK.out _ _ ?_
                clear hK K
                try simp only [Act.put, List.setIfInBounds_toArray, List.set_cons_zero, List.set_cons_succ]
                refine wpAnyG_done (by kernel_rfl) ?_ _
                refine NoPanic.normal ?_
                go_wp2
                go_meet
                have hWW := unhide hWW
                have hWc := unhide hWc
                exact ⟨_, _, own_store (own_base hown6 (by omega)) (by omega) _ _, hbox6.setC _, own_store (own_below (unhide hT3) hb6') (by omega) _ _, own_store (own_below (unhide hN3) hb6') (by omega) _ _⟩
              exact AllReadyG.nil
            exact AllReadyG.nil
          exact AllReadyG.nil
        exact AllReadyG.nil
      exact AllReadyG.nil
    case rest =>
      obtain ⟨a11, c11, hC, hbox, hT', hN'⟩ := hcut
      have hsW := (unhide HX0).size
      clear HX0 hT hN
      obtain ⟨m0, m1, m2, m3, n0, n1, n2, n3⟩ := obj_cells hbox.b1
      obtain ⟨r0, r1, r2, r3, s0, s1, s2, s3⟩ := obj_cells hbox.b2
      have hs := hbox.size
      have HT := hide hT'
      have HN := hide hN'
      have HC := hide hC
      have HBx := hide hbox
      clear hT' hN' hC hbox
      go_wp2
      have hfin := box_done (unhide HBx) q.n (.slice a8 (q.tail.length + 2) c8) (.slice a10 (q.next.length + 2) c10) (.slice a11 (q.cap.length + 2) c11)
      have HT' := four_own (unhide HT) (show w.heap.size + 1 < w.heap.size + 2 by omega) q.n (.slice a8 (q.tail.length + 2) c8) (.slice a10 (q.next.length + 2) c10) (.slice a11 (q.cap.length + 2) c11)
      have HN' := four_own (unhide HN) (show w.heap.size + 1 < wA.heap.size by omega) q.n (.slice a8 (q.tail.length + 2) c8) (.slice a10 (q.next.length + 2) c10) (.slice a11 (q.cap.length + 2) c11)
      have HC' := four_own (unhide HC) (show w.heap.size + 1 < W2.heap.size by omega) q.n (.slice a8 (q.tail.length + 2) c8) (.slice a10 (q.next.length + 2) c10) (.slice a11 (q.cap.length + 2) c11)
      have hbl' := four_below (unhide HBx).bel w.heap.size (by omega) q.n (.slice a8 (q.tail.length + 2) c8) (.slice a10 (q.next.length + 2) c10) (.slice a11 (q.cap.length + 2) c11)
      clear r0 r1 r2 r3 s0 s1 s2 s3 m0 m1 m2 m3 n0 n1 n2 n3 HT HN HC HBx
      generalize (((wc.setCell ⟨w.heap.size + 1, 0, none⟩ (.int .i64 q.n)).setCell ⟨w.heap.size + 1, 1, none⟩ (.slice a8 (q.tail.length + 2) c8)).setCell ⟨w.heap.size + 1, 2, none⟩ (.slice a10 (q.next.length + 2) c10)).setCell ⟨w.heap.size + 1, 3, none⟩ (.slice a11 (q.cap.length + 2) c11) = WF at *
      obtain ⟨r0, r1, r2, r3, -, -, -, -⟩ := obj_cells hfin
      refine bodyPost_ret (v := .tuple #[.agg #[.int .i64 q.n, .slice a8 (q.tail.length + 2) c8, .slice a10 (q.next.length + 2) c10, .slice a11 (q.cap.length + 2) c11], .int .i64 0]) (by simp [results, Try.results46, go_sem, r0, r1, r2, r3]) rfl ⟨_, _, _, _, rfl, ⟨rfl, own_base HT' (by omega), own_base HN' (by omega), own_base HC' (by omega), sep_bases (unhide Hlt8) HN', sep_bases (fun k hk => ?_) HC', sep_bases (unhide Hlt9) HC'⟩, hbl'⟩
      have := unhide Hlt8 k hk
      have := unhide hWs
      omega
end Go.Proofs.Ytcdpgiklmonabaa


/- The walk of the reference's Round where nothing is wrong. -/
namespace Go.Proofs.Ytcdpgiklmonabaa
open Go Go.RowKit

/-- The next ones behind k of a turn's darts. -/
def Sp.layTo (nx l : List Int) : Nat → List Int
  | 0 => nx
  | k + 1 => (Sp.layTo nx l k).set (l.getD k 0).toNat (l.getD ((k + 1) % l.length) 0)
theorem Sp.layTo_len (nx l : List Int) (k : Nat) : (Sp.layTo nx l k).length = nx.length := by
  induction k with
  | zero => rfl
  | succ k ih => simp [Sp.layTo, ih]
def Sp.roundN (q : Sp.Net) (l : List Int) : Sp.Net := { q with next := Sp.layTo q.next l l.length }
/-- Cells of a row of ints, in every world behind. -/
theorem Ints.all {w : World} {v : Value} {l : List Int} (h : Ints w v l) : ∃ (a : Option Addr) (c : Nat), v = .slice a l.length c ∧ l.length ≤ c ∧ c ≤ maxLen ∧ Hid (∀ k, (hk : k < l.length) → ∃ b o, a = some ⟨b, o, none⟩ ∧ b < w.heap.size ∧ ∀ w', Below w.heap.size w w' → w'.cell? ⟨b, o + k, none⟩ = some (.int .i64 l[k])) := by
  obtain ⟨a, c, e, h1, h2, h3⟩ := h
  refine ⟨a, c, e, h1, h2, hide fun k hk => ?_⟩
  obtain ⟨b, o, ha, hb, hc⟩ := h3 k hk
  exact ⟨b, o, ha, hb, fun w' hw => (hw.cell (by exact hb)).trans hc⟩
/-- The first k of a row. -/
theorem Ints.take {w : World} {a : Option Addr} {n c : Nat} {l : List Int} (h : Ints w (.slice a n c) l) (k : Nat) (hk : k ≤ l.length) : Ints w (.slice a k c) (l.take k) := by
  obtain ⟨a', c', e, h1, h2, h3⟩ := h
  injection e with e1 e2 e3
  subst e1 e2 e3
  have hl : (l.take k).length = k := by rw [List.length_take]; omega
  refine ⟨a, c, by rw [hl], by omega, h2, fun j hj => ?_⟩
  obtain ⟨b, o, ha, hb, hc⟩ := h3 j (by omega)
  exact ⟨b, o, ha, hb, by rw [hc, List.getElem_take]⟩
theorem BoxAt.other {w wx : World} {n : Int} {tv nv cv : Value} (h : BoxAt w wx n tv nv cv) (g j : Nat) (hg : w.heap.size + 1 < g) (u : Value) : BoxAt w (wx.setCell ⟨g, j, none⟩ u) n tv nv cv :=
  ⟨by rw [heap_setCell_other _ _ _ _ (by show w.heap.size ≠ g; omega)]; exact h.b1, by rw [heap_setCell_other _ _ _ _ (by show w.heap.size + 1 ≠ g; omega)]; exact h.b2, h.bel.setCell (by show w.heap.size ≤ g; omega) u⟩
theorem BoxAt.drew {w wx : World} {n : Int} {tv nv cv : Value} (h : BoxAt w wx n tv nv cv) : BoxAt w wx.drew n tv nv cv := h.below (Below.refl _ _).drew
set_option maxRecDepth 100000 in
set_option maxHeartbeats 1000000 in
theorem rround_any (q : Sp.Net) (u tu nu cu x : Value) (v : Int) (l : List Int) (w : World) (hu : NetI w u q tu nu cu) (hx : Ints w x l) (hl1 : q.tail.length ≤ 240) (hl2 : q.next.length = q.tail.length)
    (hd : ∀ y ∈ l, 0 ≤ y ∧ y < q.tail.length ∧ q.tail.getD y.toNat 0 = v) (hnd : l.Nodup) (hall : ∀ d : Nat, d < q.tail.length → q.tail.getD d 0 = v → (d : Int) ∈ l) (hll : l.length ≤ 240) :
    Calls Try.prog 47 #[u, .int .i64 v, x] w fun e w' => ∃ nv', e = .returned (.tuple #[.agg #[.int .i64 q.n, tu, nv', cu], .int .i64 0]) ∧ OwnI w' w.heap.size nv' (Sp.layTo q.next l l.length) ∧ Below w.heap.size w w' := by
  obtain ⟨rfl, u1, u2, u3⟩ := hu
  have HI := hide (fun w' (hb : Below w.heap.size w w') => hx.below hb)
  have U2 := hide (fun w' (hb : Below w.heap.size w w') => u2.below hb)
  obtain ⟨a, c, rfl, hc, hm, HX⟩ := hx.all
  obtain ⟨ta, tc, rfl, htc, htm, HT⟩ := u1.all
  obtain ⟨na, nc, rfl, hnc, hnm⟩ := u2.form
  obtain ⟨ca, cc, rfl, hcc, hcm⟩ := u3.form
  clear hx u1 u2 u3
  have HD := hide hd
  have HN := hide hnd
  have HA := hide hall
  clear hd hnd hall
  have HX0 := hide (BoxAt.start w q.n (.slice ta q.tail.length tc) (.slice na q.next.length nc) (.slice ca q.cap.length cc) 0)
  have Hl2 := hide hl2; clear hl2
  go_enter Try.func47, Try.ntmps47
  go_wp2
  go_loopw [8] (fun i wr => ∃ k : Nat, k ≤ l.length ∧ i = .int .i64 k ∧ BoxAt w wr q.n (.slice ta q.tail.length tc) (.slice na q.next.length nc) (.slice ca q.cap.length cc)) (fun i _ => l.length - (intOf i).toNat)
  case atStart => exact ⟨0, by omega, rfl, unhide HX0⟩
  case round =>
    clear HX0
    obtain ⟨k, hk, rfl, hbox⟩ := hrel
    obtain ⟨m0, m1, m2, m3, n0, n1, n2, n3⟩ := obj_cells hbox.b1
    have HB := hide hbox
    by_cases hlt : k < l.length
    · obtain ⟨b, o, rfl, hbl, hcx⟩ := unhide HX k hlt
      have g := hcx _ hbox.bel
      obtain ⟨y0, y1, y2⟩ := unhide HD _ (List.getElem_mem hlt)
      obtain ⟨j, hj⟩ : ∃ j : Nat, l[k] = j := ⟨l[k].toNat, by omega⟩
      rw [hj] at g y0 y1 y2
      have hjl : j < q.tail.length := by omega
      obtain ⟨b', o', rfl, hbl', hcx'⟩ := unhide HT j hjl
      have g' := hcx' _ hbox.bel
      rw [Int.toNat_natCast, Sp.getD_eq _ _ hjl] at y2
      rw [y2] at g'
      have d0 : decide ((j : Int) < 0) = false := decide_eq_false (by omega)
      have d1 : decide ((q.tail.length : Int) ≤ (j : Int)) = false := decide_eq_false (by omega)
      clear hcx hcx' hj y2 hbox
      go_wp2
      go_quiet (fail)
      go_wp2
      go_roundw
      case rel => exact ⟨k + 1, by omega, by go_num, (unhide HB).below (below_dn (Below.refl _ _) _)⟩
      case measure => simp [intOf]; omega
    · clear hbox
      go_wp2
      go_loopw [9] (fun i wr => ∃ k : Nat, k ≤ l.length ∧ i = .int .i64 k ∧ BoxAt w wr q.n (.slice ta q.tail.length tc) (.slice na q.next.length nc) (.slice ca q.cap.length cc)) (fun i _ => l.length - (intOf i).toNat)
      case atStart => exact ⟨0, by omega, rfl, unhide HB⟩
      case round =>
        clear HB m0 m1 m2 m3 n0 n1 n2 n3 hlt hk
        obtain ⟨k, hk, rfl, hbox⟩ := hrel
        have HB := hide hbox
        by_cases hlt : k < l.length
        · have HH : Hid (∀ w' : World, Below w.heap.size w w' → Calls Try.prog 65 #[.slice a k c, .int .i64 l[k]] w' fun e w'' => e = .returned (.bool false) ∧ w'' = w') := by
            refine hide fun w' hb => ((has_any (l.take k) (.slice a k c) l[k] w' ((unhide HI w' hb).take k hk) (by rw [List.length_take]; omega)).mono ?_)
            rintro e w'' ⟨rfl, rfl⟩
            have h := Sp.not_mem_take l (unhide HN) k hlt
            rw [Sp.getD_eq _ _ hlt] at h
            exact ⟨by rw [decide_eq_false h], rfl⟩
          obtain ⟨b, o, rfl, hbl, hcx⟩ := unhide HX k hlt
          have g := hcx _ hbox.bel
          have HC := hide (fun n => unhide HH _ (below_dn hbox.bel n))
          have kc : (k : Int) ≤ c := by omega
          clear hcx hbox HH
          generalize l[k] = y at *
          go_wp2
          go_quiet ((go_at_call 65; exact Calls.quiet_of_same (unhide HC _)))
          go_wp2
          go_roundw
          case rel => exact ⟨k + 1, by omega, by go_num, (unhide HB).below (below_dn (Below.refl _ _) _)⟩
          case measure => simp [intOf]; omega
        · clear hbox
          go_wp2
          go_loopw [10] (fun i wr => ∃ k : Nat, k ≤ q.tail.length ∧ i = .int .i64 k ∧ BoxAt w wr q.n (.slice ta q.tail.length tc) (.slice na q.next.length nc) (.slice ca q.cap.length cc)) (fun i _ => q.tail.length - (intOf i).toNat)
          case atStart => exact ⟨0, by omega, rfl, unhide HB⟩
          case round =>
            clear HB hlt hk
            obtain ⟨k, hk, rfl, hbox⟩ := hrel
            have HB := hide hbox
            obtain ⟨m0, m1, m2, m3, n0, n1, n2, n3⟩ := obj_cells hbox.b1
            by_cases hlt : k < q.tail.length
            · obtain ⟨b', o', rfl, hbl', hcx'⟩ := unhide HT k hlt
              have g' := hcx' _ hbox.bel
              by_cases hz : q.tail[k] = v
              · have HC : Hid (Calls Try.prog 65 #[.slice a l.length c, .int .i64 k] wr fun e w'' => e = .returned (.bool true) ∧ w'' = wr) := by
                  refine hide ((has_any l (.slice a l.length c) k wr (unhide HI wr hbox.bel) (by omega)).mono ?_)
                  rintro e w'' ⟨rfl, rfl⟩
                  exact ⟨by rw [decide_eq_true (unhide HA k hlt (by rw [Sp.getD_eq _ _ hlt]; exact hz))], rfl⟩
                rw [hz] at g'
                clear hcx' hbox hz
                go_wp2_with fail
                refine (unhide HC).mono ?_
                rintro e w1 ⟨rfl, rfl⟩
                go_wp2
                go_roundw
                case rel => exact ⟨k + 1, by omega, by go_num, unhide HB⟩
                case measure => simp [intOf]; omega
              · generalize q.tail[k] = z at *
                have hz' : (z == v) = false := beq_eq_false_iff_ne.2 hz
                clear hcx' hbox
                go_wp2
                go_roundw
                case rel => exact ⟨k + 1, by omega, by go_num, unhide HB⟩
                case measure => simp [intOf]; omega
            · have hs := hbox.size
              have k2 : ∀ ob, (wr.alloc ob).cell? ⟨w.heap.size, 2, none⟩ = some (.slice na q.next.length nc) := fun ob => (obj_cells ((unhide HB).below ((Below.refl _ _).alloc (Nat.le_refl _) ob)).b1).2.2.1
              go_wp2_with (at_builtin; refine wpList_app (w := wr.alloc (.cells #[] 3)) rfl _ _ rfl wr.heap.size _ _ [] q.next rfl rfl (own_lit wr _ _ 0 [] rfl rfl (Nat.le_refl _) (by simp)) (unhide U2 _ ((unhide HB).below ((Below.refl _ _).alloc (Nat.le_refl _) _)).bel) q.next.length (by simp) (by have := unhide Hl2; omega) (by simp) ?_)
              intro a9 c9 w9 hown9 hb9 hgr9
              have hb9' : Below wr.heap.size wr w9 := ((Below.refl _ _).alloc (Nat.le_refl _) _).trans hb9
              have hbox9 := (unhide HB).below hb9'
              clear hgr9 hb9 m0 m1 m2 m3 n0 n1 n2 n3 k2 hbox
              obtain ⟨m0, m1, m2, m3, n0, n1, n2, n3⟩ := obj_cells hbox9.b1
              have HO := hide (own_store hown9 (by omega : w.heap.size < wr.heap.size) 2 (.slice a9 q.next.length c9))
              have HB2 := hide (hbox9.setN (.slice a9 q.next.length c9))
              obtain ⟨B, hB⟩ : ∃ B, B = wr.heap.size := ⟨_, rfl⟩
              rw [← hB] at HO hs
              clear hown9 hbox9 hb9' HB hB
              go_wp2
              clear m0 m1 m2 m3 n0 n1 n2 n3
              go_loopw [11] (fun i wr => ∃ k : Nat, k ≤ l.length ∧ i = .int .i64 k ∧ OwnI wr B (.slice a9 q.next.length c9) (Sp.layTo q.next l k) ∧ BoxAt w wr q.n (.slice ta q.tail.length tc) (.slice a9 q.next.length c9) (.slice ca q.cap.length cc)) (fun i _ => l.length - (intOf i).toNat)
              case atStart => exact ⟨0, by omega, rfl, unhide HO, unhide HB2⟩
              case round =>
                clear HO HB2 hlt hk
                obtain ⟨k, hk, rfl, hown, hbox⟩ := hrel
                have HB := hide hbox
                have HO := hide hown
                obtain ⟨m0, m1, m2, m3, n0, n1, n2, n3⟩ := obj_cells hbox.b1
                by_cases hlt : k < l.length
                · obtain ⟨y0, y1, -⟩ := unhide HD _ (List.getElem_mem hlt)
                  obtain ⟨j, hj⟩ : ∃ j : Nat, l[k] = j := ⟨l[k].toNat, by omega⟩
                  have hjl : j < q.next.length := by have := unhide Hl2; omega
                  obtain ⟨gn, capn, e1, hgb, hgl, -⟩ := turn_row hown (Sp.layTo_len _ _ _) (by omega)
                  injection e1 with e1 _ e1c
                  subst e1 e1c
                  have r1 := own_cell hown j (by rw [Sp.layTo_len]; exact hjl)
                  have r2 := own_frozen hown j
                  obtain ⟨b, o, rfl, hbl, hcx⟩ := unhide HX k hlt
                  have s1 := hcx _ hbox.bel
                  rw [hj] at s1
                  have hmod : (k + 1) % l.length < l.length := Nat.mod_lt _ (by omega)
                  have s2 : wr.cell? ⟨b, o + (k + 1) % l.length, none⟩ = some (.int .i64 l[(k + 1) % l.length]) := by
                    obtain ⟨b', o', e, _, h'⟩ := unhide HX _ hmod
                    injection e with e
                    injection e with e1 e2
                    subst e1 e2
                    exact h' _ hbox.bel
                  have HY : Hid (Sp.layTo q.next l (k + 1) = (Sp.layTo q.next l k).set j l[(k + 1) % l.length]) := by
                    refine hide ?_
                    rw [Sp.layTo, Sp.getD_eq _ _ hlt, Sp.getD_eq _ _ hmod, hj, Int.toNat_natCast]
                  have hjl' : (j : Int) < q.next.length := by omega
                  clear hcx hj y0 y1 hown hbox
                  generalize (Sp.layTo q.next l k)[j]'_ = z at *
                  generalize l[(k + 1) % l.length] = y at *
                  have ht1 : ((k : Int) + 1).tmod l.length = ((k + 1) % l.length : Nat) := by
                    rw [Int.tmod_eq_emod_of_nonneg (by omega)]; simp
                  have ht2 : ((k : Int) + 1) % l.length = ((k + 1) % l.length : Nat) := by simp
                  generalize (k + 1) % l.length = i at *
                  go_wp2
                  go_region
                  go_wp2
                  go_roundw
                  case rel =>
                    refine ⟨k + 1, by omega, by go_num, ?_, ((unhide HB).other gn j (by omega) _).drew⟩
                    rw [unhide HY]
                    exact own_drew (own_setCell (unhide HO) j y)
                  case measure => simp [intOf]; omega
                · obtain rfl : k = l.length := by omega
                  obtain ⟨r0, r1, r2, r3, s0, s1, s2, s3⟩ := obj_cells hbox.b2
                  have hsw := hbox.size
                  clear hown hbox
                  go_wp2
                  have hfin := box_done (unhide HB) q.n (.slice ta q.tail.length tc) (.slice a9 q.next.length c9) (.slice ca q.cap.length cc)
                  have HN' := four_own (unhide HO) (show w.heap.size + 1 < B by omega) q.n (.slice ta q.tail.length tc) (.slice a9 q.next.length c9) (.slice ca q.cap.length cc)
                  have hbl' := four_below (unhide HB).bel w.heap.size rfl q.n (.slice ta q.tail.length tc) (.slice a9 q.next.length c9) (.slice ca q.cap.length cc)
                  clear r0 r1 r2 r3 s0 s1 s2 s3 m0 m1 m2 m3 n0 n1 n2 n3 HB HO
                  generalize (((wr.setCell ⟨w.heap.size + 1, 0, none⟩ (.int .i64 q.n)).setCell ⟨w.heap.size + 1, 1, none⟩ (.slice ta q.tail.length tc)).setCell ⟨w.heap.size + 1, 2, none⟩ (.slice a9 q.next.length c9)).setCell ⟨w.heap.size + 1, 3, none⟩ (.slice ca q.cap.length cc) = WF at *
                  obtain ⟨r0, r1, r2, r3, -, -, -, -⟩ := obj_cells hfin
                  exact bodyPost_ret (v := .tuple #[.agg #[.int .i64 q.n, .slice ta q.tail.length tc, .slice a9 q.next.length c9, .slice ca q.cap.length cc], .int .i64 0]) (by simp [results, Try.results47, go_sem, r0, r1, r2, r3]) rfl ⟨_, rfl, own_base HN' (by omega), hbl'⟩
end Go.Proofs.Ytcdpgiklmonabaa


