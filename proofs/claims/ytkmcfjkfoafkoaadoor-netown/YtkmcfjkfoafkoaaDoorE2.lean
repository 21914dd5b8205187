/- The walk of the reference's Edge where nothing is wrong. -/
import Derived.Test.YtkmcfjkfoafkoaaDoorE1
import Derived.Test.YtkmcfjkfoafkoaaDoorG0
namespace Go.Proofs.YtkmcfjkfoafkoaaDoor
open Go Go.RowKit

def Sp.edgeN (q : Sp.Net) (y0 y1 y2 y3 : Int) : Sp.Net := ⟨q.n, q.tail ++ [y0, y1], q.next ++ [(q.tail.length : Int), (q.tail.length : Int) + 1], q.cap ++ [y2, y3]⟩
/-- A call's frame that has boxed a net and made room for one. -/
structure BoxAt (w wx : World) (n : Int) (tv nv cv : Value) : Prop where
  b1 : wx.heap[w.heap.size]? = some (.cells #[.int .i64 n, tv, nv, cv] 34 (0, 0))
  b2 : wx.heap[w.heap.size + 1]? = some (.cells #[.int .i64 0, .slice none 0 0, .slice none 0 0, .slice none 0 0] 34 (0, 0))
  bel : Below w.heap.size w wx
theorem BoxAt.size {w wx : World} {n : Int} {tv nv cv : Value} (h : BoxAt w wx n tv nv cv) : w.heap.size + 1 < wx.heap.size := heap_lt h.b2
theorem BoxAt.below {w wx wy : World} {n : Int} {tv nv cv : Value} (h : BoxAt w wx n tv nv cv) (hb : Below wx.heap.size wx wy) : BoxAt w wy n tv nv cv := by
  have hs := h.size
  exact ⟨(hb.block _ (by omega)).trans h.b1, (hb.block _ (by omega)).trans h.b2, h.bel.trans (hb.mono (by omega))⟩
theorem BoxAt.setT {w wx : World} {n : Int} {tv nv cv : Value} (h : BoxAt w wx n tv nv cv) (u : Value) : BoxAt w (wx.setCell ⟨w.heap.size, 1, none⟩ u) n u nv cv :=
  ⟨by rw [heap_setCell_same wx w.heap.size 1 _ _ _ h.b1]; rfl, by rw [heap_setCell_other _ _ _ _ (by simp)]; exact h.b2, h.bel.setCell (by simp) u⟩
theorem BoxAt.setN {w wx : World} {n : Int} {tv nv cv : Value} (h : BoxAt w wx n tv nv cv) (u : Value) : BoxAt w (wx.setCell ⟨w.heap.size, 2, none⟩ u) n tv u cv :=
  ⟨by rw [heap_setCell_same wx w.heap.size 2 _ _ _ h.b1]; rfl, by rw [heap_setCell_other _ _ _ _ (by simp)]; exact h.b2, h.bel.setCell (by simp) u⟩
theorem BoxAt.setC {w wx : World} {n : Int} {tv nv cv : Value} (h : BoxAt w wx n tv nv cv) (u : Value) : BoxAt w (wx.setCell ⟨w.heap.size, 3, none⟩ u) n tv nv u :=
  ⟨by rw [heap_setCell_same wx w.heap.size 3 _ _ _ h.b1]; rfl, by rw [heap_setCell_other _ _ _ _ (by simp)]; exact h.b2, h.bel.setCell (by simp) u⟩
theorem BoxAt.start (w : World) (n : Int) (tv nv cv : Value) (k : Nat) : BoxAt w (((w.alloc (.cells #[.int .i64 n, tv, nv, cv] 34)).alloc (.cells #[.int .i64 0, .slice none 0 0, .slice none 0 0, .slice none 0 0] 34)).drewN k) n tv nv cv := by
  have hz : (w.alloc (.cells #[.int .i64 n, tv, nv, cv] 34)).heap.size = w.heap.size + 1 := by simp
  refine ⟨?_, ?_, below_dn (((Below.refl _ w).alloc (Nat.le_refl _) _).alloc (by simp) _) k⟩
  · show ((w.alloc _).alloc _).heap[w.heap.size]? = _
    exact (heap_alloc_old _ _ (by simp)).trans (heap_alloc_new w _)
  · show ((w.alloc _).alloc _).heap[w.heap.size + 1]? = _
    rw [← hz]; exact heap_alloc_new _ _
/-- A net's four cells stored into the room made for it. -/
theorem box_done {w wx : World} {n : Int} {tv nv cv : Value} (h : BoxAt w wx n tv nv cv) (n' : Int) (a b c : Value) : ((((wx.setCell ⟨w.heap.size + 1, 0, none⟩ (.int .i64 n')).setCell ⟨w.heap.size + 1, 1, none⟩ a).setCell ⟨w.heap.size + 1, 2, none⟩ b).setCell ⟨w.heap.size + 1, 3, none⟩ c).heap[w.heap.size + 1]? = some (.cells #[.int .i64 n', a, b, c] 34 (0, 0)) := by
  have h0 := heap_setCell_same wx (w.heap.size + 1) 0 _ _ (.int .i64 n') h.b2
  have h1 := heap_setCell_same _ (w.heap.size + 1) 1 _ _ a h0
  have h2 := heap_setCell_same _ (w.heap.size + 1) 2 _ _ b h1
  have h3 := heap_setCell_same _ (w.heap.size + 1) 3 _ _ c h2
  rw [h3]; rfl
theorem four_own {wx : World} {p B : Nat} {v : Value} {l : List Int} (h : OwnI wx B v l) (hp : p < B) (n : Int) (a b c : Value) : OwnI ((((wx.setCell ⟨p, 0, none⟩ (.int .i64 n)).setCell ⟨p, 1, none⟩ a).setCell ⟨p, 2, none⟩ b).setCell ⟨p, 3, none⟩ c) B v l :=
  own_store (own_store (own_store (own_store h hp _ _) hp _ _) hp _ _) hp _ _
theorem four_below {w wx : World} (h : Below w.heap.size w wx) (s : Nat) (hs : s = w.heap.size) (n : Int) (a b c : Value) : Below w.heap.size w ((((wx.setCell ⟨s + 1, 0, none⟩ (.int .i64 n)).setCell ⟨s + 1, 1, none⟩ a).setCell ⟨s + 1, 2, none⟩ b).setCell ⟨s + 1, 3, none⟩ c) := by
  subst hs
  exact (((h.setCell (by simp) _).setCell (by simp) _).setCell (by simp) _).setCell (by simp) _
set_option maxRecDepth 100000 in
set_option maxHeartbeats 600000 in
theorem redge_any (q : Sp.Net) (u tu nu cu x : Value) (y0 y1 y2 y3 : Int) (w : World) (hu : NetI w u q tu nu cu) (hx : Ints w x [y0, y1, y2, y3]) (hl1 : q.tail.length ≤ 238) (hl2 : q.next.length ≤ 238) (hl3 : q.cap.length ≤ 238)
    (h0 : 0 ≤ y0) (h0' : y0 < q.n) (h1 : 0 ≤ y1) (h1' : y1 < q.n) (h2 : y2 ≤ 2147483648) (h3 : y3 ≤ 2147483648) :
    Calls Tryd.prog 27 #[u, x] w fun e w' => ∃ v tv nv cv, e = .returned (.tuple #[v, .int .i64 0]) ∧ NetV w' w.heap.size v (Sp.edgeN q y0 y1 y2 y3) tv nv cv ∧ Below w.heap.size w w' := by
  obtain ⟨rfl, u1, u2, u3⟩ := hu
  have HB0 : Hid (∀ o o', Below w.heap.size w ((w.alloc o).alloc o')) := hide fun o o' => ((Below.refl _ w).alloc (Nat.le_refl _) o).alloc (by simp) o'
  obtain ⟨b, o, c, rfl, hc, hm, hbl, hcell⟩ := hx.at (by simp)
  have HX : Hid (∀ w', Below w.heap.size w w' → w'.cell? ⟨b, o, none⟩ = some (.int .i64 y0) ∧ w'.cell? ⟨b, o + 1, none⟩ = some (.int .i64 y1) ∧ w'.cell? ⟨b, o + 2, none⟩ = some (.int .i64 y2) ∧ w'.cell? ⟨b, o + 3, none⟩ = some (.int .i64 y3)) := hide fun w' hb =>
    ⟨(hb.cell (by exact hbl)).trans (hcell 0 (by simp)), (hb.cell (by exact hbl)).trans (hcell 1 (by simp)), (hb.cell (by exact hbl)).trans (hcell 2 (by simp)), (hb.cell (by exact hbl)).trans (hcell 3 (by simp))⟩
  clear hcell hx
  have U1 := hide (fun w' (hb : Below w.heap.size w w') => u1.below hb)
  have U2 := hide (fun w' (hb : Below w.heap.size w w') => u2.below hb)
  have U3 := hide (fun w' (hb : Below w.heap.size w w') => u3.below hb)
  obtain ⟨ta, tc, rfl, htc, htm⟩ := u1.form
  obtain ⟨na, nc, rfl, hnc, hnm⟩ := u2.form
  obtain ⟨ca, cc, rfl, hcc, hcm⟩ := u3.form
  clear u1 u2 u3
  have d0 : decide (y0 < 0) = false := decide_eq_false (by omega)
  have d1 : decide (y1 < 0) = false := decide_eq_false (by omega)
  have d2 : decide (q.n ≤ y0) = false := decide_eq_false (by omega)
  have d3 : decide (q.n ≤ y1) = false := decide_eq_false (by omega)
  have d4 : ¬ 2147483648 < y2 := by omega
  have d5 : ¬ 2147483648 < y3 := by omega
  obtain ⟨o1, ho1⟩ : ∃ o1 : Obj, o1 = .cells #[.int .i64 q.n, .slice ta q.tail.length tc, .slice na q.next.length nc, .slice ca q.cap.length cc] 34 := ⟨_, rfl⟩
  obtain ⟨o2, ho2⟩ : ∃ o2 : Obj, o2 = .cells #[.int .i64 0, .slice none 0 0, .slice none 0 0, .slice none 0 0] 34 := ⟨_, rfl⟩
  obtain ⟨g0, g1, g2, g3⟩ := unhide HX _ (unhide HB0 o1 o2)
  subst ho1 ho2
  go_enter Tryd.func27, Tryd.ntmps27
  go_wp2
  go_quiet (fail)
  go_upto_region 8 with fail
  clear d0 d1 d2 d3 d4 d5 g0 g1 g2 g3 HB0
  have HX0 := hide (BoxAt.start w q.n (.slice ta q.tail.length tc) (.slice na q.next.length nc) (.slice ca q.cap.length cc) nq)
  generalize (((w.alloc (.cells #[.int .i64 q.n, .slice ta q.tail.length tc, .slice na q.next.length nc, .slice ca q.cap.length cc] 34)).alloc (.cells #[.int .i64 0, .slice none 0 0, .slice none 0 0, .slice none 0 0] 34)).drewN nq) = W2 at *
  go_cut [] (fun wx => ∃ a' c', OwnI wx (w.heap.size + 2) (.slice a' (q.tail.length + 2) c') (q.tail ++ [y0, y1]) ∧ BoxAt w wx q.n (.slice a' (q.tail.length + 2) c') (.slice na q.next.length nc) (.slice ca q.cap.length cc))
  case first =>
    have HX1 := hide ((unhide HX0).below (Below.refl _ _).drew)
    have HS : Hid (∀ w', Below W2.drew.heap.size W2.drew w' → w'.cell? ⟨w.heap.size, 1, none⟩ = some (.slice ta q.tail.length tc) ∧ w'.cell? ⟨b, o, none⟩ = some (.int .i64 y0) ∧ w'.cell? ⟨b, o + 1, none⟩ = some (.int .i64 y1)) := by
      refine hide fun w' hb => ?_
      have h := (unhide HX1).below hb
      obtain ⟨x0, x1, x2, x3⟩ := unhide HX _ h.bel
      exact ⟨(obj_cells h.b1).2.1, x0, x1⟩
    have HU : Hid (∀ w', Below W2.drew.heap.size W2.drew w' → Ints w' (.slice ta q.tail.length tc) q.tail) := hide fun w' hb => unhide U1 _ ((unhide HX1).below hb).bel
    have hsz := (unhide HX1).size
    refine wp_region_G (fun w' => w'.cell? ⟨w.heap.size, 1, none⟩ = some (.slice ta q.tail.length tc) ∧ w'.cell? ⟨b, o, none⟩ = some (.int .i64 y0) ∧ w'.cell? ⟨b, o + 1, none⟩ = some (.int .i64 y1)) (fun i => i == 13) (by kernel_rfl) (unhide HS _ (Below.refl _ _)) (fun hHeld => ?_)
    generalize W2.drew = W3 at *
    refine wpAnyG_take (v := ?_) 1 (by rfl) (by kernel_rfl) (by kernel_rfl) (by kernel_rfl) (by kernel_rfl) (fun _ _ _ h => h) (Or.inl ⟨by rfl, ?_⟩) (by assumption) ?_
    rotate_left
    · (intro w' hSw; (try dsimp only at hSw); (try simp only [List.getElem_toArray, List.getElem_cons_succ, List.getElem_cons_zero]); go_simp; try (with_reducible rfl))
    simp only [Act.put, List.getElem_toArray, List.getElem_cons_succ, List.getElem_cons_zero, List.setIfInBounds_toArray, List.set_cons_zero, List.set_cons_succ]
    refine wpAnyG_take (v := ?_) 2 (by rfl) (by kernel_rfl) (by kernel_rfl) (by kernel_rfl) (by kernel_rfl) (fun _ _ _ h => h) (Or.inl ⟨by rfl, ?_⟩) (by assumption) ?_
    rotate_left
    · (intro w' hSw; (try dsimp only at hSw); (try simp only [List.getElem_toArray, List.getElem_cons_succ, List.getElem_cons_zero]); go_simp; try (with_reducible rfl))
    simp only [Act.put, List.getElem_toArray, List.getElem_cons_succ, List.getElem_cons_zero, List.setIfInBounds_toArray, List.set_cons_zero, List.set_cons_succ]
    refine wpAnyG_take (v := ?_) 4 (by rfl) (by kernel_rfl) (by kernel_rfl) (by kernel_rfl) (by kernel_rfl) (fun _ _ _ h => h) (Or.inl ⟨by rfl, ?_⟩) (by assumption) ?_
    rotate_left
    · (intro w' hSw; (try dsimp only at hSw); (try simp only [List.getElem_toArray, List.getElem_cons_succ, List.getElem_cons_zero]); go_simp; try (with_reducible rfl))
    simp only [Act.put, List.getElem_toArray, List.getElem_cons_succ, List.getElem_cons_zero, List.setIfInBounds_toArray, List.set_cons_zero, List.set_cons_succ]
    refine wpAnyG_take (v := ?_) 5 (by rfl) (by kernel_rfl) (by kernel_rfl) (by kernel_rfl) (by kernel_rfl) (fun _ _ _ h => h) (Or.inl ⟨by rfl, ?_⟩) (by assumption) ?_
    rotate_left
    · (intro w' hSw; (try dsimp only at hSw); (try simp only [List.getElem_toArray, List.getElem_cons_succ, List.getElem_cons_zero]); go_simp; try (with_reducible rfl))
    simp only [Act.put, List.getElem_toArray, List.getElem_cons_succ, List.getElem_cons_zero, List.setIfInBounds_toArray, List.set_cons_zero, List.set_cons_succ]
    refine wpAnyG_take (v := ?_) 6 (by rfl) (by kernel_rfl) (by kernel_rfl) (by kernel_rfl) (by kernel_rfl) (fun _ _ _ h => h) (Or.inl ⟨by rfl, ?_⟩) (by assumption) ?_
    rotate_left
    · (intro w' hSw; (try dsimp only at hSw); (try simp only [List.getElem_toArray, List.getElem_cons_succ, List.getElem_cons_zero]); go_simp; try (with_reducible rfl))
    simp only [Act.put, List.getElem_toArray, List.getElem_cons_succ, List.getElem_cons_zero, List.setIfInBounds_toArray, List.set_cons_zero, List.set_cons_succ]
    refine wpAnyG_take (v := ?_) 7 (by rfl) (by kernel_rfl) (by kernel_rfl) (by kernel_rfl) (by kernel_rfl) (fun _ _ _ h => h) (Or.inl ⟨by rfl, ?_⟩) (by assumption) ?_
    rotate_left
    · (intro w' hSw; (try dsimp only at hSw); (try simp only [List.getElem_toArray, List.getElem_cons_succ, List.getElem_cons_zero]); go_simp; try (with_reducible rfl))
    simp only [Act.put, List.getElem_toArray, List.getElem_cons_succ, List.getElem_cons_zero, List.setIfInBounds_toArray, List.set_cons_zero, List.set_cons_succ]
    refine wpAnyG_take (v := ?_) 8 (by rfl) (by kernel_rfl) (by kernel_rfl) (by kernel_rfl) (by kernel_rfl) (fun _ _ _ h => h) (Or.inl ⟨by rfl, ?_⟩) (by assumption) ?_
    rotate_left
    · (intro w' hSw; (try dsimp only at hSw); (try simp only [List.getElem_toArray, List.getElem_cons_succ, List.getElem_cons_zero]); go_simp; try (with_reducible rfl))
    simp only [Act.put, List.getElem_toArray, List.getElem_cons_succ, List.getElem_cons_zero, List.setIfInBounds_toArray, List.set_cons_zero, List.set_cons_succ]
    refine wpAnyG_take (v := ?_) 9 (by rfl) (by kernel_rfl) (by kernel_rfl) (by kernel_rfl) (by kernel_rfl) (fun _ _ _ h => h) (Or.inl ⟨by rfl, ?_⟩) (by assumption) ?_
    rotate_left
    · (intro w' hSw; (try dsimp only at hSw); (try simp only [List.getElem_toArray, List.getElem_cons_succ, List.getElem_cons_zero]); go_simp; try (with_reducible rfl))
    simp only [Act.put, List.getElem_toArray, List.getElem_cons_succ, List.getElem_cons_zero, List.setIfInBounds_toArray, List.set_cons_zero, List.set_cons_succ]
    refine wpAnyG_ready [0, 10] (by kernel_rfl) (by simp) ?_
    refine AllReadyG.cons 0 (by rfl) (fun K hK => ?_) ?_
    · simp only [List.getElem_toArray, List.getElem_cons_zero]
      go_simp
      refine hK.out _ _ (unhide HS _ (by repeat (first | assumption | exact Below.refl _ _ | refine Below.drew ?_ | refine Below.alloc ?_ (by first | omega | (simp; done) | (simp; omega)) _))) (fun _ => ?_)
      clear hK K
      try simp only [Act.put, List.setIfInBounds_toArray, List.set_cons_zero, List.set_cons_succ]
      refine wpAnyG_ready [3, 10] (by kernel_rfl) (by simp) ?_
      refine AllReadyG.cons 3 (by rfl) (fun K hK => ?_) ?_
      · simp only [List.getElem_toArray, List.getElem_cons_succ, List.getElem_cons_zero]
        refine if_wanted (by rfl) (wp_app (w := W3.alloc (.cells #[] 3)) _ _ (by rfl) W3.heap.size _ _ [] q.tail (by rfl) (by rfl) (own_lit (W3) _ (W3.heap.size) 0 [] (by simp) rfl (by first | omega | (simp; done) | (simp; omega)) (by simp)) (unhide HU _ (by repeat (first | assumption | exact Below.refl _ _ | refine Below.drew ?_ | refine Below.alloc ?_ (by first | omega | (simp; done) | (simp; omega)) _))) q.tail.length (by simp) (by omega) (by first | omega | (simp; done) | (simp; omega)) ?_)
        intro a5 c5 w5 hown5 hb5 hgr5
        have hb5' : Below W3.heap.size W3 w5 := Below.trans (by repeat (first | assumption | exact Below.refl _ _ | refine Below.drew ?_ | refine Below.alloc ?_ (by first | omega | (simp; done) | (simp; omega)) _)) hb5
        have hs5 := hb5'.size
        skip
        clear hb5 hgr5
        refine hK.out _ _ (unhide HS _ (by repeat (first | assumption | exact Below.refl _ _ | refine Below.drew ?_ | refine Below.alloc ?_ (by first | omega | (simp; done) | (simp; omega)) _))) (fun _ => ?_)
        clear hK K
        try simp only [Act.put, List.setIfInBounds_toArray, List.set_cons_zero, List.set_cons_succ]
        refine wpAnyG_ready [10] (by kernel_rfl) (by simp) ?_
        refine AllReadyG.cons 10 (by rfl) (fun K hK => ?_) ?_
        · simp only [List.getElem_toArray, List.getElem_cons_succ, List.getElem_cons_zero]
          go_simp
          refine hK.out _ _ (unhide HS _ (by repeat (first | assumption | exact Below.refl _ _ | refine Below.drew ?_ | refine Below.alloc ?_ (by first | omega | (simp; done) | (simp; omega)) _))) (fun _ => ?_)
          clear hK K
          try simp only [Act.put, List.setIfInBounds_toArray, List.set_cons_zero, List.set_cons_succ]
          refine wpAnyG_ready [11] (by kernel_rfl) (by simp) ?_
          refine AllReadyG.cons 11 (by rfl) (fun K hK => ?_) ?_
          · simp only [List.getElem_toArray, List.getElem_cons_succ, List.getElem_cons_zero]
            refine if_wanted (by rfl) (wp_app (w := w5.alloc (.cells #[.int .i64 y0, .int .i64 y1] 3)) _ _ (by rfl) W3.heap.size _ _ q.tail [y0, y1] (by rfl) (by rfl) (World.ownsRow.alloc hown5 _) (OwnI.ints (own_lit (w5) 0 (w5.heap.size) 2 [y0, y1] (by simp) rfl (by omega) (by simp))) (q.tail.length + 2) (by simp) (by omega) (by first | omega | (simp; done) | (simp; omega)) ?_)
            intro a6 c6 w6 hown6 hb6 hgr6
            have hb6' : Below W3.heap.size W3 w6 := Below.trans (by repeat (first | assumption | exact Below.refl _ _ | refine Below.drew ?_ | refine Below.alloc ?_ (by first | omega | (simp; done) | (simp; omega)) _)) hb6
            have hbox6 := (unhide HX1).below hb6'
            obtain ⟨m0, m1, m2, m3, n0, n1, n2, n3⟩ := obj_cells hbox6.b1
            clear hb6 hgr6
            refine hK.out _ _ (unhide HS _ (by repeat (first | assumption | exact Below.refl _ _ | refine Below.drew ?_ | refine Below.alloc ?_ (by first | omega | (simp; done) | (simp; omega)) _))) (fun _ => ?_)
            clear hK K
            try simp only [Act.put, List.setIfInBounds_toArray, List.set_cons_zero, List.set_cons_succ]
            refine wpAnyG_take (v := ?_) 12 (by rfl) (by kernel_rfl) (by kernel_rfl) (by kernel_rfl) (by kernel_rfl) (fun _ _ _ h => h) (Or.inl ⟨by rfl, ?_⟩) (by assumption) ?_
            rotate_left
            · (intro w' hSw; (try dsimp only at hSw); (try simp only [List.getElem_toArray, List.getElem_cons_succ, List.getElem_cons_zero]); go_simp; try (with_reducible rfl))
            simp only [Act.put, List.getElem_toArray, List.getElem_cons_succ, List.getElem_cons_zero, List.setIfInBounds_toArray, List.set_cons_zero, List.set_cons_succ]
            refine wpAnyG_ready [13] (by kernel_rfl) (by simp) ?_
            refine AllReadyG.last 13 (by rfl) (by kernel_rfl) (fun K hK => ?_) ?_
            · simp only [List.getElem_toArray, List.getElem_cons_succ, List.getElem_cons_zero]
              go_simp
              refine hK.out _ _ ?_
              clear hK K
              try simp only [Act.put, List.setIfInBounds_toArray, List.set_cons_zero, List.set_cons_succ]
              refine wpAnyG_done (by kernel_rfl) ?_ _
              refine NoPanic.normal ?_
              go_wp2
              go_meet
              exact ⟨_, _, own_store (own_base hown6 (by omega)) (by omega) _ _, hbox6.setT _⟩
            exact AllReadyG.nil
          exact AllReadyG.nil
        exact AllReadyG.nil
      refine AllReadyG.cons 10 (by rfl) (fun K hK => ?_) ?_
      · simp only [List.getElem_toArray, List.getElem_cons_succ, List.getElem_cons_zero]
        go_simp
        refine hK.out _ _ (unhide HS _ (by repeat (first | assumption | exact Below.refl _ _ | refine Below.drew ?_ | refine Below.alloc ?_ (by first | omega | (simp; done) | (simp; omega)) _))) (fun _ => ?_)
        clear hK K
        try simp only [Act.put, List.setIfInBounds_toArray, List.set_cons_zero, List.set_cons_succ]
        refine wpAnyG_ready [3] (by kernel_rfl) (by simp) ?_
        refine AllReadyG.cons 3 (by rfl) (fun K hK => ?_) ?_
        · simp only [List.getElem_toArray, List.getElem_cons_succ, List.getElem_cons_zero]
          refine if_wanted (by rfl) (wp_app (w := (W3.alloc (.cells #[] 3)).alloc (.cells #[.int .i64 y0, .int .i64 y1] 3)) _ _ (by rfl) W3.heap.size _ _ [] q.tail (by rfl) (by rfl) (World.ownsRow.alloc (own_lit (W3) _ (W3.heap.size) 0 [] (by simp) rfl (by first | omega | (simp; done) | (simp; omega)) (by simp)) _) (unhide HU _ (by repeat (first | assumption | exact Below.refl _ _ | refine Below.drew ?_ | refine Below.alloc ?_ (by first | omega | (simp; done) | (simp; omega)) _))) q.tail.length (by simp) (by omega) (by first | omega | (simp; done) | (simp; omega)) ?_)
          intro a5 c5 w5 hown5 hb5 hgr5
          have hb5' : Below W3.heap.size W3 w5 := Below.trans (by repeat (first | assumption | exact Below.refl _ _ | refine Below.drew ?_ | refine Below.alloc ?_ (by first | omega | (simp; done) | (simp; omega)) _)) hb5
          have hs5 := hb5'.size
          have hlit5 := lit_kept (own_lit (W3.alloc (.cells #[] 3)) 0 (W3.heap.size + 1) 2 [y0, y1] (by simp) rfl (by omega) (by simp)) hgr5 (by first | omega | (simp; done) | (simp; omega))
          clear hb5 hgr5
          refine hK.out _ _ (unhide HS _ (by repeat (first | assumption | exact Below.refl _ _ | refine Below.drew ?_ | refine Below.alloc ?_ (by first | omega | (simp; done) | (simp; omega)) _))) (fun _ => ?_)
          clear hK K
          try simp only [Act.put, List.setIfInBounds_toArray, List.set_cons_zero, List.set_cons_succ]
          refine wpAnyG_ready [11] (by kernel_rfl) (by simp) ?_
          refine AllReadyG.cons 11 (by rfl) (fun K hK => ?_) ?_
          · simp only [List.getElem_toArray, List.getElem_cons_succ, List.getElem_cons_zero]
            refine if_wanted (by rfl) (wp_app (w := w5) _ _ (by rfl) W3.heap.size _ _ q.tail [y0, y1] (by rfl) (by rfl) (hown5) (OwnI.ints (hlit5)) (q.tail.length + 2) (by simp) (by omega) (by first | omega | (simp; done) | (simp; omega)) ?_)
            intro a6 c6 w6 hown6 hb6 hgr6
            have hb6' : Below W3.heap.size W3 w6 := Below.trans (by repeat (first | assumption | exact Below.refl _ _ | refine Below.drew ?_ | refine Below.alloc ?_ (by first | omega | (simp; done) | (simp; omega)) _)) hb6
            have hbox6 := (unhide HX1).below hb6'
            obtain ⟨m0, m1, m2, m3, n0, n1, n2, n3⟩ := obj_cells hbox6.b1
            clear hb6 hgr6
            refine hK.out _ _ (unhide HS _ (by repeat (first | assumption | exact Below.refl _ _ | refine Below.drew ?_ | refine Below.alloc ?_ (by first | omega | (simp; done) | (simp; omega)) _))) (fun _ => ?_)
            clear hK K
            try simp only [Act.put, List.setIfInBounds_toArray, List.set_cons_zero, List.set_cons_succ]
            refine wpAnyG_take (v := ?_) 12 (by rfl) (by kernel_rfl) (by kernel_rfl) (by kernel_rfl) (by kernel_rfl) (fun _ _ _ h => h) (Or.inl ⟨by rfl, ?_⟩) (by assumption) ?_
            rotate_left
            · (intro w' hSw; (try dsimp only at hSw); (try simp only [List.getElem_toArray, List.getElem_cons_succ, List.getElem_cons_zero]); go_simp; try (with_reducible rfl))
            simp only [Act.put, List.getElem_toArray, List.getElem_cons_succ, List.getElem_cons_zero, List.setIfInBounds_toArray, List.set_cons_zero, List.set_cons_succ]
            refine wpAnyG_ready [13] (by kernel_rfl) (by simp) ?_
            refine AllReadyG.last 13 (by rfl) (by kernel_rfl) (fun K hK => ?_) ?_
            · simp only [List.getElem_toArray, List.getElem_cons_succ, List.getElem_cons_zero]
              go_simp
              refine hK.out _ _ ?_
              clear hK K
              try simp only [Act.put, List.setIfInBounds_toArray, List.set_cons_zero, List.set_cons_succ]
              refine wpAnyG_done (by kernel_rfl) ?_ _
              refine NoPanic.normal ?_
              go_wp2
              go_meet
              exact ⟨_, _, own_store (own_base hown6 (by omega)) (by omega) _ _, hbox6.setT _⟩
            exact AllReadyG.nil
          exact AllReadyG.nil
        exact AllReadyG.nil
      exact AllReadyG.nil
    refine AllReadyG.cons 10 (by rfl) (fun K hK => ?_) ?_
    · simp only [List.getElem_toArray, List.getElem_cons_succ, List.getElem_cons_zero]
      go_simp
      refine hK.out _ _ (unhide HS _ (by repeat (first | assumption | exact Below.refl _ _ | refine Below.drew ?_ | refine Below.alloc ?_ (by first | omega | (simp; done) | (simp; omega)) _))) (fun _ => ?_)
      clear hK K
      try simp only [Act.put, List.setIfInBounds_toArray, List.set_cons_zero, List.set_cons_succ]
      refine wpAnyG_ready [0] (by kernel_rfl) (by simp) ?_
      refine AllReadyG.cons 0 (by rfl) (fun K hK => ?_) ?_
      · simp only [List.getElem_toArray, List.getElem_cons_zero]
        go_simp
        refine hK.out _ _ (unhide HS _ (by repeat (first | assumption | exact Below.refl _ _ | refine Below.drew ?_ | refine Below.alloc ?_ (by first | omega | (simp; done) | (simp; omega)) _))) (fun _ => ?_)
        clear hK K
        try simp only [Act.put, List.setIfInBounds_toArray, List.set_cons_zero, List.set_cons_succ]
        refine wpAnyG_ready [3] (by kernel_rfl) (by simp) ?_
        refine AllReadyG.cons 3 (by rfl) (fun K hK => ?_) ?_
        · simp only [List.getElem_toArray, List.getElem_cons_succ, List.getElem_cons_zero]
          refine if_wanted (by rfl) (wp_app (w := (W3.alloc (.cells #[.int .i64 y0, .int .i64 y1] 3)).alloc (.cells #[] 3)) _ _ (by rfl) W3.heap.size _ _ [] q.tail (by rfl) (by rfl) (own_lit (W3.alloc (.cells #[.int .i64 y0, .int .i64 y1] 3)) _ (W3.heap.size + 1) 0 [] (by simp) rfl (by first | omega | (simp; done) | (simp; omega)) (by simp)) (unhide HU _ (by repeat (first | assumption | exact Below.refl _ _ | refine Below.drew ?_ | refine Below.alloc ?_ (by first | omega | (simp; done) | (simp; omega)) _))) q.tail.length (by simp) (by omega) (by first | omega | (simp; done) | (simp; omega)) ?_)
          intro a5 c5 w5 hown5 hb5 hgr5
          have hb5' : Below W3.heap.size W3 w5 := Below.trans (by repeat (first | assumption | exact Below.refl _ _ | refine Below.drew ?_ | refine Below.alloc ?_ (by first | omega | (simp; done) | (simp; omega)) _)) hb5
          have hs5 := hb5'.size
          have hlit5 := lit_kept (World.ownsRow.alloc (own_lit (W3) 0 (W3.heap.size) 2 [y0, y1] (by simp) rfl (by omega) (by simp)) _) hgr5 (by first | omega | (simp; done) | (simp; omega))
          clear hb5 hgr5
          refine hK.out _ _ (unhide HS _ (by repeat (first | assumption | exact Below.refl _ _ | refine Below.drew ?_ | refine Below.alloc ?_ (by first | omega | (simp; done) | (simp; omega)) _))) (fun _ => ?_)
          clear hK K
          try simp only [Act.put, List.setIfInBounds_toArray, List.set_cons_zero, List.set_cons_succ]
          refine wpAnyG_ready [11] (by kernel_rfl) (by simp) ?_
          refine AllReadyG.cons 11 (by rfl) (fun K hK => ?_) ?_
          · simp only [List.getElem_toArray, List.getElem_cons_succ, List.getElem_cons_zero]
            refine if_wanted (by rfl) (wp_app (w := w5) _ _ (by rfl) W3.heap.size _ _ q.tail [y0, y1] (by rfl) (by rfl) (hown5) (OwnI.ints (hlit5)) (q.tail.length + 2) (by simp) (by omega) (by first | omega | (simp; done) | (simp; omega)) ?_)
            intro a6 c6 w6 hown6 hb6 hgr6
            have hb6' : Below W3.heap.size W3 w6 := Below.trans (by repeat (first | assumption | exact Below.refl _ _ | refine Below.drew ?_ | refine Below.alloc ?_ (by first | omega | (simp; done) | (simp; omega)) _)) hb6
            have hbox6 := (unhide HX1).below hb6'
            obtain ⟨m0, m1, m2, m3, n0, n1, n2, n3⟩ := obj_cells hbox6.b1
            clear hb6 hgr6
            refine hK.out _ _ (unhide HS _ (by repeat (first | assumption | exact Below.refl _ _ | refine Below.drew ?_ | refine Below.alloc ?_ (by first | omega | (simp; done) | (simp; omega)) _))) (fun _ => ?_)
            clear hK K
            try simp only [Act.put, List.setIfInBounds_toArray, List.set_cons_zero, List.set_cons_succ]
            refine wpAnyG_take (v := ?_) 12 (by rfl) (by kernel_rfl) (by kernel_rfl) (by kernel_rfl) (by kernel_rfl) (fun _ _ _ h => h) (Or.inl ⟨by rfl, ?_⟩) (by assumption) ?_
            rotate_left
            · (intro w' hSw; (try dsimp only at hSw); (try simp only [List.getElem_toArray, List.getElem_cons_succ, List.getElem_cons_zero]); go_simp; try (with_reducible rfl))
            simp only [Act.put, List.getElem_toArray, List.getElem_cons_succ, List.getElem_cons_zero, List.setIfInBounds_toArray, List.set_cons_zero, List.set_cons_succ]
            refine wpAnyG_ready [13] (by kernel_rfl) (by simp) ?_
            refine AllReadyG.last 13 (by rfl) (by kernel_rfl) (fun K hK => ?_) ?_
            · simp only [List.getElem_toArray, List.getElem_cons_succ, List.getElem_cons_zero]
              go_simp
              refine hK.out _ _ ?_
              clear hK K
              try simp only [Act.put, List.setIfInBounds_toArray, List.set_cons_zero, List.set_cons_succ]
              refine wpAnyG_done (by kernel_rfl) ?_ _
              refine NoPanic.normal ?_
              go_wp2
              go_meet
              exact ⟨_, _, own_store (own_base hown6 (by omega)) (by omega) _ _, hbox6.setT _⟩
            exact AllReadyG.nil
          exact AllReadyG.nil
        exact AllReadyG.nil
      exact AllReadyG.nil
    exact AllReadyG.nil
  case rest =>
    obtain ⟨wA, rfl⟩ : ∃ wA, wA = wc := ⟨_, rfl⟩
    obtain ⟨a8, c8, hown8, hbox8⟩ := hcut
    clear HX0
    have hs8 := hbox8.size
    obtain ⟨m0, m1, m2, m3, n0, n1, n2, n3⟩ := obj_cells hbox8.b1
    have HB8 := hide hbox8
    have k2 : ∀ ob, (wA.alloc ob).cell? ⟨w.heap.size, 2, none⟩ = some (.slice na q.next.length nc) := fun ob => (obj_cells ((unhide HB8).below ((Below.refl _ _).alloc (Nat.le_refl _) ob)).b1).2.2.1
    go_wp2_with (at_builtin; refine wpList_app (w := wA.alloc (.cells #[] 3)) rfl _ _ rfl wA.heap.size _ _ [] q.next rfl rfl (own_lit wA _ _ 0 [] rfl rfl (Nat.le_refl _) (by simp)) (unhide U2 _ ((unhide HB8).below ((Below.refl _ _).alloc (Nat.le_refl _) _)).bel) q.next.length (by simp) (by omega) (by simp) ?_)
    intro a9 c9 w9 hown9 hb9 hgr9
    have hb9' : Below wA.heap.size wA w9 := ((Below.refl _ _).alloc (Nat.le_refl _) _).trans hb9
    have hs9 := hb9'.size
    clear hgr9 hb9
    go_wp2_with (at_builtin; refine wpList_app (w := w9.alloc (.cells #[.int .i64 (q.tail.length : Int), .int .i64 ((q.tail.length : Int) + 1)] 3)) rfl _ _ rfl wA.heap.size _ _ q.next [(q.tail.length : Int), (q.tail.length : Int) + 1] rfl rfl (World.ownsRow.alloc hown9 _) (OwnI.ints (own_lit w9 0 _ 2 [(q.tail.length : Int), (q.tail.length : Int) + 1] rfl rfl (by omega) (by simp))) (q.next.length + 2) (by simp) (by omega) (by first | omega | (simp; omega)) ?_)
    intro a10 c10 w10 hown10 hb10 hgr10
    have hb10' : Below wA.heap.size wA w10 := (hb9'.alloc (by omega) _).trans hb10
    have hbox10 := (unhide HB8).below hb10'
    have hown8' := own_below hown8 hb10'
    clear m0 m1 m2 m3 n0 n1 n2 n3 k2
    obtain ⟨m0, m1, m2, m3, n0, n1, n2, n3⟩ := obj_cells hbox10.b1
    clear hgr10 hb10 HB8 hbox8 hb9' hown9
    go_upto_region 10 with fail
    have hT := hide (own_store hown8' (by omega : w.heap.size < w.heap.size + 2) 2 (.slice a10 (q.next.length + 2) c10))
    have hN := hide (own_store hown10 (by omega : w.heap.size < wA.heap.size) 2 (.slice a10 (q.next.length + 2) c10))
    have HX0 := hide (hbox10.setN (.slice a10 (q.next.length + 2) c10))
    have hWs : Hid (wA.heap.size ≤ (w10.setCell ⟨w.heap.size, 2, none⟩ (.slice a10 (q.next.length + 2) c10)).heap.size) := hide (by rw [World.size_setCell]; exact hb10'.size)
    have hlt8 : ∀ k, (Value.slice a8 (q.tail.length + 2) c8).ownBlock = some k → k < wA.heap.size := fun k hk => (hown8.lt k hk).2
    have Hlt8 := hide hlt8
    clear m0 m1 m2 m3 n0 n1 n2 n3 hbox10 hown8' hown10 hb10' hlt8 hown8
    generalize w10.setCell ⟨w.heap.size, 2, none⟩ (.slice a10 (q.next.length + 2) c10) = W2 at *
    have hlt9 : ∀ k, (Value.slice a10 (q.next.length + 2) c10).ownBlock = some k → k < W2.heap.size := fun k hk => ((unhide hN).lt k hk).2
    have Hlt9 := hide hlt9
    clear hlt9
    go_cut [] (fun wx => ∃ a' c', OwnI wx W2.heap.size (.slice a' (q.cap.length + 2) c') (q.cap ++ [y2, y3]) ∧ BoxAt w wx q.n (.slice a8 (q.tail.length + 2) c8) (.slice a10 (q.next.length + 2) c10) (.slice a' (q.cap.length + 2) c') ∧ OwnI wx (w.heap.size + 2) (.slice a8 (q.tail.length + 2) c8) (q.tail ++ [y0, y1]) ∧ OwnI wx wA.heap.size (.slice a10 (q.next.length + 2) c10) (q.next ++ [(q.tail.length : Int), (q.tail.length : Int) + 1]))
    case first =>
      have HX1 := hide ((unhide HX0).below (Below.refl _ _).drew)
      have HS : Hid (∀ w', Below W2.drew.heap.size W2.drew w' → w'.cell? ⟨w.heap.size, 3, none⟩ = some (.slice ca q.cap.length cc) ∧ w'.cell? ⟨b, o + 2, none⟩ = some (.int .i64 y2) ∧ w'.cell? ⟨b, o + 3, none⟩ = some (.int .i64 y3)) := by
        refine hide fun w' hb => ?_
        have h := (unhide HX1).below hb
        obtain ⟨x0, x1, x2, x3⟩ := unhide HX _ h.bel
        exact ⟨(obj_cells h.b1).2.2.2.1, x2, x3⟩
      have HU : Hid (∀ w', Below W2.drew.heap.size W2.drew w' → Ints w' (.slice ca q.cap.length cc) q.cap) := hide fun w' hb => unhide U3 _ ((unhide HX1).below hb).bel
      have hsz := (unhide HX1).size
      refine wp_region_G (fun w' => w'.cell? ⟨w.heap.size, 3, none⟩ = some (.slice ca q.cap.length cc) ∧ w'.cell? ⟨b, o + 2, none⟩ = some (.int .i64 y2) ∧ w'.cell? ⟨b, o + 3, none⟩ = some (.int .i64 y3)) (fun i => i == 13) (by kernel_rfl) (unhide HS _ (Below.refl _ _)) (fun hHeld => ?_)
      have hT3 := hide (own_drew (unhide hT))
      have hN3 := hide (own_drew (unhide hN))
      have hWW : Hid (W2.drew.heap.size = W2.heap.size) := hide rfl
      have hWc : Hid (wA.heap.size ≤ W2.heap.size ∧ w.heap.size + 1 < wA.heap.size) := hide ⟨(unhide hWs), hs8⟩
      generalize W2.drew = W3 at *
      refine wpAnyG_take (v := ?_) 1 (by rfl) (by kernel_rfl) (by kernel_rfl) (by kernel_rfl) (by kernel_rfl) (fun _ _ _ h => h) (Or.inl ⟨by rfl, ?_⟩) (by assumption) ?_
      rotate_left
      · (intro w' hSw; (try dsimp only at hSw); (try simp only [List.getElem_toArray, List.getElem_cons_succ, List.getElem_cons_zero]); go_simp; try (with_reducible rfl))
      simp only [Act.put, List.getElem_toArray, List.getElem_cons_succ, List.getElem_cons_zero, List.setIfInBounds_toArray, List.set_cons_zero, List.set_cons_succ]
      refine wpAnyG_take (v := ?_) 2 (by rfl) (by kernel_rfl) (by kernel_rfl) (by kernel_rfl) (by kernel_rfl) (fun _ _ _ h => h) (Or.inl ⟨by rfl, ?_⟩) (by assumption) ?_
      rotate_left
      · (intro w' hSw; (try dsimp only at hSw); (try simp only [List.getElem_toArray, List.getElem_cons_succ, List.getElem_cons_zero]); go_simp; try (with_reducible rfl))
      simp only [Act.put, List.getElem_toArray, List.getElem_cons_succ, List.getElem_cons_zero, List.setIfInBounds_toArray, List.set_cons_zero, List.set_cons_succ]
      refine wpAnyG_take (v := ?_) 4 (by rfl) (by kernel_rfl) (by kernel_rfl) (by kernel_rfl) (by kernel_rfl) (fun _ _ _ h => h) (Or.inl ⟨by rfl, ?_⟩) (by assumption) ?_
      rotate_left
      · (intro w' hSw; (try dsimp only at hSw); (try simp only [List.getElem_toArray, List.getElem_cons_succ, List.getElem_cons_zero]); go_simp; try (with_reducible rfl))
      simp only [Act.put, List.getElem_toArray, List.getElem_cons_succ, List.getElem_cons_zero, List.setIfInBounds_toArray, List.set_cons_zero, List.set_cons_succ]
      refine wpAnyG_take (v := ?_) 5 (by rfl) (by kernel_rfl) (by kernel_rfl) (by kernel_rfl) (by kernel_rfl) (fun _ _ _ h => h) (Or.inl ⟨by rfl, ?_⟩) (by assumption) ?_
      rotate_left
      · (intro w' hSw; (try dsimp only at hSw); (try simp only [List.getElem_toArray, List.getElem_cons_succ, List.getElem_cons_zero]); go_simp; try (with_reducible rfl))
      simp only [Act.put, List.getElem_toArray, List.getElem_cons_succ, List.getElem_cons_zero, List.setIfInBounds_toArray, List.set_cons_zero, List.set_cons_succ]
      refine wpAnyG_take (v := ?_) 6 (by rfl) (by kernel_rfl) (by kernel_rfl) (by kernel_rfl) (by kernel_rfl) (fun _ _ _ h => h) (Or.inl ⟨by rfl, ?_⟩) (by assumption) ?_
      rotate_left
      · (intro w' hSw; (try dsimp only at hSw); (try simp only [List.getElem_toArray, List.getElem_cons_succ, List.getElem_cons_zero]); go_simp; try (with_reducible rfl))
      simp only [Act.put, List.getElem_toArray, List.getElem_cons_succ, List.getElem_cons_zero, List.setIfInBounds_toArray, List.set_cons_zero, List.set_cons_succ]
      refine wpAnyG_take (v := ?_) 7 (by rfl) (by kernel_rfl) (by kernel_rfl) (by kernel_rfl) (by kernel_rfl) (fun _ _ _ h => h) (Or.inl ⟨by rfl, ?_⟩) (by assumption) ?_
      rotate_left
      · (intro w' hSw; (try dsimp only at hSw); (try simp only [List.getElem_toArray, List.getElem_cons_succ, List.getElem_cons_zero]); go_simp; try (with_reducible rfl))
      simp only [Act.put, List.getElem_toArray, List.getElem_cons_succ, List.getElem_cons_zero, List.setIfInBounds_toArray, List.set_cons_zero, List.set_cons_succ]
      refine wpAnyG_take (v := ?_) 8 (by rfl) (by kernel_rfl) (by kernel_rfl) (by kernel_rfl) (by kernel_rfl) (fun _ _ _ h => h) (Or.inl ⟨by rfl, ?_⟩) (by assumption) ?_
      rotate_left
      · (intro w' hSw; (try dsimp only at hSw); (try simp only [List.getElem_toArray, List.getElem_cons_succ, List.getElem_cons_zero]); go_simp; try (with_reducible rfl))
      simp only [Act.put, List.getElem_toArray, List.getElem_cons_succ, List.getElem_cons_zero, List.setIfInBounds_toArray, List.set_cons_zero, List.set_cons_succ]
      refine wpAnyG_take (v := ?_) 9 (by rfl) (by kernel_rfl) (by kernel_rfl) (by kernel_rfl) (by kernel_rfl) (fun _ _ _ h => h) (Or.inl ⟨by rfl, ?_⟩) (by assumption) ?_
      rotate_left
      · (intro w' hSw; (try dsimp only at hSw); (try simp only [List.getElem_toArray, List.getElem_cons_succ, List.getElem_cons_zero]); go_simp; try (with_reducible rfl))
      simp only [Act.put, List.getElem_toArray, List.getElem_cons_succ, List.getElem_cons_zero, List.setIfInBounds_toArray, List.set_cons_zero, List.set_cons_succ]
      refine wpAnyG_ready [0, 10] (by kernel_rfl) (by simp) ?_
      refine AllReadyG.cons 0 (by rfl) (fun K hK => ?_) ?_
      · simp only [List.getElem_toArray, List.getElem_cons_zero]
        go_simp
        refine hK.out _ _ (unhide HS _ (by repeat (first | assumption | exact Below.refl _ _ | refine Below.drew ?_ | refine Below.alloc ?_ (by first | omega | (simp; done) | (simp; omega)) _))) (fun _ => ?_)
        clear hK K
        try simp only [Act.put, List.setIfInBounds_toArray, List.set_cons_zero, List.set_cons_succ]
        refine wpAnyG_ready [3, 10] (by kernel_rfl) (by simp) ?_
        refine AllReadyG.cons 3 (by rfl) (fun K hK => ?_) ?_
        · simp only [List.getElem_toArray, List.getElem_cons_succ, List.getElem_cons_zero]
          refine if_wanted (by rfl) (wp_app (w := W3.alloc (.cells #[] 3)) _ _ (by rfl) W3.heap.size _ _ [] q.cap (by rfl) (by rfl) (own_lit (W3) _ (W3.heap.size) 0 [] (by simp) rfl (by first | omega | (simp; done) | (simp; omega)) (by simp)) (unhide HU _ (by repeat (first | assumption | exact Below.refl _ _ | refine Below.drew ?_ | refine Below.alloc ?_ (by first | omega | (simp; done) | (simp; omega)) _))) q.cap.length (by simp) (by omega) (by first | omega | (simp; done) | (simp; omega)) ?_)
          intro a5 c5 w5 hown5 hb5 hgr5
          have hb5' : Below W3.heap.size W3 w5 := Below.trans (by repeat (first | assumption | exact Below.refl _ _ | refine Below.drew ?_ | refine Below.alloc ?_ (by first | omega | (simp; done) | (simp; omega)) _)) hb5
          have hs5 := hb5'.size
          skip
          clear hb5 hgr5
          refine hK.out _ _ (unhide HS _ (by repeat (first | assumption | exact Below.refl _ _ | refine Below.drew ?_ | refine Below.alloc ?_ (by first | omega | (simp; done) | (simp; omega)) _))) (fun _ => ?_)
          clear hK K
          try simp only [Act.put, List.setIfInBounds_toArray, List.set_cons_zero, List.set_cons_succ]
          refine wpAnyG_ready [10] (by kernel_rfl) (by simp) ?_
          refine AllReadyG.cons 10 (by rfl) (fun K hK => ?_) ?_
          · simp only [List.getElem_toArray, List.getElem_cons_succ, List.getElem_cons_zero]
            go_simp
            refine hK.out _ _ (unhide HS _ (by repeat (first | assumption | exact Below.refl _ _ | refine Below.drew ?_ | refine Below.alloc ?_ (by first | omega | (simp; done) | (simp; omega)) _))) (fun _ => ?_)
            clear hK K
            try simp only [Act.put, List.setIfInBounds_toArray, List.set_cons_zero, List.set_cons_succ]
            refine wpAnyG_ready [11] (by kernel_rfl) (by simp) ?_
            refine AllReadyG.cons 11 (by rfl) (fun K hK => ?_) ?_
            · simp only [List.getElem_toArray, List.getElem_cons_succ, List.getElem_cons_zero]
              refine if_wanted (by rfl) (wp_app (w := w5.alloc (.cells #[.int .i64 y2, .int .i64 y3] 3)) _ _ (by rfl) W3.heap.size _ _ q.cap [y2, y3] (by rfl) (by rfl) (World.ownsRow.alloc hown5 _) (OwnI.ints (own_lit (w5) 0 (w5.heap.size) 2 [y2, y3] (by simp) rfl (by omega) (by simp))) (q.cap.length + 2) (by simp) (by omega) (by first | omega | (simp; done) | (simp; omega)) ?_)
              intro a6 c6 w6 hown6 hb6 hgr6
              have hb6' : Below W3.heap.size W3 w6 := Below.trans (by repeat (first | assumption | exact Below.refl _ _ | refine Below.drew ?_ | refine Below.alloc ?_ (by first | omega | (simp; done) | (simp; omega)) _)) hb6
              have hbox6 := (unhide HX1).below hb6'
              obtain ⟨m0, m1, m2, m3, n0, n1, n2, n3⟩ := obj_cells hbox6.b1
              clear hb6 hgr6
              refine hK.out _ _ (unhide HS _ (by repeat (first | assumption | exact Below.refl _ _ | refine Below.drew ?_ | refine Below.alloc ?_ (by first | omega | (simp; done) | (simp; omega)) _))) (fun _ => ?_)
              clear hK K
              try simp only [Act.put, List.setIfInBounds_toArray, List.set_cons_zero, List.set_cons_succ]
              refine wpAnyG_take (v := ?_) 12 (by rfl) (by kernel_rfl) (by kernel_rfl) (by kernel_rfl) (by kernel_rfl) (fun _ _ _ h => h) (Or.inl ⟨by rfl, ?_⟩) (by assumption) ?_
              rotate_left
              · (intro w' hSw; (try dsimp only at hSw); (try simp only [List.getElem_toArray, List.getElem_cons_succ, List.getElem_cons_zero]); go_simp; try (with_reducible rfl))
              simp only [Act.put, List.getElem_toArray, List.getElem_cons_succ, List.getElem_cons_zero, List.setIfInBounds_toArray, List.set_cons_zero, List.set_cons_succ]
              refine wpAnyG_ready [13] (by kernel_rfl) (by simp) ?_
              refine AllReadyG.last 13 (by rfl) (by kernel_rfl) (fun K hK => ?_) ?_
              · simp only [List.getElem_toArray, List.getElem_cons_succ, List.getElem_cons_zero]
                go_simp
                refine hK.out _ _ ?_
                clear hK K
                try simp only [Act.put, List.setIfInBounds_toArray, List.set_cons_zero, List.set_cons_succ]
                refine wpAnyG_done (by kernel_rfl) ?_ _
                refine NoPanic.normal ?_
                go_wp2
                go_meet
                have hWW := unhide hWW
                have hWc := unhide hWc
                exact ⟨_, _, own_store (own_base hown6 (by omega)) (by omega) _ _, hbox6.setC _, own_store (own_below (unhide hT3) hb6') (by omega) _ _, own_store (own_below (unhide hN3) hb6') (by omega) _ _⟩
              exact AllReadyG.nil
            exact AllReadyG.nil
          exact AllReadyG.nil
        refine AllReadyG.cons 10 (by rfl) (fun K hK => ?_) ?_
        · simp only [List.getElem_toArray, List.getElem_cons_succ, List.getElem_cons_zero]
          go_simp
          refine hK.out _ _ (unhide HS _ (by repeat (first | assumption | exact Below.refl _ _ | refine Below.drew ?_ | refine Below.alloc ?_ (by first | omega | (simp; done) | (simp; omega)) _))) (fun _ => ?_)
          clear hK K
          try simp only [Act.put, List.setIfInBounds_toArray, List.set_cons_zero, List.set_cons_succ]
          refine wpAnyG_ready [3] (by kernel_rfl) (by simp) ?_
          refine AllReadyG.cons 3 (by rfl) (fun K hK => ?_) ?_
          · simp only [List.getElem_toArray, List.getElem_cons_succ, List.getElem_cons_zero]
            refine if_wanted (by rfl) (wp_app (w := (W3.alloc (.cells #[] 3)).alloc (.cells #[.int .i64 y2, .int .i64 y3] 3)) _ _ (by rfl) W3.heap.size _ _ [] q.cap (by rfl) (by rfl) (World.ownsRow.alloc (own_lit (W3) _ (W3.heap.size) 0 [] (by simp) rfl (by first | omega | (simp; done) | (simp; omega)) (by simp)) _) (unhide HU _ (by repeat (first | assumption | exact Below.refl _ _ | refine Below.drew ?_ | refine Below.alloc ?_ (by first | omega | (simp; done) | (simp; omega)) _))) q.cap.length (by simp) (by omega) (by first | omega | (simp; done) | (simp; omega)) ?_)
            intro a5 c5 w5 hown5 hb5 hgr5
            have hb5' : Below W3.heap.size W3 w5 := Below.trans (by repeat (first | assumption | exact Below.refl _ _ | refine Below.drew ?_ | refine Below.alloc ?_ (by first | omega | (simp; done) | (simp; omega)) _)) hb5
            have hs5 := hb5'.size
            have hlit5 := lit_kept (own_lit (W3.alloc (.cells #[] 3)) 0 (W3.heap.size + 1) 2 [y2, y3] (by simp) rfl (by omega) (by simp)) hgr5 (by first | omega | (simp; done) | (simp; omega))
            clear hb5 hgr5
            refine hK.out _ _ (unhide HS _ (by repeat (first | assumption | exact Below.refl _ _ | refine Below.drew ?_ | refine Below.alloc ?_ (by first | omega | (simp; done) | (simp; omega)) _))) (fun _ => ?_)
            clear hK K
            try simp only [Act.put, List.setIfInBounds_toArray, List.set_cons_zero, List.set_cons_succ]
            refine wpAnyG_ready [11] (by kernel_rfl) (by simp) ?_
            refine AllReadyG.cons 11 (by rfl) (fun K hK => ?_) ?_
            · simp only [List.getElem_toArray, List.getElem_cons_succ, List.getElem_cons_zero]
              refine if_wanted (by rfl) (wp_app (w := w5) _ _ (by rfl) W3.heap.size _ _ q.cap [y2, y3] (by rfl) (by rfl) (hown5) (OwnI.ints (hlit5)) (q.cap.length + 2) (by simp) (by omega) (by first | omega | (simp; done) | (simp; omega)) ?_)
              intro a6 c6 w6 hown6 hb6 hgr6
              have hb6' : Below W3.heap.size W3 w6 := Below.trans (by repeat (first | assumption | exact Below.refl _ _ | refine Below.drew ?_ | refine Below.alloc ?_ (by first | omega | (simp; done) | (simp; omega)) _)) hb6
              have hbox6 := (unhide HX1).below hb6'
              obtain ⟨m0, m1, m2, m3, n0, n1, n2, n3⟩ := obj_cells hbox6.b1
              clear hb6 hgr6
              refine hK.out _ _ (unhide HS _ (by repeat (first | assumption | exact Below.refl _ _ | refine Below.drew ?_ | refine Below.alloc ?_ (by first | omega | (simp; done) | (simp; omega)) _))) (fun _ => ?_)
              clear hK K
              try simp only [Act.put, List.setIfInBounds_toArray, List.set_cons_zero, List.set_cons_succ]
              refine wpAnyG_take (v := ?_) 12 (by rfl) (by kernel_rfl) (by kernel_rfl) (by kernel_rfl) (by kernel_rfl) (fun _ _ _ h => h) (Or.inl ⟨by rfl, ?_⟩) (by assumption) ?_
              rotate_left
              · (intro w' hSw; (try dsimp only at hSw); (try simp only [List.getElem_toArray, List.getElem_cons_succ, List.getElem_cons_zero]); go_simp; try (with_reducible rfl))
              simp only [Act.put, List.getElem_toArray, List.getElem_cons_succ, List.getElem_cons_zero, List.setIfInBounds_toArray, List.set_cons_zero, List.set_cons_succ]
              refine wpAnyG_ready [13] (by kernel_rfl) (by simp) ?_
              refine AllReadyG.last 13 (by rfl) (by kernel_rfl) (fun K hK => ?_) ?_
              · simp only [List.getElem_toArray, List.getElem_cons_succ, List.getElem_cons_zero]
                go_simp
                refine hK.out _ _ ?_
                clear hK K
                try simp only [Act.put, List.setIfInBounds_toArray, List.set_cons_zero, List.set_cons_succ]
                refine wpAnyG_done (by kernel_rfl) ?_ _
                refine NoPanic.normal ?_
                go_wp2
                go_meet
                have hWW := unhide hWW
                have hWc := unhide hWc
                exact ⟨_, _, own_store (own_base hown6 (by omega)) (by omega) _ _, hbox6.setC _, own_store (own_below (unhide hT3) hb6') (by omega) _ _, own_store (own_below (unhide hN3) hb6') (by omega) _ _⟩
              exact AllReadyG.nil
            exact AllReadyG.nil
          exact AllReadyG.nil
        exact AllReadyG.nil
      refine AllReadyG.cons 10 (by rfl) (fun K hK => ?_) ?_
      · simp only [List.getElem_toArray, List.getElem_cons_succ, List.getElem_cons_zero]
        go_simp
        refine hK.out _ _ (unhide HS _ (by repeat (first | assumption | exact Below.refl _ _ | refine Below.drew ?_ | refine Below.alloc ?_ (by first | omega | (simp; done) | (simp; omega)) _))) (fun _ => ?_)
        clear hK K
        try simp only [Act.put, List.setIfInBounds_toArray, List.set_cons_zero, List.set_cons_succ]
        refine wpAnyG_ready [0] (by kernel_rfl) (by simp) ?_
        refine AllReadyG.cons 0 (by rfl) (fun K hK => ?_) ?_
        · simp only [List.getElem_toArray, List.getElem_cons_zero]
          go_simp
          refine hK.out _ _ (unhide HS _ (by repeat (first | assumption | exact Below.refl _ _ | refine Below.drew ?_ | refine Below.alloc ?_ (by first | omega | (simp; done) | (simp; omega)) _))) (fun _ => ?_)
          clear hK K
          try simp only [Act.put, List.setIfInBounds_toArray, List.set_cons_zero, List.set_cons_succ]
          refine wpAnyG_ready [3] (by kernel_rfl) (by simp) ?_
          refine AllReadyG.cons 3 (by rfl) (fun K hK => ?_) ?_
          · simp only [List.getElem_toArray, List.getElem_cons_succ, List.getElem_cons_zero]
            refine if_wanted (by rfl) (wp_app (w := (W3.alloc (.cells #[.int .i64 y2, .int .i64 y3] 3)).alloc (.cells #[] 3)) _ _ (by rfl) W3.heap.size _ _ [] q.cap (by rfl) (by rfl) (own_lit (W3.alloc (.cells #[.int .i64 y2, .int .i64 y3] 3)) _ (W3.heap.size + 1) 0 [] (by simp) rfl (by first | omega | (simp; done) | (simp; omega)) (by simp)) (unhide HU _ (by repeat (first | assumption | exact Below.refl _ _ | refine Below.drew ?_ | refine Below.alloc ?_ (by first | omega | (simp; done) | (simp; omega)) _))) q.cap.length (by simp) (by omega) (by first | omega | (simp; done) | (simp; omega)) ?_)
            intro a5 c5 w5 hown5 hb5 hgr5
            have hb5' : Below W3.heap.size W3 w5 := Below.trans (by repeat (first | assumption | exact Below.refl _ _ | refine Below.drew ?_ | refine Below.alloc ?_ (by first | omega | (simp; done) | (simp; omega)) _)) hb5
            have hs5 := hb5'.size
            have hlit5 := lit_kept (World.ownsRow.alloc (own_lit (W3) 0 (W3.heap.size) 2 [y2, y3] (by simp) rfl (by omega) (by simp)) _) hgr5 (by first | omega | (simp; done) | (simp; omega))
            clear hb5 hgr5
            refine hK.out _ _ (unhide HS _ (by repeat (first | assumption | exact Below.refl _ _ | refine Below.drew ?_ | refine Below.alloc ?_ (by first | omega | (simp; done) | (simp; omega)) _))) (fun _ => ?_)
            clear hK K
            try simp only [Act.put, List.setIfInBounds_toArray, List.set_cons_zero, List.set_cons_succ]
            refine wpAnyG_ready [11] (by kernel_rfl) (by simp) ?_
            refine AllReadyG.cons 11 (by rfl) (fun K hK => ?_) ?_
            · simp only [List.getElem_toArray, List.getElem_cons_succ, List.getElem_cons_zero]
              refine if_wanted (by rfl) (wp_app (w := w5) _ _ (by rfl) W3.heap.size _ _ q.cap [y2, y3] (by rfl) (by rfl) (hown5) (OwnI.ints (hlit5)) (q.cap.length + 2) (by simp) (by omega) (by first | omega | (simp; done) | (simp; omega)) ?_)
              intro a6 c6 w6 hown6 hb6 hgr6
              have hb6' : Below W3.heap.size W3 w6 := Below.trans (by repeat (first | assumption | exact Below.refl _ _ | refine Below.drew ?_ | refine Below.alloc ?_ (by first | omega | (simp; done) | (simp; omega)) _)) hb6
              have hbox6 := (unhide HX1).below hb6'
              obtain ⟨m0, m1, m2, m3, n0, n1, n2, n3⟩ := obj_cells hbox6.b1
              clear hb6 hgr6
              refine hK.out _ _ (unhide HS _ (by repeat (first | assumption | exact Below.refl _ _ | refine Below.drew ?_ | refine Below.alloc ?_ (by first | omega | (simp; done) | (simp; omega)) _))) (fun _ => ?_)
              clear hK K
              try simp only [Act.put, List.setIfInBounds_toArray, List.set_cons_zero, List.set_cons_succ]
              refine wpAnyG_take (v := ?_) 12 (by rfl) (by kernel_rfl) (by kernel_rfl) (by kernel_rfl) (by kernel_rfl) (fun _ _ _ h => h) (Or.inl ⟨by rfl, ?_⟩) (by assumption) ?_
              rotate_left
              · (intro w' hSw; (try dsimp only at hSw); (try simp only [List.getElem_toArray, List.getElem_cons_succ, List.getElem_cons_zero]); go_simp; try (with_reducible rfl))
              simp only [Act.put, List.getElem_toArray, List.getElem_cons_succ, List.getElem_cons_zero, List.setIfInBounds_toArray, List.set_cons_zero, List.set_cons_succ]
              refine wpAnyG_ready [13] (by kernel_rfl) (by simp) ?_
              refine AllReadyG.last 13 (by rfl) (by kernel_rfl) (fun K hK => ?_) ?_
              · simp only [List.getElem_toArray, List.getElem_cons_succ, List.getElem_cons_zero]
                go_simp
                refine hK.out _ _ ?_
                clear hK K
                try simp only [Act.put, List.setIfInBounds_toArray, List.set_cons_zero, List.set_cons_succ]
                refine wpAnyG_done (by kernel_rfl) ?_ _
                refine NoPanic.normal ?_
                go_wp2
                go_meet
                have hWW := unhide hWW
                have hWc := unhide hWc
                exact ⟨_, _, own_store (own_base hown6 (by omega)) (by omega) _ _, hbox6.setC _, own_store (own_below (unhide hT3) hb6') (by omega) _ _, own_store (own_below (unhide hN3) hb6') (by omega) _ _⟩
              exact AllReadyG.nil
            exact AllReadyG.nil
          exact AllReadyG.nil
        exact AllReadyG.nil
      exact AllReadyG.nil
    case rest =>
      obtain ⟨a11, c11, hC, hbox, hT', hN'⟩ := hcut
      have hsW := (unhide HX0).size
      clear HX0 hT hN
      obtain ⟨m0, m1, m2, m3, n0, n1, n2, n3⟩ := obj_cells hbox.b1
      obtain ⟨r0, r1, r2, r3, s0, s1, s2, s3⟩ := obj_cells hbox.b2
      have hs := hbox.size
      have HT := hide hT'
      have HN := hide hN'
      have HC := hide hC
      have HBx := hide hbox
      clear hT' hN' hC hbox
      go_wp2
      have hfin := box_done (unhide HBx) q.n (.slice a8 (q.tail.length + 2) c8) (.slice a10 (q.next.length + 2) c10) (.slice a11 (q.cap.length + 2) c11)
      have HT' := four_own (unhide HT) (show w.heap.size + 1 < w.heap.size + 2 by omega) q.n (.slice a8 (q.tail.length + 2) c8) (.slice a10 (q.next.length + 2) c10) (.slice a11 (q.cap.length + 2) c11)
      have HN' := four_own (unhide HN) (show w.heap.size + 1 < wA.heap.size by omega) q.n (.slice a8 (q.tail.length + 2) c8) (.slice a10 (q.next.length + 2) c10) (.slice a11 (q.cap.length + 2) c11)
      have HC' := four_own (unhide HC) (show w.heap.size + 1 < W2.heap.size by omega) q.n (.slice a8 (q.tail.length + 2) c8) (.slice a10 (q.next.length + 2) c10) (.slice a11 (q.cap.length + 2) c11)
      have hbl' := four_below (unhide HBx).bel w.heap.size (by omega) q.n (.slice a8 (q.tail.length + 2) c8) (.slice a10 (q.next.length + 2) c10) (.slice a11 (q.cap.length + 2) c11)
      clear r0 r1 r2 r3 s0 s1 s2 s3 m0 m1 m2 m3 n0 n1 n2 n3 HT HN HC HBx
      generalize (((wc.setCell ⟨w.heap.size + 1, 0, none⟩ (.int .i64 q.n)).setCell ⟨w.heap.size + 1, 1, none⟩ (.slice a8 (q.tail.length + 2) c8)).setCell ⟨w.heap.size + 1, 2, none⟩ (.slice a10 (q.next.length + 2) c10)).setCell ⟨w.heap.size + 1, 3, none⟩ (.slice a11 (q.cap.length + 2) c11) = WF at *
      obtain ⟨r0, r1, r2, r3, -, -, -, -⟩ := obj_cells hfin
      refine bodyPost_ret (v := .tuple #[.agg #[.int .i64 q.n, .slice a8 (q.tail.length + 2) c8, .slice a10 (q.next.length + 2) c10, .slice a11 (q.cap.length + 2) c11], .int .i64 0]) (by simp [results, Tryd.results27, go_sem, r0, r1, r2, r3]) rfl ⟨_, _, _, _, rfl, ⟨rfl, own_base HT' (by omega), own_base HN' (by omega), own_base HC' (by omega), sep_bases (unhide Hlt8) HN', sep_bases (fun k hk => ?_) HC', sep_bases (unhide Hlt9) HC'⟩, hbl'⟩
      have := unhide Hlt8 k hk
      have := unhide hWs
      omega
end Go.Proofs.YtkmcfjkfoafkoaaDoor
