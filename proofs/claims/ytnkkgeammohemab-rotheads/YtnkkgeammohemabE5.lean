/- The walk of the law's Make. -/
import Derived.Test.YtnkkgeammohemabE3
namespace Go.Proofs.Ytnkkgeammohemab
open Go Go.RowKit

theorem Ints.drop {w : World} {la : Option Addr} {lc : Nat} {l : List Int} (h : Ints w (.slice la l.length lc) l) (kk : Nat) (hk : kk ≤ l.length) : Ints w (.slice (if lc = kk then la else Option.map (fun x => x.add kk) la) (l.length - kk) (lc - kk)) (l.drop kk) := by
  obtain ⟨a', c', e, h1, h2, h3⟩ := h
  injection e with e1 e2 e3
  subst e1 e3
  refine ⟨_, _, by rw [List.length_drop], by rw [List.length_drop]; omega, by omega, fun j hj => ?_⟩
  rw [List.length_drop] at hj
  obtain ⟨b, o, rfl, hb, hc⟩ := h3 (kk + j) (by omega)
  refine ⟨b, o + kk, ?_, hb, ?_⟩
  · rw [if_neg (by omega), Option.map_some]
    have e2 : (⟨b, o, none⟩ : Addr).add kk = ⟨b, o + kk, none⟩ := by unfold Addr.add; split <;> simp_all
    rw [e2]
  · rw [Nat.add_assoc, hc, List.getElem_drop]
theorem NetI.drew {w : World} {v : Value} {q : Sp.Net} {tv nv cv : Value} (h : NetI w v q tv nv cv) : NetI w.drew v q tv nv cv := h.below (Below.refl _ w).drew
theorem NetV.keep {w w' : World} {B : Nat} {v : Value} {q : Sp.Net} {tv nv cv : Value} (h : NetV w B v q tv nv cv) (hb : Below w.heap.size w w') : NetV w' B v q tv nv cv :=
  ⟨h.val, own_below h.tail hb, own_below h.next hb, own_below h.cap hb, h.tn, h.tc, h.nc⟩
/-- A call's frame with room for the net that it answers, and its own net. -/
structure MakeAt (w wx : World) (n : Int) (tv nv cv : Value) : Prop where
  b0 : wx.heap[w.heap.size]? = some (.cells #[.int .i64 0, .slice none 0 0, .slice none 0 0, .slice none 0 0] 25 (0, 0))
  b1 : wx.heap[w.heap.size + 1]? = some (.cells #[.int .i64 n, tv, nv, cv] 25 (0, 0))
  bel : Below w.heap.size w wx
theorem MakeAt.size {w wx : World} {n : Int} {tv nv cv : Value} (h : MakeAt w wx n tv nv cv) : w.heap.size + 1 < wx.heap.size := heap_lt h.b1
theorem MakeAt.below {w wx wy : World} {n : Int} {tv nv cv : Value} (h : MakeAt w wx n tv nv cv) (hb : Below wx.heap.size wx wy) : MakeAt w wy n tv nv cv := by
  have hs := h.size
  exact ⟨(hb.block _ (by omega)).trans h.b0, (hb.block _ (by omega)).trans h.b1, h.bel.trans (hb.mono (by omega))⟩
theorem MakeAt.start (w : World) (n : Int) (tv nv cv : Value) : MakeAt w ((w.alloc (.cells #[.int .i64 0, .slice none 0 0, .slice none 0 0, .slice none 0 0] 25)).alloc (.cells #[.int .i64 n, tv, nv, cv] 25)) n tv nv cv := by
  have hz : (w.alloc (.cells #[.int .i64 0, .slice none 0 0, .slice none 0 0, .slice none 0 0] 25)).heap.size = w.heap.size + 1 := by simp
  refine ⟨?_, ?_, ((Below.refl _ w).alloc (Nat.le_refl _) _).alloc (by simp) _⟩
  · exact (heap_alloc_old _ _ (by simp)).trans (heap_alloc_new w _)
  · have h := heap_alloc_new (w.alloc (.cells #[.int .i64 0, .slice none 0 0, .slice none 0 0, .slice none 0 0] 25)) (.cells #[.int .i64 n, tv, nv, cv] 25)
    rw [hz] at h; exact h
/-- The whole net stored anew. -/
theorem MakeAt.set {w wx : World} {n : Int} {tv nv cv : Value} (h : MakeAt w wx n tv nv cv) (n' : Int) (a b c : Value) : MakeAt w ((((wx.setCell ⟨w.heap.size + 1, 0, none⟩ (.int .i64 n')).setCell ⟨w.heap.size + 1, 1, none⟩ a).setCell ⟨w.heap.size + 1, 2, none⟩ b).setCell ⟨w.heap.size + 1, 3, none⟩ c) n' a b c := by
  have h0 := heap_setCell_same wx (w.heap.size + 1) 0 _ _ (.int .i64 n') h.b1
  have h1 := heap_setCell_same _ (w.heap.size + 1) 1 _ _ a h0
  have h2 := heap_setCell_same _ (w.heap.size + 1) 2 _ _ b h1
  have h3 := heap_setCell_same _ (w.heap.size + 1) 3 _ _ c h2
  refine ⟨?_, by rw [h3]; rfl, four_below h.bel w.heap.size rfl n' a b c⟩
  rw [heap_setCell_other _ _ _ _ (by simp), heap_setCell_other _ _ _ _ (by simp), heap_setCell_other _ _ _ _ (by simp), heap_setCell_other _ _ _ _ (by simp)]
  exact h.b0
theorem MakeAt.done {w wx : World} {n : Int} {tv nv cv : Value} (h : MakeAt w wx n tv nv cv) (n' : Int) (a b c : Value) : ((((wx.setCell ⟨w.heap.size, 0, none⟩ (.int .i64 n')).setCell ⟨w.heap.size, 1, none⟩ a).setCell ⟨w.heap.size, 2, none⟩ b).setCell ⟨w.heap.size, 3, none⟩ c).heap[w.heap.size]? = some (.cells #[.int .i64 n', a, b, c] 25 (0, 0)) := by
  have h0 := heap_setCell_same wx w.heap.size 0 _ _ (.int .i64 n') h.b0
  have h1 := heap_setCell_same _ w.heap.size 1 _ _ a h0
  have h2 := heap_setCell_same _ w.heap.size 2 _ _ b h1
  have h3 := heap_setCell_same _ w.heap.size 3 _ _ c h2
  rw [h3]; rfl
theorem four_below0 {w wx : World} (h : Below w.heap.size w wx) (n : Int) (a b c : Value) : Below w.heap.size w ((((wx.setCell ⟨w.heap.size, 0, none⟩ (.int .i64 n)).setCell ⟨w.heap.size, 1, none⟩ a).setCell ⟨w.heap.size, 2, none⟩ b).setCell ⟨w.heap.size, 3, none⟩ c) :=
  (((h.setCell (by simp) _).setCell (by simp) _).setCell (by simp) _).setCell (by simp) _
end Go.Proofs.Ytnkkgeammohemab


