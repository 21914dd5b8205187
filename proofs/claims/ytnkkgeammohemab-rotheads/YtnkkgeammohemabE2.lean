/- The walk of the reference's Edge where nothing is wrong. -/
import Derived.Test.YtnkkgeammohemabG0
namespace Go.Proofs.Ytnkkgeammohemab
open Go Go.RowKit

/-- A call's frame that has boxed a net and made room for one. -/
structure BoxAt (w wx : World) (n : Int) (tv nv cv : Value) : Prop where
  b1 : wx.heap[w.heap.size]? = some (.cells #[.int .i64 n, tv, nv, cv] 25 (0, 0))
  b2 : wx.heap[w.heap.size + 1]? = some (.cells #[.int .i64 0, .slice none 0 0, .slice none 0 0, .slice none 0 0] 25 (0, 0))
  bel : Below w.heap.size w wx
theorem BoxAt.size {w wx : World} {n : Int} {tv nv cv : Value} (h : BoxAt w wx n tv nv cv) : w.heap.size + 1 < wx.heap.size := heap_lt h.b2
theorem BoxAt.below {w wx wy : World} {n : Int} {tv nv cv : Value} (h : BoxAt w wx n tv nv cv) (hb : Below wx.heap.size wx wy) : BoxAt w wy n tv nv cv := by
  have hs := h.size
  exact ⟨(hb.block _ (by omega)).trans h.b1, (hb.block _ (by omega)).trans h.b2, h.bel.trans (hb.mono (by omega))⟩
theorem BoxAt.start (w : World) (n : Int) (tv nv cv : Value) (k : Nat) : BoxAt w (((w.alloc (.cells #[.int .i64 n, tv, nv, cv] 25)).alloc (.cells #[.int .i64 0, .slice none 0 0, .slice none 0 0, .slice none 0 0] 25)).drewN k) n tv nv cv := by
  have hz : (w.alloc (.cells #[.int .i64 n, tv, nv, cv] 25)).heap.size = w.heap.size + 1 := by simp
  refine ⟨?_, ?_, below_dn (((Below.refl _ w).alloc (Nat.le_refl _) _).alloc (by simp) _) k⟩
  · show ((w.alloc _).alloc _).heap[w.heap.size]? = _
    exact (heap_alloc_old _ _ (by simp)).trans (heap_alloc_new w _)
  · show ((w.alloc _).alloc _).heap[w.heap.size + 1]? = _
    rw [← hz]; exact heap_alloc_new _ _
/-- A net's four cells stored into the room made for it. -/
theorem box_done {w wx : World} {n : Int} {tv nv cv : Value} (h : BoxAt w wx n tv nv cv) (n' : Int) (a b c : Value) : ((((wx.setCell ⟨w.heap.size + 1, 0, none⟩ (.int .i64 n')).setCell ⟨w.heap.size + 1, 1, none⟩ a).setCell ⟨w.heap.size + 1, 2, none⟩ b).setCell ⟨w.heap.size + 1, 3, none⟩ c).heap[w.heap.size + 1]? = some (.cells #[.int .i64 n', a, b, c] 25 (0, 0)) := by
  have h0 := heap_setCell_same wx (w.heap.size + 1) 0 _ _ (.int .i64 n') h.b2
  have h1 := heap_setCell_same _ (w.heap.size + 1) 1 _ _ a h0
  have h2 := heap_setCell_same _ (w.heap.size + 1) 2 _ _ b h1
  have h3 := heap_setCell_same _ (w.heap.size + 1) 3 _ _ c h2
  rw [h3]; rfl
theorem four_own {wx : World} {p B : Nat} {v : Value} {l : List Int} (h : OwnI wx B v l) (hp : p < B) (n : Int) (a b c : Value) : OwnI ((((wx.setCell ⟨p, 0, none⟩ (.int .i64 n)).setCell ⟨p, 1, none⟩ a).setCell ⟨p, 2, none⟩ b).setCell ⟨p, 3, none⟩ c) B v l :=
  own_store (own_store (own_store (own_store h hp _ _) hp _ _) hp _ _) hp _ _
theorem four_below {w wx : World} (h : Below w.heap.size w wx) (s : Nat) (hs : s = w.heap.size) (n : Int) (a b c : Value) : Below w.heap.size w ((((wx.setCell ⟨s + 1, 0, none⟩ (.int .i64 n)).setCell ⟨s + 1, 1, none⟩ a).setCell ⟨s + 1, 2, none⟩ b).setCell ⟨s + 1, 3, none⟩ c) := by
  subst hs
  exact (((h.setCell (by simp) _).setCell (by simp) _).setCell (by simp) _).setCell (by simp) _
end Go.Proofs.Ytnkkgeammohemab


