/- The walks of the reference's has, Same and of the law's Cap. -/
import Derived.Test.YtnkkgeammohemabW12
namespace Go.Proofs.Ytnkkgeammohemab
open Go Go.RowKit

/-- A net's value, its lists wherever they lie. -/
structure NetI (w : World) (v : Value) (q : Sp.Net) (tv nv cv : Value) : Prop where
  val : v = .agg #[.int .i64 q.n, tv, nv, cv]
  tail : Ints w tv q.tail
  next : Ints w nv q.next
  cap : Ints w cv q.cap
theorem NetI.below {w w' : World} {v : Value} {q : Sp.Net} {tv nv cv : Value} (h : NetI w v q tv nv cv) (hb : Below w.heap.size w w') : NetI w' v q tv nv cv :=
  ⟨h.val, h.tail.below hb, h.next.below hb, h.cap.below hb⟩
/-- A net's block: its four cells. -/
theorem net_new (w : World) (a b c d : Value) (t : TypeId) :
    (w.alloc (.cells #[a, b, c, d] t (0, 0))).cell? ⟨w.heap.size, 0, none⟩ = some a ∧ (w.alloc (.cells #[a, b, c, d] t (0, 0))).cell? ⟨w.heap.size, 1, none⟩ = some b ∧ (w.alloc (.cells #[a, b, c, d] t (0, 0))).cell? ⟨w.heap.size, 2, none⟩ = some c ∧ (w.alloc (.cells #[a, b, c, d] t (0, 0))).cell? ⟨w.heap.size, 3, none⟩ = some d := by
  have h := heap_alloc_new w (.cells #[a, b, c, d] t (0, 0))
  refine ⟨?_, ?_, ?_, ?_⟩ <;> rw [cell_of_row _ _ _ _ _ _ h] <;> rfl
end Go.Proofs.Ytnkkgeammohemab


