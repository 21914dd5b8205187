/- Nets that lie in blocks of their own. -/
import Derived.Test.YtkmcfjkfoafkoaaDoorE5
namespace Go.Proofs.YtkmcfjkfoafkoaaDoor
open Go Go.RowKit

theorem Ints.len {w : World} {v : Value} {l : List Int} (h : Ints w v l) : l.length ≤ 9223372036854775807 := by
  obtain ⟨a, c, -, h1, h2, -⟩ := h
  unfold maxLen at h2
  omega
/-- A net that lies in a block of its own. -/
theorem box_new (w : World) (n : Int) (a b c : Value) (w' : World) (hb : Below (w.heap.size + 1) (w.alloc (.cells #[.int .i64 n, a, b, c] 34)) w') :
    w'.cell? ⟨w.heap.size, 0, none⟩ = some (.int .i64 n) ∧ w'.cell? ⟨w.heap.size, 1, none⟩ = some a ∧ w'.cell? ⟨w.heap.size, 2, none⟩ = some b ∧ w'.cell? ⟨w.heap.size, 3, none⟩ = some c ∧ w.heap.size + 1 ≤ w'.heap.size := by
  obtain ⟨k0, k1, k2, k3⟩ := net_new w (.int .i64 n) a b c 34
  have hs := hb.size
  simp at hs
  exact ⟨(hb.cell (by show w.heap.size < _; omega)).trans k0, (hb.cell (by show w.heap.size < _; omega)).trans k1, (hb.cell (by show w.heap.size < _; omega)).trans k2, (hb.cell (by show w.heap.size < _; omega)).trans k3, hs⟩
/-- Two nets that lie in blocks of their own, one behind the other. -/
theorem two_boxes (w w' : World) (n m : Int) (a b c a' b' c' : Value) (hb : Below (w.heap.size + 2) ((w.alloc (.cells #[.int .i64 n, a, b, c] 34)).alloc (.cells #[.int .i64 m, a', b', c'] 34)) w') :
    w'.cell? ⟨w.heap.size, 0, none⟩ = some (.int .i64 n) ∧ w'.cell? ⟨w.heap.size, 1, none⟩ = some a ∧ w'.cell? ⟨w.heap.size, 2, none⟩ = some b ∧ w'.cell? ⟨w.heap.size, 3, none⟩ = some c ∧
    w'.cell? ⟨w.heap.size + 1, 0, none⟩ = some (.int .i64 m) ∧ w'.cell? ⟨w.heap.size + 1, 1, none⟩ = some a' ∧ w'.cell? ⟨w.heap.size + 1, 2, none⟩ = some b' ∧ w'.cell? ⟨w.heap.size + 1, 3, none⟩ = some c' := by
  have h1 := MakeAt.start2 w n m a b c a' b' c'
  obtain ⟨x0, x1, x2, x3, -⟩ := obj_cells h1.1
  obtain ⟨y0, y1, y2, y3, -⟩ := obj_cells h1.2
  exact ⟨(hb.cell (by show w.heap.size < _; omega)).trans x0, (hb.cell (by show w.heap.size < _; omega)).trans x1, (hb.cell (by show w.heap.size < _; omega)).trans x2, (hb.cell (by show w.heap.size < _; omega)).trans x3,
    (hb.cell (by show w.heap.size + 1 < _; omega)).trans y0, (hb.cell (by show w.heap.size + 1 < _; omega)).trans y1, (hb.cell (by show w.heap.size + 1 < _; omega)).trans y2, (hb.cell (by show w.heap.size + 1 < _; omega)).trans y3⟩
end Go.Proofs.YtkmcfjkfoafkoaaDoor
