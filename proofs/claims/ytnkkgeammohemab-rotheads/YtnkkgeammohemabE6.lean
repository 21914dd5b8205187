/- Nets that lie in blocks of their own. -/
import Derived.Test.YtnkkgeammohemabE5
namespace Go.Proofs.Ytnkkgeammohemab
open Go Go.RowKit

theorem Ints.len {w : World} {v : Value} {l : List Int} (h : Ints w v l) : l.length ≤ 9223372036854775807 := by
  obtain ⟨a, c, -, h1, h2, -⟩ := h
  unfold maxLen at h2
  omega
/-- A net that lies in a block of its own. -/
theorem box_new (w : World) (n : Int) (a b c : Value) (w' : World) (hb : Below (w.heap.size + 1) (w.alloc (.cells #[.int .i64 n, a, b, c] 25)) w') :
    w'.cell? ⟨w.heap.size, 0, none⟩ = some (.int .i64 n) ∧ w'.cell? ⟨w.heap.size, 1, none⟩ = some a ∧ w'.cell? ⟨w.heap.size, 2, none⟩ = some b ∧ w'.cell? ⟨w.heap.size, 3, none⟩ = some c ∧ w.heap.size + 1 ≤ w'.heap.size := by
  obtain ⟨k0, k1, k2, k3⟩ := net_new w (.int .i64 n) a b c 25
  have hs := hb.size
  simp at hs
  exact ⟨(hb.cell (by show w.heap.size < _; omega)).trans k0, (hb.cell (by show w.heap.size < _; omega)).trans k1, (hb.cell (by show w.heap.size < _; omega)).trans k2, (hb.cell (by show w.heap.size < _; omega)).trans k3, hs⟩
end Go.Proofs.Ytnkkgeammohemab


