/- The walk of net.lineAt. -/
import Derived.Test.YtnkkgeammohemabW4
namespace Go.Proofs.Ytnkkgeammohemab
open Go.RowKit

/-- A slice of texts, wherever it lies. -/
def Strs (w : World) (v : Value) (l : List ByteArray) : Prop :=
  ∃ (a : Option Addr) (c : Nat), v = .slice a l.length c ∧ l.length ≤ c ∧ c ≤ maxLen ∧ ∀ k, (h : k < l.length) → ∃ b o, a = some ⟨b, o, none⟩ ∧ b < w.heap.size ∧ w.cell? ⟨b, o + k, none⟩ = some (.string l[k])
theorem Strs.below {w w' : World} {v : Value} {l : List ByteArray} (h : Strs w v l) (hb : Below w.heap.size w w') : Strs w' v l := by
  obtain ⟨a, c, hv, hc, hm, hk⟩ := h
  refine ⟨a, c, hv, hc, hm, fun k h => ?_⟩
  obtain ⟨b, o, ha, hlt, hcell⟩ := hk k h
  exact ⟨b, o, ha, Nat.lt_of_lt_of_le hlt hb.size, (hb.cell (by exact hlt)).trans hcell⟩
end Go.Proofs.Ytnkkgeammohemab


