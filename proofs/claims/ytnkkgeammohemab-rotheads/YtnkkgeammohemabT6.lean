/- The walk of net.round. -/
import Derived.Test.YtnkkgeammohemabT5
namespace Go.Proofs.Ytnkkgeammohemab
open Go Go.RowKit

/-- The dart that comes k behind d. -/
def Sp.nth (nx : List Int) (d : Int) : Nat → Int
  | 0 => d
  | k + 1 => nx.getD (nth nx d k).toNat 0
/-- d, and those behind it: m in all. -/
def Sp.rounds (nx : List Int) (d : Int) (m : Nat) : List Int := (List.range m).map (Sp.nth nx d)
theorem Sp.rounds_succ (nx : List Int) (d : Int) (m : Nat) : Sp.rounds nx d (m + 1) = Sp.rounds nx d m ++ [Sp.nth nx d m] := by simp [Sp.rounds, List.range_succ]
theorem Sp.rounds_len (nx : List Int) (d : Int) (m : Nat) : (Sp.rounds nx d m).length = m := by simp [Sp.rounds]
theorem Sp.nth_bd {nx : List Int} {n : Nat} (hl : nx.length = n) (hx : ∀ x ∈ nx, 0 ≤ x ∧ x < n) {d : Int} (h0 : 0 ≤ d) (h1 : d < n) (k : Nat) : 0 ≤ Sp.nth nx d k ∧ Sp.nth nx d k < n := by
  induction k with
  | zero => exact ⟨h0, h1⟩
  | succ k ih => exact hx _ (Sp.getD_mem (by rw [hl]; omega))
end Go.Proofs.Ytnkkgeammohemab


