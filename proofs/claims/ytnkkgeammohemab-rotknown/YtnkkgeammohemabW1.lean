/- The walks of net.number and its kin. -/
import Derived.Test.YtnkkgeammohemabBase
namespace Go.Proofs.Ytnkkgeammohemab
open Go.RowKit

theorem tmod_cases (a n : Int) (hn : 0 < n) : (a.tmod n < 0 ∧ a.tmod n + n = a % n) ∨ (0 ≤ a.tmod n ∧ a.tmod n = a % n) := by
  have h0 : 0 ≤ a % n := Int.emod_nonneg a (by omega)
  have h1 : a % n < n := Int.emod_lt_of_pos a hn
  have e := Int.tmod_eq_emod (a := a) (b := n)
  split at e
  · right; omega
  · left
    have : ((n.natAbs : Nat) : Int) = n := by omega
    omega
theorem ret_int {k : IntKind} {a b : Int} (h : a = b) : Ending.returned (.int k a) = .returned (.int k b) := by rw [h]
end Go.Proofs.Ytnkkgeammohemab


