/- A vertex's round may be told from any of its darts. -/
import Derived.Test.YtnkkgeammohemabT7
namespace Go.Proofs.Ytnkkgeammohemab.Sp
open Go

/-- A net (W1). -/
structure Whole (q : Net) : Prop where
  lists : Lists q
  next : ∀ x ∈ q.next, 0 ≤ x ∧ x < q.tail.length
  round : ∀ v : Nat, (v : Int) < q.n → ∃ l, RoundOf q v l
end Go.Proofs.Ytnkkgeammohemab.Sp


