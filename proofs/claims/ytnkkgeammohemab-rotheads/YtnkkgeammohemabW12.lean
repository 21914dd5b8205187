/- The walk of net.Parse. -/
import Derived.Test.YtnkkgeammohemabW9
namespace Go.Proofs.Ytnkkgeammohemab
open Go Go.RowKit

/-- A net's value: its lists in slices of the call's own, apart from one another. -/
structure NetV (w : World) (B : Nat) (v : Value) (q : Sp.Net) (tv nv cv : Value) : Prop where
  val : v = .agg #[.int .i64 q.n, tv, nv, cv]
  tail : OwnI w B tv q.tail
  next : OwnI w B nv q.next
  cap : OwnI w B cv q.cap
  tn : tv.ownBlock = none ∨ tv.ownBlock ≠ nv.ownBlock
  tc : tv.ownBlock = none ∨ tv.ownBlock ≠ cv.ownBlock
  nc : nv.ownBlock = none ∨ nv.ownBlock ≠ cv.ownBlock
def lenOf : Value → Nat | .slice _ n _ => n | _ => 0
end Go.Proofs.Ytnkkgeammohemab


