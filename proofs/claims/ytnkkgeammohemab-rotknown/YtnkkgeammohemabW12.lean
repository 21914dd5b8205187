/- The walk of net.Parse. -/
import Derived.Test.YtnkkgeammohemabW9
namespace Go.Proofs.Ytnkkgeammohemab
open Go Go.RowKit

def lenOf : Value → Nat | .slice _ n _ => n | _ => 0
end Go.Proofs.Ytnkkgeammohemab


