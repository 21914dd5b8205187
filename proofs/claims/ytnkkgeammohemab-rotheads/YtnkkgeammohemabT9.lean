/- The walk of the reference's About at a net. -/
import Derived.Test.YtnkkgeammohemabS5
namespace Go.Proofs.Ytnkkgeammohemab
open Go Go.RowKit

def sliceLen : Value → Nat
  | .slice _ n _ => n
  | _ => 0
end Go.Proofs.Ytnkkgeammohemab


