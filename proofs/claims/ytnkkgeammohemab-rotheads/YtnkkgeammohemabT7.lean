/- The walk of net.Text at a net: the head and the edges' lines. -/
import Derived.Deep.RegionHeld3
import Derived.Deep.AppendLies
import Derived.Lib.Join
import Derived.Test.YtnkkgeammohemabT6
namespace Go.Proofs.Ytnkkgeammohemab
open Go Go.RowKit

/-- The text of an edge's four numbers, laid behind the lines: the statement of the loop. -/
theorem Ints.drew {w : World} {v : Value} {l : List Int} (h : Ints w v l) : Ints w.drew v l := h.below (Below.refl _ w).drew
/-- The least dart of a vertex, if it has one. -/
def Sp.first (tail : List Int) (v : Int) : Option Nat := (List.range tail.length).find? fun d => decide (tail.getD d 0 = v)
end Go.Proofs.Ytnkkgeammohemab


