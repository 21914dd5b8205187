/- The walk of net.round. -/
import Derived.Test.YtnkkgeammohemabT5
namespace Go.Proofs.Ytnkkgeammohemab
open Go Go.RowKit

/-- The dart that comes k behind d. -/
def Sp.nth (nx : List Int) (d : Int) : Nat → Int
  | 0 => d
  | k + 1 => nx.getD (nth nx d k).toNat 0
/-- d, and those behind it: m in all. -/
def Sp.rounds (nx : List Int) (d : Int) (m : Nat) : List Int := (List.range m).map (Sp.nth nx d)
end Go.Proofs.Ytnkkgeammohemab


