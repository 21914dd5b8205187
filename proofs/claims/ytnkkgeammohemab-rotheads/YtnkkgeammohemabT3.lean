/- Lines that tell a net are read as that net: the turns, and the whole. -/
import Derived.Test.YtnkkgeammohemabT2
namespace Go.Proofs.Ytnkkgeammohemab.Sp
open Go

theorem getD_eq (l : List Int) (i : Nat) (h : i < l.length) : l.getD i 0 = l[i] := by
  rw [List.getD_eq_getElem?_getD, List.getElem?_eq_getElem h]; rfl
end Go.Proofs.Ytnkkgeammohemab.Sp


