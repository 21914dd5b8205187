/- Lines that tell a net are read as that net. -/
import Derived.Test.YtnkkgeammohemabT1
namespace Go.Proofs.Ytnkkgeammohemab.Sp
open Go

theorem getD_mem {l : List Int} {k : Nat} (h : k < l.length) : l.getD k 0 ∈ l := by
  rw [List.getD_eq_getElem?_getD, List.getElem?_eq_getElem h]; exact List.getElem_mem h

/- ---- edges ---- -/
end Go.Proofs.Ytnkkgeammohemab.Sp


