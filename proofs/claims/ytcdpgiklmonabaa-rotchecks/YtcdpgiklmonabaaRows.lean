/-
  No cell of these rows narrows 'for every input' (looked for: loops, veiled, ifaces, maps, wideKeys, modest, calm, conditions, laid).
  DERIVED. THE GIVEN ROWS OF THIS SEAT. 6 by the template 'for every input the law returns true; each argument reads behind the call as it read before'; 0 by the template 'total and deterministic' (their statements: YtcdpgiklmonabaaTotals.lean).
  GIVEN WITH THE SEED: the statements are not yours to turn. If you find one false, say at which input.
  Laid BY PROGRAM, IN A SANDBOX (cutbox-rows.mjs): the forced cells as the released guide's own fill.sh prints them over the translation a66f844c9d4bbcfe… (all of the seat's roots in one cut). By AI agents, Wed Nov 11 2026. No macro, syntax, notation, axiom, sorry.
-/
import Derived.Test.YtcdpgiklmonabaaChecked
import GoSem.Claim
import GoSem.ClaimJoined
import GoSem.ClaimMapViews
import Derived.JoinedTies
import Derived.KernelRfl
namespace Go.Proofs.Ytcdpgiklmonabaa
/- THE CELL 'sum', in the pinned program and in every row, IS THE sha256 OF THE DUMP (.gsa) THAT YtcdpgiklmonabaaProg.lean LOADS. Nothing in Lean hashes anything: it is a label: what it is worth is what the hold of that sum in a sandbox is worth. -/
noncomputable def Try.pinned : Pinned := { name := "ytcdpgiklmonabaa", sum := "a66f844c9d4bbcfee569146270dd29101514282234d966992c6a1bc6055f3d3d", checked := Try.checked }
namespace Rows
def none {H : Type} : Left H := { results := [], args := [] }

/-- 'watershedlaw2.RotChecks': WHATEVER THE INPUT: true; the input reads as it did. -/
def rotChecksSpec : ChangeSpec := { name := "rotChecks", fn := fun _ => fun
  | [d1, d2, d3, d4, d5] => { results := [.lit (.bool true)], args := [d1, d2, d3, d4, d5] }
  | _ => none }
def rotChecksRow : OpenClaim := { program := "ytcdpgiklmonabaa", sum := "a66f844c9d4bbcfee569146270dd29101514282234d966992c6a1bc6055f3d3d", func := "watershed/watershedlaw2.RotChecks", spec := "rotChecks", apart := false }
def RotChecksSaid : Prop := rotChecksRow.holds Try.pinned (OpenSpec.ofChange rotChecksSpec)

/-- ITS FALSE NEIGHBOUR: 'it returns false'. Refute it at one input. -/
def rotChecksWrong : ChangeSpec := { name := "rotChecks", fn := fun _ => fun
  | [d1, d2, d3, d4, d5] => { results := [.lit (.bool false)], args := [d1, d2, d3, d4, d5] }
  | _ => none }
def RotChecksWrongFalsely : Prop := rotChecksRow.holds Try.pinned (OpenSpec.ofChange rotChecksWrong)

/-- 'watershedlaw2.RotRows': WHATEVER THE INPUT: true; the input reads as it did. -/
def rotRowsSpec : ChangeSpec := { name := "rotRows", fn := fun _ => fun
  | [d1, d2, d3, d4] => { results := [.lit (.bool true)], args := [d1, d2, d3, d4] }
  | _ => none }
def rotRowsRow : OpenClaim := { program := "ytcdpgiklmonabaa", sum := "a66f844c9d4bbcfee569146270dd29101514282234d966992c6a1bc6055f3d3d", func := "watershed/watershedlaw2.RotRows", spec := "rotRows", apart := false }
def RotRowsSaid : Prop := rotRowsRow.holds Try.pinned (OpenSpec.ofChange rotRowsSpec)

/-- ITS FALSE NEIGHBOUR: 'it returns false'. Refute it at one input. -/
def rotRowsWrong : ChangeSpec := { name := "rotRows", fn := fun _ => fun
  | [d1, d2, d3, d4] => { results := [.lit (.bool false)], args := [d1, d2, d3, d4] }
  | _ => none }
def RotRowsWrongFalsely : Prop := rotRowsRow.holds Try.pinned (OpenSpec.ofChange rotRowsWrong)

/-- 'watershedlaw3.DualMakes': WHATEVER THE INPUT: true; the input reads as it did. -/
def dualMakesSpec : ChangeSpec := { name := "dualMakes", fn := fun _ => fun
  | [d] => { results := [.lit (.bool true)], args := [d] }
  | _ => none }
def dualMakesRow : OpenClaim := { program := "ytcdpgiklmonabaa", sum := "a66f844c9d4bbcfee569146270dd29101514282234d966992c6a1bc6055f3d3d", func := "watershed/watershedlaw3.DualMakes", spec := "dualMakes", unfollowed := true, recurses := true, apart := false }
def DualMakesSaid : Prop := dualMakesRow.holds Try.pinned (OpenSpec.ofChange dualMakesSpec)

/-- ITS FALSE NEIGHBOUR: 'it returns false'. Refute it at one input. -/
def dualMakesWrong : ChangeSpec := { name := "dualMakes", fn := fun _ => fun
  | [d] => { results := [.lit (.bool false)], args := [d] }
  | _ => none }
def DualMakesWrongFalsely : Prop := dualMakesRow.holds Try.pinned (OpenSpec.ofChange dualMakesWrong)

/-- 'watershedlaw3.DualTwice': WHATEVER THE INPUT: true; the input reads as it did. -/
def dualTwiceSpec : ChangeSpec := { name := "dualTwice", fn := fun _ => fun
  | [d1, d2, d3] => { results := [.lit (.bool true)], args := [d1, d2, d3] }
  | _ => none }
def dualTwiceRow : OpenClaim := { program := "ytcdpgiklmonabaa", sum := "a66f844c9d4bbcfee569146270dd29101514282234d966992c6a1bc6055f3d3d", func := "watershed/watershedlaw3.DualTwice", spec := "dualTwice", unfollowed := true, recurses := true, apart := false }
def DualTwiceSaid : Prop := dualTwiceRow.holds Try.pinned (OpenSpec.ofChange dualTwiceSpec)

/-- ITS FALSE NEIGHBOUR: 'it returns false'. Refute it at one input. -/
def dualTwiceWrong : ChangeSpec := { name := "dualTwice", fn := fun _ => fun
  | [d1, d2, d3] => { results := [.lit (.bool false)], args := [d1, d2, d3] }
  | _ => none }
def DualTwiceWrongFalsely : Prop := dualTwiceRow.holds Try.pinned (OpenSpec.ofChange dualTwiceWrong)

/-- 'watershedlaw3.DualShares': WHATEVER THE INPUT: true; the input reads as it did. -/
def dualSharesSpec : ChangeSpec := { name := "dualShares", fn := fun _ => fun
  | [d1, d2, d3, d4, d5] => { results := [.lit (.bool true)], args := [d1, d2, d3, d4, d5] }
  | _ => none }
def dualSharesRow : OpenClaim := { program := "ytcdpgiklmonabaa", sum := "a66f844c9d4bbcfee569146270dd29101514282234d966992c6a1bc6055f3d3d", func := "watershed/watershedlaw3.DualShares", spec := "dualShares", unfollowed := true, recurses := true, apart := false }
def DualSharesSaid : Prop := dualSharesRow.holds Try.pinned (OpenSpec.ofChange dualSharesSpec)

/-- ITS FALSE NEIGHBOUR: 'it returns false'. Refute it at one input. -/
def dualSharesWrong : ChangeSpec := { name := "dualShares", fn := fun _ => fun
  | [d1, d2, d3, d4, d5] => { results := [.lit (.bool false)], args := [d1, d2, d3, d4, d5] }
  | _ => none }
def DualSharesWrongFalsely : Prop := dualSharesRow.holds Try.pinned (OpenSpec.ofChange dualSharesWrong)

/-- 'watershedlaw3.DualSplits': WHATEVER THE INPUT: true; the input reads as it did. -/
def dualSplitsSpec : ChangeSpec := { name := "dualSplits", fn := fun _ => fun
  | [d1, d2, d3, d4, d5] => { results := [.lit (.bool true)], args := [d1, d2, d3, d4, d5] }
  | _ => none }
def dualSplitsRow : OpenClaim := { program := "ytcdpgiklmonabaa", sum := "a66f844c9d4bbcfee569146270dd29101514282234d966992c6a1bc6055f3d3d", func := "watershed/watershedlaw3.DualSplits", spec := "dualSplits", unfollowed := true, recurses := true, apart := false }
def DualSplitsSaid : Prop := dualSplitsRow.holds Try.pinned (OpenSpec.ofChange dualSplitsSpec)

/-- ITS FALSE NEIGHBOUR: 'it returns false'. Refute it at one input. -/
def dualSplitsWrong : ChangeSpec := { name := "dualSplits", fn := fun _ => fun
  | [d1, d2, d3, d4, d5] => { results := [.lit (.bool false)], args := [d1, d2, d3, d4, d5] }
  | _ => none }
def DualSplitsWrongFalsely : Prop := dualSplitsRow.holds Try.pinned (OpenSpec.ofChange dualSplitsWrong)

/- THE SECOND FORM. 'bulk': how many values and letters a reading holds, each counted each time it is reached (what is shared counts as often as it is met; a slice's spare places count too). A statement '..UptoSaid' is the law's where the arguments, and the package variables that the reading takes, are together of bulk at most 1048576: NARROWER than '..Said'. Prove '..Said' where nothing that the law and all that it calls make is longer than what came in: it says more and counts as full. Else prove '..UptoSaid'. A law counts once. -/
mutual
def uptoBulk {H : Type} : DataW H → Nat
  | .lit (.string bytes) => bytes.length + 1
  | .lit _ => 1
  | .nil => 1
  | .ptr d => uptoBulk d + 1
  | .slice elems spare => uptoBulkAll elems + uptoBulkAll spare + 1
  | .agg parts => uptoBulkAll parts + 1
  | .iface _ d => uptoBulk d + 1
  | .map entries => uptoBulkEntries entries + 1
  | .held _ => 1
def uptoBulkAll {H : Type} : List (DataW H) → Nat
  | [] => 0
  | d :: r => uptoBulk d + uptoBulkAll r
def uptoBulkEntries {H : Type} : List (Lit × DataW H) → Nat
  | [] => 0
  | x :: r => uptoBulkEntry x + uptoBulkEntries r
def uptoBulkEntry {H : Type} : Lit × DataW H → Nat
  | (.string bytes, d) => bytes.length + uptoBulk d + 1
  | (_, d) => uptoBulk d + 1
 end
def uptoSmall : (H : Type) → List (DataW H) → Bool := fun _ ds => decide (uptoBulkAll ds ≤ 1048576)
def OpenSpec.upto (s : _root_.Go.ChangeSpec) : _root_.Go.OpenSpec := { _root_.Go.OpenSpec.ofChange s with cond := some uptoSmall }

/-- 'watershedlaw2.RotChecks', WHERE WHAT IT READS IS OF BULK AT MOST 1048576: true; the input reads as it did. -/
def rotChecksUptoRow : OpenClaim := { program := "ytcdpgiklmonabaa", sum := "a66f844c9d4bbcfee569146270dd29101514282234d966992c6a1bc6055f3d3d", func := "watershed/watershedlaw2.RotChecks", spec := "rotChecks", apart := false, narrowed := true }
def RotChecksUptoSaid : Prop := rotChecksUptoRow.holds Try.pinned (OpenSpec.upto rotChecksSpec)

/-- 'watershedlaw2.RotRows', WHERE WHAT IT READS IS OF BULK AT MOST 1048576: true; the input reads as it did. -/
def rotRowsUptoRow : OpenClaim := { program := "ytcdpgiklmonabaa", sum := "a66f844c9d4bbcfee569146270dd29101514282234d966992c6a1bc6055f3d3d", func := "watershed/watershedlaw2.RotRows", spec := "rotRows", apart := false, narrowed := true }
def RotRowsUptoSaid : Prop := rotRowsUptoRow.holds Try.pinned (OpenSpec.upto rotRowsSpec)

/-- 'watershedlaw3.DualMakes', WHERE WHAT IT READS IS OF BULK AT MOST 1048576: true; the input reads as it did. -/
def dualMakesUptoRow : OpenClaim := { program := "ytcdpgiklmonabaa", sum := "a66f844c9d4bbcfee569146270dd29101514282234d966992c6a1bc6055f3d3d", func := "watershed/watershedlaw3.DualMakes", spec := "dualMakes", unfollowed := true, recurses := true, apart := false, narrowed := true }
def DualMakesUptoSaid : Prop := dualMakesUptoRow.holds Try.pinned (OpenSpec.upto dualMakesSpec)

/-- 'watershedlaw3.DualTwice', WHERE WHAT IT READS IS OF BULK AT MOST 1048576: true; the input reads as it did. -/
def dualTwiceUptoRow : OpenClaim := { program := "ytcdpgiklmonabaa", sum := "a66f844c9d4bbcfee569146270dd29101514282234d966992c6a1bc6055f3d3d", func := "watershed/watershedlaw3.DualTwice", spec := "dualTwice", unfollowed := true, recurses := true, apart := false, narrowed := true }
def DualTwiceUptoSaid : Prop := dualTwiceUptoRow.holds Try.pinned (OpenSpec.upto dualTwiceSpec)

/-- 'watershedlaw3.DualShares', WHERE WHAT IT READS IS OF BULK AT MOST 1048576: true; the input reads as it did. -/
def dualSharesUptoRow : OpenClaim := { program := "ytcdpgiklmonabaa", sum := "a66f844c9d4bbcfee569146270dd29101514282234d966992c6a1bc6055f3d3d", func := "watershed/watershedlaw3.DualShares", spec := "dualShares", unfollowed := true, recurses := true, apart := false, narrowed := true }
def DualSharesUptoSaid : Prop := dualSharesUptoRow.holds Try.pinned (OpenSpec.upto dualSharesSpec)

/-- 'watershedlaw3.DualSplits', WHERE WHAT IT READS IS OF BULK AT MOST 1048576: true; the input reads as it did. -/
def dualSplitsUptoRow : OpenClaim := { program := "ytcdpgiklmonabaa", sum := "a66f844c9d4bbcfee569146270dd29101514282234d966992c6a1bc6055f3d3d", func := "watershed/watershedlaw3.DualSplits", spec := "dualSplits", unfollowed := true, recurses := true, apart := false, narrowed := true }
def DualSplitsUptoSaid : Prop := dualSplitsUptoRow.holds Try.pinned (OpenSpec.upto dualSplitsSpec)

end Rows
end Go.Proofs.Ytcdpgiklmonabaa
