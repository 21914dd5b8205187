/-
  No cell of these rows narrows 'for every input' (looked for: loops, veiled, ifaces, maps, wideKeys, modest, calm, conditions, laid).
  DERIVED. THE GIVEN ROWS OF THIS SEAT. 4 by the template 'for every input the law returns true; each argument reads behind the call as it read before'; 0 by the template 'total and deterministic' (their statements: YtggjpglakocilabTotals.lean).
  GIVEN WITH THE SEED: the statements are not yours to turn. If you find one false, say at which input.
  Laid BY PROGRAM, IN A SANDBOX (cutbox-rows.mjs): the forced cells as the released guide's own fill.sh prints them over the translation 690f884cd3db91c7… (all of the seat's roots in one cut). By AI agents, Wed Nov 11 2026. No macro, syntax, notation, axiom, sorry.
-/
import Derived.Test.YtggjpglakocilabChecked
import GoSem.Claim
import GoSem.ClaimJoined
import GoSem.ClaimMapViews
import Derived.JoinedTies
import Derived.KernelRfl
namespace Go.Proofs.Ytggjpglakocilab
/- THE CELL 'sum', in the pinned program and in every row, IS THE sha256 OF THE DUMP (.gsa) THAT YtggjpglakocilabProg.lean LOADS. Nothing in Lean hashes anything: it is a label: what it is worth is what the hold of that sum in a sandbox is worth. -/
noncomputable def Try.pinned : Pinned := { name := "ytggjpglakocilab", sum := "690f884cd3db91c7ada4def690e5fd4693cac75aef1cdcc088379d82e5e9cac8", checked := Try.checked }
namespace Rows
def none {H : Type} : Left H := { results := [], args := [] }

/-- 'watershedlaw6.PathRounds': WHATEVER THE INPUT: true; the input reads as it did. -/
def pathRoundsSpec : ChangeSpec := { name := "pathRounds", fn := fun _ => fun
  | [d1, d2, d3, d4] => { results := [.lit (.bool true)], args := [d1, d2, d3, d4] }
  | _ => none }
def pathRoundsRow : OpenClaim := { program := "ytggjpglakocilab", sum := "690f884cd3db91c7ada4def690e5fd4693cac75aef1cdcc088379d82e5e9cac8", func := "watershed/watershedlaw6.PathRounds", spec := "pathRounds", unfollowed := true, recurses := true, apart := false }
def PathRoundsSaid : Prop := pathRoundsRow.holds Try.pinned (OpenSpec.ofChange pathRoundsSpec)

/-- ITS FALSE NEIGHBOUR: 'it returns false'. Refute it at one input. -/
def pathRoundsWrong : ChangeSpec := { name := "pathRounds", fn := fun _ => fun
  | [d1, d2, d3, d4] => { results := [.lit (.bool false)], args := [d1, d2, d3, d4] }
  | _ => none }
def PathRoundsWrongFalsely : Prop := pathRoundsRow.holds Try.pinned (OpenSpec.ofChange pathRoundsWrong)

/-- 'watershedlaw6.PathLow': WHATEVER THE INPUT: true; the input reads as it did. -/
def pathLowSpec : ChangeSpec := { name := "pathLow", fn := fun _ => fun
  | [d1, d2] => { results := [.lit (.bool true)], args := [d1, d2] }
  | _ => none }
def pathLowRow : OpenClaim := { program := "ytggjpglakocilab", sum := "690f884cd3db91c7ada4def690e5fd4693cac75aef1cdcc088379d82e5e9cac8", func := "watershed/watershedlaw6.PathLow", spec := "pathLow", unfollowed := true, recurses := true, apart := false }
def PathLowSaid : Prop := pathLowRow.holds Try.pinned (OpenSpec.ofChange pathLowSpec)

/-- ITS FALSE NEIGHBOUR: 'it returns false'. Refute it at one input. -/
def pathLowWrong : ChangeSpec := { name := "pathLow", fn := fun _ => fun
  | [d1, d2] => { results := [.lit (.bool false)], args := [d1, d2] }
  | _ => none }
def PathLowWrongFalsely : Prop := pathLowRow.holds Try.pinned (OpenSpec.ofChange pathLowWrong)

/-- 'watershedlaw6.PathFew': WHATEVER THE INPUT: true; the input reads as it did. -/
def pathFewSpec : ChangeSpec := { name := "pathFew", fn := fun _ => fun
  | [d] => { results := [.lit (.bool true)], args := [d] }
  | _ => none }
def pathFewRow : OpenClaim := { program := "ytggjpglakocilab", sum := "690f884cd3db91c7ada4def690e5fd4693cac75aef1cdcc088379d82e5e9cac8", func := "watershed/watershedlaw6.PathFew", spec := "pathFew", unfollowed := true, recurses := true, apart := false }
def PathFewSaid : Prop := pathFewRow.holds Try.pinned (OpenSpec.ofChange pathFewSpec)

/-- ITS FALSE NEIGHBOUR: 'it returns false'. Refute it at one input. -/
def pathFewWrong : ChangeSpec := { name := "pathFew", fn := fun _ => fun
  | [d] => { results := [.lit (.bool false)], args := [d] }
  | _ => none }
def PathFewWrongFalsely : Prop := pathFewRow.holds Try.pinned (OpenSpec.ofChange pathFewWrong)

/-- 'watershedlaw6.PathOwn': WHATEVER THE INPUT: true; the input reads as it did. -/
def pathOwnSpec : ChangeSpec := { name := "pathOwn", fn := fun _ => fun
  | [d1, d2, d3, d4] => { results := [.lit (.bool true)], args := [d1, d2, d3, d4] }
  | _ => none }
def pathOwnRow : OpenClaim := { program := "ytggjpglakocilab", sum := "690f884cd3db91c7ada4def690e5fd4693cac75aef1cdcc088379d82e5e9cac8", func := "watershed/watershedlaw6.PathOwn", spec := "pathOwn", unfollowed := true, recurses := true, apart := false }
def PathOwnSaid : Prop := pathOwnRow.holds Try.pinned (OpenSpec.ofChange pathOwnSpec)

/-- ITS FALSE NEIGHBOUR: 'it returns false'. Refute it at one input. -/
def pathOwnWrong : ChangeSpec := { name := "pathOwn", fn := fun _ => fun
  | [d1, d2, d3, d4] => { results := [.lit (.bool false)], args := [d1, d2, d3, d4] }
  | _ => none }
def PathOwnWrongFalsely : Prop := pathOwnRow.holds Try.pinned (OpenSpec.ofChange pathOwnWrong)

/- THE SECOND FORM. 'bulk': how many values and letters a reading holds, each counted each time it is reached (what is shared counts as often as it is met; a slice's spare places count too). A statement '..UptoSaid' is the law's where the arguments, and the package variables that the reading takes, are together of bulk at most 1048576: NARROWER than '..Said'. Prove '..Said' where nothing that the law and all that it calls make is longer than what came in: it says more and counts as full. Else prove '..UptoSaid'. A law counts once. -/
mutual
def uptoBulk {H : Type} : DataW H → Nat
  | .lit (.string bytes) => bytes.length + 1
  | .lit _ => 1
  | .nil => 1
  | .ptr d => uptoBulk d + 1
  | .slice elems spare => uptoBulkAll elems + uptoBulkAll spare + 1
  | .agg parts => uptoBulkAll parts + 1
  | .iface _ d => uptoBulk d + 1
  | .map entries => uptoBulkEntries entries + 1
  | .held _ => 1
def uptoBulkAll {H : Type} : List (DataW H) → Nat
  | [] => 0
  | d :: r => uptoBulk d + uptoBulkAll r
def uptoBulkEntries {H : Type} : List (Lit × DataW H) → Nat
  | [] => 0
  | x :: r => uptoBulkEntry x + uptoBulkEntries r
def uptoBulkEntry {H : Type} : Lit × DataW H → Nat
  | (.string bytes, d) => bytes.length + uptoBulk d + 1
  | (_, d) => uptoBulk d + 1
 end
def uptoSmall : (H : Type) → List (DataW H) → Bool := fun _ ds => decide (uptoBulkAll ds ≤ 1048576)
def OpenSpec.upto (s : _root_.Go.ChangeSpec) : _root_.Go.OpenSpec := { _root_.Go.OpenSpec.ofChange s with cond := some uptoSmall }

/-- 'watershedlaw6.PathRounds', WHERE WHAT IT READS IS OF BULK AT MOST 1048576: true; the input reads as it did. -/
def pathRoundsUptoRow : OpenClaim := { program := "ytggjpglakocilab", sum := "690f884cd3db91c7ada4def690e5fd4693cac75aef1cdcc088379d82e5e9cac8", func := "watershed/watershedlaw6.PathRounds", spec := "pathRounds", unfollowed := true, recurses := true, apart := false, narrowed := true }
def PathRoundsUptoSaid : Prop := pathRoundsUptoRow.holds Try.pinned (OpenSpec.upto pathRoundsSpec)

/-- 'watershedlaw6.PathLow', WHERE WHAT IT READS IS OF BULK AT MOST 1048576: true; the input reads as it did. -/
def pathLowUptoRow : OpenClaim := { program := "ytggjpglakocilab", sum := "690f884cd3db91c7ada4def690e5fd4693cac75aef1cdcc088379d82e5e9cac8", func := "watershed/watershedlaw6.PathLow", spec := "pathLow", unfollowed := true, recurses := true, apart := false, narrowed := true }
def PathLowUptoSaid : Prop := pathLowUptoRow.holds Try.pinned (OpenSpec.upto pathLowSpec)

/-- 'watershedlaw6.PathFew', WHERE WHAT IT READS IS OF BULK AT MOST 1048576: true; the input reads as it did. -/
def pathFewUptoRow : OpenClaim := { program := "ytggjpglakocilab", sum := "690f884cd3db91c7ada4def690e5fd4693cac75aef1cdcc088379d82e5e9cac8", func := "watershed/watershedlaw6.PathFew", spec := "pathFew", unfollowed := true, recurses := true, apart := false, narrowed := true }
def PathFewUptoSaid : Prop := pathFewUptoRow.holds Try.pinned (OpenSpec.upto pathFewSpec)

/-- 'watershedlaw6.PathOwn', WHERE WHAT IT READS IS OF BULK AT MOST 1048576: true; the input reads as it did. -/
def pathOwnUptoRow : OpenClaim := { program := "ytggjpglakocilab", sum := "690f884cd3db91c7ada4def690e5fd4693cac75aef1cdcc088379d82e5e9cac8", func := "watershed/watershedlaw6.PathOwn", spec := "pathOwn", unfollowed := true, recurses := true, apart := false, narrowed := true }
def PathOwnUptoSaid : Prop := pathOwnUptoRow.holds Try.pinned (OpenSpec.upto pathOwnSpec)

end Rows
end Go.Proofs.Ytggjpglakocilab
