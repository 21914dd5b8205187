/-
  No cell of these rows narrows 'for every input' (looked for: loops, veiled, ifaces, maps, wideKeys, modest, calm, conditions, laid).
  DERIVED. THE GIVEN ROWS OF THIS SEAT. 6 by the template 'for every input the law returns true; each argument reads behind the call as it read before'; 0 by the template 'total and deterministic' (their statements: YtnkkgeammohemaaTotals.lean).
  GIVEN WITH THE SEED: the statements are not yours to turn. If you find one false, say at which input.
  Laid BY PROGRAM, IN A SANDBOX (cutbox-rows.mjs): the forced cells as the released guide's own fill.sh prints them over the translation 33a907a5d3ae718d… (all of the seat's roots in one cut). By AI agents, Wed Nov 11 2026. No macro, syntax, notation, axiom, sorry.
-/
import Derived.Test.YtnkkgeammohemaaChecked
import GoSem.Claim
import GoSem.ClaimJoined
import GoSem.ClaimMapViews
import Derived.JoinedTies
import Derived.KernelRfl
namespace Go.Proofs.Ytnkkgeammohemaa
/- THE CELL 'sum', in the pinned program and in every row, IS THE sha256 OF THE DUMP (.gsa) THAT YtnkkgeammohemaaProg.lean LOADS. Nothing in Lean hashes anything: it is a label: what it is worth is what the hold of that sum in a sandbox is worth. -/
noncomputable def Try.pinned : Pinned := { name := "ytnkkgeammohemaa", sum := "33a907a5d3ae718d74661a0b8fe35b14c936bea128d68e0c87adddd0120d804e", checked := Try.checked }
namespace Rows
def none {H : Type} : Left H := { results := [], args := [] }

/-- 'watershedlaw2.RotPlanes': WHATEVER THE INPUT: true; the input reads as it did. -/
def rotPlanesSpec : ChangeSpec := { name := "rotPlanes", fn := fun _ => fun
  | [d1, d2, d3] => { results := [.lit (.bool true)], args := [d1, d2, d3] }
  | _ => none }
def rotPlanesRow : OpenClaim := { program := "ytnkkgeammohemaa", sum := "33a907a5d3ae718d74661a0b8fe35b14c936bea128d68e0c87adddd0120d804e", func := "watershed/watershedlaw2.RotPlanes", spec := "rotPlanes", apart := false }
def RotPlanesSaid : Prop := rotPlanesRow.holds Try.pinned (OpenSpec.ofChange rotPlanesSpec)

/-- ITS FALSE NEIGHBOUR: 'it returns false'. Refute it at one input. -/
def rotPlanesWrong : ChangeSpec := { name := "rotPlanes", fn := fun _ => fun
  | [d1, d2, d3] => { results := [.lit (.bool false)], args := [d1, d2, d3] }
  | _ => none }
def RotPlanesWrongFalsely : Prop := rotPlanesRow.holds Try.pinned (OpenSpec.ofChange rotPlanesWrong)

/-- 'watershedlaw2.RotChecks': WHATEVER THE INPUT: true; the input reads as it did. -/
def rotChecksSpec : ChangeSpec := { name := "rotChecks", fn := fun _ => fun
  | [d1, d2, d3, d4, d5] => { results := [.lit (.bool true)], args := [d1, d2, d3, d4, d5] }
  | _ => none }
def rotChecksRow : OpenClaim := { program := "ytnkkgeammohemaa", sum := "33a907a5d3ae718d74661a0b8fe35b14c936bea128d68e0c87adddd0120d804e", func := "watershed/watershedlaw2.RotChecks", spec := "rotChecks", apart := false }
def RotChecksSaid : Prop := rotChecksRow.holds Try.pinned (OpenSpec.ofChange rotChecksSpec)

/-- ITS FALSE NEIGHBOUR: 'it returns false'. Refute it at one input. -/
def rotChecksWrong : ChangeSpec := { name := "rotChecks", fn := fun _ => fun
  | [d1, d2, d3, d4, d5] => { results := [.lit (.bool false)], args := [d1, d2, d3, d4, d5] }
  | _ => none }
def RotChecksWrongFalsely : Prop := rotChecksRow.holds Try.pinned (OpenSpec.ofChange rotChecksWrong)

/-- 'watershedlaw2.RotRows': WHATEVER THE INPUT: true; the input reads as it did. -/
def rotRowsSpec : ChangeSpec := { name := "rotRows", fn := fun _ => fun
  | [d1, d2, d3, d4] => { results := [.lit (.bool true)], args := [d1, d2, d3, d4] }
  | _ => none }
def rotRowsRow : OpenClaim := { program := "ytnkkgeammohemaa", sum := "33a907a5d3ae718d74661a0b8fe35b14c936bea128d68e0c87adddd0120d804e", func := "watershed/watershedlaw2.RotRows", spec := "rotRows", apart := false }
def RotRowsSaid : Prop := rotRowsRow.holds Try.pinned (OpenSpec.ofChange rotRowsSpec)

/-- ITS FALSE NEIGHBOUR: 'it returns false'. Refute it at one input. -/
def rotRowsWrong : ChangeSpec := { name := "rotRows", fn := fun _ => fun
  | [d1, d2, d3, d4] => { results := [.lit (.bool false)], args := [d1, d2, d3, d4] }
  | _ => none }
def RotRowsWrongFalsely : Prop := rotRowsRow.holds Try.pinned (OpenSpec.ofChange rotRowsWrong)

/-- 'watershedlaw2.RotTurns': WHATEVER THE INPUT: true; the input reads as it did. -/
def rotTurnsSpec : ChangeSpec := { name := "rotTurns", fn := fun _ => fun
  | [d] => { results := [.lit (.bool true)], args := [d] }
  | _ => none }
def rotTurnsRow : OpenClaim := { program := "ytnkkgeammohemaa", sum := "33a907a5d3ae718d74661a0b8fe35b14c936bea128d68e0c87adddd0120d804e", func := "watershed/watershedlaw2.RotTurns", spec := "rotTurns", apart := false }
def RotTurnsSaid : Prop := rotTurnsRow.holds Try.pinned (OpenSpec.ofChange rotTurnsSpec)

/-- ITS FALSE NEIGHBOUR: 'it returns false'. Refute it at one input. -/
def rotTurnsWrong : ChangeSpec := { name := "rotTurns", fn := fun _ => fun
  | [d] => { results := [.lit (.bool false)], args := [d] }
  | _ => none }
def RotTurnsWrongFalsely : Prop := rotTurnsRow.holds Try.pinned (OpenSpec.ofChange rotTurnsWrong)

/-- 'watershedlaw2.RotRounds': WHATEVER THE INPUT: true; the input reads as it did. -/
def rotRoundsSpec : ChangeSpec := { name := "rotRounds", fn := fun _ => fun
  | [d] => { results := [.lit (.bool true)], args := [d] }
  | _ => none }
def rotRoundsRow : OpenClaim := { program := "ytnkkgeammohemaa", sum := "33a907a5d3ae718d74661a0b8fe35b14c936bea128d68e0c87adddd0120d804e", func := "watershed/watershedlaw2.RotRounds", spec := "rotRounds", apart := false }
def RotRoundsSaid : Prop := rotRoundsRow.holds Try.pinned (OpenSpec.ofChange rotRoundsSpec)

/-- ITS FALSE NEIGHBOUR: 'it returns false'. Refute it at one input. -/
def rotRoundsWrong : ChangeSpec := { name := "rotRounds", fn := fun _ => fun
  | [d] => { results := [.lit (.bool false)], args := [d] }
  | _ => none }
def RotRoundsWrongFalsely : Prop := rotRoundsRow.holds Try.pinned (OpenSpec.ofChange rotRoundsWrong)

/-- 'watershedlaw2.RotParts': WHATEVER THE INPUT: true; the input reads as it did. -/
def rotPartsSpec : ChangeSpec := { name := "rotParts", fn := fun _ => fun
  | [d1, d2, d3, d4] => { results := [.lit (.bool true)], args := [d1, d2, d3, d4] }
  | _ => none }
def rotPartsRow : OpenClaim := { program := "ytnkkgeammohemaa", sum := "33a907a5d3ae718d74661a0b8fe35b14c936bea128d68e0c87adddd0120d804e", func := "watershed/watershedlaw2.RotParts", spec := "rotParts", apart := false }
def RotPartsSaid : Prop := rotPartsRow.holds Try.pinned (OpenSpec.ofChange rotPartsSpec)

/-- ITS FALSE NEIGHBOUR: 'it returns false'. Refute it at one input. -/
def rotPartsWrong : ChangeSpec := { name := "rotParts", fn := fun _ => fun
  | [d1, d2, d3, d4] => { results := [.lit (.bool false)], args := [d1, d2, d3, d4] }
  | _ => none }
def RotPartsWrongFalsely : Prop := rotPartsRow.holds Try.pinned (OpenSpec.ofChange rotPartsWrong)

/- THE SECOND FORM. 'bulk': how many values and letters a reading holds, each counted each time it is reached (what is shared counts as often as it is met; a slice's spare places count too). A statement '..UptoSaid' is the law's where the arguments, and the package variables that the reading takes, are together of bulk at most 1048576: NARROWER than '..Said'. Prove '..Said' where nothing that the law and all that it calls make is longer than what came in: it says more and counts as full. Else prove '..UptoSaid'. A law counts once. -/
mutual
def uptoBulk {H : Type} : DataW H → Nat
  | .lit (.string bytes) => bytes.length + 1
  | .lit _ => 1
  | .nil => 1
  | .ptr d => uptoBulk d + 1
  | .slice elems spare => uptoBulkAll elems + uptoBulkAll spare + 1
  | .agg parts => uptoBulkAll parts + 1
  | .iface _ d => uptoBulk d + 1
  | .map entries => uptoBulkEntries entries + 1
  | .held _ => 1
def uptoBulkAll {H : Type} : List (DataW H) → Nat
  | [] => 0
  | d :: r => uptoBulk d + uptoBulkAll r
def uptoBulkEntries {H : Type} : List (Lit × DataW H) → Nat
  | [] => 0
  | x :: r => uptoBulkEntry x + uptoBulkEntries r
def uptoBulkEntry {H : Type} : Lit × DataW H → Nat
  | (.string bytes, d) => bytes.length + uptoBulk d + 1
  | (_, d) => uptoBulk d + 1
 end
def uptoSmall : (H : Type) → List (DataW H) → Bool := fun _ ds => decide (uptoBulkAll ds ≤ 1048576)
def OpenSpec.upto (s : _root_.Go.ChangeSpec) : _root_.Go.OpenSpec := { _root_.Go.OpenSpec.ofChange s with cond := some uptoSmall }

/-- 'watershedlaw2.RotPlanes', WHERE WHAT IT READS IS OF BULK AT MOST 1048576: true; the input reads as it did. -/
def rotPlanesUptoRow : OpenClaim := { program := "ytnkkgeammohemaa", sum := "33a907a5d3ae718d74661a0b8fe35b14c936bea128d68e0c87adddd0120d804e", func := "watershed/watershedlaw2.RotPlanes", spec := "rotPlanes", apart := false, narrowed := true }
def RotPlanesUptoSaid : Prop := rotPlanesUptoRow.holds Try.pinned (OpenSpec.upto rotPlanesSpec)

/-- 'watershedlaw2.RotChecks', WHERE WHAT IT READS IS OF BULK AT MOST 1048576: true; the input reads as it did. -/
def rotChecksUptoRow : OpenClaim := { program := "ytnkkgeammohemaa", sum := "33a907a5d3ae718d74661a0b8fe35b14c936bea128d68e0c87adddd0120d804e", func := "watershed/watershedlaw2.RotChecks", spec := "rotChecks", apart := false, narrowed := true }
def RotChecksUptoSaid : Prop := rotChecksUptoRow.holds Try.pinned (OpenSpec.upto rotChecksSpec)

/-- 'watershedlaw2.RotRows', WHERE WHAT IT READS IS OF BULK AT MOST 1048576: true; the input reads as it did. -/
def rotRowsUptoRow : OpenClaim := { program := "ytnkkgeammohemaa", sum := "33a907a5d3ae718d74661a0b8fe35b14c936bea128d68e0c87adddd0120d804e", func := "watershed/watershedlaw2.RotRows", spec := "rotRows", apart := false, narrowed := true }
def RotRowsUptoSaid : Prop := rotRowsUptoRow.holds Try.pinned (OpenSpec.upto rotRowsSpec)

/-- 'watershedlaw2.RotTurns', WHERE WHAT IT READS IS OF BULK AT MOST 1048576: true; the input reads as it did. -/
def rotTurnsUptoRow : OpenClaim := { program := "ytnkkgeammohemaa", sum := "33a907a5d3ae718d74661a0b8fe35b14c936bea128d68e0c87adddd0120d804e", func := "watershed/watershedlaw2.RotTurns", spec := "rotTurns", apart := false, narrowed := true }
def RotTurnsUptoSaid : Prop := rotTurnsUptoRow.holds Try.pinned (OpenSpec.upto rotTurnsSpec)

/-- 'watershedlaw2.RotRounds', WHERE WHAT IT READS IS OF BULK AT MOST 1048576: true; the input reads as it did. -/
def rotRoundsUptoRow : OpenClaim := { program := "ytnkkgeammohemaa", sum := "33a907a5d3ae718d74661a0b8fe35b14c936bea128d68e0c87adddd0120d804e", func := "watershed/watershedlaw2.RotRounds", spec := "rotRounds", apart := false, narrowed := true }
def RotRoundsUptoSaid : Prop := rotRoundsUptoRow.holds Try.pinned (OpenSpec.upto rotRoundsSpec)

/-- 'watershedlaw2.RotParts', WHERE WHAT IT READS IS OF BULK AT MOST 1048576: true; the input reads as it did. -/
def rotPartsUptoRow : OpenClaim := { program := "ytnkkgeammohemaa", sum := "33a907a5d3ae718d74661a0b8fe35b14c936bea128d68e0c87adddd0120d804e", func := "watershed/watershedlaw2.RotParts", spec := "rotParts", apart := false, narrowed := true }
def RotPartsUptoSaid : Prop := rotPartsUptoRow.holds Try.pinned (OpenSpec.upto rotPartsSpec)

end Rows
end Go.Proofs.Ytnkkgeammohemaa
