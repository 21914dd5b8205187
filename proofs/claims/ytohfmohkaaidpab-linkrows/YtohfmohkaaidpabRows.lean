/-
  No cell of these rows narrows 'for every input' (looked for: loops, veiled, ifaces, maps, wideKeys, modest, calm, conditions, laid).
  DERIVED. THE GIVEN ROWS OF THIS SEAT. 3 by the template 'for every input the law returns true; each argument reads behind the call as it read before'; 0 by the template 'total and deterministic' (their statements: YtohfmohkaaidpabTotals.lean).
  GIVEN WITH THE SEED: the statements are not yours to turn. If you find one false, say at which input.
  Laid BY PROGRAM, IN A SANDBOX (cutbox-rows.mjs): the forced cells as the released guide's own fill.sh prints them over the translation 84fe389381a06c26… (all of the seat's roots in one cut). By AI agents, Wed Nov 11 2026. No macro, syntax, notation, axiom, sorry.
-/
import Derived.Test.YtohfmohkaaidpabChecked
import GoSem.Claim
import GoSem.ClaimJoined
import GoSem.ClaimMapViews
import Derived.JoinedTies
import Derived.KernelRfl
namespace Go.Proofs.Ytohfmohkaaidpab
/- THE CELL 'sum', in the pinned program and in every row, IS THE sha256 OF THE DUMP (.gsa) THAT YtohfmohkaaidpabProg.lean LOADS. Nothing in Lean hashes anything: it is a label: what it is worth is what the hold of that sum in a sandbox is worth. -/
noncomputable def Try.pinned : Pinned := { name := "ytohfmohkaaidpab", sum := "84fe389381a06c2606be153a2f195a3fdbdc18ee19aaf14f32a6640e0265e87c", checked := Try.checked }
namespace Rows
def none {H : Type} : Left H := { results := [], args := [] }

/-- 'watershedlaw7.LinkRows': WHATEVER THE INPUT: true; the input reads as it did. -/
def linkRowsSpec : ChangeSpec := { name := "linkRows", fn := fun _ => fun
  | [d1, d2, d3] => { results := [.lit (.bool true)], args := [d1, d2, d3] }
  | _ => none }
def linkRowsRow : OpenClaim := { program := "ytohfmohkaaidpab", sum := "84fe389381a06c2606be153a2f195a3fdbdc18ee19aaf14f32a6640e0265e87c", func := "watershed/watershedlaw7.LinkRows", spec := "linkRows", apart := false }
def LinkRowsSaid : Prop := linkRowsRow.holds Try.pinned (OpenSpec.ofChange linkRowsSpec)

/-- ITS FALSE NEIGHBOUR: 'it returns false'. Refute it at one input. -/
def linkRowsWrong : ChangeSpec := { name := "linkRows", fn := fun _ => fun
  | [d1, d2, d3] => { results := [.lit (.bool false)], args := [d1, d2, d3] }
  | _ => none }
def LinkRowsWrongFalsely : Prop := linkRowsRow.holds Try.pinned (OpenSpec.ofChange linkRowsWrong)

/-- 'watershedlaw7.LinkRejoins': WHATEVER THE INPUT: true; the input reads as it did. -/
def linkRejoinsSpec : ChangeSpec := { name := "linkRejoins", fn := fun _ => fun
  | [d1, d2, d3] => { results := [.lit (.bool true)], args := [d1, d2, d3] }
  | _ => none }
def linkRejoinsRow : OpenClaim := { program := "ytohfmohkaaidpab", sum := "84fe389381a06c2606be153a2f195a3fdbdc18ee19aaf14f32a6640e0265e87c", func := "watershed/watershedlaw7.LinkRejoins", spec := "linkRejoins", apart := false }
def LinkRejoinsSaid : Prop := linkRejoinsRow.holds Try.pinned (OpenSpec.ofChange linkRejoinsSpec)

/-- ITS FALSE NEIGHBOUR: 'it returns false'. Refute it at one input. -/
def linkRejoinsWrong : ChangeSpec := { name := "linkRejoins", fn := fun _ => fun
  | [d1, d2, d3] => { results := [.lit (.bool false)], args := [d1, d2, d3] }
  | _ => none }
def LinkRejoinsWrongFalsely : Prop := linkRejoinsRow.holds Try.pinned (OpenSpec.ofChange linkRejoinsWrong)

/-- 'watershedlaw7.LinkApart': WHATEVER THE INPUT: true; the input reads as it did. -/
def linkApartSpec : ChangeSpec := { name := "linkApart", fn := fun _ => fun
  | [d1, d2, d3] => { results := [.lit (.bool true)], args := [d1, d2, d3] }
  | _ => none }
def linkApartRow : OpenClaim := { program := "ytohfmohkaaidpab", sum := "84fe389381a06c2606be153a2f195a3fdbdc18ee19aaf14f32a6640e0265e87c", func := "watershed/watershedlaw7.LinkApart", spec := "linkApart", apart := false }
def LinkApartSaid : Prop := linkApartRow.holds Try.pinned (OpenSpec.ofChange linkApartSpec)

/-- ITS FALSE NEIGHBOUR: 'it returns false'. Refute it at one input. -/
def linkApartWrong : ChangeSpec := { name := "linkApart", fn := fun _ => fun
  | [d1, d2, d3] => { results := [.lit (.bool false)], args := [d1, d2, d3] }
  | _ => none }
def LinkApartWrongFalsely : Prop := linkApartRow.holds Try.pinned (OpenSpec.ofChange linkApartWrong)

/- THE SECOND FORM. 'bulk': how many values and letters a reading holds, each counted each time it is reached (what is shared counts as often as it is met; a slice's spare places count too). A statement '..UptoSaid' is the law's where the arguments, and the package variables that the reading takes, are together of bulk at most 1048576: NARROWER than '..Said'. Prove '..Said' where nothing that the law and all that it calls make is longer than what came in: it says more and counts as full. Else prove '..UptoSaid'. A law counts once. -/
mutual
def uptoBulk {H : Type} : DataW H → Nat
  | .lit (.string bytes) => bytes.length + 1
  | .lit _ => 1
  | .nil => 1
  | .ptr d => uptoBulk d + 1
  | .slice elems spare => uptoBulkAll elems + uptoBulkAll spare + 1
  | .agg parts => uptoBulkAll parts + 1
  | .iface _ d => uptoBulk d + 1
  | .map entries => uptoBulkEntries entries + 1
  | .held _ => 1
def uptoBulkAll {H : Type} : List (DataW H) → Nat
  | [] => 0
  | d :: r => uptoBulk d + uptoBulkAll r
def uptoBulkEntries {H : Type} : List (Lit × DataW H) → Nat
  | [] => 0
  | x :: r => uptoBulkEntry x + uptoBulkEntries r
def uptoBulkEntry {H : Type} : Lit × DataW H → Nat
  | (.string bytes, d) => bytes.length + uptoBulk d + 1
  | (_, d) => uptoBulk d + 1
 end
def uptoSmall : (H : Type) → List (DataW H) → Bool := fun _ ds => decide (uptoBulkAll ds ≤ 1048576)
def OpenSpec.upto (s : _root_.Go.ChangeSpec) : _root_.Go.OpenSpec := { _root_.Go.OpenSpec.ofChange s with cond := some uptoSmall }

/-- 'watershedlaw7.LinkRows', WHERE WHAT IT READS IS OF BULK AT MOST 1048576: true; the input reads as it did. -/
def linkRowsUptoRow : OpenClaim := { program := "ytohfmohkaaidpab", sum := "84fe389381a06c2606be153a2f195a3fdbdc18ee19aaf14f32a6640e0265e87c", func := "watershed/watershedlaw7.LinkRows", spec := "linkRows", apart := false, narrowed := true }
def LinkRowsUptoSaid : Prop := linkRowsUptoRow.holds Try.pinned (OpenSpec.upto linkRowsSpec)

/-- 'watershedlaw7.LinkRejoins', WHERE WHAT IT READS IS OF BULK AT MOST 1048576: true; the input reads as it did. -/
def linkRejoinsUptoRow : OpenClaim := { program := "ytohfmohkaaidpab", sum := "84fe389381a06c2606be153a2f195a3fdbdc18ee19aaf14f32a6640e0265e87c", func := "watershed/watershedlaw7.LinkRejoins", spec := "linkRejoins", apart := false, narrowed := true }
def LinkRejoinsUptoSaid : Prop := linkRejoinsUptoRow.holds Try.pinned (OpenSpec.upto linkRejoinsSpec)

/-- 'watershedlaw7.LinkApart', WHERE WHAT IT READS IS OF BULK AT MOST 1048576: true; the input reads as it did. -/
def linkApartUptoRow : OpenClaim := { program := "ytohfmohkaaidpab", sum := "84fe389381a06c2606be153a2f195a3fdbdc18ee19aaf14f32a6640e0265e87c", func := "watershed/watershedlaw7.LinkApart", spec := "linkApart", apart := false, narrowed := true }
def LinkApartUptoSaid : Prop := linkApartUptoRow.holds Try.pinned (OpenSpec.upto linkApartSpec)

end Rows
end Go.Proofs.Ytohfmohkaaidpab
