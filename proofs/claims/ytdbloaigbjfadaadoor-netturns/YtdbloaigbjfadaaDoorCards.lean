/-
  DERIVED. GIVEN WITH THE SEED: THE CARDS: each row of YtdbloaigbjfadaaDoorRows.lean that lists a variable, with what it lists TIED to the program's text (the seventh form; the later family's looks); each row that meets fmt, with fmt's text TOLD by the authors' own Lean function (tested against real Go, not proved from fmt's source: count such statements apart). THE CARD IS WHAT COUNTS. Prove the row's statement (the work); the ties are given (YtdbloaigbjfadaaDoorTie.lean); close each card by the builder's one call (the guide's Derived/Test/ToyasCard.lean, 'card_holds'). Laid BY PROGRAM, IN A SANDBOX (cutbox-door.mjs). By AI agents, Wed Nov 11 2026. No macro, syntax, notation, axiom, sorry.
-/
import Derived.Test.YtdbloaigbjfadaaDoorRows
import GoSem.ClaimSeven
namespace Go.Proofs.YtdbloaigbjfadaaDoor
namespace Rows

/-- THE TIED CARD OF 'watershedlaw1.NetRows'. -/
def netRowsCard : Claim7 := { stood := { row := netRowsRow, standIns := [], harness := (true, "a845229908cf320777f38b1d3aff69003b7ae25648fce2816eea5c78cef6e844"), looks := false }, kinds := [], alts := [], laidByText := true, laidKinds := [.data, .data, .data, .data, .pinned], laidTests := true, laidLooks := .later }
def NetRowsCardSaid : Prop := Claim7.holds Tryd.pinned (.plain (OpenSpec.ofChange netRowsSpec)) netRowsCard

/-- THE TIED CARD OF 'watershedlaw1.NetTurns'. -/
def netTurnsCard : Claim7 := { stood := { row := netTurnsRow, standIns := [], harness := (true, "a845229908cf320777f38b1d3aff69003b7ae25648fce2816eea5c78cef6e844"), looks := false }, kinds := [], alts := [], laidByText := true, laidKinds := [.data, .data, .data, .data, .pinned], laidTests := true, laidLooks := .later }
def NetTurnsCardSaid : Prop := Claim7.holds Tryd.pinned (.plain (OpenSpec.ofChange netTurnsSpec)) netTurnsCard

/-- THE TIED CARD OF 'watershedlaw1.NetKnown'. -/
def netKnownCard : Claim7 := { stood := { row := netKnownRow, standIns := [], harness := (true, "a845229908cf320777f38b1d3aff69003b7ae25648fce2816eea5c78cef6e844"), looks := false }, kinds := [], alts := [], laidByText := true, laidKinds := [.data, .data, .data, .data, .pinned], laidTests := true, laidLooks := .later }
def NetKnownCardSaid : Prop := Claim7.holds Tryd.pinned (.plain (OpenSpec.ofChange netKnownSpec)) netKnownCard

/-- THE TIED CARD OF 'watershedlaw1.NetApart'. -/
def netApartCard : Claim7 := { stood := { row := netApartRow, standIns := [], harness := (true, "a845229908cf320777f38b1d3aff69003b7ae25648fce2816eea5c78cef6e844"), looks := false }, kinds := [], alts := [], laidByText := true, laidKinds := [.data, .data, .data, .data, .pinned], laidTests := true, laidLooks := .later }
def NetApartCardSaid : Prop := Claim7.holds Tryd.pinned (.plain (OpenSpec.ofChange netApartSpec)) netApartCard

/-- THE TIED CARD OF 'watershedlaw1.NetEnds'. -/
def netEndsCard : Claim7 := { stood := { row := netEndsRow, standIns := [], harness := (true, "a845229908cf320777f38b1d3aff69003b7ae25648fce2816eea5c78cef6e844"), looks := false }, kinds := [], alts := [], laidByText := true, laidKinds := [.data, .data, .data, .data, .pinned], laidTests := true, laidLooks := .later }
def NetEndsCardSaid : Prop := Claim7.holds Tryd.pinned (.plain (OpenSpec.ofChange netEndsSpec)) netEndsCard

/-- THE TIED CARD OF 'watershedlaw1.NetMany'. -/
def netManyCard : Claim7 := { stood := { row := netManyRow, standIns := [], harness := (true, "a845229908cf320777f38b1d3aff69003b7ae25648fce2816eea5c78cef6e844"), looks := false }, kinds := [], alts := [], laidByText := true, laidKinds := [.data, .data, .data, .data, .pinned], laidTests := true, laidLooks := .later }
def NetManyCardSaid : Prop := Claim7.holds Tryd.pinned (.plain (OpenSpec.ofChange netManySpec)) netManyCard

/-- THE SECOND FORM's CARD OF 'watershedlaw1.NetRows'. -/
def netRowsUptoCard : Claim7 := { stood := { row := netRowsUptoRow, standIns := [], harness := (true, "a845229908cf320777f38b1d3aff69003b7ae25648fce2816eea5c78cef6e844"), looks := false }, kinds := [], alts := [], laidByText := true, laidKinds := [.data, .data, .data, .data, .pinned], laidTests := true, laidLooks := .later }
def NetRowsUptoCardSaid : Prop := Claim7.holds Tryd.pinned (.plain (OpenSpec.upto netRowsSpec)) netRowsUptoCard

/-- THE SECOND FORM's CARD OF 'watershedlaw1.NetTurns'. -/
def netTurnsUptoCard : Claim7 := { stood := { row := netTurnsUptoRow, standIns := [], harness := (true, "a845229908cf320777f38b1d3aff69003b7ae25648fce2816eea5c78cef6e844"), looks := false }, kinds := [], alts := [], laidByText := true, laidKinds := [.data, .data, .data, .data, .pinned], laidTests := true, laidLooks := .later }
def NetTurnsUptoCardSaid : Prop := Claim7.holds Tryd.pinned (.plain (OpenSpec.upto netTurnsSpec)) netTurnsUptoCard

/-- THE SECOND FORM's CARD OF 'watershedlaw1.NetKnown'. -/
def netKnownUptoCard : Claim7 := { stood := { row := netKnownUptoRow, standIns := [], harness := (true, "a845229908cf320777f38b1d3aff69003b7ae25648fce2816eea5c78cef6e844"), looks := false }, kinds := [], alts := [], laidByText := true, laidKinds := [.data, .data, .data, .data, .pinned], laidTests := true, laidLooks := .later }
def NetKnownUptoCardSaid : Prop := Claim7.holds Tryd.pinned (.plain (OpenSpec.upto netKnownSpec)) netKnownUptoCard

/-- THE SECOND FORM's CARD OF 'watershedlaw1.NetApart'. -/
def netApartUptoCard : Claim7 := { stood := { row := netApartUptoRow, standIns := [], harness := (true, "a845229908cf320777f38b1d3aff69003b7ae25648fce2816eea5c78cef6e844"), looks := false }, kinds := [], alts := [], laidByText := true, laidKinds := [.data, .data, .data, .data, .pinned], laidTests := true, laidLooks := .later }
def NetApartUptoCardSaid : Prop := Claim7.holds Tryd.pinned (.plain (OpenSpec.upto netApartSpec)) netApartUptoCard

/-- THE SECOND FORM's CARD OF 'watershedlaw1.NetEnds'. -/
def netEndsUptoCard : Claim7 := { stood := { row := netEndsUptoRow, standIns := [], harness := (true, "a845229908cf320777f38b1d3aff69003b7ae25648fce2816eea5c78cef6e844"), looks := false }, kinds := [], alts := [], laidByText := true, laidKinds := [.data, .data, .data, .data, .pinned], laidTests := true, laidLooks := .later }
def NetEndsUptoCardSaid : Prop := Claim7.holds Tryd.pinned (.plain (OpenSpec.upto netEndsSpec)) netEndsUptoCard

/-- THE SECOND FORM's CARD OF 'watershedlaw1.NetMany'. -/
def netManyUptoCard : Claim7 := { stood := { row := netManyUptoRow, standIns := [], harness := (true, "a845229908cf320777f38b1d3aff69003b7ae25648fce2816eea5c78cef6e844"), looks := false }, kinds := [], alts := [], laidByText := true, laidKinds := [.data, .data, .data, .data, .pinned], laidTests := true, laidLooks := .later }
def NetManyUptoCardSaid : Prop := Claim7.holds Tryd.pinned (.plain (OpenSpec.upto netManySpec)) netManyUptoCard
end Rows
end Go.Proofs.YtdbloaigbjfadaaDoor
