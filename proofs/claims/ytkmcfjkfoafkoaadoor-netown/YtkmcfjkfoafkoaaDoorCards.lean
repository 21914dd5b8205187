/-
  DERIVED. GIVEN WITH THE SEED: THE CARDS: each row of YtkmcfjkfoafkoaaDoorRows.lean that lists a variable, with what it lists TIED to the program's text (the seventh form; the later family's looks); each row that meets fmt, with fmt's text TOLD by the authors' own Lean function (tested against real Go, not proved from fmt's source: count such statements apart). THE CARD IS WHAT COUNTS. Prove the row's statement (the work); the ties are given (YtkmcfjkfoafkoaaDoorTie.lean); close each card by the builder's one call (the guide's Derived/Test/ToyasCard.lean, 'card_holds'). Laid BY PROGRAM, IN A SANDBOX (cutbox-door.mjs). By AI agents, Wed Nov 11 2026. No macro, syntax, notation, axiom, sorry.
-/
import Derived.Test.YtkmcfjkfoafkoaaDoorRows
import GoSem.ClaimSeven
namespace Go.Proofs.YtkmcfjkfoafkoaaDoor
namespace Rows

/-- THE TIED CARD OF 'watershedlaw1.NetRows'. -/
def netRowsCard : Claim7 := { stood := { row := netRowsRow, standIns := [], harness := (true, "1917e1845bf6523bf8afa0829f89ddd14bc8202e6c35397432c1faafaede6119"), looks := false }, kinds := [], alts := [], laidByText := true, laidKinds := [.data, .data, .data, .data, .pinned], laidTests := true, laidLooks := .later }
def NetRowsCardSaid : Prop := Claim7.holds Tryd.pinned (.plain (OpenSpec.ofChange netRowsSpec)) netRowsCard

/-- THE TIED CARD OF 'watershedlaw1.NetTurns'. -/
def netTurnsCard : Claim7 := { stood := { row := netTurnsRow, standIns := [], harness := (true, "1917e1845bf6523bf8afa0829f89ddd14bc8202e6c35397432c1faafaede6119"), looks := false }, kinds := [], alts := [], laidByText := true, laidKinds := [.data, .data, .data, .data, .pinned], laidTests := true, laidLooks := .later }
def NetTurnsCardSaid : Prop := Claim7.holds Tryd.pinned (.plain (OpenSpec.ofChange netTurnsSpec)) netTurnsCard

/-- THE TIED CARD OF 'watershedlaw1.NetOwn'. -/
def netOwnCard : Claim7 := { stood := { row := netOwnRow, standIns := [], harness := (true, "1917e1845bf6523bf8afa0829f89ddd14bc8202e6c35397432c1faafaede6119"), looks := false }, kinds := [], alts := [], laidByText := true, laidKinds := [.data, .data, .data, .data, .pinned], laidTests := true, laidLooks := .later }
def NetOwnCardSaid : Prop := Claim7.holds Tryd.pinned (.plain (OpenSpec.ofChange netOwnSpec)) netOwnCard

/-- THE SECOND FORM's CARD OF 'watershedlaw1.NetRows'. -/
def netRowsUptoCard : Claim7 := { stood := { row := netRowsUptoRow, standIns := [], harness := (true, "1917e1845bf6523bf8afa0829f89ddd14bc8202e6c35397432c1faafaede6119"), looks := false }, kinds := [], alts := [], laidByText := true, laidKinds := [.data, .data, .data, .data, .pinned], laidTests := true, laidLooks := .later }
def NetRowsUptoCardSaid : Prop := Claim7.holds Tryd.pinned (.plain (OpenSpec.upto netRowsSpec)) netRowsUptoCard

/-- THE SECOND FORM's CARD OF 'watershedlaw1.NetTurns'. -/
def netTurnsUptoCard : Claim7 := { stood := { row := netTurnsUptoRow, standIns := [], harness := (true, "1917e1845bf6523bf8afa0829f89ddd14bc8202e6c35397432c1faafaede6119"), looks := false }, kinds := [], alts := [], laidByText := true, laidKinds := [.data, .data, .data, .data, .pinned], laidTests := true, laidLooks := .later }
def NetTurnsUptoCardSaid : Prop := Claim7.holds Tryd.pinned (.plain (OpenSpec.upto netTurnsSpec)) netTurnsUptoCard

/-- THE SECOND FORM's CARD OF 'watershedlaw1.NetOwn'. -/
def netOwnUptoCard : Claim7 := { stood := { row := netOwnUptoRow, standIns := [], harness := (true, "1917e1845bf6523bf8afa0829f89ddd14bc8202e6c35397432c1faafaede6119"), looks := false }, kinds := [], alts := [], laidByText := true, laidKinds := [.data, .data, .data, .data, .pinned], laidTests := true, laidLooks := .later }
def NetOwnUptoCardSaid : Prop := Claim7.holds Tryd.pinned (.plain (OpenSpec.upto netOwnSpec)) netOwnUptoCard
end Rows
end Go.Proofs.YtkmcfjkfoafkoaaDoor
