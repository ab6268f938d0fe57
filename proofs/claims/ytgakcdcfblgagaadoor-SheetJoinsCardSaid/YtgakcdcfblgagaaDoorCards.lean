/-
  DERIVED. GIVEN WITH THE SEED: THE CARDS: each row of YtgakcdcfblgagaaDoorRows.lean that lists a variable, with what it lists TIED to the program's text (the seventh form; the later family's looks); each row that meets fmt, with fmt's text TOLD by the authors' own Lean function (tested against real Go, not proved from fmt's source: count such statements apart). THE CARD IS WHAT COUNTS. Prove the row's statement (the work); the ties are given (YtgakcdcfblgagaaDoorTie.lean); close each card by the builder's one call (the guide's Derived/Test/ToyasCard.lean, 'card_holds'). Laid BY PROGRAM, IN A SANDBOX (cutbox-door.mjs). By AI agents, Wed Nov 11 2026. No macro, syntax, notation, axiom, sorry.
-/
import Derived.Test.YtgakcdcfblgagaaDoorRows
import GoSem.ClaimSeven
namespace Go.Proofs.YtgakcdcfblgagaaDoor
namespace Rows

/-- THE TIED CARD OF 'ferrulelaw10.SheetJoins'. -/
def sheetJoinsCard : Claim7 := { stood := { row := sheetJoinsRow, standIns := [], harness := (true, "270e4026a739f7e14192b490345a7b749a861a5244f22564c7b3554812172727"), looks := false }, kinds := [], alts := [], laidByText := true, laidKinds := [.data], laidTests := true, laidLooks := .later }
def SheetJoinsCardSaid : Prop := Claim7.holds Tryd.pinned (.plain (OpenSpec.ofChange sheetJoinsSpec)) sheetJoinsCard

/-- THE SECOND FORM's CARD OF 'ferrulelaw10.SheetJoins'. -/
def sheetJoinsUptoCard : Claim7 := { stood := { row := sheetJoinsUptoRow, standIns := [], harness := (true, "270e4026a739f7e14192b490345a7b749a861a5244f22564c7b3554812172727"), looks := false }, kinds := [], alts := [], laidByText := true, laidKinds := [.data], laidTests := true, laidLooks := .later }
def SheetJoinsUptoCardSaid : Prop := Claim7.holds Tryd.pinned (.plain (OpenSpec.upto sheetJoinsSpec)) sheetJoinsUptoCard
end Rows
end Go.Proofs.YtgakcdcfblgagaaDoor
