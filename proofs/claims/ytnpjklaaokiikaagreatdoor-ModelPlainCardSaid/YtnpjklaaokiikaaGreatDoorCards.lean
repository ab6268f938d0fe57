/-
  DERIVED. GIVEN WITH THE SEED: THE CARDS: each row of YtnpjklaaokiikaaGreatDoorRows.lean that lists a variable, with what it lists TIED to the program's text (the seventh form; the later family's looks); each row that meets fmt, with fmt's text TOLD by the authors' own Lean function (tested against real Go, not proved from fmt's source: count such statements apart). THE CARD IS WHAT COUNTS. Prove the row's statement (the work); the ties are given (YtnpjklaaokiikaaGreatDoorTie.lean); close each card by the builder's one call (the guide's Derived/Test/ToyasCard.lean, 'card_holds'). Laid BY PROGRAM, IN A SANDBOX (cutbox-door.mjs). By AI agents, Wed Nov 11 2026. No macro, syntax, notation, axiom, sorry.
-/
import Derived.Test.YtnpjklaaokiikaaGreatDoorRows
import GoSem.ClaimSeven
namespace Go.Proofs.YtnpjklaaokiikaaGreatDoor
namespace Rows

/-- THE TIED CARD OF 'ferrulelaw09.ModelSolves'. -/
def modelSolvesCard : Claim7 := { stood := { row := modelSolvesRow, standIns := [], harness := (true, "c2b15ae5dfede692011328169b2b3d814d117729a49711f0dc8df11f1e2db195"), looks := false }, kinds := [], alts := [], laidByText := true, laidKinds := [.data, .data, .data, .data, .pinned], laidTests := true, laidLooks := .later }
def ModelSolvesCardSaid : Prop := Claim7.holds Tryz.pinned (.plain (OpenSpec.ofChange modelSolvesSpec)) modelSolvesCard

/-- THE TIED CARD OF 'ferrulelaw09.ModelPlain'. -/
def modelPlainCard : Claim7 := { stood := { row := modelPlainRow, standIns := [], harness := (true, "c2b15ae5dfede692011328169b2b3d814d117729a49711f0dc8df11f1e2db195"), looks := false }, kinds := [], alts := [], laidByText := true, laidKinds := [.data, .data, .data, .data, .pinned], laidTests := true, laidLooks := .later }
def ModelPlainCardSaid : Prop := Claim7.holds Tryz.pinned (.plain (OpenSpec.ofChange modelPlainSpec)) modelPlainCard

/-- THE TIED CARD OF 'ferrulelaw10.SheetBack'. -/
def sheetBackCard : Claim7 := { stood := { row := sheetBackRow, standIns := [], harness := (true, "c2b15ae5dfede692011328169b2b3d814d117729a49711f0dc8df11f1e2db195"), looks := false }, kinds := [], alts := [], laidByText := true, laidKinds := [.data, .data, .data, .data, .data, .pinned], laidTests := true, laidLooks := .later }
def SheetBackCardSaid : Prop := Claim7.holds Tryz.pinned (.plain (OpenSpec.ofChange sheetBackSpec)) sheetBackCard

/-- THE SECOND FORM's CARD OF 'ferrulelaw09.ModelSolves'. -/
def modelSolvesUptoCard : Claim7 := { stood := { row := modelSolvesUptoRow, standIns := [], harness := (true, "c2b15ae5dfede692011328169b2b3d814d117729a49711f0dc8df11f1e2db195"), looks := false }, kinds := [], alts := [], laidByText := true, laidKinds := [.data, .data, .data, .data, .pinned], laidTests := true, laidLooks := .later }
def ModelSolvesUptoCardSaid : Prop := Claim7.holds Tryz.pinned (.plain (OpenSpec.upto modelSolvesSpec)) modelSolvesUptoCard

/-- THE SECOND FORM's CARD OF 'ferrulelaw09.ModelPlain'. -/
def modelPlainUptoCard : Claim7 := { stood := { row := modelPlainUptoRow, standIns := [], harness := (true, "c2b15ae5dfede692011328169b2b3d814d117729a49711f0dc8df11f1e2db195"), looks := false }, kinds := [], alts := [], laidByText := true, laidKinds := [.data, .data, .data, .data, .pinned], laidTests := true, laidLooks := .later }
def ModelPlainUptoCardSaid : Prop := Claim7.holds Tryz.pinned (.plain (OpenSpec.upto modelPlainSpec)) modelPlainUptoCard

/-- THE SECOND FORM's CARD OF 'ferrulelaw10.SheetBack'. -/
def sheetBackUptoCard : Claim7 := { stood := { row := sheetBackUptoRow, standIns := [], harness := (true, "c2b15ae5dfede692011328169b2b3d814d117729a49711f0dc8df11f1e2db195"), looks := false }, kinds := [], alts := [], laidByText := true, laidKinds := [.data, .data, .data, .data, .data, .pinned], laidTests := true, laidLooks := .later }
def SheetBackUptoCardSaid : Prop := Claim7.holds Tryz.pinned (.plain (OpenSpec.upto sheetBackSpec)) sheetBackUptoCard
end Rows
end Go.Proofs.YtnpjklaaokiikaaGreatDoor
