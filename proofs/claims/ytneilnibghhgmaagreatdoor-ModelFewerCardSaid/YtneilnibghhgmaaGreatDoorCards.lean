/-
  DERIVED. GIVEN WITH THE SEED: THE CARDS: each row of YtneilnibghhgmaaGreatDoorRows.lean that lists a variable, with what it lists TIED to the program's text (the seventh form; the later family's looks); each row that meets fmt, with fmt's text TOLD by the authors' own Lean function (tested against real Go, not proved from fmt's source: count such statements apart). THE CARD IS WHAT COUNTS. Prove the row's statement (the work); the ties are given (YtneilnibghhgmaaGreatDoorTie.lean); close each card by the builder's one call (the guide's Derived/Test/ToyasCard.lean, 'card_holds'). Laid BY PROGRAM, IN A SANDBOX (cutbox-door.mjs). By AI agents, Wed Nov 11 2026. No macro, syntax, notation, axiom, sorry.
-/
import Derived.Test.YtneilnibghhgmaaGreatDoorRows
import GoSem.ClaimSeven
namespace Go.Proofs.YtneilnibghhgmaaGreatDoor
namespace Rows

/-- THE TIED CARD OF 'ferrulelaw09.ModelChecks'. -/
def modelChecksCard : Claim7 := { stood := { row := modelChecksRow, standIns := [], harness := (true, "f57a68fd92e190b9e5f3a9af7766aa7a03cd4fd067358221ea93bcda308d9e97"), looks := false }, kinds := [], alts := [], laidByText := true, laidKinds := [.data, .data, .data, .data, .pinned], laidTests := true, laidLooks := .later }
def ModelChecksCardSaid : Prop := Claim7.holds Tryz.pinned (.plain (OpenSpec.ofChange modelChecksSpec)) modelChecksCard

/-- THE TIED CARD OF 'ferrulelaw09.ModelSolves'. -/
def modelSolvesCard : Claim7 := { stood := { row := modelSolvesRow, standIns := [], harness := (true, "f57a68fd92e190b9e5f3a9af7766aa7a03cd4fd067358221ea93bcda308d9e97"), looks := false }, kinds := [], alts := [], laidByText := true, laidKinds := [.data, .data, .data, .data, .pinned], laidTests := true, laidLooks := .later }
def ModelSolvesCardSaid : Prop := Claim7.holds Tryz.pinned (.plain (OpenSpec.ofChange modelSolvesSpec)) modelSolvesCard

/-- THE TIED CARD OF 'ferrulelaw09.ModelPlain'. -/
def modelPlainCard : Claim7 := { stood := { row := modelPlainRow, standIns := [], harness := (true, "f57a68fd92e190b9e5f3a9af7766aa7a03cd4fd067358221ea93bcda308d9e97"), looks := false }, kinds := [], alts := [], laidByText := true, laidKinds := [.data, .data, .data, .data, .pinned], laidTests := true, laidLooks := .later }
def ModelPlainCardSaid : Prop := Claim7.holds Tryz.pinned (.plain (OpenSpec.ofChange modelPlainSpec)) modelPlainCard

/-- THE TIED CARD OF 'ferrulelaw09.ModelFewer'. -/
def modelFewerCard : Claim7 := { stood := { row := modelFewerRow, standIns := [], harness := (true, "f57a68fd92e190b9e5f3a9af7766aa7a03cd4fd067358221ea93bcda308d9e97"), looks := false }, kinds := [], alts := [], laidByText := true, laidKinds := [.data, .data, .data, .data, .pinned], laidTests := true, laidLooks := .later }
def ModelFewerCardSaid : Prop := Claim7.holds Tryz.pinned (.plain (OpenSpec.ofChange modelFewerSpec)) modelFewerCard

/-- THE SECOND FORM's CARD OF 'ferrulelaw09.ModelChecks'. -/
def modelChecksUptoCard : Claim7 := { stood := { row := modelChecksUptoRow, standIns := [], harness := (true, "f57a68fd92e190b9e5f3a9af7766aa7a03cd4fd067358221ea93bcda308d9e97"), looks := false }, kinds := [], alts := [], laidByText := true, laidKinds := [.data, .data, .data, .data, .pinned], laidTests := true, laidLooks := .later }
def ModelChecksUptoCardSaid : Prop := Claim7.holds Tryz.pinned (.plain (OpenSpec.upto modelChecksSpec)) modelChecksUptoCard

/-- THE SECOND FORM's CARD OF 'ferrulelaw09.ModelSolves'. -/
def modelSolvesUptoCard : Claim7 := { stood := { row := modelSolvesUptoRow, standIns := [], harness := (true, "f57a68fd92e190b9e5f3a9af7766aa7a03cd4fd067358221ea93bcda308d9e97"), looks := false }, kinds := [], alts := [], laidByText := true, laidKinds := [.data, .data, .data, .data, .pinned], laidTests := true, laidLooks := .later }
def ModelSolvesUptoCardSaid : Prop := Claim7.holds Tryz.pinned (.plain (OpenSpec.upto modelSolvesSpec)) modelSolvesUptoCard

/-- THE SECOND FORM's CARD OF 'ferrulelaw09.ModelPlain'. -/
def modelPlainUptoCard : Claim7 := { stood := { row := modelPlainUptoRow, standIns := [], harness := (true, "f57a68fd92e190b9e5f3a9af7766aa7a03cd4fd067358221ea93bcda308d9e97"), looks := false }, kinds := [], alts := [], laidByText := true, laidKinds := [.data, .data, .data, .data, .pinned], laidTests := true, laidLooks := .later }
def ModelPlainUptoCardSaid : Prop := Claim7.holds Tryz.pinned (.plain (OpenSpec.upto modelPlainSpec)) modelPlainUptoCard

/-- THE SECOND FORM's CARD OF 'ferrulelaw09.ModelFewer'. -/
def modelFewerUptoCard : Claim7 := { stood := { row := modelFewerUptoRow, standIns := [], harness := (true, "f57a68fd92e190b9e5f3a9af7766aa7a03cd4fd067358221ea93bcda308d9e97"), looks := false }, kinds := [], alts := [], laidByText := true, laidKinds := [.data, .data, .data, .data, .pinned], laidTests := true, laidLooks := .later }
def ModelFewerUptoCardSaid : Prop := Claim7.holds Tryz.pinned (.plain (OpenSpec.upto modelFewerSpec)) modelFewerUptoCard
end Rows
end Go.Proofs.YtneilnibghhgmaaGreatDoor
