/-
  DERIVED. GIVEN WITH THE SEED: THE CARDS: each row of YtgfbflnhjpbceaaGreatDoorRows.lean that lists a variable, with what it lists TIED to the program's text (the seventh form; the later family's looks); each row that meets fmt, with fmt's text TOLD by the authors' own Lean function (tested against real Go, not proved from fmt's source: count such statements apart). THE CARD IS WHAT COUNTS. Prove the row's statement (the work); the ties are given (YtgfbflnhjpbceaaGreatDoorTie.lean); close each card by the builder's one call (the guide's Derived/Test/ToyasCard.lean, 'card_holds'). Laid BY PROGRAM, IN A SANDBOX (cutbox-door.mjs). By AI agents, Wed Nov 11 2026. No macro, syntax, notation, axiom, sorry.
-/
import Derived.Test.YtgfbflnhjpbceaaGreatDoorRows
import GoSem.ClaimSeven
namespace Go.Proofs.YtgfbflnhjpbceaaGreatDoor
namespace Rows

/-- THE TIED CARD OF 'ferrulelaw07.NormSets'. -/
def normSetsCard : Claim7 := { stood := { row := normSetsRow, standIns := [], harness := (true, "c0f8bd0dbc9b7aa01350d824c02a318cccc4353b2b0182142cca1e8457d6e055"), looks := false }, kinds := [], alts := [], laidByText := true, laidKinds := [.data, .data, .data, .data, .data, .pinned], laidTests := true, laidLooks := .later }
def NormSetsCardSaid : Prop := Claim7.holds Tryz.pinned (.plain (OpenSpec.ofChange normSetsSpec)) normSetsCard

/-- THE TIED CARD OF 'ferrulelaw07.NormHas'. -/
def normHasCard : Claim7 := { stood := { row := normHasRow, standIns := [], harness := (true, "c0f8bd0dbc9b7aa01350d824c02a318cccc4353b2b0182142cca1e8457d6e055"), looks := false }, kinds := [], alts := [], laidByText := true, laidKinds := [.data, .data, .data, .data, .data, .pinned], laidTests := true, laidLooks := .later }
def NormHasCardSaid : Prop := Claim7.holds Tryz.pinned (.plain (OpenSpec.ofChange normHasSpec)) normHasCard

/-- THE TIED CARD OF 'ferrulelaw07.NormPlain'. -/
def normPlainCard : Claim7 := { stood := { row := normPlainRow, standIns := [], harness := (true, "c0f8bd0dbc9b7aa01350d824c02a318cccc4353b2b0182142cca1e8457d6e055"), looks := false }, kinds := [], alts := [], laidByText := true, laidKinds := [.data, .data, .data, .data, .data, .pinned], laidTests := true, laidLooks := .later }
def NormPlainCardSaid : Prop := Claim7.holds Tryz.pinned (.plain (OpenSpec.ofChange normPlainSpec)) normPlainCard

/-- THE TIED CARD OF 'ferrulelaw07.NormAgain'. -/
def normAgainCard : Claim7 := { stood := { row := normAgainRow, standIns := [], harness := (true, "c0f8bd0dbc9b7aa01350d824c02a318cccc4353b2b0182142cca1e8457d6e055"), looks := false }, kinds := [], alts := [], laidByText := true, laidKinds := [.data, .data, .data, .data, .data, .pinned], laidTests := true, laidLooks := .later }
def NormAgainCardSaid : Prop := Claim7.holds Tryz.pinned (.plain (OpenSpec.ofChange normAgainSpec)) normAgainCard

/-- THE TIED CARD OF 'ferrulelaw07.NormParts'. -/
def normPartsCard : Claim7 := { stood := { row := normPartsRow, standIns := [], harness := (true, "c0f8bd0dbc9b7aa01350d824c02a318cccc4353b2b0182142cca1e8457d6e055"), looks := false }, kinds := [], alts := [], laidByText := true, laidKinds := [.data, .data, .data, .data, .data, .pinned], laidTests := true, laidLooks := .later }
def NormPartsCardSaid : Prop := Claim7.holds Tryz.pinned (.plain (OpenSpec.ofChange normPartsSpec)) normPartsCard

/-- THE SECOND FORM's CARD OF 'ferrulelaw07.NormSets'. -/
def normSetsUptoCard : Claim7 := { stood := { row := normSetsUptoRow, standIns := [], harness := (true, "c0f8bd0dbc9b7aa01350d824c02a318cccc4353b2b0182142cca1e8457d6e055"), looks := false }, kinds := [], alts := [], laidByText := true, laidKinds := [.data, .data, .data, .data, .data, .pinned], laidTests := true, laidLooks := .later }
def NormSetsUptoCardSaid : Prop := Claim7.holds Tryz.pinned (.plain (OpenSpec.upto normSetsSpec)) normSetsUptoCard

/-- THE SECOND FORM's CARD OF 'ferrulelaw07.NormHas'. -/
def normHasUptoCard : Claim7 := { stood := { row := normHasUptoRow, standIns := [], harness := (true, "c0f8bd0dbc9b7aa01350d824c02a318cccc4353b2b0182142cca1e8457d6e055"), looks := false }, kinds := [], alts := [], laidByText := true, laidKinds := [.data, .data, .data, .data, .data, .pinned], laidTests := true, laidLooks := .later }
def NormHasUptoCardSaid : Prop := Claim7.holds Tryz.pinned (.plain (OpenSpec.upto normHasSpec)) normHasUptoCard

/-- THE SECOND FORM's CARD OF 'ferrulelaw07.NormPlain'. -/
def normPlainUptoCard : Claim7 := { stood := { row := normPlainUptoRow, standIns := [], harness := (true, "c0f8bd0dbc9b7aa01350d824c02a318cccc4353b2b0182142cca1e8457d6e055"), looks := false }, kinds := [], alts := [], laidByText := true, laidKinds := [.data, .data, .data, .data, .data, .pinned], laidTests := true, laidLooks := .later }
def NormPlainUptoCardSaid : Prop := Claim7.holds Tryz.pinned (.plain (OpenSpec.upto normPlainSpec)) normPlainUptoCard

/-- THE SECOND FORM's CARD OF 'ferrulelaw07.NormAgain'. -/
def normAgainUptoCard : Claim7 := { stood := { row := normAgainUptoRow, standIns := [], harness := (true, "c0f8bd0dbc9b7aa01350d824c02a318cccc4353b2b0182142cca1e8457d6e055"), looks := false }, kinds := [], alts := [], laidByText := true, laidKinds := [.data, .data, .data, .data, .data, .pinned], laidTests := true, laidLooks := .later }
def NormAgainUptoCardSaid : Prop := Claim7.holds Tryz.pinned (.plain (OpenSpec.upto normAgainSpec)) normAgainUptoCard

/-- THE SECOND FORM's CARD OF 'ferrulelaw07.NormParts'. -/
def normPartsUptoCard : Claim7 := { stood := { row := normPartsUptoRow, standIns := [], harness := (true, "c0f8bd0dbc9b7aa01350d824c02a318cccc4353b2b0182142cca1e8457d6e055"), looks := false }, kinds := [], alts := [], laidByText := true, laidKinds := [.data, .data, .data, .data, .data, .pinned], laidTests := true, laidLooks := .later }
def NormPartsUptoCardSaid : Prop := Claim7.holds Tryz.pinned (.plain (OpenSpec.upto normPartsSpec)) normPartsUptoCard
end Rows
end Go.Proofs.YtgfbflnhjpbceaaGreatDoor
