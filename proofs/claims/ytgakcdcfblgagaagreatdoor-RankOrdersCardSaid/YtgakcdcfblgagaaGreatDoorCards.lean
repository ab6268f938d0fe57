/-
  DERIVED. GIVEN WITH THE SEED: THE CARDS: each row of YtgakcdcfblgagaaGreatDoorRows.lean that lists a variable, with what it lists TIED to the program's text (the seventh form; the later family's looks); each row that meets fmt, with fmt's text TOLD by the authors' own Lean function (tested against real Go, not proved from fmt's source: count such statements apart). THE CARD IS WHAT COUNTS. Prove the row's statement (the work); the ties are given (YtgakcdcfblgagaaGreatDoorTie.lean); close each card by the builder's one call (the guide's Derived/Test/ToyasCard.lean, 'card_holds'). Laid BY PROGRAM, IN A SANDBOX (cutbox-door.mjs). By AI agents, Wed Nov 11 2026. No macro, syntax, notation, axiom, sorry.
-/
import Derived.Test.YtgakcdcfblgagaaGreatDoorRows
import GoSem.ClaimSeven
namespace Go.Proofs.YtgakcdcfblgagaaGreatDoor
namespace Rows

/-- THE TIED CARD OF 'ferrulelaw10.SheetBack'. -/
def sheetBackCard : Claim7 := { stood := { row := sheetBackRow, standIns := [], harness := (true, "faa558a92fa2841a000ed50abc59d1e4719f0ff7dd64a7d3cc191a1e783560dc"), looks := false }, kinds := [], alts := [], laidByText := true, laidKinds := [.data, .data, .data, .data, .data, .pinned], laidTests := true, laidLooks := .later }
def SheetBackCardSaid : Prop := Claim7.holds Tryz.pinned (.plain (OpenSpec.ofChange sheetBackSpec)) sheetBackCard

/-- THE TIED CARD OF 'ferrulelaw11.RankTables'. -/
def rankTablesCard : Claim7 := { stood := { row := rankTablesRow, standIns := [], harness := (true, "faa558a92fa2841a000ed50abc59d1e4719f0ff7dd64a7d3cc191a1e783560dc"), looks := false }, kinds := [], alts := [], laidByText := true, laidKinds := [.data, .data, .data, .data, .pinned], laidTests := true, laidLooks := .later }
def RankTablesCardSaid : Prop := Claim7.holds Tryz.pinned (.plain (OpenSpec.ofChange rankTablesSpec)) rankTablesCard

/-- THE TIED CARD OF 'ferrulelaw11.RankRuns'. -/
def rankRunsCard : Claim7 := { stood := { row := rankRunsRow, standIns := [], harness := (true, "faa558a92fa2841a000ed50abc59d1e4719f0ff7dd64a7d3cc191a1e783560dc"), looks := false }, kinds := [], alts := [], laidByText := true, laidKinds := [.data, .data, .data, .data, .pinned], laidTests := true, laidLooks := .later }
def RankRunsCardSaid : Prop := Claim7.holds Tryz.pinned (.plain (OpenSpec.ofChange rankRunsSpec)) rankRunsCard

/-- THE TIED CARD OF 'ferrulelaw11.RankOrders'. -/
def rankOrdersCard : Claim7 := { stood := { row := rankOrdersRow, standIns := [], harness := (true, "faa558a92fa2841a000ed50abc59d1e4719f0ff7dd64a7d3cc191a1e783560dc"), looks := false }, kinds := [], alts := [], laidByText := true, laidKinds := [.data, .data, .data, .data, .pinned], laidTests := true, laidLooks := .later }
def RankOrdersCardSaid : Prop := Claim7.holds Tryz.pinned (.plain (OpenSpec.ofChange rankOrdersSpec)) rankOrdersCard

/-- THE SECOND FORM's CARD OF 'ferrulelaw10.SheetBack'. -/
def sheetBackUptoCard : Claim7 := { stood := { row := sheetBackUptoRow, standIns := [], harness := (true, "faa558a92fa2841a000ed50abc59d1e4719f0ff7dd64a7d3cc191a1e783560dc"), looks := false }, kinds := [], alts := [], laidByText := true, laidKinds := [.data, .data, .data, .data, .data, .pinned], laidTests := true, laidLooks := .later }
def SheetBackUptoCardSaid : Prop := Claim7.holds Tryz.pinned (.plain (OpenSpec.upto sheetBackSpec)) sheetBackUptoCard

/-- THE SECOND FORM's CARD OF 'ferrulelaw11.RankTables'. -/
def rankTablesUptoCard : Claim7 := { stood := { row := rankTablesUptoRow, standIns := [], harness := (true, "faa558a92fa2841a000ed50abc59d1e4719f0ff7dd64a7d3cc191a1e783560dc"), looks := false }, kinds := [], alts := [], laidByText := true, laidKinds := [.data, .data, .data, .data, .pinned], laidTests := true, laidLooks := .later }
def RankTablesUptoCardSaid : Prop := Claim7.holds Tryz.pinned (.plain (OpenSpec.upto rankTablesSpec)) rankTablesUptoCard

/-- THE SECOND FORM's CARD OF 'ferrulelaw11.RankRuns'. -/
def rankRunsUptoCard : Claim7 := { stood := { row := rankRunsUptoRow, standIns := [], harness := (true, "faa558a92fa2841a000ed50abc59d1e4719f0ff7dd64a7d3cc191a1e783560dc"), looks := false }, kinds := [], alts := [], laidByText := true, laidKinds := [.data, .data, .data, .data, .pinned], laidTests := true, laidLooks := .later }
def RankRunsUptoCardSaid : Prop := Claim7.holds Tryz.pinned (.plain (OpenSpec.upto rankRunsSpec)) rankRunsUptoCard

/-- THE SECOND FORM's CARD OF 'ferrulelaw11.RankOrders'. -/
def rankOrdersUptoCard : Claim7 := { stood := { row := rankOrdersUptoRow, standIns := [], harness := (true, "faa558a92fa2841a000ed50abc59d1e4719f0ff7dd64a7d3cc191a1e783560dc"), looks := false }, kinds := [], alts := [], laidByText := true, laidKinds := [.data, .data, .data, .data, .pinned], laidTests := true, laidLooks := .later }
def RankOrdersUptoCardSaid : Prop := Claim7.holds Tryz.pinned (.plain (OpenSpec.upto rankOrdersSpec)) rankOrdersUptoCard
end Rows
end Go.Proofs.YtgakcdcfblgagaaGreatDoor
