/-
  DERIVED. GIVEN WITH THE SEED: THE CARDS: each row of YtolkcblkciafiaaDoorRows.lean that lists a variable, with what it lists TIED to the program's text (the seventh form; the later family's looks); each row that meets fmt, with fmt's text TOLD by the authors' own Lean function (tested against real Go, not proved from fmt's source: count such statements apart). THE CARD IS WHAT COUNTS. Prove the row's statement (the work); the ties are given (YtolkcblkciafiaaDoorTie.lean); close each card by the builder's one call (the guide's Derived/Test/ToyasCard.lean, 'card_holds'). Laid BY PROGRAM, IN A SANDBOX (cutbox-door.mjs). By AI agents, Wed Nov 11 2026. No macro, syntax, notation, axiom, sorry.
-/
import Derived.Test.YtolkcblkciafiaaDoorRows
import GoSem.ClaimSeven
namespace Go.Proofs.YtolkcblkciafiaaDoor
namespace Rows

/-- THE TIED CARD OF 'ferrulelaw06.RangeBack'. -/
def rangeBackCard : Claim7 := { stood := { row := rangeBackRow, standIns := [], harness := (true, "583d4ce4b1dea101e4b5538051b0567602e5191eadd05dd5d56fba5aa789b2a2"), looks := false }, kinds := [], alts := [], laidByText := true, laidKinds := [.data, .data, .data, .data], laidTests := true, laidLooks := .later }
def RangeBackCardSaid : Prop := Claim7.holds Tryd.pinned (.plain (OpenSpec.ofChange rangeBackSpec)) rangeBackCard

/-- THE TIED CARD OF 'ferrulelaw06.RangeDeep'. -/
def rangeDeepCard : Claim7 := { stood := { row := rangeDeepRow, standIns := [], harness := (true, "583d4ce4b1dea101e4b5538051b0567602e5191eadd05dd5d56fba5aa789b2a2"), looks := false }, kinds := [], alts := [], laidByText := true, laidKinds := [.data], laidTests := true, laidLooks := .later }
def RangeDeepCardSaid : Prop := Claim7.holds Tryd.pinned (.plain (OpenSpec.ofChange rangeDeepSpec)) rangeDeepCard

/-- THE TIED CARD OF 'ferrulelaw06.RangeBlanks'. -/
def rangeBlanksCard : Claim7 := { stood := { row := rangeBlanksRow, standIns := [], harness := (true, "583d4ce4b1dea101e4b5538051b0567602e5191eadd05dd5d56fba5aa789b2a2"), looks := false }, kinds := [], alts := [], laidByText := true, laidKinds := [.data], laidTests := true, laidLooks := .later }
def RangeBlanksCardSaid : Prop := Claim7.holds Tryd.pinned (.plain (OpenSpec.ofChange rangeBlanksSpec)) rangeBlanksCard

/-- THE SECOND FORM's CARD OF 'ferrulelaw06.RangeBack'. -/
def rangeBackUptoCard : Claim7 := { stood := { row := rangeBackUptoRow, standIns := [], harness := (true, "583d4ce4b1dea101e4b5538051b0567602e5191eadd05dd5d56fba5aa789b2a2"), looks := false }, kinds := [], alts := [], laidByText := true, laidKinds := [.data, .data, .data, .data], laidTests := true, laidLooks := .later }
def RangeBackUptoCardSaid : Prop := Claim7.holds Tryd.pinned (.plain (OpenSpec.upto rangeBackSpec)) rangeBackUptoCard

/-- THE SECOND FORM's CARD OF 'ferrulelaw06.RangeDeep'. -/
def rangeDeepUptoCard : Claim7 := { stood := { row := rangeDeepUptoRow, standIns := [], harness := (true, "583d4ce4b1dea101e4b5538051b0567602e5191eadd05dd5d56fba5aa789b2a2"), looks := false }, kinds := [], alts := [], laidByText := true, laidKinds := [.data], laidTests := true, laidLooks := .later }
def RangeDeepUptoCardSaid : Prop := Claim7.holds Tryd.pinned (.plain (OpenSpec.upto rangeDeepSpec)) rangeDeepUptoCard

/-- THE SECOND FORM's CARD OF 'ferrulelaw06.RangeBlanks'. -/
def rangeBlanksUptoCard : Claim7 := { stood := { row := rangeBlanksUptoRow, standIns := [], harness := (true, "583d4ce4b1dea101e4b5538051b0567602e5191eadd05dd5d56fba5aa789b2a2"), looks := false }, kinds := [], alts := [], laidByText := true, laidKinds := [.data], laidTests := true, laidLooks := .later }
def RangeBlanksUptoCardSaid : Prop := Claim7.holds Tryd.pinned (.plain (OpenSpec.upto rangeBlanksSpec)) rangeBlanksUptoCard
end Rows
end Go.Proofs.YtolkcblkciafiaaDoor
