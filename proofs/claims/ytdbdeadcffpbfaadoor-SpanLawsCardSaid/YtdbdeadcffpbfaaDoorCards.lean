/-
  DERIVED. GIVEN WITH THE SEED: THE CARDS: each row of YtdbdeadcffpbfaaDoorRows.lean that lists a variable, with what it lists TIED to the program's text (the seventh form; the later family's looks); each row that meets fmt, with fmt's text TOLD by the authors' own Lean function (tested against real Go, not proved from fmt's source: count such statements apart). THE CARD IS WHAT COUNTS. Prove the row's statement (the work); the ties are given (YtdbdeadcffpbfaaDoorTie.lean); close each card by the builder's one call (the guide's Derived/Test/ToyasCard.lean, 'card_holds'). Laid BY PROGRAM, IN A SANDBOX (cutbox-door.mjs). By AI agents, Wed Nov 11 2026. No macro, syntax, notation, axiom, sorry.
-/
import Derived.Test.YtdbdeadcffpbfaaDoorRows
import GoSem.ClaimSeven
namespace Go.Proofs.YtdbdeadcffpbfaaDoor
namespace Rows

/-- THE TIED CARD OF 'ferrulelaw05.SpanLaws'. -/
def spanLawsCard : Claim7 := { stood := { row := spanLawsRow, standIns := [], harness := (true, "2af2b90a952fed5ca53e29736c5617012d4a6766ea41fde15d89a2832d07a7c3"), looks := false }, kinds := [], alts := [], laidByText := true, laidKinds := [.data, .pinned], laidTests := true, laidLooks := .later }
def SpanLawsCardSaid : Prop := Claim7.holds Tryd.pinned (.plain (OpenSpec.ofChange spanLawsSpec)) spanLawsCard

/-- THE SECOND FORM's CARD OF 'ferrulelaw05.SpanLaws'. -/
def spanLawsUptoCard : Claim7 := { stood := { row := spanLawsUptoRow, standIns := [], harness := (true, "2af2b90a952fed5ca53e29736c5617012d4a6766ea41fde15d89a2832d07a7c3"), looks := false }, kinds := [], alts := [], laidByText := true, laidKinds := [.data, .pinned], laidTests := true, laidLooks := .later }
def SpanLawsUptoCardSaid : Prop := Claim7.holds Tryd.pinned (.plain (OpenSpec.upto spanLawsSpec)) spanLawsUptoCard
end Rows
end Go.Proofs.YtdbdeadcffpbfaaDoor
