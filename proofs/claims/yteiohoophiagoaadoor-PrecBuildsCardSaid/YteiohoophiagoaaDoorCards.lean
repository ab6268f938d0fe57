/-
  DERIVED. GIVEN WITH THE SEED: THE CARDS: each row of YteiohoophiagoaaDoorRows.lean that lists a variable, with what it lists TIED to the program's text (the seventh form; the later family's looks); each row that meets fmt, with fmt's text TOLD by the authors' own Lean function (tested against real Go, not proved from fmt's source: count such statements apart). THE CARD IS WHAT COUNTS. Prove the row's statement (the work); the ties are given (YteiohoophiagoaaDoorTie.lean); close each card by the builder's one call (the guide's Derived/Test/ToyasCard.lean, 'card_holds'). Laid BY PROGRAM, IN A SANDBOX (cutbox-door.mjs). By AI agents, Wed Nov 11 2026. No macro, syntax, notation, axiom, sorry.
-/
import Derived.Test.YteiohoophiagoaaDoorRows
import GoSem.ClaimSeven
namespace Go.Proofs.YteiohoophiagoaaDoor
namespace Rows

/-- THE TIED CARD OF 'ferrulelaw04.PrecEnds'. -/
def precEndsCard : Claim7 := { stood := { row := precEndsRow, standIns := [], harness := (true, "c86317128276a245c0833c151ef9b1870654ebe61e22e166b14049e0f76864ee"), looks := false }, kinds := [], alts := [], laidByText := true, laidKinds := [.data, .pinned], laidTests := true, laidLooks := .later }
def PrecEndsCardSaid : Prop := Claim7.holds Tryd.pinned (.plain (OpenSpec.ofChange precEndsSpec)) precEndsCard

/-- THE TIED CARD OF 'ferrulelaw04.PrecOrders'. -/
def precOrdersCard : Claim7 := { stood := { row := precOrdersRow, standIns := [], harness := (true, "c86317128276a245c0833c151ef9b1870654ebe61e22e166b14049e0f76864ee"), looks := false }, kinds := [], alts := [], laidByText := true, laidKinds := [.data, .pinned], laidTests := true, laidLooks := .later }
def PrecOrdersCardSaid : Prop := Claim7.holds Tryd.pinned (.plain (OpenSpec.ofChange precOrdersSpec)) precOrdersCard

/-- THE TIED CARD OF 'ferrulelaw04.PrecBuilds'. -/
def precBuildsCard : Claim7 := { stood := { row := precBuildsRow, standIns := [], harness := (true, "c86317128276a245c0833c151ef9b1870654ebe61e22e166b14049e0f76864ee"), looks := false }, kinds := [], alts := [], laidByText := true, laidKinds := [.data, .pinned], laidTests := true, laidLooks := .later }
def PrecBuildsCardSaid : Prop := Claim7.holds Tryd.pinned (.plain (OpenSpec.ofChange precBuildsSpec)) precBuildsCard

/-- THE SECOND FORM's CARD OF 'ferrulelaw04.PrecEnds'. -/
def precEndsUptoCard : Claim7 := { stood := { row := precEndsUptoRow, standIns := [], harness := (true, "c86317128276a245c0833c151ef9b1870654ebe61e22e166b14049e0f76864ee"), looks := false }, kinds := [], alts := [], laidByText := true, laidKinds := [.data, .pinned], laidTests := true, laidLooks := .later }
def PrecEndsUptoCardSaid : Prop := Claim7.holds Tryd.pinned (.plain (OpenSpec.upto precEndsSpec)) precEndsUptoCard

/-- THE SECOND FORM's CARD OF 'ferrulelaw04.PrecOrders'. -/
def precOrdersUptoCard : Claim7 := { stood := { row := precOrdersUptoRow, standIns := [], harness := (true, "c86317128276a245c0833c151ef9b1870654ebe61e22e166b14049e0f76864ee"), looks := false }, kinds := [], alts := [], laidByText := true, laidKinds := [.data, .pinned], laidTests := true, laidLooks := .later }
def PrecOrdersUptoCardSaid : Prop := Claim7.holds Tryd.pinned (.plain (OpenSpec.upto precOrdersSpec)) precOrdersUptoCard

/-- THE SECOND FORM's CARD OF 'ferrulelaw04.PrecBuilds'. -/
def precBuildsUptoCard : Claim7 := { stood := { row := precBuildsUptoRow, standIns := [], harness := (true, "c86317128276a245c0833c151ef9b1870654ebe61e22e166b14049e0f76864ee"), looks := false }, kinds := [], alts := [], laidByText := true, laidKinds := [.data, .pinned], laidTests := true, laidLooks := .later }
def PrecBuildsUptoCardSaid : Prop := Claim7.holds Tryd.pinned (.plain (OpenSpec.upto precBuildsSpec)) precBuildsUptoCard
end Rows
end Go.Proofs.YteiohoophiagoaaDoor
