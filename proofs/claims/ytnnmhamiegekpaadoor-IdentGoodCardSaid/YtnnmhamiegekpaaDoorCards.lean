/-
  DERIVED. GIVEN WITH THE SEED: THE CARDS: each row of YtnnmhamiegekpaaDoorRows.lean that lists a variable, with what it lists TIED to the program's text (the seventh form; the later family's looks); each row that meets fmt, with fmt's text TOLD by the authors' own Lean function (tested against real Go, not proved from fmt's source: count such statements apart). THE CARD IS WHAT COUNTS. Prove the row's statement (the work); the ties are given (YtnnmhamiegekpaaDoorTie.lean); close each card by the builder's one call (the guide's Derived/Test/ToyasCard.lean, 'card_holds'). Laid BY PROGRAM, IN A SANDBOX (cutbox-door.mjs). By AI agents, Wed Nov 11 2026. No macro, syntax, notation, axiom, sorry.
-/
import Derived.Test.YtnnmhamiegekpaaDoorRows
import GoSem.ClaimSeven
namespace Go.Proofs.YtnnmhamiegekpaaDoor
namespace Rows

/-- THE TIED CARD OF 'ferrulelaw02.IdentRows'. -/
def identRowsCard : Claim7 := { stood := { row := identRowsRow, standIns := [], harness := (true, "94609817ddaeb51b7c40b51637744c1e7efa9db5cbc2ba4d1e9ad8af8a64208d"), looks := false }, kinds := [], alts := [], laidByText := true, laidKinds := [.data, .pinned], laidTests := true, laidLooks := .later }
def IdentRowsCardSaid : Prop := Claim7.holds Tryd.pinned (.plain (OpenSpec.ofChange identRowsSpec)) identRowsCard

/-- THE TIED CARD OF 'ferrulelaw02.IdentGood'. -/
def identGoodCard : Claim7 := { stood := { row := identGoodRow, standIns := [], harness := (true, "94609817ddaeb51b7c40b51637744c1e7efa9db5cbc2ba4d1e9ad8af8a64208d"), looks := false }, kinds := [], alts := [], laidByText := true, laidKinds := [.data, .pinned], laidTests := true, laidLooks := .later }
def IdentGoodCardSaid : Prop := Claim7.holds Tryd.pinned (.plain (OpenSpec.ofChange identGoodSpec)) identGoodCard

/-- THE TIED CARD OF 'ferrulelaw02.IdentOrders'. -/
def identOrdersCard : Claim7 := { stood := { row := identOrdersRow, standIns := [], harness := (true, "94609817ddaeb51b7c40b51637744c1e7efa9db5cbc2ba4d1e9ad8af8a64208d"), looks := false }, kinds := [], alts := [], laidByText := true, laidKinds := [.data, .pinned], laidTests := true, laidLooks := .later }
def IdentOrdersCardSaid : Prop := Claim7.holds Tryd.pinned (.plain (OpenSpec.ofChange identOrdersSpec)) identOrdersCard

/-- THE TIED CARD OF 'ferrulelaw02.IdentLonger'. -/
def identLongerCard : Claim7 := { stood := { row := identLongerRow, standIns := [], harness := (true, "94609817ddaeb51b7c40b51637744c1e7efa9db5cbc2ba4d1e9ad8af8a64208d"), looks := false }, kinds := [], alts := [], laidByText := true, laidKinds := [.data, .pinned], laidTests := true, laidLooks := .later }
def IdentLongerCardSaid : Prop := Claim7.holds Tryd.pinned (.plain (OpenSpec.ofChange identLongerSpec)) identLongerCard

/-- THE SECOND FORM's CARD OF 'ferrulelaw02.IdentRows'. -/
def identRowsUptoCard : Claim7 := { stood := { row := identRowsUptoRow, standIns := [], harness := (true, "94609817ddaeb51b7c40b51637744c1e7efa9db5cbc2ba4d1e9ad8af8a64208d"), looks := false }, kinds := [], alts := [], laidByText := true, laidKinds := [.data, .pinned], laidTests := true, laidLooks := .later }
def IdentRowsUptoCardSaid : Prop := Claim7.holds Tryd.pinned (.plain (OpenSpec.upto identRowsSpec)) identRowsUptoCard

/-- THE SECOND FORM's CARD OF 'ferrulelaw02.IdentGood'. -/
def identGoodUptoCard : Claim7 := { stood := { row := identGoodUptoRow, standIns := [], harness := (true, "94609817ddaeb51b7c40b51637744c1e7efa9db5cbc2ba4d1e9ad8af8a64208d"), looks := false }, kinds := [], alts := [], laidByText := true, laidKinds := [.data, .pinned], laidTests := true, laidLooks := .later }
def IdentGoodUptoCardSaid : Prop := Claim7.holds Tryd.pinned (.plain (OpenSpec.upto identGoodSpec)) identGoodUptoCard

/-- THE SECOND FORM's CARD OF 'ferrulelaw02.IdentOrders'. -/
def identOrdersUptoCard : Claim7 := { stood := { row := identOrdersUptoRow, standIns := [], harness := (true, "94609817ddaeb51b7c40b51637744c1e7efa9db5cbc2ba4d1e9ad8af8a64208d"), looks := false }, kinds := [], alts := [], laidByText := true, laidKinds := [.data, .pinned], laidTests := true, laidLooks := .later }
def IdentOrdersUptoCardSaid : Prop := Claim7.holds Tryd.pinned (.plain (OpenSpec.upto identOrdersSpec)) identOrdersUptoCard

/-- THE SECOND FORM's CARD OF 'ferrulelaw02.IdentLonger'. -/
def identLongerUptoCard : Claim7 := { stood := { row := identLongerUptoRow, standIns := [], harness := (true, "94609817ddaeb51b7c40b51637744c1e7efa9db5cbc2ba4d1e9ad8af8a64208d"), looks := false }, kinds := [], alts := [], laidByText := true, laidKinds := [.data, .pinned], laidTests := true, laidLooks := .later }
def IdentLongerUptoCardSaid : Prop := Claim7.holds Tryd.pinned (.plain (OpenSpec.upto identLongerSpec)) identLongerUptoCard
end Rows
end Go.Proofs.YtnnmhamiegekpaaDoor
