/-
  No cell of these rows narrows 'for every input' (looked for: loops, veiled, ifaces, maps, wideKeys, modest, calm, conditions, laid).
  DERIVED. THE GIVEN ROWS OF THIS SEAT. 2 by the template 'for every input the law returns true; each argument reads behind the call as it read before'; 0 by the template 'total and deterministic' (their statements: YtfimjmikmbkkgaaTotals.lean).
  GIVEN WITH THE SEED: the statements are not yours to turn. If you find one false, say at which input.
  Laid BY PROGRAM, IN A SANDBOX (cutbox-rows.mjs): the forced cells as the released guide's own fill.sh prints them over the translation b23f58f6f597fe0c… (all of the seat's roots in one cut). By AI agents, Wed Nov 11 2026. No macro, syntax, notation, axiom, sorry.
-/
import Derived.Test.YtfimjmikmbkkgaaChecked
import GoSem.Claim
import GoSem.ClaimJoined
import GoSem.ClaimMapViews
import Derived.JoinedTies
import Derived.KernelRfl
namespace Go.Proofs.Ytfimjmikmbkkgaa
/- THE CELL 'sum', in the pinned program and in every row, IS THE sha256 OF THE DUMP (.gsa) THAT YtfimjmikmbkkgaaProg.lean LOADS. Nothing in Lean hashes anything: it is a label: what it is worth is what the hold of that sum in a sandbox is worth. -/
noncomputable def Try.pinned : Pinned := { name := "ytfimjmikmbkkgaa", sum := "b23f58f6f597fe0c5056681fb60e8d335d118da60be312723063ddbab1b997fa", checked := Try.checked }
namespace Rows
def none {H : Type} : Left H := { results := [], args := [] }

/-- 'ferrulelaw03.SemverParses': WHATEVER THE INPUT: true; the input reads as it did. -/
def semverParsesSpec : ChangeSpec := { name := "semverParses", fn := fun _ => fun
  | [d1, d2] => { results := [.lit (.bool true)], args := [d1, d2] }
  | _ => none }
def semverParsesRow : OpenClaim := { program := "ytfimjmikmbkkgaa", sum := "b23f58f6f597fe0c5056681fb60e8d335d118da60be312723063ddbab1b997fa", func := "ferrule/ferrulelaw03.SemverParses", spec := "semverParses", apart := false }
def SemverParsesSaid : Prop := semverParsesRow.holds Try.pinned (OpenSpec.ofChange semverParsesSpec)

/-- ITS FALSE NEIGHBOUR: 'it returns false'. Refute it at one input. -/
def semverParsesWrong : ChangeSpec := { name := "semverParses", fn := fun _ => fun
  | [d1, d2] => { results := [.lit (.bool false)], args := [d1, d2] }
  | _ => none }
def SemverParsesWrongFalsely : Prop := semverParsesRow.holds Try.pinned (OpenSpec.ofChange semverParsesWrong)

/-- 'ferrulelaw03.SemverPlaces': WHATEVER THE INPUT: true; the input reads as it did. -/
def semverPlacesSpec : ChangeSpec := { name := "semverPlaces", fn := fun _ => fun
  | [d1, d2] => { results := [.lit (.bool true)], args := [d1, d2] }
  | _ => none }
def semverPlacesRow : OpenClaim := { program := "ytfimjmikmbkkgaa", sum := "b23f58f6f597fe0c5056681fb60e8d335d118da60be312723063ddbab1b997fa", func := "ferrule/ferrulelaw03.SemverPlaces", spec := "semverPlaces", apart := false }
def SemverPlacesSaid : Prop := semverPlacesRow.holds Try.pinned (OpenSpec.ofChange semverPlacesSpec)

/-- ITS FALSE NEIGHBOUR: 'it returns false'. Refute it at one input. -/
def semverPlacesWrong : ChangeSpec := { name := "semverPlaces", fn := fun _ => fun
  | [d1, d2] => { results := [.lit (.bool false)], args := [d1, d2] }
  | _ => none }
def SemverPlacesWrongFalsely : Prop := semverPlacesRow.holds Try.pinned (OpenSpec.ofChange semverPlacesWrong)

/- THE SECOND FORM. 'bulk': how many values and letters a reading holds, each counted each time it is reached (what is shared counts as often as it is met; a slice's spare places count too). A statement '..UptoSaid' is the law's where the arguments, and the package variables that the reading takes, are together of bulk at most 1048576: NARROWER than '..Said'. Prove '..Said' where nothing that the law and all that it calls make is longer than what came in: it says more and counts as full. Else prove '..UptoSaid'. A law counts once. -/
mutual
def uptoBulk {H : Type} : DataW H → Nat
  | .lit (.string bytes) => bytes.length + 1
  | .lit _ => 1
  | .nil => 1
  | .ptr d => uptoBulk d + 1
  | .slice elems spare => uptoBulkAll elems + uptoBulkAll spare + 1
  | .agg parts => uptoBulkAll parts + 1
  | .iface _ d => uptoBulk d + 1
  | .map entries => uptoBulkEntries entries + 1
  | .held _ => 1
def uptoBulkAll {H : Type} : List (DataW H) → Nat
  | [] => 0
  | d :: r => uptoBulk d + uptoBulkAll r
def uptoBulkEntries {H : Type} : List (Lit × DataW H) → Nat
  | [] => 0
  | x :: r => uptoBulkEntry x + uptoBulkEntries r
def uptoBulkEntry {H : Type} : Lit × DataW H → Nat
  | (.string bytes, d) => bytes.length + uptoBulk d + 1
  | (_, d) => uptoBulk d + 1
 end
def uptoSmall : (H : Type) → List (DataW H) → Bool := fun _ ds => decide (uptoBulkAll ds ≤ 1048576)
def OpenSpec.upto (s : _root_.Go.ChangeSpec) : _root_.Go.OpenSpec := { _root_.Go.OpenSpec.ofChange s with cond := some uptoSmall }

/-- 'ferrulelaw03.SemverParses', WHERE WHAT IT READS IS OF BULK AT MOST 1048576: true; the input reads as it did. -/
def semverParsesUptoRow : OpenClaim := { program := "ytfimjmikmbkkgaa", sum := "b23f58f6f597fe0c5056681fb60e8d335d118da60be312723063ddbab1b997fa", func := "ferrule/ferrulelaw03.SemverParses", spec := "semverParses", apart := false, narrowed := true }
def SemverParsesUptoSaid : Prop := semverParsesUptoRow.holds Try.pinned (OpenSpec.upto semverParsesSpec)

/-- 'ferrulelaw03.SemverPlaces', WHERE WHAT IT READS IS OF BULK AT MOST 1048576: true; the input reads as it did. -/
def semverPlacesUptoRow : OpenClaim := { program := "ytfimjmikmbkkgaa", sum := "b23f58f6f597fe0c5056681fb60e8d335d118da60be312723063ddbab1b997fa", func := "ferrule/ferrulelaw03.SemverPlaces", spec := "semverPlaces", apart := false, narrowed := true }
def SemverPlacesUptoSaid : Prop := semverPlacesUptoRow.holds Try.pinned (OpenSpec.upto semverPlacesSpec)

end Rows
end Go.Proofs.Ytfimjmikmbkkgaa
