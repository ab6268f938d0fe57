/-
  No cell of these rows narrows 'for every input' (looked for: loops, veiled, ifaces, maps, wideKeys, modest, calm, conditions, laid).
  DERIVED. THE GIVEN ROWS OF THIS SEAT. 4 by the template 'for every input the law returns true; each argument reads behind the call as it read before'; 0 by the template 'total and deterministic' (their statements: YtpgfolfhfhfdhaaTotals.lean).
  GIVEN WITH THE SEED: the statements are not yours to turn. If you find one false, say at which input.
  Laid BY PROGRAM, IN A SANDBOX (cutbox-rows.mjs): the forced cells as the released guide's own fill.sh prints them over the translation 4a54db700cde94d5… (all of the seat's roots in one cut). By AI agents, Wed Nov 11 2026. No macro, syntax, notation, axiom, sorry.
-/
import Derived.Test.YtpgfolfhfhfdhaaChecked
import GoSem.Claim
import GoSem.ClaimJoined
import GoSem.ClaimMapViews
import Derived.JoinedTies
import Derived.KernelRfl
namespace Go.Proofs.Ytpgfolfhfhfdhaa
/- THE CELL 'sum', in the pinned program and in every row, IS THE sha256 OF THE DUMP (.gsa) THAT YtpgfolfhfhfdhaaProg.lean LOADS. Nothing in Lean hashes anything: it is a label: what it is worth is what the hold of that sum in a sandbox is worth. -/
noncomputable def Try.pinned : Pinned := { name := "ytpgfolfhfhfdhaa", sum := "4a54db700cde94d51fa5c28a0609cc61840ff944f6d17c7ddededafcf3730b66", checked := Try.checked }
namespace Rows
def none {H : Type} : Left H := { results := [], args := [] }

/-- 'ferrulelaw08.NameScans': WHATEVER THE INPUT: true; the input reads as it did. -/
def nameScansSpec : ChangeSpec := { name := "nameScans", fn := fun _ => fun
  | [d1, d2] => { results := [.lit (.bool true)], args := [d1, d2] }
  | _ => none }
def nameScansRow : OpenClaim := { program := "ytpgfolfhfhfdhaa", sum := "4a54db700cde94d51fa5c28a0609cc61840ff944f6d17c7ddededafcf3730b66", func := "ferrule/ferrulelaw08.NameScans", spec := "nameScans", inPlace := ["internal/bytealg.abigen_runtime_cmpstring"], unfollowed := true, recurses := true, apart := false }
def NameScansSaid : Prop := nameScansRow.holds Try.pinned (OpenSpec.ofChange nameScansSpec)

/-- ITS FALSE NEIGHBOUR: 'it returns false'. Refute it at one input. -/
def nameScansWrong : ChangeSpec := { name := "nameScans", fn := fun _ => fun
  | [d1, d2] => { results := [.lit (.bool false)], args := [d1, d2] }
  | _ => none }
def NameScansWrongFalsely : Prop := nameScansRow.holds Try.pinned (OpenSpec.ofChange nameScansWrong)

/-- 'ferrulelaw08.NameTables': WHATEVER THE INPUT: true; the input reads as it did. -/
def nameTablesSpec : ChangeSpec := { name := "nameTables", fn := fun _ => fun
  | [d1, d2] => { results := [.lit (.bool true)], args := [d1, d2] }
  | _ => none }
def nameTablesRow : OpenClaim := { program := "ytpgfolfhfhfdhaa", sum := "4a54db700cde94d51fa5c28a0609cc61840ff944f6d17c7ddededafcf3730b66", func := "ferrule/ferrulelaw08.NameTables", spec := "nameTables", inPlace := ["internal/bytealg.abigen_runtime_cmpstring"], unfollowed := true, recurses := true, apart := false }
def NameTablesSaid : Prop := nameTablesRow.holds Try.pinned (OpenSpec.ofChange nameTablesSpec)

/-- ITS FALSE NEIGHBOUR: 'it returns false'. Refute it at one input. -/
def nameTablesWrong : ChangeSpec := { name := "nameTables", fn := fun _ => fun
  | [d1, d2] => { results := [.lit (.bool false)], args := [d1, d2] }
  | _ => none }
def NameTablesWrongFalsely : Prop := nameTablesRow.holds Try.pinned (OpenSpec.ofChange nameTablesWrong)

/-- 'ferrulelaw08.NameMost': WHATEVER THE INPUT: true; the input reads as it did. -/
def nameMostSpec : ChangeSpec := { name := "nameMost", fn := fun _ => fun
  | [d] => { results := [.lit (.bool true)], args := [d] }
  | _ => none }
def nameMostRow : OpenClaim := { program := "ytpgfolfhfhfdhaa", sum := "4a54db700cde94d51fa5c28a0609cc61840ff944f6d17c7ddededafcf3730b66", func := "ferrule/ferrulelaw08.NameMost", spec := "nameMost", inPlace := ["internal/bytealg.abigen_runtime_cmpstring"], unfollowed := true, recurses := true, apart := false }
def NameMostSaid : Prop := nameMostRow.holds Try.pinned (OpenSpec.ofChange nameMostSpec)

/-- ITS FALSE NEIGHBOUR: 'it returns false'. Refute it at one input. -/
def nameMostWrong : ChangeSpec := { name := "nameMost", fn := fun _ => fun
  | [d] => { results := [.lit (.bool false)], args := [d] }
  | _ => none }
def NameMostWrongFalsely : Prop := nameMostRow.holds Try.pinned (OpenSpec.ofChange nameMostWrong)

/-- 'ferrulelaw08.NameCuts': WHATEVER THE INPUT: true; the input reads as it did. -/
def nameCutsSpec : ChangeSpec := { name := "nameCuts", fn := fun _ => fun
  | [d1, d2, d3] => { results := [.lit (.bool true)], args := [d1, d2, d3] }
  | _ => none }
def nameCutsRow : OpenClaim := { program := "ytpgfolfhfhfdhaa", sum := "4a54db700cde94d51fa5c28a0609cc61840ff944f6d17c7ddededafcf3730b66", func := "ferrule/ferrulelaw08.NameCuts", spec := "nameCuts", inPlace := ["internal/bytealg.abigen_runtime_cmpstring"], unfollowed := true, recurses := true, apart := false }
def NameCutsSaid : Prop := nameCutsRow.holds Try.pinned (OpenSpec.ofChange nameCutsSpec)

/-- ITS FALSE NEIGHBOUR: 'it returns false'. Refute it at one input. -/
def nameCutsWrong : ChangeSpec := { name := "nameCuts", fn := fun _ => fun
  | [d1, d2, d3] => { results := [.lit (.bool false)], args := [d1, d2, d3] }
  | _ => none }
def NameCutsWrongFalsely : Prop := nameCutsRow.holds Try.pinned (OpenSpec.ofChange nameCutsWrong)

/- THE SECOND FORM. 'bulk': how many values and letters a reading holds, each counted each time it is reached (what is shared counts as often as it is met; a slice's spare places count too). A statement '..UptoSaid' is the law's where the arguments, and the package variables that the reading takes, are together of bulk at most 1048576: NARROWER than '..Said'. Prove '..Said' where nothing that the law and all that it calls make is longer than what came in: it says more and counts as full. Else prove '..UptoSaid'. A law counts once. -/
mutual
def uptoBulk {H : Type} : DataW H → Nat
  | .lit (.string bytes) => bytes.length + 1
  | .lit _ => 1
  | .nil => 1
  | .ptr d => uptoBulk d + 1
  | .slice elems spare => uptoBulkAll elems + uptoBulkAll spare + 1
  | .agg parts => uptoBulkAll parts + 1
  | .iface _ d => uptoBulk d + 1
  | .map entries => uptoBulkEntries entries + 1
  | .held _ => 1
def uptoBulkAll {H : Type} : List (DataW H) → Nat
  | [] => 0
  | d :: r => uptoBulk d + uptoBulkAll r
def uptoBulkEntries {H : Type} : List (Lit × DataW H) → Nat
  | [] => 0
  | x :: r => uptoBulkEntry x + uptoBulkEntries r
def uptoBulkEntry {H : Type} : Lit × DataW H → Nat
  | (.string bytes, d) => bytes.length + uptoBulk d + 1
  | (_, d) => uptoBulk d + 1
 end
def uptoSmall : (H : Type) → List (DataW H) → Bool := fun _ ds => decide (uptoBulkAll ds ≤ 1048576)
def OpenSpec.upto (s : _root_.Go.ChangeSpec) : _root_.Go.OpenSpec := { _root_.Go.OpenSpec.ofChange s with cond := some uptoSmall }

/-- 'ferrulelaw08.NameScans', WHERE WHAT IT READS IS OF BULK AT MOST 1048576: true; the input reads as it did. -/
def nameScansUptoRow : OpenClaim := { program := "ytpgfolfhfhfdhaa", sum := "4a54db700cde94d51fa5c28a0609cc61840ff944f6d17c7ddededafcf3730b66", func := "ferrule/ferrulelaw08.NameScans", spec := "nameScans", inPlace := ["internal/bytealg.abigen_runtime_cmpstring"], unfollowed := true, recurses := true, apart := false, narrowed := true }
def NameScansUptoSaid : Prop := nameScansUptoRow.holds Try.pinned (OpenSpec.upto nameScansSpec)

/-- 'ferrulelaw08.NameTables', WHERE WHAT IT READS IS OF BULK AT MOST 1048576: true; the input reads as it did. -/
def nameTablesUptoRow : OpenClaim := { program := "ytpgfolfhfhfdhaa", sum := "4a54db700cde94d51fa5c28a0609cc61840ff944f6d17c7ddededafcf3730b66", func := "ferrule/ferrulelaw08.NameTables", spec := "nameTables", inPlace := ["internal/bytealg.abigen_runtime_cmpstring"], unfollowed := true, recurses := true, apart := false, narrowed := true }
def NameTablesUptoSaid : Prop := nameTablesUptoRow.holds Try.pinned (OpenSpec.upto nameTablesSpec)

/-- 'ferrulelaw08.NameMost', WHERE WHAT IT READS IS OF BULK AT MOST 1048576: true; the input reads as it did. -/
def nameMostUptoRow : OpenClaim := { program := "ytpgfolfhfhfdhaa", sum := "4a54db700cde94d51fa5c28a0609cc61840ff944f6d17c7ddededafcf3730b66", func := "ferrule/ferrulelaw08.NameMost", spec := "nameMost", inPlace := ["internal/bytealg.abigen_runtime_cmpstring"], unfollowed := true, recurses := true, apart := false, narrowed := true }
def NameMostUptoSaid : Prop := nameMostUptoRow.holds Try.pinned (OpenSpec.upto nameMostSpec)

/-- 'ferrulelaw08.NameCuts', WHERE WHAT IT READS IS OF BULK AT MOST 1048576: true; the input reads as it did. -/
def nameCutsUptoRow : OpenClaim := { program := "ytpgfolfhfhfdhaa", sum := "4a54db700cde94d51fa5c28a0609cc61840ff944f6d17c7ddededafcf3730b66", func := "ferrule/ferrulelaw08.NameCuts", spec := "nameCuts", inPlace := ["internal/bytealg.abigen_runtime_cmpstring"], unfollowed := true, recurses := true, apart := false, narrowed := true }
def NameCutsUptoSaid : Prop := nameCutsUptoRow.holds Try.pinned (OpenSpec.upto nameCutsSpec)

end Rows
end Go.Proofs.Ytpgfolfhfhfdhaa
