/-
  The law's walk and what package name is asked to answer, together. No condition of its own.
-/
import Derived.Test.YtpgfolfhfhfdhaaNaAll
import Derived.Test.YtpgfolfhfhfdhaaNaMostWalk
namespace Go.Proofs.Ytpgfolfhfhfdhaa.Name
open Go.RowKit
theorem nameMost_any (u : Int) (w : World) (hu : (Lit.int .u16 u).wf = true) :
    Calls Try.prog 5 #[.int .u16 u] w fun e w' => e = .returned (.bool true) ∧ Below w.heap.size w w' := by
  have h0 : IntKind.min .u16 = 0 := by decide
  have h1 : IntKind.max .u16 = 65535 := by decide
  simp only [Lit.wf, Bool.and_eq_true, decide_eq_true_eq, h0, h1] at hu
  exact nameMost_of says u w hu.1 hu.2
end Go.Proofs.Ytpgfolfhfhfdhaa.Name
