/-
  The law's walk and what package name is asked to answer, together. No condition of its own.
-/
import Derived.Test.YtpgfolfhfhfdhaaNaAll
import Derived.Test.YtpgfolfhfhfdhaaNaCutsWalk
namespace Go.Proofs.Ytpgfolfhfhfdhaa.Name
open Go.RowKit
theorem nameCuts_any (s : ByteArray) (n x : Int) (w : World) (hs : s.size ≤ maxLen) (hn : (Lit.int .u8 n).wf = true) (hx : (Lit.int .u8 x).wf = true) :
    Calls Try.prog 6 #[.string s, .int .u8 n, .int .u8 x] w fun e w' => e = .returned (.bool true) ∧ Below w.heap.size w w' := by
  have h0 : IntKind.min .u8 = 0 := by decide
  have h1 : IntKind.max .u8 = 255 := by decide
  simp only [Lit.wf, Bool.and_eq_true, decide_eq_true_eq, h0, h1] at hn hx
  exact nameCuts_of says s n x w hs hn.1 hn.2 hx.1 hx.2
end Go.Proofs.Ytpgfolfhfhfdhaa.Name
