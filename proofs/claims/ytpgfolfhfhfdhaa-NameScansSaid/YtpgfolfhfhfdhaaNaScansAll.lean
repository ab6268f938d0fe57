/-
  The law's walk and what package name is asked to answer, together. No condition of its own.
-/
import Derived.Test.YtpgfolfhfhfdhaaNaAll
import Derived.Test.YtpgfolfhfhfdhaaNaScansWalk
namespace Go.Proofs.Ytpgfolfhfhfdhaa.Name
theorem nameScans_says : Says := says
end Go.Proofs.Ytpgfolfhfhfdhaa.Name
