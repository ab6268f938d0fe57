/-
  The law's walk and what package name is asked to answer, together. No condition of its own.
-/
import Derived.Test.YtpgfolfhfhfdhaaNaAll
import Derived.Test.YtpgfolfhfhfdhaaNaTablesWalk
namespace Go.Proofs.Ytpgfolfhfhfdhaa.Name
theorem nameTables_says : Says := says
end Go.Proofs.Ytpgfolfhfhfdhaa.Name
