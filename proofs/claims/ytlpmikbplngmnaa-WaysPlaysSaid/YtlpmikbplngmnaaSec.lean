/- A sector of the package disk in memory; what its methods come to. -/
import Derived.Test.YtlpmikbplngmnaaState
import Derived.Test.YtlpmikbplngmnaaOrd
namespace Go.Proofs.Ytlpmikbplngmnaa
open Go.RowKit
set_option linter.unusedVariables false
attribute [-go_sem] loadVar storeVar
end Go.Proofs.Ytlpmikbplngmnaa
