/- Read, Write, New. -/
import Derived.Test.YtlpmikbplngmnaaDsk
namespace Go.Proofs.Ytlpmikbplngmnaa
open Go.RowKit
set_option linter.unusedVariables false
attribute [-go_sem] loadVar storeVar
end Go.Proofs.Ytlpmikbplngmnaa
