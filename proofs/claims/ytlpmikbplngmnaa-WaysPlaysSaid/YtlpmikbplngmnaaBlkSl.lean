/- Slices of blocks. -/
import Derived.Test.YtlpmikbplngmnaaBlk
import Derived.Test.YtlpmikbplngmnaaLaid
namespace Go.Proofs.Ytlpmikbplngmnaa
open Go.RowKit
set_option linter.unusedVariables false

end Go.Proofs.Ytlpmikbplngmnaa
