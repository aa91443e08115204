/- The developers' page keeps what is promised. -/
import Derived.Test.YtnffaekbldcphaaPgDec
import Derived.Test.YtnffaekbldcphaaPgCut
namespace Go.Proofs.Ytnffaekbldcphaa
open Go.RowKit
set_option linter.unusedVariables false
end Go.Proofs.Ytnffaekbldcphaa
