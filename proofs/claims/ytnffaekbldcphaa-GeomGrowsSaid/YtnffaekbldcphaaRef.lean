/- The helpers of the statements on le: two rows of bytes alike; the document's own answers. -/
import Derived.Test.YtnffaekbldcphaaGet
import Derived.Test.YtnffaekbldcphaaPut
import Derived.LoopTactic
namespace Go.Proofs.Ytnffaekbldcphaa
open Go.RowKit Go.Shelf
set_option linter.unusedVariables false

end Go.Proofs.Ytnffaekbldcphaa
