/- The reader of the package le: what its methods come to. -/
import Derived.RangeFuncBox
import Derived.Test.YtnffaekbldcphaaGet
import Derived.Test.YtnffaekbldcphaaPut
namespace Go.Proofs.Ytnffaekbldcphaa
open Go.RowKit Go.Shelf
set_option linter.unusedVariables false

end Go.Proofs.Ytnffaekbldcphaa
