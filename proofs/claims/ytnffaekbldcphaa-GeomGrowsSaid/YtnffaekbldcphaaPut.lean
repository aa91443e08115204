/- The bytes of a number, as the package le writes them. -/
import Derived.RangeFuncBox
import Derived.Test.YtnffaekbldcphaaIter
import Derived.Test.YtnffaekbldcphaaBytes
import Derived.Lib.Hide
namespace Go.Proofs.Ytnffaekbldcphaa
open Go.RowKit Go.Shelf
set_option linter.unusedVariables false

attribute [local go_sem] Oper.semAt_some

end Go.Proofs.Ytnffaekbldcphaa
