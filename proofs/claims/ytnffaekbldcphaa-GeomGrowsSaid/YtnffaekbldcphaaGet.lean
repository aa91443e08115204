/- The number that bytes stand for, as the package le reads it. -/
import Derived.RangeFuncBox
import Derived.Test.YtnffaekbldcphaaIter
import Derived.Lib.Hide
import Derived.Test.YtnffaekbldcphaaRegion
namespace Go.Proofs.Ytnffaekbldcphaa
open Go.RowKit Go.Shelf
set_option linter.unusedVariables false

attribute [local go_sem] Oper.semAt_some

end Go.Proofs.Ytnffaekbldcphaa
