/- The developers' fields: what stands in a block where a marked sector has its parts. -/
import Derived.Test.YtnffaekbldcphaaPgOk
import Derived.Test.YtnffaekbldcphaaRead
namespace Go.Proofs.Ytnffaekbldcphaa
open Go.RowKit Go.Shelf
set_option linter.unusedVariables false
attribute [-go_sem] loadVar storeVar
theorem getL_one {y : Int} : getL [y] = y := by
  show getN [y] 1 = y
  simp [getN]

end Go.Proofs.Ytnffaekbldcphaa
