/- The developers' Encode. -/
import Derived.Test.YtnffaekbldcphaaPgGrow
import Derived.Test.YtnffaekbldcphaaPgRefE
import Derived.Test.YtnffaekbldcphaaPut
import Derived.Test.YtnffaekbldcphaaFnv
namespace Go.Proofs.Ytnffaekbldcphaa
open Go.RowKit Go.Shelf
set_option linter.unusedVariables false
attribute [-go_sem] loadVar storeVar
theorem putL_one {n : Int} (h0 : 0 ≤ n) (h1 : n < 256) : putL n 1 = [n] := by
  show [_] = _
  simp
  omega

end Go.Proofs.Ytnffaekbldcphaa
