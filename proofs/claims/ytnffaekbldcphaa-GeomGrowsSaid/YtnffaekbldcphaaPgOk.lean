/- The developers' marked sectors in memory; what their page promises. -/
import Derived.Test.YtnffaekbldcphaaPgRefE
import Derived.Test.YtnffaekbldcphaaPgSec
import Derived.Test.YtnffaekbldcphaaPgBod
import Derived.Test.YtnffaekbldcphaaPgEq
namespace Go.Proofs.Ytnffaekbldcphaa
open Go.RowKit
set_option linter.unusedVariables false

theorem zcs_len : zcs.toArray.size = 51 := by simp [zcs, u8s]
end Go.Proofs.Ytnffaekbldcphaa
