/- The developers' Decode. -/
import Derived.Test.YtnffaekbldcphaaPgFld
import Derived.Test.YtnffaekbldcphaaPgEnc
import Derived.Test.YtnffaekbldcphaaPgRefD
namespace Go.Proofs.Ytnffaekbldcphaa
open Go.RowKit Go.Shelf
set_option linter.unusedVariables false
attribute [-go_sem] loadVar storeVar
end Go.Proofs.Ytnffaekbldcphaa
