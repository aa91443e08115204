/- The document's own Encode. -/
import Derived.Test.YtnffaekbldcphaaPgRow
import Derived.Test.YtnffaekbldcphaaRef
import Derived.Test.YtnffaekbldcphaaFnv
namespace Go.Proofs.Ytnffaekbldcphaa
open Go.RowKit
set_option linter.unusedVariables false
attribute [-go_sem] loadVar storeVar
/-- The bytes that Encode answers. -/
def Sct.code (p : Sct) : List Value := if p.fits = true then u8s p.bytes else fillB 0
def Sct.codeE (p : Sct) : Int := if p.fits = true then 0 else 11

end Go.Proofs.Ytnffaekbldcphaa
