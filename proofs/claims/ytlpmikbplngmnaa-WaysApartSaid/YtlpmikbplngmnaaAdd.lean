/- A version is added. -/
import Derived.Test.YtlpmikbplngmnaaStep
import Derived.Test.YtlpmikbplngmnaaBlkSl
namespace Go.Proofs.Ytlpmikbplngmnaa
open Go.RowKit
set_option linter.unusedVariables false
attribute [-go_sem] loadVar storeVar
/-- What the statement reads: the versions' slice, and the block that was handed in. -/
def AddC (sb o B : Nat) (v : Value) (b : List Value) : Type := {x : World // x.cell? ⟨sb, o + 64, none⟩ = some v ∧ x.rangeAt B 0 b}

end Go.Proofs.Ytlpmikbplngmnaa
