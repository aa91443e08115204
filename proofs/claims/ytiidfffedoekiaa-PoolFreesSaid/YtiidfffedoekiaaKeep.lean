/- The helper of the statements that holds two rows of bytes against each other. -/
import Derived.Test.YtiidfffedoekiaaBytes
namespace Go.Proofs.Ytiidfffedoekiaa
open Go.RowKit Go.Shelf
set_option linter.unusedVariables false

set_option maxRecDepth 100000 in
set_option maxHeartbeats 1000000 in
/-- **Bytes**: two rows of the same bytes are alike. -/
theorem bytes_yes (va vb : Value) (xs : List Int) (w : World) (ha : Sl .u8 w va xs) (hb : Sl .u8 w vb xs) :
    Calls Try.prog 35 #[va, vb] w fun e w' => e = .returned (.bool true) ∧ w' = w := by
  have k1 := conv_sl ha
  have k2 := conv_sl hb
  clear ha hb
  go_enter Try.func35, Try.ntmps35
  go_wp2
  go_ret
  exact ⟨rfl, rfl⟩

end Go.Proofs.Ytiidfffedoekiaa
