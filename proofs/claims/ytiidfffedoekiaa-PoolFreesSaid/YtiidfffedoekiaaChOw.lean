/- The document's own; the helpers Copy and Snaps. -/
import Derived.Test.YtiidfffedoekiaaChSt
import Derived.Test.YtiidfffedoekiaaChFn
import Derived.Test.YtiidfffedoekiaaTbRf2
import Derived.Test.YtiidfffedoekiaaKeep
namespace Go.Proofs.Ytiidfffedoekiaa
open Go.RowKit Go.Shelf
set_option linter.unusedVariables false
set_option linter.unusedSimpArgs false
attribute [-simp] Try.isAgg39 Try.zeroValue39 Try.isAgg42 Try.zeroValue42
attribute [-go_sem] loadVar storeVar
attribute [local go_sem] loadVar_openPS storeVar_openPS zero_sn build_sn build_sn2

set_option maxRecDepth 100000 in
theorem slice_u80 (w : World) : (Instr.buildSlice 31 0 #[]).run Try.prog w = .ok (.slice (some ⟨w.heap.size, 0, none⟩) 0 0) (w.alloc (.cells #[] 5)) := by kernel_rfl
theorem own_u80 (N : Nat) (w : World) (hN : N ≤ w.heap.size) : (w.alloc (.cells #[] 5)).ownsRow N 5 1 (.slice (some ⟨w.heap.size, 0, none⟩) 0 0) ([] : List Int).length (([] : List Int).map (Value.int .u8)) := World.ownsRow_lit w #[] 0 hN (by simp [maxLen]) rfl
end Go.Proofs.Ytiidfffedoekiaa
