/- The closed facts of a statement's row, by themselves: the kernel holds them alone. -/
import Derived.Test.YtbeeenembgplmaaGreatRows
import Derived.JoinedOf
import Derived.KernelRfl
namespace Go.Proofs.YtbeeenembgplmaaGreat
open Go
set_option maxRecDepth 100000
set_option maxRecDepth 100000 in
theorem coreNoneFacts : joinedFacts Tryz.pinned.checked.prog 5 Tryz.f5 Rows.coreNoneSpec Rows.coreNoneRow = true := of_decide_eq_true (by kernel_rfl)
end Go.Proofs.YtbeeenembgplmaaGreat
