/- The closed facts of a statement's row, by themselves: the kernel holds them alone. -/
import Derived.Test.YtbeeenembgplmaaGreatRows
import Derived.JoinedOf
import Derived.KernelRfl
namespace Go.Proofs.YtbeeenembgplmaaGreat
open Go
set_option maxRecDepth 100000
set_option maxRecDepth 100000 in
theorem metaPlaysFacts : joinedFacts Tryz.pinned.checked.prog 7 Tryz.f7 Rows.metaPlaysSpec Rows.metaPlaysRow = true := of_decide_eq_true (by kernel_rfl)
end Go.Proofs.YtbeeenembgplmaaGreat
