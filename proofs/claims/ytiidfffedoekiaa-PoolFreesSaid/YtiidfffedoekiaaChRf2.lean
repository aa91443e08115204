/- The helper that holds snapshots against each other; the document's Drop. -/
import Derived.Test.YtiidfffedoekiaaChCy
import Derived.Test.YtiidfffedoekiaaChDr
import Derived.Test.YtiidfffedoekiaaTbRf1
import Derived.Test.YtiidfffedoekiaaTbRf3
import Derived.Test.YtiidfffedoekiaaBiRef
namespace Go.Proofs.Ytiidfffedoekiaa
open Go.RowKit Go.Shelf
set_option linter.unusedVariables false
set_option linter.unusedSimpArgs false
attribute [-simp] Try.isAgg39 Try.zeroValue39 Try.isAgg42 Try.zeroValue42
attribute [-go_sem] loadVar storeVar
attribute [local go_sem] loadVar_openPS storeVar_openPS zero_sn build_sn build_sn2

end Go.Proofs.Ytiidfffedoekiaa
