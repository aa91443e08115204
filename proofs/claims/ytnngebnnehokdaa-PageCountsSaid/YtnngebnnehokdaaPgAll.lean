/- The developers' page keeps what is promised. -/
import Derived.Test.YtnngebnnehokdaaPgDec
import Derived.Test.YtnngebnnehokdaaPgCut
namespace Go.Proofs.Ytnngebnnehokdaa
open Go.RowKit
set_option linter.unusedVariables false
theorem pageOk : PageOk where
  enc p hp w := pgEncode p hp w
  dec bs hb hl w := pgDecode bs hb hl w
  count n h0 h1 w := (pgCount n w h0 h1).mono fun e w' ⟨h, h'⟩ => ⟨h, h' ▸ Below.refl _ _⟩
  cut v bs w hv hl := pgCut v bs w hv hl
end Go.Proofs.Ytnngebnnehokdaa
