/- The check of bytes, as the package fnv and the document reckon it. -/
import Derived.Test.YtnffaekbldcphaaValues
import Derived.Test.YtnffaekbldcphaaBytes
import Derived.Test.YtnffaekbldcphaaFnvMath
import Derived.LoopTactic
namespace Go.Proofs.Ytnffaekbldcphaa
open Go.RowKit Go.Shelf
set_option linter.unusedVariables false

attribute [local go_sem] Oper.semAt_some

theorem prefix_byte {pre bs : List Int} {x : Int} (hr : IsBytes bs) (h : pre ++ [x] <+: bs) : 0 ≤ x ∧ x < 256 := by
  obtain ⟨t, rfl⟩ := h
  simpa using hr pre.length

end Go.Proofs.Ytnffaekbldcphaa
