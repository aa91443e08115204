/- The library's Grow and Concat at bytes. -/
import Derived.Lib.AppendZerosOnto
import Derived.Test.YtnffaekbldcphaaPgRow
import Derived.LoopTactic
namespace Go.Proofs.Ytnffaekbldcphaa
open Go.RowKit Go.Shelf
set_option linter.unusedVariables false

/-- A slice of slices of bytes. -/
def Sls (w : World) (v : Value) (bss : List (List Int)) : Prop :=
  ∃ B cap, v = .slice (some ⟨B, 0, none⟩) bss.length cap ∧ bss.length ≤ cap ∧ cap ≤ maxLen ∧ B < w.heap.size ∧ ∀ k, k < bss.length → ∃ u, w.cell? ⟨B, k, none⟩ = some u ∧ Sl .u8 w u (bss[k]?.getD [])
theorem take_snoc_nil (bss : List (List Int)) {k : Nat} (h : k < bss.length) : bss.take (k + 1) = bss.take k ++ [bss[k]?.getD []] := by
  rw [List.take_succ_eq_append_getElem h, List.getElem?_eq_getElem h]
  rfl
theorem flat_snocB (bss : List (List Int)) {k : Nat} (h : k < bss.length) : (bss.take (k + 1)).flatten = (bss.take k).flatten ++ bss[k]?.getD [] := by
  rw [take_snoc_nil bss h]; simp
theorem flat_le (bss : List (List Int)) (k : Nat) : (bss.take k).flatten.length ≤ bss.flatten.length := by
  conv => rhs; rw [← List.take_append_drop k bss]
  rw [List.flatten_append, List.length_append]
  omega

end Go.Proofs.Ytnffaekbldcphaa
