/- Marked sectors and blocks among the arguments. -/
import Derived.Test.YtnffaekbldcphaaArgSl
import Derived.Test.YtnffaekbldcphaaPgRow
namespace Go.Proofs.Ytnffaekbldcphaa
open Go.ChangeShapes Go.WideShapes Go.ChangeAt Go.RowKit
set_option linter.unusedVariables false

theorem wf_iff (k : IntKind) (n : Int) : (Lit.int k n).wf = true ↔ k.min ≤ n ∧ n ≤ k.max := by simp [Lit.wf]
section
variable {W : World} {t e : TypeId} {cs : List Value} {v : Value}
set_option maxRecDepth 100000 in
/-- An array of bytes. -/
theorem Cells.row {n : Nat} (h : Cells W t cs) (hu : Try.prog.underlying t = some (.array n e)) (he : Try.prog.underlying e = some (.int .u8)) (h1 : Try.prog.cellsOf e = 1) (hn : Try.prog.cellsOf t = n) :
    ∃ bs : List Int, bs.length = n ∧ IsBytes bs ∧ cs = u8s bs := by
  obtain ⟨hl, hf⟩ := h.array hu
  rw [hn] at hl
  rw [h1] at hf
  have hg : ∀ i, i < n → ∃ x : Int, cs[i]? = some (.int .u8 x) ∧ 0 ≤ x ∧ x < 256 := fun i hi => by
    obtain ⟨x, e1, wx⟩ := (hf i hi).int he
    rw [Nat.mul_one] at e1
    have e2 : cs[i]? = some (.int .u8 x) := by
      have := congrArg (·[0]?) e1
      simpa [List.getElem?_take, List.getElem?_drop] using this
    have := (wf_iff .u8 x).1 wx
    simp [IntKind.min, IntKind.max, IntKind.signed, IntKind.bits] at this
    exact ⟨x, e2, by omega, by omega⟩
  refine ⟨cs.map intOf, by simp [hl], fun j => ?_, ?_⟩
  · rw [List.getElem?_map]
    by_cases hj : j < n
    · obtain ⟨x, e2, w1, w2⟩ := hg j hj
      rw [e2]
      exact ⟨w1, w2⟩
    · rw [List.getElem?_eq_none (by omega)]
      exact ⟨by decide, by decide⟩
  · apply List.ext_getElem?
    intro i
    unfold u8s
    rw [List.map_map, List.getElem?_map]
    by_cases hi : i < n
    · obtain ⟨x, e2, w1, w2⟩ := hg i hi
      rw [e2]
      rfl
    · rw [List.getElem?_eq_none (by omega)]
      rfl
end
end Go.Proofs.Ytnffaekbldcphaa
