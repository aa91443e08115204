/- Marked sectors and blocks among the arguments. -/
import Derived.Test.YtnngebnnehokdaaArgSl
import Derived.Test.YtnngebnnehokdaaPgRow
namespace Go.Proofs.Ytnngebnnehokdaa
open Go.ChangeShapes Go.WideShapes Go.ChangeAt Go.RowKit
set_option linter.unusedVariables false

theorem wf_iff (k : IntKind) (n : Int) : (Lit.int k n).wf = true ↔ k.min ≤ n ∧ n ≤ k.max := by simp [Lit.wf]
section
variable {W : World} {t e : TypeId} {cs : List Value} {v : Value}
/-- An array of bytes. -/
theorem Cells.row {n : Nat} (h : Cells W t cs) (hu : Try.prog.underlying t = some (.array n e)) (he : Try.prog.underlying e = some (.int .u8)) (h1 : Try.prog.cellsOf e = 1) (hn : Try.prog.cellsOf t = n) :
    ∃ bs : List Int, bs.length = n ∧ IsBytes bs ∧ cs = u8s bs := by
  obtain ⟨hl, hf⟩ := h.array hu
  rw [hn] at hl
  rw [h1] at hf
  have hg : ∀ i, i < n → ∃ x : Int, cs[i]? = some (.int .u8 x) ∧ 0 ≤ x ∧ x < 256 := fun i hi => by
    obtain ⟨x, e1, wx⟩ := (hf i hi).int he
    rw [Nat.mul_one] at e1
    have e2 : cs[i]? = some (.int .u8 x) := by
      have := congrArg (·[0]?) e1
      simpa [List.getElem?_take, List.getElem?_drop] using this
    have := (wf_iff .u8 x).1 wx
    simp [IntKind.min, IntKind.max, IntKind.signed, IntKind.bits] at this
    exact ⟨x, e2, by omega, by omega⟩
  refine ⟨cs.map intOf, by simp [hl], fun j => ?_, ?_⟩
  · rw [List.getElem?_map]
    by_cases hj : j < n
    · obtain ⟨x, e2, w1, w2⟩ := hg j hj
      rw [e2]
      exact ⟨w1, w2⟩
    · rw [List.getElem?_eq_none (by omega)]
      exact ⟨by decide, by decide⟩
  · apply List.ext_getElem?
    intro i
    unfold u8s
    rw [List.map_map, List.getElem?_map]
    by_cases hi : i < n
    · obtain ⟨x, e2, w1, w2⟩ := hg i hi
      rw [e2]
      rfl
    · rw [List.getElem?_eq_none (by omega)]
      rfl
/-- A block. -/
theorem Arg.blk (h : Arg W 27 v) : ∃ bs : List Int, bs.length = 64 ∧ IsBytes bs ∧ v = .agg (u8s bs).toArray := by
  obtain ⟨cs, rfl, hl, hc⟩ := h.agg (.inr ⟨_, _, under_blk⟩)
  obtain ⟨bs, h1, h2, rfl⟩ := hc.row under_blk Try.underlying5 (by kernel_rfl) (by kernel_rfl)
  exact ⟨bs, h1, h2, rfl⟩
/-- A marked sector. -/
theorem Arg.sec (h : Arg W 25 v) : ∃ p : Sct, p.Ok ∧ (-9223372036854775808 ≤ p.index ∧ p.index ≤ 9223372036854775807) ∧ v = .agg p.cells.toArray := by
  obtain ⟨cs, rfl, hl, hc⟩ := h.agg (.inl ⟨_, Try.underlying25⟩)
  obtain ⟨-, hf⟩ := hc.struct Try.underlying25
  obtain ⟨m, e0, w0⟩ := (hf 0 _ rfl).int Try.underlying5
  obtain ⟨s, e1, w1⟩ := (hf 1 _ rfl).int Try.underlying22
  obtain ⟨i, e2, w2⟩ := (hf 2 _ rfl).int Try.underlying3
  obtain ⟨bs, h1, h2, e3⟩ := (hf 3 _ rfl).row Try.underlying23 Try.underlying5 (by kernel_rfl) (by kernel_rfl)
  have hs : Try.prog.cellsOf 25 = 51 := by kernel_rfl
  rw [hs] at hl
  have c0 : (cs.drop 0).take 1 = [.int .u8 m] := e0
  have c1 : (cs.drop 1).take 1 = [.int .u32 s] := e1
  have c2 : (cs.drop 2).take 1 = [.int .i64 i] := e2
  have c3 : (cs.drop 3).take 48 = u8s bs := e3
  have r0 := (wf_iff .u8 m).1 w0
  have r1 := (wf_iff .u32 s).1 w1
  have r2 := (wf_iff .i64 i).1 w2
  simp [IntKind.min, IntKind.max, IntKind.signed, IntKind.bits] at r0 r1 r2
  refine ⟨⟨m, s, i, bs⟩, ⟨?_, ?_, h1, h2⟩, ?_, ?_⟩
  · show 0 ≤ m ∧ m < 256; omega
  · show 0 ≤ s ∧ s < 4294967296; omega
  · show _ ≤ i ∧ i ≤ _; omega
  · have : cs = (cs.drop 0).take 1 ++ ((cs.drop 1).take 1 ++ ((cs.drop 2).take 1 ++ (cs.drop 3).take 48)) := by
      have a3 : (cs.drop 3).take 48 = cs.drop 3 := List.take_of_length_le (by rw [List.length_drop]; omega)
      have a2 : (cs.drop 2).take 1 ++ cs.drop 3 = cs.drop 2 := by have := List.take_append_drop 1 (cs.drop 2); rwa [List.drop_drop] at this
      have a1 : (cs.drop 1).take 1 ++ cs.drop 2 = cs.drop 1 := by have := List.take_append_drop 1 (cs.drop 1); rwa [List.drop_drop] at this
      have a0 : (cs.drop 0).take 1 ++ cs.drop 1 = cs.drop 0 := by have := List.take_append_drop 1 (cs.drop 0); rwa [List.drop_drop] at this
      rw [a3, a2, a1, a0, List.drop_zero]
    rw [this, c0, c1, c2, c3]
    rfl
end
end Go.Proofs.Ytnngebnnehokdaa
