/- Slices of integers among the arguments; small arrays. -/
import Derived.Test.YtajamblkjmafmaaArgs
import Derived.Test.YtajamblkjmafmaaMath
namespace Go.Proofs.Ytajamblkjmafmaa
open Go.ChangeShapes Go.WideShapes Go.ChangeAt Go.RowKit
set_option linter.unusedVariables false

set_option maxRecDepth 100000 in
theorem sl_of_cells {k : IntKind} {W : World} {e : TypeId} {a : Option Addr} {len cap : Nat} (he : Try.prog.underlying e = some (.int k)) (hc : Try.prog.cellsOf e = 1)
    (h : (a = none ∧ len = 0 ∧ cap = 0) ∨ ∃ x, a = some x ∧ len ≤ cap ∧ cap ≤ maxLen ∧ ∀ i, i < cap → ∃ es, W.cells? 0 (x.add (i * Try.prog.cellsOf e)) (Try.prog.cellsOf e) = some es ∧ Cells W e es) :
    ∃ xs : List Int, xs.length = len ∧ len ≤ maxLen ∧ Sl k W (.slice a len cap) xs ∧ ∀ n ∈ xs, (Lit.int k n).wf = true := by
  rcases h with ⟨rfl, rfl, rfl⟩ | ⟨x, rfl, h1, h2, h3⟩
  · exact ⟨[], rfl, Nat.zero_le _, Sl.nil _ _, fun n hn => by cases hn⟩
  · rw [hc] at h3
    have h4 : ∀ i, i < cap → ∃ n, W.cell? (x.add i) = some (.int k n) ∧ (Lit.int k n).wf = true := by
      intro i hi
      obtain ⟨es, g1, g2⟩ := h3 i hi
      rw [Nat.mul_one] at g1
      obtain ⟨v, rfl, hv⟩ := cells_one g1
      obtain ⟨n, e1, wn⟩ := g2.int he
      simp at e1
      subst e1
      exact ⟨n, hv, wn⟩
    have h5 : ∀ i, ∃ n, i < cap → W.cell? (x.add i) = some (.int k n) ∧ (Lit.int k n).wf = true := fun i => by
      by_cases hi : i < cap
      · obtain ⟨n, hn⟩ := h4 i hi; exact ⟨n, fun _ => hn⟩
      · exact ⟨0, fun h => absurd h hi⟩
    obtain ⟨f, hf⟩ := Classical.axiomOfChoice h5
    refine ⟨(List.range len).map f, by simp, by omega, ?_, ?_⟩
    · refine ⟨some x, cap, by simp, by simp; omega, h2, ?_, fun e => by cases e⟩
      by_cases h0 : len = 0
      · subst h0; exact .inl rfl
      · obtain ⟨hc0, _⟩ := hf 0 (by omega)
        have e0 : x.add 0 = x := by simp [Addr.add]
        rw [e0] at hc0
        obtain ⟨b, off, rfl, hb⟩ := cell_plain hc0
        refine .inr ⟨b, off, rfl, hb, fun j hj => ?_⟩
        simp at hj
        have := (hf j (by omega)).1
        rw [add_plain] at this
        rw [this]
        simp [hj]
    · intro n hn
      obtain ⟨i, hi, rfl⟩ := List.mem_map.1 hn
      exact (hf i (by have := List.mem_range.1 hi; omega)).2

section
variable {W : World} {t e : TypeId} {v : Value} {k : IntKind}
set_option maxRecDepth 100000 in
theorem Arg.sl (h : Arg W t v) (hu : Try.prog.underlying t = some (.slice e)) (he : Try.prog.underlying e = some (.int k)) (hc : Try.prog.cellsOf e = 1) :
    ∃ a len cap, ∃ xs : List Int, v = .slice a len cap ∧ xs.length = len ∧ len ≤ maxLen ∧ Sl k W (.slice a len cap) xs ∧ ∀ n ∈ xs, (Lit.int k n).wf = true := by
  obtain ⟨a, len, cap, rfl, r⟩ := h.slice hu
  obtain ⟨xs, r⟩ := sl_of_cells he hc r
  exact ⟨a, len, cap, xs, rfl, r⟩
set_option maxRecDepth 100000 in
theorem Cells.sl {cs : List Value} (h : Cells W t cs) (hu : Try.prog.underlying t = some (.slice e)) (he : Try.prog.underlying e = some (.int k)) (hc : Try.prog.cellsOf e = 1) :
    ∃ a len cap, ∃ xs : List Int, cs = [.slice a len cap] ∧ xs.length = len ∧ len ≤ maxLen ∧ Sl k W (.slice a len cap) xs ∧ ∀ n ∈ xs, (Lit.int k n).wf = true := by
  obtain ⟨a, len, cap, rfl, r⟩ := h.slice hu
  obtain ⟨xs, r⟩ := sl_of_cells he hc r
  exact ⟨a, len, cap, xs, rfl, r⟩
set_option maxRecDepth 100000 in
theorem Arg.bytes (h : Arg W t v) (hu : Try.prog.underlying t = some (.slice e)) (he : Try.prog.underlying e = some (.int .u8)) (hc : Try.prog.cellsOf e = 1) :
    ∃ a len cap, ∃ xs : List Int, v = .slice a len cap ∧ xs.length = len ∧ len ≤ maxLen ∧ Sl .u8 W (.slice a len cap) xs ∧ IsBytes xs := by
  obtain ⟨a, len, cap, xs, rfl, h1, h2, h3, h4⟩ := h.sl hu he hc
  exact ⟨a, len, cap, xs, rfl, h1, h2, h3, fun j => by have := range_u8 h4 j; omega⟩
set_option maxRecDepth 100000 in
theorem Cells.bytes {cs : List Value} (h : Cells W t cs) (hu : Try.prog.underlying t = some (.slice e)) (he : Try.prog.underlying e = some (.int .u8)) (hc : Try.prog.cellsOf e = 1) :
    ∃ a len cap, ∃ xs : List Int, cs = [.slice a len cap] ∧ xs.length = len ∧ len ≤ maxLen ∧ Sl .u8 W (.slice a len cap) xs ∧ IsBytes xs := by
  obtain ⟨a, len, cap, xs, rfl, h1, h2, h3, h4⟩ := h.sl hu he hc
  exact ⟨a, len, cap, xs, rfl, h1, h2, h3, fun j => by have := range_u8 h4 j; omega⟩
set_option maxRecDepth 100000 in
/-- An array of two integers. -/
theorem Arg.two (h : Arg W t v) (hu : Try.prog.underlying t = some (.array 2 e)) (he : Try.prog.underlying e = some (.int k)) (hc : Try.prog.cellsOf e = 1) (hs : Try.prog.cellsOf t = 2) :
    ∃ a b, v = .agg #[.int k a, .int k b] ∧ (Lit.int k a).wf = true ∧ (Lit.int k b).wf = true := by
  obtain ⟨cs, rfl, hl, hcs⟩ := h.agg (.inr ⟨_, _, hu⟩)
  obtain ⟨_, hj⟩ := hcs.array hu
  rw [hs] at hl
  rw [hc] at hj
  match cs, hl with
  | [x, y], _ =>
    obtain ⟨a, e1, wa⟩ := (hj 0 (by omega)).int he
    obtain ⟨b, e2, wb⟩ := (hj 1 (by omega)).int he
    simp at e1 e2
    subst e1 e2
    exact ⟨a, b, rfl, wa, wb⟩
end
end Go.Proofs.Ytajamblkjmafmaa
