/- A geometry that comes in. -/
import Derived.Test.YtnffaekbldcphaaGmSl
import Derived.Test.YtnffaekbldcphaaArgSl
namespace Go.Proofs.Ytnffaekbldcphaa
open Go.ChangeShapes Go.WideShapes Go.ChangeAt Go.RowKit
set_option linter.unusedVariables false

set_option maxRecDepth 100000 in
theorem under_geo : ∃ fs, Try.prog.underlying 23 = some (.struct fs) ∧ (fs[0]?).map (fun f => (f.offset, f.type)) = some (0, 3) ∧ (fs[1]?).map (fun f => (f.offset, f.type)) = some (1, 3) ∧ (fs[2]?).map (fun f => (f.offset, f.type)) = some (2, 3) ∧ (fs[3]?).map (fun f => (f.offset, f.type)) = some (3, 3) ∧ (fs[4]?).map (fun f => (f.offset, f.type)) = some (4, 3) :=
  ⟨_, Try.underlying23, rfl, rfl, rfl, rfl, rfl⟩
set_option maxRecDepth 100000 in
theorem geo_of_cells {W : World} {cs : List Value} (h : Cells W 23 cs) : ∃ g : Geo, g.In ∧ cs = g.cs := by
  obtain ⟨fs, hu, f0, f1, f2, f3, f4⟩ := under_geo
  obtain ⟨hl, hf⟩ := h.struct hu
  rw [show Try.prog.cellsOf 23 = 5 from by kernel_rfl] at hl
  have field : ∀ (j o : Nat) t, (fs[j]?).map (fun f => (f.offset, f.type)) = some (o, t) → Cells W t ((cs.drop o).take (Try.prog.cellsOf t)) := by
    intro j o t hj
    obtain ⟨f, hf1, hf2⟩ := Option.map_eq_some_iff.1 hj
    cases hf2
    exact hf j f hf1
  obtain ⟨x0, x1, x2, x3, x4, rfl⟩ : ∃ x0 x1 x2 x3 x4, cs = [x0, x1, x2, x3, x4] := by
    match cs, hl with
    | [x0, x1, x2, x3, x4], _ => exact ⟨x0, x1, x2, x3, x4, rfl⟩
  have g0 := field 0 0 _ f0
  have g1 := field 1 1 _ f1
  have g2 := field 2 2 _ f2
  have g3 := field 3 3 _ f3
  have g4 := field 4 4 _ f4
  rw [show Try.prog.cellsOf 3 = 1 from by kernel_rfl] at g0 g1 g2 g3 g4
  obtain ⟨n0, e0, w0⟩ := g0.int Try.underlying3
  obtain ⟨n1, e1, w1⟩ := g1.int Try.underlying3
  obtain ⟨n2, e2, w2⟩ := g2.int Try.underlying3
  obtain ⟨n3, e3, w3⟩ := g3.int Try.underlying3
  obtain ⟨n4, e4, w4⟩ := g4.int Try.underlying3
  simp at e0 e1 e2 e3 e4
  subst e0 e1 e2 e3 e4
  refine ⟨⟨n0, n1, n2, n3, n4⟩, ?_, rfl⟩
  intro n hn
  simp only [List.mem_cons, List.mem_nil_iff, or_false] at hn
  rcases hn with rfl | rfl | rfl | rfl | rfl
  · exact bounds_i64 w0
  · exact bounds_i64 w1
  · exact bounds_i64 w2
  · exact bounds_i64 w3
  · exact bounds_i64 w4
theorem Arg.geo {W : World} {v : Value} (h : Arg W 23 v) : ∃ g : Geo, g.In ∧ v = .agg g.v := by
  obtain ⟨fs, hu, _⟩ := under_geo
  obtain ⟨cs, rfl, _, hc⟩ := h.agg (.inl ⟨fs, hu⟩)
  obtain ⟨g, hg, rfl⟩ := geo_of_cells hc
  exact ⟨g, hg, rfl⟩
end Go.Proofs.Ytnffaekbldcphaa
