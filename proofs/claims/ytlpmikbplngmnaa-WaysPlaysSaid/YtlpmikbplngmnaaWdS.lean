/- The steps that come in, of the statements on maps. -/
import Derived.LoopTactic
import Derived.Test.YtlpmikbplngmnaaArgSl
import Derived.Test.YtlpmikbplngmnaaState
namespace Go.Proofs.Ytlpmikbplngmnaa
open Go.ChangeShapes Go.WideShapes Go.ChangeAt Go.RowKit
set_option linter.unusedVariables false

/-- A step. -/
structure Wt where
  kind : Int
  block : Int
  slot : Int
  dirty : Bool
/-- The step at a place. -/
structure WtAt (W : World) (b o : Nat) (s : Wt) : Prop where
  c0 : W.cell? ⟨b, o, none⟩ = some (.int .i64 s.kind)
  c1 : W.cell? ⟨b, o + 1, none⟩ = some (.int .i64 s.block)
  c2 : W.cell? ⟨b, o + 2, none⟩ = some (.int .i64 s.slot)
  c3 : W.cell? ⟨b, o + 3, none⟩ = some (.bool s.dirty)
structure Wt.Ok (s : Wt) : Prop where
  k0 : -9223372036854775808 ≤ s.kind
  k1 : s.kind ≤ 9223372036854775807
  b0 : -9223372036854775808 ≤ s.block
  b1 : s.block ≤ 9223372036854775807
  s0 : -9223372036854775808 ≤ s.slot
  s1 : s.slot ≤ 9223372036854775807
/-- Steps, one behind the other. -/
def Wts (W : World) (v : Value) (l : List Wt) : Prop := ∃ a cap, v = .slice a l.length cap ∧ l.length ≤ cap ∧ cap ≤ maxLen ∧ (∀ s ∈ l, s.Ok) ∧ (l = [] ∨ ∃ b off, a = some ⟨b, off, none⟩ ∧ b < W.heap.size ∧ ∀ j s, l[j]? = some s → WtAt W b (off + j * 4) s)
theorem WtAt.below {W W' : World} {b o : Nat} {s : Wt} (h : WtAt W b o s) (hb : b < W.heap.size) (hB : Below W.heap.size W W') : WtAt W' b o s :=
  ⟨(hB.cell (p := ⟨b, o, none⟩) hb).trans h.c0, (hB.cell (p := ⟨b, o + 1, none⟩) hb).trans h.c1, (hB.cell (p := ⟨b, o + 2, none⟩) hb).trans h.c2, (hB.cell (p := ⟨b, o + 3, none⟩) hb).trans h.c3⟩
theorem Wts.below {W W' : World} {v : Value} {l : List Wt} (h : Wts W v l) (hB : Below W.heap.size W W') : Wts W' v l := by
  obtain ⟨a, cap, rfl, h1, h2, h3, h4⟩ := h
  refine ⟨a, cap, rfl, h1, h2, h3, ?_⟩
  rcases h4 with h4 | ⟨b, off, rfl, h5, h6⟩
  · exact .inl h4
  · exact .inr ⟨b, off, rfl, Nat.lt_of_lt_of_le h5 hB.size, fun j s hj => (h6 j s hj).below h5 hB⟩
set_option maxRecDepth 100000 in
theorem under_wt : ∃ fs, Try.prog.underlying 33 = some (.struct fs) ∧ (fs[0]?).map (fun f => (f.offset, f.type)) = some (0, 3) ∧ (fs[1]?).map (fun f => (f.offset, f.type)) = some (1, 3) ∧ (fs[2]?).map (fun f => (f.offset, f.type)) = some (2, 3) ∧ (fs[3]?).map (fun f => (f.offset, f.type)) = some (3, 4) :=
  ⟨_, Try.underlying33, rfl, rfl, rfl, rfl⟩
def Wt.cells (s : Wt) : List Value := [.int .i64 s.kind, .int .i64 s.block, .int .i64 s.slot, .bool s.dirty]
set_option maxRecDepth 100000 in
/-- Four cells that read as a step. -/
theorem wt_of_cells {W : World} {cs : List Value} (h : Cells W 33 cs) : ∃ s : Wt, s.Ok ∧ cs = s.cells := by
  obtain ⟨fs, hu, f0, f1, f2, f3⟩ := under_wt
  obtain ⟨hl, hf⟩ := h.struct hu
  rw [show Try.prog.cellsOf 33 = 4 from by kernel_rfl] at hl
  have field : ∀ (j o : Nat) t, (fs[j]?).map (fun f => (f.offset, f.type)) = some (o, t) → Cells W t ((cs.drop o).take (Try.prog.cellsOf t)) := by
    intro j o t hj
    obtain ⟨f, hf1, hf2⟩ := Option.map_eq_some_iff.1 hj
    cases hf2
    exact hf j f hf1
  obtain ⟨x0, x1, x2, x3, rfl⟩ : ∃ x0 x1 x2 x3, cs = [x0, x1, x2, x3] := by
    match cs, hl with
    | [x0, x1, x2, x3], _ => exact ⟨x0, x1, x2, x3, rfl⟩
  have g0 := field 0 0 _ f0
  have g1 := field 1 1 _ f1
  have g2 := field 2 2 _ f2
  have g3 := field 3 3 _ f3
  rw [show Try.prog.cellsOf 3 = 1 from by kernel_rfl] at g0 g1 g2
  rw [show Try.prog.cellsOf 4 = 1 from by kernel_rfl] at g3
  obtain ⟨n0, e0, w0⟩ := g0.int Try.underlying3
  obtain ⟨n1, e1, w1⟩ := g1.int Try.underlying3
  obtain ⟨n2, e2, w2⟩ := g2.int Try.underlying3
  obtain ⟨d, e3⟩ := g3.bool Try.underlying4
  simp at e0 e1 e2 e3
  subst e0 e1 e2 e3
  have b0 := bounds_i64 w0
  have b1 := bounds_i64 w1
  have b2 := bounds_i64 w2
  exact ⟨⟨n0, n1, n2, d⟩, ⟨b0.1, b0.2, b1.1, b1.2, b2.1, b2.2⟩, rfl⟩
set_option maxRecDepth 100000 in
/-- Steps that came in. -/
theorem Arg.wts {W : World} {v : Value} (h : Arg W 23 v) : ∃ l, Wts W v l := by
  obtain ⟨a, len, cap, rfl, r⟩ := h.slice Try.underlying23
  rcases r with ⟨rfl, rfl, rfl⟩ | ⟨x, rfl, h1, h2, h3⟩
  · exact ⟨[], none, 0, rfl, Nat.le_refl _, Nat.zero_le _, (fun s hs => by cases hs), .inl rfl⟩
  · rw [show Try.prog.cellsOf 33 = 4 from by kernel_rfl] at h3
    have h4 : ∀ i, i < cap → ∃ s : Wt, s.Ok ∧ ∀ j v, s.cells[j]? = some v → j < 4 → W.cell? ((x.add (i * 4)).add j) = some v := by
      intro i hi
      obtain ⟨es, g1, g2⟩ := h3 i hi
      obtain ⟨s, hs, rfl⟩ := wt_of_cells g2
      have hm := (cells_many g1).2
      exact ⟨s, hs, fun j v hj hj6 => by
        obtain ⟨u, hu1, hu2⟩ := hm j hj6
        rw [hj] at hu1
        cases hu1
        exact hu2⟩
    have h5 : ∀ i, ∃ s : Wt, i < cap → s.Ok ∧ ∀ j v, s.cells[j]? = some v → j < 4 → W.cell? ((x.add (i * 4)).add j) = some v := fun i => by
      by_cases hi : i < cap
      · obtain ⟨s, hs⟩ := h4 i hi; exact ⟨s, fun _ => hs⟩
      · exact ⟨⟨0, 0, 0, false⟩, fun h => absurd h hi⟩
    obtain ⟨f, hf⟩ := Classical.axiomOfChoice h5
    refine ⟨(List.range len).map f, some x, cap, by simp, by simp; omega, h2, fun s hs => ?_, ?_⟩
    · obtain ⟨i, hi, rfl⟩ := List.mem_map.1 hs
      exact (hf i (by have := List.mem_range.1 hi; omega)).1
    · by_cases h0 : len = 0
      · subst h0; exact .inl rfl
      · have hc0 := (hf 0 (by omega)).2 0 _ rfl (by omega)
        rw [Nat.zero_mul, show (x.add 0).add 0 = x by simp [Addr.add]] at hc0
        obtain ⟨b, off, rfl, hb⟩ := cell_plain hc0
        refine .inr ⟨b, off, rfl, hb, fun j s hj => ?_⟩
        have hjl : j < len := by have := (List.getElem?_eq_some_iff.1 hj).1; simpa using this
        have hs : s = f j := by rw [List.getElem?_map] at hj; simp [hjl] at hj; exact hj.symm
        subst hs
        have q := (hf j (by omega)).2
        simp only [add_plain] at q
        exact ⟨q 0 _ rfl (by omega), q 1 _ rfl (by omega), q 2 _ rfl (by omega), q 3 _ rfl (by omega)⟩
theorem Arg.wt {W : World} {v : Value} (h : Arg W 33 v) : ∃ s : Wt, s.Ok ∧ v = .agg #[.int .i64 s.kind, .int .i64 s.block, .int .i64 s.slot, .bool s.dirty] := by
  obtain ⟨fs, hu, _⟩ := under_wt
  obtain ⟨cs, rfl, _, hc⟩ := h.agg (.inl ⟨fs, hu⟩)
  obtain ⟨s, hs, rfl⟩ := wt_of_cells hc
  exact ⟨s, hs, rfl⟩
/-- A step of those that came in, wherever one stands. -/
theorem Wts.open {w : World} {a : Option Addr} {L cap : Nat} {l : List Wt} (h : Wts w (.slice a L cap) l) (hL : l.length = L) {k : Nat} {s : Wt} (hs : l[k]? = some s) :
    ∃ b off, a = some ⟨b, off, none⟩ ∧ s.Ok ∧ b < w.heap.size ∧ WtAt w b (off + k * 4) s := by
  obtain ⟨a', cap', e, _, _, h3, h4⟩ := h
  simp only [Value.slice.injEq] at e
  obtain ⟨rfl, _, rfl⟩ := e
  rcases h4 with rfl | ⟨b, off, rfl, h5, h6⟩
  · simp at hs
  · exact ⟨b, off, rfl, h3 s (List.mem_of_getElem? hs), h5, h6 k s hs⟩
end Go.Proofs.Ytlpmikbplngmnaa
