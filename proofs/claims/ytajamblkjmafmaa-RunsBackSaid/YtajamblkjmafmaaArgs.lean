/- What the walk of a statement is told of its arguments, whatever their types: cell by cell. -/
import Derived.Test.YtajamblkjmafmaaRows
import Derived.Test.YtajamblkjmafmaaProg
import Derived.WalkKit
import Derived.ProofKit
import Derived.OpenShut
import Derived.ShutString
import Derived.ChangeOld
import Derived.Below
import Derived.Deep.Slices
import Derived.Lib.SmallJoins
import Derived.Lib.Hide
import Derived.RangeFuncOwn
namespace Go.Proofs.Ytajamblkjmafmaa
open Go.ChangeShapes Go.WideShapes Go.ChangeAt Go.RowKit
set_option linter.unusedVariables false

set_option maxRecDepth 100000 in
theorem own : ownKnob Try.prog.godebug = none := by kernel_rfl
set_option maxRecDepth 100000 in
theorem laidOut : laidOutB Try.prog = true := by kernel_rfl

/-- These cells read as a value of this type. -/
def Cells (W : World) (t : TypeId) (cs : List Value) : Prop :=
  ∃ (H : Type) (enc : TypeId × Value → H) (fuel : Nat) (x : DataW H × List MemPlace), DataW.trod enc Try.prog W 0 (fun _ => true) true fuel t cs = some x
/-- An argument. -/
def Arg (W : World) (t : TypeId) (v : Value) : Prop := (∃ base, Value.okWide Try.prog W .any base t v) ∧ Cells W t v.cells.toList

set_option maxRecDepth 100000 in
theorem Arg.mk {H : Type} {enc : TypeId × Value → H} {W : World} {base : Nat} {t : TypeId} {v : Value} {d : DataW H} {p : List MemPlace} (h : Value.okWide Try.prog W .any base t v) (k : DataW.Trod enc Try.prog W 0 (fun _ => true) true t v d p) : Arg W t v := by
  obtain ⟨fuel, hf⟩ := k
  exact ⟨⟨base, h⟩, H, enc, fuel, _, hf⟩

section
variable {W : World} {t e : TypeId} {cs : List Value} {v : Value}

set_option maxRecDepth 100000 in
theorem Cells.int {k : IntKind} (h : Cells W t cs) (hu : Try.prog.underlying t = some (.int k)) : ∃ n, cs = [.int k n] ∧ (Lit.int k n).wf = true := by
  obtain ⟨H, enc, fuel, x, hx⟩ := h
  obtain ⟨a, e1, e2, wa⟩ := DataW.trod_int hu hx
  exact ⟨a, e1, wa⟩
set_option maxRecDepth 100000 in
theorem Cells.bool (h : Cells W t cs) (hu : Try.prog.underlying t = some .bool) : ∃ b, cs = [.bool b] := by
  obtain ⟨H, enc, fuel, x, hx⟩ := h
  obtain ⟨a, e1, e2⟩ := DataW.trod_bool hu hx
  exact ⟨a, e1⟩
set_option maxRecDepth 100000 in
theorem Cells.string (h : Cells W t cs) (hu : Try.prog.underlying t = some .string) : ∃ s, cs = [.string s] ∧ s.size ≤ maxLen := by
  obtain ⟨H, enc, fuel, x, hx⟩ := h
  cases fuel with
  | zero => simp [DataW.trod] at hx
  | succ m =>
    unfold DataW.trod at hx
    rw [hu] at hx
    split at hx <;> simp_all
set_option maxRecDepth 100000 in
theorem Cells.slice (h : Cells W t cs) (hu : Try.prog.underlying t = some (.slice e)) : ∃ a len cap, cs = [.slice a len cap] ∧
    ((a = none ∧ len = 0 ∧ cap = 0) ∨ ∃ x, a = some x ∧ len ≤ cap ∧ cap ≤ maxLen ∧ ∀ i, i < cap → ∃ es, W.cells? 0 (x.add (i * Try.prog.cellsOf e)) (Try.prog.cellsOf e) = some es ∧ Cells W e es) := by
  obtain ⟨H, enc, fuel, x, hx⟩ := h
  rcases Go.Deep.open_slice hu hx with ⟨rfl, rfl⟩ | ⟨a, len, cap, m, n, D, Pl, rfl, _, h1, h2, rfl, rfl, h3⟩
  · exact ⟨_, _, _, rfl, .inl ⟨rfl, rfl, rfl⟩⟩
  · refine ⟨_, _, _, rfl, .inr ⟨a, rfl, h1, h2, fun i hi => ?_⟩⟩
    obtain ⟨es, g1, g2⟩ := h3 i (by simpa using hi)
    exact ⟨es, g1, H, enc, n, _, g2⟩
set_option maxRecDepth 100000 in
theorem Cells.struct {fs : Array Field} (h : Cells W t cs) (hu : Try.prog.underlying t = some (.struct fs)) : cs.length = Try.prog.cellsOf t ∧
    ∀ (j : Nat) f, fs[j]? = some f → Cells W f.type ((cs.drop f.offset).take (Try.prog.cellsOf f.type)) := by
  obtain ⟨H, enc, fuel, x, hx⟩ := h
  obtain ⟨xs, n, _, rfl, hl, hlen, hf⟩ := DataW.trod_struct hu hx
  refine ⟨hl, fun j f hj => ?_⟩
  have h1 := hf j f hj
  have h2 : j < xs.length := by
    rw [hlen]
    exact (Array.getElem?_eq_some_iff.1 hj).1
  rw [List.getElem?_eq_getElem h2] at h1
  exact ⟨H, enc, n, _, h1⟩
set_option maxRecDepth 100000 in
theorem Cells.array {n : Nat} (h : Cells W t cs) (hu : Try.prog.underlying t = some (.array n e)) : cs.length = Try.prog.cellsOf t ∧
    ∀ i, i < n → Cells W e ((cs.drop (i * Try.prog.cellsOf e)).take (Try.prog.cellsOf e)) := by
  obtain ⟨H, enc, fuel, x, hx⟩ := h
  obtain ⟨xs, m, _, rfl, hl, hlen, hf⟩ := DataW.trod_array hu hx
  refine ⟨hl, fun j hj => ?_⟩
  have h1 := hf j hj
  rw [List.getElem?_eq_getElem (by omega)] at h1
  exact ⟨H, enc, m, _, h1⟩

set_option maxRecDepth 100000 in
theorem Arg.int {k : IntKind} (h : Arg W t v) (hu : Try.prog.underlying t = some (.int k)) : ∃ n, v = .int k n ∧ (Lit.int k n).wf = true := by
  obtain ⟨⟨base, ho⟩, hc⟩ := h
  obtain ⟨n, rfl⟩ := okWide_int hu ho
  obtain ⟨m, e1, wm⟩ := hc.int hu
  simp [Value.cells] at e1
  subst e1
  exact ⟨_, rfl, wm⟩
set_option maxRecDepth 100000 in
theorem Arg.bool (h : Arg W t v) (hu : Try.prog.underlying t = some .bool) : ∃ b, v = .bool b := by
  obtain ⟨⟨base, ho⟩, hc⟩ := h
  exact okWide_bool hu ho
set_option maxRecDepth 100000 in
theorem Arg.string (h : Arg W t v) (hu : Try.prog.underlying t = some .string) : ∃ s, v = .string s ∧ s.size ≤ maxLen := by
  obtain ⟨⟨base, ho⟩, hc⟩ := h
  obtain ⟨s, rfl⟩ := okWide_string hu ho
  obtain ⟨m, e1, wm⟩ := hc.string hu
  simp [Value.cells] at e1
  subst e1
  exact ⟨_, rfl, wm⟩
set_option maxRecDepth 100000 in
theorem Arg.slice (h : Arg W t v) (hu : Try.prog.underlying t = some (.slice e)) : ∃ a len cap, v = .slice a len cap ∧
    ((a = none ∧ len = 0 ∧ cap = 0) ∨ ∃ x, a = some x ∧ len ≤ cap ∧ cap ≤ maxLen ∧ ∀ i, i < cap → ∃ es, W.cells? 0 (x.add (i * Try.prog.cellsOf e)) (Try.prog.cellsOf e) = some es ∧ Cells W e es) := by
  obtain ⟨⟨base, ho⟩, hc⟩ := h
  obtain ⟨a, len, cap, rfl⟩ := okWide_slice hu ho
  obtain ⟨a', len', cap', e1, r⟩ := hc.slice hu
  simp [Value.cells] at e1
  obtain ⟨rfl, rfl, rfl⟩ := e1
  exact ⟨_, _, _, rfl, r⟩
set_option maxRecDepth 100000 in
theorem Arg.agg (h : Arg W t v) (hu : (∃ fs, Try.prog.underlying t = some (.struct fs)) ∨ ∃ n e, Try.prog.underlying t = some (.array n e)) : ∃ cs : List Value, v = .agg cs.toArray ∧ cs.length = Try.prog.cellsOf t ∧ Cells W t cs := by
  obtain ⟨⟨base, ho⟩, hc⟩ := h
  have : ∃ cs : Array Value, v = .agg cs ∧ cs.size = Try.prog.cellsOf t := by
    rcases hu with ⟨fs, hu⟩ | ⟨n, e, hu⟩
    · exact okWide_struct hu ho
    · simp only [Value.okWide, hu] at ho
      obtain ⟨cs, h1, h2, _⟩ := ho
      exact ⟨cs, h1, h2⟩
  obtain ⟨⟨cs⟩, rfl, hs⟩ := this
  exact ⟨cs, rfl, by simpa using hs, by simpa [Value.cells] using hc⟩
end

/-- One cell, read. -/
theorem cells_one {W : World} {x : Addr} {es : List Value} (h : W.cells? 0 x 1 = some es) : ∃ v, es = [v] ∧ W.cell? x = some v := by
  unfold World.cells? at h
  rw [if_pos (Nat.zero_le _)] at h
  simp only [List.range_one, List.mapM_cons, List.mapM_nil] at h
  have e : x.add 0 = x := by simp [Addr.add]
  rw [e] at h
  cases hc : W.cell? x with
  | none => rw [hc] at h; cases h
  | some v => rw [hc] at h; exact ⟨v, by simpa using h.symm, rfl⟩

/-- Several cells, read. -/
theorem cells_many {W : World} {x : Addr} {n : Nat} {es : List Value} (h : W.cells? 0 x n = some es) : es.length = n ∧ ∀ i, i < n → ∃ v, es[i]? = some v ∧ W.cell? (x.add i) = some v := by
  unfold World.cells? at h
  rw [if_pos (Nat.zero_le _)] at h
  have hl : es.length = n := by simpa using mapM_some_length h
  refine ⟨hl, fun i hi => ?_⟩
  have := mapM_some_get h i i (by simp [hi])
  rw [List.getElem?_eq_getElem (by omega)] at this
  exact ⟨es[i], by rw [List.getElem?_eq_getElem (by omega)], this⟩

theorem cell_plain {W : World} {x : Addr} {v : Value} (h : W.cell? x = some v) : ∃ b off, x = ⟨b, off, none⟩ ∧ b < W.heap.size := by
  obtain ⟨b, off, spot⟩ := x
  have : spot = none := World.cell?_spot h
  subst this
  obtain ⟨o, ho, _⟩ := cells_of_cell h
  exact ⟨b, off, rfl, (Array.getElem?_eq_some_iff.1 ho).1⟩

theorem add_plain (b off j : Nat) : (⟨b, off, none⟩ : Addr).add j = ⟨b, off + j, none⟩ := by unfold Addr.add; split <;> simp_all
end Go.Proofs.Ytajamblkjmafmaa
