/- A map that has been made, and beside it the row that Dirty told. -/
import Derived.Test.YtlpmikbplngmnaaWdP
namespace Go.Proofs.Ytlpmikbplngmnaa
open Go.RowKit Go.Shelf Go.Lib
set_option linter.unusedVariables false
set_option linter.unusedSimpArgs false
def WU (w0 W : World) (q : WPos) (m : WM) (g : Nat) (cur : Array Value) : Prop := WmOk m ∧ WP (WyD q.P q.SB q.HB q.cap m) (RowR g cur 3) w0 W
section
variable {w0 W W' : World} {q : WPos} {m : WM} {g : Nat} {cur : Array Value}
theorem WU.at (h : WU w0 W q m g cur) : WAt w0 W q m := by
  obtain ⟨ho, f, ⟨f1, f2, h1, h2, h3, rfl⟩, h4, h5⟩ := h
  exact ⟨ho, f1, h1, fun k hk => h4 k (.inl hk), h5⟩
theorem WU.bel (h : WU w0 W q m g cur) : Below w0.heap.size w0 W := h.at.bel
theorem WU.cell (h : WU w0 W q m g cur) (j : Nat) : W.cell? ⟨g, j, none⟩ = cur[j]? := by
  obtain ⟨ho, f, ⟨f1, f2, h1, ⟨h2, -⟩, h3, rfl⟩, h4, h5⟩ := h
  exact cell_of_row _ _ _ _ _ _ h2
set_option maxRecDepth 100000 in
theorem WU.room (h : WU w0 W q m g cur) (b : Int) (hb : b ≤ 9223372036854775807) :
    Calls Try.prog 11 #[q.v, .int .i64 b] W fun e w' => e = .returned (opP (mRoom m b).1) ∧ WU w0 w' q (mRoom m b).2 g cur :=
  (WP.first (WyG.isRes _ _ _ _ _ _ _ _) (RowR.isRes _ _ _) h.2 (E := fun e => e = _) fun f hf => WyD.room hf h.1 b hb).mono fun e w' k => ⟨k.1, h.1.room b, k.2⟩
set_option maxRecDepth 100000 in
theorem WU.dirtiest (h : WU w0 W q m g cur) (b : Int) (hb : b ≤ 9223372036854775807) :
    Calls Try.prog 19 #[q.v, .int .i64 b] W fun e w' => e = .returned (opP (mDirt m b).1) ∧ WU w0 w' q (mDirt m b).2 g cur :=
  (WP.first (WyG.isRes _ _ _ _ _ _ _ _) (RowR.isRes _ _ _) h.2 (E := fun e => e = _) fun f hf => WyD.dirtiest hf h.1 b hb).mono fun e w' k => ⟨k.1, h.1.dirt b, k.2⟩
set_option maxRecDepth 100000 in
theorem WU.find (h : WU w0 W q m g cur) (b : Int) (hb : b ≤ 9223372036854775807) :
    Calls Try.prog 15 #[q.v, .int .i64 b] W fun e w' => e = .returned (opP (mFind m b)) ∧ WU w0 w' q m g cur :=
  (WP.look h.2 fun f hf => WyD.find hf h.1 b hb).mono fun e w' k => ⟨k.1, by rw [k.2]; exact h⟩
end
set_option maxRecDepth 100000 in
theorem WAt.dirtyU {w0 W : World} {q : WPos} {m : WM} (h : WAt w0 W q m) :
    Calls Try.prog 27 #[q.v] W fun e w' => ∃ g c cur, e = .returned (.slice (some ⟨g, 0, none⟩) m.size c) ∧ cur.toList.take m.size = (mDirty m).map (Value.int .i64) ∧ m.size ≤ c ∧ c ≤ maxLen ∧ WU w0 w' q m g cur := by
  obtain ⟨h1, f, h2, h3, h4⟩ := h
  refine (h2.dirty h1).mono ?_
  rintro e w' ⟨u, rfl, ⟨hl, g1⟩, g2⟩
  have hz : 0 < m.size := by unfold WM.size; exact Nat.mul_pos h1.st1 h1.wy1
  rw [dirty_len] at g1
  rcases g1 with ⟨rfl, h0⟩ | ⟨g, cap, cur, rfl, a1, a2, a3, a4, a5, a6⟩
  · omega
  · refine ⟨g, cap, cur, rfl, by rw [Nat.mul_one] at a6; exact a6, a3, a4, h1, WP.make (f1 := f) (f2 := fun k => k = g) (WyG.isRes _ _ _ _ _ _ _ _) h2 h3 h4 g2 ⟨a2, rfl⟩ (fun k hk => by rw [hk]; exact a1)⟩
end Go.Proofs.Ytlpmikbplngmnaa
