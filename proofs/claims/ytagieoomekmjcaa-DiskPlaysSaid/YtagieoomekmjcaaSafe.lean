/- What DiskSafe knows of the disk. -/
import Derived.Test.YtagieoomekmjcaaReads
namespace Go.Proofs.Ytagieoomekmjcaa
open Go.RowKit
set_option linter.unusedVariables false

/-- Behind a flush no sector has versions, and each contains what it yielded. -/
theorem flushed_none (D : Nat → Sec) (n j : Nat) (hj : j < n) : (settled D (fun j => (D j).vs.length) (looseTo D n) j).vs = [] := by
  by_cases h : (D j).vs = []
  · rw [settled_not (fun hm => looseTo_loose hm h)]; exact h
  · rw [settled_yes (mem_looseTo hj h)]; rfl
theorem flushed_c (D : Nat → Sec) (n j : Nat) (hj : j < n) : (settled D (fun j => (D j).vs.length) (looseTo D n) j).c = (D j).look := by
  rw [← flushed_look D n j hj, Sec.look_none (flushed_none D n j hj)]
theorem tight_of {D : Nat → Sec} {n : Nat} (h : ∀ j, j < n → (D j).vs = []) : looseTo D n = [] := by
  unfold looseTo
  rw [List.filter_eq_nil_iff]
  intro j hj
  rw [h j (by simpa using hj)]
  simp
theorem settled_none (D : Nat → Sec) (g : Nat → Nat) (n j : Nat) (hj : j < n) : (settled D g (looseTo D n) j).vs = [] := by
  by_cases h : (D j).vs = []
  · rw [settled_not (fun hm => looseTo_loose hm h)]; exact h
  · rw [settled_yes (mem_looseTo hj h)]; rfl
/-- Behind a crash a sector yields what it contained, or one of its versions. -/
theorem settled_either (D : Nat → Sec) (g : Nat → Nat) (n j : Nat) (hj : j < n) : (settled D g (looseTo D n) j).look = (D j).c ∨ (settled D g (looseTo D n) j).look ∈ (D j).vs := by
  rw [Sec.look_none (settled_none D g n j hj)]
  by_cases h : (D j).vs = []
  · rw [settled_not (fun hm => looseTo_loose hm h)]; exact .inl rfl
  · rw [settled_yes (mem_looseTo hj h)]
    unfold Sec.settle
    dsimp only
    split
    · exact .inl rfl
    · cases e : (D j).vs[g j - 1]? with
      | none => exact .inl rfl
      | some v => exact .inr (List.mem_of_getElem? e)

/-- Six bytes at block B. -/
def Six (W : World) (B : Nat) (was : Nat → Int) : Prop := (∀ k, k < 6 → W.cell? ⟨B, k, none⟩ = some (.int .u8 (was k))) ∧ (∀ k, W.frozen? ⟨B, k, none⟩ = false)
theorem Six.new (W : World) (t : TypeId) : Six (W.alloc (.cells #[.int .u8 0, .int .u8 0, .int .u8 0, .int .u8 0, .int .u8 0, .int .u8 0] t)) W.heap.size (fun _ => 0) := by
  refine ⟨fun k hk => ?_, fun k => ?_⟩
  · rw [cell_of_row _ _ _ _ _ _ (heap_alloc_new W _)]
    match k, hk with
    | 0, _ => rfl
    | 1, _ => rfl
    | 2, _ => rfl
    | 3, _ => rfl
    | 4, _ => rfl
    | 5, _ => rfl
  · unfold World.frozen?
    rw [heap_alloc_new W _]
    simp
theorem Six.same {W W' : World} {B : Nat} {was : Nat → Int} (h : Six W B was) (hb : W'.heap[B]? = W.heap[B]?) : Six W' B was :=
  ⟨fun k hk => (World.cell?_of_block (a := ⟨B, k, none⟩) hb).trans (h.1 k hk), fun k => (World.frozen?_of_block (a := ⟨B, k, none⟩) hb).trans (h.2 k)⟩
theorem Six.set {W : World} {B : Nat} {was : Nat → Int} (h : Six W B was) {k : Nat} (hk : k < 6) (v : Int) : Six (W.setCell ⟨B, k, none⟩ (.int .u8 v)) B (upd was k v) := by
  refine ⟨fun j hj => ?_, fun j => by rw [World.frozen?_setCell]; exact h.2 j⟩
  by_cases e : j = k
  · subst e; rw [upd_same]; exact World.cell?_setCell_same' _ _ _ (by rw [h.1 j hj]; rfl)
  · rw [upd_other _ _ e, World.cell?_setCell_other _ _ _ _ (fun e' => by cases e'; exact e rfl)]; exact h.1 j hj
theorem At.setCell {w0 W : World} {rb n B k : Nat} {D : Nat → Sec} {own : Nat → Prop} (h : At w0 W rb n D own) (hB : own B) (hw : w0.heap.size ≤ B) (u : Value) : At w0 (W.setCell ⟨B, k, none⟩ u) rb n D own :=
  h.own hB hw _ ((Below.refl B W).setCell (p := ⟨B, k, none⟩) (Nat.le_refl _) u) (fun j hj => Below.heap_setCell _ _ _ j (fun e => hj e)) (size_setCell _ _ _)
theorem At.lt {w0 W : World} {rb n B : Nat} {D : Nat → Sec} {own : Nat → Prop} (h : At w0 W rb n D own) (hB : own B) : B < W.heap.size := by
  obtain ⟨f, q1, q2, q3, q4, q5⟩ := h
  exact q3 _ hB
end Go.Proofs.Ytagieoomekmjcaa
