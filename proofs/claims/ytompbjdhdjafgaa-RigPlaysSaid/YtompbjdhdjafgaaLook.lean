/- What flushes and crashes leave to be read. -/
import Derived.Test.YtompbjdhdjafgaaAt
namespace Go.Proofs.Ytompbjdhdjafgaa
open Go.RowKit
set_option linter.unusedVariables false

/-- What a flush leaves to be read. -/
theorem flushed_look (D : Nat → Sec) (n j : Nat) (hj : j < n) : (settled D (fun j => (D j).vs.length) (looseTo D n) j).look = (D j).look := by
  by_cases h : (D j).vs = []
  · rw [settled_not (fun hm => looseTo_loose hm h)]
  · rw [settled_yes (mem_looseTo hj h), Sec.look_some h]
    have hp := List.length_pos_iff.2 h
    unfold Sec.settle Sec.look
    simp only [List.getLast?_nil, Option.getD_none]
    rw [if_neg (by omega)]
theorem flushed_few (D : Nat → Sec) (n j : Nat) : (settled D (fun j => (D j).vs.length) (looseTo D n) j).vs.length ≤ (D j).vs.length := by
  by_cases h : j ∈ looseTo D n
  · rw [settled_yes h]; simp [Sec.settle]
  · rw [settled_not h]; exact Nat.le_refl _
theorem add_look (s : Sec) (b : List Value) (h : s.vs.length ≤ 255) : (s.add b).look = b := by
  unfold Sec.add Sec.look
  rw [if_neg (by omega)]
  simp
theorem add_more (s : Sec) (b : List Value) (h : s.vs.length ≤ 255) : (s.add b).vs.length = s.vs.length + 1 := by
  unfold Sec.add
  rw [if_neg (by omega)]
  simp

/-- Behind a flush no sector has versions, and each contains what it yielded. -/
theorem flushed_none (D : Nat → Sec) (n j : Nat) (hj : j < n) : (settled D (fun j => (D j).vs.length) (looseTo D n) j).vs = [] := by
  by_cases h : (D j).vs = []
  · rw [settled_not (fun hm => looseTo_loose hm h)]; exact h
  · rw [settled_yes (mem_looseTo hj h)]; rfl
theorem flushed_c (D : Nat → Sec) (n j : Nat) (hj : j < n) : (settled D (fun j => (D j).vs.length) (looseTo D n) j).c = (D j).look := by
  rw [← flushed_look D n j hj, Sec.look_none (flushed_none D n j hj)]
theorem tight_of {D : Nat → Sec} {n : Nat} (h : ∀ j, j < n → (D j).vs = []) : looseTo D n = [] := by
  unfold looseTo
  rw [List.filter_eq_nil_iff]
  intro j hj
  rw [h j (by simpa using hj)]
  simp
theorem settled_none (D : Nat → Sec) (g : Nat → Nat) (n j : Nat) (hj : j < n) : (settled D g (looseTo D n) j).vs = [] := by
  by_cases h : (D j).vs = []
  · rw [settled_not (fun hm => looseTo_loose hm h)]; exact h
  · rw [settled_yes (mem_looseTo hj h)]; rfl
/-- Behind a crash a sector yields what it contained, or one of its versions. -/
theorem settled_either (D : Nat → Sec) (g : Nat → Nat) (n j : Nat) (hj : j < n) : (settled D g (looseTo D n) j).look = (D j).c ∨ (settled D g (looseTo D n) j).look ∈ (D j).vs := by
  rw [Sec.look_none (settled_none D g n j hj)]
  by_cases h : (D j).vs = []
  · rw [settled_not (fun hm => looseTo_loose hm h)]; exact .inl rfl
  · rw [settled_yes (mem_looseTo hj h)]
    unfold Sec.settle
    dsimp only
    split
    · exact .inl rfl
    · cases e : (D j).vs[g j - 1]? with
      | none => exact .inl rfl
      | some v => exact .inr (List.mem_of_getElem? e)

end Go.Proofs.Ytompbjdhdjafgaa
