/- The loose sectors, one by one. -/
import Derived.RangeFuncNested
import Derived.RangeFuncBound
import Derived.RangeFuncCalls
import Derived.RangeFuncLeaves
import Derived.Shelf.Abstract
import Derived.Shelf.RegionOpen
import Derived.OwnWalkIn
import Derived.TacticsInMore
import Derived.LoopNIn
import Derived.LoopIn
import Derived.Test.YtlpmikbplngmnaaNew
import Derived.Test.YtlpmikbplngmnaaOver
namespace Go.Proofs.Ytlpmikbplngmnaa
open Go.RowKit Go.Shelf
set_option linter.unusedVariables false
attribute [-go_sem] loadVar storeVar
attribute [local go_sem] Oper.semAt_some

/-- The loose ones below k. -/
def looseTo (D : Nat → Sec) (k : Nat) : List Nat := (List.range k).filter fun i => !(D i).vs.isEmpty
theorem looseTo_yes {D : Nat → Sec} {k : Nat} (h : (D k).vs ≠ []) : looseTo D (k + 1) = looseTo D k ++ [k] := by
  unfold looseTo
  rw [List.range_succ, List.filter_append]
  simp [h]
theorem looseTo_no {D : Nat → Sec} {k : Nat} (h : (D k).vs = []) : looseTo D (k + 1) = looseTo D k := by
  unfold looseTo
  rw [List.range_succ, List.filter_append]
  simp [h]
theorem looseTo_lt {D : Nat → Sec} {k i : Nat} (h : i ∈ looseTo D k) : i < k := by
  have := (List.mem_filter.1 h).1
  simpa using this
theorem looseTo_loose {D : Nat → Sec} {k i : Nat} (h : i ∈ looseTo D k) : (D i).vs ≠ [] := by
  have := (List.mem_filter.1 h).2
  simpa using this
theorem looseTo_prefix (D : Nat → Sec) (k : Nat) : ∀ d, looseTo D k <+: looseTo D (k + d)
  | 0 => List.prefix_refl _
  | d + 1 => by
    refine (looseTo_prefix D k d).trans ?_
    by_cases h : (D (k + d)).vs = []
    · rw [← Nat.add_assoc, looseTo_no h]; exact List.prefix_refl _
    · rw [← Nat.add_assoc, looseTo_yes h]; exact List.prefix_append _ _
theorem mem_looseTo {D : Nat → Sec} {k i : Nat} (hi : i < k) (h : (D i).vs ≠ []) : i ∈ looseTo D k := by
  unfold looseTo
  rw [List.mem_filter]
  exact ⟨by simpa using hi, by simpa using h⟩

theorem looseTo_length (D : Nat → Sec) (k : Nat) : (looseTo D k).length ≤ k := by
  have := List.length_filter_le (fun i => !(D i).vs.isEmpty) (List.range k)
  simpa [looseTo] using this
/-- What comes: the sector's number, and where it stands. -/
def encL (sb : Nat) (i : Nat) : Array Value := #[.int .i64 (i : Int), .pointer (some ⟨sb, i * 65, none⟩)]

/-- Which one comes. -/
def LooseOk (n : Nat) (D0 : Nat → Sec) (pre : List Nat) (x : Nat) : Prop := ∃ k, k < n ∧ pre = looseTo D0 k ∧ x = k ∧ (D0 k).vs ≠ []

end Go.Proofs.Ytlpmikbplngmnaa
