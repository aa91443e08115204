/- Cells laid one by one; no program. -/
import Derived.Test.YtlpmikbplngmnaaMath
namespace Go.Proofs.Ytlpmikbplngmnaa
open Go.RowKit
set_option linter.unusedVariables false

/-- Cells laid one by one. -/
theorem laid_size (l : List Value) : ∀ (k : Nat) (A : Array Value), ((l.zipIdx k).foldl (fun cs (x : Value × Nat) => cs.setIfInBounds (0 + x.2) x.1) A).size = A.size := by
  induction l with
  | nil => intro k A; rfl
  | cons x l ih => intro k A; rw [List.zipIdx_cons, List.foldl_cons, ih]; simp
theorem laid_get (l : List Value) : ∀ (k : Nat) (A : Array Value) (i : Nat), k + l.length ≤ A.size → ((l.zipIdx k).foldl (fun cs (x : Value × Nat) => cs.setIfInBounds (0 + x.2) x.1) A)[i]? = if k ≤ i ∧ i < k + l.length then l[i - k]? else A[i]? := by
  induction l with
  | nil => intro k A i h; simp; omega
  | cons x l ih =>
    intro k A i h
    rw [List.length_cons] at h
    rw [List.zipIdx_cons, List.foldl_cons, ih _ _ _ (by simp; omega)]
    simp only [Nat.zero_add, List.length_cons]
    by_cases h1 : i = k
    · subst h1
      rw [if_neg (by omega), if_pos (by omega), Nat.sub_self]
      simp [show i < A.size by omega]
    · by_cases h2 : k + 1 ≤ i ∧ i < k + 1 + l.length
      · rw [if_pos h2, if_pos (by omega), show i - k = (i - (k + 1)) + 1 by omega, List.getElem?_cons_succ]
      · rw [if_neg h2, if_neg (by omega), Array.getElem?_setIfInBounds_ne (by omega)]
theorem laid_all (l : List Value) (A : Array Value) (h : l.length = A.size) : (l.zipIdx.foldl (fun cs (x : Value × Nat) => cs.setIfInBounds (0 + x.2) x.1) A) = l.toArray := by
  apply Array.ext_getElem?
  intro i
  rw [laid_get l 0 A i (by omega)]
  split
  · simp
  · rw [Array.getElem?_eq_none (by omega)]; simp; omega

end Go.Proofs.Ytlpmikbplngmnaa
