/- Plain facts for PoolApart. -/
import Derived.Test.YtiidfffedoekiaaPoLe
import Derived.Test.YtiidfffedoekiaaPoFa
namespace Go.Proofs.Ytiidfffedoekiaa
open Go.RowKit Go.Shelf Go.Lib Go.Sort
set_option linter.unusedVariables false

theorem ap_idx {x y : Int} (hx0 : 0 ≤ x) (hy0 : 0 ≤ y) : ∃ a m : Nat, x % 201 = (a : Int) ∧ x.tmod 201 = (a : Int) ∧ a ≤ 200 ∧ y % 20 = (m : Int) ∧ y.tmod 20 = (m : Int) ∧ m ≤ 19 := by
  obtain ⟨a, ha⟩ : ∃ a : Nat, x % 201 = (a : Int) := ⟨(x % 201).toNat, by omega⟩
  obtain ⟨m, hm⟩ : ∃ m : Nat, y % 20 = (m : Int) := ⟨(y % 20).toNat, by omega⟩
  exact ⟨a, m, ha, by rw [Int.tmod_eq_emod_of_nonneg hx0]; exact ha, by omega, hm, by rw [Int.tmod_eq_emod_of_nonneg hy0]; exact hm, by omega⟩
theorem ap_count {us : List Int} {i : Nat} {v a : Int} (h : us[i]? = some v) : (pWith (us.take (i + 1)) a).length = if 0 ≤ v ∧ v < a then (pWith (us.take i) a).length + 1 else (pWith (us.take i) a).length := by
  unfold pWith
  rw [List.take_add_one, h, List.filter_append]
  by_cases hc : 0 ≤ v ∧ v < a
  · rw [if_pos hc]
    simp [hc]
  · rw [if_neg hc]
    have : (decide (0 ≤ v) && decide (v < a)) = false := by
      rw [Bool.eq_false_iff]; simp; omega
    simp [this]
theorem ap_step {us : List Int} (h : us.Pairwise (· < ·)) {i : Nat} {u v : Int} (hu : us[i]? = some u) (hv : us[i + 1]? = some v) : u < v := by
  obtain ⟨h1, rfl⟩ := List.getElem?_eq_some_iff.1 hu
  obtain ⟨h2, rfl⟩ := List.getElem?_eq_some_iff.1 hv
  exact List.pairwise_iff_getElem.1 h i (i + 1) h1 h2 (by omega)
theorem ap_has (l : List Int) (z v : Int) : (l ++ [z]).contains v = (l.contains v || (z == v)) := by
  rw [Bool.eq_iff_iff]
  simp only [List.contains_iff_mem, List.mem_append, List.mem_singleton, Bool.or_eq_true, beq_iff_eq]
  constructor
  · rintro (h | h)
    · exact .inl h
    · exact .inr h.symm
  · rintro (h | h)
    · exact .inl h
    · exact .inr h.symm
end Go.Proofs.Ytiidfffedoekiaa
