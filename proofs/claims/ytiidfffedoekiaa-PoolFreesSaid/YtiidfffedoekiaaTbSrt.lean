/- slices.Sort and slices.Compact of a row of numbers of one's own; numbers sorted lose nothing by Compact just if no two are alike. -/
import Derived.Test.YtiidfffedoekiaaTbLay
import Derived.Test.YtiidfffedoekiaaRowC
import Derived.Lib.OwnBridge
import Derived.Sort.OwnSortedInts
namespace Go.Proofs.Ytiidfffedoekiaa
open Go.RowKit Go.Lib Go.Sort
set_option linter.unusedVariables false

theorem filter_all {α : Type} (f : α → Bool) : ∀ l : List α, (l.filter f).length = l.length ↔ ∀ x ∈ l, f x = true
  | [] => by simp
  | a :: l => by
    have h1 := List.length_filter_le f l
    have ih := filter_all f l
    cases h : f a with
    | true => simp [h, ih]
    | false =>
      rw [List.filter_cons_of_neg (by simp [h])]
      constructor
      · intro e; simp at e; omega
      · intro e; have := e a (List.mem_cons_self ..); rw [h] at this; cases this
theorem compact_same (zs : List Int) : (compact zs).length = zs.length ↔ ∀ j, j < zs.length → keeps zs.toArray j = true := by
  unfold compact compactUpTo
  rw [List.length_map]
  have := filter_all (keeps zs.toArray) (List.range zs.length)
  rw [List.length_range] at this
  rw [this]
  simp
theorem compact_sorted {zs : List Int} (h : zs.Pairwise (· ≤ ·)) : (compact zs).length = zs.length ↔ zs.Nodup := by
  rw [compact_same]
  constructor
  · intro hk
    refine List.pairwise_iff_getElem.2 fun i j hi hj hij => ?_
    have hs := List.pairwise_iff_getElem.1 h
    have h1 := hk j hj
    unfold keeps at h1
    have h2 : zs[j - 1] ≤ zs[j] := hs (j - 1) j (by omega) hj (by omega)
    have h3 : zs[i] ≤ zs[j - 1] := by
      by_cases e : i = j - 1
      · subst e; exact Int.le_refl _
      · exact hs i (j - 1) hi (by omega) (by omega)
    have h4 : zs[j] ≠ zs[j - 1] := by
      have := of_decide_eq_true h1
      rcases this with h | h
      · omega
      · simpa [getElem!_pos, hj, show j - 1 < zs.length by omega] using h
    omega
  · intro hn j hj
    unfold keeps
    refine decide_eq_true ?_
    by_cases h0 : j = 0
    · exact .inl h0
    · right
      have := List.pairwise_iff_getElem.1 hn (j - 1) j (by omega) hj (by omega)
      have h5 : zs[j] ≠ zs[j - 1] := fun e => this e.symm
      simpa [getElem!_pos, hj, show j - 1 < zs.length by omega] using h5
/-- The numbers in order. -/
def sorted (zs : List Int) : List Int := zs.mergeSort fun x y => decide (x ≤ y)
theorem sorted_rise (zs : List Int) : (sorted zs).Pairwise (· ≤ ·) := by
  have := List.pairwise_mergeSort (le := fun x y : Int => decide (x ≤ y)) (fun a b c h1 h2 => by simp at *; omega) (fun a b => by simp; omega) zs
  exact this.imp fun h => by simpa using h
theorem sorted_perm (zs : List Int) : (sorted zs).Perm zs := List.mergeSort_perm zs _
theorem sorted_len (zs : List Int) : (sorted zs).length = zs.length := (sorted_perm zs).length_eq
theorem sorted_compact (zs : List Int) : (compact (sorted zs)).length = zs.length ↔ zs.Nodup := by
  rw [← sorted_len zs, compact_sorted (sorted_rise zs)]
  exact (sorted_perm zs).nodup_iff

set_option maxRecDepth 100000 in
theorem tb_sort {N : Nat} {w : World} {v : Value} {zs : List Int} (h : w.ownsRow N 3 1 v zs.length (zs.map (Value.int .i64))) (hv : v ≠ .slice none 0 0) (hlen : zs.length ≤ 1000000) :
    Calls Try.prog 42 #[v] w fun e w' => e = .returned (.tuple #[]) ∧ w'.ownsRow N 3 1 v zs.length ((sorted zs).map (Value.int .i64)) ∧ w.grownBy w' v.ownBlock := by
  rcases h.2 with ⟨e0, _⟩ | ⟨g, cap, cur, rfl, hb, hg, hn, hm, hs, ht⟩
  · exact absurd e0 hv
  · rw [Nat.mul_one] at ht
    have hH := holds_of_blockI hg ht
    refine (laid_slices_Sort_int g 0 cap zs w hH (Array.getElem?_eq_some_iff.1 hg).1 (by omega)).mono ?_
    rintro e w' ⟨rfl, n, os, rfl⟩
    exact ⟨rfl, ownsRow_sortedI (sorted_len zs) hb hg hn hm hs, grownBy_sortedI _⟩
set_option maxRecDepth 100000 in
theorem tb_compact {N : Nat} {w : World} {v : Value} {zs : List Int} (h : w.ownsRow N 3 1 v zs.length (zs.map (Value.int .i64))) (hv : v ≠ .slice none 0 0) :
    Calls Try.prog 43 #[v] w fun e w' => (∃ a cap, e = .returned (.slice a (compact zs).length cap)) ∧ w.grownBy w' v.ownBlock := by
  rcases h.2 with ⟨e0, _⟩ | ⟨g, cap, cur, rfl, hb, hg, hn, hm, hs, ht⟩
  · exact absurd e0 hv
  · rw [Nat.mul_one] at ht
    have hH := holds_of_blockI hg ht
    refine (laid_slices_Compact_int g 0 cap zs w hH (by unfold maxLen at hm; omega) hn).mono ?_
    rintro e w' ⟨rfl, q, rfl⟩
    refine ⟨⟨_, _, rfl⟩, ?_⟩
    have := grownBy_sortedI (w := w) (g := g) (n := q) (os := #[]) (compact zs ++ List.replicate (zs.length - (compact zs).length) 0).toArray
    rwa [grow_empty] at this
end Go.Proofs.Ytiidfffedoekiaa
