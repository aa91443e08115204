/- Plain facts: how long what Drop and Cut leave is. -/
import Derived.Test.YtmhpjglmnfllfaaChRc
namespace Go.Proofs.Ytmhpjglmnfllfaa
open Go.RowKit Go.Shelf

theorem fair_get {l : List SN} (hl : ∀ s ∈ l, s.ch.length ≤ 40 ∧ s.tb.length ≤ 80) (m : Nat) : (l[m]?.getD zeroS).ch.length ≤ 40 ∧ (l[m]?.getD zeroS).tb.length ≤ 80 := by
  cases h : l[m]? with
  | none => exact ⟨Nat.zero_le _, Nat.zero_le _⟩
  | some s => exact hl s (List.mem_of_getElem? h)
theorem drop_lens {l : List SN} (hl : l.length ≤ 12) (hs : ∀ s ∈ l, s.ch.length ≤ 40 ∧ s.tb.length ≤ 80) (i : Int) : Lens 1000 (cDrop l i) := by
  unfold cDrop
  split
  · cases i.toNat with
    | zero =>
      rw [dropAt_zero]
      exact ⟨by rw [List.length_drop]; omega, fun s h => by have := hs s (List.mem_of_mem_drop h); omega⟩
    | succ m =>
      rw [dropAt_succ]
      refine ⟨by simp only [List.length_append, List.length_take, List.length_cons, List.length_drop]; omega, fun s h => ?_⟩
      rcases List.mem_append.1 h with h | h
      · have := hs s (List.mem_of_mem_take h); omega
      · rcases List.mem_cons.1 h with rfl | h
        · have h1 := fair_get hs m
          have h2 := fair_get hs (m + 1)
          have h3 := tKeep_len (l[m]?.getD zeroS).tb (l[m + 1]?.getD zeroS).tb (l[m]?.getD zeroS).tb
          refine ⟨?_, ?_⟩
          · show (orB _ _).length ≤ _
            rw [or_length]; omega
          · show (tKeep _ _ _).length ≤ _
            omega
        · have := hs s (List.mem_of_mem_drop h); omega
  · exact ⟨by omega, fun s h => by have := hs s h; omega⟩
theorem cut_lens {l : List SN} (hl : l.length ≤ 12) (hs : ∀ s ∈ l, s.ch.length ≤ 40 ∧ s.tb.length ≤ 80) (i : Int) : Lens 1000 (cCut l i) := by
  unfold cCut
  split
  · refine ⟨by simp only [List.length_append, List.length_take, List.length_cons, List.length_nil]; omega, fun s h => ?_⟩
    rcases List.mem_append.1 h with h | h
    · have := hs s (List.mem_of_mem_take h); omega
    · obtain rfl := List.mem_singleton.1 h
      have h1 := fair_get hs i.toNat
      exact ⟨by show (List.replicate _ _).length ≤ _; rw [List.length_replicate]; omega, Nat.zero_le _⟩
  · exact ⟨by omega, fun s h => by have := hs s h; omega⟩
end Go.Proofs.Ytmhpjglmnfllfaa
