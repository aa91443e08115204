/- For RunsBack and RunsCounts: rising numbers, the last of a row, a row kept while another one grows. -/
import Derived.Test.YtajamblkjmafmaaRuBl
import Derived.Test.YtajamblkjmafmaaArgSl
namespace Go.Proofs.Ytajamblkjmafmaa
open Go.RowKit
set_option linter.unusedVariables false
theorem rnUp_len {R : List Int} (h : rnUp R) : R.length ≤ 256 := by
  have H : ∀ (R : List Int) (b : Int), 0 ≤ b → rnUp R → (∀ x ∈ R, x < b) → (R.length : Int) ≤ b := by
    intro R
    refine snoc_ind (P := fun R => ∀ (b : Int), 0 ≤ b → rnUp R → (∀ x ∈ R, x < b) → (R.length : Int) ≤ b) (fun b hb _ _ => by simpa using hb) ?_ R
    intro a x ih b hb hu hx
    obtain ⟨h1, h2, h3, h4⟩ := rnUp_snoc hu
    have := ih x h3 h1 h2
    have := hx x (by simp)
    rw [List.length_append, List.length_singleton]
    omega
  have := H R 256 (by decide) h (fun x hx => (h.2 x hx).2)
  omega
theorem rnUp_nil : rnUp [] := ⟨List.Pairwise.nil, fun x hx => by cases hx⟩
/-- One more, above all of them. -/
theorem rnUp_more {R : List Int} {v : Int} (h : rnUp R) (hlt : ∀ x ∈ R, x < v) (h0 : 0 ≤ v) (h1 : v < 256) : rnUp (R ++ [v]) := by
  refine ⟨List.pairwise_append.2 ⟨h.1, List.pairwise_singleton _ _, fun x hx y hy => by simp at hy; subst hy; exact hlt x hx⟩, fun x hx => ?_⟩
  rcases List.mem_append.1 hx with hx | hx
  · exact h.2 x hx
  · simp at hx; subst hx; exact ⟨h0, h1⟩
theorem rnUp_all {A : List Int} {y v : Int} (h : rnUp (A ++ [y])) (hle : ∀ x ∈ A ++ [y], x ≤ v) (hne : y ≠ v) : ∀ x ∈ A ++ [y], x < v := by
  obtain ⟨-, h2, -, -⟩ := rnUp_snoc h
  have hy := hle y (by simp)
  intro x hx
  rcases List.mem_append.1 hx with hx | hx
  · have := h2 x hx; omega
  · simp at hx; subst hx; omega
/-- The last one of a row of one's own. -/
theorem InO.last {N : Nat} {w : World} {v : Value} {A : List Int} {y : Int} {K : Nat} (h : InO N w v (A ++ [y])) (hK : A.length = K) : ∃ g c, v = .slice (some ⟨g, 0, none⟩) (K + 1) c ∧ w.cell? ⟨g, K, none⟩ = some (.int .i64 y) := by
  have hh := h
  rcases h.2 with ⟨_, hz⟩ | ⟨g, cap, cur, e, _, hg, -⟩
  · simp at hz
  · refine ⟨g, cap, by rw [e]; simp [hK], ?_⟩
    subst e
    have := World.ownsRow.cells hh (g := g) rfl K (.int .i64 y) (by rw [← hK]; simp)
    rwa [Addr.add_mid, Nat.zero_add] at this
/-- Blocks of runs that lie apart within 200. -/
theorem rn_blocks_small {m : List (Int × Int)} (h : rnGood m 200 = true) : (rnBlocks m).length ≤ 200 ∧ ∀ x ∈ rnBlocks m, Is64 x := by
  rw [rn_blocks_good (by omega) h]
  rcases rn_ok_of (g := -1) (by omega) (by omega) h with ⟨h1, h2⟩ | rfl
  · refine ⟨by omega, fun x hx => ?_⟩
    obtain ⟨p, hp, hx⟩ := List.mem_flatMap.1 hx
    obtain ⟨i, hi, rfl⟩ := List.mem_map.1 hx
    have := h1 p hp
    unfold rnOk at this
    simp only [Bool.and_eq_true, decide_eq_true_eq] at this
    have hi := List.mem_range.1 hi
    unfold Is64
    omega
  · exact ⟨by decide, fun x hx => by cases hx⟩
/-- Where a run's numbers stand among all. -/
theorem rn_at {r : List (Int × Int)} {i k : Nat} {p : Int × Int} (h : r[i]? = some p) (hk : k < p.2.toNat) : (rnFlat r)[(rnFlat (r.take i)).length + k]? = some (p.1 + (k : Int)) := by
  have e : r = r.take i ++ ([p] ++ r.drop (i + 1)) := by
    obtain ⟨hlt, he⟩ := List.getElem?_eq_some_iff.1 h
    rw [← he, List.singleton_append, ← List.drop_eq_getElem_cons hlt, List.take_append_drop]
  have e2 : rnFlat r = rnFlat (r.take i) ++ (rnNums p ++ rnFlat (r.drop (i + 1))) := by
    conv => lhs; rw [e]
    rw [rnFlat_append, rnFlat_append, rnFlat_one]
  rw [e2, List.getElem?_append_right (by omega), Nat.add_sub_cancel_left, List.getElem?_append_left (by rw [rnNums_len]; exact hk), rnNums_get p k hk]
theorem rnFlat_succ {r : List (Int × Int)} {i : Nat} {p : Int × Int} (h : r[i]? = some p) : (rnFlat (r.take (i + 1))).length = (rnFlat (r.take i)).length + p.2.toNat := by
  rw [List.take_add_one, h]
  show (rnFlat (r.take i ++ [p])).length = _
  rw [rnFlat_append, rnFlat_one, List.length_append, rnNums_len]
end Go.Proofs.Ytajamblkjmafmaa
