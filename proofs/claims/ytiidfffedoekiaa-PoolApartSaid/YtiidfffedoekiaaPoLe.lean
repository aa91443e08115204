/- The empty state: Take, Free, Used of it. -/
import Derived.Test.YtiidfffedoekiaaPoWk
namespace Go.Proofs.Ytiidfffedoekiaa
open Go.RowKit Go.Shelf Go.Lib Go.Sort
set_option linter.unusedVariables false

theorem po_at {N : Nat} {W : World} {a : Option Addr} {n c i : Nat} {zs : List Int} {y : Int} (h : InO N W (.slice a n c) zs) (hi : zs[i]? = some y) : ∃ g, a = some ⟨g, 0, none⟩ ∧ g < W.heap.size ∧ W.cell? ⟨g, i, none⟩ = some (.int .i64 y) := by
  have h' := h
  rcases h.2 with ⟨e, h0⟩ | ⟨g, cap, cur, e, h1, h2, -⟩
  · have : zs = [] := List.eq_nil_of_length_eq_zero h0
    subst this
    simp at hi
  · cases e
    have hl := (List.getElem?_eq_some_iff.1 hi).1
    refine ⟨g, rfl, (Array.getElem?_eq_some_iff.1 h2).1, ?_⟩
    rw [World.ownsRow.cellAt h' i (by simpa using hl), List.getElem?_map, hi]
    rfl
theorem po_len {N : Nat} {W : World} {a : Option Addr} {n c : Nat} {zs : List Int} (h : InO N W (.slice a n c) zs) : n = zs.length := by
  obtain ⟨q', e, e2⟩ := own_slV h
  simp only [slV, Value.slice.injEq] at e
  rw [e.2.1]; exact e2
set_option maxRecDepth 100000 in
theorem po_build_st0 (w : World) : (Instr.build 48 #[]).run Try.prog w = .ok (.agg #[.slice none 0 0, .slice none 0 0, .int .i64 0, .int .i64 0, .int .i64 0, .slice none 0 0]) w := by kernel_rfl
theorem used_nil : pUsed [] [] = [] := rise_ext (used_rise _ _) List.Pairwise.nil fun x => by rw [used_mem]; simp [pAts, cAts, pPlan]
theorem lens_nil : Lens 200 [] := ⟨by decide, fun s hs => by cases hs⟩
theorem st_nil (w : World) : StIs w ⟨(none, 0, 0), (none, 0, 0), 0, 0, 0, (none, 0, 0)⟩ [] [] := ⟨Snp.nil w, Prt.nil w⟩
set_option maxRecDepth 100000 in
theorem le_take (a : Nat) (ha : a ≤ 1000) (n : Int) (z : World) : Calls Try.prog 28 #[.agg #[.slice none 0 0, .slice none 0 0, .int .i64 0, .int .i64 0, .int .i64 0, .slice none 0 0], .int .i64 (a : Int), .int .i64 n] z fun e w' => ∃ u : SlV, e = .returned (.tuple #[slV u, .int .i64 (tkErr a n)]) ∧ InO z.heap.size w' (slV u) (tkLst (List.range a) n) ∧ Below z.heap.size z w' := by
  have h := po_take (st_nil z) lens_nil (by decide) a ha n
  rw [used_nil, free_all, List.length_range] at h
  exact h
set_option maxRecDepth 100000 in
theorem le_free (a : Nat) (ha : a ≤ 1000) (z : World) : Calls Try.prog 27 #[.agg #[.slice none 0 0, .slice none 0 0, .int .i64 0, .int .i64 0, .int .i64 0, .slice none 0 0], .int .i64 (a : Int)] z fun e w' => e = .returned (.int .i64 (a : Int)) ∧ Below z.heap.size z w' := by
  have h := po_free (st_nil z) lens_nil (by decide) a ha
  rw [used_nil, free_all, List.length_range] at h
  exact h
set_option maxRecDepth 100000 in
theorem le_used (z : World) : Calls Try.prog 26 #[.agg #[.slice none 0 0, .slice none 0 0, .int .i64 0, .int .i64 0, .int .i64 0, .slice none 0 0]] z fun e w' => (∃ a c, e = .returned (.slice a 0 c)) ∧ Below z.heap.size z w' := by
  have h := po_used (st_nil z) lens_nil (by decide)
  rw [used_nil] at h
  refine Calls.mono h ?_
  rintro e w' ⟨⟨u0, u1, u2⟩, rfl, hi, hb⟩
  obtain ⟨q', e, e2⟩ := own_slV hi
  simp only [slV, Value.slice.injEq] at e
  obtain rfl : u1 = 0 := by rw [e.2.1]; exact e2
  exact ⟨⟨_, _, rfl⟩, hb⟩
theorem le_idx {x y : Int} (hx0 : 0 ≤ x) (hx1 : x < 256) (hy0 : 0 ≤ y) (hy1 : y < 256) : ∃ a k : Nat, x % 201 = (a : Int) ∧ x.tmod 201 = (a : Int) ∧ a ≤ 200 ∧ y % ((a : Int) + 1) = (k : Int) ∧ y.tmod ((a : Int) + 1) = (k : Int) ∧ k ≤ a ∧ wrap64 ((a : Int) + 1) = (a : Int) + 1 ∧ ¬ ((a : Int) + 1 = 0) ∧ (((a : Int) + 1) == 0) = false := by
  obtain ⟨a, ha⟩ : ∃ a : Nat, x % 201 = (a : Int) := ⟨(x % 201).toNat, by omega⟩
  have h1 : (0 : Int) < (a : Int) + 1 := by omega
  have h2 := Int.emod_nonneg y (show ((a : Int) + 1) ≠ 0 by omega)
  have h3 := Int.emod_lt_of_pos y h1
  obtain ⟨k, hk⟩ : ∃ k : Nat, y % ((a : Int) + 1) = (k : Int) := ⟨(y % ((a : Int) + 1)).toNat, by omega⟩
  refine ⟨a, k, ha, ?_, by omega, hk, ?_, by omega, IntWalk.wrap64_in _ (by omega), by omega, by simp; omega⟩
  · rw [Int.tmod_eq_emod_of_nonneg hx0]; exact ha
  · rw [Int.tmod_eq_emod_of_nonneg hy0]; exact hk
theorem le_ok {a k : Nat} (h : k ≤ a) (ha : a ≤ 200) : tkErr a (k : Int) = 0 ∧ tkLst (List.range a) (k : Int) = (List.range k).map fun v : Nat => (v : Int) := by
  have e : tkErr a (k : Int) = 0 := by unfold tkErr; rw [if_neg (by omega), if_neg (by omega)]
  refine ⟨e, ?_⟩
  unfold tkLst
  rw [List.length_range, e, if_pos rfl, Int.toNat_natCast]
  unfold tkL
  rw [List.take_range, Nat.min_eq_left h]
theorem le_more {a : Nat} (ha : a ≤ 200) : tkErr a ((a : Int) + 1) = 12 ∧ tkLst (List.range a) ((a : Int) + 1) = [] := by
  have e : tkErr a ((a : Int) + 1) = 12 := by unfold tkErr; rw [if_neg (by omega), if_pos (by omega)]
  refine ⟨e, ?_⟩
  unfold tkLst
  rw [List.length_range, e, if_neg (by decide)]
theorem le_neg (a : Nat) : tkErr a (-1) = 1 ∧ tkLst (List.range a) (-1) = [] := by
  have e : tkErr a (-1) = 1 := by unfold tkErr; rw [if_pos (by omega)]
  refine ⟨e, ?_⟩
  unfold tkLst
  rw [List.length_range, e, if_neg (by decide)]
end Go.Proofs.Ytiidfffedoekiaa
