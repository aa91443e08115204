/- The empty state; plain facts for PoolFrees; a part of a row of snapshots. -/
import Derived.Test.YtiidfffedoekiaaPoWk
import Derived.Test.YtiidfffedoekiaaChRl
namespace Go.Proofs.Ytiidfffedoekiaa
section
open Go.RowKit Go.Shelf Go.Lib Go.Sort
set_option linter.unusedVariables false

theorem po_at {N : Nat} {W : World} {a : Option Addr} {n c i : Nat} {zs : List Int} {y : Int} (h : InO N W (.slice a n c) zs) (hi : zs[i]? = some y) : ∃ g, a = some ⟨g, 0, none⟩ ∧ g < W.heap.size ∧ W.cell? ⟨g, i, none⟩ = some (.int .i64 y) := by
  have h' := h
  rcases h.2 with ⟨e, h0⟩ | ⟨g, cap, cur, e, h1, h2, -⟩
  · have : zs = [] := List.eq_nil_of_length_eq_zero h0
    subst this
    simp at hi
  · cases e
    have hl := (List.getElem?_eq_some_iff.1 hi).1
    refine ⟨g, rfl, (Array.getElem?_eq_some_iff.1 h2).1, ?_⟩
    rw [World.ownsRow.cellAt h' i (by simpa using hl), List.getElem?_map, hi]
    rfl
theorem po_len {N : Nat} {W : World} {a : Option Addr} {n c : Nat} {zs : List Int} (h : InO N W (.slice a n c) zs) : n = zs.length := by
  obtain ⟨q', e, e2⟩ := own_slV h
  simp only [slV, Value.slice.injEq] at e
  rw [e.2.1]; exact e2
set_option maxRecDepth 100000 in
theorem po_build_st0 (w : World) : (Instr.build 48 #[]).run Try.prog w = .ok (.agg #[.slice none 0 0, .slice none 0 0, .int .i64 0, .int .i64 0, .int .i64 0, .slice none 0 0]) w := by kernel_rfl
theorem used_nil : pUsed [] [] = [] := rise_ext (used_rise _ _) List.Pairwise.nil fun x => by rw [used_mem]; simp [pAts, cAts, pPlan]
theorem lens_nil : Lens 200 [] := ⟨by decide, fun s hs => by cases hs⟩
theorem st_nil (w : World) : StIs w ⟨(none, 0, 0), (none, 0, 0), 0, 0, 0, (none, 0, 0)⟩ [] [] := ⟨Snp.nil w, Prt.nil w⟩
set_option maxRecDepth 100000 in
theorem le_take (a : Nat) (ha : a ≤ 1000) (n : Int) (z : World) : Calls Try.prog 28 #[.agg #[.slice none 0 0, .slice none 0 0, .int .i64 0, .int .i64 0, .int .i64 0, .slice none 0 0], .int .i64 (a : Int), .int .i64 n] z fun e w' => ∃ u : SlV, e = .returned (.tuple #[slV u, .int .i64 (tkErr a n)]) ∧ InO z.heap.size w' (slV u) (tkLst (List.range a) n) ∧ Below z.heap.size z w' := by
  have h := po_take (st_nil z) lens_nil (by decide) a ha n
  rw [used_nil, free_all, List.length_range] at h
  exact h
set_option maxRecDepth 100000 in
theorem le_free (a : Nat) (ha : a ≤ 1000) (z : World) : Calls Try.prog 27 #[.agg #[.slice none 0 0, .slice none 0 0, .int .i64 0, .int .i64 0, .int .i64 0, .slice none 0 0], .int .i64 (a : Int)] z fun e w' => e = .returned (.int .i64 (a : Int)) ∧ Below z.heap.size z w' := by
  have h := po_free (st_nil z) lens_nil (by decide) a ha
  rw [used_nil, free_all, List.length_range] at h
  exact h
set_option maxRecDepth 100000 in
theorem le_used (z : World) : Calls Try.prog 26 #[.agg #[.slice none 0 0, .slice none 0 0, .int .i64 0, .int .i64 0, .int .i64 0, .slice none 0 0]] z fun e w' => (∃ a c, e = .returned (.slice a 0 c)) ∧ Below z.heap.size z w' := by
  have h := po_used (st_nil z) lens_nil (by decide)
  rw [used_nil] at h
  refine Calls.mono h ?_
  rintro e w' ⟨⟨u0, u1, u2⟩, rfl, hi, hb⟩
  obtain ⟨q', e, e2⟩ := own_slV hi
  simp only [slV, Value.slice.injEq] at e
  obtain rfl : u1 = 0 := by rw [e.2.1]; exact e2
  exact ⟨⟨_, _, rfl⟩, hb⟩
theorem le_idx {x y : Int} (hx0 : 0 ≤ x) (hx1 : x < 256) (hy0 : 0 ≤ y) (hy1 : y < 256) : ∃ a k : Nat, x % 201 = (a : Int) ∧ x.tmod 201 = (a : Int) ∧ a ≤ 200 ∧ y % ((a : Int) + 1) = (k : Int) ∧ y.tmod ((a : Int) + 1) = (k : Int) ∧ k ≤ a ∧ wrap64 ((a : Int) + 1) = (a : Int) + 1 ∧ ¬ ((a : Int) + 1 = 0) ∧ (((a : Int) + 1) == 0) = false := by
  obtain ⟨a, ha⟩ : ∃ a : Nat, x % 201 = (a : Int) := ⟨(x % 201).toNat, by omega⟩
  have h1 : (0 : Int) < (a : Int) + 1 := by omega
  have h2 := Int.emod_nonneg y (show ((a : Int) + 1) ≠ 0 by omega)
  have h3 := Int.emod_lt_of_pos y h1
  obtain ⟨k, hk⟩ : ∃ k : Nat, y % ((a : Int) + 1) = (k : Int) := ⟨(y % ((a : Int) + 1)).toNat, by omega⟩
  refine ⟨a, k, ha, ?_, by omega, hk, ?_, by omega, IntWalk.wrap64_in _ (by omega), by omega, by simp; omega⟩
  · rw [Int.tmod_eq_emod_of_nonneg hx0]; exact ha
  · rw [Int.tmod_eq_emod_of_nonneg hy0]; exact hk
theorem le_ok {a k : Nat} (h : k ≤ a) (ha : a ≤ 200) : tkErr a (k : Int) = 0 ∧ tkLst (List.range a) (k : Int) = (List.range k).map fun v : Nat => (v : Int) := by
  have e : tkErr a (k : Int) = 0 := by unfold tkErr; rw [if_neg (by omega), if_neg (by omega)]
  refine ⟨e, ?_⟩
  unfold tkLst
  rw [List.length_range, e, if_pos rfl, Int.toNat_natCast]
  unfold tkL
  rw [List.take_range, Nat.min_eq_left h]
theorem le_more {a : Nat} (ha : a ≤ 200) : tkErr a ((a : Int) + 1) = 12 ∧ tkLst (List.range a) ((a : Int) + 1) = [] := by
  have e : tkErr a ((a : Int) + 1) = 12 := by unfold tkErr; rw [if_neg (by omega), if_pos (by omega)]
  refine ⟨e, ?_⟩
  unfold tkLst
  rw [List.length_range, e, if_neg (by decide)]
theorem le_neg (a : Nat) : tkErr a (-1) = 1 ∧ tkLst (List.range a) (-1) = [] := by
  have e : tkErr a (-1) = 1 := by unfold tkErr; rw [if_pos (by omega)]
  refine ⟨e, ?_⟩
  unfold tkLst
  rw [List.length_range, e, if_neg (by decide)]
end
section
open Go.RowKit Go.Shelf Go.Lib Go.Sort
set_option linter.unusedVariables false

theorem st_lens {l : List SN} (h : cGood l 10 200 = true) : Lens 200 l := by
  obtain ⟨h1, h2⟩ := good_lens h
  exact ⟨by omega, fun s hs => by have := h2 s hs; omega⟩
theorem ats_nil (l : List SN) : pAts l [] = cAts l := by unfold pAts; simp [pPlan]
theorem fq_len {l : List SN} (h : cGood l 10 200 = true) : (pUsed l []).length = (cAts l).length := by
  have := used_len (l := l) (ps := []) (by rw [ats_nil]; exact good_nodup h)
  rw [ats_nil] at this
  exact this
theorem fq_in {l : List SN} (h : cGood l 10 200 = true) : ∀ x ∈ pUsed l [], 0 ≤ x ∧ x < 200 := by
  intro x hx
  rw [used_mem, ats_nil] at hx
  unfold cAts at hx
  obtain ⟨t, ht, hx⟩ := List.mem_flatten.1 hx
  obtain ⟨s, hs, rfl⟩ := List.mem_map.1 ht
  obtain ⟨p, hp, rfl⟩ := List.mem_map.1 hx
  obtain ⟨-, h2, -⟩ := (good_iff _ _ _).1 h
  have h3 := ((fit_iff _ _ _).1 (h2 s hs).2.2).2.1
  have := ((tGood_iff _ _ _).1 h3).1 p hp
  omega
theorem fq_free {l : List SN} (h : cGood l 10 200 = true) : (pFree (pUsed l []) 200).length + (pUsed l []).length = 200 := by
  have h1 := free_len (used_rise l []) 200
  have h2 : pWith (pUsed l []) ((200 : Nat) : Int) = pUsed l [] := by
    unfold pWith
    rw [List.filter_eq_self]
    intro x hx
    have := fq_in h x hx
    simp
    omega
  rw [h2] at h1
  exact h1
theorem fq_sub {l : List SN} {i : Nat} (h : ∀ x ∈ cAts (dropAt l i), x ∈ cAts l) {x : Int} (hx : x ∈ pUsed (dropAt l i) []) : x ∈ pUsed l [] := by
  rw [used_mem, ats_nil] at hx ⊢
  exact h x hx
def fqN (a b : List (Int × Int)) (j : Nat) : Nat := ((b.take j).filter fun p => !(tFind a p.1).isSome).length
theorem fqN_succ {a b : List (Int × Int)} {j : Nat} {p : Int × Int} (h : b[j]? = some p) : fqN a b (j + 1) = if (tFind a p.1).isSome then fqN a b j else fqN a b j + 1 := by
  unfold fqN
  rw [List.take_add_one, h, List.filter_append, Option.toList_some]
  cases hf : tFind a p.1 with
  | some i => rw [List.filter_cons_of_neg (by simp [hf]), List.filter_nil, List.append_nil, if_pos (show (some i).isSome = true from rfl)]
  | none => rw [List.filter_cons_of_pos (by simp [hf]), List.filter_nil, List.length_append, if_neg (by simp)]; rfl
theorem fqN_le (a b : List (Int × Int)) (j : Nat) : fqN a b j ≤ j := by
  unfold fqN
  have := List.length_filter_le (fun p : Int × Int => !(tFind a p.1).isSome) (b.take j)
  rw [List.length_take] at this
  omega
theorem fqN_all (a b : List (Int × Int)) : fqN a b b.length + (tFree a b).length = b.length := by
  unfold fqN tFree
  rw [List.take_length, List.length_map]
  induction b with
  | nil => rfl
  | cons p b ih =>
    cases hf : tFind a p.1 with
    | some i => rw [List.filter_cons_of_neg (by simp [hf]), List.filter_cons_of_pos (by simp [hf])]; simp only [List.length_cons]; omega
    | none => rw [List.filter_cons_of_pos (by simp [hf]), List.filter_cons_of_neg (by simp [hf])]; simp only [List.length_cons]; omega
theorem ap_step2 {us : List Int} (h : us.Pairwise (· < ·)) {i : Nat} {u v : Int} (hu : us[i]? = some u) (hv : us[i + 1]? = some v) : u < v := by
  obtain ⟨h1, rfl⟩ := List.getElem?_eq_some_iff.1 hu
  obtain ⟨h2, rfl⟩ := List.getElem?_eq_some_iff.1 hv
  exact List.pairwise_iff_getElem.1 h i (i + 1) h1 h2 (by omega)
theorem fq_stop {was : List Int} (h : was.Pairwise (· < ·)) {t at_ : Nat} {v y : Int} (hle : at_ ≤ t) (ht : was[t]? = some v) (ha : was[at_]? = some y) (hy : ¬ y < v) : at_ = t := by
  obtain ⟨h1, rfl⟩ := List.getElem?_eq_some_iff.1 ht
  obtain ⟨h2, rfl⟩ := List.getElem?_eq_some_iff.1 ha
  by_cases e : at_ = t
  · exact e
  · have := List.pairwise_iff_getElem.1 h at_ t h2 h1 (by omega)
    omega
theorem fq_move {was : List Int} {t at_ : Nat} {v y : Int} (hle : at_ ≤ t) (ht : was[t]? = some v) (ha : was[at_]? = some y) (hy : y < v) : at_ + 1 ≤ t := by
  by_cases e : at_ = t
  · subst e; rw [ht] at ha; cases ha; omega
  · omega
theorem fq_next {was now : List Int} (h : was.Pairwise (· < ·)) (hn : now.Pairwise (· < ·)) {j t t' : Nat} {v v' : Int} (h1 : now[j]? = some v) (h2 : now[j + 1]? = some v') (h3 : was[t]? = some v) (h4 : was[t']? = some v') : t ≤ t' := by
  have hv := ap_step2 hn h1 h2
  obtain ⟨a1, rfl⟩ := List.getElem?_eq_some_iff.1 h3
  obtain ⟨a2, rfl⟩ := List.getElem?_eq_some_iff.1 h4
  rcases Nat.lt_or_ge t' t with hlt | hge
  · have := List.pairwise_iff_getElem.1 h t' t a2 a1 hlt
    omega
  · exact hge
set_option maxRecDepth 100000 in
/-- One snapshot out of a row. -/
theorem elem_snp : Try.prog.underlying 22 = some (.slice (Try.prog.elem 22)) := by kernel_rfl
set_option maxRecDepth 100000 in
theorem sizeOf_snp (W : World) : (sizeOf (Try.prog.elem 22)).run Try.prog W = .ok 3 W := by kernel_rfl
set_option maxRecDepth 100000 in
theorem snp_one {W : World} {b off n cap k : Nat} {l : List SN} {s : SN} (h : Snp W (.slice (some ⟨b, off, none⟩) n cap) l) (hk : l[k]? = some s) (hn : n = l.length) :
    (∀ W' : World, (Instr.sliceAt 22 (.slice (some ⟨b, off, none⟩) n cap) (some (.int .i64 (k : Int))) (some (.int .i64 ((k : Int) + 1))) none).run Try.prog W' = .ok (.slice (some ⟨b, off + k * 3, none⟩) 1 (cap - k)) W') ∧ Snp W (.slice (some ⟨b, off + k * 3, none⟩) 1 (cap - k)) [s] := by
  obtain ⟨r, a', cap', e, h1, h2, hz, hr, hs, h4⟩ := h
  simp only [Value.slice.injEq] at e
  obtain ⟨rfl, -, rfl⟩ := e
  have hkl := (List.getElem?_eq_some_iff.1 hk).1
  refine ⟨fun W' => ?_, ?_⟩
  · rw [run_sliceAt_slice (h := elem_snp), run_slice_lh (ht := elem_snp) (kl := .i64) (kh := .i64) (h0 := by omega) (h1 := by omega) (h2 := by omega), sizeOf_snp]
    have e1 : ((k : Int) + 1).toNat - ((k : Int)).toNat = 1 := by omega
    simp only [Result.andThen, sliced, Int.toNat_natCast]
    rw [show ((k : Int) + 1).toNat = k + 1 by omega, show k + 1 - k = 1 by omega, if_neg (by omega)]
    show Result.ok (Value.slice (some _) 1 (cap - k)) W' = _
    congr 3
    unfold Addr.add
    split <;> simp_all
  · rcases h4 with rfl | ⟨b', off', e', h5, h6⟩
    · simp at hkl
    · cases e'
      obtain ⟨q, hq⟩ : ∃ q, r[k]? = some q := ⟨_, List.getElem?_eq_getElem (by omega)⟩
      refine ⟨[q], some ⟨b, off + k * 3, none⟩, cap - k, rfl, by simp; omega, by omega, (fun e => by cases e), rfl, fun j q' s' ha hb => ?_, .inr ⟨b, off + k * 3, rfl, h5, fun j p hj => ?_⟩⟩
      · match j with
        | 0 => cases ha; cases hb; exact hs k _ _ hq hk
        | j + 1 => simp at ha
      · match j with
        | 0 =>
          cases hj
          have := h6 k _ hq
          simpa using this
        | j + 1 => simp at hj
theorem hold_one (s : SN) (b : Int) : (cHold [s] 0 b).isSome = (tFind s.tb b).isSome := by
  unfold cHold
  rw [if_neg (by omega)]
  show (firstT [s] b).isSome = _
  rw [firstT_cons]
  cases h : (tFind s.tb b).isSome with
  | true => simp
  | false => simp [firstT]
set_option maxRecDepth 100000 in
theorem po_build_st1 (x : Option Addr) (n c : Nat) (w : World) : (Instr.build 48 #[(1, .slice x n c)]).run Try.prog w = .ok (.agg #[.slice none 0 0, .slice x n c, .int .i64 0, .int .i64 0, .int .i64 0, .slice none 0 0]) w := by kernel_rfl
end
end Go.Proofs.Ytiidfffedoekiaa
