/- Plain facts: which places are used, how many are free, the free ones in order; no program. -/
import Derived.Test.YtiidfffedoekiaaTbSrt
import Derived.Test.YtiidfffedoekiaaChMath
namespace Go.Proofs.Ytiidfffedoekiaa
open Go.RowKit Go.Lib Go.Sort
set_option linter.unusedVariables false

theorem compact_rise {zs : List Int} (h : zs.Pairwise (· ≤ ·)) : (Lib.compact zs).Pairwise (· < ·) := by
  unfold Lib.compact compactUpTo
  rw [List.pairwise_map]
  have hr : ((List.range zs.length).filter (keeps zs.toArray)).Pairwise (· < ·) := List.Pairwise.filter _ List.pairwise_lt_range
  refine hr.imp_of_mem fun {i j} hi hj hij => ?_
  obtain ⟨hj1, hj2⟩ := List.mem_filter.1 hj
  have hjl := List.mem_range.1 hj1
  have hs := List.pairwise_iff_getElem.1 h
  unfold keeps at hj2
  have h4 := of_decide_eq_true hj2
  have h5 : zs[j] ≠ zs[j - 1] := by
    rcases h4 with h4 | h4
    · omega
    · simpa [getElem!_pos, hjl, show j - 1 < zs.length by omega] using h4
  have h3 : zs[i] ≤ zs[j - 1] := by
    by_cases e : i = j - 1
    · subst e; exact Int.le_refl _
    · exact hs i (j - 1) (by omega) (by omega) (by omega)
  have h2 : zs[j - 1] ≤ zs[j] := hs (j - 1) j (by omega) hjl (by omega)
  simp only [getElem!_pos, List.size_toArray, hjl, show i < zs.length by omega, List.getElem_toArray]
  omega
theorem compact_mem (zs : List Int) (x : Int) : x ∈ Lib.compact zs ↔ x ∈ zs := by
  have hall : ∀ j, (hj : j < zs.length) → zs[j] ∈ Lib.compact zs := by
    intro j
    induction j with
    | zero =>
      intro hj
      unfold Lib.compact compactUpTo
      refine List.mem_map.2 ⟨0, List.mem_filter.2 ⟨List.mem_range.2 hj, by simp [keeps]⟩, ?_⟩
      simp [getElem!_pos, hj]
    | succ j ih =>
      intro hj
      by_cases e : zs[j + 1] = zs[j]
      · rw [e]; exact ih (by omega)
      · unfold Lib.compact compactUpTo
        refine List.mem_map.2 ⟨j + 1, List.mem_filter.2 ⟨List.mem_range.2 hj, ?_⟩, ?_⟩
        · unfold keeps
          refine decide_eq_true (.inr ?_)
          simpa [getElem!_pos, hj, show j < zs.length by omega] using e
        · simp [getElem!_pos, hj]
  constructor
  · intro h
    unfold Lib.compact compactUpTo at h
    obtain ⟨j, hj, rfl⟩ := List.mem_map.1 h
    have hjl := List.mem_range.1 (List.mem_filter.1 hj).1
    simp [getElem!_pos, hjl]
  · intro h
    obtain ⟨j, hj, rfl⟩ := List.getElem_of_mem h
    exact hall j hj

/-- The places of a plan; all places; the used ones. -/
def pPlan (ps : List (Int × Int)) : List Int := (ps.filter fun p => !(p.2 == 255)).map (·.2)
def pAts (l : List SN) (ps : List (Int × Int)) : List Int := cAts l ++ pPlan ps
def pUsed (l : List SN) (ps : List (Int × Int)) : List Int := Lib.compact (sorted (pAts l ps))
theorem pPlan_snoc (ps : List (Int × Int)) (p : Int × Int) : pPlan (ps ++ [p]) = if p.2 == 255 then pPlan ps else pPlan ps ++ [p.2] := by
  unfold pPlan
  rw [List.filter_append, List.map_append]
  by_cases h : p.2 = 255
  · simp [h]
  · simp [h]
theorem pPlan_len (ps : List (Int × Int)) : (pPlan ps).length ≤ ps.length := by
  unfold pPlan
  rw [List.length_map]
  exact List.length_filter_le _ _
theorem used_rise (l : List SN) (ps : List (Int × Int)) : (pUsed l ps).Pairwise (· < ·) := compact_rise (sorted_rise _)
theorem used_mem (l : List SN) (ps : List (Int × Int)) (x : Int) : x ∈ pUsed l ps ↔ x ∈ pAts l ps := by
  unfold pUsed
  rw [compact_mem, (sorted_perm _).mem_iff]
theorem used_len {l : List SN} {ps : List (Int × Int)} (h : (pAts l ps).Nodup) : (pUsed l ps).length = (pAts l ps).length := (sorted_compact _).2 h
theorem used_le (l : List SN) (ps : List (Int × Int)) : (pUsed l ps).length ≤ (pAts l ps).length := by
  have h := compact_length_le (sorted (pAts l ps))
  rw [sorted_len] at h
  exact h
theorem pAts_is {l : List SN} {ps : List (Int × Int)} (hl : ∀ s ∈ l, Is64s s.tb) (hp : Is64s ps) : ∀ x ∈ pAts l ps, Is64 x := by
  intro x hx
  unfold pAts cAts pPlan at hx
  rw [List.mem_append] at hx
  rcases hx with hx | hx
  · obtain ⟨t, ht, hx⟩ := List.mem_flatten.1 hx
    obtain ⟨s, hs, rfl⟩ := List.mem_map.1 ht
    obtain ⟨p, hp, rfl⟩ := List.mem_map.1 hx
    exact (hl s hs p hp).2
  · obtain ⟨p, hm, rfl⟩ := List.mem_map.1 hx
    exact (hp p (List.mem_filter.1 hm).1).2

/-! Those within. -/
theorem take_count {c : Int} : ∀ {u : List Int}, u.Pairwise (· < ·) → u.take (u.countP fun x => decide (x < c)) = u.filter (fun x => decide (x < c)) ∧ u.drop (u.countP fun x => decide (x < c)) = u.filter (fun x => decide (c ≤ x))
  | [], _ => by simp
  | x :: u, h => by
    obtain ⟨h1, h2⟩ := List.pairwise_cons.1 h
    obtain ⟨i1, i2⟩ := take_count (c := c) h2
    by_cases hx : x < c
    · rw [List.countP_cons_of_pos (by simpa using hx), List.filter_cons_of_pos (by simpa using hx), List.filter_cons_of_neg (by simp; omega)]
      exact ⟨by rw [List.take_succ_cons, i1], by rw [List.drop_succ_cons, i2]⟩
    · have hz : u.countP (fun x => decide (x < c)) = 0 := by
        rw [List.countP_eq_zero]
        intro y hy
        have := h1 y hy
        simp; omega
      rw [List.countP_cons_of_neg (by simpa using hx), List.filter_cons_of_neg (by simpa using hx), List.filter_cons_of_pos (by simp; omega), hz]
      rw [hz] at i1 i2
      rw [List.take_zero] at i1
      rw [List.drop_zero] at i2
      exact ⟨by rw [List.take_zero, ← i1], by rw [List.drop_zero, ← i2]⟩
def pWith (u : List Int) (ar : Int) : List Int := u.filter fun x => decide (0 ≤ x) && decide (x < ar)
theorem with_seg {u : List Int} (h : u.Pairwise (· < ·)) (ar : Int) (h0 : 0 ≤ ar) : (u.take (u.countP fun x => decide (x < ar))).drop (u.countP fun x => decide (x < 0)) = pWith u ar := by
  rw [(take_count h).1]
  have hf : (u.filter fun x => decide (x < ar)).Pairwise (· < ·) := h.filter _
  have hc : (u.filter fun x => decide (x < ar)).countP (fun x => decide (x < 0)) = u.countP fun x => decide (x < 0) := by
    rw [List.countP_filter]
    congr 1
    funext x
    rw [Bool.eq_iff_iff]
    simp
    omega
  have := (take_count (c := 0) hf).2
  rw [hc] at this
  rw [this, List.filter_filter]
  rfl
theorem below_le {u : List Int} {a b : Int} (h : a ≤ b) : (u.countP fun x => decide (x < a)) ≤ u.countP fun x => decide (x < b) := by
  refine List.countP_mono_left fun x _ hx => ?_
  simp at hx ⊢
  omega
theorem with_mem (u : List Int) (ar x : Int) : x ∈ pWith u ar ↔ x ∈ u ∧ 0 ≤ x ∧ x < ar := by
  unfold pWith
  rw [List.mem_filter]
  simp
theorem with_rise {u : List Int} (h : u.Pairwise (· < ·)) (ar : Int) : (pWith u ar).Pairwise (· < ·) := h.filter _

/-! The free ones. -/
def pFree (u : List Int) (ar : Nat) : List Nat := (List.range ar).filter fun v => !(u.contains (v : Int))
theorem free_succ (u : List Int) (ar : Nat) : pFree u (ar + 1) = if u.contains (ar : Int) then pFree u ar else pFree u ar ++ [ar] := by
  unfold pFree
  rw [List.range_succ, List.filter_append]
  by_cases h : (ar : Int) ∈ u
  · simp [h]
  · simp [h]
theorem free_zero (u : List Int) : pFree u 0 = [] := rfl
theorem free_mem12 {u : List Int} {ar v : Nat} : v ∈ pFree u ar ↔ v < ar ∧ (v : Int) ∉ u := by
  unfold pFree
  rw [List.mem_filter]
  simp
theorem count_succ {u : List Int} (h : u.Pairwise (· < ·)) (ar : Nat) : (pWith u ((ar + 1 : Nat) : Int)).length = (pWith u (ar : Int)).length + if u.contains (ar : Int) then 1 else 0 := by
  induction u with
  | nil => simp [pWith]
  | cons x u ih =>
    obtain ⟨h1, h2⟩ := List.pairwise_cons.1 h
    have ih := ih h2
    unfold pWith at ih ⊢
    by_cases hx : x = (ar : Int)
    · have hn : u.contains (ar : Int) = false := by
        rw [Bool.eq_false_iff]
        intro e
        have := h1 (ar : Int) (by simpa using e)
        omega
      rw [hn] at ih
      rw [List.filter_cons_of_pos (by simp; omega), List.filter_cons_of_neg (by simp; omega), List.contains_cons, show ((ar : Int) == x) = true by simp [hx]]
      simp only [Bool.false_eq_true, if_false, Bool.true_or, if_true, List.length_cons] at ih ⊢
      omega
    · have hc : (x :: u).contains (ar : Int) = u.contains (ar : Int) := by
        rw [List.contains_cons, show ((ar : Int) == x) = false by simp; omega, Bool.false_or]
      rw [hc]
      by_cases hy : 0 ≤ x ∧ x < (ar : Int)
      · rw [List.filter_cons_of_pos (by simp; omega), List.filter_cons_of_pos (by simp; omega)]
        simp only [List.length_cons]
        omega
      · rw [List.filter_cons_of_neg (by simp; omega), List.filter_cons_of_neg (by simp; omega)]
        exact ih
theorem free_len {u : List Int} (h : u.Pairwise (· < ·)) : ∀ ar : Nat, (pFree u ar).length + (pWith u (ar : Int)).length = ar
  | 0 => by
    have : pWith u ((0 : Nat) : Int) = [] := by
      unfold pWith
      rw [List.filter_eq_nil_iff]
      intro x _
      first | (simp; done) | (simp; omega)
    rw [this]
    rfl
  | ar + 1 => by
    have ih := free_len h ar
    rw [count_succ h, free_succ]
    by_cases hc : u.contains (ar : Int) = true
    · rw [if_pos hc, if_pos hc]; omega
    · rw [if_neg hc, if_neg hc, List.length_append]
      simp only [List.length_cons, List.length_nil]
      omega
theorem free_take (u : List Int) {a ar : Nat} (h : a ≤ ar) : ∃ m, pFree u ar = pFree u a ++ m := by
  obtain ⟨d, rfl⟩ : ∃ d, ar = a + d := ⟨ar - a, by omega⟩
  clear h
  induction d with
  | zero => exact ⟨[], by simp⟩
  | succ d ih =>
    obtain ⟨m, hm⟩ := ih
    rw [← Nat.add_assoc, free_succ]
    split
    · exact ⟨m, hm⟩
    · exact ⟨m ++ [a + d], by rw [hm, List.append_assoc]⟩
/-- The number a, if it is free, is the one behind as many as are free ahead of it. -/
theorem free_at {u : List Int} {a ar : Nat} (h : a < ar) (hu : (a : Int) ∉ u) : (pFree u ar)[(pFree u a).length]? = some a := by
  obtain ⟨m, hm⟩ := free_take u (a := a + 1) (ar := ar) h
  rw [hm, free_succ, if_neg (by simpa using hu), List.append_assoc, List.getElem?_append_right (Nat.le_refl _), Nat.sub_self]
  rfl
theorem free_lt {u : List Int} {a ar : Nat} (h : a < ar) (hu : (a : Int) ∉ u) : (pFree u a).length < (pFree u ar).length := (List.getElem?_eq_some_iff.1 (free_at h hu)).1
theorem free_le (u : List Int) {a ar : Nat} (h : a ≤ ar) : (pFree u a).length ≤ (pFree u ar).length := by
  obtain ⟨m, hm⟩ := free_take u h
  rw [hm, List.length_append]; omega
theorem free_all (ar : Nat) : pFree [] ar = List.range ar := by
  unfold pFree
  rw [List.filter_eq_self]
  intro x _
  rfl
/-- What is left of the used ones within, from a on. -/
def pRest (u : List Int) (ar a : Int) : List Int := (pWith u ar).filter fun x => decide (a ≤ x)
theorem rest_zero (u : List Int) (ar : Int) : pRest u ar 0 = pWith u ar := by
  unfold pRest pWith
  rw [List.filter_filter]
  congr 1
  funext x
  cases h : decide (0 ≤ x) <;> simp
theorem rest_hit {u : List Int} (h : u.Pairwise (· < ·)) {ar a : Int} (h0 : 0 ≤ a) (h1 : a < ar) (hm : a ∈ u) : pRest u ar a = a :: pRest u ar (a + 1) := by
  unfold pRest
  have hw := with_rise h ar
  have hm2 := (with_mem u ar a).2 ⟨hm, h0, h1⟩
  obtain ⟨v, hv⟩ : ∃ v, pWith u ar = v := ⟨_, rfl⟩
  rw [hv] at hw hm2 ⊢
  clear hv
  induction v with
  | nil => cases hm2
  | cons x v ih =>
    obtain ⟨g1, g2⟩ := List.pairwise_cons.1 hw
    rcases List.mem_cons.1 hm2 with rfl | hm3
    · rw [List.filter_cons_of_pos (by simp), List.filter_cons_of_neg (by simp; omega)]
      congr 1
      refine List.filter_congr fun y hy => ?_
      have := g1 y hy
      rw [decide_eq_true (by omega), decide_eq_true (by omega)]
    · have := g1 a hm3
      rw [List.filter_cons_of_neg (by simp; omega), List.filter_cons_of_neg (by simp; omega)]
      first | exact ih hm3 g2 | exact ih g2 hm3
theorem rest_miss {u : List Int} {ar a : Int} (hm : a ∉ u) : pRest u ar a = pRest u ar (a + 1) := by
  unfold pRest
  refine List.filter_congr fun y hy => ?_
  have hy2 := ((with_mem u ar y).1 hy).1
  have : y ≠ a := fun e => hm (e ▸ hy2)
  rw [Bool.eq_iff_iff]
  simp
  omega
theorem rest_head {u : List Int} {ar a : Int} (hm : a ∉ u) {x : Int} (hx : (pRest u ar a)[0]? = some x) : (x == a) = false := by
  have hx2 := List.mem_of_getElem? hx
  unfold pRest at hx2
  have h3 := ((with_mem u ar x).1 (List.mem_filter.1 hx2).1).1
  rw [beq_eq_false_iff_ne]
  exact fun e => hm (e ▸ h3)
end Go.Proofs.Ytiidfffedoekiaa
