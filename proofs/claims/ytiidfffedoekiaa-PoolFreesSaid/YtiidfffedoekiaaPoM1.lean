/- Plain facts on used and free places; states in memory; a range over a function whose iterator has memory of its own. -/
import Derived.Test.YtiidfffedoekiaaTbSrt
import Derived.Test.YtiidfffedoekiaaChMath
import Derived.Test.YtiidfffedoekiaaChSn
import Derived.Test.YtiidfffedoekiaaNum
namespace Go.Proofs.Ytiidfffedoekiaa
section
open Go.RowKit Go.Lib Go.Sort
set_option linter.unusedVariables false

theorem compact_rise {zs : List Int} (h : zs.Pairwise (· ≤ ·)) : (Lib.compact zs).Pairwise (· < ·) := by
  unfold Lib.compact compactUpTo
  rw [List.pairwise_map]
  have hr : ((List.range zs.length).filter (keeps zs.toArray)).Pairwise (· < ·) := List.Pairwise.filter _ List.pairwise_lt_range
  refine hr.imp_of_mem fun {i j} hi hj hij => ?_
  obtain ⟨hj1, hj2⟩ := List.mem_filter.1 hj
  have hjl := List.mem_range.1 hj1
  have hs := List.pairwise_iff_getElem.1 h
  unfold keeps at hj2
  have h4 := of_decide_eq_true hj2
  have h5 : zs[j] ≠ zs[j - 1] := by
    rcases h4 with h4 | h4
    · omega
    · simpa [getElem!_pos, hjl, show j - 1 < zs.length by omega] using h4
  have h3 : zs[i] ≤ zs[j - 1] := by
    by_cases e : i = j - 1
    · subst e; exact Int.le_refl _
    · exact hs i (j - 1) (by omega) (by omega) (by omega)
  have h2 : zs[j - 1] ≤ zs[j] := hs (j - 1) j (by omega) hjl (by omega)
  simp only [getElem!_pos, List.size_toArray, hjl, show i < zs.length by omega, List.getElem_toArray]
  omega
theorem compact_mem (zs : List Int) (x : Int) : x ∈ Lib.compact zs ↔ x ∈ zs := by
  have hall : ∀ j, (hj : j < zs.length) → zs[j] ∈ Lib.compact zs := by
    intro j
    induction j with
    | zero =>
      intro hj
      unfold Lib.compact compactUpTo
      refine List.mem_map.2 ⟨0, List.mem_filter.2 ⟨List.mem_range.2 hj, by simp [keeps]⟩, ?_⟩
      simp [getElem!_pos, hj]
    | succ j ih =>
      intro hj
      by_cases e : zs[j + 1] = zs[j]
      · rw [e]; exact ih (by omega)
      · unfold Lib.compact compactUpTo
        refine List.mem_map.2 ⟨j + 1, List.mem_filter.2 ⟨List.mem_range.2 hj, ?_⟩, ?_⟩
        · unfold keeps
          refine decide_eq_true (.inr ?_)
          simpa [getElem!_pos, hj, show j < zs.length by omega] using e
        · simp [getElem!_pos, hj]
  constructor
  · intro h
    unfold Lib.compact compactUpTo at h
    obtain ⟨j, hj, rfl⟩ := List.mem_map.1 h
    have hjl := List.mem_range.1 (List.mem_filter.1 hj).1
    simp [getElem!_pos, hjl]
  · intro h
    obtain ⟨j, hj, rfl⟩ := List.getElem_of_mem h
    exact hall j hj

/-- The places of a plan; all places; the used ones. -/
def pPlan (ps : List (Int × Int)) : List Int := (ps.filter fun p => !(p.2 == 255)).map (·.2)
def pAts (l : List SN) (ps : List (Int × Int)) : List Int := cAts l ++ pPlan ps
def pUsed (l : List SN) (ps : List (Int × Int)) : List Int := Lib.compact (sorted (pAts l ps))
theorem pPlan_snoc (ps : List (Int × Int)) (p : Int × Int) : pPlan (ps ++ [p]) = if p.2 == 255 then pPlan ps else pPlan ps ++ [p.2] := by
  unfold pPlan
  rw [List.filter_append, List.map_append]
  by_cases h : p.2 = 255
  · simp [h]
  · simp [h]
theorem pPlan_len (ps : List (Int × Int)) : (pPlan ps).length ≤ ps.length := by
  unfold pPlan
  rw [List.length_map]
  exact List.length_filter_le _ _
theorem used_rise (l : List SN) (ps : List (Int × Int)) : (pUsed l ps).Pairwise (· < ·) := compact_rise (sorted_rise _)
theorem used_mem (l : List SN) (ps : List (Int × Int)) (x : Int) : x ∈ pUsed l ps ↔ x ∈ pAts l ps := by
  unfold pUsed
  rw [compact_mem, (sorted_perm _).mem_iff]
theorem used_len {l : List SN} {ps : List (Int × Int)} (h : (pAts l ps).Nodup) : (pUsed l ps).length = (pAts l ps).length := (sorted_compact _).2 h
theorem used_le (l : List SN) (ps : List (Int × Int)) : (pUsed l ps).length ≤ (pAts l ps).length := by
  have h := compact_length_le (sorted (pAts l ps))
  rw [sorted_len] at h
  exact h
theorem pAts_is {l : List SN} {ps : List (Int × Int)} (hl : ∀ s ∈ l, Is64s s.tb) (hp : Is64s ps) : ∀ x ∈ pAts l ps, Is64 x := by
  intro x hx
  unfold pAts cAts pPlan at hx
  rw [List.mem_append] at hx
  rcases hx with hx | hx
  · obtain ⟨t, ht, hx⟩ := List.mem_flatten.1 hx
    obtain ⟨s, hs, rfl⟩ := List.mem_map.1 ht
    obtain ⟨p, hp, rfl⟩ := List.mem_map.1 hx
    exact (hl s hs p hp).2
  · obtain ⟨p, hm, rfl⟩ := List.mem_map.1 hx
    exact (hp p (List.mem_filter.1 hm).1).2

/-! Those within. -/
theorem take_count {c : Int} : ∀ {u : List Int}, u.Pairwise (· < ·) → u.take (u.countP fun x => decide (x < c)) = u.filter (fun x => decide (x < c)) ∧ u.drop (u.countP fun x => decide (x < c)) = u.filter (fun x => decide (c ≤ x))
  | [], _ => by simp
  | x :: u, h => by
    obtain ⟨h1, h2⟩ := List.pairwise_cons.1 h
    obtain ⟨i1, i2⟩ := take_count (c := c) h2
    by_cases hx : x < c
    · rw [List.countP_cons_of_pos (by simpa using hx), List.filter_cons_of_pos (by simpa using hx), List.filter_cons_of_neg (by simp; omega)]
      exact ⟨by rw [List.take_succ_cons, i1], by rw [List.drop_succ_cons, i2]⟩
    · have hz : u.countP (fun x => decide (x < c)) = 0 := by
        rw [List.countP_eq_zero]
        intro y hy
        have := h1 y hy
        simp; omega
      rw [List.countP_cons_of_neg (by simpa using hx), List.filter_cons_of_neg (by simpa using hx), List.filter_cons_of_pos (by simp; omega), hz]
      rw [hz] at i1 i2
      rw [List.take_zero] at i1
      rw [List.drop_zero] at i2
      exact ⟨by rw [List.take_zero, ← i1], by rw [List.drop_zero, ← i2]⟩
def pWith (u : List Int) (ar : Int) : List Int := u.filter fun x => decide (0 ≤ x) && decide (x < ar)
theorem with_seg {u : List Int} (h : u.Pairwise (· < ·)) (ar : Int) (h0 : 0 ≤ ar) : (u.take (u.countP fun x => decide (x < ar))).drop (u.countP fun x => decide (x < 0)) = pWith u ar := by
  rw [(take_count h).1]
  have hf : (u.filter fun x => decide (x < ar)).Pairwise (· < ·) := h.filter _
  have hc : (u.filter fun x => decide (x < ar)).countP (fun x => decide (x < 0)) = u.countP fun x => decide (x < 0) := by
    rw [List.countP_filter]
    congr 1
    funext x
    rw [Bool.eq_iff_iff]
    simp
    omega
  have := (take_count (c := 0) hf).2
  rw [hc] at this
  rw [this, List.filter_filter]
  rfl
theorem below_le {u : List Int} {a b : Int} (h : a ≤ b) : (u.countP fun x => decide (x < a)) ≤ u.countP fun x => decide (x < b) := by
  refine List.countP_mono_left fun x _ hx => ?_
  simp at hx ⊢
  omega
theorem with_mem (u : List Int) (ar x : Int) : x ∈ pWith u ar ↔ x ∈ u ∧ 0 ≤ x ∧ x < ar := by
  unfold pWith
  rw [List.mem_filter]
  simp
theorem with_rise {u : List Int} (h : u.Pairwise (· < ·)) (ar : Int) : (pWith u ar).Pairwise (· < ·) := h.filter _

/-! The free ones. -/
def pFree (u : List Int) (ar : Nat) : List Nat := (List.range ar).filter fun v => !(u.contains (v : Int))
theorem free_succ (u : List Int) (ar : Nat) : pFree u (ar + 1) = if u.contains (ar : Int) then pFree u ar else pFree u ar ++ [ar] := by
  unfold pFree
  rw [List.range_succ, List.filter_append]
  by_cases h : (ar : Int) ∈ u
  · simp [h]
  · simp [h]
theorem free_zero (u : List Int) : pFree u 0 = [] := rfl
theorem free_mem12 {u : List Int} {ar v : Nat} : v ∈ pFree u ar ↔ v < ar ∧ (v : Int) ∉ u := by
  unfold pFree
  rw [List.mem_filter]
  simp
theorem count_succ {u : List Int} (h : u.Pairwise (· < ·)) (ar : Nat) : (pWith u ((ar + 1 : Nat) : Int)).length = (pWith u (ar : Int)).length + if u.contains (ar : Int) then 1 else 0 := by
  induction u with
  | nil => simp [pWith]
  | cons x u ih =>
    obtain ⟨h1, h2⟩ := List.pairwise_cons.1 h
    have ih := ih h2
    unfold pWith at ih ⊢
    by_cases hx : x = (ar : Int)
    · have hn : u.contains (ar : Int) = false := by
        rw [Bool.eq_false_iff]
        intro e
        have := h1 (ar : Int) (by simpa using e)
        omega
      rw [hn] at ih
      rw [List.filter_cons_of_pos (by simp; omega), List.filter_cons_of_neg (by simp; omega), List.contains_cons, show ((ar : Int) == x) = true by simp [hx]]
      simp only [Bool.false_eq_true, if_false, Bool.true_or, if_true, List.length_cons] at ih ⊢
      omega
    · have hc : (x :: u).contains (ar : Int) = u.contains (ar : Int) := by
        rw [List.contains_cons, show ((ar : Int) == x) = false by simp; omega, Bool.false_or]
      rw [hc]
      by_cases hy : 0 ≤ x ∧ x < (ar : Int)
      · rw [List.filter_cons_of_pos (by simp; omega), List.filter_cons_of_pos (by simp; omega)]
        simp only [List.length_cons]
        omega
      · rw [List.filter_cons_of_neg (by simp; omega), List.filter_cons_of_neg (by simp; omega)]
        exact ih
theorem free_len {u : List Int} (h : u.Pairwise (· < ·)) : ∀ ar : Nat, (pFree u ar).length + (pWith u (ar : Int)).length = ar
  | 0 => by
    have : pWith u ((0 : Nat) : Int) = [] := by
      unfold pWith
      rw [List.filter_eq_nil_iff]
      intro x _
      first | (simp; done) | (simp; omega)
    rw [this]
    rfl
  | ar + 1 => by
    have ih := free_len h ar
    rw [count_succ h, free_succ]
    by_cases hc : u.contains (ar : Int) = true
    · rw [if_pos hc, if_pos hc]; omega
    · rw [if_neg hc, if_neg hc, List.length_append]
      simp only [List.length_cons, List.length_nil]
      omega
theorem free_take (u : List Int) {a ar : Nat} (h : a ≤ ar) : ∃ m, pFree u ar = pFree u a ++ m := by
  obtain ⟨d, rfl⟩ : ∃ d, ar = a + d := ⟨ar - a, by omega⟩
  clear h
  induction d with
  | zero => exact ⟨[], by simp⟩
  | succ d ih =>
    obtain ⟨m, hm⟩ := ih
    rw [← Nat.add_assoc, free_succ]
    split
    · exact ⟨m, hm⟩
    · exact ⟨m ++ [a + d], by rw [hm, List.append_assoc]⟩
/-- The number a, if it is free, is the one behind as many as are free ahead of it. -/
theorem free_at {u : List Int} {a ar : Nat} (h : a < ar) (hu : (a : Int) ∉ u) : (pFree u ar)[(pFree u a).length]? = some a := by
  obtain ⟨m, hm⟩ := free_take u (a := a + 1) (ar := ar) h
  rw [hm, free_succ, if_neg (by simpa using hu), List.append_assoc, List.getElem?_append_right (Nat.le_refl _), Nat.sub_self]
  rfl
theorem free_lt {u : List Int} {a ar : Nat} (h : a < ar) (hu : (a : Int) ∉ u) : (pFree u a).length < (pFree u ar).length := (List.getElem?_eq_some_iff.1 (free_at h hu)).1
theorem free_le (u : List Int) {a ar : Nat} (h : a ≤ ar) : (pFree u a).length ≤ (pFree u ar).length := by
  obtain ⟨m, hm⟩ := free_take u h
  rw [hm, List.length_append]; omega
theorem free_all (ar : Nat) : pFree [] ar = List.range ar := by
  unfold pFree
  rw [List.filter_eq_self]
  intro x _
  rfl
/-- What is left of the used ones within, from a on. -/
def pRest (u : List Int) (ar a : Int) : List Int := (pWith u ar).filter fun x => decide (a ≤ x)
theorem rest_zero (u : List Int) (ar : Int) : pRest u ar 0 = pWith u ar := by
  unfold pRest pWith
  rw [List.filter_filter]
  congr 1
  funext x
  cases h : decide (0 ≤ x) <;> simp
theorem rest_hit {u : List Int} (h : u.Pairwise (· < ·)) {ar a : Int} (h0 : 0 ≤ a) (h1 : a < ar) (hm : a ∈ u) : pRest u ar a = a :: pRest u ar (a + 1) := by
  unfold pRest
  have hw := with_rise h ar
  have hm2 := (with_mem u ar a).2 ⟨hm, h0, h1⟩
  obtain ⟨v, hv⟩ : ∃ v, pWith u ar = v := ⟨_, rfl⟩
  rw [hv] at hw hm2 ⊢
  clear hv
  induction v with
  | nil => cases hm2
  | cons x v ih =>
    obtain ⟨g1, g2⟩ := List.pairwise_cons.1 hw
    rcases List.mem_cons.1 hm2 with rfl | hm3
    · rw [List.filter_cons_of_pos (by simp), List.filter_cons_of_neg (by simp; omega)]
      congr 1
      refine List.filter_congr fun y hy => ?_
      have := g1 y hy
      rw [decide_eq_true (by omega), decide_eq_true (by omega)]
    · have := g1 a hm3
      rw [List.filter_cons_of_neg (by simp; omega), List.filter_cons_of_neg (by simp; omega)]
      first | exact ih hm3 g2 | exact ih g2 hm3
theorem rest_miss {u : List Int} {ar a : Int} (hm : a ∉ u) : pRest u ar a = pRest u ar (a + 1) := by
  unfold pRest
  refine List.filter_congr fun y hy => ?_
  have hy2 := ((with_mem u ar y).1 hy).1
  have : y ≠ a := fun e => hm (e ▸ hy2)
  rw [Bool.eq_iff_iff]
  simp
  omega
theorem rest_head {u : List Int} {ar a : Int} (hm : a ∉ u) {x : Int} (hx : (pRest u ar a)[0]? = some x) : (x == a) = false := by
  have hx2 := List.mem_of_getElem? hx
  unfold pRest at hx2
  have h3 := ((with_mem u ar x).1 (List.mem_filter.1 hx2).1).1
  rw [beq_eq_false_iff_ne]
  exact fun e => hm (e ▸ h3)
end
section
open Go.RowKit
set_option linter.unusedVariables false

/-- A state's six cells. -/
structure PS where
  d : SlV
  sn : SlV
  nx : Int
  kd : Int
  id : Int
  pr : SlV
def stL (q : PS) : List Value := [slV q.d, slV q.sn, .int .i64 q.nx, .int .i64 q.kd, .int .i64 q.id, slV q.pr]
def stV (q : PS) : Value := .agg (stL q).toArray
/-- What they lead to. -/
structure StIs (W : World) (q : PS) (l : List SN) (ps : List (Int × Int)) : Prop where
  sn : Snp W (slV q.sn) l
  pr : Prt W (slV q.pr) ps
theorem StIs.below {W W' : World} {q : PS} {l : List SN} {ps : List (Int × Int)} (h : StIs W q l ps) (hB : Below W.heap.size W W') : StIs W' q l ps := ⟨h.sn.below hB, h.pr.below hB⟩
theorem loadVar_openQ (t : TypeId) (h : t ≠ 39) (h' : t ≠ 42) (h'' : t ≠ 48) (a : Addr) : loadVar t a = (do if ← isAgg t then pure (.agg (← loadCells a (← sizeOf t))) else load a) := rfl
theorem storeVar_openQ (t : TypeId) (h : t ≠ 39) (h' : t ≠ 42) (h'' : t ≠ 48) (a : Addr) (v : Value) : storeVar t a v = (do
    if v.cells.size ≠ (← sizeOf t) then stuck "storeVar: the value has not the size of the variable"
    storeCells a v.cells.toList) := rfl
set_option maxRecDepth 100000 in
theorem zero_st (w : World) : (zeroValue 48).run Try.prog w = .ok (.agg #[.slice none 0 0, .slice none 0 0, .int .i64 0, .int .i64 0, .int .i64 0, .slice none 0 0]) w := by kernel_rfl
set_option maxRecDepth 100000 in
theorem size_st : (Try.prog.info? 48).map (·.size) = some 6 := by kernel_rfl
set_option maxRecDepth 100000 in
theorem load_stC {x : World} {B : Nat} {q : PS} (hr : RowC x B 48 (stL q)) : (loadVar 48 ⟨B, 0, none⟩).run Try.prog x = .ok (stV q) x :=
  run_loadVar_mid x B 0 _ (stL q) _ hr.range Try.underlying48 rfl (by kernel_rfl)
set_option maxRecDepth 100000 in
theorem new_st (x : World) (q : PS) : (storeVar 48 ⟨x.heap.size, 0, none⟩ (stV q)).run Try.prog (x.alloc (.cells #[.slice none 0 0, .slice none 0 0, .int .i64 0, .int .i64 0, .int .i64 0, .slice none 0 0] 48)) = .ok () (x.alloc (.cells (stL q).toArray 48)) :=
  run_storeVar_new x _ _ (stL q).toArray size_st rfl (by kernel_rfl)
set_option maxRecDepth 100000 in
theorem snp_of_cells {W : World} {x : Addr} {len cap : Nat} (h1 : len ≤ cap) (h2 : cap ≤ maxLen) (h3 : ∀ i, i < cap → ∃ es, W.cells? 0 (x.add (i * Try.prog.cellsOf 39)) (Try.prog.cellsOf 39) = some es ∧ Cells W 39 es) :
    ∃ l, Snp W (.slice (some x) len cap) l := by
  rw [show Try.prog.cellsOf 39 = 3 from by kernel_rfl] at h3
  have h4 : ∀ i, i < cap → ∃ p : SV × SN, SnIs W p.1 p.2 ∧ W.cell? (x.add (i * 3)) = some (.int .i64 p.1.1) ∧ W.cell? ((x.add (i * 3)).add 1) = some (slV p.1.2.1) ∧ W.cell? ((x.add (i * 3)).add 2) = some (slV p.1.2.2) := by
    intro i hi
    obtain ⟨es, g1, g2⟩ := h3 i hi
    obtain ⟨q, s, hp, rfl⟩ := snap_of_cells g2
    have hm := (cells_many g1).2
    refine ⟨(q, s), hp, ?_, ?_, ?_⟩
    · obtain ⟨u, hu1, hu2⟩ := hm 0 (by omega)
      cases hu1
      rwa [show (x.add (i * 3)).add 0 = x.add (i * 3) by simp [Addr.add]] at hu2
    · obtain ⟨u, hu1, hu2⟩ := hm 1 (by omega)
      cases hu1
      exact hu2
    · obtain ⟨u, hu1, hu2⟩ := hm 2 (by omega)
      cases hu1
      exact hu2
  have h5 : ∀ i, ∃ p : SV × SN, i < cap → SnIs W p.1 p.2 ∧ W.cell? (x.add (i * 3)) = some (.int .i64 p.1.1) ∧ W.cell? ((x.add (i * 3)).add 1) = some (slV p.1.2.1) ∧ W.cell? ((x.add (i * 3)).add 2) = some (slV p.1.2.2) := fun i => by
    by_cases hi : i < cap
    · obtain ⟨s, hs⟩ := h4 i hi; exact ⟨s, fun _ => hs⟩
    · exact ⟨((0, (none, 0, 0), (none, 0, 0)), ⟨0, [], []⟩), fun h => absurd h hi⟩
  obtain ⟨f, hf⟩ := Classical.axiomOfChoice h5
  refine ⟨(List.range len).map fun i => (f i).2, (List.range len).map fun i => (f i).1, some x, cap, by simp, by simp; omega, h2, (fun e => by cases e), by simp, fun j q s hq hs => ?_, ?_⟩
  · have hjl : j < len := by have := (List.getElem?_eq_some_iff.1 hq).1; simpa using this
    simp [hjl] at hq hs
    subst hq hs
    exact (hf j (by omega)).1
  · by_cases h0 : len = 0
    · subst h0; exact .inl rfl
    · have hc0 := (hf 0 (by omega)).2.1
      rw [Nat.zero_mul, show x.add 0 = x by simp [Addr.add]] at hc0
      obtain ⟨b, off, rfl, hb⟩ := cell_plain hc0
      refine .inr ⟨b, off, rfl, hb, fun j s hj => ?_⟩
      have hjl : j < len := by have := (List.getElem?_eq_some_iff.1 hj).1; simpa using this
      simp [hjl] at hj
      subst hj
      have q := (hf j (by omega)).2
      simp only [add_plain] at q
      exact q
set_option maxRecDepth 100000 in
theorem Cells.snp {W : World} {cs : List Value} (h : Cells W 22 cs) : ∃ (q : SlV) (l : List SN), cs = [slV q] ∧ Snp W (slV q) l := by
  obtain ⟨a, len, cap, e, r⟩ := h.slice Try.underlying22
  subst e
  rcases r with ⟨rfl, rfl, rfl⟩ | ⟨x, rfl, h1, h2, h3⟩
  · exact ⟨(none, 0, 0), [], rfl, Snp.nil W⟩
  · refine ⟨(some x, len, cap), ?_⟩
    obtain ⟨l, hl⟩ := snp_of_cells h1 h2 h3
    exact ⟨l, rfl, hl⟩
set_option maxRecDepth 100000 in
theorem Arg.state {W : World} {v : Value} (h : Arg W 48 v) : ∃ q l ps, v = stV q ∧ StIs W q l ps := by
  obtain ⟨cs, rfl, hl, hcs⟩ := h.agg (.inl ⟨_, Try.underlying48⟩)
  obtain ⟨_, hj⟩ := hcs.struct Try.underlying48
  rw [show Try.prog.cellsOf 48 = 6 from by kernel_rfl] at hl
  have h0 : Cells W 35 ((cs.drop 0).take (Try.prog.cellsOf 35)) := hj 0 _ rfl
  have h1 : Cells W 22 ((cs.drop 1).take (Try.prog.cellsOf 22)) := hj 1 _ rfl
  have h2 : Cells W 3 ((cs.drop 2).take (Try.prog.cellsOf 3)) := hj 2 _ rfl
  have h3 : Cells W 46 ((cs.drop 3).take (Try.prog.cellsOf 46)) := hj 3 _ rfl
  obtain ⟨_, hk⟩ := h3.struct Try.underlying46
  rw [show Try.prog.cellsOf 46 = 3 from by kernel_rfl] at hk
  have k0 : Cells W 3 ((((cs.drop 3).take 3).drop 0).take (Try.prog.cellsOf 3)) := hk 0 _ rfl
  have k1 : Cells W 3 ((((cs.drop 3).take 3).drop 1).take (Try.prog.cellsOf 3)) := hk 1 _ rfl
  have k2 : Cells W 37 ((((cs.drop 3).take 3).drop 2).take (Try.prog.cellsOf 37)) := hk 2 _ rfl
  rw [show Try.prog.cellsOf 35 = 1 from by kernel_rfl] at h0
  rw [show Try.prog.cellsOf 22 = 1 from by kernel_rfl] at h1
  rw [show Try.prog.cellsOf 3 = 1 from by kernel_rfl] at h2 k0 k1
  rw [show Try.prog.cellsOf 37 = 1 from by kernel_rfl] at k2
  match cs, hl with
  | [x0, x1, x2, x3, x4, x5], _ =>
    obtain ⟨a, la, ca, e0, -⟩ := h0.slice Try.underlying35
    obtain ⟨q1, l, e1, hs⟩ := h1.snp
    obtain ⟨n2, e2, -⟩ := h2.int Try.underlying3
    obtain ⟨n3, e3, -⟩ := k0.int Try.underlying3
    obtain ⟨n4, e4, -⟩ := k1.int Try.underlying3
    obtain ⟨c, lc, cc, e5, r5⟩ := k2.slice Try.underlying37
    obtain ⟨ps, hp⟩ := prt_of r5
    simp at e0 e1 e2 e3 e4 e5
    subst e0 e1 e2 e3 e4 e5
    exact ⟨⟨(a, la, ca), q1, n2, n3, n4, (c, lc, cc)⟩, l, ps, rfl, hs, hp⟩
end
section
open Go.RowKit
set_option linter.unusedVariables false

variable {F : Fence} {n : Nat} {P : Program}

/-- Blocks from B up to G lie as they lay. -/
def StayG (B G : Nat) (W W' : World) : Prop := W.heap.size ≤ W'.heap.size ∧ ∀ b, B ≤ b → b < G → W'.heap[b]? = W.heap[b]?
theorem StayG.refl (B G : Nat) (W : World) : StayG B G W W := ⟨Nat.le_refl _, fun _ _ _ => rfl⟩
theorem StayG.trans {B G : Nat} {X Y Z : World} (h : StayG B G X Y) (k : StayG B G Y Z) : StayG B G X Z := ⟨Nat.le_trans h.1 k.1, fun b h1 h2 => (k.2 b h1 h2).trans (h.2 b h1 h2)⟩
theorem StayG.put {B G l : Nat} {W : World} (o : Obj) (h : l < B) : StayG B G W (W.putObj l o) := ⟨by simp, fun b h1 h2 => World.putObj_heap_other (by omega)⟩
theorem StayG.grown {B G : Nat} {W W' : World} {row : Option Nat} (hg : W.grownBy W' row) (hG : G ≤ W.heap.size) (hr : ∀ r, row = some r → r < B ∨ G ≤ r) : StayG B G W W' := ⟨hg.size, fun b h1 h2 => hg.block b (by omega) (fun e => by have := hr b e.symm; omega)⟩
/-- What an iterator of m items owes to a caller whose rounds keep R. -/
def SeqNumG (F : Fence) (n : Nat) (P : Program) (g : Nat) (lb : Array Value) (encs : Nat → Array Value) (R : World → Prop) (m : Nat) (w : World) : Prop :=
  ∀ (l : Nat) (J Jx : Nat → Nat → World → Prop) (W : World), Below w.heap.size w W → (∀ G k W, J G k W → R W) → (∀ G, AbidesFrom W.heap.size (J G)) → (∀ G, AbidesFrom W.heap.size (Jx G)) →
    (∀ G k W1, W.heap.size ≤ G → G ≤ W1.heap.size → k < m → J G k W1 → YieldAt F (n - 1) P l (encs k) W1 fun e W' => StayG W.heap.size G W1 W' ∧ ((e = .returned (.bool true) ∧ J G (k + 1) W') ∨ (e = .returned (.bool false) ∧ Jx G (k + 1) W'))) →
    (∀ G, W.heap.size ≤ G → J G 0 W) →
    CallsIn F n P g (#[.func (.yield l) #[] #[]] ++ lb) W fun e W' => (∃ v, e = .returned v) ∧ ∃ G, W.heap.size ≤ G ∧ (J G m W' ∨ (∃ k, k ≤ m ∧ Jx G k W'))

/-- How a round may be left. -/
def numPostG (B G : Nat) (I : Nat → World → Prop) (Ix : Code → Nat → World → Prop) (k : Nat) (W : World) : Exit → Act → World → Prop
  | .normal, _, W' => (KeepsFrom B W W' ∧ StayG (B + 2) G W W') ∧ I k W'
  | .ret, _, W' => (KeepsFrom B W W' ∧ StayG (B + 2) G W W') ∧ Ix .ret k W'
  | .exit id, _, W' => (KeepsFrom B W W' ∧ StayG (B + 2) G W W') ∧ Ix (.exit id) k W'
  | .goto t, _, W' => (KeepsFrom B W W' ∧ StayG (B + 2) G W W') ∧ Ix (.goto t) k W'
  | .panic _, _, _ => False
  | .outgrown, _, _ => False

/-- **A loop over such an iterator.** -/
theorem wpIn_rangeFunc_numG {g : Operand} {ps : Array Tmp} {assign body : Code} {Q : Exit → Act → World → Prop} {a : Act} {w : World}
    (hro : F.round = none) (h1 : 1 ≤ n) {gf : Nat} {lb : Array Value} (hg : a.eval g = .func (.func gf) #[] lb) (hFg : F.fn gf) (eg : ∀ args w, (callFunc gf args).run P w = .ok (.enter gf args) w)
    {encs : Nat → Array Value} {R : World → Prop} {m : Nat} {w0 : World} (hseq : SeqNumG F (n - 1) P gf lb encs R m w0)
    (hb0 : Below w0.heap.size w0 w) (hps : ∀ x, (encs x).size = ps.size)
    (I : Nat → Nat → World → Prop) (Ix : Nat → Code → Nat → World → Prop) (hR : ∀ G k W, I G k W → R W) (hI : ∀ G, OwnFrom w.heap.size (I G)) (hIx : ∀ G c, OwnFrom w.heap.size (Ix G c)) (h0 : ∀ G, w.heap.size + 2 ≤ G → I G 0 w) (Ax : Nat → Act → World → Prop) (hAx : ∀ x a', OwnFrom w.heap.size (fun (_ : Unit) W => Ax x a' W))
    (hassign : ∀ (l : Nat) (G k : Nat) (W : World) (K : Act → World → Prop), w.heap.size + 2 ≤ G → G ≤ W.heap.size → k < m → I G k W → (∀ a' W', KeepsFrom w.heap.size W W' → StayG (w.heap.size + 2) G W W' → I G k W' → Ax k a' W' → K a' W') →
      assign.wpIn (F.inRound l) (n - 1 - 1) P (Exit.then K (fun _ _ _ => False)) { tmps := (ps.zip (encs k)).foldl (fun t (p, v) => t.setIfInBounds p v) a.tmps, defers := [] } W)
    (hbody : ∀ (l : Nat) (G k : Nat) (a' : Act) (W : World), w.heap.size ≤ l → (∃ r, W.heap[l]? = some (.loop r)) → w.heap.size + 2 ≤ G → G ≤ W.heap.size → k < m → I G k W → Ax k a' W → body.wpIn (F.inRound l) (n - 1 - 1) P (numPostG w.heap.size G (I G) (Ix G) (k + 1) W) a' W)
    (hdone : ∀ (D G : Nat) (W : World), w.heap.size ≤ D → w.heap.size + 2 ≤ G → I G m W → W.heap[D]? = some (.deferred (some [])) → Q .normal { a with defers := { target := .collected D, args := #[] } :: a.defers } W)
    (hstop : ∀ (D : Nat) (c : Code) (G k : Nat) (W : World), w.heap.size ≤ D → w.heap.size + 2 ≤ G → k ≤ m → Ix G c k W → W.heap[D]? = some (.deferred (some [])) → c.wpIn F n P Q { a with defers := { target := .collected D, args := #[] } :: a.defers } W) :
    (Code.rangeFunc g ps assign body).wpIn F n P Q a w := by
  refine wpIn_rangeFunc fun fn hfn => ?_
  rw [hro]
  let rc : LoopState → Option Code → Loop := fun st pe => { state := st, pending := pe, fn, tmps := a.tmps, params := ps, assign, body, defers := w.heap.size }
  obtain ⟨W1, hW1⟩ : ∃ W1, (w.alloc (.deferred (some []))).alloc (.loop (rc .ready none)) = W1 := ⟨_, rfl⟩
  have bk1 : Books W1 w.heap.size (rc .ready none) := by
    rw [← hW1]
    refine ⟨?_, (Below.heap_alloc _ _ _ (by simp)).trans (World.alloc_heap_new w _)⟩
    have := World.alloc_heap_new (w.alloc (.deferred (some []))) (.loop (rc .ready none))
    rwa [World.size_alloc] at this
  have hsz : w.heap.size ≤ W1.heap.size := by rw [← hW1]; simp; omega
  have bel : Below w0.heap.size w0 W1 := by
    rw [← hW1]; exact hb0.trans ((((Below.refl _ w).alloc (Nat.le_refl _) _).alloc (by simp) _).mono hb0.size)
  have hsz2 : W1.heap.size = w.heap.size + 2 := by rw [← hW1]; simp
  have I1 : ∀ G, w.heap.size + 2 ≤ G → I G 0 W1 := fun G hG => by rw [← hW1]; exact (hI G).alloc _ ((hI G).alloc _ (h0 G hG))
  have walk : ∀ {A : World} {row : Option Nat}, (∀ r, row = some r → W1.heap.size ≤ r ∧ ∃ o : Obj, A.heap[r]? = some o ∧ o.isWalk = true) →
      (∀ r, row = some r → w.heap.size ≤ r ∧ ∃ o : Obj, A.heap[r]? = some o ∧ o.isCells = false) ∧ (∀ r, row = some r → ∃ o : Obj, A.heap[r]? = some o ∧ o.isWalk = true) := fun hr =>
    ⟨fun r e => by obtain ⟨h, o, ho, hw⟩ := hr r e; exact ⟨Nat.le_trans hsz h, o, ho, Obj.not_cells_of_walk hw⟩, fun r e => (hr r e).2⟩
  refine ⟨w.heap.size + 1, _, W1, { target := .fn (.func gf) lb, args := #[.func (.yield (w.heap.size + 1)) #[] #[]] }, W1, gf, #[.func (.yield (w.heap.size + 1)) #[] #[]] ++ lb, W1,
    hW1 ▸ run_enterLoop_outer fn _ _ _ _, by simp only [resolve, hg]; simp [go_sem], fun f' hf' => by simp [Target.leads] at hf'; subst hf'; exact hFg, by simp [invoke, go_sem, eg], fun _ => h1, ?_⟩
  refine (hseq (w.heap.size + 1) (fun G k W => I G k W ∧ Books W w.heap.size (rc .ready none)) (fun G k W => ∃ c, Ix G c k W ∧ Books W w.heap.size (rc .done (some c))) W1 bel (fun _ _ _ h => hR _ _ _ h.1)
    (fun G s A B row hs hgr hr => ⟨hI G s A B row hs.1 hgr (walk hr).1, hs.2.kept hgr (walk hr).2⟩)
    (fun G s A B row hs hgr hr => by obtain ⟨c, hc, hb⟩ := hs; exact ⟨c, hIx G c s A B row hc hgr (walk hr).1, hb.kept hgr (walk hr).2⟩) ?_ (fun G hG => ⟨I1 G (by omega), bk1⟩)).mono ?_
  · rintro G k W hG hG2 hkm ⟨hi, bk⟩
    rw [hsz2] at hG ⊢
    have hy := run_yield (P := P) (args := encs k) bk.loop (hps k)
    refine ⟨fn, _, assign, body, hy, roundIn_of_wpIn hfn (hassign _ G k W _ hG hG2 hkm hi ?_)⟩
    clear hy
    intro a' Wa hkf hsta hia hax
    replace bk := bk.from hkf
    refine ⟨_, run_beginRound bk.loop rfl, ?_⟩
    have bk2 := bk.put (rc .busy none)
    refine wpIn_mono (hbody _ G k a' _ (by omega) ⟨_, bk2.loop⟩ hG (by simp; have := hsta.1; omega) hkm ((hI G).putObj _ hia (by omega) bk.loop rfl) ((hAx k a').putObj (s := ()) _ hax (by omega) bk.loop rfl)) ?_
    have out : ∀ (j : Option Code) (W3 : World), KeepsFrom w.heap.size (Wa.putObj (w.heap.size + 1) (.loop (rc .busy none))) W3 → (Instr.endRound (w.heap.size + 1) j).run P W3 = .ok (.bool j.isNone) (W3.putObj (w.heap.size + 1) (.loop (rc (if j.isNone then .ready else .done) j))) ∧
        W3.heap[w.heap.size + 1]? = some (.loop (rc .busy none)) ∧ Books (W3.putObj (w.heap.size + 1) (.loop (rc (if j.isNone then .ready else .done) j))) w.heap.size (rc (if j.isNone then .ready else .done) j) := fun j W3 hk =>
      ⟨run_endRound j (bk2.from hk).loop, (bk2.from hk).loop, (bk2.from hk).put _⟩
    rintro (_ | id | t | _ | ch | _) a3 W3 hp
    · obtain ⟨⟨hk, hst3⟩, hi3⟩ := hp
      have hS := (hsta.trans (StayG.put (l := w.heap.size + 1) (Obj.loop (rc .busy none)) (by omega))).trans hst3
      obtain ⟨h2, h3, h4⟩ := out none W3 hk
      exact ⟨_, _, h2, hS.trans (StayG.put _ (by omega)), .inl ⟨rfl, (hI G).putObj _ hi3 (by omega) h3 rfl, h4⟩⟩
    · obtain ⟨⟨hk, hst3⟩, hi3⟩ := hp
      have hS := (hsta.trans (StayG.put (l := w.heap.size + 1) (Obj.loop (rc .busy none)) (by omega))).trans hst3
      obtain ⟨h2, h3, h4⟩ := out (some (.exit id)) W3 hk
      exact ⟨_, _, h2, hS.trans (StayG.put _ (by omega)), .inr ⟨rfl, _, (hIx G _).putObj _ hi3 (by omega) h3 rfl, h4⟩⟩
    · obtain ⟨⟨hk, hst3⟩, hi3⟩ := hp
      have hS := (hsta.trans (StayG.put (l := w.heap.size + 1) (Obj.loop (rc .busy none)) (by omega))).trans hst3
      obtain ⟨h2, h3, h4⟩ := out (some (.goto t)) W3 hk
      exact ⟨_, _, h2, hS.trans (StayG.put _ (by omega)), .inr ⟨rfl, _, (hIx G _).putObj _ hi3 (by omega) h3 rfl, h4⟩⟩
    · obtain ⟨⟨hk, hst3⟩, hi3⟩ := hp
      have hS := (hsta.trans (StayG.put (l := w.heap.size + 1) (Obj.loop (rc .busy none)) (by omega))).trans hst3
      obtain ⟨h2, h3, h4⟩ := out (some .ret) W3 hk
      exact ⟨_, _, h2, hS.trans (StayG.put _ (by omega)), .inr ⟨rfl, _, (hIx G _).putObj _ hi3 (by omega) h3 rfl, h4⟩⟩
    · exact hp.elim
    · exact hp.elim
  · rintro e W2 ⟨⟨v, rfl⟩, G, hG, ⟨hi, bk⟩ | ⟨k, hk, c, hi, bk⟩⟩
    · exact ⟨none, _, run_endLoop bk.loop (by simp [rc]), hdone _ G _ (Nat.le_refl _) (by omega) ((hI G).putObj _ hi (by omega) bk.loop rfl) (bk.put _).defers⟩
    · exact ⟨some c, _, run_endLoop bk.loop (by simp [rc]), hstop _ c G k _ (Nat.le_refl _) (by omega) hk ((hIx G c).putObj _ hi (by omega) bk.loop rfl) (bk.put _).defers⟩
end
end Go.Proofs.Ytiidfffedoekiaa
