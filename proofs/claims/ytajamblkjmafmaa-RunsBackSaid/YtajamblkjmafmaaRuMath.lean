/- Runs of numbers as plain lists; no program is named here. -/
import Derived.Test.YtajamblkjmafmaaTbMath
namespace Go.Proofs.Ytajamblkjmafmaa
set_option linter.unusedVariables false
set_option linter.unusedSimpArgs false

/-- Does x go on behind p? -/
def rnExt (p x : Int) : Bool := decide (p < 4611686018427387904) && (x == p + 1)
/-- The last run, one longer. -/
def rnInc (out : List (Int × Int)) : List (Int × Int) := out.set (out.length - 1) ((out[out.length - 1]?.getD (0, 0)).1, (out[out.length - 1]?.getD (0, 0)).2 + 1)
def rnStep (s : List (Int × Int) × Option Int) (x : Int) : List (Int × Int) × Option Int :=
  (match s.2 with
   | none => s.1 ++ [(x, 1)]
   | some p => if rnExt p x then rnInc s.1 else s.1 ++ [(x, 1)], some x)
def rnF (l : List Int) : List (Int × Int) × Option Int := l.foldl rnStep ([], none)
/-- The longest runs. -/
def rnOf (l : List Int) : List (Int × Int) := (rnF l).1
theorem rnInc_snoc (a : List (Int × Int)) (f c : Int) : rnInc (a ++ [(f, c)]) = a ++ [(f, c + 1)] := by
  unfold rnInc
  simp
theorem rnF_snoc (l : List Int) (x : Int) : rnF (l ++ [x]) = rnStep (rnF l) x := by unfold rnF; rw [List.foldl_append]; rfl
theorem rnF_append (a b : List Int) : rnF (a ++ b) = b.foldl rnStep (rnF a) := by unfold rnF; rw [List.foldl_append]
theorem snoc_of {α : Type} (l : List α) (h : l ≠ []) : ∃ a x, l = a ++ [x] := ⟨l.dropLast, l.getLast h, (List.dropLast_concat_getLast h).symm⟩
theorem snoc_ind {α : Type} {P : List α → Prop} (h0 : P []) (h1 : ∀ a x, P a → P (a ++ [x])) (l : List α) : P l := by
  rw [← List.reverse_reverse l]
  induction l.reverse with
  | nil => exact h0
  | cons x t ih => rw [List.reverse_cons]; exact h1 _ _ ih
/-- The numbers of a run. -/
def rnNums (p : Int × Int) : List Int := (List.range p.2.toNat).map fun (i : Nat) => p.1 + (i : Int)
theorem rnNums_len (p : Int × Int) : (rnNums p).length = p.2.toNat := by simp [rnNums]
theorem rnNums_one (x : Int) : rnNums (x, 1) = [x] := by simp [rnNums]
theorem rnNums_inc (f c : Int) (h : 0 ≤ c) : rnNums (f, c + 1) = rnNums (f, c) ++ [f + c] := by
  unfold rnNums
  simp only
  rw [show (c + 1).toNat = c.toNat + 1 by omega, List.range_succ, List.map_append]
  congr 1
  simp
  omega
theorem rnNums_get (p : Int × Int) (i : Nat) (h : i < p.2.toNat) : (rnNums p)[i]? = some (p.1 + (i : Int)) := by simp [rnNums, h]
theorem rnNums_take (p : Int × Int) (i : Nat) (h : i < p.2.toNat) : (rnNums p).take (i + 1) = (rnNums p).take i ++ [p.1 + (i : Int)] := by rw [List.take_add_one, rnNums_get p i h]; rfl
/-- .. of all of them. -/
def rnFlat (m : List (Int × Int)) : List Int := m.flatMap rnNums
theorem rnFlat_append (a b : List (Int × Int)) : rnFlat (a ++ b) = rnFlat a ++ rnFlat b := by simp [rnFlat]
theorem rnFlat_one (p : Int × Int) : rnFlat [p] = rnNums p := by simp [rnFlat]
/-- What holds of the runs of numbers. -/
structure RnI (l : List Int) (s : List (Int × Int) × Option Int) : Prop where
  flat : rnFlat s.1 = l
  cnt : ∀ p ∈ s.1, 1 ≤ p.2 ∧ p.2 ≤ (l.length : Int) ∧ p.1 ∈ l
  len : s.1.length ≤ l.length
  prev : s.2 = l.getLast?
  last : ∀ a f c, s.1 = a ++ [(f, c)] → ∃ p, s.2 = some p ∧ f + c = p + 1
  none : s.1 = [] → l = []
  apart : ∀ (i : Nat) p q, s.1[i]? = some p → s.1[i + 1]? = some q → q.1 ≠ p.1 + p.2 ∨ 4611686018427387904 < p.1 + p.2
theorem rn_all (l : List Int) : RnI l (rnF l) := by
  refine snoc_ind (P := fun l => RnI l (rnF l)) ?_ ?_ l
  · exact ⟨rfl, (fun p hp => by cases hp), Nat.le_refl _, rfl, (fun a f c h => by simp [rnF] at h), (fun _ => rfl), (fun i p q h => by simp [rnF] at h)⟩
  · intro l x ih
    rw [rnF_snoc]
    by_cases he : (rnF l).1 = []
    · have hl := ih.none he
      subst hl
      refine ⟨by simp [rnF, rnStep, rnFlat, rnNums_one], fun p hp => ?_, by simp [rnF, rnStep], by simp [rnStep], fun a f c h => ?_, fun h => by simp [rnF, rnStep] at h, fun i p q h1 h2 => by simp [rnF, rnStep] at h2⟩
      · simp [rnF, rnStep] at hp; subst hp; simp
      · have h' : ([] : List (Int × Int)) ++ [(x, 1)] = a ++ [(f, c)] := by simpa [rnF, rnStep] using h
        obtain ⟨-, e⟩ := List.append_inj' h' rfl
        simp at e
        exact ⟨x, rfl, by omega⟩
    · obtain ⟨a, ⟨f, c⟩, hs⟩ := snoc_of _ he
      obtain ⟨p, hp, hfc⟩ := ih.last a f c hs
      have hc := (ih.cnt (f, c) (by rw [hs]; simp)).1
      simp only at hc
      have hfl := ih.flat
      rw [hs, rnFlat_append, rnFlat_one] at hfl
      by_cases hx : rnExt p x = true
      · have e : (rnStep (rnF l) x).1 = a ++ [(f, c + 1)] := by unfold rnStep; rw [hp]; simp only [hx, if_true]; rw [hs, rnInc_snoc]
        have hx1 : x = p + 1 := by unfold rnExt at hx; simp at hx; exact hx.2
        have hf := ih.cnt (f, c) (by rw [hs]; simp)
        refine ⟨?_, fun q hq => ?_, ?_, ?_, fun a' f' c' h => ?_, fun h => ?_, fun i q r h1 h2 => ?_⟩
        · rw [e, rnFlat_append, rnFlat_one, rnNums_inc f c (by omega), ← List.append_assoc, hfl]
          congr 2
          omega
        · rw [e] at hq
          rcases List.mem_append.1 hq with hq | hq
          · have := ih.cnt q (by rw [hs]; exact List.mem_append_left _ hq)
            exact ⟨this.1, by rw [List.length_append]; simp; omega, List.mem_append_left _ this.2.2⟩
          · simp at hq
            subst hq
            exact ⟨by simp; omega, by rw [List.length_append]; simp; simp at hf; omega, List.mem_append_left _ hf.2.2⟩
        · have := ih.len
          rw [e]; rw [hs] at this
          simp at this ⊢
          omega
        · simp [rnStep]
        · rw [e] at h
          obtain ⟨-, h⟩ := List.append_inj' h rfl
          simp at h
          exact ⟨x, rfl, by omega⟩
        · rw [e] at h; simp at h
        · rw [e] at h1 h2
          by_cases hi : i + 1 < a.length
          · rw [List.getElem?_append_left (by omega)] at h1 h2
            exact ih.apart i q r (by rw [hs, List.getElem?_append_left (by omega)]; exact h1) (by rw [hs, List.getElem?_append_left (by omega)]; exact h2)
          · have hi2 : i + 1 < (a ++ [(f, c + 1)]).length := (List.getElem?_eq_some_iff.1 h2).1
            simp at hi2
            have hia : i + 1 = a.length := by omega
            rw [List.getElem?_append_left (by omega)] at h1
            rw [hia] at h2
            simp at h2
            subst h2
            have := ih.apart i q (f, c) (by rw [hs, List.getElem?_append_left (by omega)]; exact h1) (by rw [hs, hia]; simp)
            exact this
      · have hx' : rnExt p x = false := by simpa using hx
        have e : (rnStep (rnF l) x).1 = a ++ [(f, c)] ++ [(x, 1)] := by unfold rnStep; rw [hp]; simp only [hx', Bool.false_eq_true, if_false]; rw [hs]
        refine ⟨?_, fun q hq => ?_, ?_, ?_, fun a' f' c' h => ?_, fun h => ?_, fun i q r h1 h2 => ?_⟩
        · rw [e, rnFlat_append, rnFlat_one, rnNums_one, rnFlat_append, rnFlat_one, hfl]
        · rw [e] at hq
          rcases List.mem_append.1 hq with hq | hq
          · have := ih.cnt q (by rw [hs]; exact hq)
            exact ⟨this.1, by rw [List.length_append]; simp; omega, List.mem_append_left _ this.2.2⟩
          · simp at hq
            subst hq
            exact ⟨by simp, by rw [List.length_append]; simp; omega, by simp⟩
        · have := ih.len
          rw [e]; rw [hs] at this
          simp at this ⊢
          omega
        · simp [rnStep]
        · rw [e] at h
          obtain ⟨-, h⟩ := List.append_inj' h rfl
          simp at h
          exact ⟨x, rfl, by omega⟩
        · rw [e] at h; simp at h
        · rw [e] at h1 h2
          by_cases hi : i + 1 < (a ++ [(f, c)]).length
          · rw [List.getElem?_append_left (by omega)] at h1 h2
            rw [← hs] at h1 h2
            exact ih.apart i q r h1 h2
          · have hi2 : i + 1 < (a ++ [(f, c)] ++ [(x, 1)]).length := (List.getElem?_eq_some_iff.1 h2).1
            have hl2 : (a ++ [(f, c)] ++ [((x : Int), (1 : Int))]).length = (a ++ [(f, c)]).length + 1 := by simp
            have hia : i + 1 = (a ++ [(f, c)]).length := by omega
            rw [List.getElem?_append_left (by omega)] at h1
            rw [hia] at h2
            simp at h2
            subst h2
            have hi3 : i = a.length := by simp at hia; exact hia
            rw [hi3] at h1
            simp at h1
            subst h1
            unfold rnExt at hx'
            simp at hx'
            by_cases h62 : p < 4611686018427387904
            · left
              have := hx' h62
              simp only
              omega
            · right
              simp only
              omega
theorem rnF_cons_get {l : List Int} {k : Nat} {x : Int} (h : l[k]? = some x) : rnF (l.take (k + 1)) = rnStep (rnF (l.take k)) x := by
  rw [List.take_add_one, h]
  exact rnF_snoc _ _
theorem rnF_prev {l : List Int} {k : Nat} {p : Int} (h : l[k]? = some p) : (rnF (l.take (k + 1))).2 = some p := by rw [rnF_cons_get h]; rfl
/-- The step at place k. -/
theorem rnOf_zero {l : List Int} {x : Int} (h : l[0]? = some x) : rnOf (l.take 1) = [(x, 1)] := by
  unfold rnOf; rw [rnF_cons_get h]; rfl
theorem rnOf_succ {l : List Int} {k : Nat} {p x : Int} (hp : l[k]? = some p) (h : l[k + 1]? = some x) : rnOf (l.take (k + 1 + 1)) = if rnExt p x then rnInc (rnOf (l.take (k + 1))) else rnOf (l.take (k + 1)) ++ [(x, 1)] := by
  unfold rnOf; rw [rnF_cons_get h]
  unfold rnStep
  rw [rnF_prev hp]
theorem rnOf_ne {l : List Int} {k : Nat} {p : Int} (hp : l[k]? = some p) : rnOf (l.take (k + 1)) ≠ [] := by
  intro h
  have := (rn_all (l.take (k + 1))).none h
  have h2 := congrArg List.length this
  have := (List.getElem?_eq_some_iff.1 hp).1
  rw [List.length_take, List.length_nil] at h2
  omega
theorem rnOf_last {l : List Int} {k : Nat} {p : Int} (hp : l[k]? = some p) : ∃ a f c, rnOf (l.take (k + 1)) = a ++ [(f, c)] ∧ 1 ≤ c ∧ c ≤ (k : Int) + 1 ∧ a.length ≤ k := by
  obtain ⟨a, ⟨f, c⟩, h⟩ := snoc_of _ (rnOf_ne hp)
  have A := rn_all (l.take (k + 1))
  have hc := A.cnt (f, c) (by show _ ∈ rnOf _; rw [h]; simp)
  have hl := A.len
  have hl' : (rnOf (l.take (k + 1))).length ≤ (l.take (k + 1)).length := hl
  rw [h] at hl'
  have h2 : (l.take (k + 1)).length ≤ k + 1 := by rw [List.length_take]; omega
  simp only at hc
  rw [List.length_append, List.length_singleton] at hl'
  exact ⟨a, f, c, h, hc.1, by omega, by omega⟩
/-- Which runs have blocks. -/
def rnOk (p : Int × Int) : Bool := decide (0 ≤ p.1) && decide (p.1 ≤ 65535) && decide (1 ≤ p.2) && decide (p.2 ≤ 4096)
def rnBl (m : List (Int × Int)) : List Int := rnFlat (m.filter rnOk)
def rnBlocks (m : List (Int × Int)) : List Int := (rnBl m).take 65536
theorem rnBl_append (a b : List (Int × Int)) : rnBl (a ++ b) = rnBl a ++ rnBl b := by unfold rnBl; rw [List.filter_append, rnFlat_append]
theorem rnBl_one (p : Int × Int) : rnBl [p] = if rnOk p then rnNums p else [] := by
  unfold rnBl
  by_cases h : rnOk p = true
  · simp [h, rnFlat]
  · simp at h; simp [h, rnFlat]
theorem rnBl_succ {m : List (Int × Int)} {k : Nat} {p : Int × Int} (h : m[k]? = some p) : rnBl (m.take (k + 1)) = rnBl (m.take k) ++ (if rnOk p then rnNums p else []) := by
  rw [List.take_add_one, h]
  show rnBl (m.take k ++ [p]) = _
  rw [rnBl_append, rnBl_one]
theorem rnBl_split {m : List (Int × Int)} {k : Nat} {p : Int × Int} (h : m[k]? = some p) (ho : rnOk p = true) (i : Nat) : ∃ r, rnBl m = (rnBl (m.take k) ++ (rnNums p).take i) ++ r := by
  obtain ⟨r1, hr1⟩ : ∃ r, rnBl m = rnBl (m.take (k + 1)) ++ r := ⟨rnBl (m.drop (k + 1)), by rw [← rnBl_append, List.take_append_drop]⟩
  rw [rnBl_succ h, if_pos ho] at hr1
  refine ⟨(rnNums p).drop i ++ r1, ?_⟩
  rw [hr1]
  simp only [List.append_assoc]
  rw [← List.append_assoc ((rnNums p).take i), List.take_append_drop]
/-- Within, and apart. -/
def rnGd (n : Int) : Int → List (Int × Int) → Bool
  | _, [] => true
  | g, p :: t => decide (g < p.1) && decide (p.1 < n) && decide (1 ≤ p.2) && decide (p.2 ≤ n - p.1) && rnGd n (p.1 + p.2) t
def rnGood (m : List (Int × Int)) (n : Int) : Bool := rnGd n (-1) m
theorem rnGd_at {m : List (Int × Int)} {k : Nat} {p : Int × Int} (h : m[k]? = some p) (n g : Int) : rnGd n g (m.drop k) = (decide (g < p.1) && decide (p.1 < n) && decide (1 ≤ p.2) && decide (p.2 ≤ n - p.1) && rnGd n (p.1 + p.2) (m.drop (k + 1))) := by
  obtain ⟨hlt, he⟩ := List.getElem?_eq_some_iff.1 h
  rw [List.drop_eq_getElem_cons hlt, he]
  rfl
/-- The end behind all of them. -/
def rnEnd (g : Int) : List (Int × Int) → Int
  | [] => g
  | p :: t => rnEnd (p.1 + p.2) t
theorem rnEnd_snoc (g : Int) (a : List (Int × Int)) (p : Int × Int) : rnEnd g (a ++ [p]) = p.1 + p.2 := by
  induction a generalizing g with
  | nil => rfl
  | cons q t ih => exact ih _
theorem rnGd_snoc (n g : Int) (a : List (Int × Int)) (p : Int × Int) : rnGd n g (a ++ [p]) = (rnGd n g a && (decide (rnEnd g a < p.1) && decide (p.1 < n) && decide (1 ≤ p.2) && decide (p.2 ≤ n - p.1))) := by
  induction a generalizing g with
  | nil =>
    show (_ && true) = (true && _)
    rw [Bool.and_true, Bool.true_and]
    rfl
  | cons q t ih =>
    show (_ && rnGd n (q.1 + q.2) (t ++ [p])) = (_ && rnGd n (q.1 + q.2) t && _)
    rw [ih, ← Bool.and_assoc]
    rfl
/-- Numbers that rise. -/
def rnUp (l : List Int) : Prop := l.Pairwise (· < ·) ∧ ∀ x ∈ l, 0 ≤ x ∧ x < 256
theorem rnUp_snoc {l : List Int} {x : Int} (h : rnUp (l ++ [x])) : rnUp l ∧ (∀ y ∈ l, y < x) ∧ 0 ≤ x ∧ x < 256 := by
  obtain ⟨h1, h2⟩ := h
  rw [List.pairwise_append] at h1
  exact ⟨⟨h1.1, fun y hy => h2 y (List.mem_append_left _ hy)⟩, fun y hy => h1.2.2 y hy x (by simp), h2 x (by simp)⟩
theorem rn_good_up (l : List Int) (h : rnUp l) : rnGood (rnOf l) 256 = true := by
  revert h
  refine snoc_ind (P := fun l => rnUp l → rnGood (rnOf l) 256 = true) (fun _ => rfl) ?_ l
  intro l x ih h
  obtain ⟨hl, hx, hx0, hx1⟩ := rnUp_snoc h
  have ih := ih hl
  have A := rn_all l
  unfold rnOf
  rw [rnF_snoc]
  unfold rnGood rnOf at ih
  unfold rnGood
  by_cases he : (rnF l).1 = []
  · have := A.none he
    subst this
    simp [rnStep, rnF, rnGd]
    omega
  · obtain ⟨a, ⟨f, c⟩, hs⟩ := snoc_of _ he
    obtain ⟨p, hp, hfc⟩ := A.last a f c hs
    have hpl : p ∈ l := by
      have := A.prev
      rw [hp] at this
      exact List.mem_of_getLast? this.symm
    have hpx := hx p hpl
    rw [hs, rnGd_snoc] at ih
    simp only [Bool.and_eq_true, decide_eq_true_eq] at ih
    obtain ⟨i0, ⟨⟨i1, i2⟩, i3⟩, i4⟩ := ih
    by_cases hx' : rnExt p x = true
    · have e : (rnStep (rnF l) x).1 = a ++ [(f, c + 1)] := by unfold rnStep; rw [hp]; simp only [hx', if_true]; rw [hs, rnInc_snoc]
      unfold rnExt at hx'
      simp at hx'
      rw [e, rnGd_snoc]
      simp only [Bool.and_eq_true, decide_eq_true_eq]
      exact ⟨i0, ⟨⟨i1, i2⟩, by omega⟩, by omega⟩
    · have hx2 : rnExt p x = false := by simpa using hx'
      have e : (rnStep (rnF l) x).1 = a ++ [(f, c)] ++ [(x, 1)] := by unfold rnStep; rw [hp]; simp only [hx2, Bool.false_eq_true, if_false]; rw [hs]
      unfold rnExt at hx2
      simp at hx2
      have hne := hx2 (by have := hl.2 p hpl; omega)
      rw [e, rnGd_snoc, rnEnd_snoc, rnGd_snoc]
      simp only [Bool.and_eq_true, decide_eq_true_eq]
      exact ⟨⟨i0, ⟨⟨i1, i2⟩, i3⟩, i4⟩, ⟨⟨by omega, by omega⟩, by omega⟩, by omega⟩
/-- A run's numbers behind a state that they do not go on from make that run. -/
theorem rn_run (s : List (Int × Int) × Option Int) (f : Int) (c : Nat) (hc : 1 ≤ c) (hf : f + (c : Int) ≤ 4611686018427387904) (hs : ∀ p, s.2 = some p → f ≠ p + 1) :
    (rnNums (f, (c : Int))).foldl rnStep s = (s.1 ++ [(f, (c : Int))], some (f + (c : Int) - 1)) := by
  induction c with
  | zero => omega
  | succ c ih =>
    by_cases h0 : c = 0
    · subst h0
      rw [show ((0 + 1 : Nat) : Int) = 1 from rfl, rnNums_one]
      simp only [List.foldl_cons, List.foldl_nil]
      unfold rnStep
      cases hp : s.2 with
      | none => simp
      | some p =>
        have : rnExt p f = false := by unfold rnExt; simp; intro _; exact hs p hp
        simp [this]
    · have ih := ih (by omega) (by omega)
      rw [show ((c + 1 : Nat) : Int) = (c : Int) + 1 by omega, rnNums_inc f c (by omega), List.foldl_append, ih]
      simp only [List.foldl_cons, List.foldl_nil]
      unfold rnStep
      have : rnExt (f + (c : Int) - 1) (f + c) = true := by unfold rnExt; simp; omega
      simp only [this, if_true, rnInc_snoc]
      congr 2
      omega
theorem rn_ok_of {n g : Int} (hg : -1 ≤ g) (hn : n ≤ 200) {m : List (Int × Int)} (h : rnGd n g m = true) : (∀ p ∈ m, rnOk p = true) ∧ ((rnFlat m).length : Int) ≤ 200 - (g + 1) ∨ m = [] := by
  induction m generalizing g with
  | nil => exact .inr rfl
  | cons q t ih =>
    left
    unfold rnGd at h
    simp only [Bool.and_eq_true, decide_eq_true_eq] at h
    obtain ⟨⟨⟨⟨h1, h2⟩, h3⟩, h4⟩, h5⟩ := h
    have hq : rnOk q = true := by unfold rnOk; simp only [Bool.and_eq_true, decide_eq_true_eq]; omega
    have hl : (rnFlat (q :: t)).length = q.2.toNat + (rnFlat t).length := by simp [rnFlat, rnNums]
    rcases ih (g := q.1 + q.2) (by omega) h5 with ⟨i1, i2⟩ | rfl
    · refine ⟨fun p hp => ?_, ?_⟩
      · rcases List.mem_cons.1 hp with rfl | hp
        · exact hq
        · exact i1 p hp
      · rw [hl]; omega
    · refine ⟨fun p hp => ?_, ?_⟩
      · simp at hp; subst hp; exact hq
      · have : (rnFlat ([] : List (Int × Int))).length = 0 := rfl
        rw [hl, this]; omega
theorem rn_blocks_good {n : Int} (hn : n ≤ 200) {m : List (Int × Int)} (h : rnGood m n = true) : rnBlocks m = rnFlat m := by
  unfold rnBlocks rnBl
  rcases rn_ok_of (g := -1) (by omega) hn h with ⟨h1, h2⟩ | rfl
  · rw [List.filter_eq_self.2 h1, List.take_of_length_le (by omega)]
  · rfl
/-- The runs of such runs' numbers. -/
theorem rn_of_flat {n : Int} (hn : n ≤ 200) (m : List (Int × Int)) (h : rnGood m n = true) : rnF (rnFlat m) = (m, if m = [] then none else some (rnEnd 0 m - 1)) := by
  revert h
  refine snoc_ind (P := fun m => rnGood m n = true → rnF (rnFlat m) = (m, if m = [] then none else some (rnEnd 0 m - 1))) (fun _ => rfl) ?_ m
  intro a p ih h
  unfold rnGood at h ih
  rw [rnGd_snoc] at h
  simp only [Bool.and_eq_true, decide_eq_true_eq] at h
  obtain ⟨h0, ⟨⟨h1, h2⟩, h3⟩, h4⟩ := h
  have ih := ih h0
  obtain ⟨f, c⟩ := p
  simp only at h1 h2 h3 h4
  obtain ⟨k, rfl⟩ := Int.eq_ofNat_of_zero_le (show 0 ≤ c by omega)
  rw [rnFlat_append, rnFlat_one, rnF_append, ih, rn_run _ f k (by omega) (by omega) (fun q hq => ?_)]
  · rw [rnEnd_snoc, if_neg (show ¬ (a ++ [(f, (k : Int))] = []) by simp)]
  · by_cases ha : a = []
    · simp [ha] at hq
    · rw [if_neg ha] at hq
      simp at hq
      obtain ⟨b, r, rfl⟩ := snoc_of _ ha
      rw [rnEnd_snoc] at h1 hq
      omega
theorem rn_back {n : Int} (hn : n ≤ 200) {m : List (Int × Int)} (h : rnGood m n = true) : rnOf (rnBlocks m) = m := by
  rw [rn_blocks_good hn h]
  unfold rnOf
  rw [rn_of_flat hn m h]
/-- The blocks of numbers' runs. -/
theorem rn_blocks_of {l : List Int} (h : ∀ x ∈ l, 0 ≤ x ∧ x < 65536) (hl : l.length ≤ 4096) : rnBlocks (rnOf l) = l := by
  have A := rn_all l
  have ho : ∀ p ∈ (rnF l).1, rnOk p = true := fun p hp => by
    obtain ⟨a, b, c⟩ := A.cnt p hp
    have := h _ c
    unfold rnOk
    simp only [Bool.and_eq_true, decide_eq_true_eq]
    omega
  unfold rnBlocks rnBl rnOf
  rw [List.filter_eq_self.2 ho, A.flat, List.take_of_length_le (by omega)]
theorem rnOf_64 {l : List Int} (h : ∀ x ∈ l, Is64 x) (hl : l.length ≤ 1000000000) : Is64s (rnOf l) := fun p hp => by
  have A := rn_all l
  obtain ⟨a, b, c⟩ := A.cnt p hp
  have h1 := h _ c
  unfold Is64 at h1 ⊢
  exact ⟨h1, by omega⟩
end Go.Proofs.Ytajamblkjmafmaa
