/- Tables of pairs, as plain facts: where a block is found, what is put, both together, what may be; no program. -/
import Derived.WalkKit
namespace Go.Proofs.Ytajamblkjmafmaa
set_option linter.unusedVariables false

/-- Numbers of an int. -/
def Is64 (n : Int) : Prop := -9223372036854775808 ≤ n ∧ n ≤ 9223372036854775807
def Is64s (l : List (Int × Int)) : Prop := ∀ p ∈ l, Is64 p.1 ∧ Is64 p.2

/-- Where the first pair of this block is. -/
def tFind (l : List (Int × Int)) (b : Int) : Option Nat := l.findIdx? fun p => p.1 == b
/-- Where the first pair of a greater block is, or the end. -/
def tGt : List (Int × Int) → Int → Nat
  | [], _ => 0
  | p :: l, b => if p.1 ≤ b then tGt l b + 1 else 0
theorem tGt_le (l : List (Int × Int)) (b : Int) : tGt l b ≤ l.length := by
  induction l with
  | nil => exact Nat.le_refl _
  | cons p l ih => unfold tGt; split <;> simp <;> omega
theorem tGt_lt {l : List (Int × Int)} {b : Int} {j : Nat} {p : Int × Int} (h : l[j]? = some p) (hj : j < tGt l b) : p.1 ≤ b := by
  induction l generalizing j with
  | nil => simp at h
  | cons q l ih =>
    unfold tGt at hj
    split at hj
    · rename_i hq
      cases j with
      | zero => simp at h; subst h; exact hq
      | succ j => exact ih (by simpa using h) (by omega)
    · omega
theorem tGt_at {l : List (Int × Int)} {b : Int} {p : Int × Int} (h : l[tGt l b]? = some p) : b < p.1 := by
  induction l with
  | nil => simp at h
  | cons q l ih =>
    unfold tGt at h
    split at h
    · rename_i hq
      exact ih (by simpa using h)
    · simp at h; subst h; omega
theorem tGt_eq {l : List (Int × Int)} {b : Int} {k : Nat} (hk : k ≤ l.length) (h1 : ∀ (j : Nat) (p : Int × Int), j < k → l[j]? = some p → p.1 ≤ b) (h2 : ∀ p, l[k]? = some p → b < p.1) : tGt l b = k := by
  have h0 := tGt_le l b
  by_cases hlt : tGt l b < k
  · have hx : tGt l b < l.length := by omega
    have a1 := tGt_at (List.getElem?_eq_getElem hx) (b := b)
    have a2 := h1 _ _ hlt (List.getElem?_eq_getElem hx)
    omega
  · by_cases hgt : k < tGt l b
    · have hx : k < l.length := by omega
      have a1 := h2 _ (List.getElem?_eq_getElem hx)
      have a2 := tGt_lt (List.getElem?_eq_getElem hx) hgt
      omega
    · omega
theorem tFind_some {l : List (Int × Int)} {b : Int} {i : Nat} : tFind l b = some i ↔ (∃ p, l[i]? = some p ∧ p.1 = b) ∧ ∀ (j : Nat) (p : Int × Int), j < i → l[j]? = some p → p.1 ≠ b := by
  unfold tFind
  rw [List.findIdx?_eq_some_iff_getElem]
  constructor
  · rintro ⟨h, h1, h2⟩
    refine ⟨⟨l[i], List.getElem?_eq_getElem h, by simpa using h1⟩, fun j p hj hp => ?_⟩
    have := h2 j hj
    obtain ⟨hl, rfl⟩ := List.getElem?_eq_some_iff.1 hp
    simpa using this
  · rintro ⟨⟨p, hp, hb⟩, h2⟩
    obtain ⟨hl, rfl⟩ := List.getElem?_eq_some_iff.1 hp
    refine ⟨hl, by simpa using hb, fun j hj => ?_⟩
    have := h2 j _ hj (List.getElem?_eq_getElem (by omega))
    simpa using this
theorem tFind_none {l : List (Int × Int)} {b : Int} : tFind l b = none ↔ ∀ (j : Nat) (p : Int × Int), l[j]? = some p → p.1 ≠ b := by
  unfold tFind
  rw [List.findIdx?_eq_none_iff]
  constructor
  · intro h j p hj
    have := h p (List.mem_of_getElem? hj)
    simpa using this
  · intro h p hp
    obtain ⟨j, hj⟩ := List.getElem?_of_mem hp
    simpa using h j p hj
theorem tFind_lt {l : List (Int × Int)} {b : Int} {i : Nat} (h : tFind l b = some i) : i < l.length := by
  obtain ⟨⟨p, hp, -⟩, -⟩ := tFind_some.1 h
  exact (List.getElem?_eq_some_iff.1 hp).1

/-- Its number, or -1; its At, or 0. -/
def tIx (l : List (Int × Int)) (b : Int) : Int := match tFind l b with
  | some i => (i : Int)
  | none => -1
def tAt (l : List (Int × Int)) (b : Int) : Int := match tFind l b with
  | some i => (l[i]?.getD (0, 0)).2
  | none => 0
/-- What a search tells: where, and whether it is there. -/
def tSearch (l : List (Int × Int)) (b : Int) : Nat × Bool := match tFind l b with
  | some i => (i, true)
  | none => (tGt l b, false)
theorem tSearch_le (l : List (Int × Int)) (b : Int) : (tSearch l b).1 ≤ l.length := by
  unfold tSearch
  split
  · rename_i i h; have := tFind_lt h; simp; omega
  · exact tGt_le l b
/-- What the search knows behind k pairs none of which is the one. -/
def tSeen (l : List (Int × Int)) (b : Int) (k : Nat) : Nat := if tGt l b < k then tGt l b else l.length
theorem tSeen_end (l : List (Int × Int)) (b : Int) : tSeen l b l.length = tGt l b := by
  have := tGt_le l b
  unfold tSeen
  split <;> omega
theorem tSeen_stay {l : List (Int × Int)} {b : Int} {k : Nat} {p : Int × Int} (h : l[k]? = some p) (hp : p.1 ≤ b) : tSeen l b (k + 1) = tSeen l b k := by
  have h1 : tGt l b ≠ k := fun e => by
    have := tGt_at (l := l) (b := b) (p := p) (by rw [e]; exact h)
    omega
  unfold tSeen
  split <;> split <;> first | rfl | omega
theorem tSeen_had {l : List (Int × Int)} {b : Int} {k : Nat} (hk : k < l.length) (h : tSeen l b k ≠ l.length) : tSeen l b (k + 1) = tSeen l b k := by
  unfold tSeen at *
  split at h
  · rename_i hh; rw [if_pos hh, if_pos (by omega)]
  · exact absurd rfl h
theorem tSeen_new {l : List (Int × Int)} {b : Int} {k : Nat} {p : Int × Int} (hn : ∀ (j : Nat) (p : Int × Int), j < k + 1 → l[j]? = some p → p.1 ≠ b) (h : l[k]? = some p) (hp : b < p.1) (hk : k < l.length) (hs : tSeen l b k = l.length) : tSeen l b (k + 1) = k := by
  have h0 := tGt_le l b
  have h1 : ¬ tGt l b < k := fun e => by
    unfold tSeen at hs; rw [if_pos e] at hs; omega
  have h2 : tGt l b = k := by
    refine tGt_eq (by omega) (fun j q hj hq => tGt_lt hq (by omega)) (fun q hq => by rw [h] at hq; cases hq; exact hp)
  unfold tSeen
  rw [if_pos (by omega), h2]

/-- With a pair. -/
def tIns (l : List (Int × Int)) (k : Nat) (p : Int × Int) : List (Int × Int) := l.take k ++ p :: l.drop k
theorem tIns_length {l : List (Int × Int)} {k : Nat} (p : Int × Int) (h : k ≤ l.length) : (tIns l k p).length = l.length + 1 := by
  simp [tIns]; omega
theorem tIns_set {l : List (Int × Int)} {k : Nat} (p q : Int × Int) (h : k ≤ l.length) : (tIns l k p).set k q = tIns l k q := by
  unfold tIns
  rw [List.set_append_right _ _ (by rw [List.length_take]; omega), show k - (l.take k).length = 0 by rw [List.length_take]; omega]
  rfl
def tPut (l : List (Int × Int)) (b a : Int) : List (Int × Int) := match tFind l b with
  | some i => l.set i (b, a)
  | none => tIns l (tGt l b) (b, a)
theorem tPut_le (l : List (Int × Int)) (b a : Int) : (tPut l b a).length ≤ l.length + 1 := by
  unfold tPut
  split
  · simp
  · rw [tIns_length _ (tGt_le l b)]; exact Nat.le_refl _
theorem tIns_is {l : List (Int × Int)} {k : Nat} {p : Int × Int} (hl : Is64s l) (hp : Is64 p.1 ∧ Is64 p.2) : Is64s (tIns l k p) := by
  intro q hq
  unfold tIns at hq
  rw [List.mem_append, List.mem_cons] at hq
  rcases hq with h | rfl | h
  · exact hl q (List.mem_of_mem_take h)
  · exact hp
  · exact hl q (List.mem_of_mem_drop h)
theorem tPut_is {l : List (Int × Int)} {b a : Int} (hl : Is64s l) (hb : Is64 b) (ha : Is64 a) : Is64s (tPut l b a) := by
  unfold tPut
  split
  · intro q hq
    rcases List.mem_or_eq_of_mem_set hq with h | rfl
    · exact hl q h
    · exact ⟨hb, ha⟩
  · exact tIns_is hl ⟨hb, ha⟩

/-- Both together: what is kept, what becomes free. -/
def tKeep (a : List (Int × Int)) : List (Int × Int) → List (Int × Int) → List (Int × Int)
  | m, [] => m
  | m, p :: b => tKeep a (if (tFind a p.1).isSome then m else tPut m p.1 p.2) b
def tFree (a b : List (Int × Int)) : List Int := (b.filter fun p => (tFind a p.1).isSome).map (·.2)
theorem tKeep_snoc (a : List (Int × Int)) : ∀ (b m : List (Int × Int)) (p : Int × Int), tKeep a m (b ++ [p]) = if (tFind a p.1).isSome then tKeep a m b else tPut (tKeep a m b) p.1 p.2
  | [], m, p => by simp only [List.nil_append, tKeep]
  | q :: b, m, p => by simp only [List.cons_append, tKeep]; exact tKeep_snoc a b _ p
theorem tFree_snoc (a b : List (Int × Int)) (p : Int × Int) : tFree a (b ++ [p]) = if (tFind a p.1).isSome then tFree a b ++ [p.2] else tFree a b := by
  unfold tFree
  by_cases h : (tFind a p.1).isSome = true
  · simp [List.filter_append, h]
  · simp [List.filter_append, h]
theorem tKeep_len (a : List (Int × Int)) : ∀ (b m : List (Int × Int)), (tKeep a m b).length ≤ m.length + b.length
  | [], m => by simp [tKeep]
  | p :: b, m => by
    have h := tKeep_len a b (if (tFind a p.1).isSome then m else tPut m p.1 p.2)
    have h2 := tPut_le m p.1 p.2
    simp only [tKeep, List.length_cons]
    split at h
    · rename_i hh; rw [if_pos hh]; omega
    · rename_i hh; rw [if_neg hh]; omega
theorem tKeep_is (a : List (Int × Int)) : ∀ (b m : List (Int × Int)), Is64s m → Is64s b → Is64s (tKeep a m b)
  | [], m, hm, _ => hm
  | p :: b, m, hm, hb => by
    unfold tKeep
    refine tKeep_is a b _ ?_ fun q hq => hb q (List.mem_cons_of_mem _ hq)
    split
    · exact hm
    · exact tPut_is hm (hb p (List.mem_cons_self ..)).1 (hb p (List.mem_cons_self ..)).2
theorem tFree_is {a b : List (Int × Int)} (hb : Is64s b) : ∀ n ∈ tFree a b, Is64 n := by
  intro n hn
  obtain ⟨p, hp, rfl⟩ := List.mem_map.1 hn
  exact (hb p (List.mem_filter.1 hp).1).2
theorem tFree_len (a b : List (Int × Int)) : (tFree a b).length ≤ b.length := by
  unfold tFree
  rw [List.length_map]
  exact List.length_filter_le _ _

/-- Do the blocks rise from above this one, and stand all within? -/
def tRise (blocks area : Int) : Int → List (Int × Int) → Bool
  | _, [] => true
  | last, p :: l => decide (last < p.1) && decide (p.1 < blocks) && decide (0 ≤ p.2) && decide (p.2 < area) && tRise blocks area p.1 l
def tGood (l : List (Int × Int)) (blocks area : Int) : Bool := tRise blocks area (-1) l && decide (l.map (·.2)).Nodup
theorem tRise_step {l : List (Int × Int)} {k : Nat} {x y : Int} (h : l[k]? = some (x, y)) (blocks area last : Int) :
    tRise blocks area last (l.drop k) = (decide (last < x) && decide (x < blocks) && decide (0 ≤ y) && decide (y < area) && tRise blocks area x (l.drop (k + 1))) := by
  obtain ⟨hk, hp⟩ := List.getElem?_eq_some_iff.1 h
  rw [List.drop_eq_getElem_cons hk, hp]
  rfl
end Go.Proofs.Ytajamblkjmafmaa
