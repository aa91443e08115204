/- Plain facts on sets of bits: numbers in bytes; no program is named here. -/
import Derived.Test.YtiidfffedoekiaaMath
namespace Go.Proofs.Ytiidfffedoekiaa
open Go.RowKit
set_option linter.unusedVariables false

/-- Is the number i in? -/
def bitAt (bs : List Int) (i : Nat) : Bool := (bs[i / 8]?.getD 0).toNat.testBit (i % 8)
def hasB (bs : List Int) (i : Int) : Bool := decide (0 ≤ i) && bitAt bs i.toNat
def orI (x y : Int) : Int := ((x.toNat ||| y.toNat : Nat) : Int)
def withB (bs : List Int) (i : Int) : List Int := if 0 ≤ i ∧ i / 8 < bs.length then bs.set (i.toNat / 8) (orI (bs[i.toNat / 8]?.getD 0) (2 ^ (i.toNat % 8))) else bs
def orB (a b : List Int) : List Int := (List.range (max a.length b.length)).map fun j => orI (a[j]?.getD 0) (b[j]?.getD 0)
def allB (bs : List Int) : List Nat := (List.range (8 * bs.length)).filter (bitAt bs)
def sizeB (n : Int) : Nat := if n < 1 ∨ 4096 < n then 0 else ((n + 7) / 8).toNat
def goodB (bs : List Int) (n : Int) : Bool := decide (bs.length = sizeB n) && (allB bs).all (fun i => decide ((i : Int) < n))
/-- A byte's numbers, ascending. -/
def lowB (r : Nat) : List Nat := (List.range 8).filter r.testBit
def ctzN (r : Nat) : Nat := (lowB r).headD 8

theorem low_step : ∀ r : Fin 256, r.1 ≠ 0 → lowB r.1 = ctzN r.1 :: lowB (r.1 &&& (r.1 - 1)) := by decide +kernel
theorem low_next {r : Nat} (h : r < 256) (h0 : r ≠ 0) : lowB r = ctzN r :: lowB (r &&& (r - 1)) := low_step ⟨r, h⟩ h0
theorem low_zero : lowB 0 = [] := by decide +kernel
theorem ctz_lt : ∀ r : Fin 256, r.1 ≠ 0 → ctzN r.1 < 8 := by decide +kernel
theorem low_len (r : Nat) : (lowB r).length ≤ 8 := by
  have := List.length_filter_le r.testBit (List.range 8)
  rw [List.length_range] at this
  exact this
theorem and_pred_lt (r : Nat) (h : r ≠ 0) : r &&& (r - 1) < r := by
  have := Nat.and_le_right (n := r) (m := r - 1)
  omega

theorem byte_of (bs : List Int) (h : IsBytes bs) (j : Nat) : ∃ n : Nat, bs[j]?.getD 0 = (n : Int) ∧ n < 256 := by
  obtain ⟨a, b⟩ := h j
  exact ⟨(bs[j]?.getD 0).toNat, by omega, by omega⟩

theorem bitAt_take (bs : List Int) (k i : Nat) (h : i < 8 * k) : bitAt (bs.take k) i = bitAt bs i := by
  unfold bitAt
  rw [List.getElem?_take, if_pos (by omega)]

theorem all_take (bs : List Int) (k : Nat) (hk : k < bs.length) :
    allB (bs.take (k + 1)) = allB (bs.take k) ++ (lowB (bs[k]?.getD 0).toNat).map (8 * k + ·) := by
  unfold allB
  have e1 : (bs.take (k + 1)).length = k + 1 := by rw [List.length_take]; omega
  have e2 : (bs.take k).length = k := by rw [List.length_take]; omega
  rw [e1, e2, show 8 * (k + 1) = 8 * k + 8 from by omega, List.range_add, List.filter_append]
  congr 1
  · apply List.filter_congr
    intro i hi
    have := List.mem_range.1 hi
    rw [bitAt_take _ _ _ this, bitAt_take _ _ _ (by omega)]
  · rw [List.filter_map]
    unfold lowB
    congr 1
    apply List.filter_congr
    intro i hi
    have := List.mem_range.1 hi
    show bitAt (bs.take (k + 1)) (8 * k + i) = _
    rw [bitAt_take _ _ _ (by omega)]
    unfold bitAt
    rw [show (8 * k + i) / 8 = k from by omega, show (8 * k + i) % 8 = i from by omega]

theorem all_len (bs : List Int) : (allB bs).length ≤ 8 * bs.length := by
  have := List.length_filter_le (bitAt bs) (List.range (8 * bs.length))
  simpa [allB] using this

theorem bit_in {bs : List Int} {i : Nat} (h : bitAt bs i = true) : i / 8 < bs.length := by
  unfold bitAt at h
  by_cases e : i / 8 < bs.length
  · exact e
  · rw [List.getElem?_eq_none (by omega)] at h; simp at h

theorem mem_all {bs : List Int} {i : Nat} : i ∈ allB bs ↔ bitAt bs i = true := by
  unfold allB
  rw [List.mem_filter, List.mem_range]
  exact ⟨fun h => h.2, fun h => ⟨by have := bit_in h; omega, h⟩⟩

theorem all_sorted (bs : List Int) : (allB bs).Pairwise (· < ·) := List.Pairwise.filter _ List.pairwise_lt_range

/-- All, gone through so far. -/
def allTo (bs : List Int) (i : Nat) : List Nat := (List.range i).filter (bitAt bs)
theorem allTo_succ (bs : List Int) (i : Nat) : allTo bs (i + 1) = allTo bs i ++ if bitAt bs i then [i] else [] := by
  unfold allTo
  rw [List.range_succ, List.filter_append]
  congr 1
  cases h : bitAt bs i <;> simp [h]
theorem allTo_all (bs : List Int) : allTo bs (8 * bs.length) = allB bs := rfl
theorem allTo_len (bs : List Int) (i : Nat) : (allTo bs i).length ≤ i := by
  have := List.length_filter_le (bitAt bs) (List.range i)
  simpa [allTo] using this

theorem orI_nat (a b : Nat) : orI (a : Int) (b : Int) = ((a ||| b : Nat) : Int) := by unfold orI; simp
theorem orI_bd {x y : Int} (h1 : x < 256) (h2 : y < 256) : 0 ≤ orI x y ∧ orI x y < 256 := by
  unfold orI
  have := Nat.or_lt_two_pow (n := 8) (x := x.toNat) (y := y.toNat) (by simp only [Nat.reducePow]; omega) (by simp only [Nat.reducePow]; omega)
  simp only [Nat.reducePow] at this
  omega
theorem orI_bit (x y : Int) (j : Nat) : (orI x y).toNat.testBit j = (x.toNat.testBit j || y.toNat.testBit j) := by
  unfold orI
  rw [Int.toNat_natCast, Nat.testBit_or]
theorem pow8 (j : Nat) : ((2 : Int) ^ j).toNat = 2 ^ j := by
  rw [show (2 : Int) ^ j = ((2 ^ j : Nat) : Int) from by simp, Int.toNat_natCast]

theorem or_length (a b : List Int) : (orB a b).length = max a.length b.length := by simp [orB]
theorem or_get (a b : List Int) (j : Nat) : (orB a b)[j]?.getD 0 = orI (a[j]?.getD 0) (b[j]?.getD 0) := by
  by_cases h : j < max a.length b.length
  · simp [orB, h]
  · rw [List.getElem?_eq_none (by rw [or_length]; omega), List.getElem?_eq_none (show a.length ≤ j by omega), List.getElem?_eq_none (show b.length ≤ j by omega)]
    decide
theorem or_bytes {a b : List Int} (ha : IsBytes a) (hb : IsBytes b) : IsBytes (orB a b) := fun j => by
  rw [or_get]; exact orI_bd (ha j).2 (hb j).2
theorem or_bit (a b : List Int) (i : Nat) : bitAt (orB a b) i = (bitAt a i || bitAt b i) := by
  unfold bitAt; rw [or_get, orI_bit]

theorem with_length (bs : List Int) (i : Int) : (withB bs i).length = bs.length := by unfold withB; split <;> simp
theorem with_bytes {bs : List Int} (h : IsBytes bs) (i : Int) : IsBytes (withB bs i) := by
  unfold withB
  split
  · intro j
    rw [List.getElem?_set]
    split
    · split
      · have hp : (2 : Int) ^ (i.toNat % 8) < 256 := by
          have := pow_cases (fun k => (2 : Int) ^ k < 256) (by decide) (by decide) (by decide) (by decide) (by decide) (by decide) (by decide) (by decide) (i.toNat % 8) (by omega)
          exact this
        exact orI_bd (h _).2 hp
      · simp
    · exact h j
  · exact h
theorem with_bit (bs : List Int) (i : Int) (k : Nat) : bitAt (withB bs i) k = (bitAt bs k || (decide (0 ≤ i ∧ i / 8 < bs.length) && k == i.toNat)) := by
  unfold withB
  by_cases h : 0 ≤ i ∧ i / 8 < bs.length
  · rw [if_pos h]
    have hl : i.toNat / 8 < bs.length := by omega
    unfold bitAt
    rw [List.getElem?_set]
    by_cases e : i.toNat / 8 = k / 8
    · rw [if_pos e, if_pos (by omega), Option.getD_some, orI_bit, pow8, Nat.testBit_two_pow, e]
      congr 1
      simp only [h, decide_true, Bool.true_and, and_self]
      rw [Bool.eq_iff_iff]
      simp only [decide_eq_true_eq, beq_iff_eq]
      omega
    · rw [if_neg e]
      have : (k == i.toNat) = false := by
        rw [beq_eq_false_iff_ne]
        intro e2; exact e (by rw [e2])
      rw [this, Bool.and_false, Bool.or_false]
  · rw [if_neg h, decide_eq_false h, Bool.false_and, Bool.or_false]

/-- Sets of the same bits and as many bytes are alike. -/
theorem bits_ext {a b : List Int} (ha : IsBytes a) (hb : IsBytes b) (hl : a.length = b.length) (h : ∀ i, bitAt a i = bitAt b i) : a = b := by
  apply List.ext_getElem hl
  intro j h1 h2
  obtain ⟨x, hx, hx8⟩ := byte_of a ha j
  obtain ⟨y, hy, hy8⟩ := byte_of b hb j
  have ea : a[j]?.getD 0 = a[j] := by simp [h1]
  have eb : b[j]?.getD 0 = b[j] := by simp [h2]
  rw [← ea, ← eb, hx, hy]
  have : x = y := by
    apply Nat.eq_of_testBit_eq
    intro i
    by_cases hi : i < 8
    · have := h (8 * j + i)
      unfold bitAt at this
      rw [show (8 * j + i) / 8 = j from by omega, show (8 * j + i) % 8 = i from by omega, hx, hy, Int.toNat_natCast, Int.toNat_natCast] at this
      exact this
    · have hp : 2 ^ 8 ≤ 2 ^ i := Nat.pow_le_pow_right (by omega) (by omega)
      rw [Nat.testBit_lt_two_pow (by simp only [Nat.reducePow] at hp; omega), Nat.testBit_lt_two_pow (by simp only [Nat.reducePow] at hp; omega)]
  rw [this]

theorem has_nat (bs : List Int) (i : Nat) : hasB bs (i : Int) = bitAt bs i := by unfold hasB; simp
/-- How many, counted up to any bound beyond the end. -/
theorem all_count (bs : List Int) (N : Nat) (h : 8 * bs.length ≤ N) : (allB bs).length = (List.range N).countP (bitAt bs) := by
  obtain ⟨m, rfl⟩ := Nat.exists_eq_add_of_le h
  rw [List.range_add, List.countP_append, allB, List.countP_eq_length_filter]
  have : List.countP (bitAt bs) ((List.range m).map (8 * bs.length + ·)) = 0 := by
    rw [List.countP_eq_zero]
    intro x hx hb
    obtain ⟨y, _, rfl⟩ := List.mem_map.1 hx
    have := bit_in hb
    omega
  omega
theorem countP_or (p q : Nat → Bool) : ∀ l : List Nat, l.countP (fun i => p i || q i) ≤ l.countP p + l.countP q
  | [] => by simp
  | x :: l => by
    have := countP_or p q l
    simp only [List.countP_cons]
    cases p x <;> cases q x <;> simp <;> omega
theorem count_or (a b : List Int) : (allB (orB a b)).length ≤ (allB a).length + (allB b).length := by
  rw [all_count (orB a b) (8 * (max a.length b.length)) (by rw [or_length]; omega), all_count a (8 * (max a.length b.length)) (by omega), all_count b (8 * (max a.length b.length)) (by omega)]
  refine Nat.le_trans (Nat.le_of_eq ?_) (countP_or (bitAt a) (bitAt b) _)
  apply List.countP_congr
  intro x _
  rw [or_bit]
theorem count_le (a b : List Int) (h : ∀ i, bitAt a i = true → bitAt b i = true) : (allB a).length ≤ (allB b).length := by
  rw [all_count a (8 * (max a.length b.length)) (by omega), all_count b (8 * (max a.length b.length)) (by omega)]
  exact List.countP_mono_left (fun x _ => h x)
theorem or_comm (a b : List Int) : orB a b = orB b a := by
  unfold orB
  rw [Nat.max_comm]
  apply List.map_congr_left
  intro j _
  unfold orI
  rw [Nat.or_comm]
theorem or_assoc {a b c : List Int} (ha : IsBytes a) (hb : IsBytes b) (hc : IsBytes c) : orB a (orB b c) = orB (orB a b) c := by
  refine bits_ext (or_bytes ha (or_bytes hb hc)) (or_bytes (or_bytes ha hb) hc) (by simp only [or_length]; omega) fun i => ?_
  simp only [or_bit, Bool.or_assoc]
theorem or_self {a : List Int} (ha : IsBytes a) : orB a a = a := by
  refine bits_ext (or_bytes ha ha) ha (by simp only [or_length]; omega) fun i => ?_
  simp only [or_bit, Bool.or_self]
theorem with_in {a : List Int} (ha : IsBytes a) {i : Nat} (h : bitAt a i = true) : withB a (i : Int) = a := by
  refine bits_ext (with_bytes ha _) ha (with_length _ _) fun k => ?_
  rw [with_bit]
  by_cases e : k = i
  · subst e; rw [h]; simp
  · have : (k == (i : Int).toNat) = false := by simpa using e
    rw [this]; simp
end Go.Proofs.Ytiidfffedoekiaa
