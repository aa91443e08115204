/- Plain facts on numbers and their bytes; no program is named here. -/
import Derived.WalkKit
import Derived.Laws.BitsAllLaws
import Derived.Below
namespace Go.Proofs.Ytajamblkjmafmaa
open Go.RowKit
set_option linter.unusedVariables false

/-- The number that the first k bytes stand for, the lowest first. -/
def getN (bs : List Int) : Nat → Int
  | 0 => 0
  | k + 1 => getN bs k + bs[k]?.getD 0 * 2 ^ (8 * k)

/-- All numbers of a list fit a byte. -/
def IsBytes (bs : List Int) : Prop := ∀ j : Nat, 0 ≤ bs[j]?.getD 0 ∧ bs[j]?.getD 0 < 256

theorem pow_cases (P : Nat → Prop) (h0 : P 0) (h1 : P 1) (h2 : P 2) (h3 : P 3) (h4 : P 4) (h5 : P 5) (h6 : P 6) (h7 : P 7) (k : Nat) (hk : k < 8) : P k := by
  match k, hk with
  | 0, _ => exact h0
  | 1, _ => exact h1
  | 2, _ => exact h2
  | 3, _ => exact h3
  | 4, _ => exact h4
  | 5, _ => exact h5
  | 6, _ => exact h6
  | 7, _ => exact h7

theorem wrap_pow (k : Nat) (hk : k < 8) : IntKind.u64.wrap (2 ^ (8 * k)) = 2 ^ (8 * k) := by
  rw [IntKind.wrap_u64]
  refine pow_cases (fun k => (2 : Int) ^ (8 * k) % 18446744073709551616 = 2 ^ (8 * k)) ?_ ?_ ?_ ?_ ?_ ?_ ?_ ?_ k hk <;> decide

/-- What a round of the reading makes of the number so far. -/
def orStep (v y : Int) (k : Nat) : Int := bits BinOp.or IntKind.u64 v (IntKind.u64.wrap (y * 2 ^ (8 * k)))

theorem wrap_u64_in (x : Int) (h0 : 0 ≤ x) (h1 : x < 18446744073709551616) : IntKind.u64.wrap x = x := by
  rw [IntKind.wrap_u64]; omega

theorem shl_lt (y : Int) (k : Nat) (hk : k < 8) (h0 : 0 ≤ y) (h1 : y < 256) : 0 ≤ y * 2 ^ (8 * k) ∧ y * 2 ^ (8 * k) < 18446744073709551616 := by
  revert y
  refine pow_cases (fun k => ∀ y : Int, 0 ≤ y → y < 256 → 0 ≤ y * 2 ^ (8 * k) ∧ y * 2 ^ (8 * k) < 18446744073709551616) ?_ ?_ ?_ ?_ ?_ ?_ ?_ ?_ k hk <;> (intro y h0 h1; simp only [Nat.reduceMul, Int.reducePow]; omega)

theorem orStep_eq (v y : Int) (k : Nat) (hk : k < 8) (hv0 : 0 ≤ v) (hv1 : v < 18446744073709551616) (h0 : 0 ≤ y) (h1 : y < 256) :
    orStep v y k = ((v.toNat ||| (y * 2 ^ (8 * k)).toNat : Nat) : Int) := by
  obtain ⟨a, b⟩ := shl_lt y k hk h0 h1
  unfold orStep
  rw [wrap_u64_in _ a b, u64_or v _ hv0 hv1 a b]

theorem orStep_bd (v y : Int) (k : Nat) (hk : k < 8) (hv0 : 0 ≤ v) (hv1 : v < 18446744073709551616) (h0 : 0 ≤ y) (h1 : y < 256) :
    0 ≤ orStep v y k ∧ orStep v y k < 18446744073709551616 := by
  obtain ⟨a, b⟩ := shl_lt y k hk h0 h1
  rw [orStep_eq v y k hk hv0 hv1 h0 h1]
  have := Nat.or_lt_two_pow (n := 64) (show v.toNat < 2 ^ 64 by simp only [Nat.reducePow]; omega) (show (y * 2 ^ (8 * k)).toNat < 2 ^ 64 by simp only [Nat.reducePow]; omega)
  simp only [Nat.reducePow] at this
  omega

theorem orStep_add (v y : Int) (k : Nat) (hk : k < 8) (hv0 : 0 ≤ v) (hv1 : v < 18446744073709551616) (hvk : v < 2 ^ (8 * k)) (h0 : 0 ≤ y) (h1 : y < 256) :
    orStep v y k = v + y * 2 ^ (8 * k) := by
  rw [orStep_eq v y k hk hv0 hv1 h0 h1]
  obtain ⟨a, rfl⟩ := Int.eq_ofNat_of_zero_le hv0
  obtain ⟨c, rfl⟩ := Int.eq_ofNat_of_zero_le h0
  have e1 : ((c : Int) * 2 ^ (8 * k)) = ((2 ^ (8 * k) * c : Nat) : Int) := by simp [Int.mul_comm]
  have ha : a < 2 ^ (8 * k) := by
    have : ((a : Nat) : Int) < ((2 ^ (8 * k) : Nat) : Int) := by simpa using hvk
    omega
  rw [e1, Int.toNat_natCast, Int.toNat_natCast, Nat.or_comm, ← Nat.two_pow_add_eq_or_of_lt ha c]
  omega

theorem getN_bd (bs : List Int) (h : IsBytes bs) : ∀ k : Nat, 0 ≤ getN bs k ∧ getN bs k < 2 ^ (8 * k)
  | 0 => by simp [getN]
  | k + 1 => by
    obtain ⟨a, b⟩ := getN_bd bs h k
    obtain ⟨c, d⟩ := h k
    have hp : (0 : Int) < 2 ^ (8 * k) := Int.pow_pos (by omega)
    have e : (2 : Int) ^ (8 * (k + 1)) = 256 * 2 ^ (8 * k) := by rw [show 8 * (k + 1) = 8 * k + 8 from by omega, Int.pow_add]; simp [Int.mul_comm]
    rw [e]
    unfold getN
    have h1 : 0 ≤ bs[k]?.getD 0 * 2 ^ (8 * k) := Int.mul_nonneg c (by omega)
    have h2 : bs[k]?.getD 0 * 2 ^ (8 * k) ≤ 255 * 2 ^ (8 * k) := Int.mul_le_mul_of_nonneg_right (by omega) (by omega)
    omega

theorem getN_step (bs : List Int) (h : IsBytes bs) (k : Nat) (hk : k < 8) : orStep (getN bs k) (bs[k]?.getD 0) k = getN bs (k + 1) := by
  obtain ⟨a, b⟩ := getN_bd bs h k
  obtain ⟨c, d⟩ := h k
  have hb : getN bs k < 18446744073709551616 := by
    refine Int.lt_of_lt_of_le b ?_
    refine pow_cases (fun k => (2 : Int) ^ (8 * k) ≤ 18446744073709551616) ?_ ?_ ?_ ?_ ?_ ?_ ?_ ?_ k hk <;> decide
  exact orStep_add _ _ k hk a hb b c d

theorem getN_plus (bs : List Int) (h : IsBytes bs) (k : Nat) (hk : k < 8) : IntKind.u64.wrap (getN bs k + IntKind.u64.wrap (bs[k]?.getD 0 * 2 ^ (8 * k))) = getN bs (k + 1) := by
  obtain ⟨a, b⟩ := getN_bd bs h (k + 1)
  obtain ⟨c, d⟩ := h k
  obtain ⟨e, f⟩ := shl_lt _ k hk c d
  have hb : (2 : Int) ^ (8 * (k + 1)) ≤ 18446744073709551616 := by
    refine pow_cases (fun k => (2 : Int) ^ (8 * (k + 1)) ≤ 18446744073709551616) ?_ ?_ ?_ ?_ ?_ ?_ ?_ ?_ k hk <;> decide
  rw [wrap_u64_in _ e f]
  exact wrap_u64_in (getN bs k + bs[k]?.getD 0 * 2 ^ (8 * k)) a (Int.lt_of_lt_of_le b hb)

/-- The number of places of a size. -/
def nPlaces (size : Int) : Nat := if size ≤ 8 then size.toNat else 8
theorem nPlaces_cases (size : Int) : (size ≤ 8 ∧ nPlaces size = size.toNat) ∨ (8 < size ∧ nPlaces size = 8) := by
  unfold nPlaces
  by_cases h : size ≤ 8
  · exact .inl ⟨h, if_pos h⟩
  · exact .inr ⟨by omega, if_neg h⟩
theorem nPlaces_le (size : Int) : nPlaces size ≤ 8 := by unfold nPlaces; split <;> omega
theorem nPlaces_lt {size : Int} {k : Nat} (h : k < nPlaces size) : (k : Int) < size := by unfold nPlaces at h; split at h <;> omega

def getL (bs : List Int) : Int := getN bs (nPlaces (bs.length : Int))

theorem prefix_snoc {m : Nat} {pre : List (Fin m)} {x : Fin m} (h : pre ++ [x] <+: List.finRange m) : pre <+: List.finRange m ∧ x.1 = pre.length := by
  obtain ⟨t, ht⟩ := h
  refine ⟨⟨x :: t, by rw [← ht]; simp⟩, ?_⟩
  have h1 : (List.finRange m)[pre.length]? = some x := by rw [← ht]; simp
  have h2 : pre.length < m := by
    have := congrArg List.length ht
    simp at this; omega
  rw [List.getElem?_eq_getElem (by simpa using h2)] at h1
  simp at h1
  rw [← h1]
/-- The bytes of a number, of which the first eight count. -/
def putL (n : Int) (size : Nat) : List Int := (List.range size).map fun i => if i < 8 then n / 2 ^ (8 * i) % 256 else 0
theorem putL_length (n : Int) (size : Nat) : (putL n size).length = size := by simp [putL]
/-- .. of whatever size. -/
def putZ (n size : Int) : List Int := if size < 1 ∨ 16 < size then [] else putL n size.toNat
theorem putZ_nat (n : Int) (size : Nat) (h1 : 1 ≤ size) (h2 : size ≤ 16) : putZ n (size : Int) = putL n size := by unfold putZ; rw [if_neg (by omega), Int.toNat_natCast]
theorem putL_get (n : Int) (size j : Nat) (h : j < size) : (putL n size)[j]?.getD 0 = if j < 8 then n / 2 ^ (8 * j) % 256 else 0 := by simp [putL, h]
theorem putL_bytes (n : Int) (size : Nat) : IsBytes (putL n size) := by
  intro j
  by_cases h : j < size
  · rw [putL_get n size j h]; split <;> omega
  · simp [putL, h]
/-- What lies there when some places are written. -/
def putF (n : Int) (size : Nat) {m : Nat} (pre : List (Fin m)) : List Value := (List.range size).map fun i => Value.int .u8 (if pre.any (fun x => x.1 == i) then n / 2 ^ (8 * i) % 256 else 0)
theorem putF_nil (n : Int) (size m : Nat) : putF n size (m := m) [] = List.replicate size (Value.int .u8 0) := by
  unfold putF
  apply List.ext_getElem
  · simp
  · intro i h1 h2; simp
theorem putF_snoc (n : Int) (size m : Nat) (pre : List (Fin m)) (x : Fin m) : putF n size (pre ++ [x]) = (putF n size pre).set x.1 (Value.int .u8 (n / 2 ^ (8 * x.1) % 256)) := by
  unfold putF
  apply List.ext_getElem
  · simp
  · intro i h1 h2
    simp only [List.getElem_map, List.getElem_range, List.getElem_set, List.any_append, List.any_cons, List.any_nil, Bool.or_false]
    by_cases e : x.1 = i
    · subst e; simp
    · rw [if_neg e]
      have : (x.1 == i) = false := by simpa using e
      rw [this, Bool.or_false]
theorem putF_all (n : Int) (size : Nat) : putF n size (List.finRange (nPlaces (size : Int))) = (putL n size).map (Value.int .u8) := by
  unfold putF putL
  rw [List.map_map]
  apply List.map_congr_left
  intro i hi
  have hi' : i < size := by simpa using hi
  have e : (List.finRange (nPlaces (size : Int))).any (fun x => x.1 == i) = decide (i < 8) := by
    rw [Bool.eq_iff_iff]
    simp only [List.any_eq_true, List.mem_finRange, true_and, beq_iff_eq, decide_eq_true_eq]
    constructor
    · rintro ⟨x, rfl⟩
      have := x.2
      have := nPlaces_le (size : Int)
      omega
    · intro h
      exact ⟨⟨i, by unfold nPlaces; split <;> omega⟩, rfl⟩
  simp only [Function.comp, e, decide_eq_true_eq]

/-- What lies there when the first k places are written. -/
def putP (n : Int) (size k : Nat) : List Value := (List.range size).map fun i => Value.int .u8 (if i < k then n / 2 ^ (8 * i) % 256 else 0)
theorem putP_zero (n : Int) (size : Nat) : putP n size 0 = List.replicate size (Value.int .u8 0) := by
  unfold putP
  apply List.ext_getElem
  · simp
  · intro i h1 h2; simp
theorem putP_succ (n : Int) (size k : Nat) : putP n size (k + 1) = (putP n size k).set k (Value.int .u8 (n / 2 ^ (8 * k) % 256)) := by
  unfold putP
  apply List.ext_getElem
  · simp
  · intro i h1 h2
    simp only [List.getElem_map, List.getElem_range, List.getElem_set]
    by_cases e : k = i
    · subst e; simp
    · rw [if_neg e]
      by_cases h : i < k
      · rw [if_pos h, if_pos (by omega)]
      · rw [if_neg h, if_neg (by omega)]
theorem putP_all (n : Int) (size : Nat) : putP n size (nPlaces (size : Int)) = (putL n size).map (Value.int .u8) := by
  unfold putP putL
  rw [List.map_map]
  apply List.map_congr_left
  intro i hi
  have hi' : i < size := by simpa using hi
  have e : (i < nPlaces (size : Int)) ↔ i < 8 := by unfold nPlaces; split <;> omega
  simp only [Function.comp, e]

/-- A number's bytes are the number, as far as they have room. -/
theorem getN_putL (n : Int) (hn : 0 ≤ n) (K : Nat) : ∀ j : Nat, j ≤ K → j ≤ 8 → getN (putL n K) j = n % 2 ^ (8 * j)
  | 0, _, _ => by simp [getN]
  | j + 1, h1, h2 => by
    have ih := getN_putL n hn K j (by omega) (by omega)
    unfold getN
    rw [ih, putL_get n K j (by omega), if_pos (by omega)]
    refine pow_cases (fun j => n % 2 ^ (8 * j) + n / 2 ^ (8 * j) % 256 * 2 ^ (8 * j) = n % 2 ^ (8 * (j + 1))) ?_ ?_ ?_ ?_ ?_ ?_ ?_ ?_ j (by omega) <;> (simp only [Nat.reduceMul, Nat.reduceAdd, Int.reducePow]; omega)
theorem getL_putL (n : Int) (h0 : 0 ≤ n) (h1 : n < 18446744073709551616) (K : Nat) : getL (putL n K) = if K < 8 then n % 2 ^ (8 * K) else n := by
  unfold getL
  rw [putL_length]
  by_cases h : K < 8
  · rw [if_pos h, show nPlaces (K : Int) = K from by unfold nPlaces; rw [if_pos (by omega)]; omega, getN_putL n h0 K K (Nat.le_refl _) (by omega)]
  · rw [if_neg h, show nPlaces (K : Int) = 8 from by unfold nPlaces; split <;> omega, getN_putL n h0 K 8 (by omega) (by omega)]
    simp only [Nat.reduceMul, Int.reducePow]
    omega

theorem getN_digit (bs : List Int) (h : IsBytes bs) : ∀ (m i : Nat), i < m → getN bs m / 2 ^ (8 * i) % 256 = bs[i]?.getD 0
  | 0, i, hi => by omega
  | m + 1, i, hi => by
    obtain ⟨a, b⟩ := getN_bd bs h m
    obtain ⟨c, d⟩ := h m
    unfold getN
    by_cases e : i = m
    · subst e
      have hp : (2 : Int) ^ (8 * i) ≠ 0 := Int.ne_of_gt (Int.pow_pos (by omega))
      rw [Int.add_mul_ediv_right _ _ hp, Int.ediv_eq_zero_of_lt a b]
      omega
    · have ih := getN_digit bs h m i (by omega)
      have hp : (2 : Int) ^ (8 * i) ≠ 0 := Int.ne_of_gt (Int.pow_pos (by omega))
      have e1 : bs[m]?.getD 0 * 2 ^ (8 * m) = (bs[m]?.getD 0 * 2 ^ (8 * (m - i - 1)) * 256) * 2 ^ (8 * i) := by
        rw [show 8 * m = 8 * (m - i - 1) + (8 + 8 * i) from by omega, Int.pow_add, Int.pow_add]
        simp only [Int.reducePow, Int.mul_assoc]
      rw [e1, Int.add_mul_ediv_right _ _ hp, Int.add_mul_emod_self_right]
      exact ih

/-- Bytes' number's bytes are these, up to eight. -/
theorem putL_getL (bs : List Int) (h : IsBytes bs) (h8 : bs.length ≤ 8) : putL (getL bs) bs.length = bs := by
  apply List.ext_getElem
  · simp [putL]
  · intro i h1 h2
    have e := getN_digit bs h bs.length i h2
    have e2 : bs[i]?.getD 0 = bs[i] := by simp [h2]
    simp only [putL, List.getElem_map, List.getElem_range]
    rw [if_pos (by omega)]
    unfold getL
    rw [show nPlaces (bs.length : Int) = bs.length from by unfold nPlaces; rw [if_pos (by omega)]; omega, e, e2]
theorem getL_bd (bs : List Int) (h : IsBytes bs) : 0 ≤ getL bs ∧ getL bs < 18446744073709551616 := by
  obtain ⟨a, b⟩ := getN_bd bs h (nPlaces (bs.length : Int))
  refine ⟨a, Int.lt_of_lt_of_le b ?_⟩
  have := nPlaces_le (bs.length : Int)
  by_cases h8 : nPlaces (bs.length : Int) = 8
  · rw [h8]; decide
  · refine pow_cases (fun k => (2 : Int) ^ (8 * k) ≤ 18446744073709551616) ?_ ?_ ?_ ?_ ?_ ?_ ?_ ?_ (nPlaces (bs.length : Int)) (by omega) <;> decide

/-- Where the numbers of a slice value lie. -/
def LiesAt (k : IntKind) (w : World) (a : Option Addr) (bs : List Int) : Prop :=
  bs = [] ∨ ∃ b off, a = some ⟨b, off, none⟩ ∧ b < w.heap.size ∧ ∀ j, j < bs.length → w.cell? ⟨b, off + j, none⟩ = some (.int k (bs[j]?.getD 0))

/-- A slice value that leads to numbers of kind k. -/
def Sl (k : IntKind) (w : World) (v : Value) (bs : List Int) : Prop :=
  ∃ a cap, v = .slice a bs.length cap ∧ bs.length ≤ cap ∧ cap ≤ maxLen ∧ LiesAt k w a bs ∧ (a = none → cap = 0)
theorem Sl.nil (k : IntKind) (w : World) : Sl k w (.slice none 0 0) [] := ⟨none, 0, rfl, Nat.le_refl _, Nat.zero_le _, .inl rfl, fun _ => rfl⟩
theorem Sl.at {k : IntKind} {w : World} {b off cap : Nat} {bs : List Int} (h1 : bs.length ≤ cap) (h2 : cap ≤ maxLen) (h3 : b < w.heap.size) (h4 : ∀ j, j < bs.length → w.cell? ⟨b, off + j, none⟩ = some (.int k (bs[j]?.getD 0))) :
    Sl k w (.slice (some ⟨b, off, none⟩) bs.length cap) bs := ⟨_, cap, rfl, h1, h2, .inr ⟨b, off, rfl, h3, h4⟩, fun e => by cases e⟩
theorem Sl.below {k : IntKind} {w w' : World} {v : Value} {bs : List Int} (h : Sl k w v bs) (hb : Below w.heap.size w w') : Sl k w' v bs := by
  obtain ⟨a, cap, e, h1, h2, h, hn⟩ := h
  refine ⟨a, cap, e, h1, h2, ?_, hn⟩
  rcases h with h | ⟨b, off, e, h3, h4⟩
  · exact .inl h
  · exact .inr ⟨b, off, e, Nat.lt_of_lt_of_le h3 hb.size, fun j hj => (hb.cell (p := ⟨b, off + j, none⟩) h3).trans (h4 j hj)⟩
end Go.Proofs.Ytajamblkjmafmaa
