/- The ground of the proofs, part 1. -/
import Derived.WalkKit
import Derived.Laws.BitsAllLaws
import Derived.Below
import Derived.IntWalk
import Derived.Laws.OwnMore
import Derived.Laws.Rows
import Derived.OwnWalk
import Derived.RangeFuncSeq
import Derived.Deep.MidRow
import Derived.Test.YtfihpljgbghogaaProg
import Derived.Deep.WholeRow
import Derived.ChangeKeysEq
import Derived.Lib.Hide
import Derived.Laws.ResultCell
import Derived.Great.BuildSlice
import Derived.StillTailTactics
import Derived.OrdersIn
import Derived.RangeFuncCalls
import Derived.RangeFuncKeeps
import Derived.RangeFuncBox
import Derived.Laws.CopyOwn
import Derived.TacticsIn
import Derived.OwnWalkIn
import Derived.OrdersHeld
import Derived.StillTail
import Derived.BigQuiet
import Derived.Test.YtfihpljgbghogaaRows
import Derived.ProofKit
import Derived.OpenShut
import Derived.ShutString
import Derived.ChangeOld
import Derived.Deep.Slices
import Derived.Lib.SmallJoins
import Derived.RangeFuncOwn
import Derived.RangeFuncNested
import Derived.RangeFuncBound
import Derived.Shelf.Abstract
import Derived.Laws.BytesArg
import Derived.Maps.AppendAt
import Derived.WalkMore
import Derived.LoopTactic
import Derived.Lib.AppendZerosOnto
import Derived.Lib.Overlaps
import Derived.RangeFuncLeaves
import Derived.Shelf.RegionOpen
import Derived.TacticsInMore
import Derived.LoopNIn
import Derived.LoopIn
/- Plain facts on numbers and their bytes; no program is named here. -/
namespace Go.Proofs.Ytfihpljgbghogaa
open Go.RowKit
set_option linter.unusedVariables false

/-- The number that the first k bytes stand for, the lowest first. -/
def getN (bs : List Int) : Nat → Int
  | 0 => 0
  | k + 1 => getN bs k + bs[k]?.getD 0 * 2 ^ (8 * k)

/-- All numbers of a list fit a byte. -/
def IsBytes (bs : List Int) : Prop := ∀ j : Nat, 0 ≤ bs[j]?.getD 0 ∧ bs[j]?.getD 0 < 256

theorem pow_cases (P : Nat → Prop) (h0 : P 0) (h1 : P 1) (h2 : P 2) (h3 : P 3) (h4 : P 4) (h5 : P 5) (h6 : P 6) (h7 : P 7) (k : Nat) (hk : k < 8) : P k := by
  match k, hk with
  | 0, _ => exact h0
  | 1, _ => exact h1
  | 2, _ => exact h2
  | 3, _ => exact h3
  | 4, _ => exact h4
  | 5, _ => exact h5
  | 6, _ => exact h6
  | 7, _ => exact h7

/-- What a round of the reading makes of the number so far. -/
def orStep (v y : Int) (k : Nat) : Int := bits BinOp.or IntKind.u64 v (IntKind.u64.wrap (y * 2 ^ (8 * k)))

theorem wrap_u64_in (x : Int) (h0 : 0 ≤ x) (h1 : x < 18446744073709551616) : IntKind.u64.wrap x = x := by
  rw [IntKind.wrap_u64]; omega

theorem shl_lt (y : Int) (k : Nat) (hk : k < 8) (h0 : 0 ≤ y) (h1 : y < 256) : 0 ≤ y * 2 ^ (8 * k) ∧ y * 2 ^ (8 * k) < 18446744073709551616 := by
  revert y
  refine pow_cases (fun k => ∀ y : Int, 0 ≤ y → y < 256 → 0 ≤ y * 2 ^ (8 * k) ∧ y * 2 ^ (8 * k) < 18446744073709551616) ?_ ?_ ?_ ?_ ?_ ?_ ?_ ?_ k hk <;> (intro y h0 h1; simp only [Nat.reduceMul, Int.reducePow]; omega)

theorem orStep_eq (v y : Int) (k : Nat) (hk : k < 8) (hv0 : 0 ≤ v) (hv1 : v < 18446744073709551616) (h0 : 0 ≤ y) (h1 : y < 256) :
    orStep v y k = ((v.toNat ||| (y * 2 ^ (8 * k)).toNat : Nat) : Int) := by
  obtain ⟨a, b⟩ := shl_lt y k hk h0 h1
  unfold orStep
  rw [wrap_u64_in _ a b, u64_or v _ hv0 hv1 a b]

theorem orStep_bd (v y : Int) (k : Nat) (hk : k < 8) (hv0 : 0 ≤ v) (hv1 : v < 18446744073709551616) (h0 : 0 ≤ y) (h1 : y < 256) :
    0 ≤ orStep v y k ∧ orStep v y k < 18446744073709551616 := by
  obtain ⟨a, b⟩ := shl_lt y k hk h0 h1
  rw [orStep_eq v y k hk hv0 hv1 h0 h1]
  have := Nat.or_lt_two_pow (n := 64) (show v.toNat < 2 ^ 64 by simp only [Nat.reducePow]; omega) (show (y * 2 ^ (8 * k)).toNat < 2 ^ 64 by simp only [Nat.reducePow]; omega)
  simp only [Nat.reducePow] at this
  omega

theorem orStep_add (v y : Int) (k : Nat) (hk : k < 8) (hv0 : 0 ≤ v) (hv1 : v < 18446744073709551616) (hvk : v < 2 ^ (8 * k)) (h0 : 0 ≤ y) (h1 : y < 256) :
    orStep v y k = v + y * 2 ^ (8 * k) := by
  rw [orStep_eq v y k hk hv0 hv1 h0 h1]
  obtain ⟨a, rfl⟩ := Int.eq_ofNat_of_zero_le hv0
  obtain ⟨c, rfl⟩ := Int.eq_ofNat_of_zero_le h0
  have e1 : ((c : Int) * 2 ^ (8 * k)) = ((2 ^ (8 * k) * c : Nat) : Int) := by simp [Int.mul_comm]
  have ha : a < 2 ^ (8 * k) := by
    have : ((a : Nat) : Int) < ((2 ^ (8 * k) : Nat) : Int) := by simpa using hvk
    omega
  rw [e1, Int.toNat_natCast, Int.toNat_natCast, Nat.or_comm, ← Nat.two_pow_add_eq_or_of_lt ha c]
  omega

theorem getN_bd (bs : List Int) (h : IsBytes bs) : ∀ k : Nat, 0 ≤ getN bs k ∧ getN bs k < 2 ^ (8 * k)
  | 0 => by simp [getN]
  | k + 1 => by
    obtain ⟨a, b⟩ := getN_bd bs h k
    obtain ⟨c, d⟩ := h k
    have hp : (0 : Int) < 2 ^ (8 * k) := Int.pow_pos (by omega)
    have e : (2 : Int) ^ (8 * (k + 1)) = 256 * 2 ^ (8 * k) := by rw [show 8 * (k + 1) = 8 * k + 8 from by omega, Int.pow_add]; simp [Int.mul_comm]
    rw [e]
    unfold getN
    have h1 : 0 ≤ bs[k]?.getD 0 * 2 ^ (8 * k) := Int.mul_nonneg c (by omega)
    have h2 : bs[k]?.getD 0 * 2 ^ (8 * k) ≤ 255 * 2 ^ (8 * k) := Int.mul_le_mul_of_nonneg_right (by omega) (by omega)
    omega

theorem getN_step (bs : List Int) (h : IsBytes bs) (k : Nat) (hk : k < 8) : orStep (getN bs k) (bs[k]?.getD 0) k = getN bs (k + 1) := by
  obtain ⟨a, b⟩ := getN_bd bs h k
  obtain ⟨c, d⟩ := h k
  have hb : getN bs k < 18446744073709551616 := by
    refine Int.lt_of_lt_of_le b ?_
    refine pow_cases (fun k => (2 : Int) ^ (8 * k) ≤ 18446744073709551616) ?_ ?_ ?_ ?_ ?_ ?_ ?_ ?_ k hk <;> decide
  exact orStep_add _ _ k hk a hb b c d

theorem getN_plus (bs : List Int) (h : IsBytes bs) (k : Nat) (hk : k < 8) : IntKind.u64.wrap (getN bs k + IntKind.u64.wrap (bs[k]?.getD 0 * 2 ^ (8 * k))) = getN bs (k + 1) := by
  obtain ⟨a, b⟩ := getN_bd bs h (k + 1)
  obtain ⟨c, d⟩ := h k
  obtain ⟨e, f⟩ := shl_lt _ k hk c d
  have hb : (2 : Int) ^ (8 * (k + 1)) ≤ 18446744073709551616 := by
    refine pow_cases (fun k => (2 : Int) ^ (8 * (k + 1)) ≤ 18446744073709551616) ?_ ?_ ?_ ?_ ?_ ?_ ?_ ?_ k hk <;> decide
  rw [wrap_u64_in _ e f]
  exact wrap_u64_in (getN bs k + bs[k]?.getD 0 * 2 ^ (8 * k)) a (Int.lt_of_lt_of_le b hb)

/-- The number of places of a size. -/
def nPlaces (size : Int) : Nat := if size ≤ 8 then size.toNat else 8
theorem nPlaces_cases (size : Int) : (size ≤ 8 ∧ nPlaces size = size.toNat) ∨ (8 < size ∧ nPlaces size = 8) := by
  unfold nPlaces
  by_cases h : size ≤ 8
  · exact .inl ⟨h, if_pos h⟩
  · exact .inr ⟨by omega, if_neg h⟩
theorem nPlaces_le (size : Int) : nPlaces size ≤ 8 := by unfold nPlaces; split <;> omega
theorem nPlaces_lt {size : Int} {k : Nat} (h : k < nPlaces size) : (k : Int) < size := by unfold nPlaces at h; split at h <;> omega

def getL (bs : List Int) : Int := getN bs (nPlaces (bs.length : Int))

theorem prefix_snoc {m : Nat} {pre : List (Fin m)} {x : Fin m} (h : pre ++ [x] <+: List.finRange m) : pre <+: List.finRange m ∧ x.1 = pre.length := by
  obtain ⟨t, ht⟩ := h
  refine ⟨⟨x :: t, by rw [← ht]; simp⟩, ?_⟩
  have h1 : (List.finRange m)[pre.length]? = some x := by rw [← ht]; simp
  have h2 : pre.length < m := by
    have := congrArg List.length ht
    simp at this; omega
  rw [List.getElem?_eq_getElem (by simpa using h2)] at h1
  simp at h1
  rw [← h1]
/-- The bytes of a number, of which the first eight count. -/
def putL (n : Int) (size : Nat) : List Int := (List.range size).map fun i => if i < 8 then n / 2 ^ (8 * i) % 256 else 0
theorem putL_length (n : Int) (size : Nat) : (putL n size).length = size := by simp [putL]
theorem putL_get (n : Int) (size j : Nat) (h : j < size) : (putL n size)[j]?.getD 0 = if j < 8 then n / 2 ^ (8 * j) % 256 else 0 := by simp [putL, h]
theorem putL_bytes (n : Int) (size : Nat) : IsBytes (putL n size) := by
  intro j
  by_cases h : j < size
  · rw [putL_get n size j h]; split <;> omega
  · simp [putL, h]
/-- What lies there when some places are written. -/
def putF (n : Int) (size : Nat) {m : Nat} (pre : List (Fin m)) : List Value := (List.range size).map fun i => Value.int .u8 (if pre.any (fun x => x.1 == i) then n / 2 ^ (8 * i) % 256 else 0)
theorem putF_nil (n : Int) (size m : Nat) : putF n size (m := m) [] = List.replicate size (Value.int .u8 0) := by
  unfold putF
  apply List.ext_getElem
  · simp
  · intro i h1 h2; simp
theorem putF_snoc (n : Int) (size m : Nat) (pre : List (Fin m)) (x : Fin m) : putF n size (pre ++ [x]) = (putF n size pre).set x.1 (Value.int .u8 (n / 2 ^ (8 * x.1) % 256)) := by
  unfold putF
  apply List.ext_getElem
  · simp
  · intro i h1 h2
    simp only [List.getElem_map, List.getElem_range, List.getElem_set, List.any_append, List.any_cons, List.any_nil, Bool.or_false]
    by_cases e : x.1 = i
    · subst e; simp
    · rw [if_neg e]
      have : (x.1 == i) = false := by simpa using e
      rw [this, Bool.or_false]
theorem putF_all (n : Int) (size : Nat) : putF n size (List.finRange (nPlaces (size : Int))) = (putL n size).map (Value.int .u8) := by
  unfold putF putL
  rw [List.map_map]
  apply List.map_congr_left
  intro i hi
  have hi' : i < size := by simpa using hi
  have e : (List.finRange (nPlaces (size : Int))).any (fun x => x.1 == i) = decide (i < 8) := by
    rw [Bool.eq_iff_iff]
    simp only [List.any_eq_true, List.mem_finRange, true_and, beq_iff_eq, decide_eq_true_eq]
    constructor
    · rintro ⟨x, rfl⟩
      have := x.2
      have := nPlaces_le (size : Int)
      omega
    · intro h
      exact ⟨⟨i, by unfold nPlaces; split <;> omega⟩, rfl⟩
  simp only [Function.comp, e, decide_eq_true_eq]

/-- What lies there when the first k places are written. -/
def putP (n : Int) (size k : Nat) : List Value := (List.range size).map fun i => Value.int .u8 (if i < k then n / 2 ^ (8 * i) % 256 else 0)
theorem putP_zero (n : Int) (size : Nat) : putP n size 0 = List.replicate size (Value.int .u8 0) := by
  unfold putP
  apply List.ext_getElem
  · simp
  · intro i h1 h2; simp
theorem putP_succ (n : Int) (size k : Nat) : putP n size (k + 1) = (putP n size k).set k (Value.int .u8 (n / 2 ^ (8 * k) % 256)) := by
  unfold putP
  apply List.ext_getElem
  · simp
  · intro i h1 h2
    simp only [List.getElem_map, List.getElem_range, List.getElem_set]
    by_cases e : k = i
    · subst e; simp
    · rw [if_neg e]
      by_cases h : i < k
      · rw [if_pos h, if_pos (by omega)]
      · rw [if_neg h, if_neg (by omega)]
theorem putP_all (n : Int) (size : Nat) : putP n size (nPlaces (size : Int)) = (putL n size).map (Value.int .u8) := by
  unfold putP putL
  rw [List.map_map]
  apply List.map_congr_left
  intro i hi
  have hi' : i < size := by simpa using hi
  have e : (i < nPlaces (size : Int)) ↔ i < 8 := by unfold nPlaces; split <;> omega
  simp only [Function.comp, e]

/-- A number's bytes are the number, as far as they have room. -/
theorem getN_putL (n : Int) (hn : 0 ≤ n) (K : Nat) : ∀ j : Nat, j ≤ K → j ≤ 8 → getN (putL n K) j = n % 2 ^ (8 * j)
  | 0, _, _ => by simp [getN]
  | j + 1, h1, h2 => by
    have ih := getN_putL n hn K j (by omega) (by omega)
    unfold getN
    rw [ih, putL_get n K j (by omega), if_pos (by omega)]
    refine pow_cases (fun j => n % 2 ^ (8 * j) + n / 2 ^ (8 * j) % 256 * 2 ^ (8 * j) = n % 2 ^ (8 * (j + 1))) ?_ ?_ ?_ ?_ ?_ ?_ ?_ ?_ j (by omega) <;> (simp only [Nat.reduceMul, Nat.reduceAdd, Int.reducePow]; omega)
theorem getL_putL (n : Int) (h0 : 0 ≤ n) (h1 : n < 18446744073709551616) (K : Nat) : getL (putL n K) = if K < 8 then n % 2 ^ (8 * K) else n := by
  unfold getL
  rw [putL_length]
  by_cases h : K < 8
  · rw [if_pos h, show nPlaces (K : Int) = K from by unfold nPlaces; rw [if_pos (by omega)]; omega, getN_putL n h0 K K (Nat.le_refl _) (by omega)]
  · rw [if_neg h, show nPlaces (K : Int) = 8 from by unfold nPlaces; split <;> omega, getN_putL n h0 K 8 (by omega) (by omega)]
    simp only [Nat.reduceMul, Int.reducePow]
    omega

theorem getN_digit (bs : List Int) (h : IsBytes bs) : ∀ (m i : Nat), i < m → getN bs m / 2 ^ (8 * i) % 256 = bs[i]?.getD 0
  | 0, i, hi => by omega
  | m + 1, i, hi => by
    obtain ⟨a, b⟩ := getN_bd bs h m
    obtain ⟨c, d⟩ := h m
    unfold getN
    by_cases e : i = m
    · subst e
      have hp : (2 : Int) ^ (8 * i) ≠ 0 := Int.ne_of_gt (Int.pow_pos (by omega))
      rw [Int.add_mul_ediv_right _ _ hp, Int.ediv_eq_zero_of_lt a b]
      omega
    · have ih := getN_digit bs h m i (by omega)
      have hp : (2 : Int) ^ (8 * i) ≠ 0 := Int.ne_of_gt (Int.pow_pos (by omega))
      have e1 : bs[m]?.getD 0 * 2 ^ (8 * m) = (bs[m]?.getD 0 * 2 ^ (8 * (m - i - 1)) * 256) * 2 ^ (8 * i) := by
        rw [show 8 * m = 8 * (m - i - 1) + (8 + 8 * i) from by omega, Int.pow_add, Int.pow_add]
        simp only [Int.reducePow, Int.mul_assoc]
      rw [e1, Int.add_mul_ediv_right _ _ hp, Int.add_mul_emod_self_right]
      exact ih

/-- Bytes' number's bytes are these, up to eight. -/
theorem putL_getL (bs : List Int) (h : IsBytes bs) (h8 : bs.length ≤ 8) : putL (getL bs) bs.length = bs := by
  apply List.ext_getElem
  · simp [putL]
  · intro i h1 h2
    have e := getN_digit bs h bs.length i h2
    have e2 : bs[i]?.getD 0 = bs[i] := by simp [h2]
    simp only [putL, List.getElem_map, List.getElem_range]
    rw [if_pos (by omega)]
    unfold getL
    rw [show nPlaces (bs.length : Int) = bs.length from by unfold nPlaces; rw [if_pos (by omega)]; omega, e, e2]
theorem getL_bd (bs : List Int) (h : IsBytes bs) : 0 ≤ getL bs ∧ getL bs < 18446744073709551616 := by
  obtain ⟨a, b⟩ := getN_bd bs h (nPlaces (bs.length : Int))
  refine ⟨a, Int.lt_of_lt_of_le b ?_⟩
  have := nPlaces_le (bs.length : Int)
  by_cases h8 : nPlaces (bs.length : Int) = 8
  · rw [h8]; decide
  · refine pow_cases (fun k => (2 : Int) ^ (8 * k) ≤ 18446744073709551616) ?_ ?_ ?_ ?_ ?_ ?_ ?_ ?_ (nPlaces (bs.length : Int)) (by omega) <;> decide

/-- Where the numbers of a slice value lie. -/
def LiesAt (k : IntKind) (w : World) (a : Option Addr) (bs : List Int) : Prop :=
  bs = [] ∨ ∃ b off, a = some ⟨b, off, none⟩ ∧ b < w.heap.size ∧ ∀ j, j < bs.length → w.cell? ⟨b, off + j, none⟩ = some (.int k (bs[j]?.getD 0))

/-- A slice value that leads to numbers of kind k. -/
def Sl (k : IntKind) (w : World) (v : Value) (bs : List Int) : Prop :=
  ∃ a cap, v = .slice a bs.length cap ∧ bs.length ≤ cap ∧ cap ≤ maxLen ∧ LiesAt k w a bs ∧ (a = none → cap = 0)
theorem Sl.nil (k : IntKind) (w : World) : Sl k w (.slice none 0 0) [] := ⟨none, 0, rfl, Nat.le_refl _, Nat.zero_le _, .inl rfl, fun _ => rfl⟩
theorem Sl.at {k : IntKind} {w : World} {b off cap : Nat} {bs : List Int} (h1 : bs.length ≤ cap) (h2 : cap ≤ maxLen) (h3 : b < w.heap.size) (h4 : ∀ j, j < bs.length → w.cell? ⟨b, off + j, none⟩ = some (.int k (bs[j]?.getD 0))) :
    Sl k w (.slice (some ⟨b, off, none⟩) bs.length cap) bs := ⟨_, cap, rfl, h1, h2, .inr ⟨b, off, rfl, h3, h4⟩, fun e => by cases e⟩
theorem Sl.below {k : IntKind} {w w' : World} {v : Value} {bs : List Int} (h : Sl k w v bs) (hb : Below w.heap.size w w') : Sl k w' v bs := by
  obtain ⟨a, cap, e, h1, h2, h, hn⟩ := h
  refine ⟨a, cap, e, h1, h2, ?_, hn⟩
  rcases h with h | ⟨b, off, e, h3, h4⟩
  · exact .inl h
  · exact .inr ⟨b, off, e, Nat.lt_of_lt_of_le h3 hb.size, fun j hj => (hb.cell (p := ⟨b, off + j, none⟩) h3).trans (h4 j hj)⟩
end Go.Proofs.Ytfihpljgbghogaa

/- Plain facts on the check of bytes; no program is named here. -/
namespace Go.Proofs.Ytfihpljgbghogaa
open Go.RowKit
set_option linter.unusedVariables false

/-- One byte taken into a check. -/
def fnvStep (h y : Int) : Int := IntKind.u64.wrap (bits BinOp.xor IntKind.u64 h y * 1099511628211)
/-- Bytes taken into a check, one behind the other. -/
def fnvMore (h : Int) (bs : List Int) : Int := bs.foldl fnvStep h
def fnvInit : Int := 14695981039346656037

/-- A number that fits 64 bits. -/
def IsU64 (h : Int) : Prop := 0 ≤ h ∧ h < 18446744073709551616
theorem isU64_init : IsU64 fnvInit := by unfold IsU64 fnvInit; omega
theorem isU64_byte {y : Int} (h : 0 ≤ y ∧ y < 256) : IsU64 y := ⟨h.1, by omega⟩
theorem isU64_wrap (x : Int) : IsU64 (IntKind.u64.wrap x) := by
  rw [IntKind.wrap_u64]; unfold IsU64; omega
theorem isU64_step (h y : Int) : IsU64 (fnvStep h y) := isU64_wrap _

theorem fnvMore_cons (h y : Int) (bs : List Int) : fnvMore h (y :: bs) = fnvMore (fnvStep h y) bs := rfl
theorem fnvMore_append (h : Int) (as0 bs : List Int) : fnvMore h (as0 ++ bs) = fnvMore (fnvMore h as0) bs := by simp [fnvMore]
theorem fnvMore_snoc (h : Int) (as0 : List Int) (y : Int) : fnvMore h (as0 ++ [y]) = fnvStep (fnvMore h as0) y := by rw [fnvMore_append]; rfl
theorem isU64_more {h : Int} (bs : List Int) (hh : IsU64 h) : IsU64 (fnvMore h bs) := by
  induction bs generalizing h with
  | nil => exact hh
  | cons y bs ih => rw [fnvMore_cons]; exact ih (isU64_step h y)

theorem xor_u64 {a b : Int} (ha : IsU64 a) (hb : IsU64 b) : bits BinOp.xor IntKind.u64 a b = ((a.toNat ^^^ b.toNat : Nat) : Int) := u64_xor a b ha.1 ha.2 hb.1 hb.2
theorem xor_bd {a b : Int} (ha : IsU64 a) (hb : IsU64 b) : IsU64 (bits BinOp.xor IntKind.u64 a b) := by
  rw [xor_u64 ha hb]
  have := Nat.xor_lt_two_pow (n := 64) (show a.toNat < 2 ^ 64 by have := ha.2; have := ha.1; simp only [Nat.reducePow]; omega) (show b.toNat < 2 ^ 64 by have := hb.2; have := hb.1; simp only [Nat.reducePow]; omega)
  simp only [Nat.reducePow] at this
  exact ⟨by omega, by omega⟩
theorem xor_inj_left {a a' b : Int} (ha : IsU64 a) (ha' : IsU64 a') (hb : IsU64 b) (h : bits BinOp.xor IntKind.u64 a b = bits BinOp.xor IntKind.u64 a' b) : a = a' := by
  rw [xor_u64 ha hb, xor_u64 ha' hb] at h
  have h2 : a.toNat ^^^ b.toNat = a'.toNat ^^^ b.toNat := by omega
  have h3 : a.toNat = a'.toNat := by
    have := congrArg (fun z => z ^^^ b.toNat) h2
    simpa [Nat.xor_assoc] using this
  have := ha.1; have := ha'.1
  omega
theorem xor_inj_right {a b b' : Int} (ha : IsU64 a) (hb : IsU64 b) (hb' : IsU64 b') (h : bits BinOp.xor IntKind.u64 a b = bits BinOp.xor IntKind.u64 a b') : b = b' := by
  rw [xor_u64 ha hb, xor_u64 ha hb'] at h
  refine xor_inj_left hb hb' ha ?_
  rw [xor_u64 hb ha, xor_u64 hb' ha, Nat.xor_comm, h, Nat.xor_comm]

/-- The number is odd: times it no two numbers become one. -/
theorem mul_inj {a b : Int} (ha : IsU64 a) (hb : IsU64 b) (h : IntKind.u64.wrap (a * 1099511628211) = IntKind.u64.wrap (b * 1099511628211)) : a = b := by
  rw [IntKind.wrap_u64, IntKind.wrap_u64] at h
  have back : ∀ x : Int, IsU64 x → ((x * 1099511628211) % 18446744073709551616 * 14886173955864302971) % 18446744073709551616 = x := by
    intro x hx
    have e : x * 1099511628211 * 14886173955864302971 = x + (x * 887285111055) * 18446744073709551616 := by
      rw [Int.mul_assoc, Int.mul_assoc]
      have : (1099511628211 * 14886173955864302971 : Int) = 1 + 887285111055 * 18446744073709551616 := by decide
      rw [this, Int.mul_add, Int.mul_one]
    rw [Int.mul_emod, Int.emod_emod, ← Int.mul_emod, e, Int.add_mul_emod_self_right]
    exact Int.emod_eq_of_lt hx.1 hx.2
  rw [← back a ha, ← back b hb, h]

theorem step_inj {h h' y : Int} (hh : IsU64 h) (hh' : IsU64 h') (hy : IsU64 y) (e : fnvStep h y = fnvStep h' y) : h = h' :=
  xor_inj_left hh hh' hy (mul_inj (xor_bd hh hy) (xor_bd hh' hy) e)
theorem step_inj_byte {h y y' : Int} (hh : IsU64 h) (hy : IsU64 y) (hy' : IsU64 y') (e : fnvStep h y = fnvStep h y') : y = y' :=
  xor_inj_right hh hy hy' (mul_inj (xor_bd hh hy) (xor_bd hh hy') e)

theorem IsBytes.cons {y : Int} {bs : List Int} (h : IsBytes (y :: bs)) : (0 ≤ y ∧ y < 256) ∧ IsBytes bs :=
  ⟨by simpa using h 0, fun j => by simpa using h (j + 1)⟩

/-- Checks that differ stay different through the same bytes. -/
theorem more_inj {bs : List Int} (hb : IsBytes bs) {h h' : Int} (hh : IsU64 h) (hh' : IsU64 h') (e : fnvMore h bs = fnvMore h' bs) : h = h' := by
  induction bs generalizing h h' with
  | nil => exact e
  | cons y bs ih =>
    obtain ⟨h1, h2⟩ := hb.cons
    rw [fnvMore_cons, fnvMore_cons] at e
    exact step_inj hh hh' (isU64_byte h1) (ih h2 (isU64_step _ _) (isU64_step _ _) e)

theorem IsBytes.append {as0 bs : List Int} (h : IsBytes (as0 ++ bs)) : IsBytes as0 ∧ IsBytes bs := by
  constructor
  · intro j
    by_cases hj : j < as0.length
    · have := h j; rw [List.getElem?_append_left hj] at this; exact this
    · rw [List.getElem?_eq_none (by omega)]; simp
  · intro j
    have := h (as0.length + j)
    rw [List.getElem?_append_right (by omega)] at this
    simpa using this

/-- One byte that is another one makes another check. -/
theorem turn_ne {as0 bs : List Int} {y y' h : Int} (hb : IsBytes bs) (hy : 0 ≤ y ∧ y < 256) (hy' : 0 ≤ y' ∧ y' < 256) (hh : IsU64 h) (e : fnvMore h (as0 ++ y :: bs) = fnvMore h (as0 ++ y' :: bs)) : y = y' := by
  rw [fnvMore_append, fnvMore_append, fnvMore_cons, fnvMore_cons] at e
  exact step_inj_byte (isU64_more as0 hh) (isU64_byte hy) (isU64_byte hy') (more_inj hb (isU64_step _ _) (isU64_step _ _) e)

theorem IsBytes.snoc {bs : List Int} {y : Int} (h : IsBytes bs) (hy : 0 ≤ y ∧ y < 256) : IsBytes (bs ++ [y]) := by
  intro j
  by_cases hj : j < bs.length
  · rw [List.getElem?_append_left hj]; exact h j
  · rw [List.getElem?_append_right (by omega)]
    rcases Nat.eq_zero_or_pos (j - bs.length) with e | e
    · rw [e]; simpa using hy
    · rw [List.getElem?_eq_none (by simp; omega)]; simp
theorem bytes_one {y : Int} (hy : 0 ≤ y ∧ y < 256) : IsBytes [y] := by
  have := IsBytes.snoc (bs := []) (fun j => by simp) hy
  simpa using this

theorem u8_xor_bd {a b : Int} (ha : 0 ≤ a ∧ a < 256) (hb : 0 ≤ b ∧ b < 256) : 0 ≤ bits BinOp.xor IntKind.u8 a b ∧ bits BinOp.xor IntKind.u8 a b < 256 := by
  rw [u8_xor a b ha.1 ha.2 hb.1 hb.2]
  have := Nat.xor_lt_two_pow (n := 8) (show a.toNat < 2 ^ 8 by have := ha.2; have := ha.1; simp only [Nat.reducePow]; omega) (show b.toNat < 2 ^ 8 by have := hb.2; have := hb.1; simp only [Nat.reducePow]; omega)
  simp only [Nat.reducePow] at this
  exact ⟨by omega, by omega⟩
theorem u8_xor_eq {a b : Int} (ha : 0 ≤ a ∧ a < 256) (hb : 0 ≤ b ∧ b < 256) : bits BinOp.xor IntKind.u8 a b = a ↔ b = 0 := by
  rw [u8_xor a b ha.1 ha.2 hb.1 hb.2]
  constructor
  · intro h
    have h2 : a.toNat ^^^ b.toNat = a.toNat := by omega
    have h3 : b.toNat = 0 := by
      have := congrArg (fun z => a.toNat ^^^ z) h2
      simpa [← Nat.xor_assoc] using this
    omega
  · rintro rfl
    simp
    omega

theorem IsBytes.set {bs : List Int} {y : Int} {k : Nat} (h : IsBytes bs) (hy : 0 ≤ y ∧ y < 256) : IsBytes (bs.set k y) := by
  intro j
  rw [List.getElem?_set]
  by_cases e : k = j
  · subst e
    by_cases hk : k < bs.length
    · rw [if_pos rfl, if_pos hk]; simpa using hy
    · rw [if_pos rfl, if_neg hk]; simp
  · rw [if_neg e]; exact h j

/-- One byte turned: the check is another one just if the byte is. -/
theorem turn_eq {bs : List Int} {k : Nat} {y h : Int} (hb : IsBytes bs) (hk : k < bs.length) (hy : 0 ≤ y ∧ y < 256) (hh : IsU64 h) : (fnvMore h (bs.set k y) = fnvMore h bs) ↔ y = bs[k]?.getD 0 := by
  have e1 : bs = bs.take k ++ bs[k]?.getD 0 :: bs.drop (k + 1) := by
    rw [List.getElem?_eq_getElem hk]
    simp
  have e2 : bs.set k y = bs.take k ++ y :: bs.drop (k + 1) := by rw [List.set_eq_take_append_cons_drop, if_pos hk]
  constructor
  · intro e
    rw [e2] at e
    rw [e1] at e
    refine turn_ne (bs := bs.drop (k + 1)) (as0 := bs.take k) ?_ hy (hb k) hh ?_
    · intro j; rw [List.getElem?_drop]; exact hb _
    · simpa [hk] using e
  · rintro rfl
    rw [e2]
    conv => rhs; rw [e1]
end Go.Proofs.Ytfihpljgbghogaa

/- Streams as they are: which may be, their bytes; no program is named. -/
namespace Go.Proofs.Ytfihpljgbghogaa
open Go.RowKit
set_option linter.unusedVariables false

/-- A record; a stream. -/
structure RC where
  fr : Int
  ct : Int
  ze : Bool
  da : List Int
structure SM where
  bl : Int
  ba : Int
  id : Int
  re : List RC
def I64 (n : Int) : Prop := -9223372036854775808 ≤ n ∧ n ≤ 9223372036854775807
structure RC.Ok (x : RC) : Prop where
  fr : I64 x.fr
  ct : I64 x.ct
  da : IsBytes x.da
structure SM.Ok (s : SM) : Prop where
  bl : I64 s.bl
  ba : I64 s.ba
  id : I64 s.id
  re : ∀ x ∈ s.re, x.Ok
def rcz : RC := ⟨0, 0, false, []⟩

/-! Which may be. -/
def allZ (bs : List Int) : Bool := bs.all (fun x => x == 0)
def chunkZ (bs : List Int) (j : Nat) : Bool := allZ ((bs.drop (64 * j)).take 64)
def hdOk (bl ba id : Int) : Prop := 1 ≤ bl ∧ bl ≤ 64 ∧ 1 ≤ id ∧ id ≤ 1000000 ∧ (ba = -1 ∨ (1 ≤ ba ∧ ba < id))
def plOk (bl lo : Int) (x : RC) : Prop := lo ≤ x.fr ∧ x.fr ≤ bl - 1 ∧ 1 ≤ x.ct ∧ x.ct ≤ bl - x.fr
def daOk (ba : Int) (x : RC) : Prop := (x.ze = true → ba ≠ -1 ∧ x.da = []) ∧ (x.ze = false → (x.da.length : Int) = x.ct * 64 ∧ ∀ j : Nat, (j : Int) < x.ct → chunkZ x.da j = false)
/-- The least block at which a record behind p may begin. -/
def least (p x : RC) : Int := if x.ze == p.ze then wrap64 (wrap64 (p.fr + p.ct) + 1) else wrap64 (p.fr + p.ct)
def leastAt (l : List RC) : Nat → Int
  | 0 => 0
  | k + 1 => least (l[k]?.getD rcz) (l[k + 1]?.getD rcz)
def rcOk (s : SM) (k : Nat) (x : RC) : Prop := plOk s.bl (leastAt s.re k) x ∧ daOk s.ba x
def sGood (s : SM) : Prop := hdOk s.bl s.ba s.id ∧ ∀ k x, s.re[k]? = some x → rcOk s k x
/-- The first k records may be. -/
def okTo (s : SM) (k : Nat) : Prop := ∀ j x, j < k → s.re[j]? = some x → rcOk s j x
theorem okTo_zero (s : SM) : okTo s 0 := fun j x h => by omega
theorem okTo_succ {s : SM} {k : Nat} {x : RC} (h : okTo s k) (hk : s.re[k]? = some x) (hx : rcOk s k x) : okTo s (k + 1) := fun j y hj hy => by
  by_cases e : j = k
  · subst e; rw [hk] at hy; cases hy; exact hx
  · exact h j y (by omega) hy
theorem okTo_all {s : SM} (h : okTo s s.re.length) (hh : hdOk s.bl s.ba s.id) : sGood s := ⟨hh, fun k x hk => h k x (List.getElem?_eq_some_iff.1 hk).1 hk⟩
theorem sGood_not {s : SM} {k : Nat} {x : RC} (hk : s.re[k]? = some x) (hx : ¬ rcOk s k x) : ¬ sGood s := fun h => hx (h.2 k x hk)
theorem sGood.to {s : SM} (h : sGood s) (k : Nat) : okTo s k := fun j x _ hx => h.2 j x hx

theorem leastAt_succ {l : List RC} {k : Nat} {p x : RC} (hp : l[k]? = some p) (hx : l[k + 1]? = some x) : leastAt l (k + 1) = least p x := by simp [leastAt, hp, hx]
theorem least_ok {p x : RC} (h0 : 0 ≤ p.fr + p.ct) (h1 : p.fr + p.ct ≤ 64) : least p x = if x.ze == p.ze then p.fr + p.ct + 1 else p.fr + p.ct := by
  unfold least
  rw [IntWalk.wrap64_in (p.fr + p.ct) (by omega), IntWalk.wrap64_in (p.fr + p.ct + 1) (by omega)]
/-- A record that may be begins at its number or later, and ends within. -/
theorem okTo_from {s : SM} (hh : hdOk s.bl s.ba s.id) : ∀ {k : Nat} {x : RC}, okTo s (k + 1) → s.re[k]? = some x → (k : Int) ≤ x.fr ∧ 1 ≤ x.ct ∧ x.fr + x.ct ≤ s.bl ∧ s.bl ≤ 64
  | 0, x, h, hx => by
    obtain ⟨⟨h1, h2, h3, h4⟩, -⟩ := h 0 x (by omega) hx
    obtain ⟨a1, a2, -⟩ := hh
    simp only [leastAt] at h1
    exact ⟨by simpa using h1, h3, by omega, a2⟩
  | k + 1, x, h, hx => by
    have hk := (List.getElem?_eq_some_iff.1 hx).1
    have hp := List.getElem?_eq_getElem (l := s.re) (i := k) (by omega)
    obtain ⟨b1, b2, b3, b4⟩ := okTo_from hh (fun j y hj hy => h j y (by omega) hy) hp
    obtain ⟨⟨h1, h2, h3, h4⟩, -⟩ := h (k + 1) x (by omega) hx
    rw [leastAt_succ hp hx, least_ok (by omega) (by omega)] at h1
    refine ⟨?_, h3, by omega, b4⟩
    split at h1 <;> omega
theorem sGood.at {s : SM} (h : sGood s) {k : Nat} {x : RC} (hx : s.re[k]? = some x) : (k : Int) ≤ x.fr ∧ 1 ≤ x.ct ∧ x.fr + x.ct ≤ s.bl ∧ s.bl ≤ 64 := okTo_from h.1 (h.to _) hx
theorem sGood.many {s : SM} (h : sGood s) : s.re.length ≤ 64 := by
  rcases Nat.eq_zero_or_pos s.re.length with h0 | h0
  · omega
  · have := h.at (List.getElem?_eq_getElem (l := s.re) (i := s.re.length - 1) (by omega))
    omega
theorem sGood.data {s : SM} (h : sGood s) {k : Nat} {x : RC} (hx : s.re[k]? = some x) : (x.da.length : Int) = if x.ze then 0 else x.ct * 64 := by
  obtain ⟨-, h1, h2⟩ := h.2 _ _ hx
  by_cases hz : x.ze = true
  · rw [if_pos hz, (h1 hz).2]; rfl
  · rw [if_neg hz, (h2 (by simpa using hz)).1]
theorem sGood.len {s : SM} (h : sGood s) {k : Nat} {x : RC} (hx : s.re[k]? = some x) : x.da.length ≤ 4096 := by
  have a := h.at hx
  have b := h.data hx
  split at b <;> omega

/-! Their bytes. -/
def sld (b : List Int) : List Int := b ++ putL (fnvMore fnvInit b) 8
def hdB (s : SM) : List Int := [82, 86, 83, 49] ++ putL s.bl 2 ++ putL (s.ba + 1) 4 ++ putL s.id 4 ++ putL (s.re.length : Int) 2
def mkB (x : RC) : Int := if x.ze then 2 else 1
def rcB (x : RC) : List Int := [mkB x] ++ putL x.fr 2 ++ putL x.ct 2 ++ x.da
def rsB (l : List RC) : List Int := l.flatMap fun x => sld (rcB x)
def bodyB (s : SM) : List Int := sld (hdB s) ++ rsB s.re
def encB (s : SM) : List Int := bodyB s ++ [69] ++ putL (fnvMore fnvInit (bodyB s)) 8
def rsLen (l : List RC) : Nat := (l.map fun x => 13 + x.da.length).sum
theorem sld_length (b : List Int) : (sld b).length = b.length + 8 := by simp [sld, putL_length]
theorem hdB_length (s : SM) : (hdB s).length = 16 := by simp [hdB, putL_length]
theorem rcB_length (x : RC) : (rcB x).length = 5 + x.da.length := by simp [rcB, putL_length]; omega
theorem rsB_nil : rsB [] = [] := rfl
theorem rsB_cons (x : RC) (l : List RC) : rsB (x :: l) = sld (rcB x) ++ rsB l := rfl
theorem rsB_append (a b : List RC) : rsB (a ++ b) = rsB a ++ rsB b := by simp [rsB]
theorem rsB_snoc {l : List RC} {k : Nat} {x : RC} (h : l[k]? = some x) : rsB (l.take (k + 1)) = rsB (l.take k) ++ sld (rcB x) := by
  obtain ⟨hk, e⟩ := List.getElem?_eq_some_iff.1 h
  rw [List.take_succ_eq_append_getElem hk, rsB_append, e, rsB_cons, rsB_nil, List.append_nil]
theorem rsB_length (l : List RC) : (rsB l).length = rsLen l := by
  induction l with
  | nil => rfl
  | cons x l ih => rw [rsB_cons, List.length_append, ih, sld_length, rcB_length]; simp [rsLen]; omega
theorem encB_length (s : SM) : (encB s).length = 33 + rsLen s.re := by simp [encB, bodyB, sld_length, hdB_length, rsB_length, putL_length]; omega
theorem rsLen_take {l : List RC} {k : Nat} {x : RC} (h : l[k]? = some x) : rsLen (l.take (k + 1)) = rsLen (l.take k) + (13 + x.da.length) := by
  obtain ⟨hk, e⟩ := List.getElem?_eq_some_iff.1 h
  rw [List.take_succ_eq_append_getElem hk, e]
  simp [rsLen]
theorem rsLen_le {l : List RC} (h : ∀ x ∈ l, x.da.length ≤ 4096) : rsLen l ≤ l.length * 4109 := by
  induction l with
  | nil => simp [rsLen]
  | cons x l ih =>
    have h1 := h x (by simp)
    have h2 := ih fun y hy => h y (by simp [hy])
    simp only [rsLen, List.map_cons, List.sum_cons, List.length_cons] at h2 ⊢
    omega
theorem isBytes_app {a b : List Int} (ha : IsBytes a) (hb : IsBytes b) : IsBytes (a ++ b) := by
  intro j
  by_cases h : j < a.length
  · rw [List.getElem?_append_left h]; exact ha j
  · rw [List.getElem?_append_right (by omega)]; exact hb _
theorem isBytes_sld {b : List Int} (h : IsBytes b) : IsBytes (sld b) := isBytes_app h (putL_bytes _ _)
theorem isBytes_mk (x : RC) : IsBytes [mkB x] := bytes_one (by unfold mkB; split <;> omega)
theorem isBytes_rcB {x : RC} (h : IsBytes x.da) : IsBytes (rcB x) := isBytes_app (isBytes_app (isBytes_app (isBytes_mk x) (putL_bytes _ _)) (putL_bytes _ _)) h
theorem isBytes_magic : IsBytes [82, 86, 83, 49] := by
  intro j
  match j with
  | 0 => simp
  | 1 => simp
  | 2 => simp
  | 3 => simp
  | j + 4 => simp
theorem isBytes_hdB (s : SM) : IsBytes (hdB s) := isBytes_app (isBytes_app (isBytes_app (isBytes_app isBytes_magic (putL_bytes _ _)) (putL_bytes _ _)) (putL_bytes _ _)) (putL_bytes _ _)
theorem isBytes_nil : IsBytes [] := fun j => by simp
theorem isBytes_rsB {l : List RC} (h : ∀ x ∈ l, IsBytes x.da) : IsBytes (rsB l) := by
  induction l with
  | nil => exact isBytes_nil
  | cons x l ih => exact isBytes_app (isBytes_sld (isBytes_rcB (h x (by simp)))) (ih fun y hy => h y (by simp [hy]))
theorem isBytes_bodyB {s : SM} (h : s.Ok) : IsBytes (bodyB s) := isBytes_app (isBytes_sld (isBytes_hdB s)) (isBytes_rsB fun x hx => (h.re x hx).da)

/-! Different ones have different bytes. -/
/-- What a record must be to be told from its bytes. -/
structure RC.Fits (x : RC) : Prop where
  fr : 0 ≤ x.fr ∧ x.fr < 65536
  ct : 0 ≤ x.ct ∧ x.ct < 65536
  da : (x.da.length : Int) = if x.ze then 0 else x.ct * 64
theorem sGood.fits {s : SM} (h : sGood s) {x : RC} (hx : x ∈ s.re) : x.Fits := by
  obtain ⟨k, hk⟩ := List.getElem?_of_mem hx
  have := h.at hk
  exact ⟨⟨by omega, by omega⟩, ⟨by omega, by omega⟩, h.data hk⟩
end Go.Proofs.Ytfihpljgbghogaa

/- Reading a stream's bytes, as a plain function; no program is named. -/
namespace Go.Proofs.Ytfihpljgbghogaa
open Go.RowKit
set_option linter.unusedVariables false

/-! One record. -/
def rcN (m ct : Int) : Nat := if m = 2 then 0 else (ct * 64).toNat
def rcE (bl : Int) : List Int → Int
  | m :: p0 :: p1 :: q0 :: q1 :: y =>
    if m ≠ 1 ∧ m ≠ 2 then 11
    else if getL [q0, q1] < 1 ∨ bl < getL [p0, p1] + getL [q0, q1] then 25
    else if y.length < rcN m (getL [q0, q1]) + 8 then 21
    else if fnvMore fnvInit (m :: p0 :: p1 :: q0 :: q1 :: y.take (rcN m (getL [q0, q1]))) ≠ getL ((y.drop (rcN m (getL [q0, q1]))).take 8) then 22
    else 0
  | _ => 21
def rcX : List Int → RC
  | m :: p0 :: p1 :: q0 :: q1 :: y => ⟨getL [p0, p1], getL [q0, q1], decide (m = 2), y.take (rcN m (getL [q0, q1]))⟩
  | _ => rcz

theorem two_list {p : List Int} (h : p.length = 2) : ∃ a b, p = [a, b] := by
  match p, h with
  | [a, b], _ => exact ⟨a, b, rfl⟩
theorem five_list {b : List Int} (h : 5 ≤ b.length) : ∃ m p0 p1 q0 q1 y, b = m :: p0 :: p1 :: q0 :: q1 :: y := by
  match b, h with
  | m :: p0 :: p1 :: q0 :: q1 :: y, _ => exact ⟨m, p0, p1, q0, q1, y, rfl⟩
theorem rcE_short {bl : Int} {b : List Int} (h : b.length < 5) : rcE bl b = 21 := by
  match b with
  | [] => rfl
  | [_] => rfl
  | [_, _] => rfl
  | [_, _, _] => rfl
  | [_, _, _, _] => rfl
  | _ :: _ :: _ :: _ :: _ :: _ => simp at h; omega
theorem getL_two {n : Int} (h : 0 ≤ n ∧ n < 65536) : getL (putL n 2) = n := by
  rw [getL_putL n h.1 (by omega) 2, if_pos (by omega)]
  exact Int.emod_eq_of_lt h.1 (by simpa using h.2)
theorem getL_four {n : Int} (h : 0 ≤ n ∧ n < 4294967296) : getL (putL n 4) = n := by
  rw [getL_putL n h.1 (by omega) 4, if_pos (by omega)]
  exact Int.emod_eq_of_lt h.1 (by simpa using h.2)
theorem getL_eight {n : Int} (h : IsU64 n) : getL (putL n 8) = n := by
  rw [getL_putL n h.1 h.2 8, if_neg (by omega)]
theorem two_bd {p q : Int} (hp : 0 ≤ p ∧ p < 256) (hq : 0 ≤ q ∧ q < 256) : 0 ≤ getL [p, q] ∧ getL [p, q] < 65536 := by
  have h : IsBytes [p, q] := by
    intro j
    match j with
    | 0 => simpa using hp
    | 1 => simpa using hq
    | j + 2 => simp
  have h2 := getN_bd [p, q] h 2
  have e : getL [p, q] = getN [p, q] 2 := rfl
  rw [e]
  exact ⟨h2.1, by simpa using h2.2⟩
theorem mk_ok (x : RC) : mkB x = 1 ∨ mkB x = 2 := by unfold mkB; split <;> simp
theorem mk_two (x : RC) : decide (mkB x = 2) = x.ze := by
  unfold mkB
  cases x.ze <;> rfl
theorem rcN_of {x : RC} (hx : x.Fits) : rcN (mkB x) x.ct = x.da.length := by
  have h := hx.da
  unfold rcN mkB
  cases hz : x.ze
  · rw [hz] at h; simp at h; simp; omega
  · rw [hz] at h; simp at h; simp [h]
/-- A record's bytes, with whatever is behind them. -/
theorem rc_form (x : RC) : ∃ p0 p1 q0 q1, putL x.fr 2 = [p0, p1] ∧ putL x.ct 2 = [q0, q1] ∧ rcB x = mkB x :: p0 :: p1 :: q0 :: q1 :: x.da := by
  obtain ⟨p0, p1, h1⟩ := two_list (putL_length x.fr 2)
  obtain ⟨q0, q1, h2⟩ := two_list (putL_length x.ct 2)
  exact ⟨p0, p1, q0, q1, h1, h2, by simp [rcB, h1, h2]⟩
theorem rcE_full {bl : Int} {x : RC} (hx : x.Fits) (hc : 1 ≤ x.ct) (hb : x.fr + x.ct ≤ bl) (u : List Int) : rcE bl (sld (rcB x) ++ u) = 0 ∧ rcX (sld (rcB x) ++ u) = x := by
  obtain ⟨p0, p1, q0, q1, h1, h2, h3⟩ := rc_form x
  have e1 : getL [p0, p1] = x.fr := by rw [← h1]; exact getL_two hx.fr
  have e2 : getL [q0, q1] = x.ct := by rw [← h2]; exact getL_two hx.ct
  have en := rcN_of hx
  have ek : ∀ n, (putL n 8).length = 8 := fun n => putL_length n 8
  have hm := mk_ok x
  have e3 : sld (rcB x) ++ u = mkB x :: p0 :: p1 :: q0 :: q1 :: (x.da ++ (putL (fnvMore fnvInit (rcB x)) 8 ++ u)) := by simp [sld, h3]
  have e4 : (x.da ++ (putL (fnvMore fnvInit (rcB x)) 8 ++ u)).take x.da.length = x.da := List.take_left' rfl
  have e5 : ((x.da ++ (putL (fnvMore fnvInit (rcB x)) 8 ++ u)).drop x.da.length).take 8 = putL (fnvMore fnvInit (rcB x)) 8 := by rw [List.drop_left' rfl, List.take_left' (ek _)]
  rw [e3]
  refine ⟨?_, ?_⟩
  · simp only [rcE]
    rw [e1, e2, en, if_neg (by omega), if_neg (by omega), if_neg (by simp [ek]), e4, e5, ← h3, getL_eight (isU64_more _ isU64_init)]
    simp
  · simp only [rcX]
    rw [e1, e2, en, e4, mk_two]
theorem rcE_cut {bl : Int} {x : RC} (hx : x.Fits) (hc : 1 ≤ x.ct) (hb : x.fr + x.ct ≤ bl) (u : List Int) {j : Nat} (hj : j < 13 + x.da.length) : rcE bl ((sld (rcB x) ++ u).take j) = 21 := by
  by_cases h5 : j < 5
  · exact rcE_short (by rw [List.length_take]; omega)
  obtain ⟨p0, p1, q0, q1, h1, h2, h3⟩ := rc_form x
  have e1 : getL [p0, p1] = x.fr := by rw [← h1]; exact getL_two hx.fr
  have e2 : getL [q0, q1] = x.ct := by rw [← h2]; exact getL_two hx.ct
  have en := rcN_of hx
  have hm := mk_ok x
  obtain ⟨i, rfl⟩ : ∃ i, j = i + 5 := ⟨j - 5, by omega⟩
  have e3 : (sld (rcB x) ++ u).take (i + 5) = mkB x :: p0 :: p1 :: q0 :: q1 :: (x.da ++ (putL (fnvMore fnvInit (rcB x)) 8 ++ u)).take i := by simp [sld, h3]
  rw [e3]
  simp only [rcE]
  rw [e1, e2, en, if_neg (by omega), if_neg (by omega), if_pos (by rw [List.length_take]; omega)]
/-- What is taken is a record's bytes. -/
theorem rcE_back {bl : Int} {b : List Int} (hb : IsBytes b) (h : rcE bl b = 0) : (rcX b).Fits ∧ 13 + (rcX b).da.length ≤ b.length ∧ b.take (13 + (rcX b).da.length) = sld (rcB (rcX b)) ∧ 1 ≤ (rcX b).ct ∧ (rcX b).fr + (rcX b).ct ≤ bl := by
  by_cases h5 : b.length < 5
  · rw [rcE_short h5] at h; cases h
  obtain ⟨m, p0, p1, q0, q1, y, rfl⟩ := five_list (b := b) (by omega)
  simp only [rcE] at h
  split at h
  · cases h
  rename_i h1
  split at h
  · cases h
  rename_i h2
  split at h
  · cases h
  rename_i h3
  split at h
  · cases h
  rename_i h4
  have hp0 : 0 ≤ p0 ∧ p0 < 256 := by simpa using hb 1
  have hp1 : 0 ≤ p1 ∧ p1 < 256 := by simpa using hb 2
  have hq0 : 0 ≤ q0 ∧ q0 < 256 := by simpa using hb 3
  have hq1 : 0 ≤ q1 ∧ q1 < 256 := by simpa using hb 4
  have b1 := two_bd hp0 hp1
  have b2 := two_bd hq0 hq1
  have hpB : IsBytes [p0, p1] := by
    intro j
    match j with
    | 0 => simpa using hp0
    | 1 => simpa using hp1
    | j + 2 => simp
  have hqB : IsBytes [q0, q1] := by
    intro j
    match j with
    | 0 => simpa using hq0
    | 1 => simpa using hq1
    | j + 2 => simp
  have e1 : putL (getL [p0, p1]) 2 = [p0, p1] := putL_getL [p0, p1] hpB (by simp)
  have e2 : putL (getL [q0, q1]) 2 = [q0, q1] := putL_getL [q0, q1] hqB (by simp)
  have hy : IsBytes y := by
    intro j
    have := hb (j + 5)
    simpa using this
  obtain ⟨n, hn⟩ : ∃ n, n = rcN m (getL [q0, q1]) := ⟨_, rfl⟩
  rw [← hn] at h3 h4
  have hl : (y.take n).length = n := by rw [List.length_take]; omega
  have hX : rcX (m :: p0 :: p1 :: q0 :: q1 :: y) = ⟨getL [p0, p1], getL [q0, q1], decide (m = 2), y.take n⟩ := by rw [hn]; rfl
  rw [hX]
  have hm : mkB ⟨getL [p0, p1], getL [q0, q1], decide (m = 2), y.take n⟩ = m := by
    unfold mkB
    by_cases e : m = 2
    · simp [e]
    · simp [e]; omega
  have hR : rcB ⟨getL [p0, p1], getL [q0, q1], decide (m = 2), y.take n⟩ = m :: p0 :: p1 :: q0 :: q1 :: y.take n := by
    unfold rcB
    rw [hm]
    simp only
    rw [e1, e2]; rfl
  refine ⟨⟨b1, b2, ?_⟩, ?_, ?_, ?_, ?_⟩
  · simp only
    rw [hl, hn]
    unfold rcN
    by_cases e : m = 2
    · simp [e]
    · simp [e]; omega
  · simp only [hl, List.length_cons]; omega
  · have h8 : ((y.drop n).take 8).length = 8 := by rw [List.length_take, List.length_drop]; omega
    have hB8 : IsBytes ((y.drop n).take 8) := by
      have := (IsBytes.append (as0 := y.take n) (bs := y.drop n) (by rw [List.take_append_drop]; exact hy)).2
      exact (IsBytes.append (as0 := (y.drop n).take 8) (bs := (y.drop n).drop 8) (by rw [List.take_append_drop]; exact this)).1
    have e8 : putL (getL ((y.drop n).take 8)) 8 = (y.drop n).take 8 := by
      have := putL_getL _ hB8 (by omega)
      rwa [h8] at this
    have h4' : fnvMore fnvInit (m :: p0 :: p1 :: q0 :: q1 :: y.take n) = getL ((y.drop n).take 8) := by simpa using h4
    unfold sld
    rw [hR, h4', e8]
    simp only [hl]
    rw [show 13 + n = (n + 8) + 5 by omega]
    simp only [List.take_succ_cons, List.cons_append]
    rw [List.take_add]
  · simp only; omega
  · simp only; omega
end Go.Proofs.Ytfihpljgbghogaa

/- Reading a stream's bytes, as a plain function: the head, all records, the end; what is taken is what is written. -/
namespace Go.Proofs.Ytfihpljgbghogaa
open Go.RowKit
set_option linter.unusedVariables false

/-! The head. -/
def mgk : List Int := [82, 86, 83, 49]
open Classical in
noncomputable def hdE (b : List Int) : Int :=
  if b.length < 4 then 21
  else if b.take 4 ≠ mgk then 20
  else if b.length < 24 then 21
  else if fnvMore fnvInit (b.take 16) ≠ getL ((b.drop 16).take 8) then 22
  else if getL ((b.drop 4).take 2) < 1 ∨ 64 < getL ((b.drop 4).take 2) then 23
  else if ¬ hdOk (getL ((b.drop 4).take 2)) (getL ((b.drop 6).take 4) - 1) (getL ((b.drop 10).take 4)) then 25
  else 0
def hdS (b : List Int) : SM := ⟨getL ((b.drop 4).take 2), getL ((b.drop 6).take 4) - 1, getL ((b.drop 10).take 4), []⟩
def hdM (b : List Int) : Nat := (getL ((b.drop 14).take 2)).toNat
def hdF (bl nx id n : Int) : List Int := mgk ++ putL bl 2 ++ putL nx 4 ++ putL id 4 ++ putL n 2
theorem hdB_F (s : SM) : hdB s = hdF s.bl (s.ba + 1) s.id (s.re.length : Int) := rfl
theorem hdF_length (bl nx id n : Int) : (hdF bl nx id n).length = 16 := by simp [hdF, mgk, putL_length]
theorem cut_mid {b p m q : List Int} {i n : Nat} (e : b = p ++ (m ++ q)) (hp : p.length = i) (hm : m.length = n) : (b.drop i).take n = m := by
  subst e hp hm
  rw [List.drop_left' rfl, List.take_left' rfl]
structure HdParts (b : List Int) (bl nx id n : Int) : Prop where
  mg : b.take 4 = mgk
  hd : b.take 16 = hdF bl nx id n
  ck : (b.drop 16).take 8 = putL (fnvMore fnvInit (hdF bl nx id n)) 8
  bl : (b.drop 4).take 2 = putL bl 2
  nx : (b.drop 6).take 4 = putL nx 4
  id : (b.drop 10).take 4 = putL id 4
  n : (b.drop 14).take 2 = putL n 2
  le : 24 ≤ b.length
theorem hd_cuts {b M B X I N C u : List Int} (e : b = M ++ (B ++ (X ++ (I ++ (N ++ (C ++ u)))))) (hM : M.length = 4) (hB : B.length = 2) (hX : X.length = 4) (hI : I.length = 4) (hN : N.length = 2) (hC : C.length = 8) :
    b.take 4 = M ∧ b.take 16 = M ++ B ++ X ++ I ++ N ∧ (b.drop 16).take 8 = C ∧ (b.drop 4).take 2 = B ∧ (b.drop 6).take 4 = X ∧ (b.drop 10).take 4 = I ∧ (b.drop 14).take 2 = N ∧ 24 ≤ b.length := by
  refine ⟨?_, ?_, ?_, ?_, ?_, ?_, ?_, ?_⟩
  · exact cut_mid (p := []) (i := 0) (by rw [e]; rfl) rfl hM
  · exact cut_mid (p := []) (m := M ++ B ++ X ++ I ++ N) (q := C ++ u) (i := 0) (by rw [e]; simp) rfl (by simp; omega)
  · exact cut_mid (p := M ++ B ++ X ++ I ++ N) (m := C) (q := u) (by rw [e]; simp) (by simp; omega) hC
  · exact cut_mid e hM hB
  · exact cut_mid (p := M ++ B) (m := X) (q := I ++ (N ++ (C ++ u))) (by rw [e]; simp) (by simp; omega) hX
  · exact cut_mid (p := M ++ B ++ X) (m := I) (q := N ++ (C ++ u)) (by rw [e]; simp) (by simp; omega) hI
  · exact cut_mid (p := M ++ B ++ X ++ I) (m := N) (q := C ++ u) (by rw [e]; simp) (by simp; omega) hN
  · rw [e]; simp; omega
theorem sld_app (b u : List Int) : sld b ++ u = b ++ (putL (fnvMore fnvInit b) 8 ++ u) := List.append_assoc _ _ _
theorem hd_parts (bl nx id n : Int) (u : List Int) : HdParts (sld (hdF bl nx id n) ++ u) bl nx id n := by
  rw [sld_app]
  obtain ⟨c, hc⟩ : ∃ c, c = fnvMore fnvInit (hdF bl nx id n) := ⟨_, rfl⟩
  rw [← hc]
  obtain ⟨h1, h2, h3, h4, h5, h6, h7, h8⟩ := hd_cuts (b := hdF bl nx id n ++ (putL c 8 ++ u)) (M := mgk) (B := putL bl 2) (X := putL nx 4) (I := putL id 4) (N := putL n 2) (C := putL c 8) (u := u) (by simp only [hdF, List.append_assoc]) rfl (putL_length _ _) (putL_length _ _) (putL_length _ _) (putL_length _ _) (putL_length _ _)
  exact ⟨h1, h2, by rw [h3, hc], h4, h5, h6, h7, h8⟩
structure HdIn (bl nx id n : Int) : Prop where
  bl : 0 ≤ bl ∧ bl < 65536
  nx : 0 ≤ nx ∧ nx < 4294967296
  id : 0 ≤ id ∧ id < 4294967296
  n : 0 ≤ n ∧ n < 65536
open Classical in
theorem hdE_parts {b : List Int} {bl nx id n : Int} (h : HdParts b bl nx id n) (k : HdIn bl nx id n) :
    hdE b = (if bl < 1 ∨ 64 < bl then 23 else if ¬ hdOk bl (nx - 1) id then 25 else 0) ∧ hdS b = ⟨bl, nx - 1, id, []⟩ ∧ hdM b = n.toNat := by
  have h8 := h.le
  refine ⟨?_, ?_, ?_⟩
  · unfold hdE
    rw [h.mg, h.hd, h.ck, h.bl, h.nx, h.id, getL_two k.bl, getL_four k.nx, getL_four k.id, getL_eight (isU64_more _ isU64_init), if_neg (by omega), if_neg (by simp), if_neg (by omega), if_neg (by simp)]
  · unfold hdS
    rw [h.bl, h.nx, h.id, getL_two k.bl, getL_four k.nx, getL_four k.id]
  · unfold hdM
    rw [h.n, getL_two k.n]
theorem hd_full {s : SM} (h : hdOk s.bl s.ba s.id) (hl : s.re.length < 65536) (u : List Int) : hdE (sld (hdB s) ++ u) = 0 ∧ hdS (sld (hdB s) ++ u) = { s with re := [] } ∧ hdM (sld (hdB s) ++ u) = s.re.length := by
  obtain ⟨a1, a2, a3, a4, a5⟩ := id h
  obtain ⟨e1, e2, e3⟩ := hdE_parts (hd_parts s.bl (s.ba + 1) s.id (s.re.length : Int) u) ⟨by omega, by omega, by omega, by omega⟩
  rw [← hdB_F] at e1 e2 e3
  refine ⟨?_, ?_, ?_⟩
  · rw [e1, if_neg (by omega), if_neg (by rw [show s.ba + 1 - 1 = s.ba by omega]; exact fun c => c h)]
  · rw [e2, show s.ba + 1 - 1 = s.ba by omega]
  · rw [e3]; simp
theorem hd_cut {b : List Int} (h : b.take 4 = mgk) {j : Nat} (hj : j < 24) : hdE (b.take j) = 21 := by
  unfold hdE
  by_cases h4 : (b.take j).length < 4
  · rw [if_pos h4]
  · have h4' : 4 ≤ j := by rw [List.length_take] at h4; omega
    rw [if_neg h4, if_neg (by rw [List.take_take, Nat.min_eq_left h4', h]; simp), if_pos (by rw [List.length_take]; omega)]
theorem isBytes_take {b : List Int} (h : IsBytes b) (n : Nat) : IsBytes (b.take n) := (IsBytes.append (as0 := b.take n) (bs := b.drop n) (by rw [List.take_append_drop]; exact h)).1
theorem isBytes_drop {b : List Int} (h : IsBytes b) (n : Nat) : IsBytes (b.drop n) := (IsBytes.append (as0 := b.take n) (bs := b.drop n) (by rw [List.take_append_drop]; exact h)).2
theorem put_piece {b : List Int} (h : IsBytes b) {i n : Nat} (hn : n ≤ 8) (hl : i + n ≤ b.length) : putL (getL ((b.drop i).take n)) n = (b.drop i).take n := by
  have e : ((b.drop i).take n).length = n := by rw [List.length_take, List.length_drop]; omega
  have := putL_getL ((b.drop i).take n) (isBytes_take (isBytes_drop h i) n) (by omega)
  rwa [e] at this
theorem piece_bd {b : List Int} (h : IsBytes b) {i : Nat} (n : Nat) : 0 ≤ getL ((b.drop i).take n) := (getL_bd _ (isBytes_take (isBytes_drop h i) n)).1
theorem hd_back {b : List Int} (hb : IsBytes b) (h : hdE b = 0) : 24 ≤ b.length ∧ b.take 24 = sld (hdF (hdS b).bl ((hdS b).ba + 1) (hdS b).id (hdM b : Int)) ∧ hdOk (hdS b).bl (hdS b).ba (hdS b).id := by
  unfold hdE at h
  split at h
  · cases h
  split at h
  · cases h
  rename_i h2
  split at h
  · cases h
  rename_i h3
  split at h
  · cases h
  rename_i h4
  split at h
  · cases h
  split at h
  · cases h
  rename_i h6
  have h2' : b.take 4 = mgk := by simpa using h2
  have h4' : fnvMore fnvInit (b.take 16) = getL ((b.drop 16).take 8) := by simpa using h4
  have hM : ((hdM b : Nat) : Int) = getL ((b.drop 14).take 2) := Int.toNat_of_nonneg (piece_bd hb 2)
  have e16 : b.take 16 = hdF (hdS b).bl ((hdS b).ba + 1) (hdS b).id (hdM b : Int) := by
    unfold hdF hdS
    rw [hM]
    simp only [Int.sub_add_cancel]
    rw [put_piece hb (by omega) (by omega), put_piece hb (by omega) (by omega), put_piece hb (by omega) (by omega), put_piece hb (by omega) (by omega), ← h2', ← List.take_add, ← List.take_add, ← List.take_add, ← List.take_add]
  refine ⟨by omega, ?_, ?_⟩
  · unfold sld
    rw [← e16, h4', put_piece hb (by omega) (by omega), ← List.take_add]
  · simpa [hdS] using h6

/-! All records. -/
def SM.add (s : SM) (x : RC) : SM := { s with re := s.re ++ [x] }
open Classical in
noncomputable def goP (b : List Int) : Nat → SM → Nat → Int × SM × Nat
  | 0, s, a => (0, s, a)
  | n + 1, s, a =>
    if rcE s.bl (b.drop a) ≠ 0 then (rcE s.bl (b.drop a), s, a)
    else if ¬ sGood (s.add (rcX (b.drop a))) then (26, s, a)
    else goP b n (s.add (rcX (b.drop a))) (a + (13 + (rcX (b.drop a)).da.length))
theorem goP_bad {b : List Int} {n : Nat} {s : SM} {a : Nat} (h : rcE s.bl (b.drop a) ≠ 0) : goP b (n + 1) s a = (rcE s.bl (b.drop a), s, a) := by rw [goP, if_pos h]
theorem goP_order {b : List Int} {n : Nat} {s : SM} {a : Nat} (h : rcE s.bl (b.drop a) = 0) (h2 : ¬ sGood (s.add (rcX (b.drop a)))) : goP b (n + 1) s a = (26, s, a) := by rw [goP, if_neg (by simp [h]), if_pos h2]
theorem goP_on {b : List Int} {n : Nat} {s : SM} {a : Nat} (h : rcE s.bl (b.drop a) = 0) (h2 : sGood (s.add (rcX (b.drop a)))) : goP b (n + 1) s a = goP b n (s.add (rcX (b.drop a))) (a + (13 + (rcX (b.drop a)).da.length)) := by rw [goP, if_neg (by simp [h]), if_neg (by simp [h2])]
theorem go_back {b : List Int} (hb : IsBytes b) : ∀ (n : Nat) (s t : SM) (a c : Nat) (H : List Int), goP b n s a = (0, t, c) → sGood s → a ≤ b.length → b.take a = H ++ rsB s.re →
    sGood t ∧ t.bl = s.bl ∧ t.ba = s.ba ∧ t.id = s.id ∧ t.re.length = s.re.length + n ∧ c ≤ b.length ∧ b.take c = H ++ rsB t.re
  | 0, s, t, a, c, H, h, hg, ha, hH => by
    rw [goP] at h
    obtain ⟨-, rfl, rfl⟩ : (0 : Int) = 0 ∧ s = t ∧ a = c := by simpa using h
    exact ⟨hg, rfl, rfl, rfl, rfl, ha, hH⟩
  | n + 1, s, t, a, c, H, h, hg, ha, hH => by
    by_cases h1 : rcE s.bl (b.drop a) = 0
    · by_cases h2 : sGood (s.add (rcX (b.drop a)))
      · rw [goP_on h1 h2] at h
        obtain ⟨f1, f2, f3, -⟩ := rcE_back (isBytes_drop hb a) h1
        rw [List.length_drop] at f2
        obtain ⟨g1, g2, g3, g4, g5, g6, g7⟩ := go_back hb n _ _ _ _ H h h2 (by omega) (by
          rw [List.take_add, hH, f3]
          show _ = H ++ rsB (s.re ++ [rcX (b.drop a)])
          rw [rsB_append, rsB_cons, rsB_nil, List.append_nil, List.append_assoc])
        refine ⟨g1, g2, g3, g4, ?_, g6, g7⟩
        rw [g5]
        show (s.re ++ [_]).length + n = _
        simp; omega
      · rw [goP_order h1 h2] at h; cases h
    · rw [goP_bad h1] at h
      exact absurd (congrArg Prod.fst h) h1
theorem rcE_kinds (bl : Int) (b : List Int) : rcE bl b = 0 ∨ rcE bl b = 21 ∨ rcE bl b = 11 ∨ rcE bl b = 25 ∨ rcE bl b = 22 := by
  by_cases h5 : b.length < 5
  · rw [rcE_short h5]; simp
  obtain ⟨m, p0, p1, q0, q1, y, rfl⟩ := five_list (b := b) (by omega)
  simp only [rcE]
  split
  · simp
  split
  · simp
  split
  · simp
  split <;> simp
theorem goP_kinds (b : List Int) : ∀ (n : Nat) (s : SM) (a : Nat), (goP b n s a).1 = 0 ∨ (goP b n s a).1 = 21 ∨ (goP b n s a).1 = 11 ∨ (goP b n s a).1 = 25 ∨ (goP b n s a).1 = 22 ∨ (goP b n s a).1 = 26
  | 0, s, a => .inl rfl
  | n + 1, s, a => by
    have hk := rcE_kinds s.bl (b.drop a)
    by_cases h1 : rcE s.bl (b.drop a) = 0
    · by_cases h2 : sGood (s.add (rcX (b.drop a)))
      · rw [goP_on h1 h2]; exact goP_kinds b n _ _
      · rw [goP_order h1 h2]; simp
    · rw [goP_bad h1]; simp only; omega

/-! The end; all of it. -/
def enE (b : List Int) (a : Nat) : Int :=
  if b.length < a + 9 then 21
  else if b[a]?.getD 0 ≠ 69 then 11
  else if getL ((b.drop (a + 1)).take 8) ≠ fnvMore fnvInit (b.take a) then 22
  else if a + 9 < b.length then 2
  else 0
noncomputable def paE (b : List Int) : Int := if hdE b ≠ 0 then hdE b else if (goP b (hdM b) (hdS b) 24).1 ≠ 0 then (goP b (hdM b) (hdS b) 24).1 else enE b (goP b (hdM b) (hdS b) 24).2.2
def smz : SM := ⟨0, 0, 0, []⟩
noncomputable def paS (b : List Int) : SM := if paE b = 0 then (goP b (hdM b) (hdS b) 24).2.1 else smz
theorem paE_hd {b : List Int} (h : hdE b ≠ 0) : paE b = hdE b := if_pos h
theorem paE_go {b : List Int} (h : hdE b = 0) (h2 : (goP b (hdM b) (hdS b) 24).1 ≠ 0) : paE b = (goP b (hdM b) (hdS b) 24).1 := by unfold paE; rw [if_neg (by simp [h]), if_pos h2]
theorem paE_en {b : List Int} (h : hdE b = 0) (h2 : (goP b (hdM b) (hdS b) 24).1 = 0) : paE b = enE b (goP b (hdM b) (hdS b) 24).2.2 := by unfold paE; rw [if_neg (by simp [h]), if_neg (by simp [h2])]
theorem en_kinds (b : List Int) (a : Nat) : enE b a = 0 ∨ enE b a = 21 ∨ enE b a = 11 ∨ enE b a = 22 ∨ enE b a = 2 := by
  unfold enE
  split
  · simp
  split
  · simp
  split
  · simp
  split <;> simp
theorem paE_kinds {b : List Int} (h : hdE b = 0) : paE b ≠ 20 ∧ paE b ≠ 23 := by
  have h1 := goP_kinds b (hdM b) (hdS b) 24
  by_cases h2 : (goP b (hdM b) (hdS b) 24).1 = 0
  · rw [paE_en h h2]
    have := en_kinds b (goP b (hdM b) (hdS b) 24).2.2
    omega
  · rw [paE_go h h2]; omega
theorem en_back {b : List Int} (hb : IsBytes b) {a : Nat} (h : enE b a = 0) : b = b.take a ++ [69] ++ putL (fnvMore fnvInit (b.take a)) 8 := by
  unfold enE at h
  split at h
  · cases h
  rename_i h1
  split at h
  · cases h
  rename_i h2
  split at h
  · cases h
  rename_i h3
  split at h
  · cases h
  rename_i h4
  have h3' : getL ((b.drop (a + 1)).take 8) = fnvMore fnvInit (b.take a) := by simpa using h3
  have e1 := put_piece hb (i := a + 1) (n := 8) (by omega) (by omega)
  have e2 : (b.drop a).take 1 = [69] := by
    have hg : b[a]? = some 69 := by
      rw [List.getElem?_eq_getElem (by omega)] at h2 ⊢
      simpa using h2
    have hl : a < b.length := by omega
    rw [List.drop_eq_getElem_cons hl]
    simp only [List.take_succ_cons, List.take_zero]
    rw [List.getElem?_eq_getElem hl] at hg
    rw [Option.some.inj hg]
  rw [← h3', e1, ← e2, ← List.take_add, ← List.take_add, List.take_of_length_le (by omega)]
theorem hdS_good {b : List Int} (h : hdOk (hdS b).bl (hdS b).ba (hdS b).id) : sGood (hdS b) := ⟨h, fun k x hk => by cases hk⟩
theorem pa_back {b : List Int} (hb : IsBytes b) (h : paE b = 0) : sGood (paS b) ∧ encB (paS b) = b := by
  by_cases h1 : hdE b = 0
  · by_cases h2 : (goP b (hdM b) (hdS b) 24).1 = 0
    · have hE := h
      rw [paE_en h1 h2] at hE
      obtain ⟨a1, a2, a3⟩ := hd_back hb h1
      obtain ⟨t, c, hG⟩ : ∃ t c, goP b (hdM b) (hdS b) 24 = (0, t, c) := ⟨_, _, Prod.ext h2 rfl⟩
      obtain ⟨g1, g2, g3, g4, g5, g6, g7⟩ := go_back hb _ _ _ _ _ (sld (hdF (hdS b).bl ((hdS b).ba + 1) (hdS b).id (hdM b : Int))) hG (hdS_good a3) a1 (by rw [a2]; show _ = _ ++ rsB []; simp [rsB_nil])
      have hS : paS b = t := by unfold paS; rw [if_pos h, hG]
      rw [hS]
      refine ⟨g1, ?_⟩
      rw [hG] at hE
      have e := en_back hb hE
      have hB : b.take c = bodyB t := by
        rw [g7]
        unfold bodyB
        rw [hdB_F, g2, g3, g4, g5]
        simp [hdS]
      simp only at e
      rw [hB] at e
      rw [encB]
      exact e.symm
    · rw [paE_go h1 h2] at h; exact absurd h h2
  · rw [paE_hd h1] at h; exact absurd h h1
end Go.Proofs.Ytfihpljgbghogaa

/- Reading a stream's bytes: of a stream that may be, whole, cut short, with more behind, with a byte turned. -/
namespace Go.Proofs.Ytfihpljgbghogaa
open Go.RowKit
set_option linter.unusedVariables false

/-- The first records of a stream. -/
def SM.upto (s : SM) (k : Nat) : SM := { s with re := s.re.take k }
theorem leastAt_take (l : List RC) {k n : Nat} (h : k < n) : leastAt (l.take n) k = leastAt l k := by
  cases k with
  | zero => rfl
  | succ k =>
    simp only [leastAt]
    rw [List.getElem?_take_of_lt (by omega), List.getElem?_take_of_lt (by omega)]
theorem sGood.upto {s : SM} (h : sGood s) (n : Nat) : sGood (s.upto n) := by
  refine ⟨h.1, fun k x hk => ?_⟩
  have hk' : (s.re.take n)[k]? = some x := hk
  have hl := (List.getElem?_eq_some_iff.1 hk').1
  rw [List.length_take] at hl
  rw [List.getElem?_take_of_lt (by omega)] at hk'
  obtain ⟨h1, h2⟩ := h.2 k x hk'
  refine ⟨?_, h2⟩
  show plOk s.bl (leastAt (s.re.take n) k) x
  rw [leastAt_take _ (by omega)]
  exact h1
theorem smUpto_add {s : SM} {k : Nat} {x : RC} (h : s.re[k]? = some x) : (s.upto k).add x = s.upto (k + 1) := by
  obtain ⟨hk, e⟩ := List.getElem?_eq_some_iff.1 h
  unfold SM.upto SM.add
  simp only [SM.mk.injEq, true_and]
  rw [List.take_succ_eq_append_getElem hk, e]
theorem smUpto_all (s : SM) : s.upto s.re.length = s := by unfold SM.upto; rw [List.take_length]
theorem rsB_split {l : List RC} {k : Nat} {x : RC} (h : l[k]? = some x) : rsB l = rsB (l.take k) ++ (sld (rcB x) ++ rsB (l.drop (k + 1))) := by
  have e := rsB_snoc h
  have e2 : rsB l = rsB (l.take (k + 1)) ++ rsB (l.drop (k + 1)) := by rw [← rsB_append, List.take_append_drop]
  rw [e2, e, List.append_assoc]
/-- Where the k-th record stands. -/
def offS (s : SM) (k : Nat) : Nat := 24 + rsLen (s.re.take k)
theorem offS_zero (s : SM) : offS s 0 = 24 := rfl
theorem offS_succ {s : SM} {k : Nat} {x : RC} (h : s.re[k]? = some x) : offS s (k + 1) = offS s k + (13 + x.da.length) := by unfold offS; rw [rsLen_take h]; omega
theorem offS_all (s : SM) : offS s s.re.length = (bodyB s).length := by simp [offS, bodyB, sld_length, hdB_length, rsB_length]
theorem enc_at {s : SM} {k : Nat} {x : RC} (h : s.re[k]? = some x) (u : List Int) : ∃ v, (encB s ++ u).drop (offS s k) = sld (rcB x) ++ v := by
  refine ⟨rsB (s.re.drop (k + 1)) ++ ([69] ++ (putL (fnvMore fnvInit (bodyB s)) 8 ++ u)), ?_⟩
  have e : encB s ++ u = (sld (hdB s) ++ rsB (s.re.take k)) ++ (sld (rcB x) ++ (rsB (s.re.drop (k + 1)) ++ ([69] ++ (putL (fnvMore fnvInit (bodyB s)) 8 ++ u)))) := by
    unfold encB
    rw [show bodyB s = sld (hdB s) ++ (rsB (s.re.take k) ++ (sld (rcB x) ++ rsB (s.re.drop (k + 1)))) by rw [← rsB_split h]; rfl]
    simp only [List.append_assoc]
  rw [e, List.drop_left' (by simp [offS, sld_length, hdB_length, rsB_length])]
theorem enc_body (s : SM) (u : List Int) : encB s ++ u = bodyB s ++ ([69] ++ (putL (fnvMore fnvInit (bodyB s)) 8 ++ u)) := by unfold encB; simp only [List.append_assoc]
theorem enc_head (s : SM) (u : List Int) : ∃ v, encB s ++ u = sld (hdB s) ++ v := ⟨_, by rw [enc_body, bodyB, List.append_assoc]⟩
/-- The records of a stream that may be, of as many of its bytes as there are. -/
theorem go_enc {s : SM} (hg : sGood s) (u : List Int) {m : Nat} (hm : m ≤ (encB s ++ u).length) : ∀ (n k : Nat), k + n = s.re.length → offS s k ≤ m →
    (m < offS s s.re.length → (goP ((encB s ++ u).take m) n (s.upto k) (offS s k)).1 = 21) ∧ (offS s s.re.length ≤ m → goP ((encB s ++ u).take m) n (s.upto k) (offS s k) = (0, s, offS s s.re.length))
  | 0, k, hk, hm0 => by
    obtain rfl : k = s.re.length := by omega
    refine ⟨fun h => by omega, fun h => ?_⟩
    rw [goP, smUpto_all]
  | n + 1, k, hk, hm0 => by
    have hx := List.getElem?_eq_getElem (l := s.re) (i := k) (by omega)
    obtain ⟨x, hxe⟩ : ∃ x, x = s.re[k]'(by omega) := ⟨_, rfl⟩
    rw [← hxe] at hx
    obtain ⟨v, hv⟩ := enc_at hx u
    have hf := hg.fits (List.mem_of_getElem? hx)
    have ha := hg.at hx
    have hd : ((encB s ++ u).take m).drop (offS s k) = (sld (rcB x) ++ v).take (m - offS s k) := by rw [List.drop_take, hv]
    have hle : offS s (k + 1) ≤ offS s s.re.length := by
      unfold offS
      have e2 : rsLen (s.re.take (k + 1)) + rsLen (s.re.drop (k + 1)) = rsLen s.re := by rw [← rsB_length, ← rsB_length, ← rsB_length, ← List.length_append, ← rsB_append, List.take_append_drop]
      rw [List.take_length]; omega
    rw [offS_succ hx] at hle
    by_cases hj : m - offS s k < 13 + x.da.length
    · have h21 : rcE (s.upto k).bl (((encB s ++ u).take m).drop (offS s k)) = 21 := by
        rw [hd]
        exact rcE_cut hf ha.2.1 (by show _ ≤ s.bl; omega) v hj
      refine ⟨fun h => ?_, fun h => by omega⟩
      rw [goP_bad (by rw [h21]; decide), h21]
    · have hd2 : (sld (rcB x) ++ v).take (m - offS s k) = sld (rcB x) ++ v.take (m - offS s k - (13 + x.da.length)) := by
        rw [List.take_append, List.take_of_length_le (by rw [sld_length, rcB_length]; omega), sld_length, rcB_length]
        congr 2; omega
      obtain ⟨r1, r2⟩ := rcE_full (bl := (s.upto k).bl) hf ha.2.1 (by show _ ≤ s.bl; omega) (v.take (m - offS s k - (13 + x.da.length)))
      rw [← hd2, ← hd] at r1 r2
      have hgo : sGood ((s.upto k).add (rcX (((encB s ++ u).take m).drop (offS s k)))) := by rw [r2, smUpto_add hx]; exact hg.upto _
      rw [goP_on r1 hgo, r2, smUpto_add hx, ← offS_succ hx]
      exact go_enc hg u hm n (k + 1) (by omega) (by rw [offS_succ hx]; omega)
theorem en_enc (s : SM) (u : List Int) {m : Nat} (hm : m ≤ (encB s ++ u).length) (h : offS s s.re.length ≤ m) :
    enE ((encB s ++ u).take m) (offS s s.re.length) = if m < offS s s.re.length + 9 then 21 else if offS s s.re.length + 9 < m then 2 else 0 := by
  have hl : ((encB s ++ u).take m).length = m := by rw [List.length_take]; omega
  have hB := offS_all s
  obtain ⟨A, hA⟩ : ∃ A, A = offS s s.re.length := ⟨_, rfl⟩
  rw [← hA] at h hB ⊢
  unfold enE
  rw [hl]
  by_cases h1 : m < A + 9
  · rw [if_pos h1, if_pos h1]
  · rw [if_neg h1, if_neg h1]
    have c0 : ((encB s ++ u).take m)[A]? = some 69 := by
      rw [List.getElem?_take_of_lt (by omega), enc_body, List.getElem?_append_right (by omega), hB, Nat.sub_self]; rfl
    have c1 : (((encB s ++ u).take m).drop (A + 1)).take 8 = putL (fnvMore fnvInit (bodyB s)) 8 := by
      rw [List.drop_take, List.take_take, Nat.min_eq_left (by omega)]
      exact cut_mid (p := bodyB s ++ [69]) (m := putL (fnvMore fnvInit (bodyB s)) 8) (q := u) (by rw [enc_body]; simp only [List.append_assoc]) (by simp [hB]) (putL_length _ _)
    have c2 : ((encB s ++ u).take m).take A = bodyB s := by
      rw [List.take_take, Nat.min_eq_left h, enc_body, List.take_left' hB.symm]
    rw [c0, c1, c2, getL_eight (isU64_more _ isU64_init), if_neg (by simp), if_neg (by simp)]
theorem enc_take4 (s : SM) (u : List Int) : (encB s ++ u).take 4 = mgk := by
  obtain ⟨v, hv⟩ := enc_head s u
  rw [hv, hdB_F]
  exact (hd_parts _ _ _ _ v).mg
theorem enc_hd {s : SM} (hg : sGood s) (u : List Int) {m : Nat} (h : 24 ≤ m) : hdE ((encB s ++ u).take m) = 0 ∧ hdS ((encB s ++ u).take m) = s.upto 0 ∧ hdM ((encB s ++ u).take m) = s.re.length := by
  obtain ⟨v, hv⟩ := enc_head s u
  have hm := hg.many
  have e : (encB s ++ u).take m = sld (hdB s) ++ v.take (m - 24) := by
    rw [hv, List.take_append, List.take_of_length_le (by rw [sld_length, hdB_length]; omega), sld_length, hdB_length]
  rw [e]
  exact hd_full hg.1 (by omega) _
theorem smEnc_len (s : SM) : (encB s).length = offS s s.re.length + 9 := by rw [offS_all, encB]; simp [putL_length]
theorem pa_take {s : SM} (hg : sGood s) (u : List Int) {m : Nat} (hm : m ≤ (encB s ++ u).length) :
    (m < (encB s).length → paE ((encB s ++ u).take m) = 21) ∧ ((encB s).length ≤ m → paE ((encB s ++ u).take m) = (if (encB s).length < m then 2 else 0) ∧ (goP ((encB s ++ u).take m) (hdM ((encB s ++ u).take m)) (hdS ((encB s ++ u).take m)) 24).2.1 = s) := by
  have hL := smEnc_len s
  by_cases h24 : m < 24
  · have e := hd_cut (enc_take4 s u) h24
    refine ⟨fun _ => ?_, fun h => ?_⟩
    · rw [paE_hd (by rw [e]; decide), e]
    · have : 24 ≤ offS s s.re.length := by unfold offS; omega
      omega
  · obtain ⟨e1, e2, e3⟩ := enc_hd hg u (m := m) (by omega)
    obtain ⟨g1, g2⟩ := go_enc hg u hm s.re.length 0 (by omega) (by rw [offS_zero]; omega)
    rw [offS_zero] at g1 g2
    by_cases hA : m < offS s s.re.length
    · have g := g1 hA
      refine ⟨fun _ => ?_, fun h => by omega⟩
      rw [paE_go e1 (by rw [e2, e3, g]; decide), e2, e3, g]
    · have g := g2 (by omega)
      have hE : paE ((encB s ++ u).take m) = enE ((encB s ++ u).take m) (offS s s.re.length) := by rw [paE_en e1 (by rw [e2, e3, g]), e2, e3, g]
      rw [en_enc s u hm (by omega)] at hE
      refine ⟨fun h => ?_, fun h => ⟨?_, by rw [e2, e3, g]⟩⟩
      · rw [hE, if_pos (by omega)]
      · rw [hE, if_neg (by omega), hL]
theorem pa_cut {s : SM} (hg : sGood s) {m : Nat} (h : m < (encB s).length) : paE ((encB s).take m) = 21 := by
  have := (pa_take hg [] (m := m) (by simp; omega)).1 h
  rwa [List.append_nil] at this
theorem pa_full {s : SM} (hg : sGood s) : paE (encB s) = 0 ∧ paS (encB s) = s := by
  obtain ⟨h1, h2⟩ := (pa_take hg [] (m := (encB s).length) (by simp)).2 (Nat.le_refl _)
  rw [List.append_nil, List.take_length, if_neg (by omega)] at h1
  rw [List.append_nil, List.take_length] at h2
  exact ⟨h1, by unfold paS; rw [if_pos h1, h2]⟩
theorem pa_more {s : SM} (hg : sGood s) (x : Int) : paE (encB s ++ [x]) = 2 := by
  obtain ⟨h1, -⟩ := (pa_take hg [x] (m := (encB s).length + 1) (by simp)).2 (by omega)
  rw [if_pos (by omega), List.take_of_length_le (by simp)] at h1
  exact h1
/-- A byte turned anywhere. -/
theorem pa_turn {s : SM} (hs : s.Ok) (hB : IsBytes (encB s)) {k : Nat} (hk : k < (encB s).length) {y : Int} (hy : 0 ≤ y ∧ y < 256) (hn : y ≠ (encB s)[k]?.getD 0) : paE ((encB s).set k y) ≠ 0 := by
  intro h
  obtain ⟨g1, g2⟩ := pa_back (IsBytes.set hB hy) h
  obtain ⟨t, ht⟩ : ∃ t, t = paS ((encB s).set k y) := ⟨_, rfl⟩
  rw [← ht] at g1 g2
  have hl : (encB t).length = (encB s).length := by rw [g2, List.length_set]
  have e1 : (bodyB t).length = (bodyB s).length := by rw [← offS_all, ← offS_all]; have := smEnc_len t; have := smEnc_len s; omega
  have hb : (encB s).length = (bodyB s).length + 9 := by rw [smEnc_len, offS_all]
  have f1 : encB t = bodyB t ++ ([69] ++ putL (fnvMore fnvInit (bodyB t)) 8) := by unfold encB; rw [List.append_assoc]
  have f2 : encB s = bodyB s ++ ([69] ++ putL (fnvMore fnvInit (bodyB s)) 8) := by unfold encB; rw [List.append_assoc]
  by_cases hc : k < (bodyB s).length
  · have f3 : (encB s).set k y = (bodyB s).set k y ++ ([69] ++ putL (fnvMore fnvInit (bodyB s)) 8) := by rw [f2, List.set_append_left _ _ hc]
    rw [f1, f3] at g2
    obtain ⟨j1, j2⟩ := List.append_inj g2 (by rw [List.length_set, e1])
    have j3 := List.append_cancel_left j2
    have j4 : fnvMore fnvInit (bodyB t) = fnvMore fnvInit (bodyB s) := by
      have := congrArg getL j3
      rwa [getL_eight (isU64_more _ isU64_init), getL_eight (isU64_more _ isU64_init)] at this
    rw [j1] at j4
    have j5 := (turn_eq (isBytes_bodyB hs) hc hy isU64_init).1 j4
    apply hn
    rw [j5, f2, List.getElem?_append_left hc]
  · have f3 : (encB s).set k y = bodyB s ++ (([69] ++ putL (fnvMore fnvInit (bodyB s)) 8).set (k - (bodyB s).length) y) := by rw [f2, List.set_append_right _ _ (by omega)]
    rw [f1, f3] at g2
    obtain ⟨j1, j2⟩ := List.append_inj g2 e1
    rw [j1] at j2
    apply hn
    have j3 := congrArg (fun l : List Int => l[k - (bodyB s).length]?) j2
    rw [List.getElem?_set_self (by simp [putL_length]; omega)] at j3
    rw [f2, List.getElem?_append_right (by omega), j3]; rfl
/-- A head as it is written, whatever stands behind. -/
theorem pa_size {bl nx id : Int} (k : HdIn bl nx id 1) (u : List Int) (h : bl < 1 ∨ 64 < bl) : paE (sld (hdF bl nx id 1) ++ u) = 23 := by
  have e := (hdE_parts (hd_parts bl nx id 1 u) k).1
  rw [if_pos h] at e
  rw [paE_hd (by rw [e]; decide), e]
theorem pa_range {bl nx id : Int} (k : HdIn bl nx id 1) (u : List Int) (h : 1 ≤ bl ∧ bl ≤ 64) (h2 : ¬ hdOk bl (nx - 1) id) : paE (sld (hdF bl nx id 1) ++ u) = 25 := by
  have e := (hdE_parts (hd_parts bl nx id 1 u) k).1
  rw [if_neg (by omega), if_pos h2] at e
  rw [paE_hd (by rw [e]; decide), e]
theorem pa_head {bl nx id : Int} (k : HdIn bl nx id 1) (u : List Int) (h : hdOk bl (nx - 1) id) : paE (sld (hdF bl nx id 1) ++ u) ≠ 23 ∧ paE (sld (hdF bl nx id 1) ++ u) ≠ 20 ∧ (u.length < 5 → paE (sld (hdF bl nx id 1) ++ u) = 21) := by
  obtain ⟨e, e2, e3⟩ := hdE_parts (hd_parts bl nx id 1 u) k
  rw [if_neg (by have := h.1; have := h.2.1; omega), if_neg (by simp [h])] at e
  have hk := paE_kinds e
  refine ⟨hk.2, hk.1, fun hu => ?_⟩
  have hd : (sld (hdF bl nx id 1) ++ u).drop 24 = u := List.drop_left' (by rw [sld_length, hdF_length])
  have h21 : rcE (hdS (sld (hdF bl nx id 1) ++ u)).bl ((sld (hdF bl nx id 1) ++ u).drop 24) = 21 := by rw [hd]; exact rcE_short hu
  have hg : (goP (sld (hdF bl nx id 1) ++ u) (hdM (sld (hdF bl nx id 1) ++ u)) (hdS (sld (hdF bl nx id 1) ++ u)) 24).1 = 21 := by
    rw [e3, show (1 : Int).toNat = 0 + 1 from rfl, goP_bad (by rw [h21]; decide), h21]
  rw [paE_go e (by rw [hg]; decide), hg]
theorem hd_magic {b : List Int} (h : 4 ≤ b.length) (h2 : b.take 4 ≠ mgk) : paE b = 20 := by
  have e : hdE b = 20 := by unfold hdE; rw [if_neg (by omega), if_pos h2]
  rw [paE_hd (by rw [e]; decide), e]
theorem hd_check {b : List Int} (h : 24 ≤ b.length) (h2 : b.take 4 = mgk) (h3 : fnvMore fnvInit (b.take 16) ≠ getL ((b.drop 16).take 8)) : paE b = 22 := by
  have e : hdE b = 22 := by unfold hdE; rw [if_neg (by omega), if_neg (by simp [h2]), if_neg (by omega), if_pos h3]
  rw [paE_hd (by rw [e]; decide), e]
end Go.Proofs.Ytfihpljgbghogaa

/- Cells of one's own: a block with these cells; rows that lie apart by their elements' types. -/
namespace Go.Proofs.Ytfihpljgbghogaa
open Go.RowKit
set_option linter.unusedVariables false

theorem row_range {W : World} {B : Nat} {c : List Value} {t : TypeId} (h : W.heap[B]? = some (.cells c.toArray t (0, 0))) : W.rangeAt B 0 c := fun j x hx => by
  rw [cell_of_row _ _ _ _ _ _ h, Nat.zero_add]
  simpa using hx
/-- Block B has these cells. -/
def RowC (x : World) (B : Nat) (t : TypeId) (C : List Value) : Prop := x.heap[B]? = some (.cells C.toArray t (0, 0))
section
variable {x y : World} {B : Nat} {t : TypeId} {C : List Value}
theorem RowC.lt (h : RowC x B t C) : B < x.heap.size := (Array.getElem?_eq_some_iff.1 h).1
theorem RowC.below (h : RowC x B t C) (hb : Below x.heap.size x y) : RowC y B t C := (hb.block B h.lt).trans h
theorem RowC.range (h : RowC x B t C) : x.rangeAt B 0 C := row_range h
theorem RowC.cell (h : RowC x B t C) (j : Nat) (v : Value) (hj : C[j]? = some v) : x.cell? ⟨B, j, none⟩ = some v := by
  have := h.range j v hj
  rwa [Nat.zero_add] at this
theorem RowC.frozen (h : RowC x B t C) (j : Nat) : x.frozen? ⟨B, j, none⟩ = false := by
  have h' : x.heap[B]? = some (.cells C.toArray t (0, 0)) := h
  simp [World.frozen?, h']
theorem RowC.set (h : RowC x B t C) (j : Nat) (v : Value) : RowC (x.setCell ⟨B, j, none⟩ v) B t (C.set j v) := by
  have h' : x.heap[B]? = some (.cells C.toArray t (0, 0)) := h
  obtain ⟨hlt, hk⟩ := Array.getElem?_eq_some_iff.1 h'
  show (x.heap.modify B _)[B]? = _
  rw [Array.getElem?_eq_getElem (by rw [Array.size_modify]; exact hlt), Array.getElem_modify_self, hk]
  simp
theorem RowC.new (x : World) (t : TypeId) (C : List Value) : RowC (x.alloc (.cells C.toArray t)) x.heap.size t C := heap_alloc_new x _
end
theorem below_new (x : World) (o : Obj) : Below x.heap.size x (x.alloc o) := (Below.refl _ x).alloc (Nat.le_refl _) _
theorem own_belowT {x x' : World} {N e sz n : Nat} {v : Value} {xs : List Value} (h : x.ownsRow N e sz v n xs) (hb : Below x.heap.size x x') : x'.ownsRow N e sz v n xs := by
  refine ⟨h.1, ?_⟩
  rcases h.2 with h' | ⟨g, cap, cur, rfl, a1, a2, a3⟩
  · exact .inl h'
  · exact .inr ⟨g, cap, cur, rfl, a1, (hb.block g (Array.getElem?_eq_some_iff.1 a2).1).trans a2, a3⟩
theorem row_ne {x : World} {N e sz n B : Nat} {v : Value} {xs C : List Value} {t : TypeId} (h : x.ownsRow N e sz v n xs) (hB : RowC x B t C) (hne : e ≠ t) : v.ownBlock ≠ some B := by
  rcases h.2 with ⟨rfl, _⟩ | ⟨g, cap, cur, rfl, _, hg, _⟩
  · simp [Value.ownBlock]
  · intro e'
    obtain rfl : g = B := by simpa [Value.ownBlock] using e'
    have hB' : x.heap[g]? = some (.cells C.toArray t (0, 0)) := hB
    rw [hg] at hB'
    cases hB'
    exact hne rfl
theorem rows_ne {x : World} {N N' e e' sz sz' n n' : Nat} {v v' : Value} {xs xs' : List Value} (h : x.ownsRow N e sz v n xs) (h' : x.ownsRow N' e' sz' v' n' xs') (hne : e ≠ e') : v.ownBlock = none ∨ v.ownBlock ≠ v'.ownBlock := by
  rcases h.2 with ⟨rfl, _⟩ | ⟨g, cap, cur, rfl, _, hg, _⟩
  · exact .inl rfl
  · right
    rcases h'.2 with ⟨rfl, _⟩ | ⟨g', cap', cur', rfl, _, hg', _⟩
    · simp [Value.ownBlock]
    · intro ee
      obtain rfl : g = g' := by simpa [Value.ownBlock] using ee
      rw [hg] at hg'
      cases hg'
      exact hne rfl
theorem grownBy_setCellJ (W : World) (b j : Nat) (v : Value) : W.grownBy (W.setCell ⟨b, j, none⟩ v) (some b) :=
  ⟨rfl, rfl, rfl, (KeepsWalks.setCell W _ v).size, fun k _ hk => Below.heap_setCell _ _ _ k (fun e => hk (by rw [e]))⟩
theorem RowC.grown {x y : World} {B : Nat} {t : TypeId} {C : List Value} {row : Option Nat} (h : RowC x B t C) (hg : x.grownBy y row) (hne : row ≠ some B) : RowC y B t C := (hg.block B h.lt (fun e => hne e.symm)).trans h
end Go.Proofs.Ytfihpljgbghogaa

/- Blocks: their cells, read and written at once; two blocks held against each other. Needs the types api.Block and uint8. -/
namespace Go.Proofs.Ytfihpljgbghogaa
open Go.RowKit
set_option linter.unusedVariables false

/-- A block of one byte. -/
def fillB (v : Int) : List Value := List.replicate 64 (.int .u8 v)
def zarr : Array Value := (fillB 0).toArray
/-- Results that lie in a cell. -/
theorem results_cell {P : Program} {fn : Func} {p : Tmp} {ty : TypeId} {tmps : Array Value} {w : World} {ad : Addr} {v : Value} (h : fn.results = #[.cell p ty]) (ha : tmps.getD p undef = .pointer (some ad)) (hl : (loadVar ty ad).run P w = .ok v w) :
    (results fn tmps).run P w = .ok v w := by
  have e : (asAddr (.pointer (some ad))).run P w = .ok ad w := by simp [asAddr]
  have ha' : tmps[p]?.getD undef = .pointer (some ad) := by simpa using ha
  simp [results, h, Sem.run_bind, Result.andThen, ha', e, hl]
theorem results_cell2 {P : Program} {fn : Func} {p u : Tmp} {ty : TypeId} {tmps : Array Value} {w : World} {ad : Addr} {v : Value} (h : fn.results = #[.cell p ty, .tmp u]) (ha : tmps.getD p undef = .pointer (some ad)) (hl : (loadVar ty ad).run P w = .ok v w) :
    (results fn tmps).run P w = .ok (.tuple #[v, tmps.getD u undef]) w := by
  have e : (asAddr (.pointer (some ad))).run P w = .ok ad w := by simp [asAddr]
  have ha' : tmps[p]?.getD undef = .pointer (some ad) := by simpa using ha
  simp [results, h, Sem.run_bind, Result.andThen, ha', e, hl]

/-- Are two rows of cells alike? -/
noncomputable def alike (a b : List Value) : Bool := @decide (a = b) (Classical.propDecidable _)
end Go.Proofs.Ytfihpljgbghogaa

/- A region that draws its order, in a round of a loop over a function, at the wide fence: walked once, its tail in order. -/
namespace Go.Proofs.Ytfihpljgbghogaa
open Go.RowKit
set_option linter.unusedVariables false

section
variable {l n : Nat} {P : Program} {ops : Array Oper} {Q : Exit → Act → World → Prop} {md : Region.Mode}

theorem op_round {o : Oper} {a : Act} {w : World} {K : Act → World → Prop} (hd : ∀ c, o.op ≠ .defer c) (h : o.wp P a w K Q) : o.wpIn (Fence.wide.inRound l) n P a w K Q := by
  unfold Oper.wpIn
  refine ⟨fun _ _ => trivial, ?_⟩
  rw [Oper.semAt_eq _ _ _ hd]
  unfold Oper.wp at h
  generalize (execOp a.eval o).run P w = r at *
  cases r with
  | ok x w' =>
    cases x <;> simp only [Oper.upon, Oper.uponIn] at h ⊢ <;>
      first
        | exact h
        | exact ⟨fun e => by simp [Fence.wide] at e, CallsIn.inRound l (callsIn_wide.2 h)⟩
        | exact ⟨fun e => by simp [Fence.wide] at e, fun c cs _ => let ⟨v, w', r, s⟩ := h c cs; ⟨v, w', r, stepsIn_wide.2 s⟩⟩
  | halt x w' => cases x <;> simp only [Oper.upon, Oper.uponIn] at h ⊢ <;> exact h

/-- No operation of the region is a deferred call. -/
def noDefer (ops : Array Oper) : Bool := ops.all fun o => match o.op with | .defer _ => false | _ => true
theorem noDefer_spec {i : Nat} {o : Oper} (h : noDefer ops = true) (hi : ops[i]? = some o) : ∀ c, o.op ≠ .defer c := by
  intro c e
  unfold noDefer at h
  rw [Array.all_eq_true] at h
  obtain ⟨hlt, hk⟩ := Array.getElem?_eq_some_iff.1 hi
  have := h i hlt
  rw [hk, e] at this
  cases this

theorem opAt_round {i : Nat} {a : Act} {w : World} {K : Act → World → Prop} (hL : ¬ LetsOut Q) (hd : noDefer ops = true) (h : wpOp P ops Q i K a w) : wpOpIn (Fence.wide.inRound l) n P ops Q i K a w := by
  unfold wpOp at h
  unfold wpOpIn
  cases ho : ops[i]? with
  | none => simpa [ho] using h
  | some o =>
    simp only [ho] at h ⊢
    by_cases hw : Region.wanted o (yielded ops a.tmps) = true
    · simp only [hw, if_true] at h ⊢
      rcases h with h | h
      · exact op_round (noDefer_spec hd ho) h
      · exact absurd h.2 hL
    · simp only [hw] at h ⊢
      exact ⟨fun _ _ => trivial, h⟩

theorem any_round (hL : ¬ LetsOut Q) (hd : noDefer ops = true) : ∀ (fuel : Nat) (listed : Array Bool) (a : Act) (w : World), wpAny P md ops Q fuel listed a w → wpAnyIn (Fence.wide.inRound l) n P md ops Q fuel listed a w
  | 0, _, _, _, h => h
  | fuel + 1, listed, a, w, h => ⟨h.1, fun i hi => wpOpIn_mono (fun a w => any_round hL hd fuel _ a w) (opAt_round hL hd (h.2 i hi))⟩

theorem region_round {id : Nat} {a : Act} {w : World} {l' : List Oper} (k : Nat) (hL : ¬ LetsOut Q) (hd : noDefer l'.toArray = true) (hm : P.follows .mixedOrders = true) (hB : Region.lexTailB .any l'.toArray k = true)
    (h : wpStill P l'.toArray w.drew (fun a' => wpList P l'.toArray Q (l'.drop k) a' w.drew) (l'.take k) a) : (Code.region id l'.toArray true).wpIn (Fence.wide.inRound l) n P Q a w := by
  simp only [Region.lexTailB, Bool.and_eq_true, decide_eq_true_eq] at hB
  obtain ⟨⟨⟨⟨hsel, hn⟩, hs⟩, hc⟩, hlex⟩ := hB
  have htl : (l'.take k).length = k := by simp at hn ⊢; omega
  have hdl : (l'.drop k).length = l'.toArray.size - k := by simp
  have inv0 : HeadInv .any l'.toArray k (Array.replicate l'.toArray.size false) :=
    ⟨by simp, fun j oj _ hl => (by rw [getD_replicate_false] at hl; cases hl), fun t _ ht => getD_in (by simpa using ht) (getD_replicate_false _ _)⟩
  have H := wpAnyL_lex (md := .any) (g := l'.toArray.size - k) hsel hs hc hn (l'.take k) 0 _ a (fun j hj => by
    have hj' : j < k := by rw [htl] at hj; exact hj
    simp [hj']) (by simpa using htl) inv0 (by rw [htl]; exact hlex) h
  refine wpIn_region_any hm (any_round hL hd _ _ _ _ ?_)
  have := wpAny_of_head (Q' := Q) (g := l'.toArray.size - k) (fun listed a' hL => by
    have := wpAny_of_seq (md := .any) (Q' := Q) (l'.drop k) k listed a' w.drew (fun j => by simp [List.getElem?_drop]) (by rw [hdl]; exact hL.1) hL.2
    rwa [hdl] at this) _ _ _ H
  rw [htl, show k + (l'.toArray.size - k) = l'.toArray.size from by simp at hn ⊢; omega] at this
  exact this

theorem letsOut_inBlock {id : Nat} (h : ¬ LetsOut Q) : ¬ LetsOut (Exit.inBlock id Q) := fun ⟨a, w, e⟩ => h ⟨a, w, e⟩
end

/-- make of so many elements, inside a fence. -/
theorem wpListIn_make_full {F : Fence} {n : Nat} {P : Program} (w : World) {ops : Array Oper} {rest : List Oper} {o : Oper} {a : Act} {Q : Exit → Act → World → Prop}
    (hg : o.guard = none) (l c : Operand) (t : TypeId) (hop : o.op = Op.makeSlice t l c)
    (base : Nat) (e : TypeId) (i : TypeInfo) (z : Value) (size : Nat) (h1 : P.underlying t = some (.slice e)) (h2 : P.info? e = some i) (h3 : i.zero = some z) (h4 : i.size = size)
    (kl kc : IntKind) (L C : Int) (m : Nat) (hl : a.eval l = .int kl L) (hc : a.eval c = .int kc C) (hL : L = (m : Int)) (hC : C = (m : Int)) (b2 : i.bytes * m ≤ 281474976710656) (b3 : m ≤ maxLen) (b4 : base ≤ w.heap.size)
    (hK : ∀ w', w'.ownsRow base e size (.slice (some ⟨w.heap.size, 0, none⟩) m m) m (madeCells z.cells (m * size)).toList → w.grownBy w' none → wpListIn F n P ops Q rest (a.put o.dst (.slice (some ⟨w.heap.size, 0, none⟩) m m)) w') :
    wpListIn F n P ops Q (o :: rest) a w := by
  refine wpListIn_plain hg fun K hK' => ?_
  obtain ⟨w', hrun, r1, r2⟩ := run_make_full (P := P) w base t e i z size h1 h2 h3 h4 kl kc m b2 b3 b4
  subst hL
  subst hC
  unfold Oper.wpIn
  refine ⟨?_, ?_⟩
  · simp [Oper.about, hop]
  · rw [Oper.semAt_plain F _ _ (by rw [hop]; intro c hc'; cases hc')]
    simp [execOp, hop, hl, hc, hrun, Result.andThen]
    exact hK' _ _ (hK w' r1 r2)

/-- That a slice owns its row speaks of cells alone. -/
theorem ownsRow_own {β : Type} (n₀ e size : Nat) (v : Value) (k : β → Nat) (f : β → List Value) : Own (fun s W => W.ownsRow n₀ e size v (k s) (f s)) := by
  rintro s X Y row hr hg hrow
  refine hr.kept hg ?_
  rcases hr.2 with ⟨rfl, _⟩ | ⟨g, cap, cur, rfl, _, hgb, _⟩
  · exact .inl rfl
  · refine .inr fun e' => ?_
    obtain ⟨o, ho, hc⟩ := hrow g (by simpa [Value.ownBlock] using e'.symm)
    rw [hgb] at ho; cases ho; cases hc

/-- A row that is full: its block. -/
theorem ownsRow_row {w : World} {base e n g : Nat} {xs : List Value} (h : w.ownsRow base e 1 (.slice (some ⟨g, 0, none⟩) n n) n xs) : w.heap[g]? = some (.cells xs.toArray e (0, 0)) := by
  rcases h.2 with ⟨h', _⟩ | ⟨g', cap, cur, h', _, hg, _, _, hs, ht⟩
  · simp at h'
  · simp only [Value.slice.injEq, Option.some.injEq, Addr.mk.injEq, and_true, true_and] at h'
    obtain ⟨rfl, rfl⟩ := h'
    rw [hg, ← ht, List.take_of_length_le (by rw [Array.length_toList]; omega)]
theorem splice_all (cur cs : List Value) (h : cur.length = cs.length) : splice cur 0 cs = cs := by
  unfold splice
  simp [h]

/-- An append whose run is known; a guard that lets it by is no bar. -/
theorem wpList_append_run {P : Program} {w w' : World} {ops : Array Oper} {rest : List Oper} {o : Oper} {a : Act} {Q : Exit → Act → World → Prop} (s x : Operand) (t : TypeId)
    (ho : o.op = .call { callee := .builtin .append, args := #[s, x], argTypes := #[t, t] }) (hw : Region.wanted o (yielded ops a.tmps) = true)
    (vs vx v' : Value) (hs : a.eval s = vs) (hx : a.eval x = vx) (hrun : (Builtin.append_ #[t, t] o.type #[vs, vx]).run P w = .ok v' w')
    (h : wpList P ops Q rest (a.put o.dst v') w') : wpList P ops Q (o :: rest) a w := by
  unfold wpList
  rw [if_pos hw]
  refine .inl ?_
  unfold Oper.wp
  simp [execOp, ho, resolve, invoke, builtin, hs, hx, hrun, Result.andThen]
  exact h

/-- A cut of a slice whose run is known; a guard that lets it by is no bar. -/
theorem wpList_slice_run {P : Program} {w w' : World} {ops : Array Oper} {rest : List Oper} {o : Oper} {a : Act} {Q : Exit → Act → World → Prop} (s : Operand) (t : TypeId) (lo hi : Option Operand)
    (ho : o.op = .slice t s lo hi none) (hw : Region.wanted o (yielded ops a.tmps) = true)
    (vs v' : Value) (l h : Option Value) (hs : a.eval s = vs) (hl : lo.map a.eval = l) (hh : hi.map a.eval = h) (hrun : (Instr.sliceAt t vs l h none).run P w = .ok v' w')
    (hK : wpList P ops Q rest (a.put o.dst v') w') : wpList P ops Q (o :: rest) a w := by
  unfold wpList
  rw [if_pos hw]
  refine .inl ?_
  unfold Oper.wp
  simp [execOp, ho, hs, hl, hh, hrun, Result.andThen]
  exact hK

/-- A gate for an arm: the next operation cuts the slice in slot k. -/
theorem gate_slice (k : Nat) {P : Program} {ops : Array Oper} {Q : Exit → Act → World → Prop} {rest : List Oper} {a : Act} {w : World} {dst : Option Tmp} {t ty : TypeId} {lo hi mx : Option Operand} {pos : String} {after : Array Edge} {guard : Option (Nat × Bool)}
    (h : wpList P ops Q ({ dst := dst, op := .slice t (.tmp k) lo hi mx, type := ty, pos := pos, after := after, guard := guard } :: rest) a w) :
    wpList P ops Q ({ dst := dst, op := .slice t (.tmp k) lo hi mx, type := ty, pos := pos, after := after, guard := guard } :: rest) a w := h

theorem letsOut_own {α : Type} {Kp : World → World → Prop} {I : List α → World → Prop} {Ix : Code → List α → World → Prop} {xs : List α} {W : World} : ¬ LetsOut (ownPostK Kp I Ix xs W) := fun ⟨a, w, e⟩ => e.elim
end Go.Proofs.Ytfihpljgbghogaa

/- A region that draws its order, walked in an order of one's own choice: what only reads is taken ahead, under a condition that all else keeps; what makes or writes is carried out as it may come up. No program is named. -/
namespace Go.Proofs.Ytfihpljgbghogaa
open Go.RowKit
set_option linter.unusedVariables false

/-- What hands back a value, if anything. -/
def readOp : Op → Bool
  | .move _ | .assign _ | .pick .. | .load .. | .binOp .. | .unOp .. | .convert .. | .fieldAddr .. | .field .. | .indexAddr .. | .index .. | .extract .. | .build .. | .slice .. | .nilCheck _ => true
  | .call { callee := .builtin .len, .. } => true
  | _ => false

theorem andThen_value {α : Type} {s : Result α} {f : α → Value} {n : Next} {w' : World} (h : (s.andThen fun v w => Result.ok (Next.value (f v)) w) = .ok n w') : ∃ v, n = .value v := by
  cases s with
  | ok v w => simp [Result.andThen] at h; exact ⟨_, h.1.symm⟩
  | halt x w => simp [Result.andThen] at h

theorem andThen_any {α : Type} {s : Result α} {g : α → World → Result Next} {n : Next} {w' : World} (hg : ∀ a w n w', g a w = .ok n w' → ∃ v, n = .value v) (h : s.andThen g = .ok n w') : ∃ v, n = .value v := by
  cases s with
  | ok v w => exact hg _ _ _ _ h
  | halt x w => simp [Result.andThen] at h

section
variable {P : Program} {ops : Array Oper} {Q : Exit → Act → World → Prop} {md : Region.Mode} {S : World → Prop}

theorem readOp_value {o : Oper} {ρ : Operand → Value} {w w' : World} {n : Next} (h : readOp o.op = true) (hr : (execOp ρ o).run P w = .ok n w') : ∃ v, n = .value v := by
  obtain ⟨dst, op, ty, pos, aft, gd⟩ := o
  cases op
  case nilCheck x =>
    unfold execOp at hr
    dsimp only at hr
    revert hr
    split
    · intro hr; simp [runtimePanic] at hr
    · intro hr; simp [runtimePanic] at hr
    · intro hr; simp [runtimePanic] at hr
    · split
      · intro hr; simp [runtimePanic] at hr
      · intro hr
        simp only [Sem.run_bind] at hr
        refine andThen_any (fun a w n w' hr => andThen_any (fun a w n w' hr => ?_) hr) hr
        split at hr
        · simp [unsupported] at hr
        · simp at hr; exact ⟨_, hr.1.symm⟩
      · intro hr; simp at hr; exact ⟨_, hr.1.symm⟩
    · intro hr; simp at hr; exact ⟨_, hr.1.symm⟩
  case call c =>
    obtain ⟨callee, args, at_⟩ := c
    cases callee <;> simp [readOp] at h
    rename_i b
    cases b <;> simp at h
    simp only [execOp, Sem.run_bind, resolve, invoke, builtin, Sem.run_pure, Result.andThen_ok] at hr
    exact andThen_value (f := id) hr
  all_goals first
    | (simp [readOp] at h; done)
    | (simp only [execOp, Sem.run_bind, Sem.run_pure] at hr; exact andThen_value (f := id) hr)
    | (simp only [execOp, Sem.run_bind, Sem.run_pure] at hr; exact andThen_value hr)
    | (simp [execOp] at hr; exact ⟨_, hr.1.symm⟩)
    | skip

/-- What the quiet walk shows of an operation that only reads. -/
theorem yieldsIf_of_quiet {i : Nat} {o : Oper} {a : Act} {K : Act → Prop} (hrd : readOp o.op = true) (hne : ∃ w, S w) (h : if Region.wanted o (yielded ops a.tmps) then o.quiet P a S K else K (a.put o.dst undef)) :
    ∃ v, YieldsIf P ops S o v a ∧ K (a.put o.dst v) := by
  by_cases hw : Region.wanted o (yielded ops a.tmps) = true
  · rw [if_pos hw] at h
    obtain ⟨v, h1, h2⟩ := h
    refine ⟨v, .inl ⟨hw, fun w hS => ?_⟩, h2⟩
    have h3 := h1 w hS
    unfold Oper.quietAt at h3
    cases hr : (execOp a.eval o).run P w with
    | ok n w' =>
      obtain ⟨u, rfl⟩ := readOp_value hrd hr
      rw [hr] at h3
      obtain ⟨rfl, rfl⟩ := h3
      rfl
    | halt x w' => rw [hr] at h3; exact h3.elim
  · rw [if_neg hw] at h
    exact ⟨undef, .inr ⟨by simpa using hw, rfl⟩, h⟩

/-- The first part of a walk, in whatever order is picked: none from number n on comes up; S holds behind each; then L. -/
def wpAnyM (P : Program) (md : Region.Mode) (ops : Array Oper) (Q : Exit → Act → World → Prop) (S : World → Prop) (n : Nat) (L : Array Bool → Act → World → Prop) : Nat → Array Bool → Act → World → Prop
  | 0, listed, a, w => L listed a w
  | f + 1, listed, a, w => Region.ready md ops listed ≠ [] ∧ ∀ i ∈ Region.ready md ops listed, i < n ∧ wpOp P ops Q i (fun a' w' => S w' ∧ wpAnyM P md ops Q S n L f (listed.setIfInBounds i true) a' w') a w

theorem wpAny_of_M {n g : Nat} {L : Array Bool → Act → World → Prop} (hL : ∀ listed a w, L listed a w → wpAny P md ops Q g listed a w) :
    ∀ (f : Nat) (listed : Array Bool) (a : Act) (w : World), wpAnyM P md ops Q S n L f listed a w → wpAny P md ops Q (f + g) listed a w
  | 0, listed, a, w, h => by rw [Nat.zero_add]; exact hL _ _ _ h
  | f + 1, listed, a, w, h => by
    rw [show f + 1 + g = (f + g) + 1 by omega]
    exact ⟨fun h0 => absurd h0 h.1, fun i hi => wpOp_mono (fun a' w' h' => wpAny_of_M hL f _ a' w' h'.2) (h.2 i hi).2⟩

theorem wpAnyM_first {n i : Nat} {oi : Oper} {v : Value} {L : Array Bool → Act → World → Prop} (hi : ops[i]? = some oi) (hsel : ∀ (j : Nat) (o : Oper) cs b, ops[j]? = some o → o.op ≠ .select cs b)
    (hQ : ∀ c a w, Q (.panic c) (a.put oi.dst v) w → Q (.panic c) a w)
    (hs : Region.sinkB md ops n = true) (hc : Region.chainB md ops n = true) (hn : n < ops.size) (hin : i < n)
    (hdone : ∀ listed a w, L listed a w → ∀ j ∈ Region.ready md ops listed, n ≤ j) :
    ∀ (f : Nat) (listed : Array Bool) (a : Act) (w : World), HeadInv md ops n listed →
      (∀ j oj, ops[j]? = some oj → j ≠ i → listed.getD j true = false → (∀ e ∈ oj.after, Region.binds md e = true → e.on ≠ i) → oi.apart ops oj = true) →
      i ∈ Region.ready md ops listed → YieldsIf P ops S oi v a → S w →
      wpAnyM P md ops Q S n L f (listed.setIfInBounds i true) (a.put oi.dst v) w → wpAnyM P md ops Q S n L (f + 1) listed a w := by
  intro f
  induction f with
  | zero =>
    intro listed a w inv _ hr hy hS H
    have hun := (mem_ready.1 hr).1
    refine ⟨fun h => (by rw [h] at hr; cases hr), fun j hj => ?_⟩
    have hjn : j < n := by
      rcases Nat.lt_or_ge j n with h | h
      · exact h
      · exact absurd hj (tail_waits hs hc hn inv _ i rfl hin hun j h)
    refine ⟨hjn, ?_⟩
    by_cases hji : j = i
    · subst hji; exact hy.wpOp hi hS ⟨hS, H⟩
    · have := hdone _ _ _ H j (ready_mono hj hji)
      omega
  | succ f ih =>
    intro listed a w inv hfree hr hy hS H
    have hun := (mem_ready.1 hr).1
    refine ⟨fun h => (by rw [h] at hr; cases hr), fun j hj => ?_⟩
    have hjn : j < n := by
      rcases Nat.lt_or_ge j n with h | h
      · exact h
      · exact absurd hj (tail_waits hs hc hn inv _ i rfl hin hun j h)
    refine ⟨hjn, ?_⟩
    by_cases hji : j = i
    · subst hji; exact hy.wpOp hi hS ⟨hS, H⟩
    · have h1 := (H.2 j (ready_mono hj hji)).2
      obtain ⟨hjun, oj, hoj, hall⟩ := mem_ready.1 hj
      have hnot : ∀ e ∈ oj.after, Region.binds md e = true → e.on ≠ i := fun e he hb heq => by
        have h1 := hall e he hb
        rw [heq, getD_both hun] at h1
        cases h1
      have h2 := wpOp_putIf hoj (hfree j oj hoj hji hjun hnot) (fun cs b => hsel i oi cs b hi) (fun cs b => hsel j oj cs b hoj) hQ hy h1
      have hfree' : ∀ k ok, ops[k]? = some ok → k ≠ i → (listed.setIfInBounds j true).getD k true = false →
          (∀ e ∈ ok.after, Region.binds md e = true → e.on ≠ i) → oi.apart ops ok = true := fun k ok hk hki hun hno => by
        refine hfree k ok hk hki ?_ hno
        by_cases hjk : j = k
        · subst hjk; exact hjun
        · rw [getD_set_ne true hjk] at hun; exact hun
      refine wpOp_mono (fun a' w' h3 => ⟨h3.2.1, ih (listed.setIfInBounds j true) a' w' (inv.set hj hjn) hfree' (ready_mono hr (Ne.symm hji)) h3.1 h3.2.1 ?_⟩) h2
      rw [Array.setIfInBounds_comm _ _ hji]
      exact h3.2.2

/-- An order of one's own choice. -/
inductive Plan where
  | leaf
  | take (i : Nat) (next : Plan)
  | one (i : Nat) (next : Plan)
  | two (i j : Nat) (next1 next2 : Plan)

/-- Operation number i. -/
def nth : List Oper → Nat → Oper
  | [], _ => { dst := none, op := .move (.tmp 0), type := 0, pos := "", after := #[], guard := none }
  | o :: _, 0 => o
  | _ :: l, n + 1 => nth l n
theorem nth_zero (o : Oper) (l : List Oper) : nth (o :: l) 0 = o := rfl
theorem nth_succ (o : Oper) (l : List Oper) (n : Nat) : nth (o :: l) (n + 1) = nth l n := rfl
theorem nth_get : ∀ (l : List Oper) (i : Nat), i < l.length → l[i]? = some (nth l i)
  | [], _, h => by simp at h
  | o :: l, 0, _ => rfl
  | o :: l, n + 1, h => by rw [List.getElem?_cons_succ]; exact nth_get l n (by simpa using h)

/-- Where a part of the walk that carries out one operation has to come. -/
def planPost (S : World → Prop) (Q : Exit → Act → World → Prop) (K : Act → World → Prop) : Exit → Act → World → Prop
  | .normal, a, w => S w ∧ K a w
  | .ret, a, w => Q .ret a w
  | .exit i, a, w => Q (.exit i) a w
  | .goto t, a, w => Q (.goto t) a w
  | .panic c, a, w => Q (.panic c) a w
  | .outgrown, a, w => Q .outgrown a w

/-- The walk. -/
def wpPlan (P : Program) (l : List Oper) (Q : Exit → Act → World → Prop) (S : World → Prop) (n : Nat) : Plan → Act → World → Prop
  | .leaf, a, w => wpList P l.toArray Q (l.drop n) a w
  | .take i next, a, w => wpQuiet P l.toArray S (fun a' => wpPlan P l Q S n next a' w) [nth l i] a
  | .one i next, a, w => wpList P l.toArray (planPost S Q (wpPlan P l Q S n next)) [nth l i] a w
  | .two i j n1 n2, a, w => wpList P l.toArray (planPost S Q (wpPlan P l Q S n n1)) [nth l i] a w ∧ wpList P l.toArray (planPost S Q (wpPlan P l Q S n n2)) [nth l j] a w

/-- All of these ahead. -/
def Plan.takes : List Nat → Plan → Plan
  | [], p => p
  | i :: l, p => .take i (Plan.takes l p)

/-- May it be gone so? -/
def planB (md : Region.Mode) (l : List Oper) (n : Nat) : Plan → Nat → Array Bool → Bool
  | .leaf, f, listed => decide (f = 0) && Region.seqB md l.toArray (l.length - n) n listed
  | .take i next, f, listed => decide (0 < f) && decide (i < n) && readOp (nth l i).op && (Region.ready md l.toArray listed).contains i && Region.free md l.toArray listed i && planB md l n next (f - 1) (listed.setIfInBounds i true)
  | .one i next, f, listed => decide (0 < f) && decide (i < n) && decide (Region.ready md l.toArray listed = [i]) && planB md l n next (f - 1) (listed.setIfInBounds i true)
  | .two i j n1 n2, f, listed => decide (0 < f) && decide (i < n) && decide (j < n) && decide (Region.ready md l.toArray listed = [i, j]) && planB md l n n1 (f - 1) (listed.setIfInBounds i true) && planB md l n n2 (f - 1) (listed.setIfInBounds j true)

theorem wpPlan_leaf {l : List Oper} {n : Nat} {a : Act} {w : World} : wpPlan P l Q S n .leaf a w = wpList P l.toArray Q (l.drop n) a w := rfl
theorem wpPlan_one {l : List Oper} {n i : Nat} {p : Plan} {a : Act} {w : World} : wpPlan P l Q S n (.one i p) a w = wpList P l.toArray (planPost S Q (wpPlan P l Q S n p)) [nth l i] a w := rfl
theorem wpPlan_takes_nil {l : List Oper} {n : Nat} {p : Plan} {a : Act} {w : World} : wpPlan P l Q S n (.takes [] p) a w = wpPlan P l Q S n p a w := rfl
theorem wpPlan_takes_cons {l : List Oper} {n i : Nat} {is : List Nat} {p : Plan} {a : Act} {w : World} : wpPlan P l Q S n (.takes (i :: is) p) a w = wpQuiet P l.toArray S (fun a' => wpPlan P l Q S n (.takes is p) a' w) [nth l i] a := rfl

theorem wp_congrQ {o : Oper} {a : Act} {w : World} {K : Act → World → Prop} {Q' : Exit → Act → World → Prop} (hp : ∀ c a w, Q' (.panic c) a w → Q (.panic c) a w) (ho : ∀ a w, Q' .outgrown a w → Q .outgrown a w) (h : o.wp P a w K Q') : o.wp P a w K Q := by
  unfold Oper.wp at *
  generalize (execOp a.eval o).run P w = r at *
  cases r with
  | ok n w' =>
    cases n <;> simp only [Oper.upon] at h ⊢ <;>
      first
        | exact h
        | exact Calls.mono h (fun e w'' he => by cases e <;> first | exact he | exact hp _ _ _ he | (obtain ⟨a', w', h'⟩ := he; exact ⟨a', w', ho _ _ h'⟩))
  | halt x w' => cases x <;> simp only [Oper.upon] at h ⊢ <;> first | exact h | exact hp _ _ _ h | exact ho _ _ h

theorem wpOp_of_one {l : List Oper} {i : Nat} {K : Act → World → Prop} {a : Act} {w : World} (hi : i < l.length) (h : wpList P l.toArray (planPost S Q K) [nth l i] a w) :
    wpOp P l.toArray Q i (fun a' w' => S w' ∧ K a' w') a w := by
  have ho : l.toArray[i]? = some (nth l i) := by simpa using nth_get l i hi
  unfold wpOp
  simp only [ho]
  unfold wpList at h
  by_cases hw : Region.wanted (nth l i) (yielded l.toArray a.tmps) = true
  · rw [if_pos hw] at h ⊢
    rcases h with h | ⟨h1, a', w', h2⟩
    · exact .inl (wp_congrQ (fun _ _ _ h => h) (fun _ _ h => h) h)
    · exact .inr ⟨h1, a', w', h2⟩
  · rw [if_neg hw] at h ⊢
    exact h

theorem wpAnyM_plan {l : List Oper} {n : Nat} (hsel : Region.noSelect l.toArray = true) (hs : Region.sinkB md l.toArray n = true) (hc : Region.chainB md l.toArray n = true) (hn : n < l.length) (hQ : ∀ c (x : Option Tmp) v a w, Q (.panic c) (a.put x v) w → Q (.panic c) a w) :
    ∀ (p : Plan) (f : Nat) (listed : Array Bool) (a : Act) (w : World), HeadInv md l.toArray n listed → planB md l n p f listed = true → S w → wpPlan P l Q S n p a w →
      wpAnyM P md l.toArray Q S n (fun listed' a' w' => Region.seqB md l.toArray (l.length - n) n listed' = true ∧ wpList P l.toArray Q (l.drop n) a' w') f listed a w := by
  have hn' : n < l.toArray.size := by simpa using hn
  intro p
  induction p with
  | leaf =>
    intro f listed a w inv hB hS h
    simp only [planB, Bool.and_eq_true, decide_eq_true_eq] at hB
    obtain ⟨rfl, hB⟩ := hB
    exact ⟨hB, h⟩
  | take i next ih =>
    intro f listed a w inv hB hS h
    simp only [planB, Bool.and_eq_true, decide_eq_true_eq] at hB
    obtain ⟨⟨⟨⟨⟨hf, hin⟩, hrd⟩, hr⟩, hfr⟩, hB⟩ := hB
    obtain ⟨f, rfl⟩ : ∃ g, f = g + 1 := ⟨f - 1, by omega⟩
    have ho : l.toArray[i]? = some (nth l i) := by simpa using nth_get l i (by omega)
    have hr' : i ∈ Region.ready md l.toArray listed := by simpa using hr
    simp only [wpPlan, wpQuiet] at h
    obtain ⟨v, hy, hK⟩ := yieldsIf_of_quiet (i := i) hrd ⟨w, hS⟩ h
    exact wpAnyM_first ho (Region.noSelect_spec hsel) (fun c a w => hQ c _ v a w) hs hc hn' hin (fun listed a w hL => seqB_ready hL.1) f listed a w inv (Region.free_spec ho hfr) hr' hy hS
      (ih f _ _ w (inv.set hr' hin) (by simpa using hB) hS hK)
  | one i next ih =>
    intro f listed a w inv hB hS h
    simp only [planB, Bool.and_eq_true, decide_eq_true_eq] at hB
    obtain ⟨⟨⟨hf, hin⟩, hr⟩, hB⟩ := hB
    obtain ⟨f, rfl⟩ : ∃ g, f = g + 1 := ⟨f - 1, by omega⟩
    refine ⟨by rw [hr]; simp, fun j hj => ?_⟩
    have hj' := hj
    rw [hr] at hj
    obtain rfl : j = i := by simpa using hj
    exact ⟨hin, wpOp_mono (fun a' w' h' => ⟨h'.1, ih f _ _ w' (inv.set hj' hin) (by simpa using hB) h'.1 h'.2⟩) (wpOp_of_one (by omega) h)⟩
  | two i k n1 n2 ih1 ih2 =>
    intro f listed a w inv hB hS h
    simp only [planB, Bool.and_eq_true, decide_eq_true_eq] at hB
    obtain ⟨⟨⟨⟨⟨hf, hin⟩, hkn⟩, hr⟩, hB1⟩, hB2⟩ := hB
    obtain ⟨f, rfl⟩ : ∃ g, f = g + 1 := ⟨f - 1, by omega⟩
    obtain ⟨g1, g2⟩ := h
    refine ⟨by rw [hr]; simp, fun j hj => ?_⟩
    have hj' := hj
    rw [hr] at hj
    rcases (by simpa using hj : j = i ∨ j = k) with rfl | rfl
    · exact ⟨hin, wpOp_mono (fun a' w' h' => ⟨h'.1, ih1 f _ _ w' (inv.set hj' hin) (by simpa using hB1) h'.1 h'.2⟩) (wpOp_of_one (by omega) g1)⟩
    · exact ⟨hkn, wpOp_mono (fun a' w' h' => ⟨h'.1, ih2 f _ _ w' (inv.set hj' hkn) (by simpa using hB2) h'.1 h'.2⟩) (wpOp_of_one (by omega) g2)⟩

/-- May the region be gone so? -/
def planOk (l : List Oper) (n : Nat) (p : Plan) : Bool :=
  Region.noSelect l.toArray && decide (n < l.length) && Region.sinkB .any l.toArray n && Region.chainB .any l.toArray n && planB .any l n p n (Array.replicate l.length false)

theorem wpAny_plan {l : List Oper} {a : Act} {w : World} (S : World → Prop) (n : Nat) (p : Plan) (hB : planOk l n p = true) (hQ : ∀ c (x : Option Tmp) v a w, Q (.panic c) (a.put x v) w → Q (.panic c) a w) (hS : S w)
    (h : wpPlan P l Q S n p a w) : wpAny P .any l.toArray Q l.toArray.size (Array.replicate l.toArray.size false) a w := by
  simp only [planOk, Bool.and_eq_true, decide_eq_true_eq] at hB
  obtain ⟨⟨⟨⟨hsel, hn⟩, hs⟩, hc⟩, hp⟩ := hB
  have inv0 : HeadInv .any l.toArray n (Array.replicate l.toArray.size false) :=
    ⟨by simp, fun j oj _ hl => (by rw [getD_replicate_false] at hl; cases hl), fun t _ ht => getD_in (by simpa using ht) (getD_replicate_false _ _)⟩
  have H := wpAnyM_plan (md := .any) hsel hs hc hn hQ p n _ a w inv0 (by simpa using hp) hS h
  have := wpAny_of_M (g := l.length - n) (fun listed a' w' hL => by
    have := wpAny_of_seq (md := .any) (Q' := Q) (l.drop n) n listed a' w' (fun j => by simp [List.getElem?_drop]) (by rw [List.length_drop]; exact hL.1) hL.2
    rwa [List.length_drop] at this) _ _ _ _ H
  rw [show n + (l.length - n) = l.toArray.size by simp; omega] at this
  exact this

/-- **A REGION THAT DRAWS, in an order of one's own choice.** -/
theorem region_plan {id : Nat} {a : Act} {w : World} {l : List Oper} (S : World → Prop) (n : Nat) (p : Plan) (hm : P.follows .mixedOrders = true) (hB : planOk l n p = true) (hQ : ∀ c (x : Option Tmp) v a w, Q (.panic c) (a.put x v) w → Q (.panic c) a w) (hS : S w.drew)
    (h : wpPlan P l Q S n p a w.drew) : (Code.region id l.toArray true).wp P Q a w :=
  wp_region_any hm (wpAny_plan S n p hB hQ hS h)

/-- .. in a round of a loop over a function. -/
theorem region_plan_round {id fuel l₀ : Nat} {a : Act} {w : World} {l : List Oper} (S : World → Prop) (n : Nat) (p : Plan) (hL : ¬ LetsOut Q) (hd : noDefer l.toArray = true) (hm : P.follows .mixedOrders = true) (hB : planOk l n p = true) (hQ : ∀ c (x : Option Tmp) v a w, Q (.panic c) (a.put x v) w → Q (.panic c) a w) (hS : S w.drew)
    (h : wpPlan P l Q S n p a w.drew) : (Code.region id l.toArray true).wpIn (Fence.wide.inRound l₀) fuel P Q a w :=
  wpIn_region_any hm (any_round hL hd _ _ _ _ (wpAny_plan S n p hB hQ hS h))

/-- A slice literal whose run is known; a guard that lets it by is no bar. -/
theorem wpList_build_run {w w' : World} {ops : Array Oper} {rest : List Oper} {o : Oper} {a : Act} {Q : Exit → Act → World → Prop} (t : TypeId) (len : Nat) (parts : Array (Nat × Operand))
    (ho : o.op = .buildSlice t len parts) (hw : Region.wanted o (yielded ops a.tmps) = true) (vs : List (Nat × Value)) (v' : Value) (hs : (parts.toList.map fun (i, x) => (i, a.eval x)) = vs)
    (hrun : (Instr.buildSlice t len vs.toArray).run P w = .ok v' w') (h : wpList P ops Q rest (a.put o.dst v') w') : wpList P ops Q (o :: rest) a w := by
  unfold wpList
  rw [if_pos hw]
  refine .inl ?_
  have hs' : (parts.map fun (i, x) => (i, a.eval x)) = vs.toArray := by
    apply Array.toList_inj.1
    rw [Array.toList_map, hs]
  unfold Oper.wp
  simp only [execOp, ho, Sem.run_bind, hs', hrun, Result.andThen_ok, Sem.run_pure]
  exact h
/-- A gate for an arm: the next operation is a slice literal. -/
theorem gate_build {w : World} {ops : Array Oper} {rest : List Oper} {a : Act} {Q : Exit → Act → World → Prop} {dst : Option Tmp} {t ty : TypeId} {len : Nat} {parts : Array (Nat × Operand)} {pos : String} {after : Array Edge} {guard : Option (Nat × Bool)}
    (h : wpList P ops Q ({ dst := dst, op := .buildSlice t len parts, type := ty, pos := pos, after := after, guard := guard } :: rest) a w) :
    wpList P ops Q ({ dst := dst, op := .buildSlice t len parts, type := ty, pos := pos, after := after, guard := guard } :: rest) a w := h
/-- Where one operation has been carried out. -/
theorem planPost_mk {K : Act → World → Prop} {a : Act} {w : World} (h1 : S w) (h2 : K a w) : planPost S Q K .normal a w := ⟨h1, h2⟩
end
end Go.Proofs.Ytfihpljgbghogaa

/- What the walk of a statement is told of its arguments, whatever their types: cell by cell. -/
namespace Go.Proofs.Ytfihpljgbghogaa
open Go.ChangeShapes Go.WideShapes Go.ChangeAt Go.RowKit
set_option linter.unusedVariables false

set_option maxRecDepth 100000 in
theorem own : ownKnob Try.prog.godebug = none := by kernel_rfl
set_option maxRecDepth 100000 in
theorem laidOut : laidOutB Try.prog = true := by kernel_rfl

/-- These cells read as a value of this type. -/
def Cells (W : World) (t : TypeId) (cs : List Value) : Prop :=
  ∃ (H : Type) (enc : TypeId × Value → H) (fuel : Nat) (x : DataW H × List MemPlace), DataW.trod enc Try.prog W 0 (fun _ => true) true fuel t cs = some x
/-- An argument. -/
def Arg (W : World) (t : TypeId) (v : Value) : Prop := (∃ base, Value.okWide Try.prog W .any base t v) ∧ Cells W t v.cells.toList

set_option maxRecDepth 100000 in
theorem Arg.mk {H : Type} {enc : TypeId × Value → H} {W : World} {base : Nat} {t : TypeId} {v : Value} {d : DataW H} {p : List MemPlace} (h : Value.okWide Try.prog W .any base t v) (k : DataW.Trod enc Try.prog W 0 (fun _ => true) true t v d p) : Arg W t v := by
  obtain ⟨fuel, hf⟩ := k
  exact ⟨⟨base, h⟩, H, enc, fuel, _, hf⟩

section
variable {W : World} {t e : TypeId} {cs : List Value} {v : Value}

set_option maxRecDepth 100000 in
theorem Cells.int {k : IntKind} (h : Cells W t cs) (hu : Try.prog.underlying t = some (.int k)) : ∃ n, cs = [.int k n] ∧ (Lit.int k n).wf = true := by
  obtain ⟨H, enc, fuel, x, hx⟩ := h
  obtain ⟨a, e1, e2, wa⟩ := DataW.trod_int hu hx
  exact ⟨a, e1, wa⟩
set_option maxRecDepth 100000 in
theorem Cells.bool (h : Cells W t cs) (hu : Try.prog.underlying t = some .bool) : ∃ b, cs = [.bool b] := by
  obtain ⟨H, enc, fuel, x, hx⟩ := h
  obtain ⟨a, e1, e2⟩ := DataW.trod_bool hu hx
  exact ⟨a, e1⟩
set_option maxRecDepth 100000 in
theorem Cells.slice (h : Cells W t cs) (hu : Try.prog.underlying t = some (.slice e)) : ∃ a len cap, cs = [.slice a len cap] ∧
    ((a = none ∧ len = 0 ∧ cap = 0) ∨ ∃ x, a = some x ∧ len ≤ cap ∧ cap ≤ maxLen ∧ ∀ i, i < cap → ∃ es, W.cells? 0 (x.add (i * Try.prog.cellsOf e)) (Try.prog.cellsOf e) = some es ∧ Cells W e es) := by
  obtain ⟨H, enc, fuel, x, hx⟩ := h
  rcases Go.Deep.open_slice hu hx with ⟨rfl, rfl⟩ | ⟨a, len, cap, m, n, D, Pl, rfl, _, h1, h2, rfl, rfl, h3⟩
  · exact ⟨_, _, _, rfl, .inl ⟨rfl, rfl, rfl⟩⟩
  · refine ⟨_, _, _, rfl, .inr ⟨a, rfl, h1, h2, fun i hi => ?_⟩⟩
    obtain ⟨es, g1, g2⟩ := h3 i (by simpa using hi)
    exact ⟨es, g1, H, enc, n, _, g2⟩
set_option maxRecDepth 100000 in
theorem Cells.struct {fs : Array Field} (h : Cells W t cs) (hu : Try.prog.underlying t = some (.struct fs)) : cs.length = Try.prog.cellsOf t ∧
    ∀ (j : Nat) f, fs[j]? = some f → Cells W f.type ((cs.drop f.offset).take (Try.prog.cellsOf f.type)) := by
  obtain ⟨H, enc, fuel, x, hx⟩ := h
  obtain ⟨xs, n, _, rfl, hl, hlen, hf⟩ := DataW.trod_struct hu hx
  refine ⟨hl, fun j f hj => ?_⟩
  have h1 := hf j f hj
  have h2 : j < xs.length := by
    rw [hlen]
    exact (Array.getElem?_eq_some_iff.1 hj).1
  rw [List.getElem?_eq_getElem h2] at h1
  exact ⟨H, enc, n, _, h1⟩
set_option maxRecDepth 100000 in
theorem Cells.array {n : Nat} (h : Cells W t cs) (hu : Try.prog.underlying t = some (.array n e)) : cs.length = Try.prog.cellsOf t ∧
    ∀ i, i < n → Cells W e ((cs.drop (i * Try.prog.cellsOf e)).take (Try.prog.cellsOf e)) := by
  obtain ⟨H, enc, fuel, x, hx⟩ := h
  obtain ⟨xs, m, _, rfl, hl, hlen, hf⟩ := DataW.trod_array hu hx
  refine ⟨hl, fun j hj => ?_⟩
  have h1 := hf j hj
  rw [List.getElem?_eq_getElem (by omega)] at h1
  exact ⟨H, enc, m, _, h1⟩

set_option maxRecDepth 100000 in
theorem Arg.int {k : IntKind} (h : Arg W t v) (hu : Try.prog.underlying t = some (.int k)) : ∃ n, v = .int k n ∧ (Lit.int k n).wf = true := by
  obtain ⟨⟨base, ho⟩, hc⟩ := h
  obtain ⟨n, rfl⟩ := okWide_int hu ho
  obtain ⟨m, e1, wm⟩ := hc.int hu
  simp [Value.cells] at e1
  subst e1
  exact ⟨_, rfl, wm⟩
set_option maxRecDepth 100000 in
theorem Arg.slice (h : Arg W t v) (hu : Try.prog.underlying t = some (.slice e)) : ∃ a len cap, v = .slice a len cap ∧
    ((a = none ∧ len = 0 ∧ cap = 0) ∨ ∃ x, a = some x ∧ len ≤ cap ∧ cap ≤ maxLen ∧ ∀ i, i < cap → ∃ es, W.cells? 0 (x.add (i * Try.prog.cellsOf e)) (Try.prog.cellsOf e) = some es ∧ Cells W e es) := by
  obtain ⟨⟨base, ho⟩, hc⟩ := h
  obtain ⟨a, len, cap, rfl⟩ := okWide_slice hu ho
  obtain ⟨a', len', cap', e1, r⟩ := hc.slice hu
  simp [Value.cells] at e1
  obtain ⟨rfl, rfl, rfl⟩ := e1
  exact ⟨_, _, _, rfl, r⟩
set_option maxRecDepth 100000 in
theorem Arg.agg (h : Arg W t v) (hu : (∃ fs, Try.prog.underlying t = some (.struct fs)) ∨ ∃ n e, Try.prog.underlying t = some (.array n e)) : ∃ cs : List Value, v = .agg cs.toArray ∧ cs.length = Try.prog.cellsOf t ∧ Cells W t cs := by
  obtain ⟨⟨base, ho⟩, hc⟩ := h
  have : ∃ cs : Array Value, v = .agg cs ∧ cs.size = Try.prog.cellsOf t := by
    rcases hu with ⟨fs, hu⟩ | ⟨n, e, hu⟩
    · exact okWide_struct hu ho
    · simp only [Value.okWide, hu] at ho
      obtain ⟨cs, h1, h2, _⟩ := ho
      exact ⟨cs, h1, h2⟩
  obtain ⟨⟨cs⟩, rfl, hs⟩ := this
  exact ⟨cs, rfl, by simpa using hs, by simpa [Value.cells] using hc⟩
end

/-- One cell, read. -/
theorem cells_one {W : World} {x : Addr} {es : List Value} (h : W.cells? 0 x 1 = some es) : ∃ v, es = [v] ∧ W.cell? x = some v := by
  unfold World.cells? at h
  rw [if_pos (Nat.zero_le _)] at h
  simp only [List.range_one, List.mapM_cons, List.mapM_nil] at h
  have e : x.add 0 = x := by simp [Addr.add]
  rw [e] at h
  cases hc : W.cell? x with
  | none => rw [hc] at h; cases h
  | some v => rw [hc] at h; exact ⟨v, by simpa using h.symm, rfl⟩

/-- Several cells, read. -/
theorem cells_many {W : World} {x : Addr} {n : Nat} {es : List Value} (h : W.cells? 0 x n = some es) : es.length = n ∧ ∀ i, i < n → ∃ v, es[i]? = some v ∧ W.cell? (x.add i) = some v := by
  unfold World.cells? at h
  rw [if_pos (Nat.zero_le _)] at h
  have hl : es.length = n := by simpa using mapM_some_length h
  refine ⟨hl, fun i hi => ?_⟩
  have := mapM_some_get h i i (by simp [hi])
  rw [List.getElem?_eq_getElem (by omega)] at this
  exact ⟨es[i], by rw [List.getElem?_eq_getElem (by omega)], this⟩

theorem cell_plain {W : World} {x : Addr} {v : Value} (h : W.cell? x = some v) : ∃ b off, x = ⟨b, off, none⟩ ∧ b < W.heap.size := by
  obtain ⟨b, off, spot⟩ := x
  have : spot = none := World.cell?_spot h
  subst this
  obtain ⟨o, ho, _⟩ := cells_of_cell h
  exact ⟨b, off, rfl, (Array.getElem?_eq_some_iff.1 ho).1⟩

theorem add_plain (b off j : Nat) : (⟨b, off, none⟩ : Addr).add j = ⟨b, off + j, none⟩ := by unfold Addr.add; split <;> simp_all
end Go.Proofs.Ytfihpljgbghogaa

/- Slices of integers among the arguments; small arrays. -/
namespace Go.Proofs.Ytfihpljgbghogaa
open Go.ChangeShapes Go.WideShapes Go.ChangeAt Go.RowKit
set_option linter.unusedVariables false

set_option maxRecDepth 100000 in
theorem sl_of_cells {k : IntKind} {W : World} {e : TypeId} {a : Option Addr} {len cap : Nat} (he : Try.prog.underlying e = some (.int k)) (hc : Try.prog.cellsOf e = 1)
    (h : (a = none ∧ len = 0 ∧ cap = 0) ∨ ∃ x, a = some x ∧ len ≤ cap ∧ cap ≤ maxLen ∧ ∀ i, i < cap → ∃ es, W.cells? 0 (x.add (i * Try.prog.cellsOf e)) (Try.prog.cellsOf e) = some es ∧ Cells W e es) :
    ∃ xs : List Int, xs.length = len ∧ len ≤ maxLen ∧ Sl k W (.slice a len cap) xs ∧ ∀ n ∈ xs, (Lit.int k n).wf = true := by
  rcases h with ⟨rfl, rfl, rfl⟩ | ⟨x, rfl, h1, h2, h3⟩
  · exact ⟨[], rfl, Nat.zero_le _, Sl.nil _ _, fun n hn => by cases hn⟩
  · rw [hc] at h3
    have h4 : ∀ i, i < cap → ∃ n, W.cell? (x.add i) = some (.int k n) ∧ (Lit.int k n).wf = true := by
      intro i hi
      obtain ⟨es, g1, g2⟩ := h3 i hi
      rw [Nat.mul_one] at g1
      obtain ⟨v, rfl, hv⟩ := cells_one g1
      obtain ⟨n, e1, wn⟩ := g2.int he
      simp at e1
      subst e1
      exact ⟨n, hv, wn⟩
    have h5 : ∀ i, ∃ n, i < cap → W.cell? (x.add i) = some (.int k n) ∧ (Lit.int k n).wf = true := fun i => by
      by_cases hi : i < cap
      · obtain ⟨n, hn⟩ := h4 i hi; exact ⟨n, fun _ => hn⟩
      · exact ⟨0, fun h => absurd h hi⟩
    obtain ⟨f, hf⟩ := Classical.axiomOfChoice h5
    refine ⟨(List.range len).map f, by simp, by omega, ?_, ?_⟩
    · refine ⟨some x, cap, by simp, by simp; omega, h2, ?_, fun e => by cases e⟩
      by_cases h0 : len = 0
      · subst h0; exact .inl rfl
      · obtain ⟨hc0, _⟩ := hf 0 (by omega)
        have e0 : x.add 0 = x := by simp [Addr.add]
        rw [e0] at hc0
        obtain ⟨b, off, rfl, hb⟩ := cell_plain hc0
        refine .inr ⟨b, off, rfl, hb, fun j hj => ?_⟩
        simp at hj
        have := (hf j (by omega)).1
        rw [add_plain] at this
        rw [this]
        simp [hj]
    · intro n hn
      obtain ⟨i, hi, rfl⟩ := List.mem_map.1 hn
      exact (hf i (by have := List.mem_range.1 hi; omega)).2

section
variable {W : World} {t e : TypeId} {v : Value} {k : IntKind}
set_option maxRecDepth 100000 in
theorem Arg.sl (h : Arg W t v) (hu : Try.prog.underlying t = some (.slice e)) (he : Try.prog.underlying e = some (.int k)) (hc : Try.prog.cellsOf e = 1) :
    ∃ a len cap, ∃ xs : List Int, v = .slice a len cap ∧ xs.length = len ∧ len ≤ maxLen ∧ Sl k W (.slice a len cap) xs ∧ ∀ n ∈ xs, (Lit.int k n).wf = true := by
  obtain ⟨a, len, cap, rfl, r⟩ := h.slice hu
  obtain ⟨xs, r⟩ := sl_of_cells he hc r
  exact ⟨a, len, cap, xs, rfl, r⟩
set_option maxRecDepth 100000 in
theorem Cells.sl {cs : List Value} (h : Cells W t cs) (hu : Try.prog.underlying t = some (.slice e)) (he : Try.prog.underlying e = some (.int k)) (hc : Try.prog.cellsOf e = 1) :
    ∃ a len cap, ∃ xs : List Int, cs = [.slice a len cap] ∧ xs.length = len ∧ len ≤ maxLen ∧ Sl k W (.slice a len cap) xs ∧ ∀ n ∈ xs, (Lit.int k n).wf = true := by
  obtain ⟨a, len, cap, rfl, r⟩ := h.slice hu
  obtain ⟨xs, r⟩ := sl_of_cells he hc r
  exact ⟨a, len, cap, xs, rfl, r⟩
set_option maxRecDepth 100000 in
theorem Arg.bytes (h : Arg W t v) (hu : Try.prog.underlying t = some (.slice e)) (he : Try.prog.underlying e = some (.int .u8)) (hc : Try.prog.cellsOf e = 1) :
    ∃ a len cap, ∃ xs : List Int, v = .slice a len cap ∧ xs.length = len ∧ len ≤ maxLen ∧ Sl .u8 W (.slice a len cap) xs ∧ IsBytes xs := by
  obtain ⟨a, len, cap, xs, rfl, h1, h2, h3, h4⟩ := h.sl hu he hc
  exact ⟨a, len, cap, xs, rfl, h1, h2, h3, fun j => by have := range_u8 h4 j; omega⟩
set_option maxRecDepth 100000 in
theorem Cells.bytes {cs : List Value} (h : Cells W t cs) (hu : Try.prog.underlying t = some (.slice e)) (he : Try.prog.underlying e = some (.int .u8)) (hc : Try.prog.cellsOf e = 1) :
    ∃ a len cap, ∃ xs : List Int, cs = [.slice a len cap] ∧ xs.length = len ∧ len ≤ maxLen ∧ Sl .u8 W (.slice a len cap) xs ∧ IsBytes xs := by
  obtain ⟨a, len, cap, xs, rfl, h1, h2, h3, h4⟩ := h.sl hu he hc
  exact ⟨a, len, cap, xs, rfl, h1, h2, h3, fun j => by have := range_u8 h4 j; omega⟩
set_option maxRecDepth 100000 in
/-- An array of two integers. -/
theorem Arg.two (h : Arg W t v) (hu : Try.prog.underlying t = some (.array 2 e)) (he : Try.prog.underlying e = some (.int k)) (hc : Try.prog.cellsOf e = 1) (hs : Try.prog.cellsOf t = 2) :
    ∃ a b, v = .agg #[.int k a, .int k b] ∧ (Lit.int k a).wf = true ∧ (Lit.int k b).wf = true := by
  obtain ⟨cs, rfl, hl, hcs⟩ := h.agg (.inr ⟨_, _, hu⟩)
  obtain ⟨_, hj⟩ := hcs.array hu
  rw [hs] at hl
  rw [hc] at hj
  match cs, hl with
  | [x, y], _ =>
    obtain ⟨a, e1, wa⟩ := (hj 0 (by omega)).int he
    obtain ⟨b, e2, wb⟩ := (hj 1 (by omega)).int he
    simp at e1 e2
    subst e1 e2
    exact ⟨a, b, rfl, wa, wb⟩
end
end Go.Proofs.Ytfihpljgbghogaa

/- A range over a function whose iterator reads, between two rounds, what the body itself writes: the iterator's contract rests on the caller's own invariant. No program is named. -/
namespace Go.Proofs.Ytfihpljgbghogaa
open Go.RowKit
set_option linter.unusedVariables false

variable {F : Fence} {n : Nat} {P : Program}

/-- The record of a loop at rest, and the block of its rounds' deferred calls. -/
structure Books (W : World) (B : Nat) (r : Loop) : Prop where
  loop : W.heap[B + 1]? = some (.loop r)
  defers : W.heap[B]? = some (.deferred (some []))

theorem Books.lt {W : World} {B : Nat} {r : Loop} (h : Books W B r) : B + 1 < W.heap.size := (Array.getElem?_eq_some_iff.1 h.loop).1

theorem Books.put {W : World} {B : Nat} {r : Loop} (h : Books W B r) (r' : Loop) : Books (W.putObj (B + 1) (.loop r')) B r' :=
  ⟨World.putObj_heap_same h.lt, (World.putObj_heap_other (by omega)).trans h.defers⟩

theorem Books.from {W W' : World} {B : Nat} {r : Loop} (h : Books W B r) (hk : KeepsFrom B W W') : Books W' B r :=
  ⟨hk.same _ _ (by omega) h.loop rfl, hk.same _ _ (Nat.le_refl _) h.defers rfl⟩

theorem Books.kept {W W' : World} {B : Nat} {r : Loop} {row : Option Nat} (h : Books W B r) (hg : W.grownBy W' row) (hr : ∀ k, row = some k → ∃ o : Obj, W.heap[k]? = some o ∧ o.isWalk = true) : Books W' B r :=
  ⟨(grownBy_keeps hg hr h.loop rfl).trans h.loop, (grownBy_keeps hg hr h.defers rfl).trans h.defers⟩

end Go.Proofs.Ytfihpljgbghogaa

/- Slices of bytes in memory: read, copied, cut, appended, made a string of. -/
namespace Go.Proofs.Ytfihpljgbghogaa
open Go.RowKit Go.Shelf
set_option linter.unusedVariables false

set_option maxRecDepth 100000 in
theorem info_u8 : (Try.prog.info? 5).map (fun i => (i.zero, i.size, i.bytes)) = some (some (.int .u8 0), 1, 1) := by kernel_rfl

set_option maxRecDepth 100000 in
theorem size_u8 : (Try.prog.info? 5).map (·.size) = some 1 := by kernel_rfl

/-- Where the bytes of a slice value lie. -/
def Lies (w : World) (a : Option Addr) (len : Nat) (bs : List Int) : Prop :=
  len = 0 ∨ ∃ b off, a = some ⟨b, off, none⟩ ∧ b < w.heap.size ∧ ∀ j, j < len → w.cell? ⟨b, off + j, none⟩ = some (.int .u8 (bs[j]?.getD 0))

/-- What a copy of bytes into a new row of as many asks. -/
theorem copy_facts {w w1 : World} {a : Option Addr} {len e : Nat} {bs : List Int} (HL : Hid (bs.length = len)) (hA : Hid (Lies w a len bs))
    (hown1 : w1.ownsRow w.heap.size e 1 (.slice (some ⟨w.heap.size, 0, none⟩) len len) len (madeCells (Value.int .u8 0).cells (len * 1)).toList) (hgrow1 : w.grownBy w1 none) :
    Hid (Below w.heap.size w w1) ∧ Hid (w1.heap[w.heap.size]? = some (.cells (List.replicate len (Value.int .u8 0)).toArray e (0, 0))) ∧
    Hid (0 < (bs.map (Value.int .u8)).length → some (⟨w.heap.size, 0, none⟩ : Addr) = some ⟨w.heap.size, 0, none⟩ ∧ ∃ ad, a = some ad ∧ ∀ j v, (bs.map (Value.int .u8))[j]? = some v → w1.cell? (ad.add j) = some v) := by
  have hB1 : Below w.heap.size w w1 := (Below.refl _ w).grown hgrow1 (Nat.le_refl _) (fun k e => by cases e)
  refine ⟨hB1, ?_, ?_⟩
  · rw [show (Value.int .u8 0).cells = #[.int .u8 0] from rfl, toList_madeCells_one, Nat.mul_one] at hown1
    exact ownsRow_row hown1
  · intro h0
    rw [List.length_map, HL.out] at h0
    rcases hA.out with h | ⟨b, off, e, hb, hc⟩
    · omega
    · refine ⟨rfl, _, e, fun j v hj => ?_⟩
      have hjl : j < len := by
        have := (List.getElem?_eq_some_iff.1 hj).1
        rwa [List.length_map, HL.out] at this
      have hplain : (⟨b, off, none⟩ : Addr).add j = ⟨b, off + j, none⟩ := by unfold Addr.add; split <;> simp_all
      rw [hplain, hB1.cell (p := ⟨b, off + j, none⟩) hb, hc j hjl]
      rw [List.getElem?_map, List.getElem?_eq_getElem (by rw [HL.out]; exact hjl)] at hj
      rw [List.getElem?_eq_getElem (by rw [HL.out]; exact hjl)]
      exact hj

theorem copy_len {len : Nat} {bs : List Int} (HL : Hid (bs.length = len)) : Hid ((bs.map (Value.int .u8)).length = Nat.min len len) := by
  show _ = _
  rw [List.length_map, HL.out]; exact (Nat.min_self _).symm

theorem copy_one {bs : List Int} : Hid (∀ v ∈ bs.map (Value.int .u8), v.oneCell' = true) := by
  intro v hv
  obtain ⟨x, _, rfl⟩ := List.mem_map.1 hv
  rfl

theorem Lies.of_sl {w : World} {v : Value} {bs : List Int} (h : Sl .u8 w v bs) : ∃ a cap, v = .slice a bs.length cap ∧ Lies w a bs.length bs ∧ bs.length ≤ maxLen := by
  obtain ⟨a, cap, rfl, h1, h2, h, _⟩ := h
  refine ⟨a, cap, rfl, ?_, Nat.le_trans h1 h2⟩
  rcases h with rfl | h
  · exact .inl rfl
  · exact .inr h

theorem drop_get (bs : List Int) (k j : Nat) : (bs.drop k)[j]?.getD 0 = bs[k + j]?.getD 0 := by rw [List.getElem?_drop]

theorem take_get (bs : List Int) (k j : Nat) (h : j < k) : (bs.take k)[j]?.getD 0 = bs[j]?.getD 0 := by rw [List.getElem?_take, if_pos h]

theorem grown_below {w w' : World} (h : Below w.heap.size w w') (row : Option Nat) : w.grownBy w' row := ⟨h.os, h.tape, h.output, h.size, fun k hk _ => h.block k hk⟩

theorem grown_trans {a b c : World} {row : Option Nat} (h : a.grownBy b row) (k : b.grownBy c row) : a.grownBy c row :=
  ⟨k.os.trans h.os, k.tape.trans h.tape, k.output.trans h.output, Nat.le_trans h.size k.size, fun i hi hn => (k.block i (Nat.lt_of_lt_of_le hi h.size) hn).trans (h.block i hi hn)⟩

theorem IsBytes.take {bs : List Int} (h : IsBytes bs) (k : Nat) : IsBytes (bs.take k) := by
  intro j
  by_cases hj : j < k
  · rw [take_get bs k j hj]; exact h j
  · rw [List.getElem?_eq_none (by simp; omega)]; simp

theorem IsBytes.drop {bs : List Int} (h : IsBytes bs) (k : Nat) : IsBytes (bs.drop k) := by
  intro j
  rw [drop_get]; exact h _

/-- What a slice owns it leads to. -/
theorem Sl.of_owns {w : World} {base : Nat} {v : Value} {bs : List Int} (h : w.ownsRow base 5 1 v bs.length (bs.map (Value.int .u8))) : Sl .u8 w v bs := by
  rcases h.2 with ⟨rfl, h0⟩ | ⟨g, cap, cur, rfl, _, hg, h1, h2, h3, h4⟩
  · obtain rfl := List.eq_nil_of_length_eq_zero h0
    exact Sl.nil _ _
  · refine Sl.at (off := 0) h1 h2 (Array.getElem?_eq_some_iff.1 hg).1 fun j hj => ?_
    rw [cell_of_row _ _ _ _ _ _ hg]
    have e : (cur.toList.take (bs.length * 1))[0 + j]? = (bs.map (Value.int .u8))[0 + j]? := by rw [h4]
    rw [List.getElem?_take, if_pos (by omega)] at e
    rw [← Array.getElem?_toList, e]
    simp [hj]

theorem sl_new {W : World} {g : Nat} {xs : List Int} (h : W.heap[g]? = some (.cells (xs.map (Value.int .u8)).toArray 5 (0, 0))) (hm : xs.length ≤ maxLen) :
    Sl .u8 W (.slice (some ⟨g, 0, none⟩) xs.length xs.length) xs := by
  refine Sl.at (off := 0) (Nat.le_refl _) hm (Array.getElem?_eq_some_iff.1 h).1 fun j hj => ?_
  rw [cell_of_row _ _ _ _ _ _ h]
  simp [hj]

set_option maxRecDepth 100000 in
theorem conv_sl {w : World} {v : Value} {xs : List Int} (h : Sl .u8 w v xs) : (convert 22 9 v).run Try.prog w = .ok (.string (strOfNums xs)) w := by
  obtain ⟨a, cap, rfl, h1, h2, h, _⟩ := h
  rcases h with rfl | ⟨b, off, rfl, h3, h4⟩
  · cases a with
    | none => exact run_convert_bytes_nil w 22 5 Try.underlying22 Try.underlying5 0 cap 9 Try.underlying9
    | some x =>
      rw [run_convert_bytes_string w 22 9 5 _ _ cap Try.underlying22 Try.underlying5 Try.underlying9, run_bytesToString w x _ cap [] (by have := run_loadCells_list (P := Try.prog) w x [] (fun j v hj => by simp at hj); simpa using this)]
      rfl
  · exact run_convert_bytes_arg w 22 5 Try.underlying22 Try.underlying5 b off _ cap xs rfl (fun i hi => by rw [List.getD_eq_getElem?_getD]; exact h4 i hi) 9 Try.underlying9

set_option maxRecDepth 100000 in
/-- Bytes of whatever slice appended to a row of one's own. -/
theorem run_append_bytes (base : Nat) (w : World) (v : Value) (xs : List Int) (hown : w.ownsRow base 5 1 v xs.length (xs.map (Value.int .u8))) (x : Value) (bs : List Int) (hx : Sl .u8 w x bs)
    (hlen : xs.length + bs.length ≤ 140737488355328) (hbase : base ≤ w.heap.size) :
    ∃ v' w', (Builtin.append_ #[22, 22] 22 #[v, x]).run Try.prog w = .ok v' w' ∧ w'.ownsRow base 5 1 v' (xs ++ bs).length ((xs ++ bs).map (Value.int .u8)) ∧ w.grownBy w' v.ownBlock := by
  obtain ⟨i0, hi, hz0, hz1, hz2⟩ := info_parts info_u8
  obtain ⟨a, cap, rfl, h1, h2, h, hnil⟩ := hx
  have hap : ∀ ad, a = some ad → (∀ j u, (bs.map (Value.int .u8))[j]? = some u → w.cell? (ad.add j) = some u) → ∃ v' w', (Builtin.append_ #[22, 22] 22 #[v, .slice a bs.length cap]).run Try.prog w = .ok v' w' ∧ w'.ownsRow base 5 1 v' (xs ++ bs).length ((xs ++ bs).map (Value.int .u8)) ∧ w.grownBy w' v.ownBlock := by
    rintro ad rfl hc
    obtain ⟨v', w', hr, ho, hg, _⟩ := run_append_own (P := Try.prog) w base 22 22 5 i0 (.int .u8 0) 1 1 Try.underlying22 hi hz0 hz1 hz2 rfl (by decide) v xs.length _ hown ad bs.length cap (bs.map (Value.int .u8)) (by simp) hc
      (fun u hu => by obtain ⟨y, _, rfl⟩ := List.mem_map.1 hu; rfl) (by unfold maxLen; omega) (by omega) hbase
    exact ⟨v', w', hr, by rw [List.length_append, List.map_append]; exact ho, hg⟩
  rcases h with rfl | ⟨b, off, rfl, h3, h4⟩
  · cases a with
    | some ad => exact hap ad rfl (fun j u hj => by simp at hj)
    | none =>
      obtain rfl := hnil rfl
      exact ⟨v, w, run_append_owned_none (P := Try.prog) (w := w) base 22 22 5 i0 1 Try.underlying22 hi v xs.length _ hown, by simpa using hown, World.grownBy.refl _ _⟩
  · refine hap _ rfl fun j u hj => ?_
    have hjl : j < bs.length := by
      have := (List.getElem?_eq_some_iff.1 hj).1
      rwa [List.length_map] at this
    have hplain : (⟨b, off, none⟩ : Addr).add j = ⟨b, off + j, none⟩ := by unfold Addr.add; split <;> simp_all
    rw [hplain, h4 j hjl]
    rw [List.getElem?_map, List.getElem?_eq_getElem hjl] at hj
    rw [List.getElem?_eq_getElem hjl]
    exact hj

set_option maxRecDepth 100000 in
/-- A copy by append to an empty literal. -/
theorem copy_lit (w : World) (x : Value) (bs : List Int) (hx : Sl .u8 w x bs) (hlen : bs.length ≤ 140737488355328) :
    ∃ v' w', Hid ((Builtin.append_ #[22, 22] 22 #[.slice (some ⟨w.heap.size, 0, none⟩) 0 0, x]).run Try.prog (w.alloc (.cells #[] 5)) = .ok v' w') ∧ Hid (w'.ownsRow w.heap.size 5 1 v' bs.length (bs.map (Value.int .u8))) ∧ Hid (Below w.heap.size w w') := by
  have ho0 : (w.alloc (.cells #[] 5)).ownsRow w.heap.size 5 1 (.slice (some ⟨w.heap.size, 0, none⟩) 0 0) ([] : List Int).length (([] : List Int).map (Value.int .u8)) := World.ownsRow_lit w #[] 0 (Nat.le_refl _) (by unfold maxLen; omega) rfl
  obtain ⟨v3, w3, hrun, ho3, hg3⟩ := run_append_bytes w.heap.size (w.alloc (.cells #[] 5)) _ [] ho0 x bs (hx.below ((Below.refl _ _).alloc (Nat.le_refl _) _)) (by simp; omega) (by simp)
  have hgB : Below w.heap.size w w3 := ((Below.refl _ _).alloc (Nat.le_refl _) _).grown hg3 (by simp) (fun k e => by simp [Value.ownBlock] at e; omega)
  exact ⟨v3, w3, hrun, Lib.hid (by simpa using ho3), hgB⟩

set_option maxRecDepth 100000 in
theorem elem_bytes : Try.prog.underlying 22 = some (.slice (Try.prog.elem 22)) := by kernel_rfl

set_option maxRecDepth 100000 in
theorem sizeOf_byte (W : World) : (sizeOf (Try.prog.elem 22)).run Try.prog W = .ok 1 W := by kernel_rfl

theorem add_none (ra : Option Addr) : (ra.map fun x => x.add 0) = ra := by cases ra <;> simp [Addr.add]

set_option maxRecDepth 100000 in
/-- The first K bytes of a slice. -/
theorem sl_hi {ra : Option Addr} {R rc K : Nat} {rest : List Int} {w0 : World} (h : Sl .u8 w0 (.slice ra R rc) rest) (hK : K ≤ R) :
    (∀ W : World, (Instr.sliceAt 22 (.slice ra R rc) none (some (.int .i64 (K : Int))) none).run Try.prog W = .ok (.slice ra K rc) W) ∧ ∀ W : World, Sl .u8 W (.slice ra R rc) rest → Sl .u8 W (.slice ra K rc) (rest.take K) := by
  obtain ⟨a, cap, e, h1, h2, _, h4⟩ := h
  simp only [Value.slice.injEq] at e
  obtain ⟨rfl, rfl, rfl⟩ := e
  refine ⟨fun W => ?_, fun W hW => ?_⟩
  · rw [run_sliceAt_slice (h := elem_bytes), run_slice_h (ht := elem_bytes) (kh := .i64) (h0 := by omega) (h2 := by omega), sizeOf_byte]
    simp only [Result.andThen, sliced, Int.toNat_natCast, Nat.zero_mul, add_none, ite_self, Nat.sub_zero]
  · obtain ⟨a, cap, e, h1, h2, h3, h4⟩ := hW
    simp only [Value.slice.injEq] at e
    obtain ⟨rfl, _, rfl⟩ := e
    have htl : (rest.take K).length = K := by rw [List.length_take]; omega
    refine ⟨ra, rc, by rw [htl], by omega, h2, ?_, h4⟩
    rcases h3 with rfl | ⟨b, off, e, h5, h6⟩
    · exact .inl (by simp)
    · exact .inr ⟨b, off, e, h5, fun j hj => by rw [htl] at hj; rw [take_get _ _ _ hj]; exact h6 j (by omega)⟩

set_option maxRecDepth 100000 in
/-- .. and all behind them. -/
theorem sl_lo {ra : Option Addr} {R rc K : Nat} {rest : List Int} {w0 : World} (h : Sl .u8 w0 (.slice ra R rc) rest) (hK : K ≤ R) :
    ∃ ra', (∀ W : World, (Instr.sliceAt 22 (.slice ra R rc) (some (.int .i64 (K : Int))) none none).run Try.prog W = .ok (.slice ra' (R - K) (rc - K)) W) ∧ ∀ W : World, Sl .u8 W (.slice ra R rc) rest → Sl .u8 W (.slice ra' (R - K) (rc - K)) (rest.drop K) := by
  obtain ⟨a, cap, e, h1, h2, _, h4⟩ := h
  simp only [Value.slice.injEq] at e
  obtain ⟨rfl, rfl, rfl⟩ := e
  refine ⟨if rc = K then ra else ra.map fun x => x.add K, fun W => ?_, fun W hW => ?_⟩
  · rw [run_sliceAt_slice (h := elem_bytes), run_slice_l (ht := elem_bytes) (kl := .i64) (h0 := by omega) (h1 := by omega), sizeOf_byte]
    simp only [Result.andThen, sliced, Int.toNat_natCast, Nat.mul_one]
  · obtain ⟨a, cap, e, h1, h2, h3, h4⟩ := hW
    simp only [Value.slice.injEq] at e
    obtain ⟨rfl, _, rfl⟩ := e
    refine ⟨_, rc - K, by rw [List.length_drop], by rw [List.length_drop]; omega, by omega, ?_, ?_⟩
    · by_cases h0 : rest.length = K
      · exact .inl (List.drop_of_length_le (by omega))
      · rcases h3 with rfl | ⟨b, off, rfl, h5, h6⟩
        · exact .inl (by simp)
        · refine .inr ⟨b, off + K, ?_, h5, fun j hj => ?_⟩
          · rw [if_neg (by omega)]
            show some _ = _
            congr 1
            unfold Addr.add
            split <;> simp_all
          · rw [List.length_drop] at hj
            rw [drop_get, Nat.add_assoc]
            exact h6 (K + j) (by omega)
    · intro e
      split at e
      · omega
      · have := h4 (by simpa using e); omega


/-- All behind the first K bytes, as the walk spells it. -/
theorem sl_lo_at {ra : Option Addr} {R rc K : Nat} {rest : List Int} {W : World} (hW : Sl .u8 W (.slice ra R rc) rest) (hK : K ≤ R) :
    Sl .u8 W (.slice (if rc = K then ra else ra.map fun x => x.add K) (R - K) (rc - K)) (rest.drop K) := by
  obtain ⟨a, cap, e, h1, h2, h3, h4⟩ := hW
  simp only [Value.slice.injEq] at e
  obtain ⟨rfl, rfl, rfl⟩ := e
  refine ⟨_, rc - K, by rw [List.length_drop], by rw [List.length_drop]; omega, by omega, ?_, ?_⟩
  · by_cases h0 : rest.length = K
    · exact .inl (List.drop_of_length_le (by omega))
    · rcases h3 with rfl | ⟨b, off, rfl, h5, h6⟩
      · exact .inl (by simp)
      · refine .inr ⟨b, off + K, ?_, h5, fun j hj => ?_⟩
        · rw [if_neg (by omega)]
          show some _ = _
          congr 1
          unfold Addr.add
          split <;> simp_all
        · rw [List.length_drop] at hj
          rw [drop_get, Nat.add_assoc]
          exact h6 (K + j) (by omega)
  · intro e
    split at e
    · omega
    · have := h4 (by simpa using e); omega

end Go.Proofs.Ytfihpljgbghogaa

/- Rows of pairs in memory: as they come in, and of one's own; appended, cut. -/
namespace Go.Proofs.Ytfihpljgbghogaa
open Go.RowKit
set_option linter.unusedVariables false

/-! A pair as one value. -/
end Go.Proofs.Ytfihpljgbghogaa

/- A region that draws its order, whose operations read what lay and whose calls leave what lay: walked once, in the order of the text. -/
namespace Go.Proofs.Ytfihpljgbghogaa
open Go.RowKit
set_option linter.unusedVariables false

/-- A world that has what lay in W, and maybe more. -/
def Ext (W : World) : Type := {w : World // Below W.heap.size W w}
instance (W : World) : Nonempty (Ext W) := ⟨⟨W, Below.refl _ _⟩⟩

theorem region_ext {P : Program} {id : Nat} {Q : Exit → Act → World → Prop} {a : Act} {w : World} {l : List Oper} (hm : P.follows .mixedOrders = true) (hB : Region.lexB .any l.toArray = true)
    (h : wpQuiet P l.toArray (fun w' => ∃ x : Ext w, w' = x.1) (fun a' => ∀ x : Ext w, Q .normal a' x.1) l a) : (Code.region id l.toArray true).wp P Q a w := by
  refine wp_region_quiet (C := fun w' => ∃ x : Ext w, w' = x.1) hm hB ⟨⟨w.drew, (Below.refl _ w).drew⟩, rfl⟩ ?_
  have : (fun a' => ∀ w', (∃ x : Ext w, w' = x.1) → Q .normal a' w') = fun a' => ∀ x : Ext w, Q .normal a' x.1 := by
    funext a'
    exact propext ⟨fun h x => h _ ⟨x, rfl⟩, fun h w' ⟨x, e⟩ => e ▸ h x⟩
  rw [this]
  simpa using h

theorem calls_ext {P : Program} {f : FuncId} {args : Array Value} {W : World} {v : Value} (x : Ext W) (h : Calls P f args x.1 fun e w' => e = .returned v ∧ Below x.1.heap.size x.1 w') :
    Calls P f args x.1 fun e w'' => e = .returned v ∧ ∃ y : Ext W, w'' = y.1 :=
  h.mono fun e w' ⟨h1, h2⟩ => ⟨h1, ⟨w', x.2.trans (h2.mono x.2.size)⟩, rfl⟩

end Go.Proofs.Ytfihpljgbghogaa

/- The library's Clone and Insert at pairs. -/
namespace Go.Proofs.Ytfihpljgbghogaa
open Go.RowKit
set_option linter.unusedVariables false

end Go.Proofs.Ytfihpljgbghogaa

/- The small functions of the developers' bits: size, holds, bit, New, Has, With, Or; Clone. -/
namespace Go.Proofs.Ytfihpljgbghogaa
open Go.RowKit Go.Shelf
set_option linter.unusedVariables false

set_option maxRecDepth 100000 in
theorem eql_some (p : Addr) (n c : Nat) (w : World) : (binOp .eql 22 (.slice (some p) n c) (.slice none 0 0)).run Try.prog w = .ok (.bool false) w := by kernel_rfl
set_option maxRecDepth 100000 in
theorem eql_none (w : World) : (binOp .eql 22 (.slice none 0 0) (.slice none 0 0)).run Try.prog w = .ok (.bool true) w := by kernel_rfl
attribute [local go_sem] eql_some eql_none

set_option maxRecDepth 100000 in
set_option maxHeartbeats 2000000 in
/-- The library's Clone of bytes. -/
theorem bi_clone (v : Value) (bs : List Int) (w : World) (hv : Sl .u8 w v bs) (hlen : bs.length ≤ 140737488355328) : Calls Try.prog 43 #[v] w fun e w' => ∃ v', e = .returned v' ∧ w'.ownsRow w.heap.size 5 1 v' bs.length (bs.map (Value.int .u8)) ∧ Below w.heap.size w w' := by
  obtain ⟨v3, w3, HA, HO, HB⟩ := copy_lit w v bs hv hlen
  obtain ⟨a, cap, rfl, hc, hm, hl, hn⟩ := hv
  cases a with
  | none =>
    obtain rfl := hn rfl
    have hz : bs = [] := List.eq_nil_of_length_eq_zero (by omega)
    subst hz
    clear HA HO HB
    go_enter Try.func43, Try.ntmps43
    go_wp2
    go_ret
    exact ⟨_, rfl, World.ownsRow_nil _ _ _ _, Below.refl _ _⟩
  | some x =>
    clear hl hn hc hm
    go_enter Try.func43, Try.ntmps43
    go_wp2_with (at_builtin; refine wpList_append_run (.tmp 5) (.tmp 6) 22 rfl rfl _ _ _ rfl rfl HA.out ?_)
    go_ret
    exact ⟨_, rfl, HO.out, HB.out⟩

theorem own_set {w : World} {base g cap : Nat} {bs : List Int} (h : w.ownsRow base 5 1 (.slice (some ⟨g, 0, none⟩) bs.length cap) bs.length (bs.map (Value.int .u8))) (j : Nat) (x : Int) :
    (w.setCell ⟨g, j, none⟩ (.int .u8 x)).ownsRow base 5 1 (.slice (some ⟨g, 0, none⟩) (bs.set j x).length cap) (bs.set j x).length ((bs.set j x).map (Value.int .u8)) := by
  have := (h.stored j (.int .u8 x)).1
  rw [List.length_set, List.map_set]
  exact this
end Go.Proofs.Ytfihpljgbghogaa

/- Rows of snapshots in memory: as they come in, and of one's own; appended, stored. -/
namespace Go.Proofs.Ytfihpljgbghogaa
open Go.RowKit
set_option linter.unusedVariables false

/-- A snapshot's three cells. -/
abbrev SlV := Option Addr × Nat × Nat
def slV (x : SlV) : Value := .slice x.1 x.2.1 x.2.2
/-! A snapshot as one value. -/
/-! Snapshots among the arguments. -/
/-! Snapshots of one's own. -/
theorem own_weak {N M e sz n : Nat} {W : World} {v : Value} {xs : List Value} (h : W.ownsRow N e sz v n xs) (hM : M ≤ N) : W.ownsRow M e sz v n xs := by
  refine ⟨h.1, ?_⟩
  rcases h.2 with h' | ⟨g, cap, cur, e, h1, h2⟩
  · exact .inl h'
  · exact .inr ⟨g, cap, cur, e, Nat.le_trans hM h1, h2⟩
end Go.Proofs.Ytfihpljgbghogaa

/- A range over a function whose rounds are numbered: the iterator's contract rests on the caller's own invariant; the loop's variables may be boxed. No program is named. -/
namespace Go.Proofs.Ytfihpljgbghogaa
open Go.RowKit
set_option linter.unusedVariables false

variable {F : Fence} {n : Nat} {P : Program}

/-- What an iterator of m items owes to a caller whose rounds keep R. -/
def SeqNum (F : Fence) (n : Nat) (P : Program) (g : Nat) (lb : Array Value) (encs : Nat → Array Value) (R : World → Prop) (m : Nat) (w : World) : Prop :=
  ∀ (l : Nat) (J Jx : Nat → World → Prop) (W : World), Below w.heap.size w W → (∀ k W, J k W → R W) → AbidesFrom W.heap.size J → AbidesFrom W.heap.size Jx →
    (∀ k W1, k < m → J k W1 → YieldAt F (n - 1) P l (encs k) W1 fun e W' => (e = .returned (.bool true) ∧ J (k + 1) W') ∨ (e = .returned (.bool false) ∧ Jx (k + 1) W')) →
    J 0 W →
    CallsIn F n P g (#[.func (.yield l) #[] #[]] ++ lb) W fun e W' => (∃ v, e = .returned v) ∧ (J m W' ∨ (∃ k, k ≤ m ∧ Jx k W'))

/-- How a round may be left. -/
def numPost (B : Nat) (I : Nat → World → Prop) (Ix : Code → Nat → World → Prop) (k : Nat) (W : World) : Exit → Act → World → Prop
  | .normal, _, W' => KeepsFrom B W W' ∧ I k W'
  | .ret, _, W' => KeepsFrom B W W' ∧ Ix .ret k W'
  | .exit id, _, W' => KeepsFrom B W W' ∧ Ix (.exit id) k W'
  | .goto t, _, W' => KeepsFrom B W W' ∧ Ix (.goto t) k W'
  | .panic _, _, _ => False
  | .outgrown, _, _ => False

/-- **A loop over such an iterator.** -/
theorem wpIn_rangeFunc_num {g : Operand} {ps : Array Tmp} {assign body : Code} {Q : Exit → Act → World → Prop} {a : Act} {w : World}
    (hro : F.round = none) (h1 : 1 ≤ n) {gf : Nat} {lb : Array Value} (hg : a.eval g = .func (.func gf) #[] lb) (hFg : F.fn gf) (eg : ∀ args w, (callFunc gf args).run P w = .ok (.enter gf args) w)
    {encs : Nat → Array Value} {R : World → Prop} {m : Nat} {w0 : World} (hseq : SeqNum F (n - 1) P gf lb encs R m w0)
    (hb0 : Below w0.heap.size w0 w) (hps : ∀ x, (encs x).size = ps.size)
    (I : Nat → World → Prop) (Ix : Code → Nat → World → Prop) (hR : ∀ k W, I k W → R W) (hI : OwnFrom w.heap.size I) (hIx : ∀ c, OwnFrom w.heap.size (Ix c)) (h0 : I 0 w) (Ax : Nat → Act → World → Prop) (hAx : ∀ x a', OwnFrom w.heap.size (fun (_ : Unit) W => Ax x a' W))
    (hassign : ∀ (l : Nat) (k : Nat) (W : World) (K : Act → World → Prop), k < m → I k W → (∀ a' W', KeepsFrom w.heap.size W W' → I k W' → Ax k a' W' → K a' W') →
      assign.wpIn (F.inRound l) (n - 1 - 1) P (Exit.then K (fun _ _ _ => False)) { tmps := (ps.zip (encs k)).foldl (fun t (p, v) => t.setIfInBounds p v) a.tmps, defers := [] } W)
    (hbody : ∀ (l : Nat) (k : Nat) (a' : Act) (W : World), w.heap.size ≤ l → (∃ r, W.heap[l]? = some (.loop r)) → k < m → I k W → Ax k a' W → body.wpIn (F.inRound l) (n - 1 - 1) P (numPost w.heap.size I Ix (k + 1) W) a' W)
    (hdone : ∀ (D : Nat) (W : World), w.heap.size ≤ D → I m W → W.heap[D]? = some (.deferred (some [])) → Q .normal { a with defers := { target := .collected D, args := #[] } :: a.defers } W)
    (hstop : ∀ (D : Nat) (c : Code) (k : Nat) (W : World), w.heap.size ≤ D → k ≤ m → Ix c k W → W.heap[D]? = some (.deferred (some [])) → c.wpIn F n P Q { a with defers := { target := .collected D, args := #[] } :: a.defers } W) :
    (Code.rangeFunc g ps assign body).wpIn F n P Q a w := by
  refine wpIn_rangeFunc fun fn hfn => ?_
  rw [hro]
  let rc : LoopState → Option Code → Loop := fun st pe => { state := st, pending := pe, fn, tmps := a.tmps, params := ps, assign, body, defers := w.heap.size }
  obtain ⟨W1, hW1⟩ : ∃ W1, (w.alloc (.deferred (some []))).alloc (.loop (rc .ready none)) = W1 := ⟨_, rfl⟩
  have bk1 : Books W1 w.heap.size (rc .ready none) := by
    rw [← hW1]
    refine ⟨?_, (Below.heap_alloc _ _ _ (by simp)).trans (World.alloc_heap_new w _)⟩
    have := World.alloc_heap_new (w.alloc (.deferred (some []))) (.loop (rc .ready none))
    rwa [World.size_alloc] at this
  have hsz : w.heap.size ≤ W1.heap.size := by rw [← hW1]; simp; omega
  have bel : Below w0.heap.size w0 W1 := by
    rw [← hW1]; exact hb0.trans ((((Below.refl _ w).alloc (Nat.le_refl _) _).alloc (by simp) _).mono hb0.size)
  have I1 : I 0 W1 := by rw [← hW1]; exact hI.alloc _ (hI.alloc _ h0)
  have walk : ∀ {A : World} {row : Option Nat}, (∀ r, row = some r → W1.heap.size ≤ r ∧ ∃ o : Obj, A.heap[r]? = some o ∧ o.isWalk = true) →
      (∀ r, row = some r → w.heap.size ≤ r ∧ ∃ o : Obj, A.heap[r]? = some o ∧ o.isCells = false) ∧ (∀ r, row = some r → ∃ o : Obj, A.heap[r]? = some o ∧ o.isWalk = true) := fun hr =>
    ⟨fun r e => by obtain ⟨h, o, ho, hw⟩ := hr r e; exact ⟨Nat.le_trans hsz h, o, ho, Obj.not_cells_of_walk hw⟩, fun r e => (hr r e).2⟩
  refine ⟨w.heap.size + 1, _, W1, { target := .fn (.func gf) lb, args := #[.func (.yield (w.heap.size + 1)) #[] #[]] }, W1, gf, #[.func (.yield (w.heap.size + 1)) #[] #[]] ++ lb, W1,
    hW1 ▸ run_enterLoop_outer fn _ _ _ _, by simp only [resolve, hg]; simp [go_sem], fun f' hf' => by simp [Target.leads] at hf'; subst hf'; exact hFg, by simp [invoke, go_sem, eg], fun _ => h1, ?_⟩
  refine (hseq (w.heap.size + 1) (fun k W => I k W ∧ Books W w.heap.size (rc .ready none)) (fun k W => ∃ c, Ix c k W ∧ Books W w.heap.size (rc .done (some c))) W1 bel (fun _ _ h => hR _ _ h.1)
    (fun s A B row hs hgr hr => ⟨hI s A B row hs.1 hgr (walk hr).1, hs.2.kept hgr (walk hr).2⟩)
    (fun s A B row hs hgr hr => by obtain ⟨c, hc, hb⟩ := hs; exact ⟨c, hIx c s A B row hc hgr (walk hr).1, hb.kept hgr (walk hr).2⟩) ?_ ⟨I1, bk1⟩).mono ?_
  · rintro k W hkm ⟨hi, bk⟩
    have hy := run_yield (P := P) (args := encs k) bk.loop (hps k)
    refine ⟨fn, _, assign, body, hy, roundIn_of_wpIn hfn (hassign _ k W _ hkm hi ?_)⟩
    clear hy
    intro a' Wa hkf hia hax
    replace bk := bk.from hkf
    refine ⟨_, run_beginRound bk.loop rfl, ?_⟩
    have bk2 := bk.put (rc .busy none)
    refine wpIn_mono (hbody _ k a' _ (by omega) ⟨_, bk2.loop⟩ hkm (hI.putObj _ hia (by omega) bk.loop rfl) ((hAx k a').putObj (s := ()) _ hax (by omega) bk.loop rfl)) ?_
    have out : ∀ (j : Option Code) (W3 : World), KeepsFrom w.heap.size (Wa.putObj (w.heap.size + 1) (.loop (rc .busy none))) W3 → (Instr.endRound (w.heap.size + 1) j).run P W3 = .ok (.bool j.isNone) (W3.putObj (w.heap.size + 1) (.loop (rc (if j.isNone then .ready else .done) j))) ∧
        W3.heap[w.heap.size + 1]? = some (.loop (rc .busy none)) ∧ Books (W3.putObj (w.heap.size + 1) (.loop (rc (if j.isNone then .ready else .done) j))) w.heap.size (rc (if j.isNone then .ready else .done) j) := fun j W3 hk =>
      ⟨run_endRound j (bk2.from hk).loop, (bk2.from hk).loop, (bk2.from hk).put _⟩
    rintro (_ | id | t | _ | ch | _) a3 W3 hp
    · obtain ⟨hk, hi3⟩ := hp
      obtain ⟨h2, h3, h4⟩ := out none W3 hk
      exact ⟨_, _, h2, .inl ⟨rfl, hI.putObj _ hi3 (by omega) h3 rfl, h4⟩⟩
    · obtain ⟨hk, hi3⟩ := hp
      obtain ⟨h2, h3, h4⟩ := out (some (.exit id)) W3 hk
      exact ⟨_, _, h2, .inr ⟨rfl, _, (hIx _).putObj _ hi3 (by omega) h3 rfl, h4⟩⟩
    · obtain ⟨hk, hi3⟩ := hp
      obtain ⟨h2, h3, h4⟩ := out (some (.goto t)) W3 hk
      exact ⟨_, _, h2, .inr ⟨rfl, _, (hIx _).putObj _ hi3 (by omega) h3 rfl, h4⟩⟩
    · obtain ⟨hk, hi3⟩ := hp
      obtain ⟨h2, h3, h4⟩ := out (some .ret) W3 hk
      exact ⟨_, _, h2, .inr ⟨rfl, _, (hIx _).putObj _ hi3 (by omega) h3 rfl, h4⟩⟩
    · exact hp.elim
    · exact hp.elim
  · rintro e W2 ⟨⟨v, rfl⟩, ⟨hi, bk⟩ | ⟨k, hk, c, hi, bk⟩⟩
    · exact ⟨none, _, run_endLoop bk.loop (by simp [rc]), hdone _ _ (Nat.le_refl _) (hI.putObj _ hi (by omega) bk.loop rfl) (bk.put _).defers⟩
    · exact ⟨some c, _, run_endLoop bk.loop (by simp [rc]), hstop _ c k _ (Nat.le_refl _) hk ((hIx c).putObj _ hi (by omega) bk.loop rfl) (bk.put _).defers⟩
end Go.Proofs.Ytfihpljgbghogaa

/- The library's range function over the bytes of a slice has its contract: each byte comes, in order. -/
namespace Go.Proofs.Ytfihpljgbghogaa
open Go.RowKit Go.Shelf
set_option linter.unusedVariables false

attribute [local go_sem] Oper.semAt_some

theorem take_snoc_getD (bs : List Int) {k : Nat} (h : k < bs.length) : bs.take (k + 1) = bs.take k ++ [bs[k]?.getD 0] := by
  rw [List.take_succ_eq_append_getElem h, List.getElem?_eq_getElem h]
  rfl

set_option maxRecDepth 100000 in
set_option maxHeartbeats 2000000 in
theorem values1_in (F : Fence) (n : Nat) (hf : F.fn 57) (hro : F.round = none) (hn : 1 ≤ n) (l Bs n₀ len cap : Nat) (a : Option Addr) (zs : List Int) (hz : zs.length = len) (hmax : len ≤ maxLen)
    (J Jx : List Int → World → Prop)
    (hY : ∀ pre x W, J pre W → pre.length < len → YieldAt F (n - 1) Try.prog l #[.int .u8 x] W fun e W' =>
      (e = .returned (.bool true) ∧ J (pre ++ [x]) W' ∧ Below n₀ W W') ∨ (e = .returned (.bool false) ∧ Jx (pre ++ [x]) W'))
    (W : World) (hBs : W.cell? ⟨Bs, 0, none⟩ = some (.slice a len cap)) (hc : len = 0 ∨ ∃ b off, a = some ⟨b, off, none⟩ ∧ b < n₀ ∧ ∀ j, j < len → W.cell? ⟨b, off + j, none⟩ = some (.int .u8 (zs[j]?.getD 0))) (h0 : J [] W) :
    CallsIn F n Try.prog 57 #[.func (.yield l) #[] #[], .pointer (some ⟨Bs, 0, none⟩)] W fun e W' => (∃ v, e = .returned v) ∧
      ((∃ ys, ys = zs ∧ J ys W') ∨ (∃ pre, pre <+: zs ∧ Jx pre W')) := by
  have HC := Lib.hid hc
  have HM := Lib.hid hmax
  have HZ := Lib.hid hz
  clear hc hmax hz
  refine callsIn_of_wp Try.func57 rfl hf ?_ hro
  simp only [Try.ntmps57, List.size_toArray, List.length_cons, List.length_nil, Nat.reduceAdd, Nat.reduceSub, Array.replicate_succ, Array.replicate_zero, List.push_toArray, List.append_toArray, List.nil_append, List.cons_append]
  gi_wp2
  gi_loopw [7] (fun i wr => ∃ k : Nat, k ≤ len ∧ i = .int .i64 k ∧ J (zs.take k) wr ∧ Below n₀ W wr)
    (fun i _ => len - (intOf i).toNat)
  case atStart => exact ⟨0, Nat.zero_le _, rfl, by simpa using h0, Below.refl _ _⟩
  case round =>
    obtain ⟨k, hk, rfl, hJs, hnx⟩ := hrel
    by_cases hlt : k < len
    · obtain ⟨b, off, rfl, hb, hcs⟩ : ∃ b off, a = some ⟨b, off, none⟩ ∧ b < n₀ ∧ ∀ j, j < len → W.cell? ⟨b, off + j, none⟩ = some (.int .u8 (zs[j]?.getD 0)) := by
        rcases HC.out with h | h
        · omega
        · exact h
      have hcx : wr.cell? ⟨b, off + k, none⟩ = some (.int .u8 (zs[k]?.getD 0)) := (hnx.cell (p := ⟨b, off + k, none⟩) hb).trans (hcs k hlt)
      obtain ⟨fn, tmps, assign, body, hy, hR⟩ := hY _ (zs[k]?.getD 0) wr hJs (by rw [List.length_take, HZ.out]; omega)
      have hm : len ≤ 9223372036854775807 := by have := HM.out; unfold maxLen at this; omega
      clear hcs
      gi_wp2
      refine hR.mono ?_
      rintro e W3 (⟨rfl, hJ3, hk3⟩ | ⟨rfl, hJx3⟩)
      · gi_wp2
        go_roundw
        case rel => exact ⟨k + 1, by omega, by simp, by rw [take_snoc_getD zs (by rw [HZ.out]; exact hlt)]; exact hJ3, hnx.trans hk3⟩
        case measure => simp [intOf]; omega
      · gi_wp2
        refine bodyPost_ret (results_none rfl _ _ _) rfl ?_
        exact ⟨⟨_, rfl⟩, .inr ⟨_, by rw [← take_snoc_getD zs (by rw [HZ.out]; exact hlt)]; exact List.take_prefix _ _, hJx3⟩⟩
    · obtain rfl : k = len := by omega
      gi_wp2
      go_end0
      exact ⟨⟨_, rfl⟩, .inl ⟨_, rfl, by rw [← HZ.out, List.take_length] at hJs; exact hJs⟩⟩

set_option maxRecDepth 100000 in
set_option maxHeartbeats 1000000 in
/-- The slice value is boxed; the function value holds the box. -/
theorem values_in (F : Fence) (n : Nat) (hf : F.fn 54) (hro : F.round = none) (a : Option Addr) (len cap : Nat) (w : World) :
    CallsIn F n Try.prog 54 #[.slice a len cap] w fun e w' => e = .returned (.func (.func 57) #[] #[.pointer (some ⟨w.heap.size, 0, none⟩)]) ∧ w' = w.alloc (.cells #[.slice a len cap] 22) := by
  refine callsIn_of_wp Try.func54 rfl hf ?_ hro
  simp only [Try.ntmps54, List.size_toArray, List.length_cons, List.length_nil, Nat.reduceAdd, Nat.reduceSub, Array.replicate_succ, Array.replicate_zero, List.push_toArray, List.append_toArray, List.nil_append, List.cons_append]
  gi_wp2
  go_ret
  exact ⟨rfl, rfl⟩

set_option maxRecDepth 100000 in
theorem values_stops (F : Fence) (n : Nat) (hf : F.fn 57) (hro : F.round = none) (hn : 1 ≤ n) (Bs n₀ len cap : Nat) (a : Option Addr) (zs : List Int) (hz : zs.length = len) (hmax : len ≤ maxLen) (w : World) (hBs : Bs < w.heap.size) (hn₀ : n₀ ≤ w.heap.size)
    (hb : w.cell? ⟨Bs, 0, none⟩ = some (.slice a len cap)) (hc : len = 0 ∨ ∃ b off, a = some ⟨b, off, none⟩ ∧ b < n₀ ∧ ∀ j, j < len → w.cell? ⟨b, off + j, none⟩ = some (.int .u8 (zs[j]?.getD 0))) :
    SeqStopsK F n Try.prog 57 #[.pointer (some ⟨Bs, 0, none⟩)] (fun x : Int => #[Value.int .u8 x]) (Below n₀) (fun ys => ys = zs) (fun pre => pre <+: zs) len w := fun l J Jx W hW _ _ hY h0 =>
  values1_in F n hf hro hn l Bs n₀ len cap a zs hz hmax J Jx hY W ((hW.cell (p := ⟨Bs, 0, none⟩) hBs).trans hb)
    (hc.imp id fun ⟨b, off, e, h1, h2⟩ => ⟨b, off, e, h1, fun j hj => ((hW.mono hn₀).cell (p := ⟨b, off + j, none⟩) h1).trans (h2 j hj)⟩) h0
end Go.Proofs.Ytfihpljgbghogaa

/- Boxes beside a range over snapshots: what stays of them. -/
namespace Go.Proofs.Ytfihpljgbghogaa
open Go.RowKit Go.Shelf
set_option linter.unusedVariables false

theorem rowC_own {x y : World} {B N : Nat} {t : TypeId} {C : List Value} {row : Option Nat} (h : RowC x B t C) (hg : x.grownBy y row) (hr : ∀ r, row = some r → N ≤ r ∧ ∃ o : Obj, x.heap[r]? = some o ∧ o.isCells = false) : RowC y B t C :=
  (hg.block B h.lt (fun e => by
    obtain ⟨-, o, ho, hc⟩ := hr B e.symm
    rw [show x.heap[B]? = _ from h] at ho
    cases ho
    cases hc)).trans h
theorem below_own {N : Nat} {w x y : World} {row : Option Nat} (h : Below N w x) (hN : N ≤ w.heap.size) (hg : x.grownBy y row) (hr : ∀ r, row = some r → w.heap.size ≤ r ∧ ∃ o : Obj, x.heap[r]? = some o ∧ o.isCells = false) : Below N w y :=
  h.grown hg (Nat.le_trans hN h.size) (fun k e => Nat.le_trans hN (hr k e).1)
theorem keepsFrom_cells {B : Nat} {x y : World} {b : Nat} {C : List Value} {t : TypeId} (h : RowC x b t C) (hg : x.grownBy y (some b)) : KeepsFrom B x y := ⟨hg.size, fun k o hk ho hc => by
  refine (hg.block k (Array.getElem?_eq_some_iff.1 ho).1 (fun e => ?_)).trans ho
  obtain rfl : b = k := by cases e; rfl
  rw [show x.heap[b]? = _ from h] at ho
  cases ho
  cases hc⟩
theorem keepsFrom_below {B : Nat} {x y : World} (h : Below x.heap.size x y) : KeepsFrom B x y := ⟨h.size, fun k o _ ho _ => (h.block k (Array.getElem?_eq_some_iff.1 ho).1).trans ho⟩
theorem keepsFrom_trans {B : Nat} {x y z : World} (h : KeepsFrom B x y) (k : KeepsFrom B y z) : KeepsFrom B x z := ⟨Nat.le_trans h.size k.size, fun j o hj ho hc => k.same j o hj (h.same j o hj ho hc) hc⟩
theorem keepsFrom_row {B N e sz n : Nat} {x y : World} {v : Value} {xs : List Value} (h : x.ownsRow N e sz v n xs) (hg : x.grownBy y v.ownBlock) : KeepsFrom B x y := ⟨hg.size, fun k o hk ho hc => by
  refine (hg.block k (Array.getElem?_eq_some_iff.1 ho).1 (fun e => ?_)).trans ho
  rcases h.2 with ⟨rfl, _⟩ | ⟨g, cap, cur, rfl, _, hgg, _⟩
  · cases e
  · obtain rfl : g = k := by cases e; rfl
    rw [hgg] at ho
    cases ho
    cases hc⟩
theorem set_other {x : World} {B B' : Nat} {t : TypeId} {C : List Value} (h : RowC x B t C) (hne : B ≠ B') (j : Nat) (v : Value) : RowC (x.setCell ⟨B', j, none⟩ v) B t C := h.grown (grownBy_setCellJ x B' j v) (fun e => hne (by cases e; rfl))
theorem set_below {N B' : Nat} {w x : World} (h : Below N w x) (hB : N ≤ B') (j : Nat) (v : Value) : Below N w (x.setCell ⟨B', j, none⟩ v) := h.setCell (p := ⟨B', j, none⟩) hB v

theorem letsOut_num {B : Nat} {I : Nat → World → Prop} {Ix : Code → Nat → World → Prop} {k : Nat} {W : World} : ¬ LetsOut (numPost B I Ix k W) := fun ⟨a, w, e⟩ => e
theorem list_roundC {l₀ n : Nat} {P : Program} {ops : Array Oper} {Q : Exit → Act → World → Prop} (hL : ¬ LetsOut Q) : ∀ (l : List Oper) (a : Act) (w : World), (∀ o ∈ l, ∀ c, o.op ≠ .defer c) → wpList P ops Q l a w → wpListIn (Fence.wide.inRound l₀) n P ops Q l a w
  | [], _, _, _, h => h
  | o :: rest, a, w, hd, h => by
    have hd' : ∀ o ∈ rest, ∀ c, o.op ≠ .defer c := fun o ho => hd o (List.mem_cons_of_mem _ ho)
    unfold wpList at h
    unfold wpListIn
    by_cases hw : Region.wanted o (yielded ops a.tmps) = true
    · rw [if_pos hw] at h ⊢
      rcases h with h | h
      · exact op_round (hd o List.mem_cons_self) (Oper.wp_mono (fun a' w' => list_roundC hL rest a' w' hd') h)
      · exact absurd h.2 hL
    · rw [if_neg hw] at h ⊢
      exact ⟨fun _ _ => trivial, list_roundC hL rest _ _ hd' h⟩
theorem region_seq_roundC {l₀ n id : Nat} {P : Program} {l : List Oper} {Q : Exit → Act → World → Prop} {a : Act} {w : World} (hL : ¬ LetsOut Q) (hd : noDefer l.toArray = true) (h : wpList P l.toArray Q l a w) : (Code.region id l.toArray false).wpIn (Fence.wide.inRound l₀) n P Q a w :=
  wpIn_region_lit (list_roundC hL l a w (fun o ho => by
    obtain ⟨i, hi⟩ := List.getElem?_of_mem ho
    exact noDefer_spec hd (i := i) (by simpa using hi)) h)
theorem letsOut_thenC {K : Act → World → Prop} {Q : Exit → Act → World → Prop} (h : ¬ LetsOut Q) : ¬ LetsOut (Exit.then K Q) := fun ⟨a, w, e⟩ => h ⟨a, w, e⟩
theorem row_own {N e sz n M : Nat} {x y : World} {v : Value} {xs : List Value} {row : Option Nat} (h : x.ownsRow N e sz v n xs) (hg : x.grownBy y row) (hr : ∀ r, row = some r → M ≤ r ∧ ∃ o : Obj, x.heap[r]? = some o ∧ o.isCells = false) : y.ownsRow N e sz v n xs := by
  refine ⟨h.1, ?_⟩
  rcases h.2 with h' | ⟨g, cap, cur, rfl, a1, a2, a3⟩
  · exact .inl h'
  · refine .inr ⟨g, cap, cur, rfl, a1, (hg.block g (Array.getElem?_eq_some_iff.1 a2).1 (fun e => ?_)).trans a2, a3⟩
    obtain ⟨-, o, ho, hc⟩ := hr g e.symm
    rw [a2] at ho
    cases ho
    cases hc
theorem own_slV {N e sz n : Nat} {x : World} {v : Value} {xs : List Value} (h : x.ownsRow N e sz v n xs) : ∃ q : SlV, v = slV q ∧ q.2.1 = n := by
  rcases h.2 with ⟨rfl, rfl⟩ | ⟨g, cap, cur, rfl, -⟩
  · exact ⟨(none, 0, 0), rfl, rfl⟩
  · exact ⟨(_, _, _), rfl, rfl⟩
/-- A store into a box leaves rows of other elements. -/
theorem own_setB {N e sz n B : Nat} {x : World} {v : Value} {xs C : List Value} {t : TypeId} (h : x.ownsRow N e sz v n xs) (hB : RowC x B t C) (hne : e ≠ t) (j : Nat) (u : Value) : (x.setCell ⟨B, j, none⟩ u).ownsRow N e sz v n xs := h.kept (grownBy_setCellJ x B j u) (.inr (row_ne h hB hne))
set_option maxRecDepth 100000 in
theorem load_bool1 {x : World} {B : Nat} {z : Bool} (h : RowC x B 4 [.bool z]) : (loadVar 4 ⟨B, 0, none⟩).run Try.prog x = .ok (.bool z) x := by
  have c := h.cell 0 _ rfl
  simp [go_sem, c]
end Go.Proofs.Ytfihpljgbghogaa

/- Rows of records in memory: as they come in, and of one's own; streams. -/
namespace Go.Proofs.Ytfihpljgbghogaa
open Go.RowKit Go.Shelf
set_option linter.unusedVariables false

/-- A record's four cells. -/
abbrev RV := Int × Int × Bool × SlV
def rvL (q : RV) : List Value := [.int .i64 q.1, .int .i64 q.2.1, .bool q.2.2.1, slV q.2.2.2]
def rvV (q : RV) : Value := .agg #[.int .i64 q.1, .int .i64 q.2.1, .bool q.2.2.1, slV q.2.2.2]
def rvs (l : List RV) : List Value := l.flatMap rvL
theorem rvs_cons (p : RV) (l : List RV) : rvs (p :: l) = .int .i64 p.1 :: .int .i64 p.2.1 :: .bool p.2.2.1 :: slV p.2.2.2 :: rvs l := rfl
theorem rvs_append (a b : List RV) : rvs (a ++ b) = rvs a ++ rvs b := by simp [rvs]
theorem rvs_get {l : List RV} {j : Nat} {p : RV} (h : l[j]? = some p) : (rvs l)[j * 4]? = some (.int .i64 p.1) ∧ (rvs l)[j * 4 + 1]? = some (.int .i64 p.2.1) ∧ (rvs l)[j * 4 + 2]? = some (.bool p.2.2.1) ∧ (rvs l)[j * 4 + 3]? = some (slV p.2.2.2) := by
  induction l generalizing j with
  | nil => simp at h
  | cons q l ih =>
    rw [rvs_cons]
    cases j with
    | zero => simp at h; subst h; exact ⟨rfl, rfl, rfl, rfl⟩
    | succ j =>
      have := ih (j := j) (by simpa using h)
      rw [show (j + 1) * 4 = j * 4 + 1 + 1 + 1 + 1 by omega]
      simpa using this

/-- What a record's cells lead to. -/
structure RcIs (W : World) (q : RV) (s : RC) : Prop where
  fr : q.1 = s.fr
  ct : q.2.1 = s.ct
  ze : q.2.2.1 = s.ze
  da : Sl .u8 W (slV q.2.2.2) s.da
  ok : s.Ok
theorem RcIs.below {W W' : World} {q : RV} {s : RC} (h : RcIs W q s) (hB : Below W.heap.size W W') : RcIs W' q s := ⟨h.fr, h.ct, h.ze, h.da.below hB, h.ok⟩
/-- Records that lie somewhere; r: their cells. -/
def RcR (W : World) (v : Value) (r : List RV) (l : List RC) : Prop := ∃ a cap, v = .slice a l.length cap ∧ l.length ≤ cap ∧ cap ≤ maxLen ∧ (a = none → cap = 0) ∧ r.length = l.length ∧ (∀ (j : Nat) (q : RV) (s : RC), r[j]? = some q → l[j]? = some s → RcIs W q s) ∧
  (l = [] ∨ ∃ b off, a = some ⟨b, off, none⟩ ∧ b < W.heap.size ∧ ∀ j q, r[j]? = some q → W.cell? ⟨b, off + j * 4, none⟩ = some (.int .i64 q.1) ∧ W.cell? ⟨b, off + j * 4 + 1, none⟩ = some (.int .i64 q.2.1) ∧ W.cell? ⟨b, off + j * 4 + 2, none⟩ = some (.bool q.2.2.1) ∧ W.cell? ⟨b, off + j * 4 + 3, none⟩ = some (slV q.2.2.2))
def Rcs (W : World) (v : Value) (l : List RC) : Prop := ∃ r, RcR W v r l
theorem RcR.below {W W' : World} {v : Value} {r : List RV} {l : List RC} (h : RcR W v r l) (hB : Below W.heap.size W W') : RcR W' v r l := by
  obtain ⟨a, cap, rfl, h1, h2, hz, hr, hs, h4⟩ := h
  refine ⟨a, cap, rfl, h1, h2, hz, hr, fun j q s hq hl => (hs j q s hq hl).below hB, ?_⟩
  rcases h4 with h4 | ⟨b, off, rfl, h5, h6⟩
  · exact .inl h4
  · refine .inr ⟨b, off, rfl, Nat.lt_of_lt_of_le h5 hB.size, fun j p hj => ?_⟩
    obtain ⟨c1, c2, c3, c4⟩ := h6 j p hj
    exact ⟨(hB.cell (p := ⟨b, off + j * 4, none⟩) h5).trans c1, (hB.cell (p := ⟨b, off + j * 4 + 1, none⟩) h5).trans c2, (hB.cell (p := ⟨b, off + j * 4 + 2, none⟩) h5).trans c3, (hB.cell (p := ⟨b, off + j * 4 + 3, none⟩) h5).trans c4⟩
theorem RcR.nil (W : World) : RcR W (.slice none 0 0) [] [] := ⟨none, 0, rfl, Nat.le_refl _, Nat.zero_le _, (fun _ => rfl), rfl, fun j q s h => (by cases h), .inl rfl⟩
theorem Rcs.nil (W : World) : Rcs W (.slice none 0 0) [] := ⟨[], RcR.nil W⟩
theorem rcR_at {W : World} {v : Value} {r : List RV} {l : List RC} (h : RcR W v r l) {k : Nat} (hk : k < l.length) : ∃ q s, r[k]? = some q ∧ l[k]? = some s ∧ RcIs W q s := by
  obtain ⟨a, cap, rfl, h1, h2, hz, hr, hs, h4⟩ := h
  have a1 := List.getElem?_eq_getElem (l := r) (i := k) (by omega)
  have a2 := List.getElem?_eq_getElem hk
  exact ⟨_, _, a1, a2, hs k _ _ a1 a2⟩
theorem RcR.ok {W : World} {v : Value} {r : List RV} {l : List RC} (h : RcR W v r l) : ∀ s ∈ l, s.Ok := by
  intro s hm
  obtain ⟨j, hj⟩ := List.getElem?_of_mem hm
  obtain ⟨q, s', -, h2, h3⟩ := rcR_at h (List.getElem?_eq_some_iff.1 hj).1
  rw [hj] at h2; cases h2
  exact h3.ok
theorem RcR.len {W : World} {v : Value} {r : List RV} {l : List RC} (h : RcR W v r l) : ∃ a cap, v = .slice a l.length cap ∧ l.length ≤ cap ∧ cap ≤ maxLen := by
  obtain ⟨a, cap, e, h1, h2, -⟩ := h
  exact ⟨a, cap, e, h1, h2⟩
/-- One of them. -/
theorem RcR.at {W : World} {a : Option Addr} {n cap k : Nat} {r : List RV} {l : List RC} (h : RcR W (.slice a n cap) r l) {s : RC} (hk : l[k]? = some s) :
    ∃ b off q, a = some ⟨b, off, none⟩ ∧ b < W.heap.size ∧ r[k]? = some q ∧ RcIs W q s ∧ W.cell? ⟨b, off + k * 4, none⟩ = some (.int .i64 q.1) ∧ W.cell? ⟨b, off + k * 4 + 1, none⟩ = some (.int .i64 q.2.1) ∧ W.cell? ⟨b, off + k * 4 + 2, none⟩ = some (.bool q.2.2.1) ∧ W.cell? ⟨b, off + k * 4 + 3, none⟩ = some (slV q.2.2.2) := by
  obtain ⟨a', cap', e, h1, h2, hz, hr, hs, h4⟩ := h
  cases e
  rcases h4 with rfl | ⟨b, off, rfl, h5, h6⟩
  · simp at hk
  · have hkl := (List.getElem?_eq_some_iff.1 hk).1
    have hq := List.getElem?_eq_getElem (l := r) (i := k) (by omega)
    exact ⟨b, off, _, rfl, h5, hq, hs k _ s hq hk, h6 k _ hq⟩

/-! A record as one value. -/
theorem loadVar_openRS (t : TypeId) (h : t ≠ 49) (h' : t ≠ 26) (a : Addr) : loadVar t a = (do if ← isAgg t then pure (.agg (← loadCells a (← sizeOf t))) else load a) := rfl
theorem storeVar_openRS (t : TypeId) (h : t ≠ 49) (h' : t ≠ 26) (a : Addr) (v : Value) : storeVar t a v = (do
    if v.cells.size ≠ (← sizeOf t) then stuck "storeVar: the value has not the size of the variable"
    storeCells a v.cells.toList) := rfl
set_option maxRecDepth 100000 in
theorem zero_rc (w : World) : (zeroValue 49).run Try.prog w = .ok (.agg #[.int .i64 0, .int .i64 0, .bool false, .slice none 0 0]) w := by kernel_rfl
set_option maxRecDepth 100000 in
theorem build_rcZ (a b : Int) (z : Bool) (w : World) : (Instr.build 49 #[(0, .int .i64 a), (1, .int .i64 b), (2, .bool z)]).run Try.prog w = .ok (rvV (a, b, z, (none, 0, 0))) w := by kernel_rfl
set_option maxRecDepth 100000 in
theorem build_rcD (a b : Int) (x : Option Addr) (n c : Nat) (w : World) : (Instr.build 49 #[(0, .int .i64 a), (1, .int .i64 b), (3, .slice x n c)]).run Try.prog w = .ok (rvV (a, b, false, (x, n, c))) w := by kernel_rfl
set_option maxRecDepth 100000 in
theorem size_rc : (Try.prog.info? 49).map (·.size) = some 4 := by kernel_rfl
set_option maxRecDepth 100000 in
theorem load_rc {W : World} {b off : Nat} {q : RV} (c1 : W.cell? ⟨b, off, none⟩ = some (.int .i64 q.1)) (c2 : W.cell? ⟨b, off + 1, none⟩ = some (.int .i64 q.2.1)) (c3 : W.cell? ⟨b, off + 2, none⟩ = some (.bool q.2.2.1)) (c4 : W.cell? ⟨b, off + 3, none⟩ = some (slV q.2.2.2)) :
    (loadVar 49 ⟨b, off, none⟩).run Try.prog W = .ok (rvV q) W :=
  run_loadVar_mid W b off _ (rvL q) _ (fun j v hj => by
    match j with
    | 0 => cases hj; exact c1
    | 1 => cases hj; exact c2
    | 2 => cases hj; exact c3
    | 3 => cases hj; exact c4
    | j + 4 => simp [rvL] at hj) Try.underlying49 rfl (by kernel_rfl)
set_option maxRecDepth 100000 in
theorem new_rc (x : World) (q : RV) : (storeVar 49 ⟨x.heap.size, 0, none⟩ (rvV q)).run Try.prog (x.alloc (.cells #[.int .i64 0, .int .i64 0, .bool false, .slice none 0 0] 49)) = .ok () (x.alloc (.cells (rvL q).toArray 49)) :=
  run_storeVar_new x _ _ (rvL q).toArray size_rc rfl (by kernel_rfl)
set_option maxRecDepth 100000 in
theorem load_rcC {x : World} {B : Nat} {q : RV} (hr : RowC x B 49 (rvL q)) : (loadVar 49 ⟨B, 0, none⟩).run Try.prog x = .ok (rvV q) x :=
  run_loadVar_mid x B 0 _ (rvL q) _ hr.range Try.underlying49 rfl (by kernel_rfl)
set_option maxRecDepth 100000 in
theorem store_rcC {x : World} {B : Nat} {old : List Value} (q : RV) (hr : RowC x B 49 old) (ho : old.length = 4) :
    ∃ y, (storeVar 49 ⟨B, 0, none⟩ (rvV q)).run Try.prog x = .ok () y ∧ RowC y B 49 (rvL q) ∧ x.grownBy y (some B) := by
  refine ⟨_, run_storeVar_row x B _ _ old.toArray (rvL q).toArray hr size_rc (by simpa [rvL] using ho) (by kernel_rfl), setRow_heap x B _ _ _ _ hr, ?_⟩
  exact ⟨rfl, rfl, rfl, by rw [setRow_size]; exact Nat.le_refl _, fun k _ hk => setRow_other x B k _ (fun e => hk (by rw [e]))⟩
set_option maxRecDepth 100000 in
theorem slice_rc1 (w : World) (q : RV) : (Instr.buildSlice 24 1 #[(0, rvV q)]).run Try.prog w = .ok (.slice (some ⟨w.heap.size, 0, none⟩) 1 1) (w.alloc (.cells (rvL q).toArray 49)) := by kernel_rfl
/-! A stream as one value. -/
def smV (bl ba id : Int) (x : SlV) : Value := .agg #[.int .i64 bl, .int .i64 ba, .int .i64 id, slV x]
def smL (bl ba id : Int) (x : SlV) : List Value := [.int .i64 bl, .int .i64 ba, .int .i64 id, slV x]
set_option maxRecDepth 100000 in
theorem size_sm : (Try.prog.info? 26).map (·.size) = some 4 := by kernel_rfl
set_option maxRecDepth 100000 in
theorem zero_sm (w : World) : (zeroValue 26).run Try.prog w = .ok (smV 0 0 0 (none, 0, 0)) w := by kernel_rfl
set_option maxRecDepth 100000 in
theorem load_smC {x : World} {B : Nat} {bl ba id : Int} {v : SlV} (hr : RowC x B 26 (smL bl ba id v)) : (loadVar 26 ⟨B, 0, none⟩).run Try.prog x = .ok (smV bl ba id v) x :=
  run_loadVar_mid x B 0 _ (smL bl ba id v) _ hr.range Try.underlying26 rfl (by kernel_rfl)
set_option maxRecDepth 100000 in
theorem new_sm (x : World) (bl ba id : Int) (v : SlV) : (storeVar 26 ⟨x.heap.size, 0, none⟩ (smV bl ba id v)).run Try.prog (x.alloc (.cells #[.int .i64 0, .int .i64 0, .int .i64 0, .slice none 0 0] 26)) = .ok () (x.alloc (.cells (smL bl ba id v).toArray 26)) :=
  run_storeVar_new x _ _ (smL bl ba id v).toArray size_sm rfl (by kernel_rfl)
set_option maxRecDepth 100000 in
theorem build_sm3 (a b c : Int) (w : World) : (Instr.build 26 #[(0, .int .i64 a), (1, .int .i64 b), (2, .int .i64 c)]).run Try.prog w = .ok (smV a b c (none, 0, 0)) w := by kernel_rfl
set_option maxRecDepth 100000 in
theorem build_sm4 (a b c : Int) (x : Option Addr) (n m : Nat) (w : World) : (Instr.build 26 #[(0, .int .i64 a), (1, .int .i64 b), (2, .int .i64 c), (3, .slice x n m)]).run Try.prog w = .ok (smV a b c (x, n, m)) w := by kernel_rfl
set_option maxRecDepth 100000 in
theorem build_sm2 (a b : Int) (w : World) : (Instr.build 26 #[(0, .int .i64 a), (2, .int .i64 b)]).run Try.prog w = .ok (smV a 0 b (none, 0, 0)) w := by kernel_rfl
/-- A stream that lies somewhere. -/
structure SmR (W : World) (v : Value) (r : List RV) (s : SM) : Prop where
  is : ∃ x, v = smV s.bl s.ba s.id x ∧ RcR W (slV x) r s.re
  bl : I64 s.bl
  ba : I64 s.ba
  id : I64 s.id
def Smi (W : World) (v : Value) (s : SM) : Prop := ∃ r, SmR W v r s
theorem SmR.below {W W' : World} {v : Value} {r : List RV} {s : SM} (h : SmR W v r s) (hB : Below W.heap.size W W') : SmR W' v r s := by
  obtain ⟨⟨x, e, h1⟩, h2, h3, h4⟩ := h
  exact ⟨⟨x, e, h1.below hB⟩, h2, h3, h4⟩
theorem Smi.below {W W' : World} {v : Value} {s : SM} (h : Smi W v s) (hB : Below W.heap.size W W') : Smi W' v s := h.imp fun _ h => h.below hB
theorem SmR.ok {W : World} {v : Value} {r : List RV} {s : SM} (h : SmR W v r s) : s.Ok := by
  obtain ⟨⟨x, e, h1⟩, h2, h3, h4⟩ := h
  exact ⟨h2, h3, h4, h1.ok⟩
theorem Smi.ok {W : World} {v : Value} {s : SM} (h : Smi W v s) : s.Ok := by obtain ⟨r, h⟩ := h; exact h.ok

/-! Among the arguments. -/
set_option maxRecDepth 100000 in
theorem rec_of_cells {W : World} {cs : List Value} (h : Cells W 49 cs) : ∃ (q : RV) (s : RC), RcIs W q s ∧ cs = rvL q := by
  obtain ⟨hl, hj⟩ := h.struct Try.underlying49
  rw [show Try.prog.cellsOf 49 = 4 from by kernel_rfl] at hl
  have h0 : Cells W 3 ((cs.drop 0).take (Try.prog.cellsOf 3)) := hj 0 _ rfl
  have h1 : Cells W 3 ((cs.drop 1).take (Try.prog.cellsOf 3)) := hj 1 _ rfl
  have h2 : Cells W 4 ((cs.drop 2).take (Try.prog.cellsOf 4)) := hj 2 _ rfl
  have h3 : Cells W 22 ((cs.drop 3).take (Try.prog.cellsOf 22)) := hj 3 _ rfl
  rw [show Try.prog.cellsOf 3 = 1 from by kernel_rfl] at h0 h1
  rw [show Try.prog.cellsOf 4 = 1 from by kernel_rfl] at h2
  rw [show Try.prog.cellsOf 22 = 1 from by kernel_rfl] at h3
  match cs, hl with
  | [x, y, z, u], _ =>
    obtain ⟨a, e1, wa⟩ := h0.int Try.underlying3
    obtain ⟨c, e2, wc⟩ := h1.int Try.underlying3
    obtain ⟨d, e3⟩ := h2.bool Try.underlying4
    obtain ⟨b, lb, cb, bs, e4, -, -, s2, hb⟩ := h3.bytes Try.underlying22 Try.underlying5 (by kernel_rfl)
    simp at e1 e2 e3 e4
    subst e1 e2 e3 e4
    exact ⟨(a, c, d, (b, lb, cb)), ⟨a, c, d, bs⟩, ⟨rfl, rfl, rfl, s2, ⟨bounds_i64 wa, bounds_i64 wc, hb⟩⟩, rfl⟩
set_option maxRecDepth 100000 in
theorem rcs_of_cells {W : World} {a : Option Addr} {len cap : Nat}
    (r : (a = none ∧ len = 0 ∧ cap = 0) ∨ ∃ x, a = some x ∧ len ≤ cap ∧ cap ≤ maxLen ∧ ∀ i, i < cap → ∃ es, W.cells? 0 (x.add (i * Try.prog.cellsOf 49)) (Try.prog.cellsOf 49) = some es ∧ Cells W 49 es) : ∃ l, Rcs W (.slice a len cap) l := by
  rcases r with ⟨rfl, rfl, rfl⟩ | ⟨x, rfl, h1, h2, h3⟩
  · exact ⟨[], Rcs.nil W⟩
  · rw [show Try.prog.cellsOf 49 = 4 from by kernel_rfl] at h3
    have h4 : ∀ i, i < cap → ∃ p : RV × RC, RcIs W p.1 p.2 ∧ W.cell? (x.add (i * 4)) = some (.int .i64 p.1.1) ∧ W.cell? ((x.add (i * 4)).add 1) = some (.int .i64 p.1.2.1) ∧ W.cell? ((x.add (i * 4)).add 2) = some (.bool p.1.2.2.1) ∧ W.cell? ((x.add (i * 4)).add 3) = some (slV p.1.2.2.2) := by
      intro i hi
      obtain ⟨es, g1, g2⟩ := h3 i hi
      obtain ⟨q, s, hp, rfl⟩ := rec_of_cells g2
      have hm := (cells_many g1).2
      refine ⟨(q, s), hp, ?_, ?_, ?_, ?_⟩
      · obtain ⟨u, hu1, hu2⟩ := hm 0 (by omega)
        cases hu1
        rwa [show (x.add (i * 4)).add 0 = x.add (i * 4) by simp [Addr.add]] at hu2
      · obtain ⟨u, hu1, hu2⟩ := hm 1 (by omega)
        cases hu1
        exact hu2
      · obtain ⟨u, hu1, hu2⟩ := hm 2 (by omega)
        cases hu1
        exact hu2
      · obtain ⟨u, hu1, hu2⟩ := hm 3 (by omega)
        cases hu1
        exact hu2
    have h5 : ∀ i, ∃ p : RV × RC, i < cap → RcIs W p.1 p.2 ∧ W.cell? (x.add (i * 4)) = some (.int .i64 p.1.1) ∧ W.cell? ((x.add (i * 4)).add 1) = some (.int .i64 p.1.2.1) ∧ W.cell? ((x.add (i * 4)).add 2) = some (.bool p.1.2.2.1) ∧ W.cell? ((x.add (i * 4)).add 3) = some (slV p.1.2.2.2) := fun i => by
      by_cases hi : i < cap
      · obtain ⟨s, hs⟩ := h4 i hi; exact ⟨s, fun _ => hs⟩
      · exact ⟨((0, 0, false, (none, 0, 0)), rcz), fun h => absurd h hi⟩
    obtain ⟨f, hf⟩ := Classical.axiomOfChoice h5
    refine ⟨(List.range len).map fun i => (f i).2, (List.range len).map fun i => (f i).1, some x, cap, by simp, by simp; omega, h2, (fun e => by cases e), by simp, fun j q s hq hs => ?_, ?_⟩
    · have hjl : j < len := by have := (List.getElem?_eq_some_iff.1 hq).1; simpa using this
      simp [hjl] at hq hs
      subst hq hs
      exact (hf j (by omega)).1
    · by_cases h0 : len = 0
      · subst h0; exact .inl rfl
      · have hc0 := (hf 0 (by omega)).2.1
        rw [Nat.zero_mul, show x.add 0 = x by simp [Addr.add]] at hc0
        obtain ⟨b, off, rfl, hb⟩ := cell_plain hc0
        refine .inr ⟨b, off, rfl, hb, fun j s hj => ?_⟩
        have hjl : j < len := by have := (List.getElem?_eq_some_iff.1 hj).1; simpa using this
        simp [hjl] at hj
        subst hj
        have q := (hf j (by omega)).2
        simp only [add_plain] at q
        exact q
set_option maxRecDepth 100000 in
theorem Arg.stream {W : World} {v : Value} (h : Arg W 26 v) : ∃ s, Smi W v s := by
  obtain ⟨cs, rfl, hl, hc⟩ := h.agg (.inl ⟨_, Try.underlying26⟩)
  obtain ⟨-, hj⟩ := hc.struct Try.underlying26
  rw [show Try.prog.cellsOf 26 = 4 from by kernel_rfl] at hl
  have h0 : Cells W 3 ((cs.drop 0).take (Try.prog.cellsOf 3)) := hj 0 _ rfl
  have h1 : Cells W 3 ((cs.drop 1).take (Try.prog.cellsOf 3)) := hj 1 _ rfl
  have h2 : Cells W 3 ((cs.drop 2).take (Try.prog.cellsOf 3)) := hj 2 _ rfl
  have h3 : Cells W 24 ((cs.drop 3).take (Try.prog.cellsOf 24)) := hj 3 _ rfl
  rw [show Try.prog.cellsOf 3 = 1 from by kernel_rfl] at h0 h1 h2
  rw [show Try.prog.cellsOf 24 = 1 from by kernel_rfl] at h3
  match cs, hl with
  | [x, y, z, u], _ =>
    obtain ⟨a, e1, wa⟩ := h0.int Try.underlying3
    obtain ⟨b, e2, wb⟩ := h1.int Try.underlying3
    obtain ⟨c, e3, wc⟩ := h2.int Try.underlying3
    obtain ⟨d, ld, cd, e4, r⟩ := h3.slice Try.underlying24
    simp at e1 e2 e3 e4
    subst e1 e2 e3 e4
    obtain ⟨l, r', hR⟩ := rcs_of_cells r
    exact ⟨⟨a, b, c, l⟩, r', ⟨⟨(d, ld, cd), rfl, hR⟩, bounds_i64 wa, bounds_i64 wb, bounds_i64 wc⟩⟩

/-! Records of one's own. -/
structure RcF (N : Nat) (W : World) (q : RV) (s : RC) : Prop where
  fr : q.1 = s.fr
  ct : q.2.1 = s.ct
  ze : q.2.2.1 = s.ze
  da : W.ownsRow N 5 1 (slV q.2.2.2) s.da.length (s.da.map (Value.int .u8))
  ok : s.Ok
theorem RcF.below {N : Nat} {W W' : World} {q : RV} {s : RC} (h : RcF N W q s) (hB : Below W.heap.size W W') : RcF N W' q s := ⟨h.fr, h.ct, h.ze, own_belowT h.da hB, h.ok⟩
theorem RcF.is {N : Nat} {W : World} {q : RV} {s : RC} (h : RcF N W q s) : RcIs W q s := ⟨h.fr, h.ct, h.ze, Sl.of_owns h.da, h.ok⟩
def RcO (N : Nat) (W : World) (v : Value) (l : List RC) : Prop := ∃ r : List RV, r.length = l.length ∧ W.ownsRow N 49 4 v l.length (rvs r) ∧ ∀ (j : Nat) (q : RV) (s : RC), r[j]? = some q → l[j]? = some s → RcF N W q s
theorem RcO.nil (N : Nat) (W : World) : RcO N W (.slice none 0 0) [] := ⟨[], rfl, World.ownsRow_nil _ _ _ _, fun j q s h => by cases h⟩
theorem RcO.below {N : Nat} {W W' : World} {v : Value} {l : List RC} (h : RcO N W v l) (hB : Below W.heap.size W W') : RcO N W' v l := by
  obtain ⟨r, h1, h2, h3⟩ := h
  exact ⟨r, h1, own_belowT h2 hB, fun j q s a b => (h3 j q s a b).below hB⟩
theorem RcO.base {N : Nat} {W : World} {v : Value} {l : List RC} (h : RcO N W v l) : ∀ j, v.ownBlock = some j → N ≤ j ∧ j < W.heap.size := by
  obtain ⟨r, h1, h2, h3⟩ := h
  intro j hj
  rcases h2.2 with ⟨rfl, h0⟩ | ⟨g, cap, cur, rfl, a1, a2, -⟩
  · cases hj
  · cases hj
    exact ⟨a1, (Array.getElem?_eq_some_iff.1 a2).1⟩
/-- Records that lie in a row of their own. -/
theorem rcs_row {N : Nat} {W : World} {v : Value} {r : List RV} {l : List RC} (h1 : r.length = l.length) (h2 : W.ownsRow N 49 4 v l.length (rvs r)) (h3 : ∀ (j : Nat) (q : RV) (s : RC), r[j]? = some q → l[j]? = some s → RcIs W q s) : RcR W v r l := by
  rcases h2.2 with ⟨rfl, h0⟩ | ⟨g, cap, cur, rfl, a1, a2, a3, a4, a5, a6⟩
  · obtain rfl : l = [] := List.eq_nil_of_length_eq_zero h0
    obtain rfl : r = [] := List.eq_nil_of_length_eq_zero h1
    exact RcR.nil W
  · refine ⟨_, cap, rfl, a3, a4, (fun e => by cases e), h1, fun j q s a b => h3 j q s a b, .inr ⟨g, 0, rfl, (Array.getElem?_eq_some_iff.1 a2).1, fun j p hj => ?_⟩⟩
    have hc := h2.cells (g := g) rfl
    obtain ⟨f1, f2, f3, f4⟩ := rvs_get hj
    have c1 := hc _ _ f1
    have c2 := hc _ _ f2
    have c3 := hc _ _ f3
    have c4 := hc _ _ f4
    rw [Addr.add_mid] at c1 c2 c3 c4
    exact ⟨c1, by simpa [Nat.add_assoc] using c2, by simpa [Nat.add_assoc] using c3, by simpa [Nat.add_assoc] using c4⟩
theorem RcO.rcs {N : Nat} {W : World} {v : Value} {l : List RC} (h : RcO N W v l) : Rcs W v l := by
  obtain ⟨r, h1, h2, h3⟩ := h
  exact ⟨r, rcs_row h1 h2 fun j q s a b => (h3 j q s a b).is⟩
set_option maxRecDepth 100000 in
theorem info_rcT : (Try.prog.info? 49).map (fun i => (i.zero, i.size, i.bytes)) = some (some (.agg #[.int .i64 0, .int .i64 0, .bool false, .slice none 0 0]), 4, 48) := by kernel_rfl
theorem rv_ones (q : RV) : ∀ u ∈ rvs [q], u.oneCell' = true := by
  intro u hu
  simp [rvs, rvL] at hu
  rcases hu with rfl | rfl | rfl | rfl <;> rfl
theorem RcF.kept {N M n : Nat} {W W' : World} {q : RV} {s : RC} {v : Value} {xs : List Value} (h : RcF N W q s) (hv : W.ownsRow M 49 4 v n xs) (hg : W.grownBy W' v.ownBlock) : RcF N W' q s :=
  ⟨h.fr, h.ct, h.ze, h.da.kept hg (rows_ne h.da hv (by decide)), h.ok⟩
set_option maxRecDepth 100000 in
/-- One more. -/
theorem rc_append {N : Nat} {w : World} {v : Value} {l : List RC} {q : RV} {s : RC} (h : RcO N w v l) (hN : N ≤ w.heap.size) (hq : RcF N w q s) (hlen : l.length ≤ 900000) :
    ∃ v' w', (∀ ty, (Builtin.append_ #[24, 24] ty #[v, .slice (some ⟨w.heap.size, 0, none⟩) 1 1]).run Try.prog (w.alloc (.cells (rvL q).toArray 49)) = .ok v' w') ∧ RcO N w' v' (l ++ [s]) ∧ w.grownBy w' v.ownBlock := by
  obtain ⟨i0, hi⟩ : ∃ i, Try.prog.info? 49 = some i := ⟨_, rfl⟩
  have hqq := info_rcT
  rw [hi] at hqq
  have hz : (i0.zero, i0.size, i0.bytes) = (some (.agg #[.int .i64 0, .int .i64 0, .bool false, .slice none 0 0]), 4, 48) := Option.some.inj hqq
  have hz0 := congrArg (·.1) hz
  have hz1 := congrArg (·.2.1) hz
  have hz2 := congrArg (·.2.2) hz
  simp only at hz0 hz1 hz2
  obtain ⟨r, h1, h2, h3⟩ := h
  have hr : ∀ ty, ∃ v' w', (Builtin.append_ #[24, 24] ty #[v, .slice (some ⟨w.heap.size, 0, none⟩) 1 1]).run Try.prog (w.alloc (.cells (rvL q).toArray 49)) = .ok v' w' ∧ w'.ownsRow N 49 4 v' (l.length + 1) (rvs r ++ rvs [q]) ∧ (w.alloc (.cells (rvL q).toArray 49)).grownBy w' v.ownBlock := fun ty => by
    obtain ⟨v', w', g1, g2, g3, g4⟩ := run_append_own (P := Try.prog) (w.alloc (.cells (rvL q).toArray 49)) N 24 ty 49 i0 (.agg #[.int .i64 0, .int .i64 0, .bool false, .slice none 0 0]) 4 48 Try.underlying24 hi hz0 hz1 hz2 rfl (by decide) v l.length _ (own_belowT h2 (below_new w _)) ⟨w.heap.size, 0, none⟩ 1 1 (rvs [q]) rfl
      (fun j u hj => by
        rw [Addr.add_lit, Nat.zero_add]
        exact (RowC.new w 49 (rvL q)).cell j u (by simpa [rvs] using hj)) (rv_ones q) (by unfold maxLen; omega) (by omega) (by simp; omega)
    exact ⟨v', w', g1, g2, g3⟩
  obtain ⟨v', w', g1, g2, g3⟩ := hr 0
  have hgg : w.grownBy w' v.ownBlock := grown_trans (grown_below (below_new w _) _) g3
  refine ⟨v', w', fun ty => ?_, ⟨r ++ [q], by simp [h1], ?_, fun j q' s' ha hb => ?_⟩, hgg⟩
  · rw [← g1]; rfl
  · rw [List.length_append, rvs_append]; exact g2
  · by_cases hj : j < l.length
    · rw [List.getElem?_append_left (by omega)] at ha hb
      exact (h3 j q' s' ha hb).kept h2 hgg
    · obtain rfl : j = l.length := by have := (List.getElem?_eq_some_iff.1 hb).1; simp at this; omega
      rw [List.getElem?_append_right (Nat.le_refl _)] at hb
      rw [List.getElem?_append_right (by omega), h1] at ha
      simp at ha hb
      subst ha hb
      exact hq.kept h2 hgg
end Go.Proofs.Ytfihpljgbghogaa

/- The developers' stream: within, the head, a record's place. -/
namespace Go.Proofs.Ytfihpljgbghogaa
open Go.RowKit Go.Shelf
set_option linter.unusedVariables false
set_option linter.unusedSimpArgs false
attribute [-simp] Try.isAgg49 Try.zeroValue49 Try.isAgg26 Try.zeroValue26
attribute [-go_sem] loadVar storeVar
attribute [local go_sem] loadVar_openRS storeVar_openRS zero_rc zero_sm
section
set_option maxRecDepth 100000
set_option maxHeartbeats 4000000
set_option maxRecDepth 100000 in
theorem sm_within (n lo hi : Int) (w : World) : Calls Try.prog 50 #[.int .i64 n, .int .i64 lo, .int .i64 hi] w fun e w' => e = .returned (.bool (decide (lo ≤ n ∧ n ≤ hi))) ∧ w' = w := by
  obtain ⟨z, hz⟩ : ∃ z, decide (lo ≤ n ∧ n ≤ hi) = z := ⟨_, rfl⟩
  by_cases h1 : lo ≤ n
  · have g1 : decide (lo ≤ n) = true := by simpa using h1
    have g1' : decide (n ≥ lo) = true := g1
    have g2 : decide (n ≤ hi) = z := by rw [← hz]; simp [h1]
    rw [hz]
    clear hz
    go_enter Try.func50, Try.ntmps50
    go_wp2_with fail
    go_ret
    first | exact ⟨rfl, rfl⟩ | exact ⟨by rw [← g2], rfl⟩ | exact ⟨by rw [g2], rfl⟩
  · have g1 : decide (lo ≤ n) = false := by simpa using h1
    have g1' : decide (n ≥ lo) = false := g1
    have hzz : z = false := by rw [← hz]; simp [h1]
    rw [hz, hzz]
    clear hz hzz
    go_enter Try.func50, Try.ntmps50
    go_wp2_with fail
    go_ret
    exact ⟨rfl, rfl⟩
set_option maxRecDepth 100000 in
theorem sm_in {n lo hi : Int} (h : lo ≤ n ∧ n ≤ hi) (w : World) : Calls Try.prog 50 #[.int .i64 n, .int .i64 lo, .int .i64 hi] w fun e w' => e = .returned (.bool true) ∧ w' = w :=
  (sm_within n lo hi w).mono fun e w' ⟨h1, h2⟩ => ⟨by rw [h1, decide_eq_true h], h2⟩
set_option maxRecDepth 100000 in
theorem sm_out {n lo hi : Int} (h : ¬ (lo ≤ n ∧ n ≤ hi)) (w : World) : Calls Try.prog 50 #[.int .i64 n, .int .i64 lo, .int .i64 hi] w fun e w' => e = .returned (.bool false) ∧ w' = w :=
  (sm_within n lo hi w).mono fun e w' ⟨h1, h2⟩ => ⟨by rw [h1, decide_eq_false h], h2⟩

set_option maxRecDepth 100000 in
/-- **goodHead**. -/
theorem sm_head (bl ba id : Int) (x : SlV) (w : World) : Calls Try.prog 35 #[smV bl ba id x] w fun e w' => ∃ t, e = .returned (.bool t) ∧ (t = true ↔ hdOk bl ba id) ∧ Below w.heap.size w w' := by
  obtain ⟨a, n, c⟩ := x
  obtain ⟨W, hW⟩ : ∃ W, w.alloc (.cells #[.int .i64 bl, .int .i64 ba, .int .i64 id, .slice a n c] 26) = W := ⟨_, rfl⟩
  have r : RowC W w.heap.size 26 [.int .i64 bl, .int .i64 ba, .int .i64 id, .slice a n c] := by rw [← hW]; exact RowC.new w _ _
  have HB : Hid (Below w.heap.size w W) := by show Below _ _ _; rw [← hW]; exact below_new w _
  have c0 := r.cell 0 _ rfl
  have c1 := r.cell 1 _ rfl
  have c2 := r.cell 2 _ rfl
  simp only [smV, slV]
  clear r
  by_cases p1 : 1 ≤ bl ∧ bl ≤ 64
  · have C1 := Lib.hid (sm_in p1 W)
    have P1 := Lib.hid p1
    clear p1
    by_cases p2 : 1 ≤ id ∧ id ≤ 1000000
    · have C2 := Lib.hid (sm_in p2 W)
      have P2 := Lib.hid p2
      have w1 : wrap64 (id - 1) = id - 1 := IntWalk.wrap64_in _ (by omega)
      clear p2
      by_cases p3 : ba = -1
      · have q3 : (ba == -1) = true := by simpa using p3
        have P3 := Lib.hid p3
        clear p3
        go_enter Try.func35, Try.ntmps35
        go_wp2_with fail
        refine C1.out.mono ?_
        rintro e w1 ⟨rfl, rfl⟩
        go_wp2_with fail
        refine C2.out.mono ?_
        rintro e w1 ⟨rfl, rfl⟩
        go_wp2_with fail
        go_ret
        have := P1.out; have := P2.out; have := P3.out
        exact ⟨true, rfl, by unfold hdOk; simp; omega, HB.out⟩
      · have q3 : (ba == -1) = false := by simpa using p3
        have P3 := Lib.hid p3
        clear p3
        by_cases p4 : 1 ≤ ba ∧ ba ≤ id - 1
        · have C3 := Lib.hid (sm_in p4 W)
          have P4 := Lib.hid p4
          clear p4
          go_enter Try.func35, Try.ntmps35
          go_wp2_with fail
          refine C1.out.mono ?_
          rintro e w1 ⟨rfl, rfl⟩
          go_wp2_with fail
          refine C2.out.mono ?_
          rintro e w1 ⟨rfl, rfl⟩
          go_wp2_with fail
          refine C3.out.mono ?_
          rintro e w1 ⟨rfl, rfl⟩
          go_wp2_with fail
          go_ret
          have := P1.out; have := P2.out; have := P3.out; have := P4.out
          exact ⟨true, rfl, by unfold hdOk; simp; omega, HB.out⟩
        · have C3 := Lib.hid (sm_out p4 W)
          have P4 := Lib.hid p4
          clear p4
          go_enter Try.func35, Try.ntmps35
          go_wp2_with fail
          refine C1.out.mono ?_
          rintro e w1 ⟨rfl, rfl⟩
          go_wp2_with fail
          refine C2.out.mono ?_
          rintro e w1 ⟨rfl, rfl⟩
          go_wp2_with fail
          refine C3.out.mono ?_
          rintro e w1 ⟨rfl, rfl⟩
          go_wp2_with fail
          go_ret
          have := P1.out; have := P2.out; have := P3.out; have := P4.out
          exact ⟨false, rfl, by unfold hdOk; simp; omega, HB.out⟩
    · have C2 := Lib.hid (sm_out p2 W)
      have P2 := Lib.hid p2
      clear p2
      go_enter Try.func35, Try.ntmps35
      go_wp2_with fail
      refine C1.out.mono ?_
      rintro e w1 ⟨rfl, rfl⟩
      go_wp2_with fail
      refine C2.out.mono ?_
      rintro e w1 ⟨rfl, rfl⟩
      go_wp2_with fail
      go_ret
      have := P1.out; have := P2.out
      exact ⟨false, rfl, by unfold hdOk; simp; omega, HB.out⟩
  · have C1 := Lib.hid (sm_out p1 W)
    have P1 := Lib.hid p1
    clear p1
    go_enter Try.func35, Try.ntmps35
    go_wp2_with fail
    refine C1.out.mono ?_
    rintro e w1 ⟨rfl, rfl⟩
    go_wp2_with fail
    go_ret
    have := P1.out
    exact ⟨false, rfl, by unfold hdOk; simp; omega, HB.out⟩

set_option maxRecDepth 100000 in
/-- **goodPlace**. -/
theorem sm_place {bl lo : Int} (hb : 1 ≤ bl ∧ bl ≤ 64) (x : RC) (hx : x.Ok) (hlo : 0 ≤ lo) (d : SlV) (w : World) : Calls Try.prog 36 #[rvV (x.fr, x.ct, x.ze, d), .int .i64 lo, .int .i64 bl] w fun e w' => ∃ t, e = .returned (.bool t) ∧ (t = true ↔ plOk bl lo x) ∧ Below w.heap.size w w' := by
  obtain ⟨a, n, c⟩ := d
  obtain ⟨fr, ct, ze, da⟩ := x
  have hfr : I64 fr := hx.fr
  obtain ⟨W, hW⟩ : ∃ W, w.alloc (.cells #[.int .i64 fr, .int .i64 ct, .bool ze, .slice a n c] 49) = W := ⟨_, rfl⟩
  have r : RowC W w.heap.size 49 [.int .i64 fr, .int .i64 ct, .bool ze, .slice a n c] := by rw [← hW]; exact RowC.new w _ _
  have HB : Hid (Below w.heap.size w W) := by show Below _ _ _; rw [← hW]; exact below_new w _
  have c0 := r.cell 0 _ rfl
  have c1 := r.cell 1 _ rfl
  have w0 : wrap64 (bl - 1) = bl - 1 := IntWalk.wrap64_in _ (by omega)
  simp only [rvV, slV]
  clear r
  by_cases p1 : lo ≤ fr ∧ fr ≤ bl - 1
  · have C1 := Lib.hid (sm_in p1 W)
    have P1 := Lib.hid p1
    have w1 : wrap64 (bl - fr) = bl - fr := IntWalk.wrap64_in _ (by omega)
    clear p1
    by_cases p2 : 1 ≤ ct ∧ ct ≤ bl - fr
    · have C2 := Lib.hid (sm_in p2 W)
      have P2 := Lib.hid p2
      clear p2 hx hfr
      go_enter Try.func36, Try.ntmps36
      go_wp2_with fail
      refine C1.out.mono ?_
      rintro e w1 ⟨rfl, rfl⟩
      go_wp2_with fail
      refine C2.out.mono ?_
      rintro e w1 ⟨rfl, rfl⟩
      go_wp2_with fail
      go_ret
      have := P1.out; have := P2.out
      exact ⟨true, rfl, by unfold plOk; simp; omega, HB.out⟩
    · have C2 := Lib.hid (sm_out p2 W)
      have P2 := Lib.hid p2
      clear p2 hx hfr
      go_enter Try.func36, Try.ntmps36
      go_wp2_with fail
      refine C1.out.mono ?_
      rintro e w1 ⟨rfl, rfl⟩
      go_wp2_with fail
      refine C2.out.mono ?_
      rintro e w1 ⟨rfl, rfl⟩
      go_wp2_with fail
      go_ret
      have := P1.out; have := P2.out
      exact ⟨false, rfl, by unfold plOk; simp; omega, HB.out⟩
  · have C1 := Lib.hid (sm_out p1 W)
    have P1 := Lib.hid p1
    clear p1 hx hfr
    go_enter Try.func36, Try.ntmps36
    go_wp2_with fail
    refine C1.out.mono ?_
    rintro e w1 ⟨rfl, rfl⟩
    go_wp2_with fail
    go_ret
    have := P1.out
    exact ⟨false, rfl, by unfold plOk; simp; omega, HB.out⟩
end
end Go.Proofs.Ytfihpljgbghogaa

/- Zero, the developers' and the document's. -/
namespace Go.Proofs.Ytfihpljgbghogaa
open Go.RowKit Go.Shelf
set_option linter.unusedVariables false
set_option linter.unusedSimpArgs false

theorem Sl.cellW {w : World} {a : Option Addr} {n c : Nat} {xs : List Int} (h : Sl .u8 w (.slice a n c) xs) : n = xs.length ∧ n ≤ maxLen ∧ (0 < n → ∃ b o, a = some ⟨b, o, none⟩ ∧ ∀ x : World, Below w.heap.size w x → ∀ j, j < n → x.cell? ⟨b, o + j, none⟩ = some (.int .u8 (xs[j]?.getD 0))) := by
  obtain ⟨a', c', e, h1, h2, h3, -⟩ := h
  cases e
  refine ⟨rfl, Nat.le_trans h1 h2, fun h0 => ?_⟩
  rcases h3 with h3 | ⟨b, o, rfl, h4, h5⟩
  · rw [h3] at h0; cases h0
  · exact ⟨b, o, rfl, fun x hx j hj => (hx.cell (p := ⟨b, o + j, none⟩) h4).trans (h5 j hj)⟩
theorem allZ_step {bs : List Int} {k : Nat} {y : Int} (h : bs[k]? = some y) (h0 : allZ (bs.take k) = true) (hy : y = 0) : allZ (bs.take (k + 1)) = true := by
  rw [List.take_add_one, h]
  unfold allZ at *
  simp [hy] at h0 ⊢
  exact h0
theorem allZ_not {bs : List Int} {k : Nat} {y : Int} (h : bs[k]? = some y) (hy : y ≠ 0) : allZ bs = false := by
  have hm := List.mem_of_getElem? h
  rw [Bool.eq_false_iff]
  intro ha
  unfold allZ at ha
  rw [List.all_eq_true] at ha
  exact hy (by simpa using ha y hm)

set_option maxRecDepth 100000 in
set_option maxHeartbeats 4000000 in
/-- **Zero**. -/
theorem sm_zero {v : Value} {bs : List Int} {w : World} (hv : Sl .u8 w v bs) : Calls Try.prog 56 #[v] w fun e w' => e = .returned (.bool (allZ bs)) ∧ w' = w := by
  obtain ⟨a, ca, rfl, -⟩ := (show Sl _ _ _ _ from hv)
  obtain ⟨-, hm, hca⟩ := hv.cellW
  obtain ⟨n, hn⟩ : ∃ n, bs.length = n := ⟨_, rfl⟩
  rw [hn] at hm hca ⊢
  have HCA := Lib.hid hca
  have HN := Lib.hid hn
  have hm' : (n : Int) ≤ 9223372036854775807 := by unfold maxLen at hm; omega
  clear hca hv hn hm
  go_enter Try.func56, Try.ntmps56
  go_wp2_with fail
  go_loop [7] (fun iv => ∃ k : Nat, k ≤ n ∧ iv = .int .i64 (k : Int) ∧ Hid (allZ (bs.take k) = true)) (fun iv => n - (intOf iv).toNat)
  case atStart => exact ⟨0, Nat.zero_le _, rfl, rfl⟩
  case round =>
    obtain ⟨k, hk, rfl, HZ⟩ := hrel
    by_cases hlt : k < n
    · have g1 : (k : Int) < (n : Int) := by omega
      have HW : Hid (wrap64 ((k : Int) + 1) = (k : Int) + 1) := IntWalk.wrap64_in _ (by omega)
      obtain ⟨b, o, rfl, hC⟩ := HCA.out (by omega)
      obtain ⟨y, hy⟩ : ∃ y, bs[k]? = some y := ⟨_, List.getElem?_eq_getElem (by rw [HN.out]; exact hlt)⟩
      have c1 : w.cell? ⟨b, o + k, none⟩ = some (.int .u8 y) := by have := hC w (Below.refl _ _) k hlt; rw [hy] at this; exact this
      have HY := Lib.hid hy
      have HLT := Lib.hid hlt
      clear hC hy hlt
      by_cases q : y = 0
      · have q1 : (y != 0) = false := by simpa using q
        have HZ2 := Lib.hid (allZ_step HY.out HZ.out q)
        clear q
        go_wp2_with fail
        go_round
        case rel => exact ⟨k + 1, HLT.out, by first | simp | (rw [HW.out]; simp), HZ2⟩
        case measure => have := HLT.out; first | (simp [intOf]; omega) | (rw [HW.out]; simp [intOf]; omega)
      · have q1 : (y != 0) = true := by simpa using q
        have HZ2 := Lib.hid (allZ_not HY.out q)
        clear q
        go_wp2_with fail
        go_ret
        exact ⟨by rw [HZ2.out]; rfl, rfl⟩
    · have g1 : ¬ (k : Int) < (n : Int) := by omega
      obtain rfl : k = n := by omega
      have HZ2 : Hid (allZ bs = true) := by show _ = _; rw [← HZ.out, List.take_of_length_le (by rw [HN.out]; exact Nat.le_refl _)]
      go_wp2_with fail
      go_ret
      exact ⟨by rw [HZ2.out]; rfl, rfl⟩

set_option maxRecDepth 100000 in
set_option maxHeartbeats 4000000 in
/-- **Zero**, the document's. -/
theorem rf16_zero {v : Value} {bs : List Int} {w : World} (hv : Sl .u8 w v bs) : Calls Try.prog 45 #[v] w fun e w' => e = .returned (.bool (allZ bs)) ∧ w' = w := by
  obtain ⟨a, ca, rfl, -⟩ := (show Sl _ _ _ _ from hv)
  obtain ⟨-, hm, hca⟩ := hv.cellW
  obtain ⟨n, hn⟩ : ∃ n, bs.length = n := ⟨_, rfl⟩
  rw [hn] at hm hca ⊢
  have HCA := Lib.hid hca
  have HN := Lib.hid hn
  have hm' : (n : Int) ≤ 9223372036854775807 := by unfold maxLen at hm; omega
  clear hca hv hn hm
  go_enter Try.func45, Try.ntmps45
  go_wp2_with fail
  go_loop [3] (fun iv => ∃ k : Nat, k ≤ n ∧ iv = .int .i64 (k : Int) ∧ Hid (allZ (bs.take k) = true)) (fun iv => n - (intOf iv).toNat)
  case atStart => exact ⟨0, Nat.zero_le _, rfl, rfl⟩
  case round =>
    obtain ⟨k, hk, rfl, HZ⟩ := hrel
    by_cases hlt : k < n
    · have g1 : (k : Int) < (n : Int) := by omega
      have HW : Hid (wrap64 ((k : Int) + 1) = (k : Int) + 1) := IntWalk.wrap64_in _ (by omega)
      obtain ⟨b, o, rfl, hC⟩ := HCA.out (by omega)
      obtain ⟨y, hy⟩ : ∃ y, bs[k]? = some y := ⟨_, List.getElem?_eq_getElem (by rw [HN.out]; exact hlt)⟩
      have c1 : w.cell? ⟨b, o + k, none⟩ = some (.int .u8 y) := by have := hC w (Below.refl _ _) k hlt; rw [hy] at this; exact this
      have HY := Lib.hid hy
      have HLT := Lib.hid hlt
      clear hC hy hlt
      by_cases q : y = 0
      · have q1 : (y != 0) = false := by simpa using q
        have HZ2 := Lib.hid (allZ_step HY.out HZ.out q)
        clear q
        go_wp2_with fail
        go_round
        case rel => exact ⟨k + 1, HLT.out, by first | simp | (rw [HW.out]; simp), HZ2⟩
        case measure => have := HLT.out; first | (simp [intOf]; omega) | (rw [HW.out]; simp [intOf]; omega)
      · have q1 : (y != 0) = true := by simpa using q
        have HZ2 := Lib.hid (allZ_not HY.out q)
        clear q
        go_wp2_with fail
        go_ret
        exact ⟨by rw [HZ2.out]; rfl, rfl⟩
    · have g1 : ¬ (k : Int) < (n : Int) := by omega
      obtain rfl : k = n := by omega
      have HZ2 : Hid (allZ bs = true) := by show _ = _; rw [← HZ.out, List.take_of_length_le (by rw [HN.out]; exact Nat.le_refl _)]
      go_wp2_with fail
      go_ret
      exact ⟨by rw [HZ2.out]; rfl, rfl⟩
end Go.Proofs.Ytfihpljgbghogaa

/- The library's Chunk at bytes, by blocks: its range function's contract, with numbered rounds. -/
namespace Go.Proofs.Ytfihpljgbghogaa
open Go.RowKit Go.Shelf
set_option linter.unusedVariables false
set_option linter.unusedSimpArgs false
attribute [local go_sem] Oper.semAt_some

/-- Piece number k of bytes that lie at a place. -/
def encK (b off k : Nat) : Array Value := #[.slice (some ⟨b, off + 64 * k, none⟩) 64 64]
/-- What the two boxes hold. -/
structure ChB (Bs Bn : Nat) (v : Value) (W : World) : Prop where
  cs : W.cell? ⟨Bs, 0, none⟩ = some v
  cn : W.cell? ⟨Bn, 0, none⟩ = some (.int .i64 64)
  ls : Bs < W.heap.size
  ln : Bn < W.heap.size

set_option maxRecDepth 100000 in
set_option maxHeartbeats 1000000 in
theorem chunk64_in (F : Fence) (n : Nat) (hf : F.fn 55) (hro : F.round = none) (a : Option Addr) (len cap : Nat) (w : World) :
    CallsIn F n Try.prog 55 #[.slice a len cap, .int .i64 64] w fun e w' => e = .returned (.func (.func 58) #[] #[.pointer (some ⟨w.heap.size, 0, none⟩), .pointer (some ⟨w.heap.size + 1, 0, none⟩)]) ∧ w' = (w.alloc (.cells #[.slice a len cap] 22)).alloc (.cells #[.int .i64 64] 3) := by
  refine callsIn_of_wp Try.func55 rfl hf ?_ hro
  simp only [Try.ntmps55, List.size_toArray, List.length_cons, List.length_nil, Nat.reduceAdd, Nat.reduceSub, Array.replicate_succ, Array.replicate_zero, List.push_toArray, List.append_toArray, List.nil_append, List.cons_append]
  gi_wp2
  go_ret
  exact ⟨rfl, rfl⟩

set_option maxRecDepth 100000 in
set_option maxHeartbeats 2000000 in
theorem chunk64_seq (n : Nat) (hn : 1 ≤ n) (Bs Bn b off len cap m : Nat) (a : Option Addr) (ha : m = 0 ∨ a = some ⟨b, off, none⟩) (hlc : len ≤ cap) (hc : cap ≤ maxLen) (hmx : len ≤ 1000000) (hm : len = 64 * m) (w : World) :
    SeqNum Fence.wide n Try.prog 58 #[.pointer (some ⟨Bs, 0, none⟩), .pointer (some ⟨Bn, 0, none⟩)] (encK b off) (ChB Bs Bn (.slice a len cap)) m w := by
  intro lp J Jx W hW hJR hJA _ hY h0
  have HJR := Lib.hid hJR
  have HJD : Hid (∀ k x, J k x → J k x.drew) := fun k x hx => hJA k x x.drew none hx (grown_below (Below.refl _ x).drew none) (fun r e => by cases e)
  have HY := Lib.hid hY
  have HM := Lib.hid hm
  have HA := Lib.hid ha
  have hcap : cap ≤ 9223372036854775807 := by unfold maxLen at hc; omega
  have hmo : Try.prog.follows .mixedOrders = true := by kernel_rfl
  clear hm ha hc hJR hJA hY hW
  refine callsIn_of_wp Try.func58 rfl trivial ?_ rfl
  simp only [Try.ntmps58, List.size_toArray, List.length_cons, List.length_nil, Nat.reduceAdd, Nat.reduceSub, Array.replicate_succ, Array.replicate_zero, List.push_toArray, List.append_toArray, List.nil_append, List.cons_append]
  have hb0 := HJR.out 0 W h0
  have hBn := hb0.cn
  have hBs := hb0.cs
  clear hb0
  gi_wp2
  gi_loopw [4] (fun i wr => ∃ k : Nat, k ≤ m ∧ i = .int .i64 ((64 * k : Nat) : Int) ∧ J k wr) (fun i _ => 64 * m - (intOf i).toNat)
  case atStart => exact ⟨0, Nat.zero_le _, rfl, h0⟩
  case round =>
    obtain ⟨k, hk, rfl, hJs⟩ := hrel
    obtain ⟨K, hK⟩ : ∃ K, 64 * k = K := ⟨_, rfl⟩
    rw [hK]
    have hb := HJR.out k wr hJs
    have c1 := hb.cs
    have c2 := hb.cn
    by_cases hlt : K < len
    · have hkm : k < m := by have := HM.out; omega
      have hlt' : decide ((K : Int) < (len : Int)) = true := by simp; omega
      obtain rfl : a = some ⟨b, off, none⟩ := by rcases HA.out with h | h; omega; exact h
      have hKK := Lib.hid hK
      have d1 : ∀ y : Ext wr, y.1.cell? ⟨Bs, 0, none⟩ = some (.slice (some ⟨b, off, none⟩) len cap) := fun y => (y.2.cell (p := ⟨Bs, 0, none⟩) hb.ls).trans c1
      have d2 : ∀ y : Ext wr, y.1.cell? ⟨Bn, 0, none⟩ = some (.int .i64 64) := fun y => (y.2.cell (p := ⟨Bn, 0, none⟩) hb.ln).trans c2
      have g1 : (K : Int) ≤ len := by omega
      have g2 : (len : Int) ≤ cap := by omega
      have hq : (len : Int) - (K : Int) = ((len - K : Nat) : Int) := by omega
      have hmin : ∀ (ts : Array TypeId) (t : TypeId) (W : World), (Builtin.min_ ts t #[.int .i64 64, .int .i64 ((len - K : Nat) : Int)]).run Try.prog W = .ok (.int .i64 ((64 : Nat) : Int)) W := fun ts t W => by
        have h64 : 64 ≤ len - K := by have := HM.out; omega
        rw [run_min_int2]
        congr 2
        split <;> omega
      have hH2 : K + 64 ≤ len := by have := HM.out; omega
      have hKc : K < cap := by omega
      clear hBn hBs h0 hb
      gi_wp2_with fail
      refine wpIn_wide.2 ?_
      refine region_plan (fun x => ∃ y : Ext wr, x = y.1) 6 (.takes [0, 1, 2, 3, 4] (.one 5 .leaf)) hmo (by kernel_rfl) (by intro c x v a w h; cases x <;> exact h) ⟨⟨wr.drew, (Below.refl _ wr).drew⟩, rfl⟩ ?_
      repeat (rw [wpPlan_takes_cons]; simp only [nth_zero, nth_succ]; go_big_quiet_step (fail); refine wpQuiet_nil ?_)
      rw [wpPlan_takes_nil, wpPlan_one]
      simp only [nth_zero, nth_succ]
      go_wp2_with fail
      refine planPost_mk ⟨⟨wr.drew, (Below.refl _ wr).drew⟩, rfl⟩ ?_
      rw [wpPlan_leaf]
      simp only [List.drop_succ_cons, List.drop_zero]
      clear hmin d1 d2
      have c1' : wr.drew.cell? ⟨Bs, 0, none⟩ = some (.slice (some ⟨b, off, none⟩) len cap) := c1
      have c2' : wr.drew.cell? ⟨Bn, 0, none⟩ = some (.int .i64 64) := c2
      have HJ : J k wr.drew := HJD.out _ _ hJs
      obtain ⟨fn, tmps, assign, body, hy, hR⟩ := HY.out k wr.drew hkm HJ
      unfold encK at hy
      rw [hKK.out] at hy
      have HKM := Lib.hid hkm
      go_wp2_with fail
      gi_wp2_with fail
      refine hR.mono ?_
      rintro e W3 (⟨rfl, hJ3⟩ | ⟨rfl, hJx3⟩)
      · have hb3 := HJR.out _ W3 hJ3
        have c3 := hb3.cn
        clear hb3
        gi_wp2_with fail
        go_roundw
        case rel => exact ⟨k + 1, HKM.out, by have := hKK.out; go_num, hJ3⟩
        case measure => have := hKK.out; have := HKM.out; simp [intOf]; omega
      · gi_wp2_with fail
        refine bodyPost_ret (results_none rfl _ _ _) rfl ?_
        exact ⟨⟨_, rfl⟩, .inr ⟨k + 1, HKM.out, hJx3⟩⟩
    · have hlt' : decide ((K : Int) < (len : Int)) = false := by simp; omega
      obtain rfl : k = m := by have := HM.out; omega
      clear hK
      gi_wp2_with fail
      go_end0
      exact ⟨⟨_, rfl⟩, .inl hJs⟩
end Go.Proofs.Ytfihpljgbghogaa

/- anyZero and goodData. -/
namespace Go.Proofs.Ytfihpljgbghogaa
open Go.RowKit Go.Shelf
set_option linter.unusedVariables false
set_option linter.unusedSimpArgs false
attribute [-simp] Try.isAgg49 Try.zeroValue49 Try.isAgg26 Try.zeroValue26
attribute [-go_sem] loadVar storeVar
attribute [local go_sem] loadVar_openRS storeVar_openRS zero_rc zero_sm
attribute [local go_sem] Oper.semAt_some

/-- Chunk's two boxes, and all that lay ahead. -/
structure CkX (N B : Nat) (v : Value) (w W : World) : Prop where
  bs : RowC W B 22 [v]
  bn : RowC W (B + 1) 3 [.int .i64 64]
  be : Below N w W
theorem CkX.own {N B : Nat} {v : Value} {w x y : World} {row : Option Nat} {M : Nat} (h : CkX N B v w x) (hN : N ≤ w.heap.size) (hg : x.grownBy y row) (hM : w.heap.size ≤ M) (hr : ∀ r, row = some r → M ≤ r ∧ ∃ o : Obj, x.heap[r]? = some o ∧ o.isCells = false) : CkX N B v w y :=
  ⟨rowC_own h.bs hg hr, rowC_own h.bn hg hr, below_own h.be hN hg (fun r e => ⟨Nat.le_trans hM (hr r e).1, (hr r e).2⟩)⟩
theorem CkX.new {N : Nat} {w x : World} (v : Value) (hb : Below N w x) (hN : N ≤ x.heap.size) :
    CkX N x.heap.size v w ((x.alloc (.cells #[v] 22)).alloc (.cells #[.int .i64 64] 3)) := by
  have r1 := RowC.new x 22 [v]
  have r2 := RowC.new (x.alloc (.cells #[v] 22)) 3 [.int .i64 64]
  simp only [World.size_alloc] at r2
  exact ⟨r1.below (below_new _ _), r2, (hb.alloc hN _).alloc (by simp; omega) _⟩
/-- Piece k of 64 m bytes. -/
theorem sl_piece {w : World} {b off cap m : Nat} {bs : List Int} {len : Nat} (h : Sl .u8 w (.slice (some ⟨b, off, none⟩) len cap) bs) (hlen0 : 64 * m = len) (hl : bs.length = 64 * m) {k : Nat} (hk : k < m) : Sl .u8 w (.slice (some ⟨b, off + 64 * k, none⟩) 64 64) ((bs.drop (64 * k)).take 64) := by
  obtain ⟨a', c', e, h1, h2, h3, -⟩ := h
  obtain ⟨rfl, -, -⟩ := Value.slice.inj e
  have hlen : ((bs.drop (64 * k)).take 64).length = 64 := by simp; omega
  rcases h3 with h3 | ⟨b', o', e', h4, h5⟩
  · rw [h3] at hl; simp at hl; omega
  · cases e'
    have := Sl.at (k := .u8) (w := w) (b := b) (off := off + 64 * k) (cap := 64) (bs := (bs.drop (64 * k)).take 64) (by omega) (by unfold maxLen; omega) h4 (fun j hj => by
      rw [hlen] at hj
      rw [List.getElem?_take, if_pos hj, List.getElem?_drop, show off + 64 * k + j = off + (64 * k + j) by omega]
      exact h5 _ (by omega))
    rw [hlen] at this
    exact this

set_option maxRecDepth 100000 in
set_option maxHeartbeats 4000000 in
/-- **anyZero**. -/
theorem sm_any {v : Value} {bs : List Int} {m : Nat} {w : World} (hv : Sl .u8 w v bs) (hl : bs.length = 64 * m) (hm : m ≤ 1000) :
    Calls Try.prog 51 #[v] w fun e w' => ∃ t, e = .returned (.bool t) ∧ (t = false ↔ ∀ j, j < m → chunkZ bs j = false) ∧ Below w.heap.size w w' := by
  have HS := Lib.hid hv
  obtain ⟨a, cap, rfl, h1, h2, hla, -⟩ := hv
  obtain ⟨B, hB⟩ : ∃ B, w.heap.size = B := ⟨_, rfl⟩
  have HSZ := Lib.hid hB
  obtain ⟨b, off, hab⟩ : ∃ b off, m = 0 ∨ a = some ⟨b, off, none⟩ := by
    rcases hla with h | ⟨b, off, e, -⟩
    · exact ⟨0, 0, .inl (by rw [h] at hl; simp at hl; omega)⟩
    · exact ⟨b, off, .inr e⟩
  rw [hl] at HS h1 ⊢
  obtain ⟨len, hle⟩ : ∃ len, 64 * m = len := ⟨_, rfl⟩
  have HLE := Lib.hid hle
  have HL := Lib.hid hl
  rw [hle] at HS h1 ⊢
  refine (callsIn_wide (n := 3)).1 ?_
  refine callsIn_of_wp_marks Try.func51 rfl trivial ?_ rfl
  simp only [Try.ntmps51, List.size_toArray, List.length_cons, List.length_nil, Nat.reduceAdd, Nat.reduceSub, Array.replicate_succ, Array.replicate_zero, List.push_toArray, List.append_toArray, List.nil_append, List.cons_append]
  obtain ⟨X, hX⟩ : ∃ X, w.alloc (.cells #[.bool false] 4) = X := ⟨_, rfl⟩
  have hXs : X.heap.size = B + 1 := by rw [← hX, ← hB]; simp
  have hXb : Below B w X := by rw [← hX, ← hB]; exact below_new w _
  have k1 : RowC X B 4 [.bool false] := by rw [← hX, ← hB]; exact RowC.new w _ _
  have SX := CkX.new (.slice a len cap) hXb (by omega)
  rw [hXs] at SX
  obtain ⟨W0, hW0⟩ : ∃ W0, (X.alloc (.cells #[.slice a len cap] 22)).alloc (.cells #[.int .i64 64] 3) = W0 := ⟨_, rfl⟩
  have hWs : W0.heap.size = B + 3 := by rw [← hW0]; simp [hXs]
  have bX : Below X.heap.size X W0 := by rw [← hW0]; exact ((Below.refl _ X).alloc (Nat.le_refl _) _).alloc (by simp) _
  rw [hW0] at SX
  have k4 := k1.below bX
  have hseq := chunk64_seq 2 (by omega) (B + 1) (B + 1 + 1) b off len cap m a hab h1 h2 (by omega) hle.symm W0
  have HAB := Lib.hid hab
  clear k1 bX hXb h1 h2 hla hl hab hle
  gi_wp2_with (refine ⟨trivial, ?_⟩; gi_at_call 55; refine (chunk64_in _ _ trivial rfl _ _ _ _).mono ?_; rintro e w' ⟨rfl, rfl⟩)
  try rw [hX]
  try rw [hW0]
  try rw [hXs]
  clear hX hW0
  have HW := Lib.hid hWs
  refine wpIn_rangeFunc_num (n := 3) rfl (by omega) (gf := 58) (lb := #[.pointer (some ⟨B + 1, 0, none⟩), .pointer (some ⟨B + 1 + 1, 0, none⟩)]) rfl trivial (enters_of Try.func58 (by kernel_rfl) rfl)
    hseq (Below.refl _ _) (fun _ => rfl)
    (fun k W => RowC W B 4 [.bool false] ∧ CkX B (B + 1) (.slice a len cap) w W ∧ ∀ j, j < k → chunkZ bs j = false)
    (fun c k W => c = .ret ∧ RowC W B 4 [.bool true] ∧ Below B w W ∧ ¬ ∀ j, j < m → chunkZ bs j = false)
    ?hR ?hI ?hIx ⟨k4, SX, fun j hj => by omega⟩
    (fun k a' W => a' = { tmps := #[.slice a len cap, undef, .pointer (some ⟨B, 0, none⟩), .slice (some ⟨b, off + 64 * k, none⟩) 64 64, .slice a len cap, .func (.func 58) #[] #[.pointer (some ⟨B + 1, 0, none⟩), .pointer (some ⟨B + 1 + 1, 0, none⟩)], .slice (some ⟨b, off + 64 * k, none⟩) 64 64, undef, undef], defers := [] })
    ?hAx ?assign ?body ?done ?stop
  case hR =>
    intro k W ⟨_, h3, _⟩
    exact ⟨h3.bs.cell 0 _ rfl, h3.bn.cell 0 _ rfl, h3.bs.lt, h3.bn.lt⟩
  case hI =>
    intro s Y Z row ⟨g1, g2, g3⟩ hg hr
    exact ⟨rowC_own g1 hg hr, g2.own (by omega) hg (by omega) hr, g3⟩
  case hIx =>
    intro c s Y Z row ⟨g1, g2, g3, g4⟩ hg hr
    exact ⟨g1, rowC_own g2 hg hr, below_own g3 (by omega) hg (fun r e => ⟨by have := (hr r e).1; omega, (hr r e).2⟩), g4⟩
  case hAx =>
    rintro k a' _ Y Z row f4 hg hr
    exact f4
  case assign =>
    rintro lp k W K hkm ⟨g1, g2, g3⟩ hK
    have hK := hK _ _ (KeepsFrom.refl _ _) ⟨g1, g2, g3⟩ rfl
    clear g1 g2 g3
    unfold encK
    gi_wp2
    exact hK
  case body =>
    rintro lp k a' W _ _ hkm ⟨g1, g2, g3⟩ rfl
    have hk : k < m := hkm
    obtain rfl : a = some ⟨b, off, none⟩ := by rcases HAB.out with h | h; omega; exact h
    have hsl : Sl .u8 W (.slice (some ⟨b, off, none⟩) len cap) bs := HS.out.below (by rw [HSZ.out]; exact g2.be)
    have HF := Lib.hid (sm_zero (sl_piece hsl HLE.out HL.out hk))
    have HC : Hid (allZ ((bs.drop (64 * k)).take 64) = chunkZ bs k) := rfl
    rw [HC.out] at HF
    have f1 := g1.frozen 0
    have d1 := g1.cell 0 _ rfl
    have HK := Lib.hid hk
    have G1 := Lib.hid g1
    have G2 := Lib.hid g2
    have G3 := Lib.hid g3
    have HKF : Hid (∀ u, KeepsFrom W0.heap.size W (W.setCell ⟨B, 0, none⟩ u)) := fun u => keepsFrom_cells g1 (grownBy_setCellJ W B 0 u)
    cases hc : chunkZ bs k with
    | true =>
      rw [hc] at HF
      have HN : Hid (¬ ∀ j, j < m → chunkZ bs j = false) := fun h => by have := h k HK.out; rw [hc] at this; cases this
      clear hc hsl g1 g2 g3 hk hkm
      gi_step
      gi_step
      gi_step
      refine region_seq_roundC (letsOut_thenC (letsOut_inBlock letsOut_num)) (by kernel_rfl) ?_
      go_wp2_with fail
      refine HF.out.mono ?_
      rintro e y ⟨rfl, rfl⟩
      go_wp2_with fail
      gi_wp2
      exact ⟨HKF.out _, rfl, G1.out.set 0 _, set_below G2.out.be (by omega) _ _, HN.out⟩
    | false =>
      rw [hc] at HF
      have HN : Hid (∀ j, j < k + 1 → chunkZ bs j = false) := fun j hj => by
        by_cases e : j = k
        · subst e; exact hc
        · exact G3.out j (by omega)
      clear hc hsl g1 g2 g3 hk hkm
      gi_step
      gi_step
      gi_step
      refine region_seq_roundC (letsOut_thenC (letsOut_inBlock letsOut_num)) (by kernel_rfl) ?_
      go_wp2_with fail
      refine HF.out.mono ?_
      rintro e y ⟨rfl, rfl⟩
      go_wp2_with fail
      gi_wp2
      exact ⟨KeepsFrom.refl _ _, G1.out, G2.out, HN.out⟩
  case done =>
    rintro D W hD ⟨g1, g2, g3⟩ hK
    have d3 := g1.cell 0 _ rfl
    have f2 := g1.frozen 0
    have G1 := Lib.hid g1
    have G2 := Lib.hid g2
    have G3 := Lib.hid g3
    have HK := Lib.hid hK
    have HKF : Hid (KeepsFrom 0 W (W.setCell ⟨B, 0, none⟩ (.bool false))) := keepsFrom_cells g1 (grownBy_setCellJ W B 0 _)
    clear g1 g2 g3 hK
    gi_wp2
    have hK2 := HKF.out.same D _ (Nat.zero_le _) HK.out rfl
    refine ⟨by simp, .inl ⟨_, _, rfl, run_takeDeferred hK2, ?_⟩⟩
    have hg2 := grownBy_putObj' (W.setCell ⟨B, 0, none⟩ (.bool false)) D (.deferred none)
    have hy2 : RowC _ B 4 [.bool false] := rowC_own (N := 0) (G1.out.set 0 (.bool false)) hg2 (fun r e => by cases e; exact ⟨Nat.zero_le _, _, hK2, rfl⟩)
    refine ⟨_, results_cell rfl rfl (load_bool1 hy2), false, rfl, ⟨fun _ => G3.out, fun _ => rfl⟩, ?_⟩
    rw [HSZ.out]
    exact (set_below G2.out.be (by omega) 0 _).trans (belowK_b (w := w) (by omega) _ D _ _ (by have := HW.out; have := HSZ.out; omega) hK2 rfl rfl)
  case stop =>
    rintro D c k W hD _ ⟨rfl, g2, g3, g4⟩ hK
    have G2 := Lib.hid g2
    have G3 := Lib.hid g3
    have G4 := Lib.hid g4
    have HK := Lib.hid hK
    clear g2 g3 g4 hK
    gi_wp2
    refine ⟨by simp, .inl ⟨_, _, rfl, run_takeDeferred HK.out, ?_⟩⟩
    have hg2 := grownBy_putObj' W D (.deferred none)
    have hy2 := rowC_own (N := 0) G2.out hg2 (fun r e => by cases e; exact ⟨Nat.zero_le _, _, HK.out, rfl⟩)
    refine ⟨_, results_cell rfl rfl (load_bool1 hy2), true, rfl, ⟨fun h => (by cases h), fun h => absurd h G4.out⟩, ?_⟩
    rw [HSZ.out]
    exact G3.out.trans (belowK_b (w := w) (by omega) W D _ _ (by have := HW.out; have := HSZ.out; omega) HK.out rfl rfl)
end Go.Proofs.Ytfihpljgbghogaa

/- goodData. -/
namespace Go.Proofs.Ytfihpljgbghogaa
open Go.RowKit Go.Shelf
set_option linter.unusedVariables false
set_option linter.unusedSimpArgs false
attribute [-simp] Try.isAgg49 Try.zeroValue49 Try.isAgg26 Try.zeroValue26
attribute [-go_sem] loadVar storeVar
attribute [local go_sem] loadVar_openRS storeVar_openRS zero_rc zero_sm

set_option maxRecDepth 100000 in
set_option maxHeartbeats 4000000 in
/-- **goodData**. -/
theorem sm_data {x : RC} {d : SlV} {w : World} (hc : 1 ≤ x.ct ∧ x.ct ≤ 64) (hd : Sl .u8 w (slV d) x.da) (ba : Int) : Calls Try.prog 37 #[rvV (x.fr, x.ct, x.ze, d), .int .i64 ba] w fun e w' => ∃ t, e = .returned (.bool t) ∧ (t = true ↔ daOk ba x) ∧ Below w.heap.size w w' := by
  obtain ⟨a, n, c⟩ := d
  obtain ⟨fr, ct, ze, da⟩ := x
  obtain ⟨rfl, hmx, -⟩ := Sl.cellW hd
  obtain ⟨m, hm⟩ : ∃ m : Nat, ct = (m : Int) := ⟨ct.toNat, by have := hc.1; simp only at this; omega⟩
  subst hm
  simp only at hc hd
  obtain ⟨W, hW⟩ : ∃ W, w.alloc (.cells #[.int .i64 fr, .int .i64 (m : Int), .bool ze, .slice a da.length c] 49) = W := ⟨_, rfl⟩
  have r : RowC W w.heap.size 49 [.int .i64 fr, .int .i64 (m : Int), .bool ze, .slice a da.length c] := by rw [← hW]; exact RowC.new w _ _
  have hB : Below w.heap.size w W := by rw [← hW]; exact below_new w _
  have HB := Lib.hid hB
  have c1 := r.cell 1 _ rfl
  have c2 := r.cell 2 _ rfl
  have c3 := r.cell 3 _ rfl
  simp only [rvV, slV]
  have HD : Hid (Sl .u8 W (.slice a da.length c) da) := hd.below hB
  clear r hd hB
  obtain ⟨n, hn⟩ : ∃ n, da.length = n := ⟨_, rfl⟩
  have HN := Lib.hid hn
  simp only at hmx
  rw [hn] at c3 hmx HD hW ⊢
  have hmx' : (n : Int) ≤ 9223372036854775807 := by unfold maxLen at hmx; omega
  clear hn hmx
  cases ze with
  | true =>
    by_cases p1 : ba = -1
    · have q1 : (ba != -1) = false := by simpa using p1
      have P1 := Lib.hid p1
      clear p1
      go_enter Try.func37, Try.ntmps37
      go_wp2_with fail
      go_ret
      exact ⟨false, rfl, ⟨fun h => (by cases h), fun h => absurd P1.out (h.1 rfl).1⟩, HB.out⟩
    · have q1 : (ba != -1) = true := by simpa using p1
      have P1 := Lib.hid p1
      clear p1
      by_cases p2 : n = 0
      · have q2 : ((n : Int) == 0) = true := by simpa using p2
        have P2 := Lib.hid p2
        clear p2
        go_enter Try.func37, Try.ntmps37
        go_wp2_with fail
        go_ret
        exact ⟨true, rfl, ⟨fun _ => ⟨fun _ => ⟨P1.out, List.eq_nil_of_length_eq_zero (HN.out.trans P2.out)⟩, fun h => (by cases h)⟩, fun _ => rfl⟩, HB.out⟩
      · have q2 : ((n : Int) == 0) = false := by simpa using p2
        have P2 := Lib.hid p2
        clear p2
        go_enter Try.func37, Try.ntmps37
        go_wp2_with fail
        go_ret
        exact ⟨false, rfl, ⟨fun h => (by cases h), fun h => absurd (by have h2 : da = [] := (h.1 rfl).2; rw [← HN.out, h2]; rfl) P2.out⟩, HB.out⟩
  | false =>
    have w1 : wrap64 ((m : Int) * 64) = (m : Int) * 64 := IntWalk.wrap64_in _ (by omega)
    by_cases p1 : n = 64 * m
    · have q1 : ((n : Int) == (m : Int) * 64) = true := by simp; omega
      have HA := Lib.hid (sm_any HD.out (HN.out.trans p1) (by omega))
      have P1 := Lib.hid p1
      clear p1
      go_enter Try.func37, Try.ntmps37
      go_wp2_with fail
      refine HA.out.mono ?_
      rintro e y ⟨t, rfl, ht, hy⟩
      have HT := Lib.hid ht
      have HY := Lib.hid (HB.out.trans (hy.mono HB.out.size))
      clear ht hy
      have key : ∀ b : Bool, b = !t → (b = true ↔ daOk ba ⟨fr, (m : Int), false, da⟩) := fun b hb => by
        subst hb
        rw [Bool.not_eq_true', HT.out]
        unfold daOk
        simp only [HN.out, P1.out]
        constructor
        · intro h
          exact ⟨fun h => (by cases h), fun _ => ⟨by omega, fun j hj => h j (by omega)⟩⟩
        · intro h j hj
          exact (h.2 trivial).2 j (by omega)
      have KEY := Lib.hid key
      clear key
      go_wp2_with fail
      go_ret
      exact ⟨!t, rfl, KEY.out _ rfl, HY.out⟩
    · have q1 : ((n : Int) == (m : Int) * 64) = false := by simp; omega
      have P1 := Lib.hid p1
      clear p1
      go_enter Try.func37, Try.ntmps37
      go_wp2_with fail
      go_ret
      refine ⟨false, rfl, ⟨fun h => (by cases h), fun h => absurd ?_ P1.out⟩, HB.out⟩
      have h2 := (h.2 rfl).1
      simp only [HN.out] at h2
      omega
end Go.Proofs.Ytfihpljgbghogaa

/- A range over a function whose rounds are numbered and whose iterator has memory of its own: a limit G, told at the first round, below which a round changes none of the iterator's blocks. No program is named. -/
namespace Go.Proofs.Ytfihpljgbghogaa
open Go.RowKit
set_option linter.unusedVariables false

variable {F : Fence} {n : Nat} {P : Program}

/-- Blocks from B up to G lie as they lay. -/
def StayG (B G : Nat) (W W' : World) : Prop := W.heap.size ≤ W'.heap.size ∧ ∀ b, B ≤ b → b < G → W'.heap[b]? = W.heap[b]?
theorem StayG.trans {B G : Nat} {X Y Z : World} (h : StayG B G X Y) (k : StayG B G Y Z) : StayG B G X Z := ⟨Nat.le_trans h.1 k.1, fun b h1 h2 => (k.2 b h1 h2).trans (h.2 b h1 h2)⟩
theorem StayG.put {B G l : Nat} {W : World} (o : Obj) (h : l < B) : StayG B G W (W.putObj l o) := ⟨by simp, fun b h1 h2 => World.putObj_heap_other (by omega)⟩
theorem StayG.grown {B G : Nat} {W W' : World} {row : Option Nat} (hg : W.grownBy W' row) (hG : G ≤ W.heap.size) (hr : ∀ r, row = some r → r < B ∨ G ≤ r) : StayG B G W W' := ⟨hg.size, fun b h1 h2 => hg.block b (by omega) (fun e => by have := hr b e.symm; omega)⟩
end Go.Proofs.Ytfihpljgbghogaa

/- A range over a function whose rounds are numbered and whose iterator makes memory in each round: a round changes none of what was made since the iterator went on. No program is named. -/
namespace Go.Proofs.Ytfihpljgbghogaa
open Go.RowKit
set_option linter.unusedVariables false

variable {F : Fence} {n : Nat} {P : Program}

/-- What an iterator of m items owes to a caller whose rounds keep R. -/
def SeqNumB (F : Fence) (n : Nat) (P : Program) (g : Nat) (lb : Array Value) (encs : Nat → Array Value) (R : World → Prop) (m : Nat) (w : World) : Prop :=
  ∀ (l : Nat) (J Jx : Nat → World → Prop) (W : World), Below w.heap.size w W → (∀ k W, J k W → R W) → AbidesFrom W.heap.size J → AbidesFrom W.heap.size Jx →
    (∀ k W0 W1, k < m → J k W0 → Below W0.heap.size W0 W1 → YieldAt F (n - 1) P l (encs k) W1 fun e W' => StayG W0.heap.size W1.heap.size W1 W' ∧ ((e = .returned (.bool true) ∧ J (k + 1) W') ∨ (e = .returned (.bool false) ∧ Jx (k + 1) W'))) →
    J 0 W →
    CallsIn F n P g (#[.func (.yield l) #[] #[]] ++ lb) W fun e W' => (∃ v, e = .returned v) ∧ (J m W' ∨ (∃ k, k ≤ m ∧ Jx k W'))

/-- How a round may be left. -/
def numPostB (B H G : Nat) (I : Nat → Nat → World → Prop) (Ix : Code → Nat → World → Prop) (k : Nat) (W : World) : Exit → Act → World → Prop
  | .normal, _, W' => (KeepsFrom B W W' ∧ StayG H G W W') ∧ I W'.heap.size k W'
  | .ret, _, W' => (KeepsFrom B W W' ∧ StayG H G W W') ∧ Ix .ret k W'
  | .exit id, _, W' => (KeepsFrom B W W' ∧ StayG H G W W') ∧ Ix (.exit id) k W'
  | .goto t, _, W' => (KeepsFrom B W W' ∧ StayG H G W W') ∧ Ix (.goto t) k W'
  | .panic _, _, _ => False
  | .outgrown, _, _ => False
theorem letsOut_numB {B H G : Nat} {I : Nat → Nat → World → Prop} {Ix : Code → Nat → World → Prop} {k : Nat} {W : World} : ¬ LetsOut (numPostB B H G I Ix k W) := fun ⟨a, w, e⟩ => e
theorem below_grown {X Y : World} (h : Below X.heap.size X Y) : X.grownBy Y none := ⟨h.os, h.tape, h.output, h.size, fun k hk _ => h.block k hk⟩

/-- **A loop over such an iterator.** I H: what a round keeps; the blocks that it may change lie below H. -/
theorem wpIn_rangeFunc_numB {g : Operand} {ps : Array Tmp} {assign body : Code} {Q : Exit → Act → World → Prop} {a : Act} {w : World}
    (hro : F.round = none) (h1 : 1 ≤ n) {gf : Nat} {lb : Array Value} (hg : a.eval g = .func (.func gf) #[] lb) (hFg : F.fn gf) (eg : ∀ args w, (callFunc gf args).run P w = .ok (.enter gf args) w)
    {encs : Nat → Array Value} {R : World → Prop} {m : Nat} {w0 : World} (hseq : SeqNumB F (n - 1) P gf lb encs R m w0)
    (hb0 : Below w0.heap.size w0 w) (hps : ∀ x, (encs x).size = ps.size)
    (I : Nat → Nat → World → Prop) (Ix : Code → Nat → World → Prop) (hR : ∀ H k W, I H k W → R W) (hI : ∀ H, OwnFrom w.heap.size (I H)) (hup : ∀ H k W, I H k W → I W.heap.size k W) (hIx : ∀ c, OwnFrom w.heap.size (Ix c)) (h0 : I w.heap.size 0 w) (Ax : Nat → Act → World → Prop) (hAx : ∀ x a', OwnFrom w.heap.size (fun (_ : Unit) W => Ax x a' W))
    (hassign : ∀ (l H k : Nat) (W : World) (K : Act → World → Prop), w.heap.size + 2 ≤ H → H ≤ W.heap.size → k < m → I H k W → (∀ a' W', KeepsFrom w.heap.size W W' → StayG H W.heap.size W W' → I H k W' → Ax k a' W' → K a' W') →
      assign.wpIn (F.inRound l) (n - 1 - 1) P (Exit.then K (fun _ _ _ => False)) { tmps := (ps.zip (encs k)).foldl (fun t (p, v) => t.setIfInBounds p v) a.tmps, defers := [] } W)
    (hbody : ∀ (l H G k : Nat) (a' : Act) (W : World), w.heap.size ≤ l → (∃ r, W.heap[l]? = some (.loop r)) → w.heap.size + 2 ≤ H → H ≤ G → G ≤ W.heap.size → k < m → I H k W → Ax k a' W → body.wpIn (F.inRound l) (n - 1 - 1) P (numPostB w.heap.size H G I Ix (k + 1) W) a' W)
    (hdone : ∀ (D : Nat) (W : World), w.heap.size ≤ D → I W.heap.size m W → W.heap[D]? = some (.deferred (some [])) → Q .normal { a with defers := { target := .collected D, args := #[] } :: a.defers } W)
    (hstop : ∀ (D : Nat) (c : Code) (k : Nat) (W : World), w.heap.size ≤ D → k ≤ m → Ix c k W → W.heap[D]? = some (.deferred (some [])) → c.wpIn F n P Q { a with defers := { target := .collected D, args := #[] } :: a.defers } W) :
    (Code.rangeFunc g ps assign body).wpIn F n P Q a w := by
  refine wpIn_rangeFunc fun fn hfn => ?_
  rw [hro]
  let rc : LoopState → Option Code → Loop := fun st pe => { state := st, pending := pe, fn, tmps := a.tmps, params := ps, assign, body, defers := w.heap.size }
  obtain ⟨W1, hW1⟩ : ∃ W1, (w.alloc (.deferred (some []))).alloc (.loop (rc .ready none)) = W1 := ⟨_, rfl⟩
  have bk1 : Books W1 w.heap.size (rc .ready none) := by
    rw [← hW1]
    refine ⟨?_, (Below.heap_alloc _ _ _ (by simp)).trans (World.alloc_heap_new w _)⟩
    have := World.alloc_heap_new (w.alloc (.deferred (some []))) (.loop (rc .ready none))
    rwa [World.size_alloc] at this
  have hsz : w.heap.size ≤ W1.heap.size := by rw [← hW1]; simp; omega
  have bel : Below w0.heap.size w0 W1 := by
    rw [← hW1]; exact hb0.trans ((((Below.refl _ w).alloc (Nat.le_refl _) _).alloc (by simp) _).mono hb0.size)
  have hsz2 : W1.heap.size = w.heap.size + 2 := by rw [← hW1]; simp
  have I1 : I W1.heap.size 0 W1 := hup w.heap.size 0 W1 (by rw [← hW1]; exact (hI _).alloc _ ((hI _).alloc _ h0))
  have walk : ∀ {A : World} {row : Option Nat}, (∀ r, row = some r → W1.heap.size ≤ r ∧ ∃ o : Obj, A.heap[r]? = some o ∧ o.isWalk = true) →
      (∀ r, row = some r → w.heap.size ≤ r ∧ ∃ o : Obj, A.heap[r]? = some o ∧ o.isCells = false) ∧ (∀ r, row = some r → ∃ o : Obj, A.heap[r]? = some o ∧ o.isWalk = true) := fun hr =>
    ⟨fun r e => by obtain ⟨h, o, ho, hw⟩ := hr r e; exact ⟨Nat.le_trans hsz h, o, ho, Obj.not_cells_of_walk hw⟩, fun r e => (hr r e).2⟩
  refine ⟨w.heap.size + 1, _, W1, { target := .fn (.func gf) lb, args := #[.func (.yield (w.heap.size + 1)) #[] #[]] }, W1, gf, #[.func (.yield (w.heap.size + 1)) #[] #[]] ++ lb, W1,
    hW1 ▸ run_enterLoop_outer fn _ _ _ _, by simp only [resolve, hg]; simp [go_sem], fun f' hf' => by simp [Target.leads] at hf'; subst hf'; exact hFg, by simp [invoke, go_sem, eg], fun _ => h1, ?_⟩
  refine (hseq (w.heap.size + 1) (fun k W => I W.heap.size k W ∧ Books W w.heap.size (rc .ready none)) (fun k W => ∃ c, Ix c k W ∧ Books W w.heap.size (rc .done (some c))) W1 bel (fun _ _ h => hR _ _ _ h.1)
    (fun s A B row hs hgr hr => ⟨hup _ _ _ (hI _ s A B row hs.1 hgr (walk hr).1), hs.2.kept hgr (walk hr).2⟩)
    (fun s A B row hs hgr hr => by obtain ⟨c, hc, hb⟩ := hs; exact ⟨c, hIx c s A B row hc hgr (walk hr).1, hb.kept hgr (walk hr).2⟩) ?_ ⟨I1, bk1⟩).mono ?_
  · rintro k Y W hkm ⟨hi0, bk0⟩ hYW
    have hH : w.heap.size + 2 ≤ Y.heap.size := (Array.getElem?_eq_some_iff.1 bk0.loop).1
    obtain ⟨H, hHH⟩ : ∃ H, Y.heap.size = H := ⟨_, rfl⟩
    have hi : I H k W := by rw [← hHH]; exact hI _ k Y W none hi0 (below_grown hYW) (fun r e => by cases e)
    have bk : Books W w.heap.size (rc .ready none) := bk0.kept (below_grown hYW) (fun r e => by cases e)
    have hHW : H ≤ W.heap.size := by rw [← hHH]; exact hYW.size
    rw [hHH] at hH ⊢
    obtain ⟨G, hG⟩ : ∃ G, W.heap.size = G := ⟨_, rfl⟩
    have hy := run_yield (P := P) (args := encs k) bk.loop (hps k)
    refine ⟨fn, _, assign, body, hy, roundIn_of_wpIn hfn (hassign _ H k W _ hH hHW hkm hi ?_)⟩
    clear hy
    intro a' Wa hkf hsta hia hax
    rw [hG] at hsta ⊢
    replace bk := bk.from hkf
    refine ⟨_, run_beginRound bk.loop rfl, ?_⟩
    have bk2 := bk.put (rc .busy none)
    refine wpIn_mono (hbody _ H G k a' _ (by omega) ⟨_, bk2.loop⟩ hH (by omega) (by simp; have := hsta.1; omega) hkm ((hI H).putObj _ hia (by omega) bk.loop rfl) ((hAx k a').putObj (s := ()) _ hax (by omega) bk.loop rfl)) ?_
    have out : ∀ (j : Option Code) (W3 : World), KeepsFrom w.heap.size (Wa.putObj (w.heap.size + 1) (.loop (rc .busy none))) W3 → (Instr.endRound (w.heap.size + 1) j).run P W3 = .ok (.bool j.isNone) (W3.putObj (w.heap.size + 1) (.loop (rc (if j.isNone then .ready else .done) j))) ∧
        W3.heap[w.heap.size + 1]? = some (.loop (rc .busy none)) ∧ Books (W3.putObj (w.heap.size + 1) (.loop (rc (if j.isNone then .ready else .done) j))) w.heap.size (rc (if j.isNone then .ready else .done) j) := fun j W3 hk =>
      ⟨run_endRound j (bk2.from hk).loop, (bk2.from hk).loop, (bk2.from hk).put _⟩
    rintro (_ | id | t | _ | ch | _) a3 W3 hp
    · obtain ⟨⟨hk, hst3⟩, hi3⟩ := hp
      have hS := (hsta.trans (StayG.put (l := w.heap.size + 1) (Obj.loop (rc .busy none)) (by omega))).trans hst3
      obtain ⟨h2, h3, h4⟩ := out none W3 hk
      exact ⟨_, _, h2, hS.trans (StayG.put _ (by omega)), .inl ⟨rfl, hup _ _ _ ((hI _).putObj _ hi3 (by omega) h3 rfl), h4⟩⟩
    · obtain ⟨⟨hk, hst3⟩, hi3⟩ := hp
      have hS := (hsta.trans (StayG.put (l := w.heap.size + 1) (Obj.loop (rc .busy none)) (by omega))).trans hst3
      obtain ⟨h2, h3, h4⟩ := out (some (.exit id)) W3 hk
      exact ⟨_, _, h2, hS.trans (StayG.put _ (by omega)), .inr ⟨rfl, _, (hIx _).putObj _ hi3 (by omega) h3 rfl, h4⟩⟩
    · obtain ⟨⟨hk, hst3⟩, hi3⟩ := hp
      have hS := (hsta.trans (StayG.put (l := w.heap.size + 1) (Obj.loop (rc .busy none)) (by omega))).trans hst3
      obtain ⟨h2, h3, h4⟩ := out (some (.goto t)) W3 hk
      exact ⟨_, _, h2, hS.trans (StayG.put _ (by omega)), .inr ⟨rfl, _, (hIx _).putObj _ hi3 (by omega) h3 rfl, h4⟩⟩
    · obtain ⟨⟨hk, hst3⟩, hi3⟩ := hp
      have hS := (hsta.trans (StayG.put (l := w.heap.size + 1) (Obj.loop (rc .busy none)) (by omega))).trans hst3
      obtain ⟨h2, h3, h4⟩ := out (some .ret) W3 hk
      exact ⟨_, _, h2, hS.trans (StayG.put _ (by omega)), .inr ⟨rfl, _, (hIx _).putObj _ hi3 (by omega) h3 rfl, h4⟩⟩
    · exact hp.elim
    · exact hp.elim
  · rintro e W2 ⟨⟨v, rfl⟩, ⟨hi, bk⟩ | ⟨k, hk, c, hi, bk⟩⟩
    · exact ⟨none, _, run_endLoop bk.loop (by simp [rc]), hdone _ _ (Nat.le_refl _) (hup _ _ _ ((hI _).putObj _ hi (by omega) bk.loop rfl)) (bk.put _).defers⟩
    · exact ⟨some c, _, run_endLoop bk.loop (by simp [rc]), hstop _ c k _ (Nat.le_refl _) hk ((hIx c).putObj _ hi (by omega) bk.loop rfl) (bk.put _).defers⟩
end Go.Proofs.Ytfihpljgbghogaa

