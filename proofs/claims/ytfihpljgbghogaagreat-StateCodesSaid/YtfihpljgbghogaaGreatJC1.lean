/- The ground of the proofs, part 1. -/
import Derived.WalkKit
import Derived.Laws.BitsAllLaws
import Derived.Below
import Derived.Laws.OwnMore
import Derived.Laws.Rows
import Derived.OwnWalk
import Derived.RangeFuncSeq
import Derived.Deep.MidRow
import Derived.Test.YtfihpljgbghogaaGreatProg
import Derived.Deep.WholeRow
import Derived.ChangeKeysEq
import Derived.Lib.Hide
import Derived.Laws.ResultCell
import Derived.Great.BuildSlice
import Derived.StillTailTactics
import Derived.OrdersIn
import Derived.RangeFuncCalls
import Derived.RangeFuncKeeps
import Derived.RangeFuncBox
import Derived.Laws.CopyOwn
import Derived.TacticsIn
import Derived.OwnWalkIn
import Derived.OrdersHeld
import Derived.StillTail
import Derived.BigQuiet
import Derived.Test.YtfihpljgbghogaaGreatRows
import Derived.ProofKit
import Derived.OpenShut
import Derived.ShutString
import Derived.ChangeOld
import Derived.Deep.Slices
import Derived.Lib.SmallJoins
import Derived.RangeFuncOwn
import Derived.RangeFuncNested
import Derived.RangeFuncBound
import Derived.Shelf.Abstract
import Derived.Laws.BytesArg
import Derived.Maps.AppendAt
import Derived.WalkMore
import Derived.LoopTactic
import Derived.Lib.AppendZerosOnto
import Derived.Lib.Overlaps
import Derived.Shelf.Sort.Plain
import Derived.Ground.Names2Prog
import Derived.Shelf.Slices.CompactI
import Derived.Lib.OwnBridge
import Derived.Sort.OwnSortedInts
import Derived.RangeFuncLeaves
import Derived.Shelf.RegionOpen
import Derived.TacticsInMore
import Derived.LoopNIn
import Derived.LoopIn
/- Plain facts on numbers and their bytes; no program is named here. -/
namespace Go.Proofs.YtfihpljgbghogaaGreat
open Go.RowKit
set_option linter.unusedVariables false

/-- The number that the first k bytes stand for, the lowest first. -/
def getN (bs : List Int) : Nat → Int
  | 0 => 0
  | k + 1 => getN bs k + bs[k]?.getD 0 * 2 ^ (8 * k)

/-- All numbers of a list fit a byte. -/
def IsBytes (bs : List Int) : Prop := ∀ j : Nat, 0 ≤ bs[j]?.getD 0 ∧ bs[j]?.getD 0 < 256

theorem pow_cases (P : Nat → Prop) (h0 : P 0) (h1 : P 1) (h2 : P 2) (h3 : P 3) (h4 : P 4) (h5 : P 5) (h6 : P 6) (h7 : P 7) (k : Nat) (hk : k < 8) : P k := by
  match k, hk with
  | 0, _ => exact h0
  | 1, _ => exact h1
  | 2, _ => exact h2
  | 3, _ => exact h3
  | 4, _ => exact h4
  | 5, _ => exact h5
  | 6, _ => exact h6
  | 7, _ => exact h7

/-- What a round of the reading makes of the number so far. -/
def orStep (v y : Int) (k : Nat) : Int := bits BinOp.or IntKind.u64 v (IntKind.u64.wrap (y * 2 ^ (8 * k)))

theorem wrap_u64_in (x : Int) (h0 : 0 ≤ x) (h1 : x < 18446744073709551616) : IntKind.u64.wrap x = x := by
  rw [IntKind.wrap_u64]; omega

theorem shl_lt (y : Int) (k : Nat) (hk : k < 8) (h0 : 0 ≤ y) (h1 : y < 256) : 0 ≤ y * 2 ^ (8 * k) ∧ y * 2 ^ (8 * k) < 18446744073709551616 := by
  revert y
  refine pow_cases (fun k => ∀ y : Int, 0 ≤ y → y < 256 → 0 ≤ y * 2 ^ (8 * k) ∧ y * 2 ^ (8 * k) < 18446744073709551616) ?_ ?_ ?_ ?_ ?_ ?_ ?_ ?_ k hk <;> (intro y h0 h1; simp only [Nat.reduceMul, Int.reducePow]; omega)

theorem orStep_eq (v y : Int) (k : Nat) (hk : k < 8) (hv0 : 0 ≤ v) (hv1 : v < 18446744073709551616) (h0 : 0 ≤ y) (h1 : y < 256) :
    orStep v y k = ((v.toNat ||| (y * 2 ^ (8 * k)).toNat : Nat) : Int) := by
  obtain ⟨a, b⟩ := shl_lt y k hk h0 h1
  unfold orStep
  rw [wrap_u64_in _ a b, u64_or v _ hv0 hv1 a b]

theorem orStep_bd (v y : Int) (k : Nat) (hk : k < 8) (hv0 : 0 ≤ v) (hv1 : v < 18446744073709551616) (h0 : 0 ≤ y) (h1 : y < 256) :
    0 ≤ orStep v y k ∧ orStep v y k < 18446744073709551616 := by
  obtain ⟨a, b⟩ := shl_lt y k hk h0 h1
  rw [orStep_eq v y k hk hv0 hv1 h0 h1]
  have := Nat.or_lt_two_pow (n := 64) (show v.toNat < 2 ^ 64 by simp only [Nat.reducePow]; omega) (show (y * 2 ^ (8 * k)).toNat < 2 ^ 64 by simp only [Nat.reducePow]; omega)
  simp only [Nat.reducePow] at this
  omega

theorem orStep_add (v y : Int) (k : Nat) (hk : k < 8) (hv0 : 0 ≤ v) (hv1 : v < 18446744073709551616) (hvk : v < 2 ^ (8 * k)) (h0 : 0 ≤ y) (h1 : y < 256) :
    orStep v y k = v + y * 2 ^ (8 * k) := by
  rw [orStep_eq v y k hk hv0 hv1 h0 h1]
  obtain ⟨a, rfl⟩ := Int.eq_ofNat_of_zero_le hv0
  obtain ⟨c, rfl⟩ := Int.eq_ofNat_of_zero_le h0
  have e1 : ((c : Int) * 2 ^ (8 * k)) = ((2 ^ (8 * k) * c : Nat) : Int) := by simp [Int.mul_comm]
  have ha : a < 2 ^ (8 * k) := by
    have : ((a : Nat) : Int) < ((2 ^ (8 * k) : Nat) : Int) := by simpa using hvk
    omega
  rw [e1, Int.toNat_natCast, Int.toNat_natCast, Nat.or_comm, ← Nat.two_pow_add_eq_or_of_lt ha c]
  omega

theorem getN_bd (bs : List Int) (h : IsBytes bs) : ∀ k : Nat, 0 ≤ getN bs k ∧ getN bs k < 2 ^ (8 * k)
  | 0 => by simp [getN]
  | k + 1 => by
    obtain ⟨a, b⟩ := getN_bd bs h k
    obtain ⟨c, d⟩ := h k
    have hp : (0 : Int) < 2 ^ (8 * k) := Int.pow_pos (by omega)
    have e : (2 : Int) ^ (8 * (k + 1)) = 256 * 2 ^ (8 * k) := by rw [show 8 * (k + 1) = 8 * k + 8 from by omega, Int.pow_add]; simp [Int.mul_comm]
    rw [e]
    unfold getN
    have h1 : 0 ≤ bs[k]?.getD 0 * 2 ^ (8 * k) := Int.mul_nonneg c (by omega)
    have h2 : bs[k]?.getD 0 * 2 ^ (8 * k) ≤ 255 * 2 ^ (8 * k) := Int.mul_le_mul_of_nonneg_right (by omega) (by omega)
    omega

theorem getN_step (bs : List Int) (h : IsBytes bs) (k : Nat) (hk : k < 8) : orStep (getN bs k) (bs[k]?.getD 0) k = getN bs (k + 1) := by
  obtain ⟨a, b⟩ := getN_bd bs h k
  obtain ⟨c, d⟩ := h k
  have hb : getN bs k < 18446744073709551616 := by
    refine Int.lt_of_lt_of_le b ?_
    refine pow_cases (fun k => (2 : Int) ^ (8 * k) ≤ 18446744073709551616) ?_ ?_ ?_ ?_ ?_ ?_ ?_ ?_ k hk <;> decide
  exact orStep_add _ _ k hk a hb b c d

theorem getN_plus (bs : List Int) (h : IsBytes bs) (k : Nat) (hk : k < 8) : IntKind.u64.wrap (getN bs k + IntKind.u64.wrap (bs[k]?.getD 0 * 2 ^ (8 * k))) = getN bs (k + 1) := by
  obtain ⟨a, b⟩ := getN_bd bs h (k + 1)
  obtain ⟨c, d⟩ := h k
  obtain ⟨e, f⟩ := shl_lt _ k hk c d
  have hb : (2 : Int) ^ (8 * (k + 1)) ≤ 18446744073709551616 := by
    refine pow_cases (fun k => (2 : Int) ^ (8 * (k + 1)) ≤ 18446744073709551616) ?_ ?_ ?_ ?_ ?_ ?_ ?_ ?_ k hk <;> decide
  rw [wrap_u64_in _ e f]
  exact wrap_u64_in (getN bs k + bs[k]?.getD 0 * 2 ^ (8 * k)) a (Int.lt_of_lt_of_le b hb)

/-- The number of places of a size. -/
def nPlaces (size : Int) : Nat := if size ≤ 8 then size.toNat else 8
theorem nPlaces_cases (size : Int) : (size ≤ 8 ∧ nPlaces size = size.toNat) ∨ (8 < size ∧ nPlaces size = 8) := by
  unfold nPlaces
  by_cases h : size ≤ 8
  · exact .inl ⟨h, if_pos h⟩
  · exact .inr ⟨by omega, if_neg h⟩
theorem nPlaces_le (size : Int) : nPlaces size ≤ 8 := by unfold nPlaces; split <;> omega
theorem nPlaces_lt {size : Int} {k : Nat} (h : k < nPlaces size) : (k : Int) < size := by unfold nPlaces at h; split at h <;> omega

def getL (bs : List Int) : Int := getN bs (nPlaces (bs.length : Int))

theorem prefix_snoc {m : Nat} {pre : List (Fin m)} {x : Fin m} (h : pre ++ [x] <+: List.finRange m) : pre <+: List.finRange m ∧ x.1 = pre.length := by
  obtain ⟨t, ht⟩ := h
  refine ⟨⟨x :: t, by rw [← ht]; simp⟩, ?_⟩
  have h1 : (List.finRange m)[pre.length]? = some x := by rw [← ht]; simp
  have h2 : pre.length < m := by
    have := congrArg List.length ht
    simp at this; omega
  rw [List.getElem?_eq_getElem (by simpa using h2)] at h1
  simp at h1
  rw [← h1]
/-- The bytes of a number, of which the first eight count. -/
def putL (n : Int) (size : Nat) : List Int := (List.range size).map fun i => if i < 8 then n / 2 ^ (8 * i) % 256 else 0
theorem putL_length (n : Int) (size : Nat) : (putL n size).length = size := by simp [putL]
theorem putL_get (n : Int) (size j : Nat) (h : j < size) : (putL n size)[j]?.getD 0 = if j < 8 then n / 2 ^ (8 * j) % 256 else 0 := by simp [putL, h]
theorem putL_bytes (n : Int) (size : Nat) : IsBytes (putL n size) := by
  intro j
  by_cases h : j < size
  · rw [putL_get n size j h]; split <;> omega
  · simp [putL, h]
/-- What lies there when some places are written. -/
def putF (n : Int) (size : Nat) {m : Nat} (pre : List (Fin m)) : List Value := (List.range size).map fun i => Value.int .u8 (if pre.any (fun x => x.1 == i) then n / 2 ^ (8 * i) % 256 else 0)
theorem putF_nil (n : Int) (size m : Nat) : putF n size (m := m) [] = List.replicate size (Value.int .u8 0) := by
  unfold putF
  apply List.ext_getElem
  · simp
  · intro i h1 h2; simp
theorem putF_snoc (n : Int) (size m : Nat) (pre : List (Fin m)) (x : Fin m) : putF n size (pre ++ [x]) = (putF n size pre).set x.1 (Value.int .u8 (n / 2 ^ (8 * x.1) % 256)) := by
  unfold putF
  apply List.ext_getElem
  · simp
  · intro i h1 h2
    simp only [List.getElem_map, List.getElem_range, List.getElem_set, List.any_append, List.any_cons, List.any_nil, Bool.or_false]
    by_cases e : x.1 = i
    · subst e; simp
    · rw [if_neg e]
      have : (x.1 == i) = false := by simpa using e
      rw [this, Bool.or_false]
theorem putF_all (n : Int) (size : Nat) : putF n size (List.finRange (nPlaces (size : Int))) = (putL n size).map (Value.int .u8) := by
  unfold putF putL
  rw [List.map_map]
  apply List.map_congr_left
  intro i hi
  have hi' : i < size := by simpa using hi
  have e : (List.finRange (nPlaces (size : Int))).any (fun x => x.1 == i) = decide (i < 8) := by
    rw [Bool.eq_iff_iff]
    simp only [List.any_eq_true, List.mem_finRange, true_and, beq_iff_eq, decide_eq_true_eq]
    constructor
    · rintro ⟨x, rfl⟩
      have := x.2
      have := nPlaces_le (size : Int)
      omega
    · intro h
      exact ⟨⟨i, by unfold nPlaces; split <;> omega⟩, rfl⟩
  simp only [Function.comp, e, decide_eq_true_eq]

/-- What lies there when the first k places are written. -/
def putP (n : Int) (size k : Nat) : List Value := (List.range size).map fun i => Value.int .u8 (if i < k then n / 2 ^ (8 * i) % 256 else 0)
theorem putP_zero (n : Int) (size : Nat) : putP n size 0 = List.replicate size (Value.int .u8 0) := by
  unfold putP
  apply List.ext_getElem
  · simp
  · intro i h1 h2; simp
theorem putP_succ (n : Int) (size k : Nat) : putP n size (k + 1) = (putP n size k).set k (Value.int .u8 (n / 2 ^ (8 * k) % 256)) := by
  unfold putP
  apply List.ext_getElem
  · simp
  · intro i h1 h2
    simp only [List.getElem_map, List.getElem_range, List.getElem_set]
    by_cases e : k = i
    · subst e; simp
    · rw [if_neg e]
      by_cases h : i < k
      · rw [if_pos h, if_pos (by omega)]
      · rw [if_neg h, if_neg (by omega)]
theorem putP_all (n : Int) (size : Nat) : putP n size (nPlaces (size : Int)) = (putL n size).map (Value.int .u8) := by
  unfold putP putL
  rw [List.map_map]
  apply List.map_congr_left
  intro i hi
  have hi' : i < size := by simpa using hi
  have e : (i < nPlaces (size : Int)) ↔ i < 8 := by unfold nPlaces; split <;> omega
  simp only [Function.comp, e]

/-- A number's bytes are the number, as far as they have room. -/
theorem getN_putL (n : Int) (hn : 0 ≤ n) (K : Nat) : ∀ j : Nat, j ≤ K → j ≤ 8 → getN (putL n K) j = n % 2 ^ (8 * j)
  | 0, _, _ => by simp [getN]
  | j + 1, h1, h2 => by
    have ih := getN_putL n hn K j (by omega) (by omega)
    unfold getN
    rw [ih, putL_get n K j (by omega), if_pos (by omega)]
    refine pow_cases (fun j => n % 2 ^ (8 * j) + n / 2 ^ (8 * j) % 256 * 2 ^ (8 * j) = n % 2 ^ (8 * (j + 1))) ?_ ?_ ?_ ?_ ?_ ?_ ?_ ?_ j (by omega) <;> (simp only [Nat.reduceMul, Nat.reduceAdd, Int.reducePow]; omega)
theorem getL_putL (n : Int) (h0 : 0 ≤ n) (h1 : n < 18446744073709551616) (K : Nat) : getL (putL n K) = if K < 8 then n % 2 ^ (8 * K) else n := by
  unfold getL
  rw [putL_length]
  by_cases h : K < 8
  · rw [if_pos h, show nPlaces (K : Int) = K from by unfold nPlaces; rw [if_pos (by omega)]; omega, getN_putL n h0 K K (Nat.le_refl _) (by omega)]
  · rw [if_neg h, show nPlaces (K : Int) = 8 from by unfold nPlaces; split <;> omega, getN_putL n h0 K 8 (by omega) (by omega)]
    simp only [Nat.reduceMul, Int.reducePow]
    omega

/-- Where the numbers of a slice value lie. -/
def LiesAt (k : IntKind) (w : World) (a : Option Addr) (bs : List Int) : Prop :=
  bs = [] ∨ ∃ b off, a = some ⟨b, off, none⟩ ∧ b < w.heap.size ∧ ∀ j, j < bs.length → w.cell? ⟨b, off + j, none⟩ = some (.int k (bs[j]?.getD 0))

/-- A slice value that leads to numbers of kind k. -/
def Sl (k : IntKind) (w : World) (v : Value) (bs : List Int) : Prop :=
  ∃ a cap, v = .slice a bs.length cap ∧ bs.length ≤ cap ∧ cap ≤ maxLen ∧ LiesAt k w a bs ∧ (a = none → cap = 0)
theorem Sl.nil (k : IntKind) (w : World) : Sl k w (.slice none 0 0) [] := ⟨none, 0, rfl, Nat.le_refl _, Nat.zero_le _, .inl rfl, fun _ => rfl⟩
theorem Sl.at {k : IntKind} {w : World} {b off cap : Nat} {bs : List Int} (h1 : bs.length ≤ cap) (h2 : cap ≤ maxLen) (h3 : b < w.heap.size) (h4 : ∀ j, j < bs.length → w.cell? ⟨b, off + j, none⟩ = some (.int k (bs[j]?.getD 0))) :
    Sl k w (.slice (some ⟨b, off, none⟩) bs.length cap) bs := ⟨_, cap, rfl, h1, h2, .inr ⟨b, off, rfl, h3, h4⟩, fun e => by cases e⟩
theorem Sl.below {k : IntKind} {w w' : World} {v : Value} {bs : List Int} (h : Sl k w v bs) (hb : Below w.heap.size w w') : Sl k w' v bs := by
  obtain ⟨a, cap, e, h1, h2, h, hn⟩ := h
  refine ⟨a, cap, e, h1, h2, ?_, hn⟩
  rcases h with h | ⟨b, off, e, h3, h4⟩
  · exact .inl h
  · exact .inr ⟨b, off, e, Nat.lt_of_lt_of_le h3 hb.size, fun j hj => (hb.cell (p := ⟨b, off + j, none⟩) h3).trans (h4 j hj)⟩
end Go.Proofs.YtfihpljgbghogaaGreat

/- Plain facts on sets of bits: numbers in bytes; no program is named here. -/
namespace Go.Proofs.YtfihpljgbghogaaGreat
open Go.RowKit
set_option linter.unusedVariables false

/-- Is the number i in? -/
def bitAt (bs : List Int) (i : Nat) : Bool := (bs[i / 8]?.getD 0).toNat.testBit (i % 8)
def hasB (bs : List Int) (i : Int) : Bool := decide (0 ≤ i) && bitAt bs i.toNat
def orI (x y : Int) : Int := ((x.toNat ||| y.toNat : Nat) : Int)
def withB (bs : List Int) (i : Int) : List Int := if 0 ≤ i ∧ i / 8 < bs.length then bs.set (i.toNat / 8) (orI (bs[i.toNat / 8]?.getD 0) (2 ^ (i.toNat % 8))) else bs
def allB (bs : List Int) : List Nat := (List.range (8 * bs.length)).filter (bitAt bs)
def sizeB (n : Int) : Nat := if n < 1 ∨ 4096 < n then 0 else ((n + 7) / 8).toNat
def goodB (bs : List Int) (n : Int) : Bool := decide (bs.length = sizeB n) && (allB bs).all (fun i => decide ((i : Int) < n))
/-- A byte's numbers, ascending. -/
def lowB (r : Nat) : List Nat := (List.range 8).filter r.testBit
def ctzN (r : Nat) : Nat := (lowB r).headD 8

theorem low_step : ∀ r : Fin 256, r.1 ≠ 0 → lowB r.1 = ctzN r.1 :: lowB (r.1 &&& (r.1 - 1)) := by decide +kernel
theorem low_next {r : Nat} (h : r < 256) (h0 : r ≠ 0) : lowB r = ctzN r :: lowB (r &&& (r - 1)) := low_step ⟨r, h⟩ h0
theorem low_zero : lowB 0 = [] := by decide +kernel
theorem ctz_lt : ∀ r : Fin 256, r.1 ≠ 0 → ctzN r.1 < 8 := by decide +kernel
theorem and_pred_lt (r : Nat) (h : r ≠ 0) : r &&& (r - 1) < r := by
  have := Nat.and_le_right (n := r) (m := r - 1)
  omega

theorem byte_of (bs : List Int) (h : IsBytes bs) (j : Nat) : ∃ n : Nat, bs[j]?.getD 0 = (n : Int) ∧ n < 256 := by
  obtain ⟨a, b⟩ := h j
  exact ⟨(bs[j]?.getD 0).toNat, by omega, by omega⟩

theorem bitAt_take (bs : List Int) (k i : Nat) (h : i < 8 * k) : bitAt (bs.take k) i = bitAt bs i := by
  unfold bitAt
  rw [List.getElem?_take, if_pos (by omega)]

theorem all_take (bs : List Int) (k : Nat) (hk : k < bs.length) :
    allB (bs.take (k + 1)) = allB (bs.take k) ++ (lowB (bs[k]?.getD 0).toNat).map (8 * k + ·) := by
  unfold allB
  have e1 : (bs.take (k + 1)).length = k + 1 := by rw [List.length_take]; omega
  have e2 : (bs.take k).length = k := by rw [List.length_take]; omega
  rw [e1, e2, show 8 * (k + 1) = 8 * k + 8 from by omega, List.range_add, List.filter_append]
  congr 1
  · apply List.filter_congr
    intro i hi
    have := List.mem_range.1 hi
    rw [bitAt_take _ _ _ this, bitAt_take _ _ _ (by omega)]
  · rw [List.filter_map]
    unfold lowB
    congr 1
    apply List.filter_congr
    intro i hi
    have := List.mem_range.1 hi
    show bitAt (bs.take (k + 1)) (8 * k + i) = _
    rw [bitAt_take _ _ _ (by omega)]
    unfold bitAt
    rw [show (8 * k + i) / 8 = k from by omega, show (8 * k + i) % 8 = i from by omega]

theorem all_len (bs : List Int) : (allB bs).length ≤ 8 * bs.length := by
  have := List.length_filter_le (bitAt bs) (List.range (8 * bs.length))
  simpa [allB] using this

theorem bit_in {bs : List Int} {i : Nat} (h : bitAt bs i = true) : i / 8 < bs.length := by
  unfold bitAt at h
  by_cases e : i / 8 < bs.length
  · exact e
  · rw [List.getElem?_eq_none (by omega)] at h; simp at h

theorem mem_all {bs : List Int} {i : Nat} : i ∈ allB bs ↔ bitAt bs i = true := by
  unfold allB
  rw [List.mem_filter, List.mem_range]
  exact ⟨fun h => h.2, fun h => ⟨by have := bit_in h; omega, h⟩⟩

theorem all_sorted (bs : List Int) : (allB bs).Pairwise (· < ·) := List.Pairwise.filter _ List.pairwise_lt_range

/-- All, gone through so far. -/
def allTo (bs : List Int) (i : Nat) : List Nat := (List.range i).filter (bitAt bs)
theorem allTo_succ (bs : List Int) (i : Nat) : allTo bs (i + 1) = allTo bs i ++ if bitAt bs i then [i] else [] := by
  unfold allTo
  rw [List.range_succ, List.filter_append]
  congr 1
  cases h : bitAt bs i <;> simp [h]
theorem allTo_all (bs : List Int) : allTo bs (8 * bs.length) = allB bs := rfl
theorem allTo_len (bs : List Int) (i : Nat) : (allTo bs i).length ≤ i := by
  have := List.length_filter_le (bitAt bs) (List.range i)
  simpa [allTo] using this

theorem orI_bd {x y : Int} (h1 : x < 256) (h2 : y < 256) : 0 ≤ orI x y ∧ orI x y < 256 := by
  unfold orI
  have := Nat.or_lt_two_pow (n := 8) (x := x.toNat) (y := y.toNat) (by simp only [Nat.reducePow]; omega) (by simp only [Nat.reducePow]; omega)
  simp only [Nat.reducePow] at this
  omega
theorem orI_bit (x y : Int) (j : Nat) : (orI x y).toNat.testBit j = (x.toNat.testBit j || y.toNat.testBit j) := by
  unfold orI
  rw [Int.toNat_natCast, Nat.testBit_or]
theorem pow8 (j : Nat) : ((2 : Int) ^ j).toNat = 2 ^ j := by
  rw [show (2 : Int) ^ j = ((2 ^ j : Nat) : Int) from by simp, Int.toNat_natCast]

theorem with_length (bs : List Int) (i : Int) : (withB bs i).length = bs.length := by unfold withB; split <;> simp
theorem with_bytes {bs : List Int} (h : IsBytes bs) (i : Int) : IsBytes (withB bs i) := by
  unfold withB
  split
  · intro j
    rw [List.getElem?_set]
    split
    · split
      · have hp : (2 : Int) ^ (i.toNat % 8) < 256 := by
          have := pow_cases (fun k => (2 : Int) ^ k < 256) (by decide) (by decide) (by decide) (by decide) (by decide) (by decide) (by decide) (by decide) (i.toNat % 8) (by omega)
          exact this
        exact orI_bd (h _).2 hp
      · simp
    · exact h j
  · exact h
theorem with_bit (bs : List Int) (i : Int) (k : Nat) : bitAt (withB bs i) k = (bitAt bs k || (decide (0 ≤ i ∧ i / 8 < bs.length) && k == i.toNat)) := by
  unfold withB
  by_cases h : 0 ≤ i ∧ i / 8 < bs.length
  · rw [if_pos h]
    have hl : i.toNat / 8 < bs.length := by omega
    unfold bitAt
    rw [List.getElem?_set]
    by_cases e : i.toNat / 8 = k / 8
    · rw [if_pos e, if_pos (by omega), Option.getD_some, orI_bit, pow8, Nat.testBit_two_pow, e]
      congr 1
      simp only [h, decide_true, Bool.true_and, and_self]
      rw [Bool.eq_iff_iff]
      simp only [decide_eq_true_eq, beq_iff_eq]
      omega
    · rw [if_neg e]
      have : (k == i.toNat) = false := by
        rw [beq_eq_false_iff_ne]
        intro e2; exact e (by rw [e2])
      rw [this, Bool.and_false, Bool.or_false]
  · rw [if_neg h, decide_eq_false h, Bool.false_and, Bool.or_false]

theorem has_nat (bs : List Int) (i : Nat) : hasB bs (i : Int) = bitAt bs i := by unfold hasB; simp
end Go.Proofs.YtfihpljgbghogaaGreat

/- Tables of pairs, as plain facts: where a block is found, what is put, both together, what may be; no program. -/
namespace Go.Proofs.YtfihpljgbghogaaGreat
set_option linter.unusedVariables false

/-- Numbers of an int. -/
def Is64 (n : Int) : Prop := -9223372036854775808 ≤ n ∧ n ≤ 9223372036854775807
def Is64s (l : List (Int × Int)) : Prop := ∀ p ∈ l, Is64 p.1 ∧ Is64 p.2

/-- Where the first pair of this block is. -/
def tFind (l : List (Int × Int)) (b : Int) : Option Nat := l.findIdx? fun p => p.1 == b
theorem tFind_some {l : List (Int × Int)} {b : Int} {i : Nat} : tFind l b = some i ↔ (∃ p, l[i]? = some p ∧ p.1 = b) ∧ ∀ (j : Nat) (p : Int × Int), j < i → l[j]? = some p → p.1 ≠ b := by
  unfold tFind
  rw [List.findIdx?_eq_some_iff_getElem]
  constructor
  · rintro ⟨h, h1, h2⟩
    refine ⟨⟨l[i], List.getElem?_eq_getElem h, by simpa using h1⟩, fun j p hj hp => ?_⟩
    have := h2 j hj
    obtain ⟨hl, rfl⟩ := List.getElem?_eq_some_iff.1 hp
    simpa using this
  · rintro ⟨⟨p, hp, hb⟩, h2⟩
    obtain ⟨hl, rfl⟩ := List.getElem?_eq_some_iff.1 hp
    refine ⟨hl, by simpa using hb, fun j hj => ?_⟩
    have := h2 j _ hj (List.getElem?_eq_getElem (by omega))
    simpa using this
theorem tFind_none {l : List (Int × Int)} {b : Int} : tFind l b = none ↔ ∀ (j : Nat) (p : Int × Int), l[j]? = some p → p.1 ≠ b := by
  unfold tFind
  rw [List.findIdx?_eq_none_iff]
  constructor
  · intro h j p hj
    have := h p (List.mem_of_getElem? hj)
    simpa using this
  · intro h p hp
    obtain ⟨j, hj⟩ := List.getElem?_of_mem hp
    simpa using h j p hj
/-- Its number, or -1; its At, or 0. -/
def tIx (l : List (Int × Int)) (b : Int) : Int := match tFind l b with
  | some i => (i : Int)
  | none => -1
/-- Do the blocks rise from above this one, and stand all within? -/
def tRise (blocks area : Int) : Int → List (Int × Int) → Bool
  | _, [] => true
  | last, p :: l => decide (last < p.1) && decide (p.1 < blocks) && decide (0 ≤ p.2) && decide (p.2 < area) && tRise blocks area p.1 l
def tGood (l : List (Int × Int)) (blocks area : Int) : Bool := tRise blocks area (-1) l && decide (l.map (·.2)).Nodup
theorem tRise_step {l : List (Int × Int)} {k : Nat} {x y : Int} (h : l[k]? = some (x, y)) (blocks area last : Int) :
    tRise blocks area last (l.drop k) = (decide (last < x) && decide (x < blocks) && decide (0 ≤ y) && decide (y < area) && tRise blocks area x (l.drop (k + 1))) := by
  obtain ⟨hk, hp⟩ := List.getElem?_eq_some_iff.1 h
  rw [List.drop_eq_getElem_cons hk, hp]
  rfl
end Go.Proofs.YtfihpljgbghogaaGreat

/- Plain facts on chains of snapshots; no program is named here. -/
namespace Go.Proofs.YtfihpljgbghogaaGreat
open Go.RowKit
set_option linter.unusedVariables false

/-- A snapshot: its Id, what changed, where its blocks stand. -/
structure SN where
  id : Int
  ch : List Int
  tb : List (Int × Int)
structure SN.Ok (s : SN) : Prop where
  id : Is64 s.id
  ch : IsBytes s.ch
  tb : Is64s s.tb
/-- None is longer than this. -/
def Lens (K : Nat) (l : List SN) : Prop := l.length ≤ K ∧ ∀ s ∈ l, s.ch.length ≤ K ∧ s.tb.length ≤ K

theorem drop_at {α : Type} {l : List α} {k : Nat} {s : α} (h : l[k]? = some s) : l.drop k = s :: l.drop (k + 1) := by
  obtain ⟨hk, hp⟩ := List.getElem?_eq_some_iff.1 h
  rw [List.drop_eq_getElem_cons hk, hp]
theorem take_at {α : Type} {l : List α} {k : Nat} {s : α} (h : l[k]? = some s) : l.take (k + 1) = l.take k ++ [s] := by
  rw [List.take_add_one, h]; rfl

/-! Index -/
def firstId : List SN → Int → Nat → Int
  | [], _, _ => -1
  | s :: l, id, k => if s.id = id then (k : Int) else firstId l id (k + 1)
def cIndex (l : List SN) (id : Int) : Int := firstId l id 0
theorem firstId_at {l : List SN} {id : Int} {k : Nat} {s : SN} (h : l[k]? = some s) : firstId (l.drop k) id k = if s.id = id then (k : Int) else firstId (l.drop (k + 1)) id (k + 1) := by
  rw [drop_at h]; rfl
theorem firstId_end {l : List SN} {id : Int} {k : Nat} (h : l.length ≤ k) : firstId (l.drop k) id k = -1 := by
  rw [List.drop_of_length_le h]; rfl

/-! Holder -/
/-! Changed -/
/-- Where they begin and end, as far as they exist. -/
def loOf (i : Int) : Nat := i.toNat
def hiOf (l : List SN) (j : Int) : Nat := if j < (l.length : Int) then j.toNat else l.length
theorem hiOf_le (l : List SN) (j : Int) : hiOf l j ≤ l.length := by unfold hiOf; split <;> omega
/-! Good -/
def fitS (s : SN) (bl ar : Int) : Bool := goodB s.ch bl && (tGood s.tb bl ar && s.tb.all fun p => hasB s.ch p.1)
def fullS (s : SN) : Bool := decide ((allB s.ch).length = s.tb.length)
def cRise (bl ar : Int) : Int → List SN → Bool
  | _, [] => true
  | last, s :: l => decide (last < s.id) && (decide (s.id ≤ 1000000) && (fitS s bl ar && ((decide (l.length = 0) || fullS s) && cRise bl ar s.id l)))
theorem cRise_cons (bl ar last : Int) (s : SN) (l : List SN) : cRise bl ar last (s :: l) = (decide (last < s.id) && (decide (s.id ≤ 1000000) && (fitS s bl ar && ((decide (l.length = 0) || fullS s) && cRise bl ar s.id l)))) := rfl
def cAts (l : List SN) : List Int := (l.map fun s => s.tb.map (·.2)).flatten
def cGood (l : List SN) (bl ar : Int) : Bool := decide (l.length ≤ 8) && (cRise bl ar 0 l && decide (cAts l).Nodup)
theorem cAts_snoc (l : List SN) (s : SN) : cAts (l ++ [s]) = cAts l ++ s.tb.map (·.2) := by unfold cAts; simp
theorem cRise_at {l : List SN} {k : Nat} {s : SN} (h : l[k]? = some s) (bl ar last : Int) : cRise bl ar last (l.drop k) = (decide (last < s.id) && (decide (s.id ≤ 1000000) && (fitS s bl ar && ((decide (l.length ≤ k + 1) || fullS s) && cRise bl ar s.id (l.drop (k + 1)))))) := by
  rw [drop_at h]
  rw [cRise_cons, List.length_drop, show decide (l.length - (k + 1) = 0) = decide (l.length ≤ k + 1) from by congr 1; simp; omega]
theorem cRise_end {l : List SN} {k : Nat} (h : l.length ≤ k) (bl ar last : Int) : cRise bl ar last (l.drop k) = true := by
  rw [List.drop_of_length_le h]; rfl
theorem cAts_len {K : Nat} : ∀ (l : List SN), (∀ s ∈ l, s.tb.length ≤ K) → (cAts l).length ≤ l.length * K
  | [], _ => by simp [cAts]
  | s :: l, h => by
    have := cAts_len l fun t ht => h t (List.mem_cons_of_mem _ ht)
    have h1 := h s (List.mem_cons_self ..)
    show (((s :: l).map fun s => s.tb.map (·.2)).flatten).length ≤ _
    rw [List.map_cons, List.flatten_cons, List.length_append, List.length_map, List.length_cons]
    rw [Nat.add_mul]
    unfold cAts at this
    omega

/-! Drop and Cut -/
end Go.Proofs.YtfihpljgbghogaaGreat

/- Cells of one's own: a block with these cells; rows that lie apart by their elements' types. -/
namespace Go.Proofs.YtfihpljgbghogaaGreat
open Go.RowKit
set_option linter.unusedVariables false

theorem row_range {W : World} {B : Nat} {c : List Value} {t : TypeId} (h : W.heap[B]? = some (.cells c.toArray t (0, 0))) : W.rangeAt B 0 c := fun j x hx => by
  rw [cell_of_row _ _ _ _ _ _ h, Nat.zero_add]
  simpa using hx
/-- Block B has these cells. -/
def RowC (x : World) (B : Nat) (t : TypeId) (C : List Value) : Prop := x.heap[B]? = some (.cells C.toArray t (0, 0))
section
variable {x y : World} {B : Nat} {t : TypeId} {C : List Value}
theorem RowC.lt (h : RowC x B t C) : B < x.heap.size := (Array.getElem?_eq_some_iff.1 h).1
theorem RowC.below (h : RowC x B t C) (hb : Below x.heap.size x y) : RowC y B t C := (hb.block B h.lt).trans h
theorem RowC.belowN {N : Nat} (h : RowC x B t C) (hb : Below N x y) (hB : B < N) : RowC y B t C := (hb.block B hB).trans h
theorem RowC.range (h : RowC x B t C) : x.rangeAt B 0 C := row_range h
theorem RowC.cell (h : RowC x B t C) (j : Nat) (v : Value) (hj : C[j]? = some v) : x.cell? ⟨B, j, none⟩ = some v := by
  have := h.range j v hj
  rwa [Nat.zero_add] at this
theorem RowC.frozen (h : RowC x B t C) (j : Nat) : x.frozen? ⟨B, j, none⟩ = false := by
  have h' : x.heap[B]? = some (.cells C.toArray t (0, 0)) := h
  simp [World.frozen?, h']
theorem RowC.set (h : RowC x B t C) (j : Nat) (v : Value) : RowC (x.setCell ⟨B, j, none⟩ v) B t (C.set j v) := by
  have h' : x.heap[B]? = some (.cells C.toArray t (0, 0)) := h
  obtain ⟨hlt, hk⟩ := Array.getElem?_eq_some_iff.1 h'
  show (x.heap.modify B _)[B]? = _
  rw [Array.getElem?_eq_getElem (by rw [Array.size_modify]; exact hlt), Array.getElem_modify_self, hk]
  simp
theorem RowC.new (x : World) (t : TypeId) (C : List Value) : RowC (x.alloc (.cells C.toArray t)) x.heap.size t C := heap_alloc_new x _
end
theorem below_new (x : World) (o : Obj) : Below x.heap.size x (x.alloc o) := (Below.refl _ x).alloc (Nat.le_refl _) _
theorem own_belowT {x x' : World} {N e sz n : Nat} {v : Value} {xs : List Value} (h : x.ownsRow N e sz v n xs) (hb : Below x.heap.size x x') : x'.ownsRow N e sz v n xs := by
  refine ⟨h.1, ?_⟩
  rcases h.2 with h' | ⟨g, cap, cur, rfl, a1, a2, a3⟩
  · exact .inl h'
  · exact .inr ⟨g, cap, cur, rfl, a1, (hb.block g (Array.getElem?_eq_some_iff.1 a2).1).trans a2, a3⟩
theorem row_ne {x : World} {N e sz n B : Nat} {v : Value} {xs C : List Value} {t : TypeId} (h : x.ownsRow N e sz v n xs) (hB : RowC x B t C) (hne : e ≠ t) : v.ownBlock ≠ some B := by
  rcases h.2 with ⟨rfl, _⟩ | ⟨g, cap, cur, rfl, _, hg, _⟩
  · simp [Value.ownBlock]
  · intro e'
    obtain rfl : g = B := by simpa [Value.ownBlock] using e'
    have hB' : x.heap[g]? = some (.cells C.toArray t (0, 0)) := hB
    rw [hg] at hB'
    cases hB'
    exact hne rfl
theorem rows_ne {x : World} {N N' e e' sz sz' n n' : Nat} {v v' : Value} {xs xs' : List Value} (h : x.ownsRow N e sz v n xs) (h' : x.ownsRow N' e' sz' v' n' xs') (hne : e ≠ e') : v.ownBlock = none ∨ v.ownBlock ≠ v'.ownBlock := by
  rcases h.2 with ⟨rfl, _⟩ | ⟨g, cap, cur, rfl, _, hg, _⟩
  · exact .inl rfl
  · right
    rcases h'.2 with ⟨rfl, _⟩ | ⟨g', cap', cur', rfl, _, hg', _⟩
    · simp [Value.ownBlock]
    · intro ee
      obtain rfl : g = g' := by simpa [Value.ownBlock] using ee
      rw [hg] at hg'
      cases hg'
      exact hne rfl
theorem grownBy_setCellJ (W : World) (b j : Nat) (v : Value) : W.grownBy (W.setCell ⟨b, j, none⟩ v) (some b) :=
  ⟨rfl, rfl, rfl, (KeepsWalks.setCell W _ v).size, fun k _ hk => Below.heap_setCell _ _ _ k (fun e => hk (by rw [e]))⟩
theorem RowC.grown {x y : World} {B : Nat} {t : TypeId} {C : List Value} {row : Option Nat} (h : RowC x B t C) (hg : x.grownBy y row) (hne : row ≠ some B) : RowC y B t C := (hg.block B h.lt (fun e => hne e.symm)).trans h
theorem row_lenT {W : World} {base sz n : Nat} {e : TypeId} {v : Value} {xs : List Value} (h : W.ownsRow base e sz v n xs) : ∃ ra c, v = .slice ra n c ∧ (0 < n → ∃ g, ra = some ⟨g, 0, none⟩ ∧ g < W.heap.size ∧ W.rangeAt g 0 xs) := by
  rcases h.2 with ⟨rfl, rfl⟩ | ⟨g, cap, cur, rfl, _, hg, _⟩
  · exact ⟨_, _, rfl, fun h => absurd h (by omega)⟩
  · refine ⟨_, _, rfl, fun _ => ⟨g, rfl, (Array.getElem?_eq_some_iff.1 hg).1, fun j u hj => ?_⟩⟩
    have := h.cells (g := g) rfl j u hj
    rwa [Addr.add_mid] at this

end Go.Proofs.YtfihpljgbghogaaGreat

/- Blocks: their cells, read and written at once; two blocks held against each other. Needs the types api.Block and uint8. -/
namespace Go.Proofs.YtfihpljgbghogaaGreat
open Go.RowKit
set_option linter.unusedVariables false

/-- A block of one byte. -/
def fillB (v : Int) : List Value := List.replicate 64 (.int .u8 v)
def zarr : Array Value := (fillB 0).toArray
/-- Results that lie in a cell. -/
theorem results_cell {P : Program} {fn : Func} {p : Tmp} {ty : TypeId} {tmps : Array Value} {w : World} {ad : Addr} {v : Value} (h : fn.results = #[.cell p ty]) (ha : tmps.getD p undef = .pointer (some ad)) (hl : (loadVar ty ad).run P w = .ok v w) :
    (results fn tmps).run P w = .ok v w := by
  have e : (asAddr (.pointer (some ad))).run P w = .ok ad w := by simp [asAddr]
  have ha' : tmps[p]?.getD undef = .pointer (some ad) := by simpa using ha
  simp [results, h, Sem.run_bind, Result.andThen, ha', e, hl]
theorem results_cell2 {P : Program} {fn : Func} {p u : Tmp} {ty : TypeId} {tmps : Array Value} {w : World} {ad : Addr} {v : Value} (h : fn.results = #[.cell p ty, .tmp u]) (ha : tmps.getD p undef = .pointer (some ad)) (hl : (loadVar ty ad).run P w = .ok v w) :
    (results fn tmps).run P w = .ok (.tuple #[v, tmps.getD u undef]) w := by
  have e : (asAddr (.pointer (some ad))).run P w = .ok ad w := by simp [asAddr]
  have ha' : tmps[p]?.getD undef = .pointer (some ad) := by simpa using ha
  simp [results, h, Sem.run_bind, Result.andThen, ha', e, hl]

/-- Are two rows of cells alike? -/
noncomputable def alike (a b : List Value) : Bool := @decide (a = b) (Classical.propDecidable _)
end Go.Proofs.YtfihpljgbghogaaGreat

/- A region that draws its order, in a round of a loop over a function, at the wide fence: walked once, its tail in order. -/
namespace Go.Proofs.YtfihpljgbghogaaGreat
open Go.RowKit
set_option linter.unusedVariables false

section
variable {l n : Nat} {P : Program} {ops : Array Oper} {Q : Exit → Act → World → Prop} {md : Region.Mode}

theorem op_round {o : Oper} {a : Act} {w : World} {K : Act → World → Prop} (hd : ∀ c, o.op ≠ .defer c) (h : o.wp P a w K Q) : o.wpIn (Fence.wide.inRound l) n P a w K Q := by
  unfold Oper.wpIn
  refine ⟨fun _ _ => trivial, ?_⟩
  rw [Oper.semAt_eq _ _ _ hd]
  unfold Oper.wp at h
  generalize (execOp a.eval o).run P w = r at *
  cases r with
  | ok x w' =>
    cases x <;> simp only [Oper.upon, Oper.uponIn] at h ⊢ <;>
      first
        | exact h
        | exact ⟨fun e => by simp [Fence.wide] at e, CallsIn.inRound l (callsIn_wide.2 h)⟩
        | exact ⟨fun e => by simp [Fence.wide] at e, fun c cs _ => let ⟨v, w', r, s⟩ := h c cs; ⟨v, w', r, stepsIn_wide.2 s⟩⟩
  | halt x w' => cases x <;> simp only [Oper.upon, Oper.uponIn] at h ⊢ <;> exact h

/-- No operation of the region is a deferred call. -/
def noDefer (ops : Array Oper) : Bool := ops.all fun o => match o.op with | .defer _ => false | _ => true
theorem noDefer_spec {i : Nat} {o : Oper} (h : noDefer ops = true) (hi : ops[i]? = some o) : ∀ c, o.op ≠ .defer c := by
  intro c e
  unfold noDefer at h
  rw [Array.all_eq_true] at h
  obtain ⟨hlt, hk⟩ := Array.getElem?_eq_some_iff.1 hi
  have := h i hlt
  rw [hk, e] at this
  cases this

theorem opAt_round {i : Nat} {a : Act} {w : World} {K : Act → World → Prop} (hL : ¬ LetsOut Q) (hd : noDefer ops = true) (h : wpOp P ops Q i K a w) : wpOpIn (Fence.wide.inRound l) n P ops Q i K a w := by
  unfold wpOp at h
  unfold wpOpIn
  cases ho : ops[i]? with
  | none => simpa [ho] using h
  | some o =>
    simp only [ho] at h ⊢
    by_cases hw : Region.wanted o (yielded ops a.tmps) = true
    · simp only [hw, if_true] at h ⊢
      rcases h with h | h
      · exact op_round (noDefer_spec hd ho) h
      · exact absurd h.2 hL
    · simp only [hw] at h ⊢
      exact ⟨fun _ _ => trivial, h⟩

theorem any_round (hL : ¬ LetsOut Q) (hd : noDefer ops = true) : ∀ (fuel : Nat) (listed : Array Bool) (a : Act) (w : World), wpAny P md ops Q fuel listed a w → wpAnyIn (Fence.wide.inRound l) n P md ops Q fuel listed a w
  | 0, _, _, _, h => h
  | fuel + 1, listed, a, w, h => ⟨h.1, fun i hi => wpOpIn_mono (fun a w => any_round hL hd fuel _ a w) (opAt_round hL hd (h.2 i hi))⟩

theorem region_round {id : Nat} {a : Act} {w : World} {l' : List Oper} (k : Nat) (hL : ¬ LetsOut Q) (hd : noDefer l'.toArray = true) (hm : P.follows .mixedOrders = true) (hB : Region.lexTailB .any l'.toArray k = true)
    (h : wpStill P l'.toArray w.drew (fun a' => wpList P l'.toArray Q (l'.drop k) a' w.drew) (l'.take k) a) : (Code.region id l'.toArray true).wpIn (Fence.wide.inRound l) n P Q a w := by
  simp only [Region.lexTailB, Bool.and_eq_true, decide_eq_true_eq] at hB
  obtain ⟨⟨⟨⟨hsel, hn⟩, hs⟩, hc⟩, hlex⟩ := hB
  have htl : (l'.take k).length = k := by simp at hn ⊢; omega
  have hdl : (l'.drop k).length = l'.toArray.size - k := by simp
  have inv0 : HeadInv .any l'.toArray k (Array.replicate l'.toArray.size false) :=
    ⟨by simp, fun j oj _ hl => (by rw [getD_replicate_false] at hl; cases hl), fun t _ ht => getD_in (by simpa using ht) (getD_replicate_false _ _)⟩
  have H := wpAnyL_lex (md := .any) (g := l'.toArray.size - k) hsel hs hc hn (l'.take k) 0 _ a (fun j hj => by
    have hj' : j < k := by rw [htl] at hj; exact hj
    simp [hj']) (by simpa using htl) inv0 (by rw [htl]; exact hlex) h
  refine wpIn_region_any hm (any_round hL hd _ _ _ _ ?_)
  have := wpAny_of_head (Q' := Q) (g := l'.toArray.size - k) (fun listed a' hL => by
    have := wpAny_of_seq (md := .any) (Q' := Q) (l'.drop k) k listed a' w.drew (fun j => by simp [List.getElem?_drop]) (by rw [hdl]; exact hL.1) hL.2
    rwa [hdl] at this) _ _ _ H
  rw [htl, show k + (l'.toArray.size - k) = l'.toArray.size from by simp at hn ⊢; omega] at this
  exact this

theorem letsOut_inBlock {id : Nat} (h : ¬ LetsOut Q) : ¬ LetsOut (Exit.inBlock id Q) := fun ⟨a, w, e⟩ => h ⟨a, w, e⟩
end

/-- make of so many elements, inside a fence. -/
theorem wpListIn_make_full {F : Fence} {n : Nat} {P : Program} (w : World) {ops : Array Oper} {rest : List Oper} {o : Oper} {a : Act} {Q : Exit → Act → World → Prop}
    (hg : o.guard = none) (l c : Operand) (t : TypeId) (hop : o.op = Op.makeSlice t l c)
    (base : Nat) (e : TypeId) (i : TypeInfo) (z : Value) (size : Nat) (h1 : P.underlying t = some (.slice e)) (h2 : P.info? e = some i) (h3 : i.zero = some z) (h4 : i.size = size)
    (kl kc : IntKind) (L C : Int) (m : Nat) (hl : a.eval l = .int kl L) (hc : a.eval c = .int kc C) (hL : L = (m : Int)) (hC : C = (m : Int)) (b2 : i.bytes * m ≤ 281474976710656) (b3 : m ≤ maxLen) (b4 : base ≤ w.heap.size)
    (hK : ∀ w', w'.ownsRow base e size (.slice (some ⟨w.heap.size, 0, none⟩) m m) m (madeCells z.cells (m * size)).toList → w.grownBy w' none → wpListIn F n P ops Q rest (a.put o.dst (.slice (some ⟨w.heap.size, 0, none⟩) m m)) w') :
    wpListIn F n P ops Q (o :: rest) a w := by
  refine wpListIn_plain hg fun K hK' => ?_
  obtain ⟨w', hrun, r1, r2⟩ := run_make_full (P := P) w base t e i z size h1 h2 h3 h4 kl kc m b2 b3 b4
  subst hL
  subst hC
  unfold Oper.wpIn
  refine ⟨?_, ?_⟩
  · simp [Oper.about, hop]
  · rw [Oper.semAt_plain F _ _ (by rw [hop]; intro c hc'; cases hc')]
    simp [execOp, hop, hl, hc, hrun, Result.andThen]
    exact hK' _ _ (hK w' r1 r2)

/-- That a slice owns its row speaks of cells alone. -/
theorem ownsRow_own {β : Type} (n₀ e size : Nat) (v : Value) (k : β → Nat) (f : β → List Value) : Own (fun s W => W.ownsRow n₀ e size v (k s) (f s)) := by
  rintro s X Y row hr hg hrow
  refine hr.kept hg ?_
  rcases hr.2 with ⟨rfl, _⟩ | ⟨g, cap, cur, rfl, _, hgb, _⟩
  · exact .inl rfl
  · refine .inr fun e' => ?_
    obtain ⟨o, ho, hc⟩ := hrow g (by simpa [Value.ownBlock] using e'.symm)
    rw [hgb] at ho; cases ho; cases hc

/-- A row that is full: its block. -/
theorem ownsRow_row {w : World} {base e n g : Nat} {xs : List Value} (h : w.ownsRow base e 1 (.slice (some ⟨g, 0, none⟩) n n) n xs) : w.heap[g]? = some (.cells xs.toArray e (0, 0)) := by
  rcases h.2 with ⟨h', _⟩ | ⟨g', cap, cur, h', _, hg, _, _, hs, ht⟩
  · simp at h'
  · simp only [Value.slice.injEq, Option.some.injEq, Addr.mk.injEq, and_true, true_and] at h'
    obtain ⟨rfl, rfl⟩ := h'
    rw [hg, ← ht, List.take_of_length_le (by rw [Array.length_toList]; omega)]
theorem splice_all (cur cs : List Value) (h : cur.length = cs.length) : splice cur 0 cs = cs := by
  unfold splice
  simp [h]

/-- An append whose run is known; a guard that lets it by is no bar. -/
theorem wpList_append_run {P : Program} {w w' : World} {ops : Array Oper} {rest : List Oper} {o : Oper} {a : Act} {Q : Exit → Act → World → Prop} (s x : Operand) (t : TypeId)
    (ho : o.op = .call { callee := .builtin .append, args := #[s, x], argTypes := #[t, t] }) (hw : Region.wanted o (yielded ops a.tmps) = true)
    (vs vx v' : Value) (hs : a.eval s = vs) (hx : a.eval x = vx) (hrun : (Builtin.append_ #[t, t] o.type #[vs, vx]).run P w = .ok v' w')
    (h : wpList P ops Q rest (a.put o.dst v') w') : wpList P ops Q (o :: rest) a w := by
  unfold wpList
  rw [if_pos hw]
  refine .inl ?_
  unfold Oper.wp
  simp [execOp, ho, resolve, invoke, builtin, hs, hx, hrun, Result.andThen]
  exact h

/-- A cut of a slice whose run is known; a guard that lets it by is no bar. -/
theorem wpList_slice_run {P : Program} {w w' : World} {ops : Array Oper} {rest : List Oper} {o : Oper} {a : Act} {Q : Exit → Act → World → Prop} (s : Operand) (t : TypeId) (lo hi : Option Operand)
    (ho : o.op = .slice t s lo hi none) (hw : Region.wanted o (yielded ops a.tmps) = true)
    (vs v' : Value) (l h : Option Value) (hs : a.eval s = vs) (hl : lo.map a.eval = l) (hh : hi.map a.eval = h) (hrun : (Instr.sliceAt t vs l h none).run P w = .ok v' w')
    (hK : wpList P ops Q rest (a.put o.dst v') w') : wpList P ops Q (o :: rest) a w := by
  unfold wpList
  rw [if_pos hw]
  refine .inl ?_
  unfold Oper.wp
  simp [execOp, ho, hs, hl, hh, hrun, Result.andThen]
  exact hK

/-- A gate for an arm: the next operation cuts the slice in slot k. -/
theorem gate_slice (k : Nat) {P : Program} {ops : Array Oper} {Q : Exit → Act → World → Prop} {rest : List Oper} {a : Act} {w : World} {dst : Option Tmp} {t ty : TypeId} {lo hi mx : Option Operand} {pos : String} {after : Array Edge} {guard : Option (Nat × Bool)}
    (h : wpList P ops Q ({ dst := dst, op := .slice t (.tmp k) lo hi mx, type := ty, pos := pos, after := after, guard := guard } :: rest) a w) :
    wpList P ops Q ({ dst := dst, op := .slice t (.tmp k) lo hi mx, type := ty, pos := pos, after := after, guard := guard } :: rest) a w := h

theorem letsOut_own {α : Type} {Kp : World → World → Prop} {I : List α → World → Prop} {Ix : Code → List α → World → Prop} {xs : List α} {W : World} : ¬ LetsOut (ownPostK Kp I Ix xs W) := fun ⟨a, w, e⟩ => e.elim
end Go.Proofs.YtfihpljgbghogaaGreat

/- A region that draws its order, walked in an order of one's own choice: what only reads is taken ahead, under a condition that all else keeps; what makes or writes is carried out as it may come up. No program is named. -/
namespace Go.Proofs.YtfihpljgbghogaaGreat
open Go.RowKit
set_option linter.unusedVariables false

/-- What hands back a value, if anything. -/
def readOp : Op → Bool
  | .move _ | .assign _ | .pick .. | .load .. | .binOp .. | .unOp .. | .convert .. | .fieldAddr .. | .field .. | .indexAddr .. | .index .. | .extract .. | .build .. | .slice .. | .nilCheck _ => true
  | .call { callee := .builtin .len, .. } => true
  | _ => false

theorem andThen_value {α : Type} {s : Result α} {f : α → Value} {n : Next} {w' : World} (h : (s.andThen fun v w => Result.ok (Next.value (f v)) w) = .ok n w') : ∃ v, n = .value v := by
  cases s with
  | ok v w => simp [Result.andThen] at h; exact ⟨_, h.1.symm⟩
  | halt x w => simp [Result.andThen] at h

theorem andThen_any {α : Type} {s : Result α} {g : α → World → Result Next} {n : Next} {w' : World} (hg : ∀ a w n w', g a w = .ok n w' → ∃ v, n = .value v) (h : s.andThen g = .ok n w') : ∃ v, n = .value v := by
  cases s with
  | ok v w => exact hg _ _ _ _ h
  | halt x w => simp [Result.andThen] at h

section
variable {P : Program} {ops : Array Oper} {Q : Exit → Act → World → Prop} {md : Region.Mode} {S : World → Prop}

theorem readOp_value {o : Oper} {ρ : Operand → Value} {w w' : World} {n : Next} (h : readOp o.op = true) (hr : (execOp ρ o).run P w = .ok n w') : ∃ v, n = .value v := by
  obtain ⟨dst, op, ty, pos, aft, gd⟩ := o
  cases op
  case nilCheck x =>
    unfold execOp at hr
    dsimp only at hr
    revert hr
    split
    · intro hr; simp [runtimePanic] at hr
    · intro hr; simp [runtimePanic] at hr
    · intro hr; simp [runtimePanic] at hr
    · split
      · intro hr; simp [runtimePanic] at hr
      · intro hr
        simp only [Sem.run_bind] at hr
        refine andThen_any (fun a w n w' hr => andThen_any (fun a w n w' hr => ?_) hr) hr
        split at hr
        · simp [unsupported] at hr
        · simp at hr; exact ⟨_, hr.1.symm⟩
      · intro hr; simp at hr; exact ⟨_, hr.1.symm⟩
    · intro hr; simp at hr; exact ⟨_, hr.1.symm⟩
  case call c =>
    obtain ⟨callee, args, at_⟩ := c
    cases callee <;> simp [readOp] at h
    rename_i b
    cases b <;> simp at h
    simp only [execOp, Sem.run_bind, resolve, invoke, builtin, Sem.run_pure, Result.andThen_ok] at hr
    exact andThen_value (f := id) hr
  all_goals first
    | (simp [readOp] at h; done)
    | (simp only [execOp, Sem.run_bind, Sem.run_pure] at hr; exact andThen_value (f := id) hr)
    | (simp only [execOp, Sem.run_bind, Sem.run_pure] at hr; exact andThen_value hr)
    | (simp [execOp] at hr; exact ⟨_, hr.1.symm⟩)
    | skip

/-- What the quiet walk shows of an operation that only reads. -/
theorem yieldsIf_of_quiet {i : Nat} {o : Oper} {a : Act} {K : Act → Prop} (hrd : readOp o.op = true) (hne : ∃ w, S w) (h : if Region.wanted o (yielded ops a.tmps) then o.quiet P a S K else K (a.put o.dst undef)) :
    ∃ v, YieldsIf P ops S o v a ∧ K (a.put o.dst v) := by
  by_cases hw : Region.wanted o (yielded ops a.tmps) = true
  · rw [if_pos hw] at h
    obtain ⟨v, h1, h2⟩ := h
    refine ⟨v, .inl ⟨hw, fun w hS => ?_⟩, h2⟩
    have h3 := h1 w hS
    unfold Oper.quietAt at h3
    cases hr : (execOp a.eval o).run P w with
    | ok n w' =>
      obtain ⟨u, rfl⟩ := readOp_value hrd hr
      rw [hr] at h3
      obtain ⟨rfl, rfl⟩ := h3
      rfl
    | halt x w' => rw [hr] at h3; exact h3.elim
  · rw [if_neg hw] at h
    exact ⟨undef, .inr ⟨by simpa using hw, rfl⟩, h⟩

/-- The first part of a walk, in whatever order is picked: none from number n on comes up; S holds behind each; then L. -/
def wpAnyM (P : Program) (md : Region.Mode) (ops : Array Oper) (Q : Exit → Act → World → Prop) (S : World → Prop) (n : Nat) (L : Array Bool → Act → World → Prop) : Nat → Array Bool → Act → World → Prop
  | 0, listed, a, w => L listed a w
  | f + 1, listed, a, w => Region.ready md ops listed ≠ [] ∧ ∀ i ∈ Region.ready md ops listed, i < n ∧ wpOp P ops Q i (fun a' w' => S w' ∧ wpAnyM P md ops Q S n L f (listed.setIfInBounds i true) a' w') a w

theorem wpAny_of_M {n g : Nat} {L : Array Bool → Act → World → Prop} (hL : ∀ listed a w, L listed a w → wpAny P md ops Q g listed a w) :
    ∀ (f : Nat) (listed : Array Bool) (a : Act) (w : World), wpAnyM P md ops Q S n L f listed a w → wpAny P md ops Q (f + g) listed a w
  | 0, listed, a, w, h => by rw [Nat.zero_add]; exact hL _ _ _ h
  | f + 1, listed, a, w, h => by
    rw [show f + 1 + g = (f + g) + 1 by omega]
    exact ⟨fun h0 => absurd h0 h.1, fun i hi => wpOp_mono (fun a' w' h' => wpAny_of_M hL f _ a' w' h'.2) (h.2 i hi).2⟩

theorem wpAnyM_first {n i : Nat} {oi : Oper} {v : Value} {L : Array Bool → Act → World → Prop} (hi : ops[i]? = some oi) (hsel : ∀ (j : Nat) (o : Oper) cs b, ops[j]? = some o → o.op ≠ .select cs b)
    (hQ : ∀ c a w, Q (.panic c) (a.put oi.dst v) w → Q (.panic c) a w)
    (hs : Region.sinkB md ops n = true) (hc : Region.chainB md ops n = true) (hn : n < ops.size) (hin : i < n)
    (hdone : ∀ listed a w, L listed a w → ∀ j ∈ Region.ready md ops listed, n ≤ j) :
    ∀ (f : Nat) (listed : Array Bool) (a : Act) (w : World), HeadInv md ops n listed →
      (∀ j oj, ops[j]? = some oj → j ≠ i → listed.getD j true = false → (∀ e ∈ oj.after, Region.binds md e = true → e.on ≠ i) → oi.apart ops oj = true) →
      i ∈ Region.ready md ops listed → YieldsIf P ops S oi v a → S w →
      wpAnyM P md ops Q S n L f (listed.setIfInBounds i true) (a.put oi.dst v) w → wpAnyM P md ops Q S n L (f + 1) listed a w := by
  intro f
  induction f with
  | zero =>
    intro listed a w inv _ hr hy hS H
    have hun := (mem_ready.1 hr).1
    refine ⟨fun h => (by rw [h] at hr; cases hr), fun j hj => ?_⟩
    have hjn : j < n := by
      rcases Nat.lt_or_ge j n with h | h
      · exact h
      · exact absurd hj (tail_waits hs hc hn inv _ i rfl hin hun j h)
    refine ⟨hjn, ?_⟩
    by_cases hji : j = i
    · subst hji; exact hy.wpOp hi hS ⟨hS, H⟩
    · have := hdone _ _ _ H j (ready_mono hj hji)
      omega
  | succ f ih =>
    intro listed a w inv hfree hr hy hS H
    have hun := (mem_ready.1 hr).1
    refine ⟨fun h => (by rw [h] at hr; cases hr), fun j hj => ?_⟩
    have hjn : j < n := by
      rcases Nat.lt_or_ge j n with h | h
      · exact h
      · exact absurd hj (tail_waits hs hc hn inv _ i rfl hin hun j h)
    refine ⟨hjn, ?_⟩
    by_cases hji : j = i
    · subst hji; exact hy.wpOp hi hS ⟨hS, H⟩
    · have h1 := (H.2 j (ready_mono hj hji)).2
      obtain ⟨hjun, oj, hoj, hall⟩ := mem_ready.1 hj
      have hnot : ∀ e ∈ oj.after, Region.binds md e = true → e.on ≠ i := fun e he hb heq => by
        have h1 := hall e he hb
        rw [heq, getD_both hun] at h1
        cases h1
      have h2 := wpOp_putIf hoj (hfree j oj hoj hji hjun hnot) (fun cs b => hsel i oi cs b hi) (fun cs b => hsel j oj cs b hoj) hQ hy h1
      have hfree' : ∀ k ok, ops[k]? = some ok → k ≠ i → (listed.setIfInBounds j true).getD k true = false →
          (∀ e ∈ ok.after, Region.binds md e = true → e.on ≠ i) → oi.apart ops ok = true := fun k ok hk hki hun hno => by
        refine hfree k ok hk hki ?_ hno
        by_cases hjk : j = k
        · subst hjk; exact hjun
        · rw [getD_set_ne true hjk] at hun; exact hun
      refine wpOp_mono (fun a' w' h3 => ⟨h3.2.1, ih (listed.setIfInBounds j true) a' w' (inv.set hj hjn) hfree' (ready_mono hr (Ne.symm hji)) h3.1 h3.2.1 ?_⟩) h2
      rw [Array.setIfInBounds_comm _ _ hji]
      exact h3.2.2

/-- An order of one's own choice. -/
inductive Plan where
  | leaf
  | take (i : Nat) (next : Plan)
  | one (i : Nat) (next : Plan)
  | two (i j : Nat) (next1 next2 : Plan)

/-- Operation number i. -/
def nth : List Oper → Nat → Oper
  | [], _ => { dst := none, op := .move (.tmp 0), type := 0, pos := "", after := #[], guard := none }
  | o :: _, 0 => o
  | _ :: l, n + 1 => nth l n
theorem nth_zero (o : Oper) (l : List Oper) : nth (o :: l) 0 = o := rfl
theorem nth_succ (o : Oper) (l : List Oper) (n : Nat) : nth (o :: l) (n + 1) = nth l n := rfl
theorem nth_get : ∀ (l : List Oper) (i : Nat), i < l.length → l[i]? = some (nth l i)
  | [], _, h => by simp at h
  | o :: l, 0, _ => rfl
  | o :: l, n + 1, h => by rw [List.getElem?_cons_succ]; exact nth_get l n (by simpa using h)

/-- Where a part of the walk that carries out one operation has to come. -/
def planPost (S : World → Prop) (Q : Exit → Act → World → Prop) (K : Act → World → Prop) : Exit → Act → World → Prop
  | .normal, a, w => S w ∧ K a w
  | .ret, a, w => Q .ret a w
  | .exit i, a, w => Q (.exit i) a w
  | .goto t, a, w => Q (.goto t) a w
  | .panic c, a, w => Q (.panic c) a w
  | .outgrown, a, w => Q .outgrown a w

/-- The walk. -/
def wpPlan (P : Program) (l : List Oper) (Q : Exit → Act → World → Prop) (S : World → Prop) (n : Nat) : Plan → Act → World → Prop
  | .leaf, a, w => wpList P l.toArray Q (l.drop n) a w
  | .take i next, a, w => wpQuiet P l.toArray S (fun a' => wpPlan P l Q S n next a' w) [nth l i] a
  | .one i next, a, w => wpList P l.toArray (planPost S Q (wpPlan P l Q S n next)) [nth l i] a w
  | .two i j n1 n2, a, w => wpList P l.toArray (planPost S Q (wpPlan P l Q S n n1)) [nth l i] a w ∧ wpList P l.toArray (planPost S Q (wpPlan P l Q S n n2)) [nth l j] a w

/-- All of these ahead. -/
def Plan.takes : List Nat → Plan → Plan
  | [], p => p
  | i :: l, p => .take i (Plan.takes l p)

/-- May it be gone so? -/
def planB (md : Region.Mode) (l : List Oper) (n : Nat) : Plan → Nat → Array Bool → Bool
  | .leaf, f, listed => decide (f = 0) && Region.seqB md l.toArray (l.length - n) n listed
  | .take i next, f, listed => decide (0 < f) && decide (i < n) && readOp (nth l i).op && (Region.ready md l.toArray listed).contains i && Region.free md l.toArray listed i && planB md l n next (f - 1) (listed.setIfInBounds i true)
  | .one i next, f, listed => decide (0 < f) && decide (i < n) && decide (Region.ready md l.toArray listed = [i]) && planB md l n next (f - 1) (listed.setIfInBounds i true)
  | .two i j n1 n2, f, listed => decide (0 < f) && decide (i < n) && decide (j < n) && decide (Region.ready md l.toArray listed = [i, j]) && planB md l n n1 (f - 1) (listed.setIfInBounds i true) && planB md l n n2 (f - 1) (listed.setIfInBounds j true)

theorem wpPlan_leaf {l : List Oper} {n : Nat} {a : Act} {w : World} : wpPlan P l Q S n .leaf a w = wpList P l.toArray Q (l.drop n) a w := rfl
theorem wpPlan_one {l : List Oper} {n i : Nat} {p : Plan} {a : Act} {w : World} : wpPlan P l Q S n (.one i p) a w = wpList P l.toArray (planPost S Q (wpPlan P l Q S n p)) [nth l i] a w := rfl
theorem wpPlan_takes_nil {l : List Oper} {n : Nat} {p : Plan} {a : Act} {w : World} : wpPlan P l Q S n (.takes [] p) a w = wpPlan P l Q S n p a w := rfl
theorem wpPlan_takes_cons {l : List Oper} {n i : Nat} {is : List Nat} {p : Plan} {a : Act} {w : World} : wpPlan P l Q S n (.takes (i :: is) p) a w = wpQuiet P l.toArray S (fun a' => wpPlan P l Q S n (.takes is p) a' w) [nth l i] a := rfl

theorem wp_congrQ {o : Oper} {a : Act} {w : World} {K : Act → World → Prop} {Q' : Exit → Act → World → Prop} (hp : ∀ c a w, Q' (.panic c) a w → Q (.panic c) a w) (ho : ∀ a w, Q' .outgrown a w → Q .outgrown a w) (h : o.wp P a w K Q') : o.wp P a w K Q := by
  unfold Oper.wp at *
  generalize (execOp a.eval o).run P w = r at *
  cases r with
  | ok n w' =>
    cases n <;> simp only [Oper.upon] at h ⊢ <;>
      first
        | exact h
        | exact Calls.mono h (fun e w'' he => by cases e <;> first | exact he | exact hp _ _ _ he | (obtain ⟨a', w', h'⟩ := he; exact ⟨a', w', ho _ _ h'⟩))
  | halt x w' => cases x <;> simp only [Oper.upon] at h ⊢ <;> first | exact h | exact hp _ _ _ h | exact ho _ _ h

theorem wpOp_of_one {l : List Oper} {i : Nat} {K : Act → World → Prop} {a : Act} {w : World} (hi : i < l.length) (h : wpList P l.toArray (planPost S Q K) [nth l i] a w) :
    wpOp P l.toArray Q i (fun a' w' => S w' ∧ K a' w') a w := by
  have ho : l.toArray[i]? = some (nth l i) := by simpa using nth_get l i hi
  unfold wpOp
  simp only [ho]
  unfold wpList at h
  by_cases hw : Region.wanted (nth l i) (yielded l.toArray a.tmps) = true
  · rw [if_pos hw] at h ⊢
    rcases h with h | ⟨h1, a', w', h2⟩
    · exact .inl (wp_congrQ (fun _ _ _ h => h) (fun _ _ h => h) h)
    · exact .inr ⟨h1, a', w', h2⟩
  · rw [if_neg hw] at h ⊢
    exact h

theorem wpAnyM_plan {l : List Oper} {n : Nat} (hsel : Region.noSelect l.toArray = true) (hs : Region.sinkB md l.toArray n = true) (hc : Region.chainB md l.toArray n = true) (hn : n < l.length) (hQ : ∀ c (x : Option Tmp) v a w, Q (.panic c) (a.put x v) w → Q (.panic c) a w) :
    ∀ (p : Plan) (f : Nat) (listed : Array Bool) (a : Act) (w : World), HeadInv md l.toArray n listed → planB md l n p f listed = true → S w → wpPlan P l Q S n p a w →
      wpAnyM P md l.toArray Q S n (fun listed' a' w' => Region.seqB md l.toArray (l.length - n) n listed' = true ∧ wpList P l.toArray Q (l.drop n) a' w') f listed a w := by
  have hn' : n < l.toArray.size := by simpa using hn
  intro p
  induction p with
  | leaf =>
    intro f listed a w inv hB hS h
    simp only [planB, Bool.and_eq_true, decide_eq_true_eq] at hB
    obtain ⟨rfl, hB⟩ := hB
    exact ⟨hB, h⟩
  | take i next ih =>
    intro f listed a w inv hB hS h
    simp only [planB, Bool.and_eq_true, decide_eq_true_eq] at hB
    obtain ⟨⟨⟨⟨⟨hf, hin⟩, hrd⟩, hr⟩, hfr⟩, hB⟩ := hB
    obtain ⟨f, rfl⟩ : ∃ g, f = g + 1 := ⟨f - 1, by omega⟩
    have ho : l.toArray[i]? = some (nth l i) := by simpa using nth_get l i (by omega)
    have hr' : i ∈ Region.ready md l.toArray listed := by simpa using hr
    simp only [wpPlan, wpQuiet] at h
    obtain ⟨v, hy, hK⟩ := yieldsIf_of_quiet (i := i) hrd ⟨w, hS⟩ h
    exact wpAnyM_first ho (Region.noSelect_spec hsel) (fun c a w => hQ c _ v a w) hs hc hn' hin (fun listed a w hL => seqB_ready hL.1) f listed a w inv (Region.free_spec ho hfr) hr' hy hS
      (ih f _ _ w (inv.set hr' hin) (by simpa using hB) hS hK)
  | one i next ih =>
    intro f listed a w inv hB hS h
    simp only [planB, Bool.and_eq_true, decide_eq_true_eq] at hB
    obtain ⟨⟨⟨hf, hin⟩, hr⟩, hB⟩ := hB
    obtain ⟨f, rfl⟩ : ∃ g, f = g + 1 := ⟨f - 1, by omega⟩
    refine ⟨by rw [hr]; simp, fun j hj => ?_⟩
    have hj' := hj
    rw [hr] at hj
    obtain rfl : j = i := by simpa using hj
    exact ⟨hin, wpOp_mono (fun a' w' h' => ⟨h'.1, ih f _ _ w' (inv.set hj' hin) (by simpa using hB) h'.1 h'.2⟩) (wpOp_of_one (by omega) h)⟩
  | two i k n1 n2 ih1 ih2 =>
    intro f listed a w inv hB hS h
    simp only [planB, Bool.and_eq_true, decide_eq_true_eq] at hB
    obtain ⟨⟨⟨⟨⟨hf, hin⟩, hkn⟩, hr⟩, hB1⟩, hB2⟩ := hB
    obtain ⟨f, rfl⟩ : ∃ g, f = g + 1 := ⟨f - 1, by omega⟩
    obtain ⟨g1, g2⟩ := h
    refine ⟨by rw [hr]; simp, fun j hj => ?_⟩
    have hj' := hj
    rw [hr] at hj
    rcases (by simpa using hj : j = i ∨ j = k) with rfl | rfl
    · exact ⟨hin, wpOp_mono (fun a' w' h' => ⟨h'.1, ih1 f _ _ w' (inv.set hj' hin) (by simpa using hB1) h'.1 h'.2⟩) (wpOp_of_one (by omega) g1)⟩
    · exact ⟨hkn, wpOp_mono (fun a' w' h' => ⟨h'.1, ih2 f _ _ w' (inv.set hj' hkn) (by simpa using hB2) h'.1 h'.2⟩) (wpOp_of_one (by omega) g2)⟩

/-- May the region be gone so? -/
def planOk (l : List Oper) (n : Nat) (p : Plan) : Bool :=
  Region.noSelect l.toArray && decide (n < l.length) && Region.sinkB .any l.toArray n && Region.chainB .any l.toArray n && planB .any l n p n (Array.replicate l.length false)

theorem wpAny_plan {l : List Oper} {a : Act} {w : World} (S : World → Prop) (n : Nat) (p : Plan) (hB : planOk l n p = true) (hQ : ∀ c (x : Option Tmp) v a w, Q (.panic c) (a.put x v) w → Q (.panic c) a w) (hS : S w)
    (h : wpPlan P l Q S n p a w) : wpAny P .any l.toArray Q l.toArray.size (Array.replicate l.toArray.size false) a w := by
  simp only [planOk, Bool.and_eq_true, decide_eq_true_eq] at hB
  obtain ⟨⟨⟨⟨hsel, hn⟩, hs⟩, hc⟩, hp⟩ := hB
  have inv0 : HeadInv .any l.toArray n (Array.replicate l.toArray.size false) :=
    ⟨by simp, fun j oj _ hl => (by rw [getD_replicate_false] at hl; cases hl), fun t _ ht => getD_in (by simpa using ht) (getD_replicate_false _ _)⟩
  have H := wpAnyM_plan (md := .any) hsel hs hc hn hQ p n _ a w inv0 (by simpa using hp) hS h
  have := wpAny_of_M (g := l.length - n) (fun listed a' w' hL => by
    have := wpAny_of_seq (md := .any) (Q' := Q) (l.drop n) n listed a' w' (fun j => by simp [List.getElem?_drop]) (by rw [List.length_drop]; exact hL.1) hL.2
    rwa [List.length_drop] at this) _ _ _ _ H
  rw [show n + (l.length - n) = l.toArray.size by simp; omega] at this
  exact this

/-- **A REGION THAT DRAWS, in an order of one's own choice.** -/
theorem region_plan {id : Nat} {a : Act} {w : World} {l : List Oper} (S : World → Prop) (n : Nat) (p : Plan) (hm : P.follows .mixedOrders = true) (hB : planOk l n p = true) (hQ : ∀ c (x : Option Tmp) v a w, Q (.panic c) (a.put x v) w → Q (.panic c) a w) (hS : S w.drew)
    (h : wpPlan P l Q S n p a w.drew) : (Code.region id l.toArray true).wp P Q a w :=
  wp_region_any hm (wpAny_plan S n p hB hQ hS h)

/-- .. in a round of a loop over a function. -/
theorem region_plan_round {id fuel l₀ : Nat} {a : Act} {w : World} {l : List Oper} (S : World → Prop) (n : Nat) (p : Plan) (hL : ¬ LetsOut Q) (hd : noDefer l.toArray = true) (hm : P.follows .mixedOrders = true) (hB : planOk l n p = true) (hQ : ∀ c (x : Option Tmp) v a w, Q (.panic c) (a.put x v) w → Q (.panic c) a w) (hS : S w.drew)
    (h : wpPlan P l Q S n p a w.drew) : (Code.region id l.toArray true).wpIn (Fence.wide.inRound l₀) fuel P Q a w :=
  wpIn_region_any hm (any_round hL hd _ _ _ _ (wpAny_plan S n p hB hQ hS h))

/-- A slice literal whose run is known; a guard that lets it by is no bar. -/
theorem wpList_build_run {w w' : World} {ops : Array Oper} {rest : List Oper} {o : Oper} {a : Act} {Q : Exit → Act → World → Prop} (t : TypeId) (len : Nat) (parts : Array (Nat × Operand))
    (ho : o.op = .buildSlice t len parts) (hw : Region.wanted o (yielded ops a.tmps) = true) (vs : List (Nat × Value)) (v' : Value) (hs : (parts.toList.map fun (i, x) => (i, a.eval x)) = vs)
    (hrun : (Instr.buildSlice t len vs.toArray).run P w = .ok v' w') (h : wpList P ops Q rest (a.put o.dst v') w') : wpList P ops Q (o :: rest) a w := by
  unfold wpList
  rw [if_pos hw]
  refine .inl ?_
  have hs' : (parts.map fun (i, x) => (i, a.eval x)) = vs.toArray := by
    apply Array.toList_inj.1
    rw [Array.toList_map, hs]
  unfold Oper.wp
  simp only [execOp, ho, Sem.run_bind, hs', hrun, Result.andThen_ok, Sem.run_pure]
  exact h
/-- A gate for an arm: the next operation is a slice literal. -/
theorem gate_build {w : World} {ops : Array Oper} {rest : List Oper} {a : Act} {Q : Exit → Act → World → Prop} {dst : Option Tmp} {t ty : TypeId} {len : Nat} {parts : Array (Nat × Operand)} {pos : String} {after : Array Edge} {guard : Option (Nat × Bool)}
    (h : wpList P ops Q ({ dst := dst, op := .buildSlice t len parts, type := ty, pos := pos, after := after, guard := guard } :: rest) a w) :
    wpList P ops Q ({ dst := dst, op := .buildSlice t len parts, type := ty, pos := pos, after := after, guard := guard } :: rest) a w := h
/-- Where one operation has been carried out. -/
theorem planPost_mk {K : Act → World → Prop} {a : Act} {w : World} (h1 : S w) (h2 : K a w) : planPost S Q K .normal a w := ⟨h1, h2⟩
end
end Go.Proofs.YtfihpljgbghogaaGreat

/- revetmentkeep.Ints: of two rows that are alike. -/
namespace Go.Proofs.YtfihpljgbghogaaGreat
open Go.RowKit
set_option linter.unusedVariables false

/-- A row of one's own, as a slice of numbers. -/
theorem sl_own {w : World} {base e n : Nat} {v : Value} {k : IntKind} {bs : List Int} (h : w.ownsRow base e 1 v n (bs.map (Value.int k))) : Sl k w v bs := by
  have hl : bs.length = n := by simpa using h.1
  rcases h.2 with ⟨rfl, h0⟩ | ⟨g, cap, cur, rfl, h1, h2, h3, h4, h5, h6⟩
  · obtain rfl : bs = [] := List.eq_nil_of_length_eq_zero (by omega)
    exact Sl.nil _ _
  · subst hl
    refine ⟨_, cap, rfl, h3, h4, .inr ⟨g, 0, rfl, (Array.getElem?_eq_some_iff.1 h2).1, fun j hj => ?_⟩, fun e => by cases e⟩
    rw [cell_of_row _ _ _ _ _ _ h2]
    have : (cur.toList.take (bs.length * 1))[j]? = (bs.map (Value.int k))[j]? := by rw [h6]
    rw [List.getElem?_take, if_pos (by omega)] at this
    simp only [Nat.zero_add]
    rw [← Array.getElem?_toList, this]
    simp [hj]

end Go.Proofs.YtfihpljgbghogaaGreat

/- What the walk of a statement is told of its arguments, whatever their types: cell by cell. -/
namespace Go.Proofs.YtfihpljgbghogaaGreat
open Go.ChangeShapes Go.WideShapes Go.ChangeAt Go.RowKit
set_option linter.unusedVariables false

set_option maxRecDepth 100000 in
theorem own : ownKnob Tryz.prog.godebug = none := by kernel_rfl
set_option maxRecDepth 100000 in
theorem laidOut : laidOutB Tryz.prog = true := by kernel_rfl

/-- These cells read as a value of this type. -/
def Cells (W : World) (t : TypeId) (cs : List Value) : Prop :=
  ∃ (H : Type) (enc : TypeId × Value → H) (fuel : Nat) (x : DataW H × List MemPlace), DataW.trod enc Tryz.prog W 0 (fun _ => true) true fuel t cs = some x
/-- An argument. -/
def Arg (W : World) (t : TypeId) (v : Value) : Prop := (∃ base, Value.okWide Tryz.prog W .any base t v) ∧ Cells W t v.cells.toList

set_option maxRecDepth 100000 in
theorem Arg.mk {H : Type} {enc : TypeId × Value → H} {W : World} {base : Nat} {t : TypeId} {v : Value} {d : DataW H} {p : List MemPlace} (h : Value.okWide Tryz.prog W .any base t v) (k : DataW.Trod enc Tryz.prog W 0 (fun _ => true) true t v d p) : Arg W t v := by
  obtain ⟨fuel, hf⟩ := k
  exact ⟨⟨base, h⟩, H, enc, fuel, _, hf⟩

section
variable {W : World} {t e : TypeId} {cs : List Value} {v : Value}

set_option maxRecDepth 100000 in
theorem Cells.int {k : IntKind} (h : Cells W t cs) (hu : Tryz.prog.underlying t = some (.int k)) : ∃ n, cs = [.int k n] ∧ (Lit.int k n).wf = true := by
  obtain ⟨H, enc, fuel, x, hx⟩ := h
  obtain ⟨a, e1, e2, wa⟩ := DataW.trod_int hu hx
  exact ⟨a, e1, wa⟩
set_option maxRecDepth 100000 in
theorem Cells.slice (h : Cells W t cs) (hu : Tryz.prog.underlying t = some (.slice e)) : ∃ a len cap, cs = [.slice a len cap] ∧
    ((a = none ∧ len = 0 ∧ cap = 0) ∨ ∃ x, a = some x ∧ len ≤ cap ∧ cap ≤ maxLen ∧ ∀ i, i < cap → ∃ es, W.cells? 0 (x.add (i * Tryz.prog.cellsOf e)) (Tryz.prog.cellsOf e) = some es ∧ Cells W e es) := by
  obtain ⟨H, enc, fuel, x, hx⟩ := h
  rcases Go.Deep.open_slice hu hx with ⟨rfl, rfl⟩ | ⟨a, len, cap, m, n, D, Pl, rfl, _, h1, h2, rfl, rfl, h3⟩
  · exact ⟨_, _, _, rfl, .inl ⟨rfl, rfl, rfl⟩⟩
  · refine ⟨_, _, _, rfl, .inr ⟨a, rfl, h1, h2, fun i hi => ?_⟩⟩
    obtain ⟨es, g1, g2⟩ := h3 i (by simpa using hi)
    exact ⟨es, g1, H, enc, n, _, g2⟩
set_option maxRecDepth 100000 in
theorem Cells.struct {fs : Array Field} (h : Cells W t cs) (hu : Tryz.prog.underlying t = some (.struct fs)) : cs.length = Tryz.prog.cellsOf t ∧
    ∀ (j : Nat) f, fs[j]? = some f → Cells W f.type ((cs.drop f.offset).take (Tryz.prog.cellsOf f.type)) := by
  obtain ⟨H, enc, fuel, x, hx⟩ := h
  obtain ⟨xs, n, _, rfl, hl, hlen, hf⟩ := DataW.trod_struct hu hx
  refine ⟨hl, fun j f hj => ?_⟩
  have h1 := hf j f hj
  have h2 : j < xs.length := by
    rw [hlen]
    exact (Array.getElem?_eq_some_iff.1 hj).1
  rw [List.getElem?_eq_getElem h2] at h1
  exact ⟨H, enc, n, _, h1⟩
set_option maxRecDepth 100000 in
theorem Cells.array {n : Nat} (h : Cells W t cs) (hu : Tryz.prog.underlying t = some (.array n e)) : cs.length = Tryz.prog.cellsOf t ∧
    ∀ i, i < n → Cells W e ((cs.drop (i * Tryz.prog.cellsOf e)).take (Tryz.prog.cellsOf e)) := by
  obtain ⟨H, enc, fuel, x, hx⟩ := h
  obtain ⟨xs, m, _, rfl, hl, hlen, hf⟩ := DataW.trod_array hu hx
  refine ⟨hl, fun j hj => ?_⟩
  have h1 := hf j hj
  rw [List.getElem?_eq_getElem (by omega)] at h1
  exact ⟨H, enc, m, _, h1⟩

set_option maxRecDepth 100000 in
theorem Arg.int {k : IntKind} (h : Arg W t v) (hu : Tryz.prog.underlying t = some (.int k)) : ∃ n, v = .int k n ∧ (Lit.int k n).wf = true := by
  obtain ⟨⟨base, ho⟩, hc⟩ := h
  obtain ⟨n, rfl⟩ := okWide_int hu ho
  obtain ⟨m, e1, wm⟩ := hc.int hu
  simp [Value.cells] at e1
  subst e1
  exact ⟨_, rfl, wm⟩
set_option maxRecDepth 100000 in
theorem Arg.slice (h : Arg W t v) (hu : Tryz.prog.underlying t = some (.slice e)) : ∃ a len cap, v = .slice a len cap ∧
    ((a = none ∧ len = 0 ∧ cap = 0) ∨ ∃ x, a = some x ∧ len ≤ cap ∧ cap ≤ maxLen ∧ ∀ i, i < cap → ∃ es, W.cells? 0 (x.add (i * Tryz.prog.cellsOf e)) (Tryz.prog.cellsOf e) = some es ∧ Cells W e es) := by
  obtain ⟨⟨base, ho⟩, hc⟩ := h
  obtain ⟨a, len, cap, rfl⟩ := okWide_slice hu ho
  obtain ⟨a', len', cap', e1, r⟩ := hc.slice hu
  simp [Value.cells] at e1
  obtain ⟨rfl, rfl, rfl⟩ := e1
  exact ⟨_, _, _, rfl, r⟩
set_option maxRecDepth 100000 in
theorem Arg.agg (h : Arg W t v) (hu : (∃ fs, Tryz.prog.underlying t = some (.struct fs)) ∨ ∃ n e, Tryz.prog.underlying t = some (.array n e)) : ∃ cs : List Value, v = .agg cs.toArray ∧ cs.length = Tryz.prog.cellsOf t ∧ Cells W t cs := by
  obtain ⟨⟨base, ho⟩, hc⟩ := h
  have : ∃ cs : Array Value, v = .agg cs ∧ cs.size = Tryz.prog.cellsOf t := by
    rcases hu with ⟨fs, hu⟩ | ⟨n, e, hu⟩
    · exact okWide_struct hu ho
    · simp only [Value.okWide, hu] at ho
      obtain ⟨cs, h1, h2, _⟩ := ho
      exact ⟨cs, h1, h2⟩
  obtain ⟨⟨cs⟩, rfl, hs⟩ := this
  exact ⟨cs, rfl, by simpa using hs, by simpa [Value.cells] using hc⟩
end

/-- One cell, read. -/
theorem cells_one {W : World} {x : Addr} {es : List Value} (h : W.cells? 0 x 1 = some es) : ∃ v, es = [v] ∧ W.cell? x = some v := by
  unfold World.cells? at h
  rw [if_pos (Nat.zero_le _)] at h
  simp only [List.range_one, List.mapM_cons, List.mapM_nil] at h
  have e : x.add 0 = x := by simp [Addr.add]
  rw [e] at h
  cases hc : W.cell? x with
  | none => rw [hc] at h; cases h
  | some v => rw [hc] at h; exact ⟨v, by simpa using h.symm, rfl⟩

/-- Several cells, read. -/
theorem cells_many {W : World} {x : Addr} {n : Nat} {es : List Value} (h : W.cells? 0 x n = some es) : es.length = n ∧ ∀ i, i < n → ∃ v, es[i]? = some v ∧ W.cell? (x.add i) = some v := by
  unfold World.cells? at h
  rw [if_pos (Nat.zero_le _)] at h
  have hl : es.length = n := by simpa using mapM_some_length h
  refine ⟨hl, fun i hi => ?_⟩
  have := mapM_some_get h i i (by simp [hi])
  rw [List.getElem?_eq_getElem (by omega)] at this
  exact ⟨es[i], by rw [List.getElem?_eq_getElem (by omega)], this⟩

theorem cell_plain {W : World} {x : Addr} {v : Value} (h : W.cell? x = some v) : ∃ b off, x = ⟨b, off, none⟩ ∧ b < W.heap.size := by
  obtain ⟨b, off, spot⟩ := x
  have : spot = none := World.cell?_spot h
  subst this
  obtain ⟨o, ho, _⟩ := cells_of_cell h
  exact ⟨b, off, rfl, (Array.getElem?_eq_some_iff.1 ho).1⟩

theorem add_plain (b off j : Nat) : (⟨b, off, none⟩ : Addr).add j = ⟨b, off + j, none⟩ := by unfold Addr.add; split <;> simp_all
end Go.Proofs.YtfihpljgbghogaaGreat

/- Slices of integers among the arguments; small arrays. -/
namespace Go.Proofs.YtfihpljgbghogaaGreat
open Go.ChangeShapes Go.WideShapes Go.ChangeAt Go.RowKit
set_option linter.unusedVariables false

set_option maxRecDepth 100000 in
theorem sl_of_cells {k : IntKind} {W : World} {e : TypeId} {a : Option Addr} {len cap : Nat} (he : Tryz.prog.underlying e = some (.int k)) (hc : Tryz.prog.cellsOf e = 1)
    (h : (a = none ∧ len = 0 ∧ cap = 0) ∨ ∃ x, a = some x ∧ len ≤ cap ∧ cap ≤ maxLen ∧ ∀ i, i < cap → ∃ es, W.cells? 0 (x.add (i * Tryz.prog.cellsOf e)) (Tryz.prog.cellsOf e) = some es ∧ Cells W e es) :
    ∃ xs : List Int, xs.length = len ∧ len ≤ maxLen ∧ Sl k W (.slice a len cap) xs ∧ ∀ n ∈ xs, (Lit.int k n).wf = true := by
  rcases h with ⟨rfl, rfl, rfl⟩ | ⟨x, rfl, h1, h2, h3⟩
  · exact ⟨[], rfl, Nat.zero_le _, Sl.nil _ _, fun n hn => by cases hn⟩
  · rw [hc] at h3
    have h4 : ∀ i, i < cap → ∃ n, W.cell? (x.add i) = some (.int k n) ∧ (Lit.int k n).wf = true := by
      intro i hi
      obtain ⟨es, g1, g2⟩ := h3 i hi
      rw [Nat.mul_one] at g1
      obtain ⟨v, rfl, hv⟩ := cells_one g1
      obtain ⟨n, e1, wn⟩ := g2.int he
      simp at e1
      subst e1
      exact ⟨n, hv, wn⟩
    have h5 : ∀ i, ∃ n, i < cap → W.cell? (x.add i) = some (.int k n) ∧ (Lit.int k n).wf = true := fun i => by
      by_cases hi : i < cap
      · obtain ⟨n, hn⟩ := h4 i hi; exact ⟨n, fun _ => hn⟩
      · exact ⟨0, fun h => absurd h hi⟩
    obtain ⟨f, hf⟩ := Classical.axiomOfChoice h5
    refine ⟨(List.range len).map f, by simp, by omega, ?_, ?_⟩
    · refine ⟨some x, cap, by simp, by simp; omega, h2, ?_, fun e => by cases e⟩
      by_cases h0 : len = 0
      · subst h0; exact .inl rfl
      · obtain ⟨hc0, _⟩ := hf 0 (by omega)
        have e0 : x.add 0 = x := by simp [Addr.add]
        rw [e0] at hc0
        obtain ⟨b, off, rfl, hb⟩ := cell_plain hc0
        refine .inr ⟨b, off, rfl, hb, fun j hj => ?_⟩
        simp at hj
        have := (hf j (by omega)).1
        rw [add_plain] at this
        rw [this]
        simp [hj]
    · intro n hn
      obtain ⟨i, hi, rfl⟩ := List.mem_map.1 hn
      exact (hf i (by have := List.mem_range.1 hi; omega)).2

section
variable {W : World} {t e : TypeId} {v : Value} {k : IntKind}
set_option maxRecDepth 100000 in
theorem Arg.sl (h : Arg W t v) (hu : Tryz.prog.underlying t = some (.slice e)) (he : Tryz.prog.underlying e = some (.int k)) (hc : Tryz.prog.cellsOf e = 1) :
    ∃ a len cap, ∃ xs : List Int, v = .slice a len cap ∧ xs.length = len ∧ len ≤ maxLen ∧ Sl k W (.slice a len cap) xs ∧ ∀ n ∈ xs, (Lit.int k n).wf = true := by
  obtain ⟨a, len, cap, rfl, r⟩ := h.slice hu
  obtain ⟨xs, r⟩ := sl_of_cells he hc r
  exact ⟨a, len, cap, xs, rfl, r⟩
set_option maxRecDepth 100000 in
theorem Cells.sl {cs : List Value} (h : Cells W t cs) (hu : Tryz.prog.underlying t = some (.slice e)) (he : Tryz.prog.underlying e = some (.int k)) (hc : Tryz.prog.cellsOf e = 1) :
    ∃ a len cap, ∃ xs : List Int, cs = [.slice a len cap] ∧ xs.length = len ∧ len ≤ maxLen ∧ Sl k W (.slice a len cap) xs ∧ ∀ n ∈ xs, (Lit.int k n).wf = true := by
  obtain ⟨a, len, cap, rfl, r⟩ := h.slice hu
  obtain ⟨xs, r⟩ := sl_of_cells he hc r
  exact ⟨a, len, cap, xs, rfl, r⟩
set_option maxRecDepth 100000 in
theorem Arg.bytes (h : Arg W t v) (hu : Tryz.prog.underlying t = some (.slice e)) (he : Tryz.prog.underlying e = some (.int .u8)) (hc : Tryz.prog.cellsOf e = 1) :
    ∃ a len cap, ∃ xs : List Int, v = .slice a len cap ∧ xs.length = len ∧ len ≤ maxLen ∧ Sl .u8 W (.slice a len cap) xs ∧ IsBytes xs := by
  obtain ⟨a, len, cap, xs, rfl, h1, h2, h3, h4⟩ := h.sl hu he hc
  exact ⟨a, len, cap, xs, rfl, h1, h2, h3, fun j => by have := range_u8 h4 j; omega⟩
set_option maxRecDepth 100000 in
theorem Cells.bytes {cs : List Value} (h : Cells W t cs) (hu : Tryz.prog.underlying t = some (.slice e)) (he : Tryz.prog.underlying e = some (.int .u8)) (hc : Tryz.prog.cellsOf e = 1) :
    ∃ a len cap, ∃ xs : List Int, cs = [.slice a len cap] ∧ xs.length = len ∧ len ≤ maxLen ∧ Sl .u8 W (.slice a len cap) xs ∧ IsBytes xs := by
  obtain ⟨a, len, cap, xs, rfl, h1, h2, h3, h4⟩ := h.sl hu he hc
  exact ⟨a, len, cap, xs, rfl, h1, h2, h3, fun j => by have := range_u8 h4 j; omega⟩
end
end Go.Proofs.YtfihpljgbghogaaGreat

/- A range over a function whose iterator reads, between two rounds, what the body itself writes: the iterator's contract rests on the caller's own invariant. No program is named. -/
namespace Go.Proofs.YtfihpljgbghogaaGreat
open Go.RowKit
set_option linter.unusedVariables false

variable {F : Fence} {n : Nat} {P : Program}

/-- The record of a loop at rest, and the block of its rounds' deferred calls. -/
structure Books (W : World) (B : Nat) (r : Loop) : Prop where
  loop : W.heap[B + 1]? = some (.loop r)
  defers : W.heap[B]? = some (.deferred (some []))

theorem Books.lt {W : World} {B : Nat} {r : Loop} (h : Books W B r) : B + 1 < W.heap.size := (Array.getElem?_eq_some_iff.1 h.loop).1

theorem Books.put {W : World} {B : Nat} {r : Loop} (h : Books W B r) (r' : Loop) : Books (W.putObj (B + 1) (.loop r')) B r' :=
  ⟨World.putObj_heap_same h.lt, (World.putObj_heap_other (by omega)).trans h.defers⟩

theorem Books.from {W W' : World} {B : Nat} {r : Loop} (h : Books W B r) (hk : KeepsFrom B W W') : Books W' B r :=
  ⟨hk.same _ _ (by omega) h.loop rfl, hk.same _ _ (Nat.le_refl _) h.defers rfl⟩

theorem Books.kept {W W' : World} {B : Nat} {r : Loop} {row : Option Nat} (h : Books W B r) (hg : W.grownBy W' row) (hr : ∀ k, row = some k → ∃ o : Obj, W.heap[k]? = some o ∧ o.isWalk = true) : Books W' B r :=
  ⟨(grownBy_keeps hg hr h.loop rfl).trans h.loop, (grownBy_keeps hg hr h.defers rfl).trans h.defers⟩

end Go.Proofs.YtfihpljgbghogaaGreat

/- Slices of bytes in memory: read, copied, cut, appended, made a string of. -/
namespace Go.Proofs.YtfihpljgbghogaaGreat
open Go.RowKit Go.Shelf
set_option linter.unusedVariables false

set_option maxRecDepth 100000 in
theorem info_u8 : (Tryz.prog.info? 5).map (fun i => (i.zero, i.size, i.bytes)) = some (some (.int .u8 0), 1, 1) := by kernel_rfl

set_option maxRecDepth 100000 in
theorem size_u8 : (Tryz.prog.info? 5).map (·.size) = some 1 := by kernel_rfl

/-- Where the bytes of a slice value lie. -/
def Lies (w : World) (a : Option Addr) (len : Nat) (bs : List Int) : Prop :=
  len = 0 ∨ ∃ b off, a = some ⟨b, off, none⟩ ∧ b < w.heap.size ∧ ∀ j, j < len → w.cell? ⟨b, off + j, none⟩ = some (.int .u8 (bs[j]?.getD 0))

/-- What a copy of bytes into a new row of as many asks. -/
theorem copy_facts {w w1 : World} {a : Option Addr} {len e : Nat} {bs : List Int} (HL : Hid (bs.length = len)) (hA : Hid (Lies w a len bs))
    (hown1 : w1.ownsRow w.heap.size e 1 (.slice (some ⟨w.heap.size, 0, none⟩) len len) len (madeCells (Value.int .u8 0).cells (len * 1)).toList) (hgrow1 : w.grownBy w1 none) :
    Hid (Below w.heap.size w w1) ∧ Hid (w1.heap[w.heap.size]? = some (.cells (List.replicate len (Value.int .u8 0)).toArray e (0, 0))) ∧
    Hid (0 < (bs.map (Value.int .u8)).length → some (⟨w.heap.size, 0, none⟩ : Addr) = some ⟨w.heap.size, 0, none⟩ ∧ ∃ ad, a = some ad ∧ ∀ j v, (bs.map (Value.int .u8))[j]? = some v → w1.cell? (ad.add j) = some v) := by
  have hB1 : Below w.heap.size w w1 := (Below.refl _ w).grown hgrow1 (Nat.le_refl _) (fun k e => by cases e)
  refine ⟨hB1, ?_, ?_⟩
  · rw [show (Value.int .u8 0).cells = #[.int .u8 0] from rfl, toList_madeCells_one, Nat.mul_one] at hown1
    exact ownsRow_row hown1
  · intro h0
    rw [List.length_map, HL.out] at h0
    rcases hA.out with h | ⟨b, off, e, hb, hc⟩
    · omega
    · refine ⟨rfl, _, e, fun j v hj => ?_⟩
      have hjl : j < len := by
        have := (List.getElem?_eq_some_iff.1 hj).1
        rwa [List.length_map, HL.out] at this
      have hplain : (⟨b, off, none⟩ : Addr).add j = ⟨b, off + j, none⟩ := by unfold Addr.add; split <;> simp_all
      rw [hplain, hB1.cell (p := ⟨b, off + j, none⟩) hb, hc j hjl]
      rw [List.getElem?_map, List.getElem?_eq_getElem (by rw [HL.out]; exact hjl)] at hj
      rw [List.getElem?_eq_getElem (by rw [HL.out]; exact hjl)]
      exact hj

theorem copy_len {len : Nat} {bs : List Int} (HL : Hid (bs.length = len)) : Hid ((bs.map (Value.int .u8)).length = Nat.min len len) := by
  show _ = _
  rw [List.length_map, HL.out]; exact (Nat.min_self _).symm

theorem copy_one {bs : List Int} : Hid (∀ v ∈ bs.map (Value.int .u8), v.oneCell' = true) := by
  intro v hv
  obtain ⟨x, _, rfl⟩ := List.mem_map.1 hv
  rfl

theorem Lies.of_sl {w : World} {v : Value} {bs : List Int} (h : Sl .u8 w v bs) : ∃ a cap, v = .slice a bs.length cap ∧ Lies w a bs.length bs ∧ bs.length ≤ maxLen := by
  obtain ⟨a, cap, rfl, h1, h2, h, _⟩ := h
  refine ⟨a, cap, rfl, ?_, Nat.le_trans h1 h2⟩
  rcases h with rfl | h
  · exact .inl rfl
  · exact .inr h

theorem drop_get (bs : List Int) (k j : Nat) : (bs.drop k)[j]?.getD 0 = bs[k + j]?.getD 0 := by rw [List.getElem?_drop]

theorem take_get (bs : List Int) (k j : Nat) (h : j < k) : (bs.take k)[j]?.getD 0 = bs[j]?.getD 0 := by rw [List.getElem?_take, if_pos h]

theorem grown_below {w w' : World} (h : Below w.heap.size w w') (row : Option Nat) : w.grownBy w' row := ⟨h.os, h.tape, h.output, h.size, fun k hk _ => h.block k hk⟩

theorem grown_trans {a b c : World} {row : Option Nat} (h : a.grownBy b row) (k : b.grownBy c row) : a.grownBy c row :=
  ⟨k.os.trans h.os, k.tape.trans h.tape, k.output.trans h.output, Nat.le_trans h.size k.size, fun i hi hn => (k.block i (Nat.lt_of_lt_of_le hi h.size) hn).trans (h.block i hi hn)⟩

theorem IsBytes.take {bs : List Int} (h : IsBytes bs) (k : Nat) : IsBytes (bs.take k) := by
  intro j
  by_cases hj : j < k
  · rw [take_get bs k j hj]; exact h j
  · rw [List.getElem?_eq_none (by simp; omega)]; simp

/-- What a slice owns it leads to. -/
theorem Sl.of_owns {w : World} {base : Nat} {v : Value} {bs : List Int} (h : w.ownsRow base 5 1 v bs.length (bs.map (Value.int .u8))) : Sl .u8 w v bs := by
  rcases h.2 with ⟨rfl, h0⟩ | ⟨g, cap, cur, rfl, _, hg, h1, h2, h3, h4⟩
  · obtain rfl := List.eq_nil_of_length_eq_zero h0
    exact Sl.nil _ _
  · refine Sl.at (off := 0) h1 h2 (Array.getElem?_eq_some_iff.1 hg).1 fun j hj => ?_
    rw [cell_of_row _ _ _ _ _ _ hg]
    have e : (cur.toList.take (bs.length * 1))[0 + j]? = (bs.map (Value.int .u8))[0 + j]? := by rw [h4]
    rw [List.getElem?_take, if_pos (by omega)] at e
    rw [← Array.getElem?_toList, e]
    simp [hj]

set_option maxRecDepth 100000 in
theorem conv_sl {w : World} {v : Value} {xs : List Int} (h : Sl .u8 w v xs) : (convert 31 9 v).run Tryz.prog w = .ok (.string (strOfNums xs)) w := by
  obtain ⟨a, cap, rfl, h1, h2, h, _⟩ := h
  rcases h with rfl | ⟨b, off, rfl, h3, h4⟩
  · cases a with
    | none => exact run_convert_bytes_nil w 31 5 Tryz.underlying31 Tryz.underlying5 0 cap 9 Tryz.underlying9
    | some x =>
      rw [run_convert_bytes_string w 31 9 5 _ _ cap Tryz.underlying31 Tryz.underlying5 Tryz.underlying9, run_bytesToString w x _ cap [] (by have := run_loadCells_list (P := Tryz.prog) w x [] (fun j v hj => by simp at hj); simpa using this)]
      rfl
  · exact run_convert_bytes_arg w 31 5 Tryz.underlying31 Tryz.underlying5 b off _ cap xs rfl (fun i hi => by rw [List.getD_eq_getElem?_getD]; exact h4 i hi) 9 Tryz.underlying9

set_option maxRecDepth 100000 in
/-- Bytes of whatever slice appended to a row of one's own. -/
theorem run_append_bytes (base : Nat) (w : World) (v : Value) (xs : List Int) (hown : w.ownsRow base 5 1 v xs.length (xs.map (Value.int .u8))) (x : Value) (bs : List Int) (hx : Sl .u8 w x bs)
    (hlen : xs.length + bs.length ≤ 140737488355328) (hbase : base ≤ w.heap.size) :
    ∃ v' w', (Builtin.append_ #[31, 31] 31 #[v, x]).run Tryz.prog w = .ok v' w' ∧ w'.ownsRow base 5 1 v' (xs ++ bs).length ((xs ++ bs).map (Value.int .u8)) ∧ w.grownBy w' v.ownBlock := by
  obtain ⟨i0, hi, hz0, hz1, hz2⟩ := info_parts info_u8
  obtain ⟨a, cap, rfl, h1, h2, h, hnil⟩ := hx
  have hap : ∀ ad, a = some ad → (∀ j u, (bs.map (Value.int .u8))[j]? = some u → w.cell? (ad.add j) = some u) → ∃ v' w', (Builtin.append_ #[31, 31] 31 #[v, .slice a bs.length cap]).run Tryz.prog w = .ok v' w' ∧ w'.ownsRow base 5 1 v' (xs ++ bs).length ((xs ++ bs).map (Value.int .u8)) ∧ w.grownBy w' v.ownBlock := by
    rintro ad rfl hc
    obtain ⟨v', w', hr, ho, hg, _⟩ := run_append_own (P := Tryz.prog) w base 31 31 5 i0 (.int .u8 0) 1 1 Tryz.underlying31 hi hz0 hz1 hz2 rfl (by decide) v xs.length _ hown ad bs.length cap (bs.map (Value.int .u8)) (by simp) hc
      (fun u hu => by obtain ⟨y, _, rfl⟩ := List.mem_map.1 hu; rfl) (by unfold maxLen; omega) (by omega) hbase
    exact ⟨v', w', hr, by rw [List.length_append, List.map_append]; exact ho, hg⟩
  rcases h with rfl | ⟨b, off, rfl, h3, h4⟩
  · cases a with
    | some ad => exact hap ad rfl (fun j u hj => by simp at hj)
    | none =>
      obtain rfl := hnil rfl
      exact ⟨v, w, run_append_owned_none (P := Tryz.prog) (w := w) base 31 31 5 i0 1 Tryz.underlying31 hi v xs.length _ hown, by simpa using hown, World.grownBy.refl _ _⟩
  · refine hap _ rfl fun j u hj => ?_
    have hjl : j < bs.length := by
      have := (List.getElem?_eq_some_iff.1 hj).1
      rwa [List.length_map] at this
    have hplain : (⟨b, off, none⟩ : Addr).add j = ⟨b, off + j, none⟩ := by unfold Addr.add; split <;> simp_all
    rw [hplain, h4 j hjl]
    rw [List.getElem?_map, List.getElem?_eq_getElem hjl] at hj
    rw [List.getElem?_eq_getElem hjl]
    exact hj

set_option maxRecDepth 100000 in
/-- A copy by append to an empty literal. -/
theorem copy_lit (w : World) (x : Value) (bs : List Int) (hx : Sl .u8 w x bs) (hlen : bs.length ≤ 140737488355328) :
    ∃ v' w', Hid ((Builtin.append_ #[31, 31] 31 #[.slice (some ⟨w.heap.size, 0, none⟩) 0 0, x]).run Tryz.prog (w.alloc (.cells #[] 5)) = .ok v' w') ∧ Hid (w'.ownsRow w.heap.size 5 1 v' bs.length (bs.map (Value.int .u8))) ∧ Hid (Below w.heap.size w w') := by
  have ho0 : (w.alloc (.cells #[] 5)).ownsRow w.heap.size 5 1 (.slice (some ⟨w.heap.size, 0, none⟩) 0 0) ([] : List Int).length (([] : List Int).map (Value.int .u8)) := World.ownsRow_lit w #[] 0 (Nat.le_refl _) (by unfold maxLen; omega) rfl
  obtain ⟨v3, w3, hrun, ho3, hg3⟩ := run_append_bytes w.heap.size (w.alloc (.cells #[] 5)) _ [] ho0 x bs (hx.below ((Below.refl _ _).alloc (Nat.le_refl _) _)) (by simp; omega) (by simp)
  have hgB : Below w.heap.size w w3 := ((Below.refl _ _).alloc (Nat.le_refl _) _).grown hg3 (by simp) (fun k e => by simp [Value.ownBlock] at e; omega)
  exact ⟨v3, w3, hrun, Lib.hid (by simpa using ho3), hgB⟩

set_option maxRecDepth 100000 in
theorem elem_bytes : Tryz.prog.underlying 31 = some (.slice (Tryz.prog.elem 31)) := by kernel_rfl

set_option maxRecDepth 100000 in
theorem sizeOf_byte (W : World) : (sizeOf (Tryz.prog.elem 31)).run Tryz.prog W = .ok 1 W := by kernel_rfl

end Go.Proofs.YtfihpljgbghogaaGreat

/- Rows of pairs in memory: as they come in, and of one's own; appended, cut. -/
namespace Go.Proofs.YtfihpljgbghogaaGreat
open Go.RowKit
set_option linter.unusedVariables false

/-- The pairs' cells, one behind the other. -/
def pcs (l : List (Int × Int)) : List Value := l.flatMap fun p => [.int .i64 p.1, .int .i64 p.2]
theorem pcs_cons (p : Int × Int) (l : List (Int × Int)) : pcs (p :: l) = .int .i64 p.1 :: .int .i64 p.2 :: pcs l := rfl
theorem pcs_append (a b : List (Int × Int)) : pcs (a ++ b) = pcs a ++ pcs b := by simp [pcs]
theorem pcs_length (l : List (Int × Int)) : (pcs l).length = l.length * 2 := by
  induction l with
  | nil => rfl
  | cons p l ih => rw [pcs_cons]; simp only [List.length_cons, ih]; omega
theorem pcs_get {l : List (Int × Int)} {j : Nat} {p : Int × Int} (h : l[j]? = some p) : (pcs l)[j * 2]? = some (.int .i64 p.1) ∧ (pcs l)[j * 2 + 1]? = some (.int .i64 p.2) := by
  induction l generalizing j with
  | nil => simp at h
  | cons q l ih =>
    rw [pcs_cons]
    cases j with
    | zero => simp at h; subst h; exact ⟨rfl, rfl⟩
    | succ j =>
      have := ih (j := j) (by simpa using h)
      rw [show (j + 1) * 2 = j * 2 + 1 + 1 by omega]
      simpa using this
theorem pcs_one {l : List (Int × Int)} : ∀ u ∈ pcs l, u.oneCell' = true := by
  intro u hu
  obtain ⟨p, hp, h⟩ := List.mem_flatMap.1 hu
  simp at h
  rcases h with rfl | rfl <;> rfl
theorem pcs_of_cells {w : World} {b off : Nat} {l : List (Int × Int)} (h : ∀ j p, l[j]? = some p → w.cell? ⟨b, off + j * 2, none⟩ = some (.int .i64 p.1) ∧ w.cell? ⟨b, off + j * 2 + 1, none⟩ = some (.int .i64 p.2)) :
    ∀ j u, (pcs l)[j]? = some u → w.cell? ⟨b, off + j, none⟩ = some u := by
  intro j u hu
  have hj : j < l.length * 2 := by rw [← pcs_length]; exact (List.getElem?_eq_some_iff.1 hu).1
  have hk : j / 2 < l.length := by omega
  have hg := List.getElem?_eq_getElem hk
  obtain ⟨c1, c2⟩ := h _ _ hg
  obtain ⟨f1, f2⟩ := pcs_get hg
  rcases (show j = j / 2 * 2 ∨ j = j / 2 * 2 + 1 by omega) with e | e
  · rw [e] at hu ⊢
    rw [f1] at hu; cases hu
    exact c1
  · rw [e] at hu ⊢
    rw [f2] at hu; cases hu
    rw [show off + (j / 2 * 2 + 1) = off + j / 2 * 2 + 1 by omega]
    exact c2

/-- Pairs that lie somewhere. -/
def Prt (W : World) (v : Value) (l : List (Int × Int)) : Prop := ∃ a cap, v = .slice a l.length cap ∧ l.length ≤ cap ∧ cap ≤ maxLen ∧ Is64s l ∧ (a = none → cap = 0) ∧
  (l = [] ∨ ∃ b off, a = some ⟨b, off, none⟩ ∧ b < W.heap.size ∧ ∀ j p, l[j]? = some p → W.cell? ⟨b, off + j * 2, none⟩ = some (.int .i64 p.1) ∧ W.cell? ⟨b, off + j * 2 + 1, none⟩ = some (.int .i64 p.2))
theorem Prt.below {W W' : World} {v : Value} {l : List (Int × Int)} (h : Prt W v l) (hB : Below W.heap.size W W') : Prt W' v l := by
  obtain ⟨a, cap, rfl, h1, h2, h3, hz, h4⟩ := h
  refine ⟨a, cap, rfl, h1, h2, h3, hz, ?_⟩
  rcases h4 with h4 | ⟨b, off, rfl, h5, h6⟩
  · exact .inl h4
  · exact .inr ⟨b, off, rfl, Nat.lt_of_lt_of_le h5 hB.size, fun j p hj => ⟨(hB.cell (p := ⟨b, off + j * 2, none⟩) h5).trans (h6 j p hj).1, (hB.cell (p := ⟨b, off + j * 2 + 1, none⟩) h5).trans (h6 j p hj).2⟩⟩
theorem Prt.nil (W : World) : Prt W (.slice none 0 0) [] := ⟨none, 0, rfl, Nat.le_refl _, Nat.zero_le _, (fun p hp => by cases hp), (fun _ => rfl), .inl rfl⟩
theorem Prt.is {W : World} {v : Value} {l : List (Int × Int)} (h : Prt W v l) : Is64s l := by
  obtain ⟨a, cap, rfl, h1, h2, h3, -⟩ := h; exact h3
/-- One of them. -/
theorem Prt.at {W : World} {a : Option Addr} {n cap k : Nat} {l : List (Int × Int)} (h : Prt W (.slice a n cap) l) {p : Int × Int} (hk : l[k]? = some p) :
    ∃ b off, a = some ⟨b, off, none⟩ ∧ b < W.heap.size ∧ W.cell? ⟨b, off + k * 2, none⟩ = some (.int .i64 p.1) ∧ W.cell? ⟨b, off + k * 2 + 1, none⟩ = some (.int .i64 p.2) := by
  obtain ⟨a', cap', e, h1, h2, h3, hz, h4⟩ := h
  cases e
  rcases h4 with rfl | ⟨b, off, rfl, h5, h6⟩
  · simp at hk
  · exact ⟨b, off, rfl, h5, h6 k p hk⟩
set_option maxRecDepth 100000 in
theorem pair_of_cells10 {W : World} {cs : List Value} (h : Cells W 54 cs) : ∃ p : Int × Int, (Is64 p.1 ∧ Is64 p.2) ∧ cs = [.int .i64 p.1, .int .i64 p.2] := by
  obtain ⟨hl, hj⟩ := h.struct Tryz.underlying54
  rw [show Tryz.prog.cellsOf 54 = 2 from by kernel_rfl] at hl
  have h0 : Cells W 3 ((cs.drop 0).take (Tryz.prog.cellsOf 3)) := hj 0 _ rfl
  have h1 : Cells W 3 ((cs.drop 1).take (Tryz.prog.cellsOf 3)) := hj 1 _ rfl
  rw [show Tryz.prog.cellsOf 3 = 1 from by kernel_rfl] at h0 h1
  match cs, hl with
  | [x, y], _ =>
    obtain ⟨a, e1, wa⟩ := h0.int Tryz.underlying3
    obtain ⟨b, e2, wb⟩ := h1.int Tryz.underlying3
    simp at e1 e2
    subst e1 e2
    exact ⟨(a, b), ⟨bounds_i64 wa, bounds_i64 wb⟩, rfl⟩
set_option maxRecDepth 100000 in
theorem prt_of {W : World} {a : Option Addr} {len cap : Nat}
    (r : (a = none ∧ len = 0 ∧ cap = 0) ∨ ∃ x, a = some x ∧ len ≤ cap ∧ cap ≤ maxLen ∧ ∀ i, i < cap → ∃ es, W.cells? 0 (x.add (i * Tryz.prog.cellsOf 54)) (Tryz.prog.cellsOf 54) = some es ∧ Cells W 54 es) :
    ∃ l, Prt W (.slice a len cap) l := by
  rcases r with ⟨rfl, rfl, rfl⟩ | ⟨x, rfl, h1, h2, h3⟩
  · exact ⟨[], Prt.nil W⟩
  · rw [show Tryz.prog.cellsOf 54 = 2 from by kernel_rfl] at h3
    have h4 : ∀ i, i < cap → ∃ p : Int × Int, (Is64 p.1 ∧ Is64 p.2) ∧ W.cell? (x.add (i * 2)) = some (.int .i64 p.1) ∧ W.cell? ((x.add (i * 2)).add 1) = some (.int .i64 p.2) := by
      intro i hi
      obtain ⟨es, g1, g2⟩ := h3 i hi
      obtain ⟨p, hp, rfl⟩ := pair_of_cells10 g2
      have hm := (cells_many g1).2
      refine ⟨p, hp, ?_, ?_⟩
      · obtain ⟨u, hu1, hu2⟩ := hm 0 (by omega)
        cases hu1
        rwa [show (x.add (i * 2)).add 0 = x.add (i * 2) by simp [Addr.add]] at hu2
      · obtain ⟨u, hu1, hu2⟩ := hm 1 (by omega)
        cases hu1
        exact hu2
    have h5 : ∀ i, ∃ p : Int × Int, i < cap → (Is64 p.1 ∧ Is64 p.2) ∧ W.cell? (x.add (i * 2)) = some (.int .i64 p.1) ∧ W.cell? ((x.add (i * 2)).add 1) = some (.int .i64 p.2) := fun i => by
      by_cases hi : i < cap
      · obtain ⟨s, hs⟩ := h4 i hi; exact ⟨s, fun _ => hs⟩
      · exact ⟨(0, 0), fun h => absurd h hi⟩
    obtain ⟨f, hf⟩ := Classical.axiomOfChoice h5
    refine ⟨(List.range len).map f, some x, cap, by simp, by simp; omega, h2, fun s hs => ?_, (fun e => by cases e), ?_⟩
    · obtain ⟨i, hi, rfl⟩ := List.mem_map.1 hs
      exact (hf i (by have := List.mem_range.1 hi; omega)).1
    · by_cases h0 : len = 0
      · subst h0; exact .inl rfl
      · have hc0 := (hf 0 (by omega)).2.1
        rw [Nat.zero_mul, show x.add 0 = x by simp [Addr.add]] at hc0
        obtain ⟨b, off, rfl, hb⟩ := cell_plain hc0
        refine .inr ⟨b, off, rfl, hb, fun j s hj => ?_⟩
        have hjl : j < len := by have := (List.getElem?_eq_some_iff.1 hj).1; simpa using this
        have hs : s = f j := by rw [List.getElem?_map] at hj; simp [hjl] at hj; exact hj.symm
        subst hs
        have q := (hf j (by omega)).2
        simp only [add_plain] at q
        exact q
/-- Pairs of one's own, made since block N. -/
def PrO (N : Nat) (w : World) (v : Value) (l : List (Int × Int)) : Prop := w.ownsRow N 54 2 v l.length (pcs l) ∧ Is64s l
theorem PrO.nil (N : Nat) (w : World) : PrO N w (.slice none 0 0) [] := ⟨World.ownsRow_nil _ _ _ _, fun p hp => by cases hp⟩
theorem PrO.below {N : Nat} {w w' : World} {v : Value} {l : List (Int × Int)} (h : PrO N w v l) (hB : Below w.heap.size w w') : PrO N w' v l := ⟨own_belowT h.1 hB, h.2⟩
theorem PrO.prt {N : Nat} {w : World} {v : Value} {l : List (Int × Int)} (h : PrO N w v l) : Prt w v l := by
  rcases h.1.2 with ⟨rfl, h0⟩ | ⟨g, cap, cur, rfl, h1, h2, h3, h4, h5, h6⟩
  · obtain rfl : l = [] := List.eq_nil_of_length_eq_zero h0
    exact Prt.nil w
  · refine ⟨_, cap, rfl, h3, h4, h.2, (fun e => by cases e), .inr ⟨g, 0, rfl, (Array.getElem?_eq_some_iff.1 h2).1, fun j p hj => ?_⟩⟩
    have hc := h.1.cells (g := g) rfl
    obtain ⟨f1, f2⟩ := pcs_get hj
    have c1 := hc _ _ f1
    have c2 := hc _ _ f2
    rw [Addr.add_mid] at c1 c2
    exact ⟨c1, by simpa [Nat.add_assoc] using c2⟩
theorem PrO.one (w : World) (p : Int × Int) (hp : Is64 p.1 ∧ Is64 p.2) : PrO w.heap.size (w.alloc (.cells #[.int .i64 p.1, .int .i64 p.2] 54)) (.slice (some ⟨w.heap.size, 0, none⟩) 1 1) [p] :=
  ⟨World.ownsRow_lit w #[.int .i64 p.1, .int .i64 p.2] 1 (Nat.le_refl _) (by simp [maxLen]) rfl, fun q hq => by simp at hq; subst hq; exact hp⟩
theorem PrO.weak {N M : Nat} {w : World} {v : Value} {l : List (Int × Int)} (h : PrO N w v l) (hM : M ≤ N) : PrO M w v l := by
  refine ⟨⟨h.1.1, ?_⟩, h.2⟩
  rcases h.1.2 with h' | ⟨g, cap, cur, e, h1, h2⟩
  · exact .inl h'
  · exact .inr ⟨g, cap, cur, e, Nat.le_trans hM h1, h2⟩
set_option maxRecDepth 100000 in
theorem info_prs : (Tryz.prog.info? 54).map (fun i => (i.zero, i.size, i.bytes)) = some (some (.agg #[.int .i64 0, .int .i64 0]), 2, 16) := by kernel_rfl
/-- The row that comes back is this one, or a new one. -/
def Same (w : World) (ob : Option Nat) (u : Value) : Prop := u.ownBlock = ob ∨ ∀ j, u.ownBlock = some j → w.heap.size ≤ j
set_option maxRecDepth 100000 in
theorem pr_append {N : Nat} {w : World} {v x : Value} {l m : List (Int × Int)} (h : PrO N w v l) (hx : Prt w x m) (hN : N ≤ w.heap.size) (hlen : l.length + m.length ≤ 1000000) :
    ∃ v' w', (∀ ty, (Builtin.append_ #[26, 26] ty #[v, x]).run Tryz.prog w = .ok v' w') ∧ PrO N w' v' (l ++ m) ∧ w.grownBy w' v.ownBlock ∧ Same w v.ownBlock v' := by
  obtain ⟨i0, hi⟩ : ∃ i, Tryz.prog.info? 54 = some i := ⟨_, rfl⟩
  have hq := info_prs
  rw [hi] at hq
  have hz : (i0.zero, i0.size, i0.bytes) = (some (.agg #[.int .i64 0, .int .i64 0]), 2, 16) := Option.some.inj hq
  have hz0 := congrArg (·.1) hz
  have hz1 := congrArg (·.2.1) hz
  have hz2 := congrArg (·.2.2) hz
  simp only at hz0 hz1 hz2
  have h64 : Is64s (l ++ m) := fun p hp => by
    rcases List.mem_append.1 hp with hp | hp
    · exact h.2 p hp
    · exact hx.is p hp
  obtain ⟨a, cap, rfl, h1, h2, -, h0, h4⟩ := hx
  have hml : m.length ≤ maxLen := by omega
  cases a with
  | none =>
    obtain rfl := h0 rfl
    obtain rfl : m = [] := List.eq_nil_of_length_eq_zero (by omega)
    refine ⟨v, w, fun ty => run_append_owned_none (P := Tryz.prog) (w := w) N 26 ty 54 i0 2 Tryz.underlying26 hi v l.length _ h.1, by simpa using h, World.grownBy.refl _ _, .inl rfl⟩
  | some ad =>
    have hnews : ∀ j u, (pcs m)[j]? = some u → w.cell? (ad.add j) = some u := by
      rcases h4 with rfl | ⟨b, off, e, h5, h6⟩
      · intro j u hu; simp [pcs] at hu
      · cases e
        intro j u hu
        rw [Addr.add_lit]
        exact pcs_of_cells h6 j u hu
    have hr : ∀ ty, ∃ v' w', (Builtin.append_ #[26, 26] ty #[v, .slice (some ad) m.length cap]).run Tryz.prog w = .ok v' w' ∧ w'.ownsRow N 54 2 v' (l.length + m.length) (pcs l ++ pcs m) ∧ w.grownBy w' v.ownBlock ∧ (v'.ownBlock = v.ownBlock ∨ v'.ownBlock = some w.heap.size) := fun ty => by
      obtain ⟨v', w', g1, g2, g3, -, g4⟩ := run_append_own_at (P := Tryz.prog) w N 26 ty 54 i0 (.agg #[.int .i64 0, .int .i64 0]) 2 16 Tryz.underlying26 hi hz0 hz1 hz2 rfl (by decide) v l.length _ h.1 ad m.length cap (pcs m) (pcs_length m) hnews pcs_one (by unfold maxLen; omega) (by omega) hN
      exact ⟨v', w', g1, g2, g3, g4⟩
    obtain ⟨v', w', g1, g2, g3, g4⟩ := hr 0
    have hsm : Same w v.ownBlock v' := by
      rcases g4 with g4 | g4
      · exact .inl g4
      · exact .inr fun j e => by rw [g4] at e; cases e; exact Nat.le_refl _
    refine ⟨v', w', fun ty => ?_, ⟨by rw [List.length_append, pcs_append]; exact g2, h64⟩, g3, hsm⟩
    rw [← g1]
    rfl
/-! A pair as one value. -/
theorem loadVar_openP (t : TypeId) (h : t ≠ 54) (a : Addr) : loadVar t a = (do if ← isAgg t then pure (.agg (← loadCells a (← sizeOf t))) else load a) := rfl
theorem storeVar_openP (t : TypeId) (h : t ≠ 54) (a : Addr) (v : Value) : storeVar t a v = (do
    if v.cells.size ≠ (← sizeOf t) then stuck "storeVar: the value has not the size of the variable"
    storeCells a v.cells.toList) := rfl
set_option maxRecDepth 100000 in
theorem zero_prs (w : World) : (zeroValue 54).run Tryz.prog w = .ok (.agg #[.int .i64 0, .int .i64 0]) w := by kernel_rfl
set_option maxRecDepth 100000 in
theorem build_prs0 (w : World) : (Instr.build 54 #[]).run Tryz.prog w = .ok (.agg #[.int .i64 0, .int .i64 0]) w := by kernel_rfl
set_option maxRecDepth 100000 in
theorem build_prs (a b : Int) (w : World) : (Instr.build 54 #[(0, .int .i64 a), (1, .int .i64 b)]).run Tryz.prog w = .ok (.agg #[.int .i64 a, .int .i64 b]) w := by kernel_rfl
set_option maxRecDepth 100000 in
theorem size_prs : (Tryz.prog.info? 54).map (·.size) = some 2 := by kernel_rfl
def prL (a b : Int) : List Value := [.int .i64 a, .int .i64 b]
set_option maxRecDepth 100000 in
theorem load_prs {W : World} {b off : Nat} {x y : Int} (c1 : W.cell? ⟨b, off, none⟩ = some (.int .i64 x)) (c2 : W.cell? ⟨b, off + 1, none⟩ = some (.int .i64 y)) :
    (loadVar 54 ⟨b, off, none⟩).run Tryz.prog W = .ok (.agg #[.int .i64 x, .int .i64 y]) W :=
  run_loadVar_mid W b off _ (prL x y) _ (fun j v hj => by
    match j with
    | 0 => cases hj; exact c1
    | 1 => cases hj; exact c2
    | j + 2 => simp [prL] at hj) Tryz.underlying54 rfl (by kernel_rfl)
set_option maxRecDepth 100000 in
theorem new_prs (x : World) (a b : Int) : (storeVar 54 ⟨x.heap.size, 0, none⟩ (.agg #[.int .i64 a, .int .i64 b])).run Tryz.prog (x.alloc (.cells #[.int .i64 0, .int .i64 0] 54)) = .ok () (x.alloc (.cells #[.int .i64 a, .int .i64 b] 54)) :=
  run_storeVar_new x _ _ (prL a b).toArray size_prs rfl (by kernel_rfl)
set_option maxRecDepth 100000 in
theorem slice_prs (w : World) (a b : Int) : (Instr.buildSlice 26 1 #[(0, .agg #[.int .i64 a, .int .i64 b])]).run Tryz.prog w = .ok (.slice (some ⟨w.heap.size, 0, none⟩) 1 1) (w.alloc (.cells #[.int .i64 a, .int .i64 b] 54)) := by kernel_rfl
set_option maxRecDepth 100000 in
theorem slice_prs0 (w : World) : (Instr.buildSlice 26 0 #[]).run Tryz.prog w = .ok (.slice (some ⟨w.heap.size, 0, none⟩) 0 0) (w.alloc (.cells #[] 54)) := by kernel_rfl
end Go.Proofs.YtfihpljgbghogaaGreat

/- A region that draws its order, whose operations read what lay and whose calls leave what lay: walked once, in the order of the text. -/
namespace Go.Proofs.YtfihpljgbghogaaGreat
open Go.RowKit
set_option linter.unusedVariables false

/-- A world that has what lay in W, and maybe more. -/
def Ext (W : World) : Type := {w : World // Below W.heap.size W w}
instance (W : World) : Nonempty (Ext W) := ⟨⟨W, Below.refl _ _⟩⟩

theorem region_ext {P : Program} {id : Nat} {Q : Exit → Act → World → Prop} {a : Act} {w : World} {l : List Oper} (hm : P.follows .mixedOrders = true) (hB : Region.lexB .any l.toArray = true)
    (h : wpQuiet P l.toArray (fun w' => ∃ x : Ext w, w' = x.1) (fun a' => ∀ x : Ext w, Q .normal a' x.1) l a) : (Code.region id l.toArray true).wp P Q a w := by
  refine wp_region_quiet (C := fun w' => ∃ x : Ext w, w' = x.1) hm hB ⟨⟨w.drew, (Below.refl _ w).drew⟩, rfl⟩ ?_
  have : (fun a' => ∀ w', (∃ x : Ext w, w' = x.1) → Q .normal a' w') = fun a' => ∀ x : Ext w, Q .normal a' x.1 := by
    funext a'
    exact propext ⟨fun h x => h _ ⟨x, rfl⟩, fun h w' ⟨x, e⟩ => e ▸ h x⟩
  rw [this]
  simpa using h

theorem calls_ext {P : Program} {f : FuncId} {args : Array Value} {W : World} {v : Value} (x : Ext W) (h : Calls P f args x.1 fun e w' => e = .returned v ∧ Below x.1.heap.size x.1 w') :
    Calls P f args x.1 fun e w'' => e = .returned v ∧ ∃ y : Ext W, w'' = y.1 :=
  h.mono fun e w' ⟨h1, h2⟩ => ⟨h1, ⟨w', x.2.trans (h2.mono x.2.size)⟩, rfl⟩

theorem Ext.cell {W : World} (x : Ext W) {p : Addr} (h : p.block < W.heap.size) : x.1.cell? p = W.cell? p := x.2.cell h
end Go.Proofs.YtfihpljgbghogaaGreat

/- The library's Clone and Insert at pairs. -/
namespace Go.Proofs.YtfihpljgbghogaaGreat
open Go.RowKit
set_option linter.unusedVariables false

theorem PrO.base {N : Nat} {w : World} {v : Value} {l : List (Int × Int)} (h : PrO N w v l) : ∀ j, v.ownBlock = some j → N ≤ j ∧ j < w.heap.size := by
  intro j hj
  rcases h.1.2 with ⟨rfl, h0⟩ | ⟨g, cap, cur, rfl, h1, h2, -⟩
  · cases hj
  · cases hj
    exact ⟨h1, (Array.getElem?_eq_some_iff.1 h2).1⟩

set_option maxRecDepth 100000 in
theorem eql_prs1 (p : Addr) (n c : Nat) (w : World) : (binOp .eql 26 (.slice (some p) n c) (.slice none 0 0)).run Tryz.prog w = .ok (.bool false) w := by kernel_rfl
set_option maxRecDepth 100000 in
theorem eql_prs0 (w : World) : (binOp .eql 26 (.slice none 0 0) (.slice none 0 0)).run Tryz.prog w = .ok (.bool true) w := by kernel_rfl
attribute [local go_sem] eql_prs0 eql_prs1
set_option maxRecDepth 100000 in
set_option maxHeartbeats 4000000 in
/-- **Clone**. -/
theorem tb_clone {w : World} {v : Value} {l : List (Int × Int)} (h : Prt w v l) (hlen : l.length ≤ 1000000) :
    Calls Tryz.prog 50 #[v] w fun e w' => ∃ u, e = .returned u ∧ PrO w.heap.size w' u l ∧ Below w.heap.size w w' := by
  have HP := Lib.hid h
  obtain ⟨a, cap, rfl, -, -, -, h0, h4⟩ := h
  cases a with
  | none =>
    obtain rfl : l = [] := by
      rcases h4 with h4 | ⟨b, off, e, -⟩
      · exact h4
      · cases e
    obtain rfl := h0 rfl
    go_enter Tryz.func50, Tryz.ntmps50
    go_wp2
    go_ret
    exact ⟨_, rfl, PrO.nil _ _, Below.refl _ _⟩
  | some ad =>
    obtain ⟨W, hW⟩ : ∃ W, w.alloc (.cells #[] 54) = W := ⟨_, rfl⟩
    have SB := slice_prs0 w
    rw [hW] at SB
    have hb := below_new w (.cells #[] 54)
    rw [hW] at hb
    have ho : PrO w.heap.size W (.slice (some ⟨w.heap.size, 0, none⟩) 0 0) [] := by
      rw [← hW]
      exact ⟨World.ownsRow_lit w #[] 0 (Nat.le_refl _) (by simp [maxLen]) rfl, fun p hp => by cases hp⟩
    obtain ⟨u, W2, hr, h1, h2, -⟩ := pr_append ho (HP.out.below hb) hb.size (by simpa using hlen)
    have HA := Lib.hid hr
    have HO := Lib.hid h1
    have HB : Hid (Below w.heap.size w W2) := hb.grown h2 hb.size (fun j e => by cases e; exact Nat.le_refl _)
    have HS := Lib.hid SB
    clear h0 h4 hW SB hb ho hr h1 h2 HP
    go_enter Tryz.func50, Tryz.ntmps50
    go_wp2_with (first | (refine gate_build ?_; refine wpList_build_run 26 0 #[] rfl rfl [] _ rfl HS.out ?_) | (at_builtin; refine wpList_append_run (.tmp 5) (.tmp 6) 26 rfl rfl _ _ _ rfl rfl (HA.out _) ?_))
    go_ret
    exact ⟨_, rfl, HO.out, HB.out⟩

end Go.Proofs.YtfihpljgbghogaaGreat

/- Rows of numbers of one's own: one more number. -/
namespace Go.Proofs.YtfihpljgbghogaaGreat
open Go.RowKit
set_option linter.unusedVariables false

/-- Numbers of one's own. -/
def InO (N : Nat) (w : World) (v : Value) (zs : List Int) : Prop := w.ownsRow N 3 1 v zs.length (zs.map (Value.int .i64))
theorem InO.nil (N : Nat) (w : World) : InO N w (.slice none 0 0) [] := World.ownsRow_nil _ _ _ _
theorem InO.below {N : Nat} {w w' : World} {v : Value} {zs : List Int} (h : InO N w v zs) (hB : Below w.heap.size w w') : InO N w' v zs := own_belowT h hB
theorem InO.base {N : Nat} {w : World} {v : Value} {zs : List Int} (h : InO N w v zs) : ∀ j, v.ownBlock = some j → N ≤ j ∧ j < w.heap.size := by
  intro j hj
  rcases h.2 with ⟨rfl, h0⟩ | ⟨g, cap, cur, rfl, h1, h2, -⟩
  · cases hj
  · cases hj
    exact ⟨h1, (Array.getElem?_eq_some_iff.1 h2).1⟩
set_option maxRecDepth 100000 in
theorem info_intT : (Tryz.prog.info? 3).map (fun i => (i.zero, i.size, i.bytes)) = some (some (.int .i64 0), 1, 8) := by kernel_rfl
set_option maxRecDepth 100000 in
theorem slice_int1 (w : World) (x : Int) : (Instr.buildSlice 24 1 #[(0, .int .i64 x)]).run Tryz.prog w = .ok (.slice (some ⟨w.heap.size, 0, none⟩) 1 1) (w.alloc (.cells #[.int .i64 x] 3)) := by kernel_rfl
set_option maxRecDepth 100000 in
/-- One more number. -/
theorem in_append {N : Nat} {w : World} {v : Value} {zs : List Int} (h : InO N w v zs) (hN : N ≤ w.heap.size) (x : Int) (hlen : zs.length ≤ 900000) :
    ∃ v' w', (∀ ty, (Builtin.append_ #[24, 24] ty #[v, .slice (some ⟨w.heap.size, 0, none⟩) 1 1]).run Tryz.prog (w.alloc (.cells #[.int .i64 x] 3)) = .ok v' w') ∧ InO N w' v' (zs ++ [x]) ∧ w.grownBy w' v.ownBlock ∧ v' ≠ .slice none 0 0 := by
  obtain ⟨i0, hi⟩ : ∃ i, Tryz.prog.info? 3 = some i := ⟨_, rfl⟩
  have hq := info_intT
  rw [hi] at hq
  have hz : (i0.zero, i0.size, i0.bytes) = (some (.int .i64 0), 1, 8) := Option.some.inj hq
  have hz0 := congrArg (·.1) hz
  have hz1 := congrArg (·.2.1) hz
  have hz2 := congrArg (·.2.2) hz
  simp only at hz0 hz1 hz2
  have hr : ∀ ty, ∃ v' w', (Builtin.append_ #[24, 24] ty #[v, .slice (some ⟨w.heap.size, 0, none⟩) 1 1]).run Tryz.prog (w.alloc (.cells #[.int .i64 x] 3)) = .ok v' w' ∧ w'.ownsRow N 3 1 v' (zs.length + 1) (zs.map (Value.int .i64) ++ [.int .i64 x]) ∧ (w.alloc (.cells #[.int .i64 x] 3)).grownBy w' v.ownBlock ∧ (v' = .slice none 0 0 ↔ v = .slice none 0 0 ∧ (1 : Nat) = 0) := fun ty => by
    obtain ⟨v', w', g1, g2, g3, g4⟩ := run_append_own (P := Tryz.prog) (w.alloc (.cells #[.int .i64 x] 3)) N 24 ty 3 i0 (.int .i64 0) 1 8 Tryz.underlying24 hi hz0 hz1 hz2 rfl (by decide) v zs.length _ (own_belowT h (below_new w _)) ⟨w.heap.size, 0, none⟩ 1 1 [.int .i64 x] rfl
      (fun j u hj => by
        have hj0 : j = 0 := by have := (List.getElem?_eq_some_iff.1 hj).1; simp at this; exact this
        subst hj0
        cases hj
        rw [Addr.add_lit]
        exact (RowC.new w 3 [.int .i64 x]).cell 0 _ rfl) (fun u hu => by simp at hu; subst hu; rfl) (by unfold maxLen; omega) (by omega) (by simp; omega)
    exact ⟨v', w', g1, g2, g3, g4⟩
  obtain ⟨v', w', g1, g2, g3, g4⟩ := hr 0
  refine ⟨v', w', fun ty => ?_, ?_, grown_trans (grown_below (below_new w _) _) g3, fun e => absurd (g4.1 e).2 (by decide)⟩
  · rw [← g1]; rfl
  · show w'.ownsRow N _ 1 v' (zs ++ [x]).length ((zs ++ [x]).map _)
    rw [List.length_append, List.map_append]
    exact g2

end Go.Proofs.YtfihpljgbghogaaGreat

/- The developers' Merge. -/
namespace Go.Proofs.YtfihpljgbghogaaGreat
open Go.RowKit
set_option linter.unusedVariables false
attribute [-simp] Tryz.isAgg54 Tryz.zeroValue54
attribute [-go_sem] loadVar storeVar
attribute [local go_sem] loadVar_openP storeVar_openP zero_prs build_prs0 build_prs

theorem InO.grown {N M : Nat} {w w' : World} {v u : Value} {zs : List Int} {l : List (Int × Int)} (h : InO N w v zs) (hu : PrO M w u l) (hg : w.grownBy w' u.ownBlock) : InO N w' v zs := h.kept hg (rows_ne h hu.1 (by decide))
theorem PrO.grownI {N M : Nat} {w w' : World} {v u : Value} {zs : List Int} {l : List (Int × Int)} (h : PrO N w v l) (hu : InO M w u zs) (hg : w.grownBy w' u.ownBlock) : PrO N w' v l := ⟨h.1.kept hg (rows_ne h.1 hu (by decide)), h.2⟩
end Go.Proofs.YtfihpljgbghogaaGreat

/- slices.Sort and slices.Compact at []int: their contracts, laid at this seat. -/
namespace Go.Proofs.YtfihpljgbghogaaGreat
open Go.Shelf
def sortLaid_ren : Go.Shelf.Ren := ⟨fun | 189 => 80 | 125 => 112 | 257 => 111 | 128 => 125 | 129 => 126 | 294 => 116 | 295 => 117 | 296 => 118 | 297 => 119 | 298 => 120 | 299 => 121 | 216 => 122 | 300 => 123 | 301 => 124 | 328 => 129 | 329 => 130 | 330 => 131 | 331 => 132 | 332 => 133 | 215 => 134 | 343 => 135 | n => n, fun | 28 => 24 | 3 => 3 | 46 => 87 | 0 => 0 | 51 => 132 | 53 => 59 | 4 => 4 | 183 => 144 | 182 => 143 | 131 => 149 | 5 => 5 | 9 => 9 | 218 => 153 | 222 => 157 | 228 => 159 | 229 => 160 | n => n, fun | n => n⟩
set_option maxRecDepth 100000 in
theorem sortLaid : Go.Proofs.Lays.n189 Tryz.prog sortLaid_ren := {
  mixed := by kernel_rfl
  f125 := Tryz.func112.trans (congrArg some (by kernel_rfl))
  f128 := Tryz.func125.trans (congrArg some (by kernel_rfl))
  f129 := Tryz.func126.trans (congrArg some (by kernel_rfl))
  f189 := Tryz.func80.trans (congrArg some (by kernel_rfl))
  f215 := Tryz.func134.trans (congrArg some (by kernel_rfl))
  f216 := Tryz.func122.trans (congrArg some (by kernel_rfl))
  f257 := Tryz.func111.trans (congrArg some (by kernel_rfl))
  f294 := Tryz.func116.trans (congrArg some (by kernel_rfl))
  f295 := Tryz.func117.trans (congrArg some (by kernel_rfl))
  f296 := Tryz.func118.trans (congrArg some (by kernel_rfl))
  f297 := Tryz.func119.trans (congrArg some (by kernel_rfl))
  f298 := Tryz.func120.trans (congrArg some (by kernel_rfl))
  f299 := Tryz.func121.trans (congrArg some (by kernel_rfl))
  f300 := Tryz.func123.trans (congrArg some (by kernel_rfl))
  f301 := Tryz.func124.trans (congrArg some (by kernel_rfl))
  f328 := Tryz.func129.trans (congrArg some (by kernel_rfl))
  f329 := Tryz.func130.trans (congrArg some (by kernel_rfl))
  f330 := Tryz.func131.trans (congrArg some (by kernel_rfl))
  f331 := Tryz.func132.trans (congrArg some (by kernel_rfl))
  f332 := Tryz.func133.trans (congrArg some (by kernel_rfl))
  f343 := Tryz.func135.trans (congrArg some (by kernel_rfl))
  t0 := Tryz.underlying0
  a0 := Tryz.isAgg0
  z0 := Tryz.sizeOf0
  v0 := Tryz.zeroValue0
  t3 := Tryz.underlying3
  a3 := Tryz.isAgg3
  z3 := Tryz.sizeOf3
  v3 := Tryz.zeroValue3
  t4 := Tryz.underlying4
  a4 := Tryz.isAgg4
  z4 := Tryz.sizeOf4
  v4 := Tryz.zeroValue4
  t5 := Tryz.underlying5
  a5 := Tryz.isAgg5
  z5 := Tryz.sizeOf5
  v5 := Tryz.zeroValue5
  t9 := Tryz.underlying9
  a9 := Tryz.isAgg9
  z9 := Tryz.sizeOf9
  v9 := Tryz.zeroValue9
  t28 := Tryz.underlying24
  a28 := Tryz.isAgg24
  z28 := Tryz.sizeOf24
  v28 := Tryz.zeroValue24
  t46 := Tryz.underlying87
  a46 := Tryz.isAgg87
  z46 := Tryz.sizeOf87
  v46 := Tryz.zeroValue87
  t51 := Tryz.underlying132
  a51 := Tryz.isAgg132
  z51 := Tryz.sizeOf132
  v51 := Tryz.zeroValue132
  t53 := Tryz.underlying59
  a53 := Tryz.isAgg59
  z53 := Tryz.sizeOf59
  v53 := Tryz.zeroValue59
  t131 := Tryz.underlying149
  a131 := Tryz.isAgg149
  z131 := Tryz.sizeOf149
  v131 := Tryz.zeroValue149
  t182 := Tryz.underlying143
  a182 := Tryz.isAgg143
  z182 := Tryz.sizeOf143
  v182 := Tryz.zeroValue143
  t183 := Tryz.underlying144
  a183 := Tryz.isAgg144
  z183 := Tryz.sizeOf144
  v183 := Tryz.zeroValue144
  t218 := Tryz.underlying153
  a218 := Tryz.isAgg153
  z218 := Tryz.sizeOf153
  v218 := Tryz.zeroValue153
  t222 := Tryz.underlying157
  a222 := Tryz.isAgg157
  z222 := Tryz.sizeOf157
  v222 := Tryz.zeroValue157
  t228 := Tryz.underlying159
  a228 := Tryz.isAgg159
  z228 := Tryz.sizeOf159
  v228 := Tryz.zeroValue159
  t229 := Tryz.underlying160
  a229 := Tryz.isAgg160
  z229 := Tryz.sizeOf160
  v229 := Tryz.zeroValue160 }
open Go.Sort Go.RowKit in
set_option maxRecDepth 100000 in
theorem laid_slices_Sort_int (blk off cap : Nat) (zs : List Int) (w : World) (hH : Holds (Value.int .i64) w blk off zs.toArray) (hblk : blk < w.heap.size) (hsz : zs.length < 4611686018427387904) :
    Calls Tryz.prog 80 #[.slice (some ⟨blk, off, none⟩) zs.length cap] w fun e w' =>
      e = .returned (.tuple #[]) ∧ ∃ n os, w' = grow (putRow (Value.int .i64) (Sort.ahead w n) blk off (zs.mergeSort fun x y => decide (x ≤ y)).toArray) os := Any.slices_Sort_int sortLaid blk off cap zs w hH hblk hsz
def compactLaid_ren : Go.Shelf.Ren := ⟨fun | 20 => 81 | n => n, fun | 22 => 24 | 3 => 3 | 4 => 4 | 0 => 0 | n => n, fun | n => n⟩
set_option maxRecDepth 100000 in
theorem compactLaid : Go.Proofs.Lays2.n20 Tryz.prog compactLaid_ren := {
  mixed := by kernel_rfl
  f20 := Tryz.func81.trans (congrArg some (by kernel_rfl))
  t0 := Tryz.underlying0
  a0 := Tryz.isAgg0
  z0 := Tryz.sizeOf0
  v0 := Tryz.zeroValue0
  t3 := Tryz.underlying3
  a3 := Tryz.isAgg3
  z3 := Tryz.sizeOf3
  v3 := Tryz.zeroValue3
  t4 := Tryz.underlying4
  a4 := Tryz.isAgg4
  z4 := Tryz.sizeOf4
  v4 := Tryz.zeroValue4
  t22 := Tryz.underlying24
  a22 := Tryz.isAgg24
  z22 := Tryz.sizeOf24
  v22 := Tryz.zeroValue24
  i3 := by kernel_rfl }
open Go.RowKit Go.Lib Go.Sort in
open Go.RowKit Go.Lib Go.Sort in
set_option maxRecDepth 100000 in
theorem laid_slices_Compact_int (blk off cap : Nat) (zs : List Int) (w : World) (hH : Holds (Value.int .i64) w blk off zs.toArray) (hsz : zs.length ≤ 9223372036854775807) (hcap : zs.length ≤ cap) :
    Calls Tryz.prog 81 #[.slice (some ⟨blk, off, none⟩) zs.length cap] w fun e w' => e = .returned (.slice (some ⟨blk, off, none⟩) (Lib.compact zs).length cap) ∧ ∃ q, w' = putRow (Value.int .i64) (Sort.ahead w q) blk off (Lib.compact zs ++ List.replicate (zs.length - (Lib.compact zs).length) 0).toArray := Any.slices_Compact_int compactLaid blk off cap zs w hH hsz hcap
open Go.RowKit Go.Lib Go.Sort in
set_option maxRecDepth 100000 in
theorem laid_slices_Compact_int_empty (a : Option Addr) (cap : Nat) (w : World) :
    Calls Tryz.prog 81 #[.slice a 0 cap] w fun e w' => e = .returned (.slice a 0 cap) ∧ w' = w := Any.slices_Compact_int_empty compactLaid a cap w
end Go.Proofs.YtfihpljgbghogaaGreat

/- slices.Sort and slices.Compact of a row of numbers of one's own; numbers sorted lose nothing by Compact just if no two are alike. -/
namespace Go.Proofs.YtfihpljgbghogaaGreat
open Go.RowKit Go.Lib Go.Sort
set_option linter.unusedVariables false

theorem filter_all {α : Type} (f : α → Bool) : ∀ l : List α, (l.filter f).length = l.length ↔ ∀ x ∈ l, f x = true
  | [] => by simp
  | a :: l => by
    have h1 := List.length_filter_le f l
    have ih := filter_all f l
    cases h : f a with
    | true => simp [h, ih]
    | false =>
      rw [List.filter_cons_of_neg (by simp [h])]
      constructor
      · intro e; simp at e; omega
      · intro e; have := e a (List.mem_cons_self ..); rw [h] at this; cases this
theorem compact_same (zs : List Int) : (compact zs).length = zs.length ↔ ∀ j, j < zs.length → keeps zs.toArray j = true := by
  unfold compact compactUpTo
  rw [List.length_map]
  have := filter_all (keeps zs.toArray) (List.range zs.length)
  rw [List.length_range] at this
  rw [this]
  simp
theorem compact_sorted {zs : List Int} (h : zs.Pairwise (· ≤ ·)) : (compact zs).length = zs.length ↔ zs.Nodup := by
  rw [compact_same]
  constructor
  · intro hk
    refine List.pairwise_iff_getElem.2 fun i j hi hj hij => ?_
    have hs := List.pairwise_iff_getElem.1 h
    have h1 := hk j hj
    unfold keeps at h1
    have h2 : zs[j - 1] ≤ zs[j] := hs (j - 1) j (by omega) hj (by omega)
    have h3 : zs[i] ≤ zs[j - 1] := by
      by_cases e : i = j - 1
      · subst e; exact Int.le_refl _
      · exact hs i (j - 1) hi (by omega) (by omega)
    have h4 : zs[j] ≠ zs[j - 1] := by
      have := of_decide_eq_true h1
      rcases this with h | h
      · omega
      · simpa [getElem!_pos, hj, show j - 1 < zs.length by omega] using h
    omega
  · intro hn j hj
    unfold keeps
    refine decide_eq_true ?_
    by_cases h0 : j = 0
    · exact .inl h0
    · right
      have := List.pairwise_iff_getElem.1 hn (j - 1) j (by omega) hj (by omega)
      have h5 : zs[j] ≠ zs[j - 1] := fun e => this e.symm
      simpa [getElem!_pos, hj, show j - 1 < zs.length by omega] using h5
/-- The numbers in order. -/
def sorted (zs : List Int) : List Int := zs.mergeSort fun x y => decide (x ≤ y)
theorem sorted_rise (zs : List Int) : (sorted zs).Pairwise (· ≤ ·) := by
  have := List.pairwise_mergeSort (le := fun x y : Int => decide (x ≤ y)) (fun a b c h1 h2 => by simp at *; omega) (fun a b => by simp; omega) zs
  exact this.imp fun h => by simpa using h
theorem sorted_perm (zs : List Int) : (sorted zs).Perm zs := List.mergeSort_perm zs _
theorem sorted_len (zs : List Int) : (sorted zs).length = zs.length := (sorted_perm zs).length_eq
theorem sorted_compact (zs : List Int) : (compact (sorted zs)).length = zs.length ↔ zs.Nodup := by
  rw [← sorted_len zs, compact_sorted (sorted_rise zs)]
  exact (sorted_perm zs).nodup_iff

set_option maxRecDepth 100000 in
theorem tb_sort {N : Nat} {w : World} {v : Value} {zs : List Int} (h : w.ownsRow N 3 1 v zs.length (zs.map (Value.int .i64))) (hv : v ≠ .slice none 0 0) (hlen : zs.length ≤ 1000000) :
    Calls Tryz.prog 80 #[v] w fun e w' => e = .returned (.tuple #[]) ∧ w'.ownsRow N 3 1 v zs.length ((sorted zs).map (Value.int .i64)) ∧ w.grownBy w' v.ownBlock := by
  rcases h.2 with ⟨e0, _⟩ | ⟨g, cap, cur, rfl, hb, hg, hn, hm, hs, ht⟩
  · exact absurd e0 hv
  · rw [Nat.mul_one] at ht
    have hH := holds_of_blockI hg ht
    refine (laid_slices_Sort_int g 0 cap zs w hH (Array.getElem?_eq_some_iff.1 hg).1 (by omega)).mono ?_
    rintro e w' ⟨rfl, n, os, rfl⟩
    exact ⟨rfl, ownsRow_sortedI (sorted_len zs) hb hg hn hm hs, grownBy_sortedI _⟩
set_option maxRecDepth 100000 in
theorem tb_compact {N : Nat} {w : World} {v : Value} {zs : List Int} (h : w.ownsRow N 3 1 v zs.length (zs.map (Value.int .i64))) (hv : v ≠ .slice none 0 0) :
    Calls Tryz.prog 81 #[v] w fun e w' => (∃ a cap, e = .returned (.slice a (compact zs).length cap)) ∧ w.grownBy w' v.ownBlock := by
  rcases h.2 with ⟨e0, _⟩ | ⟨g, cap, cur, rfl, hb, hg, hn, hm, hs, ht⟩
  · exact absurd e0 hv
  · rw [Nat.mul_one] at ht
    have hH := holds_of_blockI hg ht
    refine (laid_slices_Compact_int g 0 cap zs w hH (by unfold maxLen at hm; omega) hn).mono ?_
    rintro e w' ⟨rfl, q, rfl⟩
    refine ⟨⟨_, _, rfl⟩, ?_⟩
    have := grownBy_sortedI (w := w) (g := g) (n := q) (os := #[]) (compact zs ++ List.replicate (zs.length - (compact zs).length) 0).toArray
    rwa [grow_empty] at this
end Go.Proofs.YtfihpljgbghogaaGreat

/- The developers' Good. -/
namespace Go.Proofs.YtfihpljgbghogaaGreat
open Go.RowKit
set_option linter.unusedVariables false
attribute [-simp] Tryz.isAgg54 Tryz.zeroValue54
attribute [-go_sem] loadVar storeVar
attribute [local go_sem] loadVar_openP storeVar_openP zero_prs build_prs0 build_prs

set_option maxRecDepth 100000 in
set_option maxHeartbeats 8000000 in
/-- **Good**. -/
theorem tb_good {w : World} {v : Value} {l : List (Int × Int)} (h : Prt w v l) (bl ar : Int) (hlen : l.length ≤ 800000) :
    Calls Tryz.prog 109 #[v, .int .i64 bl, .int .i64 ar] w fun e w' => e = .returned (.bool (tGood l bl ar)) ∧ Below w.heap.size w w' := by
  have HP := Lib.hid h
  obtain ⟨pa, ca, rfl, -⟩ := h
  obtain ⟨n, hn⟩ : ∃ n, l.length = n := ⟨_, rfl⟩
  rw [hn] at HP hlen ⊢
  have HN := Lib.hid hn
  clear hn
  obtain ⟨i0, hi, hz0, hz1, hz2⟩ := info_parts info_intT
  go_enter Tryz.func109, Tryz.ntmps109
  go_wp2_with (at_make; refine wpList_make_own _ rfl _ _ 24 rfl w.heap.size 3 i0 (.int .i64 0) 1 Tryz.underlying24 hi hz0 hz1 .i64 .i64 _ n rfl rfl rfl (by rw [hz2]; omega) (by unfold maxLen; omega) (by simp) ?_; intro w1 hown1 hgrow1)
  have HI0 : Hid (InO w.heap.size w1 (.slice (some ⟨w.heap.size, 0, none⟩) 0 n) []) := hown1
  have HB0 : Hid (Below w.heap.size w w1) := (Below.refl _ w).grown hgrow1 (Nat.le_refl _) (fun k e => by cases e)
  clear hown1 hgrow1 hi hz0 hz1 hz2
  go_loopw [7, 8, 16] (fun lv av iv wr => ∃ (k : Nat) (last : Int), k ≤ n ∧ lv = .int .i64 last ∧ iv = .int .i64 (k : Int) ∧ Hid (tRise bl ar (-1) l = tRise bl ar last (l.drop k)) ∧ Hid (InO w.heap.size wr av ((l.take k).map (·.2)) ∧ av ≠ .slice none 0 0) ∧ Hid (Below w.heap.size w wr)) (fun _ _ iv _ => n - (intOf iv).toNat)
  case atStart => exact ⟨0, -1, Nat.zero_le _, rfl, rfl, rfl, ⟨HI0.out, by simp⟩, HB0⟩
  case round =>
    obtain ⟨k, last, hk, rfl, rfl, HR, HA, HB⟩ := hrel
    by_cases hlt : k < n
    · obtain ⟨p, hp⟩ : ∃ p, l[k]? = some p := ⟨_, List.getElem?_eq_getElem (by rw [HN.out]; exact hlt)⟩
      have hsn : l.take (k + 1) = l.take k ++ [p] := by rw [List.take_add_one, hp]; rfl
      obtain ⟨bb, off, rfl, hbb, c1, c2⟩ := (HP.out.below HB.out).at hp
      obtain ⟨x0, y0⟩ := p
      simp only at c1 c2
      have hst := tRise_step hp bl ar last
      rw [← HR.out] at hst
      have HST := Lib.hid hst
      have HSN := Lib.hid hsn
      have g1 : (k : Int) < (n : Int) := by omega
      have HW : Hid (wrap64 ((k : Int) + 1) = (k : Int) + 1) := IntWalk.wrap64_in _ (by omega)
      have LD := load_prs c1 c2
      have ST := new_prs wr x0 y0
      obtain ⟨W2, hW2⟩ : ∃ W2, wr.alloc (.cells #[.int .i64 x0, .int .i64 y0] 54) = W2 := ⟨_, rfl⟩
      rw [hW2] at ST
      have hb2 : Below wr.heap.size wr W2 := by rw [← hW2]; exact below_new wr _
      have hR : RowC W2 wr.heap.size 54 (prL x0 y0) := by rw [← hW2]; exact RowC.new wr _ _
      have d1 : W2.cell? ⟨wr.heap.size, 0, none⟩ = some (.int .i64 x0) := hR.cell 0 _ rfl
      have d2 : W2.cell? ⟨wr.heap.size, 1, none⟩ = some (.int .i64 y0) := hR.cell 1 _ rfl
      have HB2 : Hid (Below w.heap.size w W2) := HB.out.trans (hb2.mono HB.out.size)
      have hA2 := HA.out.1.below hb2
      obtain ⟨f2, W4, hr, h1, h2, h3⟩ := in_append hA2 HB2.out.size y0 (by rw [List.length_map, List.length_take]; omega)
      have HAP := Lib.hid hr
      have HA4 : Hid (InO w.heap.size W4 f2 ((l.take (k + 1)).map (·.2)) ∧ f2 ≠ .slice none 0 0) := ⟨by rw [HSN.out, List.map_append]; exact h1, h3⟩
      have HB4 : Hid (Below w.heap.size w W4) := HB2.out.grown h2 HB2.out.size (fun j e => (hA2.base j e).1)
      obtain ⟨W3, hW3⟩ : ∃ W3, W2.alloc (.cells #[.int .i64 y0] 3) = W3 := ⟨_, rfl⟩
      have SB : Hid ((Instr.buildSlice 24 1 #[(0, .int .i64 y0)]).run Tryz.prog W2 = .ok (.slice (some ⟨W2.heap.size, 0, none⟩) 1 1) W3) := by show _ = _; rw [← hW3]; exact slice_int1 W2 y0
      rw [hW3] at HAP
      have HLT := Lib.hid hlt
      clear hp hbb c1 c2 hW2 HB hlt hb2 hsn hst hR hA2 hr h1 h2 h3 hW3 HA HR HSN
      by_cases q1 : x0 ≤ last
      · have e1 : decide (x0 ≤ last) = true := by simpa using q1
        have HG : Hid (tGood l bl ar = false) := by
          show _ = _
          unfold tGood
          rw [HST.out, show decide (last < x0) = false by simp; omega]
          simp
        go_wp2_with fail
        go_ret
        exact ⟨by rw [HG.out]; rfl, HB2.out⟩
      · have e1 : decide (x0 ≤ last) = false := by simpa using q1
        by_cases q2 : bl ≤ x0
        · have e2 : decide (x0 ≥ bl) = true := by simpa using q2
          have HG : Hid (tGood l bl ar = false) := by
            show _ = _
            unfold tGood
            rw [HST.out, show decide (x0 < bl) = false by simp; omega]
            simp
          go_wp2_with fail
          go_ret
          exact ⟨by rw [HG.out]; rfl, HB2.out⟩
        · have e2 : decide (x0 ≥ bl) = false := by simpa using q2
          by_cases q3 : y0 < 0
          · have e3 : decide (y0 < 0) = true := by simpa using q3
            have HG : Hid (tGood l bl ar = false) := by
              show _ = _
              unfold tGood
              rw [HST.out, show decide (0 ≤ y0) = false by simp; omega]
              simp
            go_wp2_with fail
            go_ret
            exact ⟨by rw [HG.out]; rfl, HB2.out⟩
          · have e3 : decide (y0 < 0) = false := by simpa using q3
            by_cases q4 : ar ≤ y0
            · have e4 : decide (y0 ≥ ar) = true := by simpa using q4
              have HG : Hid (tGood l bl ar = false) := by
                show _ = _
                unfold tGood
                rw [HST.out, show decide (y0 < ar) = false by simp; omega]
                simp
              go_wp2_with fail
              go_ret
              exact ⟨by rw [HG.out]; rfl, HB2.out⟩
            · have e4 : decide (y0 ≥ ar) = false := by simpa using q4
              have HG : Hid (tRise bl ar (-1) l = tRise bl ar x0 (l.drop (k + 1))) := by
                show _ = _
                rw [HST.out, show decide (last < x0) = true by simp; omega, show decide (x0 < bl) = true by simp; omega, show decide (0 ≤ y0) = true by simp; omega, show decide (y0 < ar) = true by simp; omega]
                rfl
              go_wp2_with (first | (refine gate_build ?_; refine wpList_build_run 24 1 #[(0, .tmp 45)] rfl rfl [(0, .int .i64 y0)] _ rfl SB.out ?_) | (at_builtin; refine wpList_append_run (.tmp 43) (.tmp 46) 24 rfl rfl _ _ _ rfl rfl (HAP.out _) ?_))
              exact ⟨⟨k + 1, x0, HLT.out, rfl, by simp, HG, HA4, HB4⟩, by simp [intOf]; omega⟩
    · obtain rfl : k = n := by omega
      rw [List.take_of_length_le (by rw [HN.out]; exact Nat.le_refl _)] at HA
      rw [List.drop_of_length_le (by rw [HN.out]; exact Nat.le_refl _)] at HR
      obtain ⟨zs, hzs⟩ : ∃ zs, l.map (·.2) = zs := ⟨_, rfl⟩
      have hzl : zs.length = k := by rw [← hzs, List.length_map]; exact HN.out
      have HG : Hid (tGood l bl ar = decide zs.Nodup) := by
        show _ = _
        unfold tGood
        rw [HR.out, hzs]
        rfl
      rw [hzs] at HA
      have HZL := Lib.hid hzl
      have HS := Lib.hid (tb_sort HA.out.1 HA.out.2 (by omega))
      clear hzs hzl HR hlt
      go_wp2_with fail
      go_at_call 80
      refine HS.out.mono ?_
      rintro e y ⟨rfl, hO, hG⟩
      have HB1 : Hid (Below w.heap.size w y) := HB.out.grown hG HB.out.size (fun j e => (HA.out.1.base j e).1)
      have hO2 : InO w.heap.size y u8 (sorted zs) := by
        show y.ownsRow _ _ _ _ _ _
        rw [sorted_len]
        exact hO
      have HBA := hO2.base
      have hc := tb_compact hO2 HA.out.2
      obtain ⟨m, hm⟩ : ∃ m, (Lib.compact (sorted zs)).length = m := ⟨_, rfl⟩
      rw [hm] at hc
      have HM : Hid (tGood l bl ar = ((m : Int) == (k : Int))) := by
        show _ = _
        rw [HG.out]
        have hh := sorted_compact zs
        rw [hm, HZL.out] at hh
        by_cases e : m = k
        · rw [decide_eq_true (hh.1 e), e]; simp
        · rw [decide_eq_false (fun x => e (hh.2 x))]
          symm
          simp
          omega
      have HC := Lib.hid hc
      clear hO hG hO2 HS HA HB hc hm HG
      go_wp2_with fail
      go_at_call 81
      refine HC.out.mono ?_
      rintro e z ⟨⟨a2, c2, rfl⟩, hG⟩
      have HB2 : Hid (Below w.heap.size w z) := HB1.out.grown hG HB1.out.size (fun j e => (HBA j e).1)
      clear hG HC HB1 HBA
      go_wp2_with fail
      go_ret
      exact ⟨by rw [HM.out]; rfl, HB2.out⟩
end Go.Proofs.YtfihpljgbghogaaGreat

/- The document's Find; pairs held against each other. -/
namespace Go.Proofs.YtfihpljgbghogaaGreat
open Go.RowKit
set_option linter.unusedVariables false
attribute [-simp] Tryz.isAgg54 Tryz.zeroValue54
attribute [-go_sem] loadVar storeVar
attribute [local go_sem] loadVar_openP storeVar_openP zero_prs build_prs0 build_prs

set_option maxRecDepth 100000 in
set_option maxHeartbeats 4000000 in
/-- The document's **Find**. -/
theorem rf_find {w : World} {v : Value} {l : List (Int × Int)} (h : Prt w v l) (b : Int) (hlen : l.length ≤ 1000000) :
    Calls Tryz.prog 92 #[v, .int .i64 b] w fun e w' => e = .returned (.int .i64 (tIx l b)) ∧ w' = w := by
  have HP := Lib.hid h
  obtain ⟨pa, ca, rfl, -⟩ := h
  obtain ⟨n, hn⟩ : ∃ n, l.length = n := ⟨_, rfl⟩
  rw [hn] at HP hlen ⊢
  have HN := Lib.hid hn
  clear hn
  go_enter Tryz.func92, Tryz.ntmps92
  go_wp2_with fail
  go_loopw [5] (fun iv wr => ∃ k : Nat, k ≤ n ∧ iv = .int .i64 (k : Int) ∧ Hid (∀ (j : Nat) (p : Int × Int), j < k → l[j]? = some p → p.1 ≠ b) ∧ wr = w) (fun iv _ => n - (intOf iv).toNat)
  case atStart => exact ⟨0, Nat.zero_le _, rfl, fun j p hj => absurd hj (by omega), rfl⟩
  case round =>
    obtain ⟨k, hk, rfl, HS, rfl⟩ := hrel
    by_cases hlt : k < n
    · obtain ⟨p, hp⟩ : ∃ p, l[k]? = some p := ⟨_, List.getElem?_eq_getElem (by rw [HN.out]; exact hlt)⟩
      obtain ⟨bb, off, rfl, hbb, c1, c2⟩ := HP.out.at hp
      obtain ⟨x0, y0⟩ := p
      simp only at c1 c2
      have HPK := Lib.hid hp
      have g1 : (k : Int) < (n : Int) := by omega
      have HW : Hid (wrap64 ((k : Int) + 1) = (k : Int) + 1) := IntWalk.wrap64_in _ (by omega)
      have HLT := Lib.hid hlt
      clear hp hbb c2 hlt
      by_cases hx : x0 = b
      · subst hx
        have q1 : (x0 == x0) = true := by simp
        have HF : Hid (tIx l x0 = k) := by show _ = _; unfold tIx; rw [tFind_some.2 ⟨⟨_, HPK.out, rfl⟩, HS.out⟩]
        go_wp2_with fail
        go_ret
        exact ⟨by rw [HF.out]; rfl, rfl⟩
      · have q1 : (x0 == b) = false := by simpa using hx
        have HS1 : Hid (∀ (j : Nat) (p : Int × Int), j < k + 1 → l[j]? = some p → p.1 ≠ b) := fun j p hj hp => by
          by_cases e : j = k
          · subst e; rw [HPK.out] at hp; cases hp; exact hx
          · exact HS.out j p (by omega) hp
        go_wp2_with fail
        exact ⟨⟨k + 1, HLT.out, by simp, HS1, trivial⟩, by simp [intOf]; omega⟩
    · obtain rfl : k = n := by omega
      have HF : Hid (tIx l b = -1) := by
        show _ = _
        unfold tIx
        rw [tFind_none.2 fun j p hp => HS.out j p (by have := (List.getElem?_eq_some_iff.1 hp).1; rw [HN.out] at this; exact this) hp]
      go_wp2_with fail
      go_ret
      exact ⟨by rw [HF.out]; rfl, rfl⟩

end Go.Proofs.YtfihpljgbghogaaGreat

/- The document's Put. -/
namespace Go.Proofs.YtfihpljgbghogaaGreat
open Go.RowKit
set_option linter.unusedVariables false
set_option linter.unusedSimpArgs false
attribute [-simp] Tryz.isAgg54 Tryz.zeroValue54
attribute [-go_sem] loadVar storeVar
attribute [local go_sem] loadVar_openP storeVar_openP zero_prs build_prs0 build_prs

/-- A cut that is read alone. -/
theorem wpQuiet_slice_run {P : Program} {C : World → Prop} {ops : Array Oper} {rest : List Oper} {o : Oper} {a : Act} {Q : Act → Prop} (s : Operand) (t : TypeId) (lo hi : Option Operand)
    (ho : o.op = .slice t s lo hi none) (hw : Region.wanted o (yielded ops a.tmps) = true) (vs v' : Value) (l h : Option Value) (hs : a.eval s = vs) (hl : lo.map a.eval = l) (hh : hi.map a.eval = h)
    (hrun : ∀ x, C x → (Instr.sliceAt t vs l h none).run P x = .ok v' x) (hK : wpQuiet P ops C Q rest (a.put o.dst v')) : wpQuiet P ops C Q (o :: rest) a := by
  unfold wpQuiet
  rw [if_pos hw]
  refine ⟨v', fun x hx => ?_, hK⟩
  unfold Oper.quietAt
  simp [execOp, ho, hs, hl, hh, hrun x hx, Result.andThen]
  exact ⟨rfl, rfl⟩
theorem wpPlan_twoT {P : Program} {l : List Oper} {Q : Exit → Act → World → Prop} {S : World → Prop} {n i j : Nat} {p q : Plan} {a : Act} {w : World} : wpPlan P l Q S n (.two i j p q) a w = (wpList P l.toArray (planPost S Q (wpPlan P l Q S n p)) [nth l i] a w ∧ wpList P l.toArray (planPost S Q (wpPlan P l Q S n q)) [nth l j] a w) := rfl
/-- An empty literal. -/
theorem lit_none (N : Nat) (x : World) (hN : N ≤ x.heap.size) : PrO N (x.alloc (.cells #[] 54)) (.slice (some ⟨x.heap.size, 0, none⟩) 0 0) [] := ⟨World.ownsRow_lit x #[] 0 hN (by simp [maxLen]) rfl, fun p hp => by cases hp⟩
end Go.Proofs.YtfihpljgbghogaaGreat

/- make of a slice whose run is known; a guard that lets it by is no bar. -/
namespace Go.Proofs.YtfihpljgbghogaaGreat
open Go.RowKit
set_option linter.unusedVariables false
theorem wpList_make_run {P : Program} {w w' : World} {ops : Array Oper} {rest : List Oper} {o : Oper} {a : Act} {Q : Exit → Act → World → Prop} (t : TypeId) (l c : Operand)
    (ho : o.op = .makeSlice t l c) (hw : Region.wanted o (yielded ops a.tmps) = true) (vl vc v' : Value) (hl : a.eval l = vl) (hc : a.eval c = vc)
    (hrun : (Instr.makeSlice t vl vc).run P w = .ok v' w') (h : wpList P ops Q rest (a.put o.dst v') w') : wpList P ops Q (o :: rest) a w := by
  unfold wpList
  rw [if_pos hw]
  refine .inl ?_
  unfold Oper.wp
  simp only [execOp, ho, Sem.run_bind, hl, hc, hrun, Result.andThen_ok, Sem.run_pure]
  exact h
/-- A struct's literal whose run is known; a guard that lets it by is no bar. -/
theorem wpList_struct_run {P : Program} {w w' : World} {ops : Array Oper} {rest : List Oper} {o : Oper} {a : Act} {Q : Exit → Act → World → Prop} (t : TypeId) (parts : Array (Nat × Operand))
    (ho : o.op = .build t parts) (hw : Region.wanted o (yielded ops a.tmps) = true) (vs : List (Nat × Value)) (v' : Value) (hs : (parts.toList.map fun (i, x) => (i, a.eval x)) = vs)
    (hrun : (Instr.build t vs.toArray).run P w = .ok v' w') (h : wpList P ops Q rest (a.put o.dst v') w') : wpList P ops Q (o :: rest) a w := by
  unfold wpList
  rw [if_pos hw]
  refine .inl ?_
  have hs' : (parts.map fun (i, x) => (i, a.eval x)) = vs.toArray := by
    apply Array.toList_inj.1
    rw [Array.toList_map, hs]
  unfold Oper.wp
  simp only [execOp, ho, Sem.run_bind, hs', hrun, Result.andThen_ok, Sem.run_pure]
  exact h
end Go.Proofs.YtfihpljgbghogaaGreat

/- The small functions of the developers' bits: size, holds, bit, New, Has, With, Or; Clone. -/
namespace Go.Proofs.YtfihpljgbghogaaGreat
open Go.RowKit Go.Shelf
set_option linter.unusedVariables false

/-- The table of trailing zeros. -/
def tzTab : ByteArray := ⟨#[8, 0, 1, 0, 2, 0, 1, 0, 3, 0, 1, 0, 2, 0, 1, 0, 4, 0, 1, 0, 2, 0, 1, 0, 3, 0, 1, 0, 2, 0, 1, 0, 5, 0, 1, 0, 2, 0, 1, 0, 3, 0, 1, 0, 2, 0, 1, 0, 4, 0, 1, 0, 2, 0, 1, 0, 3, 0, 1, 0, 2, 0, 1, 0, 6, 0, 1, 0, 2, 0, 1, 0, 3, 0, 1, 0, 2, 0, 1, 0, 4, 0, 1, 0, 2, 0, 1, 0, 3, 0, 1, 0, 2, 0, 1, 0, 5, 0, 1, 0, 2, 0, 1, 0, 3, 0, 1, 0, 2, 0, 1, 0, 4, 0, 1, 0, 2, 0, 1, 0, 3, 0, 1, 0, 2, 0, 1, 0, 7, 0, 1, 0, 2, 0, 1, 0, 3, 0, 1, 0, 2, 0, 1, 0, 4, 0, 1, 0, 2, 0, 1, 0, 3, 0, 1, 0, 2, 0, 1, 0, 5, 0, 1, 0, 2, 0, 1, 0, 3, 0, 1, 0, 2, 0, 1, 0, 4, 0, 1, 0, 2, 0, 1, 0, 3, 0, 1, 0, 2, 0, 1, 0, 6, 0, 1, 0, 2, 0, 1, 0, 3, 0, 1, 0, 2, 0, 1, 0, 4, 0, 1, 0, 2, 0, 1, 0, 3, 0, 1, 0, 2, 0, 1, 0, 5, 0, 1, 0, 2, 0, 1, 0, 3, 0, 1, 0, 2, 0, 1, 0, 4, 0, 1, 0, 2, 0, 1, 0, 3, 0, 1, 0, 2, 0, 1, 0]⟩
theorem tz_size : tzTab.size = 256 := by decide +kernel
theorem tz_tab : ∀ q : Fin 256, wrap64 ((tzTab[q.1]'(by rw [tz_size]; exact q.2)).toNat : Int) = (ctzN q.1 : Int) := by decide +kernel

set_option maxRecDepth 100000 in
set_option maxHeartbeats 2000000 in
theorem bi_tz (r : Nat) (h : r < 256) (w : World) : Calls Tryz.prog 128 #[.int .u8 (r : Int)] w fun e w' => e = .returned (.int .i64 (ctzN r : Int)) ∧ w' = w := by
  go_enter Tryz.func128, Tryz.ntmps128
  go_wp2
  go_ret
  refine ⟨?_, rfl⟩
  exact congrArg (fun x => Ending.returned (Value.int .i64 x)) (tz_tab ⟨r, h⟩)

theorem i64_bd {n : Int} (h : (Lit.int .i64 n).wf = true) : -9223372036854775808 ≤ n ∧ n ≤ 9223372036854775807 := by
  have := range_i64 (zs := [n]) (fun x hx => by rw [List.mem_singleton.1 hx]; exact h) 0
  simpa using this

set_option maxRecDepth 100000 in
set_option maxHeartbeats 2000000 in
theorem bi_size (n : Int) (w : World) : Calls Tryz.prog 59 #[.int .i64 n] w fun e w' => e = .returned (.int .i64 (sizeB n : Int)) ∧ w' = w := by
  obtain ⟨s, hs⟩ : ∃ s : Int, (sizeB n : Int) = s := ⟨_, rfl⟩
  rw [hs]
  have HS := Lib.hid hs
  clear hs
  by_cases h1 : n < 1
  · have e : s = 0 := by rw [← HS.out, sizeB, if_pos (.inl h1)]; rfl
    subst e
    go_enter Tryz.func59, Tryz.ntmps59
    go_wp2
    go_ret
    exact ⟨rfl, rfl⟩
  · by_cases h2 : 4096 < n
    · have e : s = 0 := by rw [← HS.out, sizeB, if_pos (.inr h2)]; rfl
      subst e
      go_enter Tryz.func59, Tryz.ntmps59
      go_wp2
      go_ret
      exact ⟨rfl, rfl⟩
    · have e : (n + 8 - 1) / 8 = s := by rw [← HS.out, sizeB, if_neg (by omega)]; omega
      go_enter Tryz.func59, Tryz.ntmps59
      go_wp2
      go_ret
      exact ⟨rfl, rfl⟩

set_option maxRecDepth 100000 in
set_option maxHeartbeats 2000000 in
theorem bi_holds (a : Option Addr) (len cap : Nat) (i : Int) (hi : (Lit.int .i64 i).wf = true) (w : World) : Calls Tryz.prog 105 #[.slice a len cap, .int .i64 i] w fun e w' => e = .returned (.bool (decide (0 ≤ i ∧ i / 8 < len))) ∧ w' = w := by
  obtain ⟨b, hb⟩ : ∃ b, decide (0 ≤ i ∧ i / 8 < len) = b := ⟨_, rfl⟩
  rw [hb]
  have HB := Lib.hid hb
  have hr := i64_bd hi
  clear hb
  by_cases h1 : 0 ≤ i
  · have e : wrap64 (i.tdiv 8) = i / 8 := by
      rw [Int.tdiv_eq_ediv_of_nonneg h1]
      unfold wrap64; omega
    have HE := Lib.hid e
    clear e hr
    go_enter Tryz.func105, Tryz.ntmps105
    go_wp2
    go_ret
    refine ⟨congrArg (fun x => Ending.returned (Value.bool x)) ?_, rfl⟩
    rw [HE.out, ← HB.out]
    simp [h1]
  · have e : b = false := by rw [← HB.out]; exact decide_eq_false (by omega)
    subst e
    go_enter Tryz.func105, Tryz.ntmps105
    go_wp2
    go_ret
    exact ⟨rfl, rfl⟩

set_option maxRecDepth 100000 in
set_option maxHeartbeats 2000000 in
theorem bi_bit (i : Nat) (hi : i < 9223372036854775808) (w : World) : Calls Tryz.prog 106 #[.int .i64 (i : Int)] w fun e w' => e = .returned (.int .u8 (2 ^ (i % 8))) ∧ w' = w := by
  have e : (2 : Int) ^ (i % 8) % 256 = 2 ^ (i % 8) := pow_cases (fun k => (2 : Int) ^ k % 256 = 2 ^ k) (by decide) (by decide) (by decide) (by decide) (by decide) (by decide) (by decide) (by decide) (i % 8) (by omega)
  have HE := Lib.hid e
  clear e
  go_enter Tryz.func106, Tryz.ntmps106
  go_wp2
  go_ret
  exact ⟨congrArg (fun x => Ending.returned (Value.int .u8 x)) HE.out, rfl⟩

set_option maxRecDepth 100000 in
set_option maxHeartbeats 2000000 in
/-- **New**. -/
theorem bi_new (n : Int) (w : World) : Calls Tryz.prog 25 #[.int .i64 n] w fun e w' => ∃ v, e = .returned v ∧ Sl .u8 w' v (List.replicate (sizeB n) 0) ∧ Below w.heap.size w w' := by
  obtain ⟨i0, hi, hz0, hz1, hz2⟩ := info_parts info_u8
  have HC := fun W => Lib.hid (bi_size n W)
  have hs : sizeB n ≤ 512 := by unfold sizeB; split <;> omega
  obtain ⟨s, hs'⟩ : ∃ s, sizeB n = s := ⟨_, rfl⟩
  rw [hs'] at hs ⊢ 
  simp only [hs'] at HC
  clear hs'
  go_enter Tryz.func25, Tryz.ntmps25
  go_wp2_with fail
  refine (HC w).out.mono ?_
  rintro e w' ⟨rfl, rfl⟩
  clear HC
  go_wp2_with (at_make; refine wpList_make_full _ rfl _ _ 31 rfl w'.heap.size 5 i0 (.int .u8 0) 1 Tryz.underlying31 hi hz0 hz1 .i64 .i64 _ _ s rfl rfl rfl rfl (by rw [hz2]; omega) (by unfold maxLen; omega) (by simp) ?_; intro w1 hown1 hgrow1)
  go_ret
  refine ⟨_, rfl, ?_, (Below.refl _ w').grown hgrow1 (Nat.le_refl _) (fun k e => by cases e)⟩
  rw [show (Value.int .u8 0).cells = #[.int .u8 0] from rfl, toList_madeCells_one, Nat.mul_one] at hown1
  have := Sl.of_owns (bs := List.replicate s 0) (by rw [List.length_replicate, List.map_replicate]; exact hown1)
  exact this

set_option maxRecDepth 100000 in
theorem eql_some (p : Addr) (n c : Nat) (w : World) : (binOp .eql 31 (.slice (some p) n c) (.slice none 0 0)).run Tryz.prog w = .ok (.bool false) w := by kernel_rfl
set_option maxRecDepth 100000 in
theorem eql_none (w : World) : (binOp .eql 31 (.slice none 0 0) (.slice none 0 0)).run Tryz.prog w = .ok (.bool true) w := by kernel_rfl
attribute [local go_sem] eql_some eql_none

set_option maxRecDepth 100000 in
set_option maxHeartbeats 2000000 in
/-- The library's Clone of bytes. -/
theorem bi_clone (v : Value) (bs : List Int) (w : World) (hv : Sl .u8 w v bs) (hlen : bs.length ≤ 140737488355328) : Calls Tryz.prog 51 #[v] w fun e w' => ∃ v', e = .returned v' ∧ w'.ownsRow w.heap.size 5 1 v' bs.length (bs.map (Value.int .u8)) ∧ Below w.heap.size w w' := by
  obtain ⟨v3, w3, HA, HO, HB⟩ := copy_lit w v bs hv hlen
  obtain ⟨a, cap, rfl, hc, hm, hl, hn⟩ := hv
  cases a with
  | none =>
    obtain rfl := hn rfl
    have hz : bs = [] := List.eq_nil_of_length_eq_zero (by omega)
    subst hz
    clear HA HO HB
    go_enter Tryz.func51, Tryz.ntmps51
    go_wp2
    go_ret
    exact ⟨_, rfl, World.ownsRow_nil _ _ _ _, Below.refl _ _⟩
  | some x =>
    clear hl hn hc hm
    go_enter Tryz.func51, Tryz.ntmps51
    go_wp2_with (at_builtin; refine wpList_append_run (.tmp 5) (.tmp 6) 31 rfl rfl _ _ _ rfl rfl HA.out ?_)
    go_ret
    exact ⟨_, rfl, HO.out, HB.out⟩

theorem own_set {w : World} {base g cap : Nat} {bs : List Int} (h : w.ownsRow base 5 1 (.slice (some ⟨g, 0, none⟩) bs.length cap) bs.length (bs.map (Value.int .u8))) (j : Nat) (x : Int) :
    (w.setCell ⟨g, j, none⟩ (.int .u8 x)).ownsRow base 5 1 (.slice (some ⟨g, 0, none⟩) (bs.set j x).length cap) (bs.set j x).length ((bs.set j x).map (Value.int .u8)) := by
  have := (h.stored j (.int .u8 x)).1
  rw [List.length_set, List.map_set]
  exact this
set_option maxRecDepth 100000 in
set_option maxHeartbeats 2000000 in
/-- **With**. -/
theorem bi_with (v : Value) (bs : List Int) (i : Int) (hi : (Lit.int .i64 i).wf = true) (w : World) (hv : Sl .u8 w v bs) (hb : IsBytes bs) (hlen : bs.length ≤ 140737488355328) :
    Calls Tryz.prog 76 #[v, .int .i64 i] w fun e w' => ∃ v', e = .returned v' ∧ Sl .u8 w' v' (withB bs i) ∧ Below w.heap.size w w' := by
  have HC := Lib.hid (bi_clone v bs w hv hlen)
  have hmx : Tryz.prog.follows .mixedOrders = true := by kernel_rfl
  have HI := Lib.hid hi
  have HBs := Lib.hid hb
  have HR := Lib.hid (i64_bd hi)
  clear hv hi hb
  go_enter Tryz.func76, Tryz.ntmps76
  go_wp2_with fail
  refine HC.out.mono ?_
  clear HC
  rintro e w1 ⟨v1, rfl, ho, hB⟩
  have HB := Lib.hid hB
  have HS : Hid (Sl .u8 w1 v1 bs) := Sl.of_owns ho
  obtain ⟨a, cap, rfl, hcc, hcm, -, -⟩ := HS.out
  have HO := Lib.hid ho
  clear ho hB
  obtain ⟨L, hL⟩ : ∃ L, bs.length = L := ⟨_, rfl⟩
  have HL := Lib.hid hL
  rw [hL] at hlen hcc HO ⊢ 
  clear hL
  go_wp2_with fail
  refine (bi_holds a L cap i HI.out w1).mono ?_
  rintro e w' ⟨rfl, hw'⟩
  obtain rfl := hw'.symm
  by_cases h : 0 ≤ i ∧ i / 8 < (L : Int)
  · rw [decide_eq_true h]
    obtain ⟨n, rfl⟩ := Int.eq_ofNat_of_zero_le h.1
    have hn : n / 8 < L := by omega
    have ho := HO.out
    have hlen' := HL.out
    rcases ho.2 with ⟨h', h0⟩ | ⟨g, cap', cur, h', hg, _⟩
    · exfalso; omega
    · simp only [Value.slice.injEq] at h'
      obtain ⟨rfl, _, rfl⟩ := h'
      obtain ⟨x, hx⟩ : ∃ x, bs[n / 8]?.getD 0 = x := ⟨_, rfl⟩
      obtain ⟨k, hk⟩ : ∃ k, n / 8 = k := ⟨_, rfl⟩
      have hxb := HBs.out (n / 8)
      rw [hx] at hxb
      rw [hk] at hn hx
      have c1 : w1.cell? ⟨g, k, none⟩ = some (.int .u8 x) := by
        rw [ho.cellAt k (by omega), List.getElem?_map, List.getElem?_eq_getElem (by omega)]
        rw [List.getElem?_eq_getElem (by omega)] at hx
        simpa using hx
      have f1 : w1.frozen? ⟨g, k, none⟩ = false := ho.frozenAt _
      have hq : (n : Int) / 8 = (k : Int) := by omega
      have hp : (2 : Int) ^ (n % 8) < 256 := pow_cases (fun k => (2 : Int) ^ k < 256) (by decide) (by decide) (by decide) (by decide) (by decide) (by decide) (by decide) (by decide) (n % 8) (by omega)
      have hp0 : (0 : Int) ≤ 2 ^ (n % 8) := Int.le_of_lt (Int.pow_pos (by omega))
      obtain ⟨y, hy⟩ : ∃ y, orI x (2 ^ (n % 8)) = y := ⟨_, rfl⟩
      have hor : bits .or .u8 x (2 ^ (n % 8)) = y := by rw [u8_or x _ hxb.1 hxb.2 hp0 hp, ← hy]; rfl
      have HBt := Lib.hid (bi_bit n (by have := HR.out; omega))
      obtain ⟨b, hb⟩ : ∃ b : Int, 2 ^ (n % 8) = b := ⟨_, rfl⟩
      rw [hb] at hor hy hp hp0
      simp only [hb] at HBt
      have ho' : w1.drew.ownsRow w.heap.size 5 1 (.slice (some ⟨g, 0, none⟩) L cap) L (bs.map (Value.int .u8)) := ho
      have HF : Hid (w1.drew.grownBy (w1.drew.setCell ⟨g, k, none⟩ (.int .u8 y)) (some g) ∧ Sl .u8 (w1.drew.setCell ⟨g, k, none⟩ (.int .u8 y)) (.slice (some ⟨g, 0, none⟩) L cap) (withB bs (n : Int))) := by
        refine ⟨(ho'.stored k _).2, ?_⟩
        have e : withB bs (n : Int) = bs.set k y := by
          unfold withB
          rw [if_pos (by omega), Int.toNat_natCast, hk, hx, hb, hy]
        rw [e]
        have := own_set (x := y) (j := k) (by rw [hlen']; exact ho')
        have := Sl.of_owns this
        rw [List.length_set, hlen'] at this
        exact this
      have HG := Lib.hid hg
      have hkL : (k : Int) < (L : Int) := by omega
      have hk0 : (k : Int) ≤ 1152921504606846975 := by have := HR.out; omega
      clear hx hy hb hk ho ho' hn hxb hp hp0 h hlen' hg
      go_wp2_with fail
      refine region_plan (fun x => x = w1.drew) 9 (.takes [0, 1, 2, 3, 4, 5] (.one 6 (.takes [7, 8] .leaf))) hmx (by kernel_rfl) (by intro c x v a w h; cases x <;> exact h) rfl ?_
      repeat (rw [wpPlan_takes_cons]; simp only [nth_zero, nth_succ]; go_big_quiet_step (fail); refine wpQuiet_nil ?_)
      rw [wpPlan_takes_nil, wpPlan_one]
      simp only [nth_zero, nth_succ]
      go_wp2_with fail
      refine (HBt.out _).mono ?_
      rintro e w2 ⟨rfl, hw2⟩
      obtain rfl := hw2.symm
      go_wp2_with fail
      refine planPost_mk rfl ?_
      repeat (rw [wpPlan_takes_cons]; simp only [nth_zero, nth_succ]; go_big_quiet_step (fail); refine wpQuiet_nil ?_)
      rw [wpPlan_takes_nil, wpPlan_leaf]
      simp only [List.drop_succ_cons, List.drop_zero]
      go_wp2_with fail
      go_ret
      exact ⟨_, rfl, HF.out.2, HB.out.drew.grown HF.out.1 HB.out.size (fun k e => by cases e; exact HG.out)⟩
  · rw [decide_eq_false h]
    go_wp2_with fail
    go_ret
    refine ⟨_, rfl, ?_, HB.out⟩
    unfold withB
    rw [if_neg (by rw [HL.out]; exact h)]
    have := HS.out
    rw [HL.out] at this
    exact this

set_option maxRecDepth 100000 in
set_option maxHeartbeats 2000000 in
/-- **Has**. -/
theorem bi_has (v : Value) (bs : List Int) (i : Int) (hi : (Lit.int .i64 i).wf = true) (w : World) (hv : Sl .u8 w v bs) (hb : IsBytes bs) :
    Calls Tryz.prog 75 #[v, .int .i64 i] w fun e w' => e = .returned (.bool (hasB bs i)) ∧ Below w.heap.size w w' := by
  have hmx : Tryz.prog.follows .mixedOrders = true := by kernel_rfl
  obtain ⟨a, cap, rfl, hcc, hcm, hl, -⟩ := hv
  obtain ⟨L, hL⟩ : ∃ L, bs.length = L := ⟨_, rfl⟩
  have HL := Lib.hid hL
  have HR := Lib.hid (i64_bd hi)
  have HQ : Hid (∀ x : Ext w, Calls Tryz.prog 105 #[.slice a L cap, .int .i64 i] x.1 fun e w' => e = .returned (.bool (decide (0 ≤ i ∧ i / 8 < (L : Int)))) ∧ ∃ y : Ext w, w' = y.1) :=
    fun x => (bi_holds a L cap i hi x.1).mono fun e w' ⟨h1, h2⟩ => ⟨h1, x, h2⟩
  rw [hL] at hcc ⊢
  clear hL hi
  by_cases h : 0 ≤ i ∧ i / 8 < (L : Int)
  · rw [decide_eq_true h] at HQ
    obtain ⟨n, rfl⟩ := Int.eq_ofNat_of_zero_le h.1
    obtain ⟨x, hx⟩ : ∃ x, bs[n / 8]?.getD 0 = x := ⟨_, rfl⟩
    obtain ⟨k, hk⟩ : ∃ k, n / 8 = k := ⟨_, rfl⟩
    have hn : k < L := by omega
    obtain ⟨y, rfl, hy8⟩ : ∃ y : Nat, x = (y : Int) ∧ y < 256 := by
      obtain ⟨y, h1, h2⟩ := byte_of bs hb (n / 8)
      exact ⟨y, by rw [← hx, h1], h2⟩
    obtain ⟨b, o, rfl, hbw, hcs⟩ : ∃ b o, a = some ⟨b, o, none⟩ ∧ b < w.heap.size ∧ ∀ j, j < bs.length → w.cell? ⟨b, o + j, none⟩ = some (.int .u8 (bs[j]?.getD 0)) := by
      rcases hl with h | h
      · have := HL.out; rw [h] at this; simp at this; omega
      · exact h
    have c1 : ∀ y' : Ext w, y'.1.cell? ⟨b, o + k, none⟩ = some (.int .u8 (y : Int)) := fun y' => by
      rw [y'.2.cell (p := ⟨b, o + k, none⟩) hbw, hcs k (by rw [HL.out]; exact hn), ← hk, hx]
    have hq : (n : Int) / 8 = (k : Int) := by omega
    have hres : hasB bs (n : Int) = y.testBit (n % 8) := by
      rw [has_nat]; unfold bitAt; rw [hx, Int.toNat_natCast]
    have HBt : Hid (∀ x : Ext w, Calls Tryz.prog 106 #[.int .i64 (n : Int)] x.1 fun e w' => e = .returned (.int .u8 (2 ^ (n % 8))) ∧ ∃ y : Ext w, w' = y.1) :=
      fun x => (bi_bit n (by have := HR.out; omega) x.1).mono fun e w' ⟨h1, h2⟩ => ⟨h1, x, h2⟩
    obtain ⟨j, hj⟩ : ∃ j, n % 8 = j := ⟨_, rfl⟩
    have hj8 : j < 8 := by omega
    obtain ⟨q, hq2⟩ : ∃ q : Int, (2 : Int) ^ (n % 8) = q := ⟨_, rfl⟩
    have hpq : q = ((2 ^ j : Nat) : Int) := by rw [← hq2, hj]; simp
    have hp8 : 2 ^ j < 256 := Nat.lt_of_lt_of_le (Nat.pow_lt_pow_right (by omega) hj8) (by decide)
    have hand : bits .and .u8 (y : Int) q = ((y &&& 2 ^ j : Nat) : Int) := by rw [hpq, u8_and_nat y _ hy8 hp8]
    obtain ⟨z, hz⟩ : ∃ z : Int, ((y &&& 2 ^ j : Nat) : Int) = z := ⟨_, rfl⟩
    rw [hz] at hand
    have hzz : (z != 0) = hasB bs (n : Int) := by
      rw [hres, hj, ← hz, nat_bit, Nat.testBit_eq_decide_div_mod_eq]
      have hpp : 0 < 2 ^ j := Nat.two_pow_pos j
      by_cases e : y / 2 ^ j % 2 = 1
      · rw [e, decide_eq_true rfl, Nat.one_mul, bne_iff_ne.2 (by omega : ((2 ^ j : Nat) : Int) ≠ 0)]
      · have e0 : y / 2 ^ j % 2 = 0 := by omega
        rw [e0]; simp
    obtain ⟨r, hr⟩ : ∃ r, hasB bs (n : Int) = r := ⟨_, rfl⟩
    rw [hr] at hzz
    rw [hr]
    rw [hq2] at HBt
    have HZ := Lib.hid hzz
    have hkL : (k : Int) < (L : Int) := by omega
    have hk0 : (k : Int) ≤ 1152921504606846975 := by have := HR.out; omega
    clear hx hk hn hcs hl hres hpq hp8 hz hzz hr hq2 hj hj8 h hb
    go_enter Tryz.func75, Tryz.ntmps75
    go_wp2_with fail
    refine region_ext (by kernel_rfl) (by kernel_rfl) ?_
    repeat (go_big_quiet_step (with_reducible (first | exact HQ.out _ | exact HBt.out _)))
    refine wpQuiet_nil ?_
    intro x
    go_wp2_with fail
    go_ret
    exact ⟨congrArg (fun b => Ending.returned (Value.bool b)) HZ.out, x.2⟩
  · rw [decide_eq_false h] at HQ
    have hres : hasB bs i = false := by
      unfold hasB
      by_cases h0 : 0 ≤ i
      · have : bitAt bs i.toNat = false := by
          rw [Bool.eq_false_iff]; intro hh
          have := bit_in hh
          rw [HL.out] at this; omega
        rw [this, Bool.and_false]
      · rw [decide_eq_false h0, Bool.false_and]
    rw [hres]
    clear hres hl h HR hb
    go_enter Tryz.func75, Tryz.ntmps75
    go_wp2_with fail
    refine region_ext (by kernel_rfl) (by kernel_rfl) ?_
    repeat (go_big_quiet_step (with_reducible (first | exact HQ.out _)))
    refine wpQuiet_nil ?_
    intro x
    go_wp2_with fail
    go_ret
    exact ⟨rfl, x.2⟩

/-- A new row of bytes is one's own. -/
theorem row_owns {W : World} {base g : Nat} {xs : List Int} (h : W.heap[g]? = some (.cells (xs.map (Value.int .u8)).toArray 5 (0, 0))) (hb : base ≤ g) (hm : xs.length ≤ maxLen) :
    W.ownsRow base 5 1 (.slice (some ⟨g, 0, none⟩) xs.length xs.length) xs.length (xs.map (Value.int .u8)) :=
  ⟨by simp, .inr ⟨g, xs.length, _, rfl, hb, h, Nat.le_refl _, hm, by simp, by rw [Nat.mul_one]; exact List.take_of_length_le (by simp)⟩⟩
theorem bi_cell {W : World} {base g n cap : Nat} {xs : List Int} (h : W.ownsRow base 5 1 (.slice (some ⟨g, 0, none⟩) n cap) n (xs.map (Value.int .u8))) (j : Nat) (hj : j < n) :
    W.cell? ⟨g, j, none⟩ = some (.int .u8 (xs[j]?.getD 0)) := by
  have hl : xs.length = n := by simpa using h.1
  rw [h.cellAt j (by omega), List.getElem?_map, List.getElem?_eq_getElem (by omega)]
  rfl

end Go.Proofs.YtfihpljgbghogaaGreat

/- Rows of snapshots in memory: as they come in, and of one's own; appended, stored. -/
namespace Go.Proofs.YtfihpljgbghogaaGreat
open Go.RowKit
set_option linter.unusedVariables false

/-- A snapshot's three cells. -/
abbrev SlV := Option Addr × Nat × Nat
def slV (x : SlV) : Value := .slice x.1 x.2.1 x.2.2
abbrev SV := Int × SlV × SlV
def svL (q : SV) : List Value := [.int .i64 q.1, slV q.2.1, slV q.2.2]
def svV (q : SV) : Value := .agg #[.int .i64 q.1, slV q.2.1, slV q.2.2]
def scs (l : List SV) : List Value := l.flatMap svL
theorem scs_cons (p : SV) (l : List SV) : scs (p :: l) = .int .i64 p.1 :: slV p.2.1 :: slV p.2.2 :: scs l := rfl
theorem scs_append (a b : List SV) : scs (a ++ b) = scs a ++ scs b := by simp [scs]
theorem scs_get {l : List SV} {j : Nat} {p : SV} (h : l[j]? = some p) : (scs l)[j * 3]? = some (.int .i64 p.1) ∧ (scs l)[j * 3 + 1]? = some (slV p.2.1) ∧ (scs l)[j * 3 + 2]? = some (slV p.2.2) := by
  induction l generalizing j with
  | nil => simp at h
  | cons q l ih =>
    rw [scs_cons]
    cases j with
    | zero => simp at h; subst h; exact ⟨rfl, rfl, rfl⟩
    | succ j =>
      have := ih (j := j) (by simpa using h)
      rw [show (j + 1) * 3 = j * 3 + 1 + 1 + 1 by omega]
      simpa using this
/-- What a snapshot's cells lead to. -/
structure SnIs (W : World) (q : SV) (s : SN) : Prop where
  id : q.1 = s.id
  ch : Sl .u8 W (slV q.2.1) s.ch
  tb : Prt W (slV q.2.2) s.tb
  ok : s.Ok
theorem SnIs.below {W W' : World} {q : SV} {s : SN} (h : SnIs W q s) (hB : Below W.heap.size W W') : SnIs W' q s := ⟨h.id, h.ch.below hB, h.tb.below hB, h.ok⟩
/-- Snapshots that lie somewhere; r: their cells. -/
def SnR (W : World) (v : Value) (r : List SV) (l : List SN) : Prop := ∃ a cap, v = .slice a l.length cap ∧ l.length ≤ cap ∧ cap ≤ maxLen ∧ (a = none → cap = 0) ∧ r.length = l.length ∧ (∀ (j : Nat) (q : SV) (s : SN), r[j]? = some q → l[j]? = some s → SnIs W q s) ∧
  (l = [] ∨ ∃ b off, a = some ⟨b, off, none⟩ ∧ b < W.heap.size ∧ ∀ j q, r[j]? = some q → W.cell? ⟨b, off + j * 3, none⟩ = some (.int .i64 q.1) ∧ W.cell? ⟨b, off + j * 3 + 1, none⟩ = some (slV q.2.1) ∧ W.cell? ⟨b, off + j * 3 + 2, none⟩ = some (slV q.2.2))
def Snp (W : World) (v : Value) (l : List SN) : Prop := ∃ r, SnR W v r l
theorem SnR.below {W W' : World} {v : Value} {r : List SV} {l : List SN} (h : SnR W v r l) (hB : Below W.heap.size W W') : SnR W' v r l := by
  obtain ⟨a, cap, rfl, h1, h2, hz, hr, hs, h4⟩ := h
  refine ⟨a, cap, rfl, h1, h2, hz, hr, fun j q s hq hl => (hs j q s hq hl).below hB, ?_⟩
  rcases h4 with h4 | ⟨b, off, rfl, h5, h6⟩
  · exact .inl h4
  · exact .inr ⟨b, off, rfl, Nat.lt_of_lt_of_le h5 hB.size, fun j p hj => ⟨(hB.cell (p := ⟨b, off + j * 3, none⟩) h5).trans (h6 j p hj).1, (hB.cell (p := ⟨b, off + j * 3 + 1, none⟩) h5).trans (h6 j p hj).2.1, (hB.cell (p := ⟨b, off + j * 3 + 2, none⟩) h5).trans (h6 j p hj).2.2⟩⟩
theorem Snp.below {W W' : World} {v : Value} {l : List SN} (h : Snp W v l) (hB : Below W.heap.size W W') : Snp W' v l := h.imp fun _ h => h.below hB
theorem Snp.nil (W : World) : Snp W (.slice none 0 0) [] := ⟨[], none, 0, rfl, Nat.le_refl _, Nat.zero_le _, (fun _ => rfl), rfl, fun j q s h => (by cases h), .inl rfl⟩
theorem SnR.ok {W : World} {v : Value} {r : List SV} {l : List SN} (h : SnR W v r l) : ∀ s ∈ l, s.Ok := by
  obtain ⟨a, cap, rfl, h1, h2, hz, hr, hs, h4⟩ := h
  intro s hm
  obtain ⟨j, hj⟩ := List.getElem?_of_mem hm
  have hjl := (List.getElem?_eq_some_iff.1 hj).1
  exact (hs j _ s (List.getElem?_eq_getElem (by omega)) hj).ok
theorem Snp.ok {W : World} {v : Value} {l : List SN} (h : Snp W v l) : ∀ s ∈ l, s.Ok := by obtain ⟨r, h⟩ := h; exact h.ok
/-- One of them. -/
theorem SnR.at {W : World} {a : Option Addr} {n cap k : Nat} {r : List SV} {l : List SN} (h : SnR W (.slice a n cap) r l) {s : SN} (hk : l[k]? = some s) :
    ∃ b off q, a = some ⟨b, off, none⟩ ∧ b < W.heap.size ∧ r[k]? = some q ∧ SnIs W q s ∧ W.cell? ⟨b, off + k * 3, none⟩ = some (.int .i64 q.1) ∧ W.cell? ⟨b, off + k * 3 + 1, none⟩ = some (slV q.2.1) ∧ W.cell? ⟨b, off + k * 3 + 2, none⟩ = some (slV q.2.2) := by
  obtain ⟨a', cap', e, h1, h2, hz, hr, hs, h4⟩ := h
  cases e
  rcases h4 with rfl | ⟨b, off, rfl, h5, h6⟩
  · simp at hk
  · have hkl := (List.getElem?_eq_some_iff.1 hk).1
    have hq := List.getElem?_eq_getElem (l := r) (i := k) (by omega)
    exact ⟨b, off, _, rfl, h5, hq, hs k _ s hq hk, h6 k _ hq⟩

/-! A snapshot as one value. -/
theorem loadVar_openS (t : TypeId) (h : t ≠ 51) (a : Addr) : loadVar t a = (do if ← isAgg t then pure (.agg (← loadCells a (← sizeOf t))) else load a) := rfl
theorem storeVar_openS (t : TypeId) (h : t ≠ 51) (a : Addr) (v : Value) : storeVar t a v = (do
    if v.cells.size ≠ (← sizeOf t) then stuck "storeVar: the value has not the size of the variable"
    storeCells a v.cells.toList) := rfl
theorem loadVar_openPS (t : TypeId) (h : t ≠ 51) (h' : t ≠ 54) (a : Addr) : loadVar t a = (do if ← isAgg t then pure (.agg (← loadCells a (← sizeOf t))) else load a) := rfl
theorem storeVar_openPS (t : TypeId) (h : t ≠ 51) (h' : t ≠ 54) (a : Addr) (v : Value) : storeVar t a v = (do
    if v.cells.size ≠ (← sizeOf t) then stuck "storeVar: the value has not the size of the variable"
    storeCells a v.cells.toList) := rfl
set_option maxRecDepth 100000 in
theorem zero_sn (w : World) : (zeroValue 51).run Tryz.prog w = .ok (.agg #[.int .i64 0, .slice none 0 0, .slice none 0 0]) w := by kernel_rfl
set_option maxRecDepth 100000 in
theorem build_sn (a : Int) (x y : Option Addr) (n m c d : Nat) (w : World) : (Instr.build 51 #[(0, .int .i64 a), (1, .slice x n c), (2, .slice y m d)]).run Tryz.prog w = .ok (svV (a, (x, n, c), (y, m, d))) w := by kernel_rfl
set_option maxRecDepth 100000 in
theorem build_sn2 (a : Int) (x : Option Addr) (n c : Nat) (w : World) : (Instr.build 51 #[(0, .int .i64 a), (1, .slice x n c)]).run Tryz.prog w = .ok (svV (a, (x, n, c), (none, 0, 0))) w := by kernel_rfl
set_option maxRecDepth 100000 in
theorem size_sn : (Tryz.prog.info? 51).map (·.size) = some 3 := by kernel_rfl
set_option maxRecDepth 100000 in
theorem load_sn {W : World} {b off : Nat} {q : SV} (c1 : W.cell? ⟨b, off, none⟩ = some (.int .i64 q.1)) (c2 : W.cell? ⟨b, off + 1, none⟩ = some (slV q.2.1)) (c3 : W.cell? ⟨b, off + 2, none⟩ = some (slV q.2.2)) :
    (loadVar 51 ⟨b, off, none⟩).run Tryz.prog W = .ok (svV q) W :=
  run_loadVar_mid W b off _ (svL q) _ (fun j v hj => by
    match j with
    | 0 => cases hj; exact c1
    | 1 => cases hj; exact c2
    | 2 => cases hj; exact c3
    | j + 3 => simp [svL] at hj) Tryz.underlying51 rfl (by kernel_rfl)
set_option maxRecDepth 100000 in
theorem new_sn (x : World) (q : SV) : (storeVar 51 ⟨x.heap.size, 0, none⟩ (svV q)).run Tryz.prog (x.alloc (.cells #[.int .i64 0, .slice none 0 0, .slice none 0 0] 51)) = .ok () (x.alloc (.cells (svL q).toArray 51)) :=
  run_storeVar_new x _ _ (svL q).toArray size_sn rfl (by kernel_rfl)
set_option maxRecDepth 100000 in
theorem load_snC {x : World} {B : Nat} {q : SV} (hr : RowC x B 51 (svL q)) : (loadVar 51 ⟨B, 0, none⟩).run Tryz.prog x = .ok (svV q) x :=
  run_loadVar_mid x B 0 _ (svL q) _ hr.range Tryz.underlying51 rfl (by kernel_rfl)
set_option maxRecDepth 100000 in
theorem store_snC {x : World} {B : Nat} {old : List Value} (q : SV) (hr : RowC x B 51 old) (ho : old.length = 3) :
    ∃ y, (storeVar 51 ⟨B, 0, none⟩ (svV q)).run Tryz.prog x = .ok () y ∧ RowC y B 51 (svL q) ∧ x.grownBy y (some B) := by
  refine ⟨_, run_storeVar_row x B _ _ old.toArray (svL q).toArray hr size_sn (by simpa [svL] using ho) (by kernel_rfl), setRow_heap x B _ _ _ _ hr, ?_⟩
  exact ⟨rfl, rfl, rfl, by rw [setRow_size]; exact Nat.le_refl _, fun k _ hk => setRow_other x B k _ (fun e => hk (by rw [e]))⟩
set_option maxRecDepth 100000 in
theorem slice_sn1 (w : World) (q : SV) : (Instr.buildSlice 25 1 #[(0, svV q)]).run Tryz.prog w = .ok (.slice (some ⟨w.heap.size, 0, none⟩) 1 1) (w.alloc (.cells (svL q).toArray 51)) := by kernel_rfl

/-! Snapshots among the arguments. -/
set_option maxRecDepth 100000 in
theorem snap_of_cells {W : World} {cs : List Value} (h : Cells W 51 cs) : ∃ (q : SV) (s : SN), SnIs W q s ∧ cs = svL q := by
  obtain ⟨hl, hj⟩ := h.struct Tryz.underlying51
  rw [show Tryz.prog.cellsOf 51 = 3 from by kernel_rfl] at hl
  have h0 : Cells W 3 ((cs.drop 0).take (Tryz.prog.cellsOf 3)) := hj 0 _ rfl
  have h1 : Cells W 31 ((cs.drop 1).take (Tryz.prog.cellsOf 31)) := hj 1 _ rfl
  have h2 : Cells W 26 ((cs.drop 2).take (Tryz.prog.cellsOf 26)) := hj 2 _ rfl
  rw [show Tryz.prog.cellsOf 3 = 1 from by kernel_rfl] at h0
  rw [show Tryz.prog.cellsOf 31 = 1 from by kernel_rfl] at h1
  rw [show Tryz.prog.cellsOf 26 = 1 from by kernel_rfl] at h2
  match cs, hl with
  | [x, y, z], _ =>
    obtain ⟨a, e1, wa⟩ := h0.int Tryz.underlying3
    obtain ⟨b, lb, cb, bs, e2, -, -, s2, hb⟩ := h1.bytes Tryz.underlying31 Tryz.underlying5 (by kernel_rfl)
    obtain ⟨c, lc, cc, e3, r3⟩ := h2.slice Tryz.underlying26
    obtain ⟨l, hp⟩ := prt_of r3
    simp at e1 e2 e3
    subst e1 e2 e3
    exact ⟨(a, (b, lb, cb), (c, lc, cc)), ⟨a, bs, l⟩, ⟨rfl, s2, hp, ⟨bounds_i64 wa, hb, hp.is⟩⟩, rfl⟩
/-! Snapshots of one's own. -/
structure SnF (N : Nat) (W : World) (q : SV) (s : SN) : Prop where
  id : q.1 = s.id
  ch : W.ownsRow N 5 1 (slV q.2.1) s.ch.length (s.ch.map (Value.int .u8))
  tb : PrO N W (slV q.2.2) s.tb
  ok : s.Ok
theorem SnF.below {N : Nat} {W W' : World} {q : SV} {s : SN} (h : SnF N W q s) (hB : Below W.heap.size W W') : SnF N W' q s := ⟨h.id, own_belowT h.ch hB, h.tb.below hB, h.ok⟩
theorem own_weak {N M e sz n : Nat} {W : World} {v : Value} {xs : List Value} (h : W.ownsRow N e sz v n xs) (hM : M ≤ N) : W.ownsRow M e sz v n xs := by
  refine ⟨h.1, ?_⟩
  rcases h.2 with h' | ⟨g, cap, cur, e, h1, h2⟩
  · exact .inl h'
  · exact .inr ⟨g, cap, cur, e, Nat.le_trans hM h1, h2⟩
theorem SnF.weak {N M : Nat} {W : World} {q : SV} {s : SN} (h : SnF N W q s) (hM : M ≤ N) : SnF M W q s := ⟨h.id, own_weak h.ch hM, h.tb.weak hM, h.ok⟩
theorem SnF.is {N : Nat} {W : World} {q : SV} {s : SN} (h : SnF N W q s) : SnIs W q s := ⟨h.id, Sl.of_owns h.ch, h.tb.prt, h.ok⟩
def SnO (N : Nat) (W : World) (v : Value) (l : List SN) : Prop := ∃ r : List SV, r.length = l.length ∧ W.ownsRow N 51 3 v l.length (scs r) ∧ ∀ (j : Nat) (q : SV) (s : SN), r[j]? = some q → l[j]? = some s → SnF N W q s
theorem SnO.nil (N : Nat) (W : World) : SnO N W (.slice none 0 0) [] := ⟨[], rfl, World.ownsRow_nil _ _ _ _, fun j q s h => by cases h⟩
theorem SnO.below {N : Nat} {W W' : World} {v : Value} {l : List SN} (h : SnO N W v l) (hB : Below W.heap.size W W') : SnO N W' v l := by
  obtain ⟨r, h1, h2, h3⟩ := h
  exact ⟨r, h1, own_belowT h2 hB, fun j q s a b => (h3 j q s a b).below hB⟩
theorem SnO.snp {N : Nat} {W : World} {v : Value} {l : List SN} (h : SnO N W v l) : Snp W v l := by
  obtain ⟨r, h1, h2, h3⟩ := h
  rcases h2.2 with ⟨rfl, h0⟩ | ⟨g, cap, cur, rfl, a1, a2, a3, a4, a5, a6⟩
  · obtain rfl : l = [] := List.eq_nil_of_length_eq_zero h0
    exact Snp.nil W
  · refine ⟨r, _, cap, rfl, a3, a4, (fun e => by cases e), h1, fun j q s a b => (h3 j q s a b).is, .inr ⟨g, 0, rfl, (Array.getElem?_eq_some_iff.1 a2).1, fun j p hj => ?_⟩⟩
    have hc := h2.cells (g := g) rfl
    obtain ⟨f1, f2, f3⟩ := scs_get hj
    have c1 := hc _ _ f1
    have c2 := hc _ _ f2
    have c3 := hc _ _ f3
    rw [Addr.add_mid] at c1 c2 c3
    exact ⟨c1, by simpa [Nat.add_assoc] using c2, by simpa [Nat.add_assoc] using c3⟩
theorem SnO.base {N : Nat} {W : World} {v : Value} {l : List SN} (h : SnO N W v l) : ∀ j, v.ownBlock = some j → N ≤ j ∧ j < W.heap.size := by
  obtain ⟨r, h1, h2, h3⟩ := h
  intro j hj
  rcases h2.2 with ⟨rfl, h0⟩ | ⟨g, cap, cur, rfl, a1, a2, -⟩
  · cases hj
  · cases hj
    exact ⟨a1, (Array.getElem?_eq_some_iff.1 a2).1⟩
theorem SnO.ne {N B : Nat} {W : World} {v : Value} {l : List SN} {C : List Value} {t : TypeId} (h : SnO N W v l) (hB : RowC W B t C) (hne : 51 ≠ t) : v.ownBlock ≠ some B := by
  obtain ⟨r, h1, h2, h3⟩ := h
  exact row_ne h2 hB hne
set_option maxRecDepth 100000 in
theorem info_snT : (Tryz.prog.info? 51).map (fun i => (i.zero, i.size, i.bytes)) = some (some (.agg #[.int .i64 0, .slice none 0 0, .slice none 0 0]), 3, 56) := by kernel_rfl
theorem slice_one {v : Value} {k : IntKind} {W : World} {xs : List Int} (h : Sl k W v xs) : v.oneCell' = true := by
  obtain ⟨a, c, rfl, -⟩ := h; rfl
theorem SnF.ones {N : Nat} {W : World} {q : SV} {s : SN} (h : SnF N W q s) : ∀ u ∈ scs [q], u.oneCell' = true := by
  intro u hu
  have h1 := slice_one (Sl.of_owns h.ch)
  have h2 : (slV q.2.2).oneCell' = true := rfl
  simp [scs, svL] at hu
  rcases hu with rfl | rfl | rfl
  · rfl
  · exact h1
  · exact h2
/-- What lies within snapshots of one's own stays, whatever becomes of the row. -/
theorem SnF.kept {N M n : Nat} {W W' : World} {q : SV} {s : SN} {v : Value} {xs : List Value} (h : SnF N W q s) (hv : W.ownsRow M 51 3 v n xs) (hg : W.grownBy W' v.ownBlock) : SnF N W' q s :=
  ⟨h.id, h.ch.kept hg (rows_ne h.ch hv (by decide)), ⟨h.tb.1.kept hg (rows_ne h.tb.1 hv (by decide)), h.tb.2⟩, h.ok⟩
set_option maxRecDepth 100000 in
/-- One more. -/
theorem sn_append {N : Nat} {w : World} {v : Value} {l : List SN} {q : SV} {s : SN} (h : SnO N w v l) (hN : N ≤ w.heap.size) (hq : SnF N w q s) (hlen : l.length ≤ 900000) :
    ∃ v' w', (∀ ty, (Builtin.append_ #[25, 25] ty #[v, .slice (some ⟨w.heap.size, 0, none⟩) 1 1]).run Tryz.prog (w.alloc (.cells (svL q).toArray 51)) = .ok v' w') ∧ SnO N w' v' (l ++ [s]) ∧ w.grownBy w' v.ownBlock := by
  obtain ⟨i0, hi⟩ : ∃ i, Tryz.prog.info? 51 = some i := ⟨_, rfl⟩
  have hqq := info_snT
  rw [hi] at hqq
  have hz : (i0.zero, i0.size, i0.bytes) = (some (.agg #[.int .i64 0, .slice none 0 0, .slice none 0 0]), 3, 56) := Option.some.inj hqq
  have hz0 := congrArg (·.1) hz
  have hz1 := congrArg (·.2.1) hz
  have hz2 := congrArg (·.2.2) hz
  simp only at hz0 hz1 hz2
  obtain ⟨r, h1, h2, h3⟩ := h
  have hr : ∀ ty, ∃ v' w', (Builtin.append_ #[25, 25] ty #[v, .slice (some ⟨w.heap.size, 0, none⟩) 1 1]).run Tryz.prog (w.alloc (.cells (svL q).toArray 51)) = .ok v' w' ∧ w'.ownsRow N 51 3 v' (l.length + 1) (scs r ++ scs [q]) ∧ (w.alloc (.cells (svL q).toArray 51)).grownBy w' v.ownBlock := fun ty => by
    obtain ⟨v', w', g1, g2, g3, g4⟩ := run_append_own (P := Tryz.prog) (w.alloc (.cells (svL q).toArray 51)) N 25 ty 51 i0 (.agg #[.int .i64 0, .slice none 0 0, .slice none 0 0]) 3 56 Tryz.underlying25 hi hz0 hz1 hz2 rfl (by decide) v l.length _ (own_belowT h2 (below_new w _)) ⟨w.heap.size, 0, none⟩ 1 1 (scs [q]) rfl
      (fun j u hj => by
        rw [Addr.add_lit, Nat.zero_add]
        exact (RowC.new w 51 (svL q)).cell j u (by simpa [scs] using hj)) hq.ones (by unfold maxLen; omega) (by omega) (by simp; omega)
    exact ⟨v', w', g1, g2, g3⟩
  obtain ⟨v', w', g1, g2, g3⟩ := hr 0
  have hgg : w.grownBy w' v.ownBlock := grown_trans (grown_below (below_new w _) _) g3
  refine ⟨v', w', fun ty => ?_, ⟨r ++ [q], by simp [h1], ?_, fun j q' s' ha hb => ?_⟩, hgg⟩
  · rw [← g1]; rfl
  · rw [List.length_append, scs_append]; exact g2
  · by_cases hj : j < l.length
    · rw [List.getElem?_append_left (by omega)] at ha hb
      exact (h3 j q' s' ha hb).kept h2 hgg
    · obtain rfl : j = l.length := by have := (List.getElem?_eq_some_iff.1 hb).1; simp at this; omega
      rw [List.getElem?_append_right (Nat.le_refl _)] at hb
      rw [List.getElem?_append_right (by omega), h1] at ha
      simp at ha hb
      subst ha hb
      exact hq.kept h2 hgg
end Go.Proofs.YtfihpljgbghogaaGreat

/- A range over a function whose rounds are numbered: the iterator's contract rests on the caller's own invariant; the loop's variables may be boxed. No program is named. -/
namespace Go.Proofs.YtfihpljgbghogaaGreat
open Go.RowKit
set_option linter.unusedVariables false

variable {F : Fence} {n : Nat} {P : Program}

/-- What an iterator of m items owes to a caller whose rounds keep R. -/
def SeqNum (F : Fence) (n : Nat) (P : Program) (g : Nat) (lb : Array Value) (encs : Nat → Array Value) (R : World → Prop) (m : Nat) (w : World) : Prop :=
  ∀ (l : Nat) (J Jx : Nat → World → Prop) (W : World), Below w.heap.size w W → (∀ k W, J k W → R W) → AbidesFrom W.heap.size J → AbidesFrom W.heap.size Jx →
    (∀ k W1, k < m → J k W1 → YieldAt F (n - 1) P l (encs k) W1 fun e W' => (e = .returned (.bool true) ∧ J (k + 1) W') ∨ (e = .returned (.bool false) ∧ Jx (k + 1) W')) →
    J 0 W →
    CallsIn F n P g (#[.func (.yield l) #[] #[]] ++ lb) W fun e W' => (∃ v, e = .returned v) ∧ (J m W' ∨ (∃ k, k ≤ m ∧ Jx k W'))

/-- How a round may be left. -/
def numPost (B : Nat) (I : Nat → World → Prop) (Ix : Code → Nat → World → Prop) (k : Nat) (W : World) : Exit → Act → World → Prop
  | .normal, _, W' => KeepsFrom B W W' ∧ I k W'
  | .ret, _, W' => KeepsFrom B W W' ∧ Ix .ret k W'
  | .exit id, _, W' => KeepsFrom B W W' ∧ Ix (.exit id) k W'
  | .goto t, _, W' => KeepsFrom B W W' ∧ Ix (.goto t) k W'
  | .panic _, _, _ => False
  | .outgrown, _, _ => False

/-- **A loop over such an iterator.** -/
theorem wpIn_rangeFunc_num {g : Operand} {ps : Array Tmp} {assign body : Code} {Q : Exit → Act → World → Prop} {a : Act} {w : World}
    (hro : F.round = none) (h1 : 1 ≤ n) {gf : Nat} {lb : Array Value} (hg : a.eval g = .func (.func gf) #[] lb) (hFg : F.fn gf) (eg : ∀ args w, (callFunc gf args).run P w = .ok (.enter gf args) w)
    {encs : Nat → Array Value} {R : World → Prop} {m : Nat} {w0 : World} (hseq : SeqNum F (n - 1) P gf lb encs R m w0)
    (hb0 : Below w0.heap.size w0 w) (hps : ∀ x, (encs x).size = ps.size)
    (I : Nat → World → Prop) (Ix : Code → Nat → World → Prop) (hR : ∀ k W, I k W → R W) (hI : OwnFrom w.heap.size I) (hIx : ∀ c, OwnFrom w.heap.size (Ix c)) (h0 : I 0 w) (Ax : Nat → Act → World → Prop) (hAx : ∀ x a', OwnFrom w.heap.size (fun (_ : Unit) W => Ax x a' W))
    (hassign : ∀ (l : Nat) (k : Nat) (W : World) (K : Act → World → Prop), k < m → I k W → (∀ a' W', KeepsFrom w.heap.size W W' → I k W' → Ax k a' W' → K a' W') →
      assign.wpIn (F.inRound l) (n - 1 - 1) P (Exit.then K (fun _ _ _ => False)) { tmps := (ps.zip (encs k)).foldl (fun t (p, v) => t.setIfInBounds p v) a.tmps, defers := [] } W)
    (hbody : ∀ (l : Nat) (k : Nat) (a' : Act) (W : World), w.heap.size ≤ l → (∃ r, W.heap[l]? = some (.loop r)) → k < m → I k W → Ax k a' W → body.wpIn (F.inRound l) (n - 1 - 1) P (numPost w.heap.size I Ix (k + 1) W) a' W)
    (hdone : ∀ (D : Nat) (W : World), w.heap.size ≤ D → I m W → W.heap[D]? = some (.deferred (some [])) → Q .normal { a with defers := { target := .collected D, args := #[] } :: a.defers } W)
    (hstop : ∀ (D : Nat) (c : Code) (k : Nat) (W : World), w.heap.size ≤ D → k ≤ m → Ix c k W → W.heap[D]? = some (.deferred (some [])) → c.wpIn F n P Q { a with defers := { target := .collected D, args := #[] } :: a.defers } W) :
    (Code.rangeFunc g ps assign body).wpIn F n P Q a w := by
  refine wpIn_rangeFunc fun fn hfn => ?_
  rw [hro]
  let rc : LoopState → Option Code → Loop := fun st pe => { state := st, pending := pe, fn, tmps := a.tmps, params := ps, assign, body, defers := w.heap.size }
  obtain ⟨W1, hW1⟩ : ∃ W1, (w.alloc (.deferred (some []))).alloc (.loop (rc .ready none)) = W1 := ⟨_, rfl⟩
  have bk1 : Books W1 w.heap.size (rc .ready none) := by
    rw [← hW1]
    refine ⟨?_, (Below.heap_alloc _ _ _ (by simp)).trans (World.alloc_heap_new w _)⟩
    have := World.alloc_heap_new (w.alloc (.deferred (some []))) (.loop (rc .ready none))
    rwa [World.size_alloc] at this
  have hsz : w.heap.size ≤ W1.heap.size := by rw [← hW1]; simp; omega
  have bel : Below w0.heap.size w0 W1 := by
    rw [← hW1]; exact hb0.trans ((((Below.refl _ w).alloc (Nat.le_refl _) _).alloc (by simp) _).mono hb0.size)
  have I1 : I 0 W1 := by rw [← hW1]; exact hI.alloc _ (hI.alloc _ h0)
  have walk : ∀ {A : World} {row : Option Nat}, (∀ r, row = some r → W1.heap.size ≤ r ∧ ∃ o : Obj, A.heap[r]? = some o ∧ o.isWalk = true) →
      (∀ r, row = some r → w.heap.size ≤ r ∧ ∃ o : Obj, A.heap[r]? = some o ∧ o.isCells = false) ∧ (∀ r, row = some r → ∃ o : Obj, A.heap[r]? = some o ∧ o.isWalk = true) := fun hr =>
    ⟨fun r e => by obtain ⟨h, o, ho, hw⟩ := hr r e; exact ⟨Nat.le_trans hsz h, o, ho, Obj.not_cells_of_walk hw⟩, fun r e => (hr r e).2⟩
  refine ⟨w.heap.size + 1, _, W1, { target := .fn (.func gf) lb, args := #[.func (.yield (w.heap.size + 1)) #[] #[]] }, W1, gf, #[.func (.yield (w.heap.size + 1)) #[] #[]] ++ lb, W1,
    hW1 ▸ run_enterLoop_outer fn _ _ _ _, by simp only [resolve, hg]; simp [go_sem], fun f' hf' => by simp [Target.leads] at hf'; subst hf'; exact hFg, by simp [invoke, go_sem, eg], fun _ => h1, ?_⟩
  refine (hseq (w.heap.size + 1) (fun k W => I k W ∧ Books W w.heap.size (rc .ready none)) (fun k W => ∃ c, Ix c k W ∧ Books W w.heap.size (rc .done (some c))) W1 bel (fun _ _ h => hR _ _ h.1)
    (fun s A B row hs hgr hr => ⟨hI s A B row hs.1 hgr (walk hr).1, hs.2.kept hgr (walk hr).2⟩)
    (fun s A B row hs hgr hr => by obtain ⟨c, hc, hb⟩ := hs; exact ⟨c, hIx c s A B row hc hgr (walk hr).1, hb.kept hgr (walk hr).2⟩) ?_ ⟨I1, bk1⟩).mono ?_
  · rintro k W hkm ⟨hi, bk⟩
    have hy := run_yield (P := P) (args := encs k) bk.loop (hps k)
    refine ⟨fn, _, assign, body, hy, roundIn_of_wpIn hfn (hassign _ k W _ hkm hi ?_)⟩
    clear hy
    intro a' Wa hkf hia hax
    replace bk := bk.from hkf
    refine ⟨_, run_beginRound bk.loop rfl, ?_⟩
    have bk2 := bk.put (rc .busy none)
    refine wpIn_mono (hbody _ k a' _ (by omega) ⟨_, bk2.loop⟩ hkm (hI.putObj _ hia (by omega) bk.loop rfl) ((hAx k a').putObj (s := ()) _ hax (by omega) bk.loop rfl)) ?_
    have out : ∀ (j : Option Code) (W3 : World), KeepsFrom w.heap.size (Wa.putObj (w.heap.size + 1) (.loop (rc .busy none))) W3 → (Instr.endRound (w.heap.size + 1) j).run P W3 = .ok (.bool j.isNone) (W3.putObj (w.heap.size + 1) (.loop (rc (if j.isNone then .ready else .done) j))) ∧
        W3.heap[w.heap.size + 1]? = some (.loop (rc .busy none)) ∧ Books (W3.putObj (w.heap.size + 1) (.loop (rc (if j.isNone then .ready else .done) j))) w.heap.size (rc (if j.isNone then .ready else .done) j) := fun j W3 hk =>
      ⟨run_endRound j (bk2.from hk).loop, (bk2.from hk).loop, (bk2.from hk).put _⟩
    rintro (_ | id | t | _ | ch | _) a3 W3 hp
    · obtain ⟨hk, hi3⟩ := hp
      obtain ⟨h2, h3, h4⟩ := out none W3 hk
      exact ⟨_, _, h2, .inl ⟨rfl, hI.putObj _ hi3 (by omega) h3 rfl, h4⟩⟩
    · obtain ⟨hk, hi3⟩ := hp
      obtain ⟨h2, h3, h4⟩ := out (some (.exit id)) W3 hk
      exact ⟨_, _, h2, .inr ⟨rfl, _, (hIx _).putObj _ hi3 (by omega) h3 rfl, h4⟩⟩
    · obtain ⟨hk, hi3⟩ := hp
      obtain ⟨h2, h3, h4⟩ := out (some (.goto t)) W3 hk
      exact ⟨_, _, h2, .inr ⟨rfl, _, (hIx _).putObj _ hi3 (by omega) h3 rfl, h4⟩⟩
    · obtain ⟨hk, hi3⟩ := hp
      obtain ⟨h2, h3, h4⟩ := out (some .ret) W3 hk
      exact ⟨_, _, h2, .inr ⟨rfl, _, (hIx _).putObj _ hi3 (by omega) h3 rfl, h4⟩⟩
    · exact hp.elim
    · exact hp.elim
  · rintro e W2 ⟨⟨v, rfl⟩, ⟨hi, bk⟩ | ⟨k, hk, c, hi, bk⟩⟩
    · exact ⟨none, _, run_endLoop bk.loop (by simp [rc]), hdone _ _ (Nat.le_refl _) (hI.putObj _ hi (by omega) bk.loop rfl) (bk.put _).defers⟩
    · exact ⟨some c, _, run_endLoop bk.loop (by simp [rc]), hstop _ c k _ (Nat.le_refl _) hk ((hIx c).putObj _ hi (by omega) bk.loop rfl) (bk.put _).defers⟩
end Go.Proofs.YtfihpljgbghogaaGreat

/- The developers' range function over snapshots: each comes, with its number, in order. -/
namespace Go.Proofs.YtfihpljgbghogaaGreat
open Go.RowKit Go.Shelf
set_option linter.unusedVariables false
attribute [-simp] Tryz.isAgg51 Tryz.zeroValue51
attribute [-go_sem] loadVar storeVar
attribute [local go_sem] loadVar_openS storeVar_openS zero_sn
attribute [local go_sem] Oper.semAt_some

def svz : SV := (0, (none, 0, 0), (none, 0, 0))
/-- The item number k: the number and the snapshot at lo + k. -/
def encS (r : List SV) (lo k : Nat) : Array Value := #[.int .i64 ((lo + k : Nat) : Int), svV (r[lo + k]?.getD svz)]
/-- What the boxes of the range function hold. -/
structure SpB (Bi Bj Bl : Nat) (i j : Int) (v : Value) (r : List SV) (l : List SN) (W : World) : Prop where
  ci : W.cell? ⟨Bi, 0, none⟩ = some (.int .i64 i)
  cj : W.cell? ⟨Bj, 0, none⟩ = some (.int .i64 j)
  cl : W.cell? ⟨Bl, 0, none⟩ = some v
  sn : SnR W v r l
def mnOf (n : Nat) (j : Int) : Int := if j < (n : Int) then j else (n : Int)
theorem mnOf_lt (l : List SN) (j : Int) (a : Nat) : (a : Int) < mnOf l.length j ↔ a < hiOf l j := by
  unfold mnOf hiOf
  split <;> omega

set_option maxRecDepth 100000 in
set_option maxHeartbeats 1000000 in
/-- The list and the bounds are boxed; the function value holds the boxes. -/
theorem span_in (F : Fence) (n : Nat) (hf : F.fn 77) (hro : F.round = none) (a : Option Addr) (len cap : Nat) (i j : Int) (w : World) :
    CallsIn F n Tryz.prog 77 #[.slice a len cap, .int .i64 i, .int .i64 j] w fun e w' => e = .returned (.func (.func 107) #[] #[.pointer (some ⟨w.heap.size + 1, 0, none⟩), .pointer (some ⟨w.heap.size + 2, 0, none⟩), .pointer (some ⟨w.heap.size, 0, none⟩)]) ∧
      w' = ((w.alloc (.cells #[.slice a len cap] 25)).alloc (.cells #[.int .i64 i] 3)).alloc (.cells #[.int .i64 j] 3) := by
  refine callsIn_of_wp Tryz.func77 rfl hf ?_ hro
  simp only [Tryz.ntmps77, List.size_toArray, List.length_cons, List.length_nil, Nat.reduceAdd, Nat.reduceSub, Array.replicate_succ, Array.replicate_zero, List.push_toArray, List.append_toArray, List.nil_append, List.cons_append]
  gi_wp2
  go_ret
  exact ⟨rfl, rfl⟩

set_option maxRecDepth 100000 in
set_option maxHeartbeats 4000000 in
theorem span1_seq (n : Nat) (hn : 1 ≤ n) (Bi Bj Bl : Nat) (i j : Int) (v : Value) (r : List SV) (l : List SN) (w : World) :
    SeqNum Fence.wide n Tryz.prog 107 #[.pointer (some ⟨Bi, 0, none⟩), .pointer (some ⟨Bj, 0, none⟩), .pointer (some ⟨Bl, 0, none⟩)] (encS r (loOf i)) (SpB Bi Bj Bl i j v r l) (hiOf l j - loOf i) w := by
  intro lp J Jx W hW hJR _ _ hY h0
  have hR0 := hJR 0 W h0
  have HJR := Lib.hid hJR
  have HY := Lib.hid hY
  obtain ⟨lo, hlo⟩ : ∃ lo, loOf i = lo := ⟨_, rfl⟩
  obtain ⟨m, hm⟩ : ∃ m, hiOf l j - loOf i = m := ⟨_, rfl⟩
  have hmax : ∀ (ts : Array TypeId) (t : TypeId) (W : World), (Builtin.max_ ts t #[.int .i64 i, .int .i64 0]).run Tryz.prog W = .ok (.int .i64 (lo : Int)) W := fun ts t W => by
    rw [run_max_int2, ← hlo]
    unfold loOf
    congr 2
    split <;> omega
  have hci := hR0.ci
  have hll : l.length ≤ maxLen := by obtain ⟨a, c, e, h1, h2, -⟩ := hR0.sn; omega
  have hHI := hiOf_le l j
  rw [hm, hlo] at HY
  rw [hlo] at hm
  obtain ⟨mn, hmn⟩ : ∃ mn, mnOf l.length j = mn := ⟨_, rfl⟩
  have hlt0 := mnOf_lt l j
  rw [hmn] at hlt0
  have hLT : ∀ k : Nat, ((lo + k : Nat) : Int) < mn ↔ k < m := fun k => by rw [hlt0]; omega
  have hIN : ∀ k : Nat, k < m → lo + k < l.length := fun k hk => by omega
  have HLT := Lib.hid hLT
  have HIN := Lib.hid hIN
  have HML := Lib.hid hll
  have hmin : ∀ (ts : Array TypeId) (t : TypeId) (W : World), (Builtin.min_ ts t #[.int .i64 j, .int .i64 (l.length : Int)]).run Tryz.prog W = .ok (.int .i64 mn) W := fun ts t W => by
    rw [run_min_int2, ← hmn]
    unfold mnOf
    congr 2
    split <;> omega
  rw [show hiOf l j - loOf i = m from by rw [hlo]; exact hm]
  clear hlo hm hmn hlt0 hLT hIN hll hHI hR0 hY hJR hW
  refine callsIn_of_wp Tryz.func107 rfl trivial ?_ rfl
  simp only [Tryz.ntmps107, List.size_toArray, List.length_cons, List.length_nil, Nat.reduceAdd, Nat.reduceSub, Array.replicate_succ, Array.replicate_zero, List.push_toArray, List.append_toArray, List.nil_append, List.cons_append]
  gi_wp2
  gi_loopw [5] (fun x wr => ∃ k : Nat, k ≤ m ∧ x = .int .i64 ((lo + k : Nat) : Int) ∧ J k wr) (fun x _ => (lo + m) - (intOf x).toNat)
  case atStart => exact ⟨0, Nat.zero_le _, rfl, h0⟩
  case round =>
    obtain ⟨k, hk, rfl, hJs⟩ := hrel
    have hb := HJR.out k wr hJs
    obtain ⟨a, cap, rfl, h1, h2, h3⟩ : ∃ a cap, v = .slice a l.length cap ∧ l.length ≤ cap ∧ cap ≤ maxLen ∧ True := by obtain ⟨a, c, e, h1, h2, -⟩ := hb.sn; exact ⟨a, c, e, h1, h2, trivial⟩
    have c1 := hb.cj
    have c2 := hb.cl
    obtain ⟨q, hq⟩ : ∃ q : Nat, lo + k = q := ⟨_, rfl⟩
    rw [hq]
    by_cases hkm : k < m
    · have g1 : (q : Int) < mn := by rw [← hq]; exact (HLT.out k).2 hkm
      have g2 : (q : Int) < (l.length : Int) := by have := HIN.out k hkm; omega
      have hml : l.length ≤ maxLen := HML.out
      have hW1 : Hid (wrap64 ((q : Int) + 1) = (q : Int) + 1) := IntWalk.wrap64_in _ (by unfold maxLen at hml; omega)
      obtain ⟨s, hs⟩ : ∃ s, l[q]? = some s := ⟨_, List.getElem?_eq_getElem (by omega)⟩
      obtain ⟨b, off, x, rfl, hbl, hx, -, d1, d2, d3⟩ := hb.sn.at hs
      have LD := load_sn d1 d2 d3
      have hy0 := HY.out k wr hkm hJs
      unfold encS at hy0
      rw [hq, hx] at hy0
      simp only [Option.getD_some] at hy0
      obtain ⟨fn, tmps, assign, body, hy, hRR⟩ := hy0
      have HKM := Lib.hid hkm
      have HQ := Lib.hid hq
      clear hb hs hx d1 d2 d3 hkm hq hml h1 h2 h3
      gi_wp2
      refine hRR.mono ?_
      rintro e W3 (⟨rfl, hJ3⟩ | ⟨rfl, hJx3⟩)
      · have HJ3 := Lib.hid hJ3
        clear hJ3
        gi_wp2
        go_roundw
        case rel => exact ⟨k + 1, HKM.out, by rw [hW1.out]; have := HQ.out; simp only [Value.int.injEq, true_and]; omega, HJ3.out⟩
        case measure => rw [hW1.out]; have := HQ.out; have := HKM.out; simp [intOf]; omega
      · have HJ3 := Lib.hid hJx3
        clear hJx3
        gi_wp2
        refine bodyPost_ret (results_none rfl _ _ _) rfl ?_
        exact ⟨⟨_, rfl⟩, .inr ⟨k + 1, HKM.out, HJ3.out⟩⟩
    · have g1 : ¬ (q : Int) < mn := by rw [← hq]; exact fun h => hkm ((HLT.out k).1 h)
      obtain rfl : k = m := by omega
      have HJ := Lib.hid hJs
      clear hb hJs hq
      gi_wp2
      go_end0
      exact ⟨⟨_, rfl⟩, .inl HJ.out⟩
end Go.Proofs.YtfihpljgbghogaaGreat

/- Boxes beside a range over snapshots: what stays of them. -/
namespace Go.Proofs.YtfihpljgbghogaaGreat
open Go.RowKit Go.Shelf
set_option linter.unusedVariables false

theorem rowC_own {x y : World} {B N : Nat} {t : TypeId} {C : List Value} {row : Option Nat} (h : RowC x B t C) (hg : x.grownBy y row) (hr : ∀ r, row = some r → N ≤ r ∧ ∃ o : Obj, x.heap[r]? = some o ∧ o.isCells = false) : RowC y B t C :=
  (hg.block B h.lt (fun e => by
    obtain ⟨-, o, ho, hc⟩ := hr B e.symm
    rw [show x.heap[B]? = _ from h] at ho
    cases ho
    cases hc)).trans h
theorem below_own {N : Nat} {w x y : World} {row : Option Nat} (h : Below N w x) (hN : N ≤ w.heap.size) (hg : x.grownBy y row) (hr : ∀ r, row = some r → w.heap.size ≤ r ∧ ∃ o : Obj, x.heap[r]? = some o ∧ o.isCells = false) : Below N w y :=
  h.grown hg (Nat.le_trans hN h.size) (fun k e => Nat.le_trans hN (hr k e).1)
theorem keepsFrom_cells {B : Nat} {x y : World} {b : Nat} {C : List Value} {t : TypeId} (h : RowC x b t C) (hg : x.grownBy y (some b)) : KeepsFrom B x y := ⟨hg.size, fun k o hk ho hc => by
  refine (hg.block k (Array.getElem?_eq_some_iff.1 ho).1 (fun e => ?_)).trans ho
  obtain rfl : b = k := by cases e; rfl
  rw [show x.heap[b]? = _ from h] at ho
  cases ho
  cases hc⟩
theorem keepsFrom_below {B : Nat} {x y : World} (h : Below x.heap.size x y) : KeepsFrom B x y := ⟨h.size, fun k o _ ho _ => (h.block k (Array.getElem?_eq_some_iff.1 ho).1).trans ho⟩
theorem keepsFrom_trans {B : Nat} {x y z : World} (h : KeepsFrom B x y) (k : KeepsFrom B y z) : KeepsFrom B x z := ⟨Nat.le_trans h.size k.size, fun j o hj ho hc => k.same j o hj (h.same j o hj ho hc) hc⟩
theorem keepsFrom_row {B N e sz n : Nat} {x y : World} {v : Value} {xs : List Value} (h : x.ownsRow N e sz v n xs) (hg : x.grownBy y v.ownBlock) : KeepsFrom B x y := ⟨hg.size, fun k o hk ho hc => by
  refine (hg.block k (Array.getElem?_eq_some_iff.1 ho).1 (fun e => ?_)).trans ho
  rcases h.2 with ⟨rfl, _⟩ | ⟨g, cap, cur, rfl, _, hgg, _⟩
  · cases e
  · obtain rfl : g = k := by cases e; rfl
    rw [hgg] at ho
    cases ho
    cases hc⟩
theorem set_other {x : World} {B B' : Nat} {t : TypeId} {C : List Value} (h : RowC x B t C) (hne : B ≠ B') (j : Nat) (v : Value) : RowC (x.setCell ⟨B', j, none⟩ v) B t C := h.grown (grownBy_setCellJ x B' j v) (fun e => hne (by cases e; rfl))
theorem set_below {N B' : Nat} {w x : World} (h : Below N w x) (hB : N ≤ B') (j : Nat) (v : Value) : Below N w (x.setCell ⟨B', j, none⟩ v) := h.setCell (p := ⟨B', j, none⟩) hB v

/-- The boxes of span, and all that lay ahead. -/
structure SpX (N B : Nat) (i j : Int) (v : Value) (w W : World) : Prop where
  bl : RowC W B 25 [v]
  bi : RowC W (B + 1) 3 [.int .i64 i]
  bj : RowC W (B + 2) 3 [.int .i64 j]
  be : Below N w W
theorem SpX.own {N B : Nat} {i j : Int} {v : Value} {w x y : World} {row : Option Nat} {M : Nat} (h : SpX N B i j v w x) (hN : N ≤ w.heap.size) (hg : x.grownBy y row) (hM : w.heap.size ≤ M) (hr : ∀ r, row = some r → M ≤ r ∧ ∃ o : Obj, x.heap[r]? = some o ∧ o.isCells = false) : SpX N B i j v w y :=
  ⟨rowC_own h.bl hg hr, rowC_own h.bi hg hr, rowC_own h.bj hg hr, below_own h.be hN hg (fun r e => ⟨Nat.le_trans hM (hr r e).1, (hr r e).2⟩)⟩
theorem SpX.set {N B B' : Nat} {i j : Int} {v : Value} {w x : World} (h : SpX N B i j v w x) (hN : N ≤ B') (h1 : B' < B ∨ B + 2 < B') (k : Nat) (u : Value) : SpX N B i j v w (x.setCell ⟨B', k, none⟩ u) :=
  ⟨set_other h.bl (by omega) k u, set_other h.bi (by omega) k u, set_other h.bj (by omega) k u, set_below h.be hN k u⟩
theorem SpX.below {N B : Nat} {i j : Int} {v : Value} {w x y : World} (h : SpX N B i j v w x) (hx : N ≤ x.heap.size) (hb : Below x.heap.size x y) : SpX N B i j v w y :=
  ⟨h.bl.below hb, h.bi.below hb, h.bj.below hb, h.be.trans (hb.mono hx)⟩
theorem SpX.alloc {N B : Nat} {i j : Int} {v : Value} {w x : World} (h : SpX N B i j v w x) (hx : N ≤ x.heap.size) (o : Obj) : SpX N B i j v w (x.alloc o) := h.below hx (below_new x o)
theorem SpX.spb {B : Nat} {i j : Int} {v : Value} {w W : World} {r : List SV} {l : List SN} {N : Nat} (h : SpX N B i j v w W) (hN : w.heap.size = N) (hs : SnR w v r l) : SpB (B + 1) (B + 2) B i j v r l W :=
  ⟨h.bi.cell 0 _ rfl, h.bj.cell 0 _ rfl, h.bl.cell 0 _ rfl, hs.below (by rw [hN]; exact h.be)⟩
/-- The three boxes, new. -/
theorem SpX.new {N : Nat} {w x : World} (i j : Int) (v : Value) (hb : Below N w x) (hN : N ≤ x.heap.size) :
    SpX N x.heap.size i j v w (((x.alloc (.cells #[v] 25)).alloc (.cells #[.int .i64 i] 3)).alloc (.cells #[.int .i64 j] 3)) := by
  have r1 := RowC.new x 25 [v]
  have r2 := RowC.new (x.alloc (.cells #[v] 25)) 3 [.int .i64 i]
  have r3 := RowC.new ((x.alloc (.cells #[v] 25)).alloc (.cells #[.int .i64 i] 3)) 3 [.int .i64 j]
  simp only [World.size_alloc] at r2 r3
  refine ⟨(r1.below (below_new _ _)).below (below_new _ _), r2.below (below_new _ _), r3, ?_⟩
  exact ((hb.alloc hN _).alloc (by simp; omega) _).alloc (by simp; omega) _
/-- The item that comes. -/
theorem encS_at {r : List SV} {k : Nat} {q : SV} (lo : Nat) (h : r[lo + k]? = some q) : encS r lo k = #[.int .i64 ((lo + k : Nat) : Int), svV q] := by unfold encS; rw [h]; rfl
theorem snR_at {W : World} {v : Value} {r : List SV} {l : List SN} (h : SnR W v r l) {k : Nat} (hk : k < l.length) : ∃ q s, r[k]? = some q ∧ l[k]? = some s ∧ SnIs W q s := by
  obtain ⟨a, cap, rfl, h1, h2, hz, hr, hs, h4⟩ := h
  have a1 := List.getElem?_eq_getElem (l := r) (i := k) (by omega)
  have a2 := List.getElem?_eq_getElem hk
  exact ⟨_, _, a1, a2, hs k _ _ a1 a2⟩
theorem letsOut_num {B : Nat} {I : Nat → World → Prop} {Ix : Code → Nat → World → Prop} {k : Nat} {W : World} : ¬ LetsOut (numPost B I Ix k W) := fun ⟨a, w, e⟩ => e
theorem list_roundC {l₀ n : Nat} {P : Program} {ops : Array Oper} {Q : Exit → Act → World → Prop} (hL : ¬ LetsOut Q) : ∀ (l : List Oper) (a : Act) (w : World), (∀ o ∈ l, ∀ c, o.op ≠ .defer c) → wpList P ops Q l a w → wpListIn (Fence.wide.inRound l₀) n P ops Q l a w
  | [], _, _, _, h => h
  | o :: rest, a, w, hd, h => by
    have hd' : ∀ o ∈ rest, ∀ c, o.op ≠ .defer c := fun o ho => hd o (List.mem_cons_of_mem _ ho)
    unfold wpList at h
    unfold wpListIn
    by_cases hw : Region.wanted o (yielded ops a.tmps) = true
    · rw [if_pos hw] at h ⊢
      rcases h with h | h
      · exact op_round (hd o List.mem_cons_self) (Oper.wp_mono (fun a' w' => list_roundC hL rest a' w' hd') h)
      · exact absurd h.2 hL
    · rw [if_neg hw] at h ⊢
      exact ⟨fun _ _ => trivial, list_roundC hL rest _ _ hd' h⟩
theorem region_seq_roundC {l₀ n id : Nat} {P : Program} {l : List Oper} {Q : Exit → Act → World → Prop} {a : Act} {w : World} (hL : ¬ LetsOut Q) (hd : noDefer l.toArray = true) (h : wpList P l.toArray Q l a w) : (Code.region id l.toArray false).wpIn (Fence.wide.inRound l₀) n P Q a w :=
  wpIn_region_lit (list_roundC hL l a w (fun o ho => by
    obtain ⟨i, hi⟩ := List.getElem?_of_mem ho
    exact noDefer_spec hd (i := i) (by simpa using hi)) h)
theorem letsOut_thenC {K : Act → World → Prop} {Q : Exit → Act → World → Prop} (h : ¬ LetsOut Q) : ¬ LetsOut (Exit.then K Q) := fun ⟨a, w, e⟩ => h ⟨a, w, e⟩
theorem row_own {N e sz n M : Nat} {x y : World} {v : Value} {xs : List Value} {row : Option Nat} (h : x.ownsRow N e sz v n xs) (hg : x.grownBy y row) (hr : ∀ r, row = some r → M ≤ r ∧ ∃ o : Obj, x.heap[r]? = some o ∧ o.isCells = false) : y.ownsRow N e sz v n xs := by
  refine ⟨h.1, ?_⟩
  rcases h.2 with h' | ⟨g, cap, cur, rfl, a1, a2, a3⟩
  · exact .inl h'
  · refine .inr ⟨g, cap, cur, rfl, a1, (hg.block g (Array.getElem?_eq_some_iff.1 a2).1 (fun e => ?_)).trans a2, a3⟩
    obtain ⟨-, o, ho, hc⟩ := hr g e.symm
    rw [a2] at ho
    cases ho
    cases hc
theorem own_slV {N e sz n : Nat} {x : World} {v : Value} {xs : List Value} (h : x.ownsRow N e sz v n xs) : ∃ q : SlV, v = slV q ∧ q.2.1 = n := by
  rcases h.2 with ⟨rfl, rfl⟩ | ⟨g, cap, cur, rfl, -⟩
  · exact ⟨(none, 0, 0), rfl, rfl⟩
  · exact ⟨(_, _, _), rfl, rfl⟩
/-- A store into a box leaves rows of other elements. -/
theorem own_setB {N e sz n B : Nat} {x : World} {v : Value} {xs C : List Value} {t : TypeId} (h : x.ownsRow N e sz v n xs) (hB : RowC x B t C) (hne : e ≠ t) (j : Nat) (u : Value) : (x.setCell ⟨B, j, none⟩ u).ownsRow N e sz v n xs := h.kept (grownBy_setCellJ x B j u) (.inr (row_ne h hB hne))
set_option maxRecDepth 100000 in
theorem load_int1 {x : World} {B : Nat} {z : Int} (h : RowC x B 3 [.int .i64 z]) : (loadVar 3 ⟨B, 0, none⟩).run Tryz.prog x = .ok (.int .i64 z) x := by
  have c := h.cell 0 _ rfl
  simp [go_sem, c]
set_option maxRecDepth 100000 in
theorem load_bool1 {x : World} {B : Nat} {z : Bool} (h : RowC x B 4 [.bool z]) : (loadVar 4 ⟨B, 0, none⟩).run Tryz.prog x = .ok (.bool z) x := by
  have c := h.cell 0 _ rfl
  simp [go_sem, c]
theorem hiOf_all (l : List SN) : hiOf l (l.length : Int) = l.length := by unfold hiOf; rw [if_neg (by omega)]
theorem loOf_zero : loOf 0 = 0 := rfl
end Go.Proofs.YtfihpljgbghogaaGreat

/- The developers' range function over a set's numbers has its contract: each number comes, ascending; Count. -/
namespace Go.Proofs.YtfihpljgbghogaaGreat
open Go.RowKit Go.Shelf
set_option linter.unusedVariables false

attribute [local go_sem] Oper.semAt_some

theorem all_eq_to (bs : List Int) (k : Nat) (h : k ≤ bs.length) : allB (bs.take k) = allTo bs (8 * k) := by
  unfold allB allTo
  rw [List.length_take, Nat.min_eq_left h]
  apply List.filter_congr
  intro i hi
  exact bitAt_take bs k i (List.mem_range.1 hi)
theorem allTo_prefix (bs : List Int) (i m : Nat) : allTo bs i <+: allTo bs (i + m) := by
  unfold allTo
  rw [List.range_add, List.filter_append]
  exact List.prefix_append _ _
theorem all_take_prefix (bs : List Int) (k : Nat) (h : k ≤ bs.length) : allB (bs.take k) <+: allB bs := by
  obtain ⟨m, hm⟩ := Nat.exists_eq_add_of_le h
  rw [all_eq_to bs k h, ← allTo_all, hm, Nat.mul_add]
  exact allTo_prefix _ _ _

set_option maxRecDepth 100000 in
set_option maxHeartbeats 1000000 in
/-- The set is boxed; the function value holds the box. -/
theorem numbers_in (F : Fence) (n : Nat) (hf : F.fn 115) (hro : F.round = none) (a : Option Addr) (len cap : Nat) (w : World) :
    CallsIn F n Tryz.prog 115 #[.slice a len cap] w fun e w' => e = .returned (.func (.func 127) #[] #[.pointer (some ⟨w.heap.size, 0, none⟩)]) ∧ w' = w.alloc (.cells #[.slice a len cap] 31) := by
  refine callsIn_of_wp Tryz.func115 rfl hf ?_ hro
  simp only [Tryz.ntmps115, List.size_toArray, List.length_cons, List.length_nil, Nat.reduceAdd, Nat.reduceSub, Array.replicate_succ, Array.replicate_zero, List.push_toArray, List.append_toArray, List.nil_append, List.cons_append]
  gi_wp2
  go_ret
  exact ⟨rfl, rfl⟩

set_option maxRecDepth 100000 in
set_option maxHeartbeats 4000000 in
theorem numbers1_in (n : Nat) (hn : 1 ≤ n) (l Bs n₀ len cap : Nat) (a : Option Addr) (zs : List Int) (hz : zs.length = len) (hb : IsBytes zs) (hmax : len ≤ 100000)
    (J Jx : List Nat → World → Prop)
    (hY : ∀ (pre : List Nat) (x : Nat) W, J pre W → pre.length < (allB zs).length → YieldAt Fence.wide (n - 1) Tryz.prog l #[.int .i64 (x : Int)] W fun e W' =>
      (e = .returned (.bool true) ∧ J (pre ++ [x]) W' ∧ Below n₀ W W') ∨ (e = .returned (.bool false) ∧ Jx (pre ++ [x]) W'))
    (W : World) (hBs : W.cell? ⟨Bs, 0, none⟩ = some (.slice a len cap)) (hc : len = 0 ∨ ∃ b off, a = some ⟨b, off, none⟩ ∧ b < n₀ ∧ ∀ j, j < len → W.cell? ⟨b, off + j, none⟩ = some (.int .u8 (zs[j]?.getD 0))) (h0 : J [] W) :
    CallsIn Fence.wide n Tryz.prog 127 #[.func (.yield l) #[] #[], .pointer (some ⟨Bs, 0, none⟩)] W fun e W' => (∃ v, e = .returned v) ∧
      ((∃ ys, ys = allB zs ∧ J ys W') ∨ (∃ pre, pre <+: allB zs ∧ Jx pre W')) := by
  have HC := Lib.hid hc
  have HM := Lib.hid hmax
  have HZ := Lib.hid hz
  have HBy := Lib.hid hb
  clear hc hmax hz hb
  refine callsIn_of_wp Tryz.func127 rfl trivial ?_ rfl
  simp only [Tryz.ntmps127, List.size_toArray, List.length_cons, List.length_nil, Nat.reduceAdd, Nat.reduceSub, Array.replicate_succ, Array.replicate_zero, List.push_toArray, List.append_toArray, List.nil_append, List.cons_append]
  gi_wp2
  gi_loopw [7] (fun i wr => ∃ k : Nat, k ≤ len ∧ i = .int .i64 k ∧ J (allB (zs.take k)) wr ∧ Below n₀ W wr)
    (fun i _ => len - (intOf i).toNat)
  case atStart => exact ⟨0, Nat.zero_le _, rfl, by simpa [allB] using h0, Below.refl _ _⟩
  case round =>
    obtain ⟨k, hk, rfl, hJs, hnx⟩ := hrel
    by_cases hlt : k < len
    · obtain ⟨b, off, rfl, hb, hcs⟩ : ∃ b off, a = some ⟨b, off, none⟩ ∧ b < n₀ ∧ ∀ j, j < len → W.cell? ⟨b, off + j, none⟩ = some (.int .u8 (zs[j]?.getD 0)) := by
        rcases HC.out with h | h
        · omega
        · exact h
      obtain ⟨x, hx, hx8⟩ := byte_of zs HBy.out k
      have hcx : wr.cell? ⟨b, off + k, none⟩ = some (.int .u8 (x : Int)) := by rw [hnx.cell (p := ⟨b, off + k, none⟩) hb, hcs k hlt, hx]
      have hm : len ≤ 100000 := HM.out
      have HT : Hid (allB (zs.take (k + 1)) = allB (zs.take k) ++ (lowB x).map (8 * k + ·)) := by
        show _ = _
        rw [all_take zs k (by rw [HZ.out]; exact hlt), hx, Int.toNat_natCast]
      have HLe : Hid ((allB (zs.take (k + 1))).length ≤ (allB zs).length) := (all_take_prefix zs (k + 1) (by rw [HZ.out]; exact hlt)).length_le
      have HPr : Hid (allB (zs.take (k + 1)) <+: allB zs) := all_take_prefix zs (k + 1) (by rw [HZ.out]; exact hlt)
      have HJ := Lib.hid hJs
      have HX := Lib.hid hnx
      have HLT := Lib.hid hlt
      clear hcs hx hJs hnx
      gi_wp2
      gi_loopw [4] (fun i ws => ∃ r : Nat, ∃ pre, r < 256 ∧ i = .int .u8 (r : Int) ∧ Hid (pre ++ (lowB r).map (8 * k + ·) = allB (zs.take (k + 1))) ∧ Hid (J pre ws) ∧ Hid (Below n₀ W ws)) (fun i _ => (intOf i).toNat)
      case atStart => exact ⟨x, _, hx8, rfl, HT.out.symm, HJ, HX⟩
      case round =>
        obtain ⟨r, pre, hr8, rfl, HP, HJ2, HX2⟩ := hrel
        by_cases hr0 : r = 0
        · subst hr0
          have HJ3 : Hid (J (allB (zs.take (k + 1))) wr) := by
            have := HP.out
            rw [low_zero, List.map_nil, List.append_nil] at this
            rw [← this]; exact HJ2
          gi_wp2
          go_roundw
          case rel => exact ⟨k + 1, HLT.out, by simp, HJ3.out, HX2.out⟩
          case measure => have := HLT.out; simp [intOf]; omega
        · obtain ⟨d, hd⟩ : ∃ d, r &&& (r - 1) = d := ⟨_, rfl⟩
          have hdr : d < r := by rw [← hd]; exact and_pred_lt r hr0
          have hlow := low_next hr8 hr0
          rw [hd] at hlow
          have hc8 := ctz_lt ⟨r, hr8⟩ hr0
          have HTz := Lib.hid (bi_tz r hr8)
          obtain ⟨c, hcz⟩ : ∃ c, ctzN r = c := ⟨_, rfl⟩
          rw [show ctzN r = c from hcz] at hlow
          replace hc8 : c < 8 := by rw [← hcz]; exact hc8
          simp only [hcz] at HTz
          have hp := HP.out
          rw [hlow, List.map_cons] at hp
          have hpl : pre.length < (allB zs).length := by
            have := congrArg List.length hp
            have := HLe.out
            simp at *
            omega
          have HP2 : Hid ((pre ++ [8 * k + c]) ++ (lowB d).map (8 * k + ·) = allB (zs.take (k + 1))) := by
            show _ = _
            rw [← hp]; simp
          obtain ⟨q, hq⟩ : ∃ q : Nat, 8 * k + c = q := ⟨_, rfl⟩
          rw [hq] at HP2
          have hqi : (k : Int) * 8 + (c : Int) = (q : Int) := by omega
          have hand : bits .and .u8 (r : Int) ((r : Int) - 1) = (d : Int) := by
            rw [show (r : Int) - 1 = ((r - 1 : Nat) : Int) from by omega, u8_and_nat r (r - 1) hr8 (by omega), hd]
          obtain ⟨fn, tmps, assign, body, hy, hR⟩ := hY pre q wr HJ2.out hpl
          have hrne : ((r : Int) != 0) = true := by simp; omega
          have hr1 : 1 ≤ (r : Int) := by omega
          clear hlow hp hcz hd hq hpl
          gi_wp2_with (refine ⟨trivial, ?_⟩; gi_at_call 128; refine (callsIn_wide.2 (HTz.out _)).mono ?_; rintro e w' ⟨rfl, rfl⟩)
          refine hR.mono ?_
          rintro e W3 (⟨rfl, hJ3, hk3⟩ | ⟨rfl, hJx3⟩)
          · have HJ3 := Lib.hid hJ3
            have HB3 : Hid (Below n₀ W W3) := HX2.out.trans hk3
            have HD := Lib.hid hdr
            clear hJ3 hk3 hdr
            gi_wp2
            go_roundw
            case rel => exact ⟨d, _, Nat.lt_trans HD.out hr8, rfl, HP2, HJ3, HB3⟩
            case measure => have := HD.out; simp [intOf]; omega
          · have HJ3 := Lib.hid hJx3
            clear hJx3
            gi_wp2
            refine bodyPost_ret (results_none rfl _ _ _) rfl ?_
            refine ⟨⟨_, rfl⟩, .inr ⟨_, ?_, HJ3.out⟩⟩
            exact (List.prefix_append _ _).trans (HP2.out ▸ HPr.out)
    · obtain rfl : k = len := by omega
      gi_wp2
      go_end0
      exact ⟨⟨_, rfl⟩, .inl ⟨_, rfl, by rw [← HZ.out, List.take_length] at hJs; exact hJs⟩⟩

set_option maxRecDepth 100000 in
theorem numbers_stops (n : Nat) (hn : 1 ≤ n) (Bs n₀ len cap : Nat) (a : Option Addr) (zs : List Int) (hz : zs.length = len) (hb : IsBytes zs) (hmax : len ≤ 100000) (w : World) (hBs : Bs < w.heap.size) (hn₀ : n₀ ≤ w.heap.size)
    (hbx : w.cell? ⟨Bs, 0, none⟩ = some (.slice a len cap)) (hc : len = 0 ∨ ∃ b off, a = some ⟨b, off, none⟩ ∧ b < n₀ ∧ ∀ j, j < len → w.cell? ⟨b, off + j, none⟩ = some (.int .u8 (zs[j]?.getD 0))) :
    SeqStopsK Fence.wide n Tryz.prog 127 #[.pointer (some ⟨Bs, 0, none⟩)] (fun x : Nat => #[Value.int .i64 (x : Int)]) (Below n₀) (fun ys => ys = allB zs) (fun pre => pre <+: allB zs) (allB zs).length w := fun l J Jx W hW _ _ hY h0 =>
  numbers1_in n hn l Bs n₀ len cap a zs hz hb hmax J Jx hY W ((hW.cell (p := ⟨Bs, 0, none⟩) hBs).trans hbx)
    (hc.imp id fun ⟨b, off, e, h1, h2⟩ => ⟨b, off, e, h1, fun j hj => ((hW.mono hn₀).cell (p := ⟨b, off + j, none⟩) h1).trans (h2 j hj)⟩) h0

set_option maxRecDepth 100000 in
set_option maxHeartbeats 2000000 in
/-- **Count**. -/
theorem bi_count (v : Value) (bs : List Int) (w : World) (hv : Sl .u8 w v bs) (hb : IsBytes bs) (hlen : bs.length ≤ 100000) :
    Calls Tryz.prog 110 #[v] w fun e w' => e = .returned (.int .i64 ((allB bs).length : Int)) ∧ Below w.heap.size w w' := by
  obtain ⟨a, cap, rfl, hL, hm⟩ := Lies.of_sl hv
  obtain ⟨len, hle⟩ : ∃ len, bs.length = len := ⟨_, rfl⟩
  rw [hle] at hL hlen ⊢
  refine (callsIn_wide (n := 3)).1 ?_
  refine callsIn_of_wp_marks Tryz.func110 rfl trivial ?_ rfl
  simp only [Tryz.ntmps110, List.size_toArray, List.length_cons, List.length_nil, Nat.reduceAdd, Nat.reduceSub, Array.replicate_succ, Array.replicate_zero, List.push_toArray, List.append_toArray, List.nil_append, List.cons_append]
  have HA := Lib.hid hL
  have HR := Lib.hid hb
  have HL := Lib.hid hle
  have HN : Hid ((allB bs).length ≤ 800000) := by show _ ≤ _; have := all_len bs; omega
  clear hL hm hb hle hv
  gi_wp2_with (refine ⟨trivial, ?_⟩; gi_at_call 115; refine (numbers_in _ _ trivial rfl _ _ _ _).mono ?_; rintro e w' ⟨rfl, rfl⟩)
  have bH := Boxed.new w 3 (.int .i64 0)
  have bV := Boxed.new (w.alloc (.cells #[.int .i64 0] 3)) 31 (.slice a len cap)
  rw [World.size_alloc] at bV
  have hB0 : Below w.heap.size w ((w.alloc (.cells #[.int .i64 0] 3)).alloc (.cells #[.slice a len cap] 31)) := ((Below.refl _ w).alloc (Nat.le_refl _) _).alloc (by simp) _
  refine wpIn_rangeFunc_ownF (n := 3) rfl (by omega) (gf := 127) (lb := #[.pointer (some ⟨w.heap.size + 1, 0, none⟩)]) rfl trivial (enters_of Tryz.func127 (by kernel_rfl) rfl)
    (numbers_stops 2 (by omega) (w.heap.size + 1) w.heap.size len cap a bs HL.out HR.out hlen _ (by simp) (by simp; omega) bV.cell
      (HA.out.imp id fun ⟨b, off, e, h1, h2⟩ => ⟨b, off, e, h1, fun j hj => (hB0.cell (p := ⟨b, off + j, none⟩) h1).trans (h2 j hj)⟩)) belowK_t (belowK_b (by simp; omega)) (Below.refl _ _) (fun _ => rfl)
    (fun pre W => Boxed W w.heap.size 3 (.int .i64 (pre.length : Int)) ∧ Below w.heap.size w W)
    (fun _ _ _ => False)
    ?hI (fun _ _ _ _ _ h _ _ => h.elim) ⟨bH.alloc _, hB0⟩ ?a1 ?assign ?body ?done ?stop
  case hI =>
    intro s W W' row ⟨hv, hB⟩ hg hrow
    have hr' : ∀ r, row = some r → ∃ o : Obj, W.heap[r]? = some o ∧ o.isCells = false := fun r e => (hrow r e).2
    exact ⟨boxed_own _ _ (fun _ : Unit => _) () W W' row hv hg hr', ownFrom_below (β := Unit) (Nat.le_refl _) (by simp; omega) () W W' row hB hg hrow⟩
  case assign =>
    intro l x W K hK
    gi_wp2
    exact hK
  case body =>
    rintro l pre x W ⟨hv, hB⟩ hlen2
    have c1 := hv.cell
    have f1 := hv.frozen
    have HV := Lib.hid hv
    have HB := Lib.hid hB
    have hpl : pre.length ≤ 800000 := by have := HN.out; omega
    obtain ⟨p, hp⟩ : ∃ p, pre.length = p := ⟨_, rfl⟩
    have HP : Hid ((pre ++ [x]).length = p + 1) := by show _ = _; simp [hp]
    rw [hp] at c1 hpl
    clear hv hB hlen2 hp
    gi_wp2
    refine ⟨KeepsOthers.setCell _ _ _, (Below.refl w.heap.size W).setCell (p := ⟨w.heap.size, 0, none⟩) (Nat.le_refl _) _, ?_, HB.out.setCell (p := ⟨w.heap.size, 0, none⟩) (Nat.le_refl _) _⟩
    rw [HP.out]
    exact HV.out.set _
  case done =>
    rintro D xs W hD rfl ⟨hv, hB⟩ hK
    have c1 := hv.cell
    have HB := Lib.hid hB
    clear hB
    gi_wp2
    refine ⟨by simp, .inl ⟨_, _, rfl, run_takeDeferred hK, ?_⟩⟩
    exact ⟨_, results_tmp rfl _ _ _, rfl, HB.out.trans (belowK_b (w := w) (Nat.le_refl _) W D _ _ (by simp at hD; omega) hK rfl rfl)⟩
  case stop =>
    rintro D c pre W _ _ h _
    exact h.elim
end Go.Proofs.YtfihpljgbghogaaGreat

/- All: the numbers of a set collected; Good. -/
namespace Go.Proofs.YtfihpljgbghogaaGreat
open Go.RowKit Go.Shelf
set_option linter.unusedVariables false

attribute [local go_sem] Oper.semAt_some

set_option maxRecDepth 100000 in
theorem info_int' : (Tryz.prog.info? 3).map (fun i => (i.zero, i.size, i.bytes)) = some (some (.int .i64 0), 1, 8) := by kernel_rfl
def natV (l : List Nat) : List Value := l.map fun k : Nat => Value.int .i64 (k : Int)
theorem natV_snoc (l : List Nat) (x : Nat) : natV (l ++ [x]) = natV l ++ [.int .i64 (x : Int)] := by simp [natV]
theorem natV_ints (l : List Nat) : natV l = (l.map (fun k : Nat => (k : Int))).map (Value.int .i64) := by simp [natV]
theorem cell_new1 (W : World) (v : Value) (t : TypeId) : ∀ j u, [v][j]? = some u → (W.alloc (.cells #[v] t)).cell? ((⟨W.heap.size, 0, none⟩ : Addr).add j) = some u := by
  intro j u hj
  have h0 : j = 0 := by
    have := (List.getElem?_eq_some_iff.1 hj).1
    simpa using this
  subst h0
  obtain rfl : v = u := by simpa using hj
  have e0 : (⟨W.heap.size, 0, none⟩ : Addr).add 0 = ⟨W.heap.size, 0, none⟩ := by simp [Addr.add]
  rw [e0, cell_of_row _ _ _ _ _ _ (World.alloc_heap_new W _)]
  rfl

set_option maxRecDepth 100000 in
theorem load_bool {w : World} {B : Nat} {b : Bool} (h : w.cell? ⟨B, 0, none⟩ = some (.bool b)) : (loadVar 4 ⟨B, 0, none⟩).run Tryz.prog w = .ok (.bool b) w := by simp [go_sem, h]
theorem good_yes {bs : List Int} {n : Int} (h1 : bs.length = sizeB n) (h2 : ∀ y ∈ allB bs, (y : Int) < n) : goodB bs n = true := by
  unfold goodB
  rw [decide_eq_true h1, Bool.true_and, List.all_eq_true]
  exact fun y hy => decide_eq_true (h2 y hy)
theorem good_no1 {bs : List Int} {n : Int} (h1 : bs.length ≠ sizeB n) : goodB bs n = false := by
  unfold goodB
  rw [decide_eq_false h1, Bool.false_and]
theorem good_no2 {bs : List Int} {n : Int} {y : Nat} (h : y ∈ allB bs) (h2 : n ≤ (y : Int)) : goodB bs n = false := by
  unfold goodB
  have : (allB bs).all (fun i => decide ((i : Int) < n)) = false := by
    rw [List.all_eq_false]
    exact ⟨y, h, by simp; omega⟩
  rw [this, Bool.and_false]

set_option maxRecDepth 100000 in
set_option maxHeartbeats 2000000 in
/-- **Good**. -/
theorem bi_good (v : Value) (bs : List Int) (n : Int) (w : World) (hv : Sl .u8 w v bs) (hb : IsBytes bs) (hlen : bs.length ≤ 100000) :
    Calls Tryz.prog 108 #[v, .int .i64 n] w fun e w' => e = .returned (.bool (goodB bs n)) ∧ Below w.heap.size w w' := by
  obtain ⟨a, cap, rfl, hL, hm⟩ := Lies.of_sl hv
  obtain ⟨len, hle⟩ : ∃ len, bs.length = len := ⟨_, rfl⟩
  rw [hle] at hL hlen ⊢
  have HA := Lib.hid hL
  have HR := Lib.hid hb
  have HL := Lib.hid hle
  have HS := fun W => Lib.hid (bi_size n W)
  obtain ⟨s, hs⟩ : ∃ s, sizeB n = s := ⟨_, rfl⟩
  have HSZ := Lib.hid hs
  simp only [hs] at HS
  have HLN := Lib.hid hlen
  clear hL hm hb hle hv hs hlen
  have bN := Boxed.new w 3 (.int .i64 n)
  obtain ⟨W0, hW0⟩ : ∃ W0, (w.alloc (.cells #[.int .i64 n] 3)).alloc (.cells #[.bool false] 4) = W0 := ⟨_, rfl⟩
  obtain ⟨B, hB⟩ : ∃ B, w.heap.size = B := ⟨_, rfl⟩
  have b0 : Boxed W0 B 3 (.int .i64 n) := by rw [← hW0, ← hB]; exact bN.alloc _
  have b1 : Boxed W0 (B + 1) 4 (.bool false) := by
    rw [← hW0, ← hB]
    have := Boxed.new (w.alloc (.cells #[.int .i64 n] 3)) 4 (.bool false)
    rwa [World.size_alloc] at this
  have hB0 : Below B w W0 := by rw [← hW0, ← hB]; exact ((Below.refl _ w).alloc (Nat.le_refl _) _).alloc (by simp) _
  have hsz : W0.heap.size = B + 2 := by rw [← hW0, ← hB]; simp
  have HB0 := Lib.hid hB0
  clear bN hB0
  subst hB
  by_cases h : len = s
  · have hne : ((len : Int) != (s : Int)) = false := by simp; omega
    have HQ : Hid (bs.length = sizeB n) := by show _ = _; rw [HL.out, HSZ.out, h]
    clear h
    refine (callsIn_wide (n := 3)).1 ?_
    refine callsIn_of_wp_marks Tryz.func108 rfl trivial ?_ rfl
    simp only [Tryz.ntmps108, List.size_toArray, List.length_cons, List.length_nil, Nat.reduceAdd, Nat.reduceSub, Array.replicate_succ, Array.replicate_zero, List.push_toArray, List.append_toArray, List.nil_append, List.cons_append]
    have c0 := b0.cell
    have c1 := b1.cell
    have f1 := b1.frozen
    gi_wp2_with (refine ⟨trivial, ?_⟩; gi_at_call 59; refine (callsIn_wide.2 (HS _).out).mono ?_; rintro e w' ⟨rfl, hw'⟩; obtain rfl := hw'.symm)
    gi_wp2_with (refine ⟨trivial, ?_⟩; gi_at_call 115; refine (numbers_in _ _ trivial rfl _ _ _ _).mono ?_; rintro e w' ⟨rfl, rfl⟩)
    have bV := Boxed.new W0 31 (.slice a len cap)
    rw [hsz] at bV
    have hB1 : Below w.heap.size w (W0.alloc (.cells #[.slice a len cap] 31)) := HB0.out.alloc (by omega) _
    have hl0 := (HA.out.imp id fun ⟨b, off, e, h1, h2⟩ => ⟨b, off, e, h1, fun j hj => (hB1.cell (p := ⟨b, off + j, none⟩) h1).trans (h2 j hj)⟩ : len = 0 ∨ ∃ b off, a = some ⟨b, off, none⟩ ∧ b < w.heap.size ∧ ∀ j, j < len → (W0.alloc (.cells #[.slice a len cap] 31)).cell? ⟨b, off + j, none⟩ = some (.int .u8 (bs[j]?.getD 0)))
    clear c0 c1 f1 hW0
    refine wpIn_rangeFunc_ownF (n := 3) rfl (by omega) (gf := 127) (lb := #[.pointer (some ⟨w.heap.size + 2, 0, none⟩)]) rfl trivial (enters_of Tryz.func127 (by kernel_rfl) rfl)
      (numbers_stops 2 (by omega) (w.heap.size + 2) w.heap.size len cap a bs HL.out HR.out HLN.out _ (by simp; omega) (by simp; omega) bV.cell hl0) belowK_t (belowK_b (by simp; omega)) (Below.refl _ _) (fun _ => rfl)
      (fun pre W => Boxed W w.heap.size 3 (.int .i64 n) ∧ Boxed W (w.heap.size + 1) 4 (.bool false) ∧ Below w.heap.size w W ∧ ∀ y ∈ pre, (y : Int) < n)
      (fun c pre W => c = .ret ∧ Boxed W (w.heap.size + 1) 4 (.bool false) ∧ Below w.heap.size w W ∧ ∃ y ∈ pre, n ≤ (y : Int))
      ?hI ?hIx ⟨b0.alloc _, b1.alloc _, hB1, fun y hy => by cases hy⟩ ?a1 ?assign ?body ?done ?stop
    case hI =>
      intro s X Y row ⟨h1, h2, h3, h4⟩ hg hr
      exact ⟨boxed_own _ _ (fun _ : Unit => _) () X Y row h1 hg (fun r e => (hr r e).2), boxed_own _ _ (fun _ : Unit => _) () X Y row h2 hg (fun r e => (hr r e).2), ownFrom_below (β := Unit) (by omega) (by simp; omega) () X Y row h3 hg hr, h4⟩
    case hIx =>
      intro c s X Y row ⟨h1, h2, h3, h4⟩ hg hr
      exact ⟨h1, boxed_own _ _ (fun _ : Unit => _) () X Y row h2 hg (fun r e => (hr r e).2), ownFrom_below (β := Unit) (by omega) (by simp; omega) () X Y row h3 hg hr, h4⟩
    case assign =>
      intro l x W K hK
      gi_wp2
      exact hK
    case body =>
      rintro l pre x W ⟨h1, h2, h3, h4⟩ hlen2
      have d1 := h1.cell
      have d2 := h2.cell
      have g2 := h2.frozen
      have H1 := Lib.hid h1
      have H2 := Lib.hid h2
      have H3 := Lib.hid h3
      have H4 := Lib.hid h4
      clear h1 h2 h3 h4 hlen2
      by_cases q : n ≤ (x : Int)
      · have q1 : decide (n ≤ (x : Int)) = true := decide_eq_true q
        have HQx := Lib.hid q
        gi_wp2
        exact ⟨KeepsOthers.setCell _ _ _, rfl, H2.out.set _, H3.out.setCell (p := ⟨w.heap.size + 1, 0, none⟩) (by simp) _, x, by simp, HQx.out⟩
      · have q1 : decide (n ≤ (x : Int)) = false := decide_eq_false q
        have HQx : Hid ((x : Int) < n) := Int.not_le.1 q
        gi_wp2
        refine ⟨KeepsOthers.refl _, Below.refl _ _, H1.out, H2.out, H3.out, fun y hy => ?_⟩
        rcases List.mem_append.1 hy with hy | hy
        · exact H4.out y hy
        · rw [List.mem_singleton.1 hy]; exact HQx.out
    case done =>
      rintro D xs W hD rfl ⟨h1, h2, h3, h4⟩ hK
      have d2 := h2.cell
      have g2 := h2.frozen
      have HE := Lib.hid (good_yes HQ.out h4)
      have H2 := Lib.hid h2
      have H3 := Lib.hid h3
      have HK := Lib.hid hK
      clear h1 h2 h3 h4 hK
      gi_wp2
      have hb2 := H2.out.set (.bool true)
      have hK2 : (W.setCell ⟨w.heap.size + 1, 0, none⟩ (.bool true)).heap[D]? = some (.deferred (some [])) := by
        rw [Below.heap_setCell _ _ _ _ (by simp at hD ⊢; omega)]; exact HK.out
      refine ⟨by simp, .inl ⟨_, _, rfl, run_takeDeferred hK2, ?_⟩⟩
      have hg2 := grownBy_putObj' (W.setCell ⟨w.heap.size + 1, 0, none⟩ (.bool true)) D (.deferred none)
      have hb3 := boxed_own _ _ (fun _ : Unit => _) () _ _ _ hb2 hg2 (fun r e => by cases e; exact ⟨_, hK2, rfl⟩)
      refine ⟨_, results_cell rfl rfl (load_bool hb3.cell), by rw [HE.out], ?_⟩
      exact (H3.out.setCell (p := ⟨w.heap.size + 1, 0, none⟩) (by simp) _).trans (belowK_b (w := w) (Nat.le_refl _) _ D _ _ (by simp at hD; omega) hK2 rfl rfl)
    case stop =>
      rintro D c pre W hD hpre ⟨rfl, h2, h3, y, hy, hyn⟩ hK
      have HE := Lib.hid (good_no2 (hpre.subset hy) hyn)
      have H2 := Lib.hid h2
      have H3 := Lib.hid h3
      have HK := Lib.hid hK
      clear h2 h3 hK hy hyn hpre
      gi_wp2
      refine ⟨by simp, .inl ⟨_, _, rfl, run_takeDeferred HK.out, ?_⟩⟩
      have hg2 := grownBy_putObj' W D (.deferred none)
      have hb3 := boxed_own _ _ (fun _ : Unit => _) () _ _ _ H2.out hg2 (fun r e => by cases e; exact ⟨_, HK.out, rfl⟩)
      refine ⟨_, results_cell rfl rfl (load_bool hb3.cell), by rw [HE.out], ?_⟩
      exact H3.out.trans (belowK_b (w := w) (Nat.le_refl _) W D _ _ (by simp at hD; omega) HK.out rfl rfl)
  · have hne : ((len : Int) != (s : Int)) = true := by simp; omega
    rw [good_no1 (by rw [HL.out, HSZ.out]; exact h)]
    have c0 := b0.cell
    have c1 := b1.cell
    have f1 := b1.frozen
    clear h
    go_enter Tryz.func108, Tryz.ntmps108
    go_wp2_with (go_at_call 59; refine (HS _).out.mono ?_; rintro e w' ⟨rfl, hw'⟩; obtain rfl := hw'.symm)
    refine bodyPost_ret (results_cell rfl rfl (load_bool (b1.set (.bool false)).cell)) rfl ⟨rfl, ?_⟩
    exact HB0.out.setCell (p := ⟨w.heap.size + 1, 0, none⟩) (by simp) _
end Go.Proofs.YtfihpljgbghogaaGreat

/- The document's own bits: New, Has, With, Or, All, Good. -/
namespace Go.Proofs.YtfihpljgbghogaaGreat
open Go.RowKit Go.Shelf
set_option linter.unusedVariables false
attribute [local go_sem] Oper.semAt_some

theorem shr_bit (y j : Nat) (hy : y < 256) : (bits BinOp.and IntKind.u8 ((y : Int) / 2 ^ j) 1 == 1) = y.testBit j := by
  have e : (y : Int) / 2 ^ j = ((y / 2 ^ j : Nat) : Int) := by simp
  have hlt : y / 2 ^ j < 256 := Nat.lt_of_le_of_lt (Nat.div_le_self _ _) hy
  rw [e, show (1 : Int) = ((1 : Nat) : Int) from rfl, u8_and_nat _ 1 hlt (by decide), nat_mask1, Nat.testBit_eq_decide_div_mod_eq, Bool.eq_iff_iff]
  simp only [beq_iff_eq, decide_eq_true_eq]
  omega

theorem wf_i64 {n : Int} (h0 : -9223372036854775808 ≤ n) (h1 : n ≤ 9223372036854775807) : (Lit.int .i64 n).wf = true := by
  have e1 : IntKind.i64.min = -9223372036854775808 := by decide
  have e2 : IntKind.i64.max = 9223372036854775807 := by decide
  simp [Lit.wf]
  omega
theorem own_block {w : World} {base e n s : Nat} {v : Value} {xs : List Value} (h : w.ownsRow base e s v n xs) : ∀ k, v.ownBlock = some k → base ≤ k := by
  intro k hk
  rcases h.2 with ⟨rfl, _⟩ | ⟨g, cap, cur, rfl, h1, _⟩
  · cases hk
  · cases hk; exact h1

section
set_option maxRecDepth 100000
set_option maxHeartbeats 2000000
set_option maxRecDepth 100000 in
theorem rf_new (n : Int) (hn : (Lit.int .i64 n).wf = true) (w : World) : Calls Tryz.prog 28 #[.int .i64 n] w fun e w' => ∃ v, e = .returned v ∧ Sl .u8 w' v (List.replicate (sizeB n) 0) ∧ Below w.heap.size w w' := by
  obtain ⟨i0, hi, hz0, hz1, hz2⟩ := info_parts info_u8
  obtain ⟨s, hs⟩ : ∃ s, sizeB n = s := ⟨_, rfl⟩
  have HS := Lib.hid hs
  rw [hs]
  clear hs hn
  by_cases h1 : n < 1
  · have e : s = 0 := by rw [← HS.out, sizeB, if_pos (.inl h1)]
    subst e
    go_enter Tryz.func28, Tryz.ntmps28
    go_wp2
    go_ret
    exact ⟨_, rfl, Sl.nil _ _, Below.refl _ _⟩
  · by_cases h2 : 4096 < n
    · have e : s = 0 := by rw [← HS.out, sizeB, if_pos (.inr h2)]
      subst e
      go_enter Tryz.func28, Tryz.ntmps28
      go_wp2
      go_ret
      exact ⟨_, rfl, Sl.nil _ _, Below.refl _ _⟩
    · have e : (n + 7) / 8 = (s : Int) := by rw [← HS.out, sizeB, if_neg (by omega)]; omega
      have hs : s ≤ 512 := by omega
      go_enter Tryz.func28, Tryz.ntmps28
      go_wp2_with (at_make; refine wpList_make_full _ rfl _ _ 31 rfl w.heap.size 5 i0 (.int .u8 0) 1 Tryz.underlying31 hi hz0 hz1 .i64 .i64 _ _ s rfl rfl e e (by rw [hz2]; omega) (by unfold maxLen; omega) (by simp) ?_; intro w1 hown1 hgrow1)
      go_ret
      refine ⟨_, rfl, ?_, (Below.refl _ w).grown hgrow1 (Nat.le_refl _) (fun k e => by cases e)⟩
      rw [show (Value.int .u8 0).cells = #[.int .u8 0] from rfl, toList_madeCells_one, Nat.mul_one] at hown1
      exact Sl.of_owns (bs := List.replicate s 0) (by rw [List.length_replicate, List.map_replicate]; exact hown1)

set_option maxRecDepth 100000 in
theorem rf_has (v : Value) (bs : List Int) (i : Int) (hi : (Lit.int .i64 i).wf = true) (w : World) (hv : Sl .u8 w v bs) (hb : IsBytes bs) :
    Calls Tryz.prog 90 #[v, .int .i64 i] w fun e w' => e = .returned (.bool (hasB bs i)) ∧ w' = w := by
  obtain ⟨a, cap, rfl, hcc, hcm, hl, -⟩ := hv
  obtain ⟨L, hL⟩ : ∃ L, bs.length = L := ⟨_, rfl⟩
  have HL := Lib.hid hL
  have HR := Lib.hid (i64_bd hi)
  rw [hL] at hcc ⊢
  clear hL hi
  by_cases h : 0 ≤ i ∧ i / 8 < (L : Int)
  · obtain ⟨n, rfl⟩ := Int.eq_ofNat_of_zero_le h.1
    obtain ⟨x, hx⟩ : ∃ x, bs[n / 8]?.getD 0 = x := ⟨_, rfl⟩
    obtain ⟨k, hk⟩ : ∃ k, n / 8 = k := ⟨_, rfl⟩
    have hn : k < L := by omega
    obtain ⟨y, rfl, hy8⟩ : ∃ y : Nat, x = (y : Int) ∧ y < 256 := by
      obtain ⟨y, h1, h2⟩ := byte_of bs hb (n / 8)
      exact ⟨y, by rw [← hx, h1], h2⟩
    obtain ⟨b, o, rfl, hbw, hcs⟩ : ∃ b o, a = some ⟨b, o, none⟩ ∧ b < w.heap.size ∧ ∀ j, j < bs.length → w.cell? ⟨b, o + j, none⟩ = some (.int .u8 (bs[j]?.getD 0)) := by
      rcases hl with h | h
      · have := HL.out; rw [h] at this; simp at this; omega
      · exact h
    have c1 : w.cell? ⟨b, o + k, none⟩ = some (.int .u8 (y : Int)) := by
      rw [hcs k (by rw [HL.out]; exact hn), ← hk, hx]
    have hq : (n : Int) / 8 = (k : Int) := by omega
    have hres : hasB bs (n : Int) = y.testBit (n % 8) := by
      rw [has_nat]; unfold bitAt; rw [hx, Int.toNat_natCast]
    obtain ⟨r, hr⟩ : ∃ r, hasB bs (n : Int) = r := ⟨_, rfl⟩
    rw [hr] at hres ⊢
    have HRs := Lib.hid hres
    have hkL : (k : Int) < (L : Int) := by omega
    have hk0 : (k : Int) ≤ 1152921504606846975 := by have := HR.out; omega
    clear hx hk hn hcs hl h hb hres hr
    go_enter Tryz.func90, Tryz.ntmps90
    go_wp2
    go_ret
    refine ⟨congrArg (fun b => Ending.returned (Value.bool b)) ?_, rfl⟩
    rw [HRs.out]
    exact shr_bit y (n % 8) hy8
  · have hres : hasB bs i = false := by
      unfold hasB
      by_cases h0 : 0 ≤ i
      · have : bitAt bs i.toNat = false := by
          rw [Bool.eq_false_iff]; intro hh
          have := bit_in hh
          rw [HL.out] at this; omega
        rw [this, Bool.and_false]
      · rw [decide_eq_false h0, Bool.false_and]
    rw [hres]
    by_cases h0 : 0 ≤ i
    · obtain ⟨n, rfl⟩ := Int.eq_ofNat_of_zero_le h0
      obtain ⟨k, hk⟩ : ∃ k, (n : Int) / 8 = k := ⟨_, rfl⟩
      have hk2 : (L : Int) ≤ k := by omega
      have hk0 : (k : Int) ≤ 1152921504606846975 := by have := HR.out; omega
      have hk1 : 0 ≤ k := by omega
      have hlt : decide (k < (L : Int)) = false := decide_eq_false (by omega)
      clear hres hl h hb hk2
      go_enter Tryz.func90, Tryz.ntmps90
      go_wp2
      go_ret
      exact ⟨rfl, rfl⟩
    · clear hres hl h hb
      go_enter Tryz.func90, Tryz.ntmps90
      go_wp2
      go_ret
      exact ⟨rfl, rfl⟩

set_option maxRecDepth 100000 in
theorem rf_all (v : Value) (bs : List Int) (w : World) (hv : Sl .u8 w v bs) (hb : IsBytes bs) (hlen : bs.length ≤ 100000) :
    Calls Tryz.prog 91 #[v] w fun e w' => ∃ v', e = .returned v' ∧ w'.ownsRow w.heap.size 3 1 v' (allB bs).length (natV (allB bs)) ∧ Below w.heap.size w w' := by
  obtain ⟨i0, hi, hz0, hz1, hz2⟩ := info_parts info_int'
  have HV := Lib.hid hv
  obtain ⟨a, cap, rfl, _⟩ := hv
  obtain ⟨L, hL⟩ : ∃ L, bs.length = L := ⟨_, rfl⟩
  have HL := Lib.hid hL
  have HBs := Lib.hid hb
  rw [hL] at hlen HV ⊢
  clear hL hb
  go_enter Tryz.func91, Tryz.ntmps91
  go_wp2
  go_loopw [3, 4] (fun v i wr => ∃ k : Nat, k ≤ 8 * L ∧ i = .int .i64 (k : Int) ∧ Hid (wr.ownsRow w.heap.size 3 1 v (allTo bs k).length (natV (allTo bs k))) ∧ Hid (Below w.heap.size w wr)) (fun _ i _ => 8 * L - (intOf i).toNat)
  case atStart => exact ⟨0, Nat.zero_le _, rfl, World.ownsRow_nil _ _ _ _, Below.refl _ _⟩
  case round =>
    obtain ⟨k, hk, rfl, HO, HW⟩ := hrel
    by_cases hlt : k < 8 * L
    · have HH := Lib.hid (rf_has (.slice a L cap) bs (k : Int) (wf_i64 (by omega) (by omega)) wr (HV.out.below HW.out) HBs.out)
      rw [has_nat] at HH
      have HLT := Lib.hid hlt
      have hk8 : (k : Int) < 8 * (L : Int) := by omega
      have hkm : k ≤ 800000 := by omega
      have hlen2 : (allTo bs k).length ≤ 800000 := Nat.le_trans (allTo_len bs k) hkm
      obtain ⟨t, ht⟩ : ∃ t, bitAt bs k = t := ⟨_, rfl⟩
      rw [ht] at HH
      have HT : Hid (allTo bs (k + 1) = allTo bs k ++ if t then [k] else []) := by show _ = _; rw [allTo_succ, ht]
      have ho := HO.out
      clear hlt ht
      cases t with
      | true =>
        go_wp2_with (first | (go_at_call 90; refine HH.out.mono ?_; rintro e w' ⟨rfl, hw'⟩; obtain rfl := hw'.symm) | (at_builtin; refine wpList_append_own _ rfl _ _ 24 rfl w.heap.size 3 i0 (.int .i64 0) 1 8 Tryz.underlying24 hi hz0 hz1 hz2 rfl (by decide) _ _ _ rfl (ho.alloc _) ⟨wr.heap.size, 0, none⟩ 1 1 [.int .i64 (k : Int)] rfl rfl (cell_new1 _ _ _) (by simp [Value.oneCell']) (by unfold maxLen; omega) (by omega) (by have := HW.out.size; simp; omega) ?_; intro v' w2 hown' hgrow _))
        refine ⟨⟨k + 1, HLT.out, by simp, ?_, (HW.out.alloc HW.out.size _).grown hgrow (by have := HW.out.size; simp; omega) (own_block ho)⟩, by have := HLT.out; simp only [intOf]; omega⟩
        rw [show allTo bs (k + 1) = allTo bs k ++ [k] from by rw [HT.out]; simp, natV_snoc, List.length_append]
        exact hown'
      | false =>
        go_wp2_with (first | (go_at_call 90; refine HH.out.mono ?_; rintro e w' ⟨rfl, hw'⟩; obtain rfl := hw'.symm))
        refine ⟨⟨k + 1, HLT.out, by simp, ?_, HW⟩, by have := HLT.out; simp only [intOf]; omega⟩
        rw [HT.out]
        simpa using HO
    · obtain rfl : k = 8 * L := by omega
      have ho := HO.out
      have hk8 : ¬ (((8 * L : Nat) : Int) < 8 * (L : Int)) := by omega
      clear hk
      go_wp2
      go_ret
      refine ⟨_, rfl, ?_, HW.out⟩
      rw [← allTo_all, HL.out]
      exact ho

set_option maxRecDepth 100000 in
theorem rf9_good (v : Value) (bs : List Int) (n : Int) (hn : (Lit.int .i64 n).wf = true) (w : World) (hv : Sl .u8 w v bs) (hb : IsBytes bs) (hlen : bs.length ≤ 9223372036854775807) :
    Calls Tryz.prog 88 #[v, .int .i64 n] w fun e w' => e = .returned (.bool (goodB bs n)) ∧ Below w.heap.size w w' := by
  have HV := Lib.hid hv
  obtain ⟨a, cap, rfl, _⟩ := hv
  obtain ⟨L, hL⟩ : ∃ L, bs.length = L := ⟨_, rfl⟩
  have HL := Lib.hid hL
  have HBs := Lib.hid hb
  have HN := Lib.hid (rf_new n hn w)
  obtain ⟨s, hs⟩ : ∃ s, sizeB n = s := ⟨_, rfl⟩
  have HSZ := Lib.hid hs
  have HR := Lib.hid (i64_bd hn)
  rw [hL] at hlen HV ⊢
  rw [hs] at HN
  have hs512 : s ≤ 512 := by rw [← hs]; unfold sizeB; split <;> omega
  clear hL hb hs hn
  by_cases h : L = s
  · have hne : ((L : Int) != (s : Int)) = false := by simp; omega
    have hL512 : L ≤ 512 := by omega
    obtain ⟨m, hm⟩ : ∃ m : Nat, n.toNat = m := ⟨_, rfl⟩
    have HM := Lib.hid hm
    have hmax : ∀ (ts : Array TypeId) (t : TypeId) (W : World), (Builtin.max_ ts t #[.int .i64 0, .int .i64 n]).run Tryz.prog W = .ok (.int .i64 (m : Int)) W := fun ts t W => by
      rw [run_max_int2]
      congr 2
      split <;> omega
    have HQ : Hid (bs.length = sizeB n) := by show _ = _; rw [HL.out, HSZ.out, h]
    clear hm h
    go_enter Tryz.func88, Tryz.ntmps88
    go_wp2_with (go_at_call 28; refine HN.out.mono ?_; rintro e w1 ⟨v1, rfl, hs1, hB1⟩; obtain ⟨a1, c1, rfl, hq1, hq2, _⟩ := hs1; rw [List.length_replicate]; have HB1 := Lib.hid hB1; clear hB1)
    go_loopw [5] (fun i wr => ∃ k : Nat, m ≤ k ∧ i = .int .i64 (k : Int) ∧ Hid (∀ j, m ≤ j → j < k → bitAt bs j = false) ∧ Hid (Below w.heap.size w wr)) (fun i _ => 8 * L - (intOf i).toNat)
    case atStart => exact ⟨m, Nat.le_refl _, rfl, fun j h1 h2 => by omega, HB1⟩
    case round =>
      obtain ⟨k, hk, rfl, HO, HW⟩ := hrel
      by_cases hlt : k < 8 * L
      · have HH := Lib.hid (rf_has (.slice a L cap) bs (k : Int) (wf_i64 (by omega) (by omega)) wr (HV.out.below HW.out) HBs.out)
        rw [has_nat] at HH
        have HLT := Lib.hid hlt
        have hk8 : (k : Int) < 8 * (L : Int) := by omega
        have hkm : k ≤ 800000 := by omega
        obtain ⟨t, ht⟩ : ∃ t, bitAt bs k = t := ⟨_, rfl⟩
        have HT := Lib.hid ht
        rw [ht] at HH
        have HK := Lib.hid hk
        clear hlt ht hk
        cases t with
        | true =>
          have HG : Hid (goodB bs n = false) := good_no2 (y := k) (mem_all.2 HT.out) (by have := HM.out; have := HK.out; omega)
          go_wp2_with (first | (go_at_call 90; refine HH.out.mono ?_; rintro e w' ⟨rfl, hw'⟩; obtain rfl := hw'.symm))
          go_ret
          exact ⟨by rw [HG.out]; rfl, HW.out⟩
        | false =>
          go_wp2_with (first | (go_at_call 90; refine HH.out.mono ?_; rintro e w' ⟨rfl, hw'⟩; obtain rfl := hw'.symm))
          refine ⟨⟨k + 1, by have := HK.out; omega, by simp, fun j h1 h2 => ?_, HW⟩, by have := HLT.out; simp only [intOf]; omega⟩
          by_cases e : j = k
          · subst e; exact HT.out
          · exact HO.out j h1 (by omega)
      · have HG : Hid (goodB bs n = true) := by
          refine good_yes HQ.out fun y hy => ?_
          by_cases e : (y : Int) < n
          · exact e
          · exfalso
            have hb1 := mem_all.1 hy
            have hin := bit_in hb1
            rw [HL.out] at hin
            rw [HO.out y (by have := HM.out; omega) (by omega)] at hb1
            cases hb1
        have hk8 : ¬ ((k : Int) < 8 * (L : Int)) := by omega
        go_wp2
        go_ret
        exact ⟨by rw [HG.out]; rfl, HW.out⟩
  · have hne : ((L : Int) != (s : Int)) = true := by simp; omega
    have HG : Hid (goodB bs n = false) := good_no1 (by rw [HL.out, HSZ.out]; exact h)
    clear h
    go_enter Tryz.func88, Tryz.ntmps88
    go_wp2_with (go_at_call 28; refine HN.out.mono ?_; rintro e w1 ⟨v1, rfl, hs1, hB1⟩; obtain ⟨a1, c1, rfl, hq1, hq2, _⟩ := hs1; rw [List.length_replicate]; have HB1 := Lib.hid hB1; clear hB1)
    go_ret
    exact ⟨by rw [HG.out]; rfl, HB1.out⟩

end
end Go.Proofs.YtfihpljgbghogaaGreat

/- Snapshots of one's own: one is stored; what boxes stay. -/
namespace Go.Proofs.YtfihpljgbghogaaGreat
open Go.RowKit Go.Shelf
set_option linter.unusedVariables false

theorem SnO.isSl {N : Nat} {x : World} {v : Value} {l : List SN} (h : SnO N x v l) : ∃ q : SlV, v = slV q ∧ q.2.1 = l.length := by
  obtain ⟨r, a1, a2, a3⟩ := h
  exact own_slV a2
/-- Worlds in which two blocks are as they were. -/
def Kp2 (W : World) (B C : Nat) : Type := {x : World // x.heap[B]? = W.heap[B]? ∧ x.heap[C]? = W.heap[C]?}
instance (W : World) (B C : Nat) : Nonempty (Kp2 W B C) := ⟨⟨W, rfl, rfl⟩⟩
theorem Kp2.fst {W : World} {B C : Nat} {t : TypeId} {c : List Value} (z : Kp2 W B C) (h : RowC W B t c) : RowC z.1 B t c := z.2.1.trans h
end Go.Proofs.YtfihpljgbghogaaGreat

/- The document's own; the helpers Copy and Snaps. -/
namespace Go.Proofs.YtfihpljgbghogaaGreat
open Go.RowKit Go.Shelf
set_option linter.unusedVariables false
set_option linter.unusedSimpArgs false
attribute [-simp] Tryz.isAgg51 Tryz.zeroValue51 Tryz.isAgg54 Tryz.zeroValue54
attribute [-go_sem] loadVar storeVar
attribute [local go_sem] loadVar_openPS storeVar_openPS zero_sn build_sn build_sn2

set_option maxRecDepth 100000 in
theorem slice_u80 (w : World) : (Instr.buildSlice 31 0 #[]).run Tryz.prog w = .ok (.slice (some ⟨w.heap.size, 0, none⟩) 0 0) (w.alloc (.cells #[] 5)) := by kernel_rfl
theorem own_u80 (N : Nat) (w : World) (hN : N ≤ w.heap.size) : (w.alloc (.cells #[] 5)).ownsRow N 5 1 (.slice (some ⟨w.heap.size, 0, none⟩) 0 0) ([] : List Int).length (([] : List Int).map (Value.int .u8)) := World.ownsRow_lit w #[] 0 hN (by simp [maxLen]) rfl
end Go.Proofs.YtfihpljgbghogaaGreat

