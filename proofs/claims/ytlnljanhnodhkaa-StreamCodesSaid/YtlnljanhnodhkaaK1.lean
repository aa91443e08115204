/- The ground of the proofs, part 1. -/
import Derived.WalkKit
import Derived.Laws.BitsAllLaws
import Derived.Below
import Derived.IntWalk
import Derived.Laws.OwnMore
import Derived.Laws.Rows
import Derived.OwnWalk
import Derived.RangeFuncSeq
import Derived.Deep.MidRow
import Derived.Test.YtlnljanhnodhkaaProg
import Derived.Deep.WholeRow
import Derived.ChangeKeysEq
import Derived.Lib.Hide
import Derived.Laws.ResultCell
import Derived.Great.BuildSlice
import Derived.StillTailTactics
import Derived.OrdersIn
import Derived.RangeFuncCalls
import Derived.RangeFuncKeeps
import Derived.RangeFuncBox
import Derived.Laws.CopyOwn
import Derived.TacticsIn
import Derived.OwnWalkIn
import Derived.OrdersHeld
import Derived.StillTail
import Derived.BigQuiet
import Derived.Test.YtlnljanhnodhkaaRows
import Derived.ProofKit
import Derived.OpenShut
import Derived.ShutString
import Derived.ChangeOld
import Derived.Deep.Slices
import Derived.Lib.SmallJoins
import Derived.RangeFuncOwn
import Derived.RangeFuncNested
import Derived.RangeFuncBound
import Derived.Shelf.Abstract
import Derived.Laws.BytesArg
import Derived.Maps.AppendAt
import Derived.WalkMore
import Derived.LoopTactic
import Derived.Lib.AppendZerosOnto
import Derived.Lib.Overlaps
import Derived.RangeFuncLeaves
import Derived.Shelf.RegionOpen
import Derived.TacticsInMore
import Derived.LoopNIn
import Derived.LoopIn
/- Plain facts on numbers and their bytes; no program is named here. -/
namespace Go.Proofs.Ytlnljanhnodhkaa
open Go.RowKit
set_option linter.unusedVariables false

/-- The number that the first k bytes stand for, the lowest first. -/
def getN (bs : List Int) : Nat → Int
  | 0 => 0
  | k + 1 => getN bs k + bs[k]?.getD 0 * 2 ^ (8 * k)

/-- All numbers of a list fit a byte. -/
def IsBytes (bs : List Int) : Prop := ∀ j : Nat, 0 ≤ bs[j]?.getD 0 ∧ bs[j]?.getD 0 < 256

theorem pow_cases (P : Nat → Prop) (h0 : P 0) (h1 : P 1) (h2 : P 2) (h3 : P 3) (h4 : P 4) (h5 : P 5) (h6 : P 6) (h7 : P 7) (k : Nat) (hk : k < 8) : P k := by
  match k, hk with
  | 0, _ => exact h0
  | 1, _ => exact h1
  | 2, _ => exact h2
  | 3, _ => exact h3
  | 4, _ => exact h4
  | 5, _ => exact h5
  | 6, _ => exact h6
  | 7, _ => exact h7

theorem wrap_u64_in (x : Int) (h0 : 0 ≤ x) (h1 : x < 18446744073709551616) : IntKind.u64.wrap x = x := by
  rw [IntKind.wrap_u64]; omega

/-- The number of places of a size. -/
def nPlaces (size : Int) : Nat := if size ≤ 8 then size.toNat else 8
theorem nPlaces_cases (size : Int) : (size ≤ 8 ∧ nPlaces size = size.toNat) ∨ (8 < size ∧ nPlaces size = 8) := by
  unfold nPlaces
  by_cases h : size ≤ 8
  · exact .inl ⟨h, if_pos h⟩
  · exact .inr ⟨by omega, if_neg h⟩
theorem nPlaces_le (size : Int) : nPlaces size ≤ 8 := by unfold nPlaces; split <;> omega
theorem nPlaces_lt {size : Int} {k : Nat} (h : k < nPlaces size) : (k : Int) < size := by unfold nPlaces at h; split at h <;> omega

def getL (bs : List Int) : Int := getN bs (nPlaces (bs.length : Int))

/-- The bytes of a number, of which the first eight count. -/
def putL (n : Int) (size : Nat) : List Int := (List.range size).map fun i => if i < 8 then n / 2 ^ (8 * i) % 256 else 0
theorem putL_length (n : Int) (size : Nat) : (putL n size).length = size := by simp [putL]
theorem putL_get (n : Int) (size j : Nat) (h : j < size) : (putL n size)[j]?.getD 0 = if j < 8 then n / 2 ^ (8 * j) % 256 else 0 := by simp [putL, h]
theorem putL_bytes (n : Int) (size : Nat) : IsBytes (putL n size) := by
  intro j
  by_cases h : j < size
  · rw [putL_get n size j h]; split <;> omega
  · simp [putL, h]
/-- What lies there when some places are written. -/
def putF (n : Int) (size : Nat) {m : Nat} (pre : List (Fin m)) : List Value := (List.range size).map fun i => Value.int .u8 (if pre.any (fun x => x.1 == i) then n / 2 ^ (8 * i) % 256 else 0)
theorem putF_nil (n : Int) (size m : Nat) : putF n size (m := m) [] = List.replicate size (Value.int .u8 0) := by
  unfold putF
  apply List.ext_getElem
  · simp
  · intro i h1 h2; simp
theorem putF_snoc (n : Int) (size m : Nat) (pre : List (Fin m)) (x : Fin m) : putF n size (pre ++ [x]) = (putF n size pre).set x.1 (Value.int .u8 (n / 2 ^ (8 * x.1) % 256)) := by
  unfold putF
  apply List.ext_getElem
  · simp
  · intro i h1 h2
    simp only [List.getElem_map, List.getElem_range, List.getElem_set, List.any_append, List.any_cons, List.any_nil, Bool.or_false]
    by_cases e : x.1 = i
    · subst e; simp
    · rw [if_neg e]
      have : (x.1 == i) = false := by simpa using e
      rw [this, Bool.or_false]
theorem putF_all (n : Int) (size : Nat) : putF n size (List.finRange (nPlaces (size : Int))) = (putL n size).map (Value.int .u8) := by
  unfold putF putL
  rw [List.map_map]
  apply List.map_congr_left
  intro i hi
  have hi' : i < size := by simpa using hi
  have e : (List.finRange (nPlaces (size : Int))).any (fun x => x.1 == i) = decide (i < 8) := by
    rw [Bool.eq_iff_iff]
    simp only [List.any_eq_true, List.mem_finRange, true_and, beq_iff_eq, decide_eq_true_eq]
    constructor
    · rintro ⟨x, rfl⟩
      have := x.2
      have := nPlaces_le (size : Int)
      omega
    · intro h
      exact ⟨⟨i, by unfold nPlaces; split <;> omega⟩, rfl⟩
  simp only [Function.comp, e, decide_eq_true_eq]

/-- What lies there when the first k places are written. -/
def putP (n : Int) (size k : Nat) : List Value := (List.range size).map fun i => Value.int .u8 (if i < k then n / 2 ^ (8 * i) % 256 else 0)
theorem putP_zero (n : Int) (size : Nat) : putP n size 0 = List.replicate size (Value.int .u8 0) := by
  unfold putP
  apply List.ext_getElem
  · simp
  · intro i h1 h2; simp
theorem putP_succ (n : Int) (size k : Nat) : putP n size (k + 1) = (putP n size k).set k (Value.int .u8 (n / 2 ^ (8 * k) % 256)) := by
  unfold putP
  apply List.ext_getElem
  · simp
  · intro i h1 h2
    simp only [List.getElem_map, List.getElem_range, List.getElem_set]
    by_cases e : k = i
    · subst e; simp
    · rw [if_neg e]
      by_cases h : i < k
      · rw [if_pos h, if_pos (by omega)]
      · rw [if_neg h, if_neg (by omega)]
theorem putP_all (n : Int) (size : Nat) : putP n size (nPlaces (size : Int)) = (putL n size).map (Value.int .u8) := by
  unfold putP putL
  rw [List.map_map]
  apply List.map_congr_left
  intro i hi
  have hi' : i < size := by simpa using hi
  have e : (i < nPlaces (size : Int)) ↔ i < 8 := by unfold nPlaces; split <;> omega
  simp only [Function.comp, e]

/-- A number's bytes are the number, as far as they have room. -/
theorem getN_putL (n : Int) (hn : 0 ≤ n) (K : Nat) : ∀ j : Nat, j ≤ K → j ≤ 8 → getN (putL n K) j = n % 2 ^ (8 * j)
  | 0, _, _ => by simp [getN]
  | j + 1, h1, h2 => by
    have ih := getN_putL n hn K j (by omega) (by omega)
    unfold getN
    rw [ih, putL_get n K j (by omega), if_pos (by omega)]
    refine pow_cases (fun j => n % 2 ^ (8 * j) + n / 2 ^ (8 * j) % 256 * 2 ^ (8 * j) = n % 2 ^ (8 * (j + 1))) ?_ ?_ ?_ ?_ ?_ ?_ ?_ ?_ j (by omega) <;> (simp only [Nat.reduceMul, Nat.reduceAdd, Int.reducePow]; omega)
theorem getL_putL (n : Int) (h0 : 0 ≤ n) (h1 : n < 18446744073709551616) (K : Nat) : getL (putL n K) = if K < 8 then n % 2 ^ (8 * K) else n := by
  unfold getL
  rw [putL_length]
  by_cases h : K < 8
  · rw [if_pos h, show nPlaces (K : Int) = K from by unfold nPlaces; rw [if_pos (by omega)]; omega, getN_putL n h0 K K (Nat.le_refl _) (by omega)]
  · rw [if_neg h, show nPlaces (K : Int) = 8 from by unfold nPlaces; split <;> omega, getN_putL n h0 K 8 (by omega) (by omega)]
    simp only [Nat.reduceMul, Int.reducePow]
    omega

/-- Where the numbers of a slice value lie. -/
def LiesAt (k : IntKind) (w : World) (a : Option Addr) (bs : List Int) : Prop :=
  bs = [] ∨ ∃ b off, a = some ⟨b, off, none⟩ ∧ b < w.heap.size ∧ ∀ j, j < bs.length → w.cell? ⟨b, off + j, none⟩ = some (.int k (bs[j]?.getD 0))

/-- A slice value that leads to numbers of kind k. -/
def Sl (k : IntKind) (w : World) (v : Value) (bs : List Int) : Prop :=
  ∃ a cap, v = .slice a bs.length cap ∧ bs.length ≤ cap ∧ cap ≤ maxLen ∧ LiesAt k w a bs ∧ (a = none → cap = 0)
theorem Sl.nil (k : IntKind) (w : World) : Sl k w (.slice none 0 0) [] := ⟨none, 0, rfl, Nat.le_refl _, Nat.zero_le _, .inl rfl, fun _ => rfl⟩
theorem Sl.at {k : IntKind} {w : World} {b off cap : Nat} {bs : List Int} (h1 : bs.length ≤ cap) (h2 : cap ≤ maxLen) (h3 : b < w.heap.size) (h4 : ∀ j, j < bs.length → w.cell? ⟨b, off + j, none⟩ = some (.int k (bs[j]?.getD 0))) :
    Sl k w (.slice (some ⟨b, off, none⟩) bs.length cap) bs := ⟨_, cap, rfl, h1, h2, .inr ⟨b, off, rfl, h3, h4⟩, fun e => by cases e⟩
theorem Sl.below {k : IntKind} {w w' : World} {v : Value} {bs : List Int} (h : Sl k w v bs) (hb : Below w.heap.size w w') : Sl k w' v bs := by
  obtain ⟨a, cap, e, h1, h2, h, hn⟩ := h
  refine ⟨a, cap, e, h1, h2, ?_, hn⟩
  rcases h with h | ⟨b, off, e, h3, h4⟩
  · exact .inl h
  · exact .inr ⟨b, off, e, Nat.lt_of_lt_of_le h3 hb.size, fun j hj => (hb.cell (p := ⟨b, off + j, none⟩) h3).trans (h4 j hj)⟩
end Go.Proofs.Ytlnljanhnodhkaa

/- Plain facts on the check of bytes; no program is named here. -/
namespace Go.Proofs.Ytlnljanhnodhkaa
open Go.RowKit
set_option linter.unusedVariables false

/-- One byte taken into a check. -/
def fnvStep (h y : Int) : Int := IntKind.u64.wrap (bits BinOp.xor IntKind.u64 h y * 1099511628211)
/-- Bytes taken into a check, one behind the other. -/
def fnvMore (h : Int) (bs : List Int) : Int := bs.foldl fnvStep h
def fnvInit : Int := 14695981039346656037

/-- A number that fits 64 bits. -/
def IsU64 (h : Int) : Prop := 0 ≤ h ∧ h < 18446744073709551616
theorem isU64_init : IsU64 fnvInit := by unfold IsU64 fnvInit; omega
theorem isU64_wrap (x : Int) : IsU64 (IntKind.u64.wrap x) := by
  rw [IntKind.wrap_u64]; unfold IsU64; omega
theorem isU64_step (h y : Int) : IsU64 (fnvStep h y) := isU64_wrap _

theorem fnvMore_cons (h y : Int) (bs : List Int) : fnvMore h (y :: bs) = fnvMore (fnvStep h y) bs := rfl
theorem fnvMore_append (h : Int) (as0 bs : List Int) : fnvMore h (as0 ++ bs) = fnvMore (fnvMore h as0) bs := by simp [fnvMore]
theorem fnvMore_snoc (h : Int) (as0 : List Int) (y : Int) : fnvMore h (as0 ++ [y]) = fnvStep (fnvMore h as0) y := by rw [fnvMore_append]; rfl
theorem isU64_more {h : Int} (bs : List Int) (hh : IsU64 h) : IsU64 (fnvMore h bs) := by
  induction bs generalizing h with
  | nil => exact hh
  | cons y bs ih => rw [fnvMore_cons]; exact ih (isU64_step h y)

theorem IsBytes.snoc {bs : List Int} {y : Int} (h : IsBytes bs) (hy : 0 ≤ y ∧ y < 256) : IsBytes (bs ++ [y]) := by
  intro j
  by_cases hj : j < bs.length
  · rw [List.getElem?_append_left hj]; exact h j
  · rw [List.getElem?_append_right (by omega)]
    rcases Nat.eq_zero_or_pos (j - bs.length) with e | e
    · rw [e]; simpa using hy
    · rw [List.getElem?_eq_none (by simp; omega)]; simp
theorem bytes_one {y : Int} (hy : 0 ≤ y ∧ y < 256) : IsBytes [y] := by
  have := IsBytes.snoc (bs := []) (fun j => by simp) hy
  simpa using this

end Go.Proofs.Ytlnljanhnodhkaa

/- Streams as they are: which may be, their bytes; no program is named. -/
namespace Go.Proofs.Ytlnljanhnodhkaa
open Go.RowKit
set_option linter.unusedVariables false

/-- A record; a stream. -/
structure RC where
  fr : Int
  ct : Int
  ze : Bool
  da : List Int
structure SM where
  bl : Int
  ba : Int
  id : Int
  re : List RC
def I64 (n : Int) : Prop := -9223372036854775808 ≤ n ∧ n ≤ 9223372036854775807
structure RC.Ok (x : RC) : Prop where
  fr : I64 x.fr
  ct : I64 x.ct
  da : IsBytes x.da
structure SM.Ok (s : SM) : Prop where
  bl : I64 s.bl
  ba : I64 s.ba
  id : I64 s.id
  re : ∀ x ∈ s.re, x.Ok
def rcz : RC := ⟨0, 0, false, []⟩

/-! Which may be. -/
def allZ (bs : List Int) : Bool := bs.all (fun x => x == 0)
def chunkZ (bs : List Int) (j : Nat) : Bool := allZ ((bs.drop (64 * j)).take 64)
def hdOk (bl ba id : Int) : Prop := 1 ≤ bl ∧ bl ≤ 64 ∧ 1 ≤ id ∧ id ≤ 1000000 ∧ (ba = -1 ∨ (1 ≤ ba ∧ ba < id))
def plOk (bl lo : Int) (x : RC) : Prop := lo ≤ x.fr ∧ x.fr ≤ bl - 1 ∧ 1 ≤ x.ct ∧ x.ct ≤ bl - x.fr
def daOk (ba : Int) (x : RC) : Prop := (x.ze = true → ba ≠ -1 ∧ x.da = []) ∧ (x.ze = false → (x.da.length : Int) = x.ct * 64 ∧ ∀ j : Nat, (j : Int) < x.ct → chunkZ x.da j = false)
/-- The least block at which a record behind p may begin. -/
def least (p x : RC) : Int := if x.ze == p.ze then wrap64 (wrap64 (p.fr + p.ct) + 1) else wrap64 (p.fr + p.ct)
def leastAt (l : List RC) : Nat → Int
  | 0 => 0
  | k + 1 => least (l[k]?.getD rcz) (l[k + 1]?.getD rcz)
def rcOk (s : SM) (k : Nat) (x : RC) : Prop := plOk s.bl (leastAt s.re k) x ∧ daOk s.ba x
def sGood (s : SM) : Prop := hdOk s.bl s.ba s.id ∧ ∀ k x, s.re[k]? = some x → rcOk s k x
/-- The first k records may be. -/
def okTo (s : SM) (k : Nat) : Prop := ∀ j x, j < k → s.re[j]? = some x → rcOk s j x
theorem okTo_zero (s : SM) : okTo s 0 := fun j x h => by omega
theorem okTo_succ {s : SM} {k : Nat} {x : RC} (h : okTo s k) (hk : s.re[k]? = some x) (hx : rcOk s k x) : okTo s (k + 1) := fun j y hj hy => by
  by_cases e : j = k
  · subst e; rw [hk] at hy; cases hy; exact hx
  · exact h j y (by omega) hy
theorem okTo_all {s : SM} (h : okTo s s.re.length) (hh : hdOk s.bl s.ba s.id) : sGood s := ⟨hh, fun k x hk => h k x (List.getElem?_eq_some_iff.1 hk).1 hk⟩
theorem sGood_not {s : SM} {k : Nat} {x : RC} (hk : s.re[k]? = some x) (hx : ¬ rcOk s k x) : ¬ sGood s := fun h => hx (h.2 k x hk)
theorem sGood.to {s : SM} (h : sGood s) (k : Nat) : okTo s k := fun j x _ hx => h.2 j x hx

theorem leastAt_succ {l : List RC} {k : Nat} {p x : RC} (hp : l[k]? = some p) (hx : l[k + 1]? = some x) : leastAt l (k + 1) = least p x := by simp [leastAt, hp, hx]
theorem least_ok {p x : RC} (h0 : 0 ≤ p.fr + p.ct) (h1 : p.fr + p.ct ≤ 64) : least p x = if x.ze == p.ze then p.fr + p.ct + 1 else p.fr + p.ct := by
  unfold least
  rw [IntWalk.wrap64_in (p.fr + p.ct) (by omega), IntWalk.wrap64_in (p.fr + p.ct + 1) (by omega)]
/-- A record that may be begins at its number or later, and ends within. -/
theorem okTo_from {s : SM} (hh : hdOk s.bl s.ba s.id) : ∀ {k : Nat} {x : RC}, okTo s (k + 1) → s.re[k]? = some x → (k : Int) ≤ x.fr ∧ 1 ≤ x.ct ∧ x.fr + x.ct ≤ s.bl ∧ s.bl ≤ 64
  | 0, x, h, hx => by
    obtain ⟨⟨h1, h2, h3, h4⟩, -⟩ := h 0 x (by omega) hx
    obtain ⟨a1, a2, -⟩ := hh
    simp only [leastAt] at h1
    exact ⟨by simpa using h1, h3, by omega, a2⟩
  | k + 1, x, h, hx => by
    have hk := (List.getElem?_eq_some_iff.1 hx).1
    have hp := List.getElem?_eq_getElem (l := s.re) (i := k) (by omega)
    obtain ⟨b1, b2, b3, b4⟩ := okTo_from hh (fun j y hj hy => h j y (by omega) hy) hp
    obtain ⟨⟨h1, h2, h3, h4⟩, -⟩ := h (k + 1) x (by omega) hx
    rw [leastAt_succ hp hx, least_ok (by omega) (by omega)] at h1
    refine ⟨?_, h3, by omega, b4⟩
    split at h1 <;> omega
theorem sGood.at {s : SM} (h : sGood s) {k : Nat} {x : RC} (hx : s.re[k]? = some x) : (k : Int) ≤ x.fr ∧ 1 ≤ x.ct ∧ x.fr + x.ct ≤ s.bl ∧ s.bl ≤ 64 := okTo_from h.1 (h.to _) hx
theorem sGood.many {s : SM} (h : sGood s) : s.re.length ≤ 64 := by
  rcases Nat.eq_zero_or_pos s.re.length with h0 | h0
  · omega
  · have := h.at (List.getElem?_eq_getElem (l := s.re) (i := s.re.length - 1) (by omega))
    omega
/-- The next record begins behind, or further on if both are alike. -/
theorem sGood.next {s : SM} (h : sGood s) {k : Nat} {p x : RC} (hp : s.re[k]? = some p) (hx : s.re[k + 1]? = some x) : p.fr + p.ct ≤ x.fr ∧ (x.ze = p.ze → p.fr + p.ct < x.fr) := by
  have b := h.at hp
  obtain ⟨⟨h1, -⟩, -⟩ := h.2 _ _ hx
  rw [leastAt_succ hp hx, least_ok (by omega) (by omega)] at h1
  split at h1
  · exact ⟨by omega, fun _ => by omega⟩
  · rename_i hne
    exact ⟨h1, fun e => absurd (by rw [e]; simp) hne⟩
theorem sGood.data {s : SM} (h : sGood s) {k : Nat} {x : RC} (hx : s.re[k]? = some x) : (x.da.length : Int) = if x.ze then 0 else x.ct * 64 := by
  obtain ⟨-, h1, h2⟩ := h.2 _ _ hx
  by_cases hz : x.ze = true
  · rw [if_pos hz, (h1 hz).2]; rfl
  · rw [if_neg hz, (h2 (by simpa using hz)).1]
theorem sGood.len {s : SM} (h : sGood s) {k : Nat} {x : RC} (hx : s.re[k]? = some x) : x.da.length ≤ 4096 := by
  have a := h.at hx
  have b := h.data hx
  split at b <;> omega

/-! Their bytes. -/
def sld (b : List Int) : List Int := b ++ putL (fnvMore fnvInit b) 8
def hdB (s : SM) : List Int := [82, 86, 83, 49] ++ putL s.bl 2 ++ putL (s.ba + 1) 4 ++ putL s.id 4 ++ putL (s.re.length : Int) 2
def mkB (x : RC) : Int := if x.ze then 2 else 1
def rcB (x : RC) : List Int := [mkB x] ++ putL x.fr 2 ++ putL x.ct 2 ++ x.da
def rsB (l : List RC) : List Int := l.flatMap fun x => sld (rcB x)
def bodyB (s : SM) : List Int := sld (hdB s) ++ rsB s.re
def encB (s : SM) : List Int := bodyB s ++ [69] ++ putL (fnvMore fnvInit (bodyB s)) 8
def rsLen (l : List RC) : Nat := (l.map fun x => 13 + x.da.length).sum
theorem sld_length (b : List Int) : (sld b).length = b.length + 8 := by simp [sld, putL_length]
theorem hdB_length (s : SM) : (hdB s).length = 16 := by simp [hdB, putL_length]
theorem rcB_length (x : RC) : (rcB x).length = 5 + x.da.length := by simp [rcB, putL_length]; omega
theorem rsB_nil : rsB [] = [] := rfl
theorem rsB_cons (x : RC) (l : List RC) : rsB (x :: l) = sld (rcB x) ++ rsB l := rfl
theorem rsB_append (a b : List RC) : rsB (a ++ b) = rsB a ++ rsB b := by simp [rsB]
theorem rsB_snoc {l : List RC} {k : Nat} {x : RC} (h : l[k]? = some x) : rsB (l.take (k + 1)) = rsB (l.take k) ++ sld (rcB x) := by
  obtain ⟨hk, e⟩ := List.getElem?_eq_some_iff.1 h
  rw [List.take_succ_eq_append_getElem hk, rsB_append, e, rsB_cons, rsB_nil, List.append_nil]
theorem rsB_length (l : List RC) : (rsB l).length = rsLen l := by
  induction l with
  | nil => rfl
  | cons x l ih => rw [rsB_cons, List.length_append, ih, sld_length, rcB_length]; simp [rsLen]; omega
theorem encB_length (s : SM) : (encB s).length = 33 + rsLen s.re := by simp [encB, bodyB, sld_length, hdB_length, rsB_length, putL_length]; omega
theorem rsLen_take {l : List RC} {k : Nat} {x : RC} (h : l[k]? = some x) : rsLen (l.take (k + 1)) = rsLen (l.take k) + (13 + x.da.length) := by
  obtain ⟨hk, e⟩ := List.getElem?_eq_some_iff.1 h
  rw [List.take_succ_eq_append_getElem hk, e]
  simp [rsLen]
theorem rsLen_le {l : List RC} (h : ∀ x ∈ l, x.da.length ≤ 4096) : rsLen l ≤ l.length * 4109 := by
  induction l with
  | nil => simp [rsLen]
  | cons x l ih =>
    have h1 := h x (by simp)
    have h2 := ih fun y hy => h y (by simp [hy])
    simp only [rsLen, List.map_cons, List.sum_cons, List.length_cons] at h2 ⊢
    omega
theorem isBytes_app {a b : List Int} (ha : IsBytes a) (hb : IsBytes b) : IsBytes (a ++ b) := by
  intro j
  by_cases h : j < a.length
  · rw [List.getElem?_append_left h]; exact ha j
  · rw [List.getElem?_append_right (by omega)]; exact hb _
theorem isBytes_sld {b : List Int} (h : IsBytes b) : IsBytes (sld b) := isBytes_app h (putL_bytes _ _)
theorem isBytes_mk (x : RC) : IsBytes [mkB x] := bytes_one (by unfold mkB; split <;> omega)
theorem isBytes_rcB {x : RC} (h : IsBytes x.da) : IsBytes (rcB x) := isBytes_app (isBytes_app (isBytes_app (isBytes_mk x) (putL_bytes _ _)) (putL_bytes _ _)) h
theorem isBytes_magic : IsBytes [82, 86, 83, 49] := by
  intro j
  match j with
  | 0 => simp
  | 1 => simp
  | 2 => simp
  | 3 => simp
  | j + 4 => simp
theorem isBytes_hdB (s : SM) : IsBytes (hdB s) := isBytes_app (isBytes_app (isBytes_app (isBytes_app isBytes_magic (putL_bytes _ _)) (putL_bytes _ _)) (putL_bytes _ _)) (putL_bytes _ _)
theorem isBytes_nil : IsBytes [] := fun j => by simp
theorem isBytes_rsB {l : List RC} (h : ∀ x ∈ l, IsBytes x.da) : IsBytes (rsB l) := by
  induction l with
  | nil => exact isBytes_nil
  | cons x l ih => exact isBytes_app (isBytes_sld (isBytes_rcB (h x (by simp)))) (ih fun y hy => h y (by simp [hy]))
theorem isBytes_bodyB {s : SM} (h : s.Ok) : IsBytes (bodyB s) := isBytes_app (isBytes_sld (isBytes_hdB s)) (isBytes_rsB fun x hx => (h.re x hx).da)

/-! Different ones have different bytes. -/
theorem putL_inj {a b : Int} {K : Nat} (hK : K < 8) (ha : 0 ≤ a ∧ a < 2 ^ (8 * K)) (hb : 0 ≤ b ∧ b < 2 ^ (8 * K)) (h : putL a K = putL b K) : a = b := by
  have hp : (2 : Int) ^ (8 * K) ≤ 2 ^ 56 := by
    have : ((2 ^ (8 * K) : Nat) : Int) ≤ ((2 ^ 56 : Nat) : Int) := by exact_mod_cast Nat.pow_le_pow_right (by omega) (by omega)
    simpa using this
  have h1 := getL_putL a ha.1 (by omega) K
  have h2 := getL_putL b hb.1 (by omega) K
  rw [if_pos hK] at h1 h2
  rw [h, h2] at h1
  rw [Int.emod_eq_of_lt ha.1 ha.2, Int.emod_eq_of_lt hb.1 hb.2] at h1
  exact h1.symm
/-- What a record must be to be told from its bytes. -/
structure RC.Fits (x : RC) : Prop where
  fr : 0 ≤ x.fr ∧ x.fr < 65536
  ct : 0 ≤ x.ct ∧ x.ct < 65536
  da : (x.da.length : Int) = if x.ze then 0 else x.ct * 64
theorem sGood.fits {s : SM} (h : sGood s) {x : RC} (hx : x ∈ s.re) : x.Fits := by
  obtain ⟨k, hk⟩ := List.getElem?_of_mem hx
  have := h.at hk
  exact ⟨⟨by omega, by omega⟩, ⟨by omega, by omega⟩, h.data hk⟩
theorem rc_inj {x y : RC} {u v : List Int} (hx : x.Fits) (hy : y.Fits) (h : sld (rcB x) ++ u = sld (rcB y) ++ v) : x = y ∧ u = v := by
  obtain ⟨f, c, z, d⟩ := x
  obtain ⟨f', c', z', d'⟩ := y
  simp only [sld, rcB, List.append_assoc, List.cons_append, List.nil_append] at h
  obtain ⟨h1, h2⟩ := List.cons.inj h
  obtain rfl : z = z' := by
    cases z <;> cases z' <;> simp [mkB] at h1 <;> rfl
  obtain ⟨e1, h3⟩ := List.append_inj h2 (by simp [putL_length])
  obtain ⟨e2, h4⟩ := List.append_inj h3 (by simp [putL_length])
  have p1 : f = f' := putL_inj (by omega) (by simpa using hx.fr) (by simpa using hy.fr) e1
  have p2 : c = c' := putL_inj (by omega) (by simpa using hx.ct) (by simpa using hy.ct) e2
  subst p1 p2
  have l1 := hx.da
  have l2 := hy.da
  simp only at l1 l2
  obtain ⟨p3, h5⟩ := List.append_inj h4 (by omega)
  subst p3
  obtain ⟨-, h6⟩ := List.append_inj h5 (by simp [putL_length])
  exact ⟨rfl, h6⟩
theorem rs_inj : ∀ {l m : List RC} {u v : List Int}, l.length = m.length → (∀ x ∈ l, x.Fits) → (∀ x ∈ m, x.Fits) → rsB l ++ u = rsB m ++ v → l = m
  | [], [], _, _, _, _, _, _ => rfl
  | [], _ :: _, _, _, h, _, _, _ => by cases h
  | _ :: _, [], _, _, h, _, _, _ => by cases h
  | x :: l, y :: m, u, v, h, hl, hm, e => by
    rw [rsB_cons, rsB_cons, List.append_assoc, List.append_assoc] at e
    obtain ⟨rfl, e2⟩ := rc_inj (hl x (by simp)) (hm y (by simp)) e
    rw [rs_inj (by simpa using h) (fun z hz => hl z (by simp [hz])) (fun z hz => hm z (by simp [hz])) e2]
theorem enc_inj {s t : SM} (hs : sGood s) (ht : sGood t) (h : encB s = encB t) : s = t := by
  have m1 := hs.many
  have m2 := ht.many
  have r1 : ∀ x ∈ s.re, x.Fits := fun x hx => hs.fits hx
  have r2 : ∀ x ∈ t.re, x.Fits := fun x hx => ht.fits hx
  obtain ⟨⟨a1, a2, a3, a4, a5⟩, -⟩ := hs
  obtain ⟨⟨b1, b2, b3, b4, b5⟩, -⟩ := ht
  obtain ⟨bl, ba, id, re⟩ := s
  obtain ⟨bl', ba', id', re'⟩ := t
  simp only at a1 a2 a3 a4 a5 b1 b2 b3 b4 b5 m1 m2 r1 r2
  simp only [encB, bodyB, List.append_assoc] at h
  obtain ⟨h1, h2⟩ := List.append_inj h (by simp [sld_length, hdB_length])
  simp only [sld] at h1
  obtain ⟨h3, -⟩ := List.append_inj h1 (by simp [hdB_length])
  simp only [hdB, List.append_assoc] at h3
  have h4 := List.append_cancel_left h3
  obtain ⟨e1, h5⟩ := List.append_inj h4 (by simp [putL_length])
  obtain ⟨e2, h6⟩ := List.append_inj h5 (by simp [putL_length])
  obtain ⟨e3, e4⟩ := List.append_inj h6 (by simp [putL_length])
  have p1 : bl = bl' := putL_inj (by omega) ⟨by omega, by omega⟩ ⟨by omega, by omega⟩ e1
  have p2 : ba + 1 = ba' + 1 := putL_inj (by omega) ⟨by omega, by omega⟩ ⟨by omega, by omega⟩ e2
  have p3 : id = id' := putL_inj (by omega) ⟨by omega, by omega⟩ ⟨by omega, by omega⟩ e3
  have p4 : (re.length : Int) = re'.length := putL_inj (by omega) ⟨by omega, by omega⟩ ⟨by omega, by omega⟩ e4
  have p5 : re = re' := rs_inj (by omega) r1 r2 h2
  subst p1 p3 p5
  obtain rfl : ba = ba' := by omega
  rfl
end Go.Proofs.Ytlnljanhnodhkaa

/- Cells of one's own: a block with these cells; rows that lie apart by their elements' types. -/
namespace Go.Proofs.Ytlnljanhnodhkaa
open Go.RowKit
set_option linter.unusedVariables false

theorem row_range {W : World} {B : Nat} {c : List Value} {t : TypeId} (h : W.heap[B]? = some (.cells c.toArray t (0, 0))) : W.rangeAt B 0 c := fun j x hx => by
  rw [cell_of_row _ _ _ _ _ _ h, Nat.zero_add]
  simpa using hx
/-- Block B has these cells. -/
def RowC (x : World) (B : Nat) (t : TypeId) (C : List Value) : Prop := x.heap[B]? = some (.cells C.toArray t (0, 0))
section
variable {x y : World} {B : Nat} {t : TypeId} {C : List Value}
theorem RowC.lt (h : RowC x B t C) : B < x.heap.size := (Array.getElem?_eq_some_iff.1 h).1
theorem RowC.below (h : RowC x B t C) (hb : Below x.heap.size x y) : RowC y B t C := (hb.block B h.lt).trans h
theorem RowC.range (h : RowC x B t C) : x.rangeAt B 0 C := row_range h
theorem RowC.cell (h : RowC x B t C) (j : Nat) (v : Value) (hj : C[j]? = some v) : x.cell? ⟨B, j, none⟩ = some v := by
  have := h.range j v hj
  rwa [Nat.zero_add] at this
theorem RowC.frozen (h : RowC x B t C) (j : Nat) : x.frozen? ⟨B, j, none⟩ = false := by
  have h' : x.heap[B]? = some (.cells C.toArray t (0, 0)) := h
  simp [World.frozen?, h']
theorem RowC.set (h : RowC x B t C) (j : Nat) (v : Value) : RowC (x.setCell ⟨B, j, none⟩ v) B t (C.set j v) := by
  have h' : x.heap[B]? = some (.cells C.toArray t (0, 0)) := h
  obtain ⟨hlt, hk⟩ := Array.getElem?_eq_some_iff.1 h'
  show (x.heap.modify B _)[B]? = _
  rw [Array.getElem?_eq_getElem (by rw [Array.size_modify]; exact hlt), Array.getElem_modify_self, hk]
  simp
theorem RowC.new (x : World) (t : TypeId) (C : List Value) : RowC (x.alloc (.cells C.toArray t)) x.heap.size t C := heap_alloc_new x _
end
theorem below_new (x : World) (o : Obj) : Below x.heap.size x (x.alloc o) := (Below.refl _ x).alloc (Nat.le_refl _) _
theorem own_belowT {x x' : World} {N e sz n : Nat} {v : Value} {xs : List Value} (h : x.ownsRow N e sz v n xs) (hb : Below x.heap.size x x') : x'.ownsRow N e sz v n xs := by
  refine ⟨h.1, ?_⟩
  rcases h.2 with h' | ⟨g, cap, cur, rfl, a1, a2, a3⟩
  · exact .inl h'
  · exact .inr ⟨g, cap, cur, rfl, a1, (hb.block g (Array.getElem?_eq_some_iff.1 a2).1).trans a2, a3⟩
theorem row_ne {x : World} {N e sz n B : Nat} {v : Value} {xs C : List Value} {t : TypeId} (h : x.ownsRow N e sz v n xs) (hB : RowC x B t C) (hne : e ≠ t) : v.ownBlock ≠ some B := by
  rcases h.2 with ⟨rfl, _⟩ | ⟨g, cap, cur, rfl, _, hg, _⟩
  · simp [Value.ownBlock]
  · intro e'
    obtain rfl : g = B := by simpa [Value.ownBlock] using e'
    have hB' : x.heap[g]? = some (.cells C.toArray t (0, 0)) := hB
    rw [hg] at hB'
    cases hB'
    exact hne rfl
theorem rows_ne {x : World} {N N' e e' sz sz' n n' : Nat} {v v' : Value} {xs xs' : List Value} (h : x.ownsRow N e sz v n xs) (h' : x.ownsRow N' e' sz' v' n' xs') (hne : e ≠ e') : v.ownBlock = none ∨ v.ownBlock ≠ v'.ownBlock := by
  rcases h.2 with ⟨rfl, _⟩ | ⟨g, cap, cur, rfl, _, hg, _⟩
  · exact .inl rfl
  · right
    rcases h'.2 with ⟨rfl, _⟩ | ⟨g', cap', cur', rfl, _, hg', _⟩
    · simp [Value.ownBlock]
    · intro ee
      obtain rfl : g = g' := by simpa [Value.ownBlock] using ee
      rw [hg] at hg'
      cases hg'
      exact hne rfl
theorem grownBy_setCellJ (W : World) (b j : Nat) (v : Value) : W.grownBy (W.setCell ⟨b, j, none⟩ v) (some b) :=
  ⟨rfl, rfl, rfl, (KeepsWalks.setCell W _ v).size, fun k _ hk => Below.heap_setCell _ _ _ k (fun e => hk (by rw [e]))⟩
theorem RowC.grown {x y : World} {B : Nat} {t : TypeId} {C : List Value} {row : Option Nat} (h : RowC x B t C) (hg : x.grownBy y row) (hne : row ≠ some B) : RowC y B t C := (hg.block B h.lt (fun e => hne e.symm)).trans h
theorem row_lenT {W : World} {base sz n : Nat} {e : TypeId} {v : Value} {xs : List Value} (h : W.ownsRow base e sz v n xs) : ∃ ra c, v = .slice ra n c ∧ (0 < n → ∃ g, ra = some ⟨g, 0, none⟩ ∧ g < W.heap.size ∧ W.rangeAt g 0 xs) := by
  rcases h.2 with ⟨rfl, rfl⟩ | ⟨g, cap, cur, rfl, _, hg, _⟩
  · exact ⟨_, _, rfl, fun h => absurd h (by omega)⟩
  · refine ⟨_, _, rfl, fun _ => ⟨g, rfl, (Array.getElem?_eq_some_iff.1 hg).1, fun j u hj => ?_⟩⟩
    have := h.cells (g := g) rfl j u hj
    rwa [Addr.add_mid] at this

end Go.Proofs.Ytlnljanhnodhkaa

/- Blocks: their cells, read and written at once; two blocks held against each other. Needs the types api.Block and uint8. -/
namespace Go.Proofs.Ytlnljanhnodhkaa
open Go.RowKit
set_option linter.unusedVariables false

/-- What a block's cells hold. -/
def IsBlk (c : List Value) : Prop := ∃ bs : List Int, bs.length = 64 ∧ c = bs.map (Value.int .u8)
theorem IsBlk.length {c : List Value} (h : IsBlk c) : c.length = 64 := by obtain ⟨bs, h1, rfl⟩ := h; simp [h1]
theorem IsBlk.one {c : List Value} (h : IsBlk c) : ∀ v ∈ c, v.oneCell' = true := by
  obtain ⟨bs, h1, rfl⟩ := h
  intro v hv
  obtain ⟨x, _, rfl⟩ := List.mem_map.1 hv
  rfl
theorem IsBlk.all {c : List Value} (h : IsBlk c) : c.toArray.all (·.oneCell') = true := all_oneCell_toArray h.one

/-- A block of one byte. -/
def fillB (v : Int) : List Value := List.replicate 64 (.int .u8 v)
theorem isBlk_fill (v : Int) : IsBlk (fillB v) := ⟨List.replicate 64 v, by simp, by simp [fillB]⟩
def zarr : Array Value := (fillB 0).toArray
theorem zarr_size : zarr.size = 64 := by simp [zarr, fillB]

set_option maxRecDepth 100000 in
theorem under_blk : Try.prog.underlying 41 = some (.array 64 5) := by kernel_rfl
set_option maxRecDepth 100000 in
theorem size_blk : (Try.prog.info? 41).map (·.size) = some 64 := by kernel_rfl
set_option maxRecDepth 100000 in
theorem zero_blk (w : World) : (zeroValue 41).run Try.prog w = .ok (.agg zarr) w := by kernel_rfl
set_option maxRecDepth 100000 in
theorem build_blk (w : World) : (Instr.build 41 #[]).run Try.prog w = .ok (.agg zarr) w := by kernel_rfl
set_option maxRecDepth 100000 in
/-- A block is read. -/
theorem load_blk {w : World} {b o : Nat} {c : List Value} (hc : w.rangeAt b o c) (h : c.length = 64) : (loadVar 41 ⟨b, o, none⟩).run Try.prog w = .ok (.agg c.toArray) w :=
  run_loadVar_mid w b o _ c _ hc under_blk rfl (by rw [h]; exact size_blk)
set_option maxRecDepth 100000 in
/-- A block is written. -/
theorem store_blk {w : World} {b o : Nat} {c : List Value} (ht : w.there b o 64) (h : IsBlk c) : (storeVar 41 ⟨b, o, none⟩ (.agg c.toArray)).run Try.prog w = .ok () (w.setCells b o c) := by
  have := run_storeVar_mid (P := Try.prog) w b o 41 c.toArray (by simpa [h.length] using ht) (by simpa [h.length] using size_blk) h.all
  simpa using this
set_option maxRecDepth 100000 in
/-- .. in the block that was made last. -/
theorem load_new {w : World} {c : Array Value} (h : c.size = 64) : (loadVar 41 ⟨w.heap.size, 0, none⟩).run Try.prog (w.alloc (.cells c 41)) = .ok (.agg c) (w.alloc (.cells c 41)) :=
  run_loadVar_new w _ c _ _ under_blk (by rw [h]; exact size_blk)
set_option maxRecDepth 100000 in
theorem store_new {w : World} {c : Array Value} {c' : List Value} (h : c.size = 64) (h' : IsBlk c') : (storeVar 41 ⟨w.heap.size, 0, none⟩ (.agg c'.toArray)).run Try.prog (w.alloc (.cells c 41)) = .ok () (w.alloc (.cells c'.toArray 41)) :=
  run_storeVar_new w _ c c'.toArray (by simpa [h'.length] using size_blk) (by simpa [h'.length] using h) h'.all

/-- Results that lie in a cell. -/
theorem results_cell {P : Program} {fn : Func} {p : Tmp} {ty : TypeId} {tmps : Array Value} {w : World} {ad : Addr} {v : Value} (h : fn.results = #[.cell p ty]) (ha : tmps.getD p undef = .pointer (some ad)) (hl : (loadVar ty ad).run P w = .ok v w) :
    (results fn tmps).run P w = .ok v w := by
  have e : (asAddr (.pointer (some ad))).run P w = .ok ad w := by simp [asAddr]
  have ha' : tmps[p]?.getD undef = .pointer (some ad) := by simpa using ha
  simp [results, h, Sem.run_bind, Result.andThen, ha', e, hl]
/-- Whatever is no block is read and written cell by cell. -/
theorem loadVar_open (t : TypeId) (h : t ≠ 41) (a : Addr) : loadVar t a = (do if ← isAgg t then pure (.agg (← loadCells a (← sizeOf t))) else load a) := rfl
theorem storeVar_open (t : TypeId) (h : t ≠ 41) (a : Addr) (v : Value) : storeVar t a v = (do
    if v.cells.size ≠ (← sizeOf t) then stuck "storeVar: the value has not the size of the variable"
    storeCells a v.cells.toList) := rfl

set_option maxRecDepth 100000 in
theorem store_fill (W : World) (v : Int) : (storeVar 41 ⟨W.heap.size, 0, none⟩ (.agg (fillB v).toArray)).run Try.prog (W.alloc (.cells zarr 41)) = .ok () (W.alloc (.cells (fillB v).toArray 41)) :=
  store_new zarr_size (isBlk_fill v)

/-- Are two rows of cells alike? -/
noncomputable def alike (a b : List Value) : Bool := @decide (a = b) (Classical.propDecidable _)
end Go.Proofs.Ytlnljanhnodhkaa

/- A region that draws its order, in a round of a loop over a function, at the wide fence: walked once, its tail in order. -/
namespace Go.Proofs.Ytlnljanhnodhkaa
open Go.RowKit
set_option linter.unusedVariables false

section
variable {l n : Nat} {P : Program} {ops : Array Oper} {Q : Exit → Act → World → Prop} {md : Region.Mode}

theorem op_round {o : Oper} {a : Act} {w : World} {K : Act → World → Prop} (hd : ∀ c, o.op ≠ .defer c) (h : o.wp P a w K Q) : o.wpIn (Fence.wide.inRound l) n P a w K Q := by
  unfold Oper.wpIn
  refine ⟨fun _ _ => trivial, ?_⟩
  rw [Oper.semAt_eq _ _ _ hd]
  unfold Oper.wp at h
  generalize (execOp a.eval o).run P w = r at *
  cases r with
  | ok x w' =>
    cases x <;> simp only [Oper.upon, Oper.uponIn] at h ⊢ <;>
      first
        | exact h
        | exact ⟨fun e => by simp [Fence.wide] at e, CallsIn.inRound l (callsIn_wide.2 h)⟩
        | exact ⟨fun e => by simp [Fence.wide] at e, fun c cs _ => let ⟨v, w', r, s⟩ := h c cs; ⟨v, w', r, stepsIn_wide.2 s⟩⟩
  | halt x w' => cases x <;> simp only [Oper.upon, Oper.uponIn] at h ⊢ <;> exact h

/-- No operation of the region is a deferred call. -/
def noDefer (ops : Array Oper) : Bool := ops.all fun o => match o.op with | .defer _ => false | _ => true
theorem noDefer_spec {i : Nat} {o : Oper} (h : noDefer ops = true) (hi : ops[i]? = some o) : ∀ c, o.op ≠ .defer c := by
  intro c e
  unfold noDefer at h
  rw [Array.all_eq_true] at h
  obtain ⟨hlt, hk⟩ := Array.getElem?_eq_some_iff.1 hi
  have := h i hlt
  rw [hk, e] at this
  cases this

theorem opAt_round {i : Nat} {a : Act} {w : World} {K : Act → World → Prop} (hL : ¬ LetsOut Q) (hd : noDefer ops = true) (h : wpOp P ops Q i K a w) : wpOpIn (Fence.wide.inRound l) n P ops Q i K a w := by
  unfold wpOp at h
  unfold wpOpIn
  cases ho : ops[i]? with
  | none => simpa [ho] using h
  | some o =>
    simp only [ho] at h ⊢
    by_cases hw : Region.wanted o (yielded ops a.tmps) = true
    · simp only [hw, if_true] at h ⊢
      rcases h with h | h
      · exact op_round (noDefer_spec hd ho) h
      · exact absurd h.2 hL
    · simp only [hw] at h ⊢
      exact ⟨fun _ _ => trivial, h⟩

theorem any_round (hL : ¬ LetsOut Q) (hd : noDefer ops = true) : ∀ (fuel : Nat) (listed : Array Bool) (a : Act) (w : World), wpAny P md ops Q fuel listed a w → wpAnyIn (Fence.wide.inRound l) n P md ops Q fuel listed a w
  | 0, _, _, _, h => h
  | fuel + 1, listed, a, w, h => ⟨h.1, fun i hi => wpOpIn_mono (fun a w => any_round hL hd fuel _ a w) (opAt_round hL hd (h.2 i hi))⟩

theorem letsOut_inBlock {id : Nat} (h : ¬ LetsOut Q) : ¬ LetsOut (Exit.inBlock id Q) := fun ⟨a, w, e⟩ => h ⟨a, w, e⟩
end

/-- make of so many elements, inside a fence. -/
theorem wpListIn_make_full {F : Fence} {n : Nat} {P : Program} (w : World) {ops : Array Oper} {rest : List Oper} {o : Oper} {a : Act} {Q : Exit → Act → World → Prop}
    (hg : o.guard = none) (l c : Operand) (t : TypeId) (hop : o.op = Op.makeSlice t l c)
    (base : Nat) (e : TypeId) (i : TypeInfo) (z : Value) (size : Nat) (h1 : P.underlying t = some (.slice e)) (h2 : P.info? e = some i) (h3 : i.zero = some z) (h4 : i.size = size)
    (kl kc : IntKind) (L C : Int) (m : Nat) (hl : a.eval l = .int kl L) (hc : a.eval c = .int kc C) (hL : L = (m : Int)) (hC : C = (m : Int)) (b2 : i.bytes * m ≤ 281474976710656) (b3 : m ≤ maxLen) (b4 : base ≤ w.heap.size)
    (hK : ∀ w', w'.ownsRow base e size (.slice (some ⟨w.heap.size, 0, none⟩) m m) m (madeCells z.cells (m * size)).toList → w.grownBy w' none → wpListIn F n P ops Q rest (a.put o.dst (.slice (some ⟨w.heap.size, 0, none⟩) m m)) w') :
    wpListIn F n P ops Q (o :: rest) a w := by
  refine wpListIn_plain hg fun K hK' => ?_
  obtain ⟨w', hrun, r1, r2⟩ := run_make_full (P := P) w base t e i z size h1 h2 h3 h4 kl kc m b2 b3 b4
  subst hL
  subst hC
  unfold Oper.wpIn
  refine ⟨?_, ?_⟩
  · simp [Oper.about, hop]
  · rw [Oper.semAt_plain F _ _ (by rw [hop]; intro c hc'; cases hc')]
    simp [execOp, hop, hl, hc, hrun, Result.andThen]
    exact hK' _ _ (hK w' r1 r2)

/-- That a slice owns its row speaks of cells alone. -/
theorem ownsRow_own {β : Type} (n₀ e size : Nat) (v : Value) (k : β → Nat) (f : β → List Value) : Own (fun s W => W.ownsRow n₀ e size v (k s) (f s)) := by
  rintro s X Y row hr hg hrow
  refine hr.kept hg ?_
  rcases hr.2 with ⟨rfl, _⟩ | ⟨g, cap, cur, rfl, _, hgb, _⟩
  · exact .inl rfl
  · refine .inr fun e' => ?_
    obtain ⟨o, ho, hc⟩ := hrow g (by simpa [Value.ownBlock] using e'.symm)
    rw [hgb] at ho; cases ho; cases hc

/-- An append whose run is known; a guard that lets it by is no bar. -/
theorem wpList_append_run {P : Program} {w w' : World} {ops : Array Oper} {rest : List Oper} {o : Oper} {a : Act} {Q : Exit → Act → World → Prop} (s x : Operand) (t : TypeId)
    (ho : o.op = .call { callee := .builtin .append, args := #[s, x], argTypes := #[t, t] }) (hw : Region.wanted o (yielded ops a.tmps) = true)
    (vs vx v' : Value) (hs : a.eval s = vs) (hx : a.eval x = vx) (hrun : (Builtin.append_ #[t, t] o.type #[vs, vx]).run P w = .ok v' w')
    (h : wpList P ops Q rest (a.put o.dst v') w') : wpList P ops Q (o :: rest) a w := by
  unfold wpList
  rw [if_pos hw]
  refine .inl ?_
  unfold Oper.wp
  simp [execOp, ho, resolve, invoke, builtin, hs, hx, hrun, Result.andThen]
  exact h

end Go.Proofs.Ytlnljanhnodhkaa

/- A region that draws its order, walked in an order of one's own choice: what only reads is taken ahead, under a condition that all else keeps; what makes or writes is carried out as it may come up. No program is named. -/
namespace Go.Proofs.Ytlnljanhnodhkaa
open Go.RowKit
set_option linter.unusedVariables false

/-- What hands back a value, if anything. -/
def readOp : Op → Bool
  | .move _ | .assign _ | .pick .. | .load .. | .binOp .. | .unOp .. | .convert .. | .fieldAddr .. | .field .. | .indexAddr .. | .index .. | .extract .. | .build .. | .slice .. | .nilCheck _ => true
  | .call { callee := .builtin .len, .. } => true
  | _ => false

theorem andThen_value {α : Type} {s : Result α} {f : α → Value} {n : Next} {w' : World} (h : (s.andThen fun v w => Result.ok (Next.value (f v)) w) = .ok n w') : ∃ v, n = .value v := by
  cases s with
  | ok v w => simp [Result.andThen] at h; exact ⟨_, h.1.symm⟩
  | halt x w => simp [Result.andThen] at h

theorem andThen_any {α : Type} {s : Result α} {g : α → World → Result Next} {n : Next} {w' : World} (hg : ∀ a w n w', g a w = .ok n w' → ∃ v, n = .value v) (h : s.andThen g = .ok n w') : ∃ v, n = .value v := by
  cases s with
  | ok v w => exact hg _ _ _ _ h
  | halt x w => simp [Result.andThen] at h

section
variable {P : Program} {ops : Array Oper} {Q : Exit → Act → World → Prop} {md : Region.Mode} {S : World → Prop}

theorem readOp_value {o : Oper} {ρ : Operand → Value} {w w' : World} {n : Next} (h : readOp o.op = true) (hr : (execOp ρ o).run P w = .ok n w') : ∃ v, n = .value v := by
  obtain ⟨dst, op, ty, pos, aft, gd⟩ := o
  cases op
  case nilCheck x =>
    unfold execOp at hr
    dsimp only at hr
    revert hr
    split
    · intro hr; simp [runtimePanic] at hr
    · intro hr; simp [runtimePanic] at hr
    · intro hr; simp [runtimePanic] at hr
    · split
      · intro hr; simp [runtimePanic] at hr
      · intro hr
        simp only [Sem.run_bind] at hr
        refine andThen_any (fun a w n w' hr => andThen_any (fun a w n w' hr => ?_) hr) hr
        split at hr
        · simp [unsupported] at hr
        · simp at hr; exact ⟨_, hr.1.symm⟩
      · intro hr; simp at hr; exact ⟨_, hr.1.symm⟩
    · intro hr; simp at hr; exact ⟨_, hr.1.symm⟩
  case call c =>
    obtain ⟨callee, args, at_⟩ := c
    cases callee <;> simp [readOp] at h
    rename_i b
    cases b <;> simp at h
    simp only [execOp, Sem.run_bind, resolve, invoke, builtin, Sem.run_pure, Result.andThen_ok] at hr
    exact andThen_value (f := id) hr
  all_goals first
    | (simp [readOp] at h; done)
    | (simp only [execOp, Sem.run_bind, Sem.run_pure] at hr; exact andThen_value (f := id) hr)
    | (simp only [execOp, Sem.run_bind, Sem.run_pure] at hr; exact andThen_value hr)
    | (simp [execOp] at hr; exact ⟨_, hr.1.symm⟩)
    | skip

/-- What the quiet walk shows of an operation that only reads. -/
theorem yieldsIf_of_quiet {i : Nat} {o : Oper} {a : Act} {K : Act → Prop} (hrd : readOp o.op = true) (hne : ∃ w, S w) (h : if Region.wanted o (yielded ops a.tmps) then o.quiet P a S K else K (a.put o.dst undef)) :
    ∃ v, YieldsIf P ops S o v a ∧ K (a.put o.dst v) := by
  by_cases hw : Region.wanted o (yielded ops a.tmps) = true
  · rw [if_pos hw] at h
    obtain ⟨v, h1, h2⟩ := h
    refine ⟨v, .inl ⟨hw, fun w hS => ?_⟩, h2⟩
    have h3 := h1 w hS
    unfold Oper.quietAt at h3
    cases hr : (execOp a.eval o).run P w with
    | ok n w' =>
      obtain ⟨u, rfl⟩ := readOp_value hrd hr
      rw [hr] at h3
      obtain ⟨rfl, rfl⟩ := h3
      rfl
    | halt x w' => rw [hr] at h3; exact h3.elim
  · rw [if_neg hw] at h
    exact ⟨undef, .inr ⟨by simpa using hw, rfl⟩, h⟩

/-- The first part of a walk, in whatever order is picked: none from number n on comes up; S holds behind each; then L. -/
def wpAnyM (P : Program) (md : Region.Mode) (ops : Array Oper) (Q : Exit → Act → World → Prop) (S : World → Prop) (n : Nat) (L : Array Bool → Act → World → Prop) : Nat → Array Bool → Act → World → Prop
  | 0, listed, a, w => L listed a w
  | f + 1, listed, a, w => Region.ready md ops listed ≠ [] ∧ ∀ i ∈ Region.ready md ops listed, i < n ∧ wpOp P ops Q i (fun a' w' => S w' ∧ wpAnyM P md ops Q S n L f (listed.setIfInBounds i true) a' w') a w

theorem wpAny_of_M {n g : Nat} {L : Array Bool → Act → World → Prop} (hL : ∀ listed a w, L listed a w → wpAny P md ops Q g listed a w) :
    ∀ (f : Nat) (listed : Array Bool) (a : Act) (w : World), wpAnyM P md ops Q S n L f listed a w → wpAny P md ops Q (f + g) listed a w
  | 0, listed, a, w, h => by rw [Nat.zero_add]; exact hL _ _ _ h
  | f + 1, listed, a, w, h => by
    rw [show f + 1 + g = (f + g) + 1 by omega]
    exact ⟨fun h0 => absurd h0 h.1, fun i hi => wpOp_mono (fun a' w' h' => wpAny_of_M hL f _ a' w' h'.2) (h.2 i hi).2⟩

theorem wpAnyM_first {n i : Nat} {oi : Oper} {v : Value} {L : Array Bool → Act → World → Prop} (hi : ops[i]? = some oi) (hsel : ∀ (j : Nat) (o : Oper) cs b, ops[j]? = some o → o.op ≠ .select cs b)
    (hQ : ∀ c a w, Q (.panic c) (a.put oi.dst v) w → Q (.panic c) a w)
    (hs : Region.sinkB md ops n = true) (hc : Region.chainB md ops n = true) (hn : n < ops.size) (hin : i < n)
    (hdone : ∀ listed a w, L listed a w → ∀ j ∈ Region.ready md ops listed, n ≤ j) :
    ∀ (f : Nat) (listed : Array Bool) (a : Act) (w : World), HeadInv md ops n listed →
      (∀ j oj, ops[j]? = some oj → j ≠ i → listed.getD j true = false → (∀ e ∈ oj.after, Region.binds md e = true → e.on ≠ i) → oi.apart ops oj = true) →
      i ∈ Region.ready md ops listed → YieldsIf P ops S oi v a → S w →
      wpAnyM P md ops Q S n L f (listed.setIfInBounds i true) (a.put oi.dst v) w → wpAnyM P md ops Q S n L (f + 1) listed a w := by
  intro f
  induction f with
  | zero =>
    intro listed a w inv _ hr hy hS H
    have hun := (mem_ready.1 hr).1
    refine ⟨fun h => (by rw [h] at hr; cases hr), fun j hj => ?_⟩
    have hjn : j < n := by
      rcases Nat.lt_or_ge j n with h | h
      · exact h
      · exact absurd hj (tail_waits hs hc hn inv _ i rfl hin hun j h)
    refine ⟨hjn, ?_⟩
    by_cases hji : j = i
    · subst hji; exact hy.wpOp hi hS ⟨hS, H⟩
    · have := hdone _ _ _ H j (ready_mono hj hji)
      omega
  | succ f ih =>
    intro listed a w inv hfree hr hy hS H
    have hun := (mem_ready.1 hr).1
    refine ⟨fun h => (by rw [h] at hr; cases hr), fun j hj => ?_⟩
    have hjn : j < n := by
      rcases Nat.lt_or_ge j n with h | h
      · exact h
      · exact absurd hj (tail_waits hs hc hn inv _ i rfl hin hun j h)
    refine ⟨hjn, ?_⟩
    by_cases hji : j = i
    · subst hji; exact hy.wpOp hi hS ⟨hS, H⟩
    · have h1 := (H.2 j (ready_mono hj hji)).2
      obtain ⟨hjun, oj, hoj, hall⟩ := mem_ready.1 hj
      have hnot : ∀ e ∈ oj.after, Region.binds md e = true → e.on ≠ i := fun e he hb heq => by
        have h1 := hall e he hb
        rw [heq, getD_both hun] at h1
        cases h1
      have h2 := wpOp_putIf hoj (hfree j oj hoj hji hjun hnot) (fun cs b => hsel i oi cs b hi) (fun cs b => hsel j oj cs b hoj) hQ hy h1
      have hfree' : ∀ k ok, ops[k]? = some ok → k ≠ i → (listed.setIfInBounds j true).getD k true = false →
          (∀ e ∈ ok.after, Region.binds md e = true → e.on ≠ i) → oi.apart ops ok = true := fun k ok hk hki hun hno => by
        refine hfree k ok hk hki ?_ hno
        by_cases hjk : j = k
        · subst hjk; exact hjun
        · rw [getD_set_ne true hjk] at hun; exact hun
      refine wpOp_mono (fun a' w' h3 => ⟨h3.2.1, ih (listed.setIfInBounds j true) a' w' (inv.set hj hjn) hfree' (ready_mono hr (Ne.symm hji)) h3.1 h3.2.1 ?_⟩) h2
      rw [Array.setIfInBounds_comm _ _ hji]
      exact h3.2.2

/-- An order of one's own choice. -/
inductive Plan where
  | leaf
  | take (i : Nat) (next : Plan)
  | one (i : Nat) (next : Plan)
  | two (i j : Nat) (next1 next2 : Plan)

/-- Operation number i. -/
def nth : List Oper → Nat → Oper
  | [], _ => { dst := none, op := .move (.tmp 0), type := 0, pos := "", after := #[], guard := none }
  | o :: _, 0 => o
  | _ :: l, n + 1 => nth l n
theorem nth_zero (o : Oper) (l : List Oper) : nth (o :: l) 0 = o := rfl
theorem nth_succ (o : Oper) (l : List Oper) (n : Nat) : nth (o :: l) (n + 1) = nth l n := rfl
theorem nth_get : ∀ (l : List Oper) (i : Nat), i < l.length → l[i]? = some (nth l i)
  | [], _, h => by simp at h
  | o :: l, 0, _ => rfl
  | o :: l, n + 1, h => by rw [List.getElem?_cons_succ]; exact nth_get l n (by simpa using h)

/-- Where a part of the walk that carries out one operation has to come. -/
def planPost (S : World → Prop) (Q : Exit → Act → World → Prop) (K : Act → World → Prop) : Exit → Act → World → Prop
  | .normal, a, w => S w ∧ K a w
  | .ret, a, w => Q .ret a w
  | .exit i, a, w => Q (.exit i) a w
  | .goto t, a, w => Q (.goto t) a w
  | .panic c, a, w => Q (.panic c) a w
  | .outgrown, a, w => Q .outgrown a w

/-- The walk. -/
def wpPlan (P : Program) (l : List Oper) (Q : Exit → Act → World → Prop) (S : World → Prop) (n : Nat) : Plan → Act → World → Prop
  | .leaf, a, w => wpList P l.toArray Q (l.drop n) a w
  | .take i next, a, w => wpQuiet P l.toArray S (fun a' => wpPlan P l Q S n next a' w) [nth l i] a
  | .one i next, a, w => wpList P l.toArray (planPost S Q (wpPlan P l Q S n next)) [nth l i] a w
  | .two i j n1 n2, a, w => wpList P l.toArray (planPost S Q (wpPlan P l Q S n n1)) [nth l i] a w ∧ wpList P l.toArray (planPost S Q (wpPlan P l Q S n n2)) [nth l j] a w

/-- All of these ahead. -/
def Plan.takes : List Nat → Plan → Plan
  | [], p => p
  | i :: l, p => .take i (Plan.takes l p)

/-- May it be gone so? -/
def planB (md : Region.Mode) (l : List Oper) (n : Nat) : Plan → Nat → Array Bool → Bool
  | .leaf, f, listed => decide (f = 0) && Region.seqB md l.toArray (l.length - n) n listed
  | .take i next, f, listed => decide (0 < f) && decide (i < n) && readOp (nth l i).op && (Region.ready md l.toArray listed).contains i && Region.free md l.toArray listed i && planB md l n next (f - 1) (listed.setIfInBounds i true)
  | .one i next, f, listed => decide (0 < f) && decide (i < n) && decide (Region.ready md l.toArray listed = [i]) && planB md l n next (f - 1) (listed.setIfInBounds i true)
  | .two i j n1 n2, f, listed => decide (0 < f) && decide (i < n) && decide (j < n) && decide (Region.ready md l.toArray listed = [i, j]) && planB md l n n1 (f - 1) (listed.setIfInBounds i true) && planB md l n n2 (f - 1) (listed.setIfInBounds j true)

theorem wpPlan_leaf {l : List Oper} {n : Nat} {a : Act} {w : World} : wpPlan P l Q S n .leaf a w = wpList P l.toArray Q (l.drop n) a w := rfl
theorem wpPlan_one {l : List Oper} {n i : Nat} {p : Plan} {a : Act} {w : World} : wpPlan P l Q S n (.one i p) a w = wpList P l.toArray (planPost S Q (wpPlan P l Q S n p)) [nth l i] a w := rfl
theorem wpPlan_takes_nil {l : List Oper} {n : Nat} {p : Plan} {a : Act} {w : World} : wpPlan P l Q S n (.takes [] p) a w = wpPlan P l Q S n p a w := rfl
theorem wpPlan_takes_cons {l : List Oper} {n i : Nat} {is : List Nat} {p : Plan} {a : Act} {w : World} : wpPlan P l Q S n (.takes (i :: is) p) a w = wpQuiet P l.toArray S (fun a' => wpPlan P l Q S n (.takes is p) a' w) [nth l i] a := rfl

theorem wp_congrQ {o : Oper} {a : Act} {w : World} {K : Act → World → Prop} {Q' : Exit → Act → World → Prop} (hp : ∀ c a w, Q' (.panic c) a w → Q (.panic c) a w) (ho : ∀ a w, Q' .outgrown a w → Q .outgrown a w) (h : o.wp P a w K Q') : o.wp P a w K Q := by
  unfold Oper.wp at *
  generalize (execOp a.eval o).run P w = r at *
  cases r with
  | ok n w' =>
    cases n <;> simp only [Oper.upon] at h ⊢ <;>
      first
        | exact h
        | exact Calls.mono h (fun e w'' he => by cases e <;> first | exact he | exact hp _ _ _ he | (obtain ⟨a', w', h'⟩ := he; exact ⟨a', w', ho _ _ h'⟩))
  | halt x w' => cases x <;> simp only [Oper.upon] at h ⊢ <;> first | exact h | exact hp _ _ _ h | exact ho _ _ h

theorem wpOp_of_one {l : List Oper} {i : Nat} {K : Act → World → Prop} {a : Act} {w : World} (hi : i < l.length) (h : wpList P l.toArray (planPost S Q K) [nth l i] a w) :
    wpOp P l.toArray Q i (fun a' w' => S w' ∧ K a' w') a w := by
  have ho : l.toArray[i]? = some (nth l i) := by simpa using nth_get l i hi
  unfold wpOp
  simp only [ho]
  unfold wpList at h
  by_cases hw : Region.wanted (nth l i) (yielded l.toArray a.tmps) = true
  · rw [if_pos hw] at h ⊢
    rcases h with h | ⟨h1, a', w', h2⟩
    · exact .inl (wp_congrQ (fun _ _ _ h => h) (fun _ _ h => h) h)
    · exact .inr ⟨h1, a', w', h2⟩
  · rw [if_neg hw] at h ⊢
    exact h

theorem wpAnyM_plan {l : List Oper} {n : Nat} (hsel : Region.noSelect l.toArray = true) (hs : Region.sinkB md l.toArray n = true) (hc : Region.chainB md l.toArray n = true) (hn : n < l.length) (hQ : ∀ c (x : Option Tmp) v a w, Q (.panic c) (a.put x v) w → Q (.panic c) a w) :
    ∀ (p : Plan) (f : Nat) (listed : Array Bool) (a : Act) (w : World), HeadInv md l.toArray n listed → planB md l n p f listed = true → S w → wpPlan P l Q S n p a w →
      wpAnyM P md l.toArray Q S n (fun listed' a' w' => Region.seqB md l.toArray (l.length - n) n listed' = true ∧ wpList P l.toArray Q (l.drop n) a' w') f listed a w := by
  have hn' : n < l.toArray.size := by simpa using hn
  intro p
  induction p with
  | leaf =>
    intro f listed a w inv hB hS h
    simp only [planB, Bool.and_eq_true, decide_eq_true_eq] at hB
    obtain ⟨rfl, hB⟩ := hB
    exact ⟨hB, h⟩
  | take i next ih =>
    intro f listed a w inv hB hS h
    simp only [planB, Bool.and_eq_true, decide_eq_true_eq] at hB
    obtain ⟨⟨⟨⟨⟨hf, hin⟩, hrd⟩, hr⟩, hfr⟩, hB⟩ := hB
    obtain ⟨f, rfl⟩ : ∃ g, f = g + 1 := ⟨f - 1, by omega⟩
    have ho : l.toArray[i]? = some (nth l i) := by simpa using nth_get l i (by omega)
    have hr' : i ∈ Region.ready md l.toArray listed := by simpa using hr
    simp only [wpPlan, wpQuiet] at h
    obtain ⟨v, hy, hK⟩ := yieldsIf_of_quiet (i := i) hrd ⟨w, hS⟩ h
    exact wpAnyM_first ho (Region.noSelect_spec hsel) (fun c a w => hQ c _ v a w) hs hc hn' hin (fun listed a w hL => seqB_ready hL.1) f listed a w inv (Region.free_spec ho hfr) hr' hy hS
      (ih f _ _ w (inv.set hr' hin) (by simpa using hB) hS hK)
  | one i next ih =>
    intro f listed a w inv hB hS h
    simp only [planB, Bool.and_eq_true, decide_eq_true_eq] at hB
    obtain ⟨⟨⟨hf, hin⟩, hr⟩, hB⟩ := hB
    obtain ⟨f, rfl⟩ : ∃ g, f = g + 1 := ⟨f - 1, by omega⟩
    refine ⟨by rw [hr]; simp, fun j hj => ?_⟩
    have hj' := hj
    rw [hr] at hj
    obtain rfl : j = i := by simpa using hj
    exact ⟨hin, wpOp_mono (fun a' w' h' => ⟨h'.1, ih f _ _ w' (inv.set hj' hin) (by simpa using hB) h'.1 h'.2⟩) (wpOp_of_one (by omega) h)⟩
  | two i k n1 n2 ih1 ih2 =>
    intro f listed a w inv hB hS h
    simp only [planB, Bool.and_eq_true, decide_eq_true_eq] at hB
    obtain ⟨⟨⟨⟨⟨hf, hin⟩, hkn⟩, hr⟩, hB1⟩, hB2⟩ := hB
    obtain ⟨f, rfl⟩ : ∃ g, f = g + 1 := ⟨f - 1, by omega⟩
    obtain ⟨g1, g2⟩ := h
    refine ⟨by rw [hr]; simp, fun j hj => ?_⟩
    have hj' := hj
    rw [hr] at hj
    rcases (by simpa using hj : j = i ∨ j = k) with rfl | rfl
    · exact ⟨hin, wpOp_mono (fun a' w' h' => ⟨h'.1, ih1 f _ _ w' (inv.set hj' hin) (by simpa using hB1) h'.1 h'.2⟩) (wpOp_of_one (by omega) g1)⟩
    · exact ⟨hkn, wpOp_mono (fun a' w' h' => ⟨h'.1, ih2 f _ _ w' (inv.set hj' hkn) (by simpa using hB2) h'.1 h'.2⟩) (wpOp_of_one (by omega) g2)⟩

/-- May the region be gone so? -/
def planOk (l : List Oper) (n : Nat) (p : Plan) : Bool :=
  Region.noSelect l.toArray && decide (n < l.length) && Region.sinkB .any l.toArray n && Region.chainB .any l.toArray n && planB .any l n p n (Array.replicate l.length false)

theorem wpAny_plan {l : List Oper} {a : Act} {w : World} (S : World → Prop) (n : Nat) (p : Plan) (hB : planOk l n p = true) (hQ : ∀ c (x : Option Tmp) v a w, Q (.panic c) (a.put x v) w → Q (.panic c) a w) (hS : S w)
    (h : wpPlan P l Q S n p a w) : wpAny P .any l.toArray Q l.toArray.size (Array.replicate l.toArray.size false) a w := by
  simp only [planOk, Bool.and_eq_true, decide_eq_true_eq] at hB
  obtain ⟨⟨⟨⟨hsel, hn⟩, hs⟩, hc⟩, hp⟩ := hB
  have inv0 : HeadInv .any l.toArray n (Array.replicate l.toArray.size false) :=
    ⟨by simp, fun j oj _ hl => (by rw [getD_replicate_false] at hl; cases hl), fun t _ ht => getD_in (by simpa using ht) (getD_replicate_false _ _)⟩
  have H := wpAnyM_plan (md := .any) hsel hs hc hn hQ p n _ a w inv0 (by simpa using hp) hS h
  have := wpAny_of_M (g := l.length - n) (fun listed a' w' hL => by
    have := wpAny_of_seq (md := .any) (Q' := Q) (l.drop n) n listed a' w' (fun j => by simp [List.getElem?_drop]) (by rw [List.length_drop]; exact hL.1) hL.2
    rwa [List.length_drop] at this) _ _ _ _ H
  rw [show n + (l.length - n) = l.toArray.size by simp; omega] at this
  exact this

/-- **A REGION THAT DRAWS, in an order of one's own choice.** -/
theorem region_plan {id : Nat} {a : Act} {w : World} {l : List Oper} (S : World → Prop) (n : Nat) (p : Plan) (hm : P.follows .mixedOrders = true) (hB : planOk l n p = true) (hQ : ∀ c (x : Option Tmp) v a w, Q (.panic c) (a.put x v) w → Q (.panic c) a w) (hS : S w.drew)
    (h : wpPlan P l Q S n p a w.drew) : (Code.region id l.toArray true).wp P Q a w :=
  wp_region_any hm (wpAny_plan S n p hB hQ hS h)

/-- .. in a round of a loop over a function. -/
theorem region_plan_round {id fuel l₀ : Nat} {a : Act} {w : World} {l : List Oper} (S : World → Prop) (n : Nat) (p : Plan) (hL : ¬ LetsOut Q) (hd : noDefer l.toArray = true) (hm : P.follows .mixedOrders = true) (hB : planOk l n p = true) (hQ : ∀ c (x : Option Tmp) v a w, Q (.panic c) (a.put x v) w → Q (.panic c) a w) (hS : S w.drew)
    (h : wpPlan P l Q S n p a w.drew) : (Code.region id l.toArray true).wpIn (Fence.wide.inRound l₀) fuel P Q a w :=
  wpIn_region_any hm (any_round hL hd _ _ _ _ (wpAny_plan S n p hB hQ hS h))

/-- A slice literal whose run is known; a guard that lets it by is no bar. -/
theorem wpList_build_run {w w' : World} {ops : Array Oper} {rest : List Oper} {o : Oper} {a : Act} {Q : Exit → Act → World → Prop} (t : TypeId) (len : Nat) (parts : Array (Nat × Operand))
    (ho : o.op = .buildSlice t len parts) (hw : Region.wanted o (yielded ops a.tmps) = true) (vs : List (Nat × Value)) (v' : Value) (hs : (parts.toList.map fun (i, x) => (i, a.eval x)) = vs)
    (hrun : (Instr.buildSlice t len vs.toArray).run P w = .ok v' w') (h : wpList P ops Q rest (a.put o.dst v') w') : wpList P ops Q (o :: rest) a w := by
  unfold wpList
  rw [if_pos hw]
  refine .inl ?_
  have hs' : (parts.map fun (i, x) => (i, a.eval x)) = vs.toArray := by
    apply Array.toList_inj.1
    rw [Array.toList_map, hs]
  unfold Oper.wp
  simp only [execOp, ho, Sem.run_bind, hs', hrun, Result.andThen_ok, Sem.run_pure]
  exact h
/-- A gate for an arm: the next operation is a slice literal. -/
theorem gate_build {w : World} {ops : Array Oper} {rest : List Oper} {a : Act} {Q : Exit → Act → World → Prop} {dst : Option Tmp} {t ty : TypeId} {len : Nat} {parts : Array (Nat × Operand)} {pos : String} {after : Array Edge} {guard : Option (Nat × Bool)}
    (h : wpList P ops Q ({ dst := dst, op := .buildSlice t len parts, type := ty, pos := pos, after := after, guard := guard } :: rest) a w) :
    wpList P ops Q ({ dst := dst, op := .buildSlice t len parts, type := ty, pos := pos, after := after, guard := guard } :: rest) a w := h
/-- Where one operation has been carried out. -/
theorem planPost_mk {K : Act → World → Prop} {a : Act} {w : World} (h1 : S w) (h2 : K a w) : planPost S Q K .normal a w := ⟨h1, h2⟩
end
end Go.Proofs.Ytlnljanhnodhkaa

/- What the walk of a statement is told of its arguments, whatever their types: cell by cell. -/
namespace Go.Proofs.Ytlnljanhnodhkaa
open Go.ChangeShapes Go.WideShapes Go.ChangeAt Go.RowKit
set_option linter.unusedVariables false

set_option maxRecDepth 100000 in
theorem own : ownKnob Try.prog.godebug = none := by kernel_rfl
set_option maxRecDepth 100000 in
theorem laidOut : laidOutB Try.prog = true := by kernel_rfl

/-- These cells read as a value of this type. -/
def Cells (W : World) (t : TypeId) (cs : List Value) : Prop :=
  ∃ (H : Type) (enc : TypeId × Value → H) (fuel : Nat) (x : DataW H × List MemPlace), DataW.trod enc Try.prog W 0 (fun _ => true) true fuel t cs = some x
/-- An argument. -/
def Arg (W : World) (t : TypeId) (v : Value) : Prop := (∃ base, Value.okWide Try.prog W .any base t v) ∧ Cells W t v.cells.toList

set_option maxRecDepth 100000 in
theorem Arg.mk {H : Type} {enc : TypeId × Value → H} {W : World} {base : Nat} {t : TypeId} {v : Value} {d : DataW H} {p : List MemPlace} (h : Value.okWide Try.prog W .any base t v) (k : DataW.Trod enc Try.prog W 0 (fun _ => true) true t v d p) : Arg W t v := by
  obtain ⟨fuel, hf⟩ := k
  exact ⟨⟨base, h⟩, H, enc, fuel, _, hf⟩

section
variable {W : World} {t e : TypeId} {cs : List Value} {v : Value}

set_option maxRecDepth 100000 in
theorem Cells.int {k : IntKind} (h : Cells W t cs) (hu : Try.prog.underlying t = some (.int k)) : ∃ n, cs = [.int k n] ∧ (Lit.int k n).wf = true := by
  obtain ⟨H, enc, fuel, x, hx⟩ := h
  obtain ⟨a, e1, e2, wa⟩ := DataW.trod_int hu hx
  exact ⟨a, e1, wa⟩
set_option maxRecDepth 100000 in
theorem Cells.bool (h : Cells W t cs) (hu : Try.prog.underlying t = some .bool) : ∃ b, cs = [.bool b] := by
  obtain ⟨H, enc, fuel, x, hx⟩ := h
  obtain ⟨a, e1, e2⟩ := DataW.trod_bool hu hx
  exact ⟨a, e1⟩
set_option maxRecDepth 100000 in
theorem Cells.slice (h : Cells W t cs) (hu : Try.prog.underlying t = some (.slice e)) : ∃ a len cap, cs = [.slice a len cap] ∧
    ((a = none ∧ len = 0 ∧ cap = 0) ∨ ∃ x, a = some x ∧ len ≤ cap ∧ cap ≤ maxLen ∧ ∀ i, i < cap → ∃ es, W.cells? 0 (x.add (i * Try.prog.cellsOf e)) (Try.prog.cellsOf e) = some es ∧ Cells W e es) := by
  obtain ⟨H, enc, fuel, x, hx⟩ := h
  rcases Go.Deep.open_slice hu hx with ⟨rfl, rfl⟩ | ⟨a, len, cap, m, n, D, Pl, rfl, _, h1, h2, rfl, rfl, h3⟩
  · exact ⟨_, _, _, rfl, .inl ⟨rfl, rfl, rfl⟩⟩
  · refine ⟨_, _, _, rfl, .inr ⟨a, rfl, h1, h2, fun i hi => ?_⟩⟩
    obtain ⟨es, g1, g2⟩ := h3 i (by simpa using hi)
    exact ⟨es, g1, H, enc, n, _, g2⟩
set_option maxRecDepth 100000 in
theorem Cells.struct {fs : Array Field} (h : Cells W t cs) (hu : Try.prog.underlying t = some (.struct fs)) : cs.length = Try.prog.cellsOf t ∧
    ∀ (j : Nat) f, fs[j]? = some f → Cells W f.type ((cs.drop f.offset).take (Try.prog.cellsOf f.type)) := by
  obtain ⟨H, enc, fuel, x, hx⟩ := h
  obtain ⟨xs, n, _, rfl, hl, hlen, hf⟩ := DataW.trod_struct hu hx
  refine ⟨hl, fun j f hj => ?_⟩
  have h1 := hf j f hj
  have h2 : j < xs.length := by
    rw [hlen]
    exact (Array.getElem?_eq_some_iff.1 hj).1
  rw [List.getElem?_eq_getElem h2] at h1
  exact ⟨H, enc, n, _, h1⟩
set_option maxRecDepth 100000 in
theorem Cells.array {n : Nat} (h : Cells W t cs) (hu : Try.prog.underlying t = some (.array n e)) : cs.length = Try.prog.cellsOf t ∧
    ∀ i, i < n → Cells W e ((cs.drop (i * Try.prog.cellsOf e)).take (Try.prog.cellsOf e)) := by
  obtain ⟨H, enc, fuel, x, hx⟩ := h
  obtain ⟨xs, m, _, rfl, hl, hlen, hf⟩ := DataW.trod_array hu hx
  refine ⟨hl, fun j hj => ?_⟩
  have h1 := hf j hj
  rw [List.getElem?_eq_getElem (by omega)] at h1
  exact ⟨H, enc, m, _, h1⟩

set_option maxRecDepth 100000 in
theorem Arg.int {k : IntKind} (h : Arg W t v) (hu : Try.prog.underlying t = some (.int k)) : ∃ n, v = .int k n ∧ (Lit.int k n).wf = true := by
  obtain ⟨⟨base, ho⟩, hc⟩ := h
  obtain ⟨n, rfl⟩ := okWide_int hu ho
  obtain ⟨m, e1, wm⟩ := hc.int hu
  simp [Value.cells] at e1
  subst e1
  exact ⟨_, rfl, wm⟩
set_option maxRecDepth 100000 in
theorem Arg.slice (h : Arg W t v) (hu : Try.prog.underlying t = some (.slice e)) : ∃ a len cap, v = .slice a len cap ∧
    ((a = none ∧ len = 0 ∧ cap = 0) ∨ ∃ x, a = some x ∧ len ≤ cap ∧ cap ≤ maxLen ∧ ∀ i, i < cap → ∃ es, W.cells? 0 (x.add (i * Try.prog.cellsOf e)) (Try.prog.cellsOf e) = some es ∧ Cells W e es) := by
  obtain ⟨⟨base, ho⟩, hc⟩ := h
  obtain ⟨a, len, cap, rfl⟩ := okWide_slice hu ho
  obtain ⟨a', len', cap', e1, r⟩ := hc.slice hu
  simp [Value.cells] at e1
  obtain ⟨rfl, rfl, rfl⟩ := e1
  exact ⟨_, _, _, rfl, r⟩
set_option maxRecDepth 100000 in
theorem Arg.agg (h : Arg W t v) (hu : (∃ fs, Try.prog.underlying t = some (.struct fs)) ∨ ∃ n e, Try.prog.underlying t = some (.array n e)) : ∃ cs : List Value, v = .agg cs.toArray ∧ cs.length = Try.prog.cellsOf t ∧ Cells W t cs := by
  obtain ⟨⟨base, ho⟩, hc⟩ := h
  have : ∃ cs : Array Value, v = .agg cs ∧ cs.size = Try.prog.cellsOf t := by
    rcases hu with ⟨fs, hu⟩ | ⟨n, e, hu⟩
    · exact okWide_struct hu ho
    · simp only [Value.okWide, hu] at ho
      obtain ⟨cs, h1, h2, _⟩ := ho
      exact ⟨cs, h1, h2⟩
  obtain ⟨⟨cs⟩, rfl, hs⟩ := this
  exact ⟨cs, rfl, by simpa using hs, by simpa [Value.cells] using hc⟩
end

/-- One cell, read. -/
theorem cells_one {W : World} {x : Addr} {es : List Value} (h : W.cells? 0 x 1 = some es) : ∃ v, es = [v] ∧ W.cell? x = some v := by
  unfold World.cells? at h
  rw [if_pos (Nat.zero_le _)] at h
  simp only [List.range_one, List.mapM_cons, List.mapM_nil] at h
  have e : x.add 0 = x := by simp [Addr.add]
  rw [e] at h
  cases hc : W.cell? x with
  | none => rw [hc] at h; cases h
  | some v => rw [hc] at h; exact ⟨v, by simpa using h.symm, rfl⟩

/-- Several cells, read. -/
theorem cells_many {W : World} {x : Addr} {n : Nat} {es : List Value} (h : W.cells? 0 x n = some es) : es.length = n ∧ ∀ i, i < n → ∃ v, es[i]? = some v ∧ W.cell? (x.add i) = some v := by
  unfold World.cells? at h
  rw [if_pos (Nat.zero_le _)] at h
  have hl : es.length = n := by simpa using mapM_some_length h
  refine ⟨hl, fun i hi => ?_⟩
  have := mapM_some_get h i i (by simp [hi])
  rw [List.getElem?_eq_getElem (by omega)] at this
  exact ⟨es[i], by rw [List.getElem?_eq_getElem (by omega)], this⟩

theorem cell_plain {W : World} {x : Addr} {v : Value} (h : W.cell? x = some v) : ∃ b off, x = ⟨b, off, none⟩ ∧ b < W.heap.size := by
  obtain ⟨b, off, spot⟩ := x
  have : spot = none := World.cell?_spot h
  subst this
  obtain ⟨o, ho, _⟩ := cells_of_cell h
  exact ⟨b, off, rfl, (Array.getElem?_eq_some_iff.1 ho).1⟩

theorem add_plain (b off j : Nat) : (⟨b, off, none⟩ : Addr).add j = ⟨b, off + j, none⟩ := by unfold Addr.add; split <;> simp_all
end Go.Proofs.Ytlnljanhnodhkaa

/- Slices of integers among the arguments; small arrays. -/
namespace Go.Proofs.Ytlnljanhnodhkaa
open Go.ChangeShapes Go.WideShapes Go.ChangeAt Go.RowKit
set_option linter.unusedVariables false

set_option maxRecDepth 100000 in
theorem sl_of_cells {k : IntKind} {W : World} {e : TypeId} {a : Option Addr} {len cap : Nat} (he : Try.prog.underlying e = some (.int k)) (hc : Try.prog.cellsOf e = 1)
    (h : (a = none ∧ len = 0 ∧ cap = 0) ∨ ∃ x, a = some x ∧ len ≤ cap ∧ cap ≤ maxLen ∧ ∀ i, i < cap → ∃ es, W.cells? 0 (x.add (i * Try.prog.cellsOf e)) (Try.prog.cellsOf e) = some es ∧ Cells W e es) :
    ∃ xs : List Int, xs.length = len ∧ len ≤ maxLen ∧ Sl k W (.slice a len cap) xs ∧ ∀ n ∈ xs, (Lit.int k n).wf = true := by
  rcases h with ⟨rfl, rfl, rfl⟩ | ⟨x, rfl, h1, h2, h3⟩
  · exact ⟨[], rfl, Nat.zero_le _, Sl.nil _ _, fun n hn => by cases hn⟩
  · rw [hc] at h3
    have h4 : ∀ i, i < cap → ∃ n, W.cell? (x.add i) = some (.int k n) ∧ (Lit.int k n).wf = true := by
      intro i hi
      obtain ⟨es, g1, g2⟩ := h3 i hi
      rw [Nat.mul_one] at g1
      obtain ⟨v, rfl, hv⟩ := cells_one g1
      obtain ⟨n, e1, wn⟩ := g2.int he
      simp at e1
      subst e1
      exact ⟨n, hv, wn⟩
    have h5 : ∀ i, ∃ n, i < cap → W.cell? (x.add i) = some (.int k n) ∧ (Lit.int k n).wf = true := fun i => by
      by_cases hi : i < cap
      · obtain ⟨n, hn⟩ := h4 i hi; exact ⟨n, fun _ => hn⟩
      · exact ⟨0, fun h => absurd h hi⟩
    obtain ⟨f, hf⟩ := Classical.axiomOfChoice h5
    refine ⟨(List.range len).map f, by simp, by omega, ?_, ?_⟩
    · refine ⟨some x, cap, by simp, by simp; omega, h2, ?_, fun e => by cases e⟩
      by_cases h0 : len = 0
      · subst h0; exact .inl rfl
      · obtain ⟨hc0, _⟩ := hf 0 (by omega)
        have e0 : x.add 0 = x := by simp [Addr.add]
        rw [e0] at hc0
        obtain ⟨b, off, rfl, hb⟩ := cell_plain hc0
        refine .inr ⟨b, off, rfl, hb, fun j hj => ?_⟩
        simp at hj
        have := (hf j (by omega)).1
        rw [add_plain] at this
        rw [this]
        simp [hj]
    · intro n hn
      obtain ⟨i, hi, rfl⟩ := List.mem_map.1 hn
      exact (hf i (by have := List.mem_range.1 hi; omega)).2

section
variable {W : World} {t e : TypeId} {v : Value} {k : IntKind}
set_option maxRecDepth 100000 in
theorem Arg.sl (h : Arg W t v) (hu : Try.prog.underlying t = some (.slice e)) (he : Try.prog.underlying e = some (.int k)) (hc : Try.prog.cellsOf e = 1) :
    ∃ a len cap, ∃ xs : List Int, v = .slice a len cap ∧ xs.length = len ∧ len ≤ maxLen ∧ Sl k W (.slice a len cap) xs ∧ ∀ n ∈ xs, (Lit.int k n).wf = true := by
  obtain ⟨a, len, cap, rfl, r⟩ := h.slice hu
  obtain ⟨xs, r⟩ := sl_of_cells he hc r
  exact ⟨a, len, cap, xs, rfl, r⟩
set_option maxRecDepth 100000 in
theorem Cells.sl {cs : List Value} (h : Cells W t cs) (hu : Try.prog.underlying t = some (.slice e)) (he : Try.prog.underlying e = some (.int k)) (hc : Try.prog.cellsOf e = 1) :
    ∃ a len cap, ∃ xs : List Int, cs = [.slice a len cap] ∧ xs.length = len ∧ len ≤ maxLen ∧ Sl k W (.slice a len cap) xs ∧ ∀ n ∈ xs, (Lit.int k n).wf = true := by
  obtain ⟨a, len, cap, rfl, r⟩ := h.slice hu
  obtain ⟨xs, r⟩ := sl_of_cells he hc r
  exact ⟨a, len, cap, xs, rfl, r⟩
set_option maxRecDepth 100000 in
theorem Arg.bytes (h : Arg W t v) (hu : Try.prog.underlying t = some (.slice e)) (he : Try.prog.underlying e = some (.int .u8)) (hc : Try.prog.cellsOf e = 1) :
    ∃ a len cap, ∃ xs : List Int, v = .slice a len cap ∧ xs.length = len ∧ len ≤ maxLen ∧ Sl .u8 W (.slice a len cap) xs ∧ IsBytes xs := by
  obtain ⟨a, len, cap, xs, rfl, h1, h2, h3, h4⟩ := h.sl hu he hc
  exact ⟨a, len, cap, xs, rfl, h1, h2, h3, fun j => by have := range_u8 h4 j; omega⟩
set_option maxRecDepth 100000 in
theorem Cells.bytes {cs : List Value} (h : Cells W t cs) (hu : Try.prog.underlying t = some (.slice e)) (he : Try.prog.underlying e = some (.int .u8)) (hc : Try.prog.cellsOf e = 1) :
    ∃ a len cap, ∃ xs : List Int, cs = [.slice a len cap] ∧ xs.length = len ∧ len ≤ maxLen ∧ Sl .u8 W (.slice a len cap) xs ∧ IsBytes xs := by
  obtain ⟨a, len, cap, xs, rfl, h1, h2, h3, h4⟩ := h.sl hu he hc
  exact ⟨a, len, cap, xs, rfl, h1, h2, h3, fun j => by have := range_u8 h4 j; omega⟩
set_option maxRecDepth 100000 in
/-- An array of two integers. -/
theorem Arg.two (h : Arg W t v) (hu : Try.prog.underlying t = some (.array 2 e)) (he : Try.prog.underlying e = some (.int k)) (hc : Try.prog.cellsOf e = 1) (hs : Try.prog.cellsOf t = 2) :
    ∃ a b, v = .agg #[.int k a, .int k b] ∧ (Lit.int k a).wf = true ∧ (Lit.int k b).wf = true := by
  obtain ⟨cs, rfl, hl, hcs⟩ := h.agg (.inr ⟨_, _, hu⟩)
  obtain ⟨_, hj⟩ := hcs.array hu
  rw [hs] at hl
  rw [hc] at hj
  match cs, hl with
  | [x, y], _ =>
    obtain ⟨a, e1, wa⟩ := (hj 0 (by omega)).int he
    obtain ⟨b, e2, wb⟩ := (hj 1 (by omega)).int he
    simp at e1 e2
    subst e1 e2
    exact ⟨a, b, rfl, wa, wb⟩
end
end Go.Proofs.Ytlnljanhnodhkaa

/- A range over a function whose iterator reads, between two rounds, what the body itself writes: the iterator's contract rests on the caller's own invariant. No program is named. -/
namespace Go.Proofs.Ytlnljanhnodhkaa
open Go.RowKit
set_option linter.unusedVariables false

variable {F : Fence} {n : Nat} {P : Program}

/-- The record of a loop at rest, and the block of its rounds' deferred calls. -/
structure Books (W : World) (B : Nat) (r : Loop) : Prop where
  loop : W.heap[B + 1]? = some (.loop r)
  defers : W.heap[B]? = some (.deferred (some []))

theorem Books.lt {W : World} {B : Nat} {r : Loop} (h : Books W B r) : B + 1 < W.heap.size := (Array.getElem?_eq_some_iff.1 h.loop).1

theorem Books.put {W : World} {B : Nat} {r : Loop} (h : Books W B r) (r' : Loop) : Books (W.putObj (B + 1) (.loop r')) B r' :=
  ⟨World.putObj_heap_same h.lt, (World.putObj_heap_other (by omega)).trans h.defers⟩

theorem Books.from {W W' : World} {B : Nat} {r : Loop} (h : Books W B r) (hk : KeepsFrom B W W') : Books W' B r :=
  ⟨hk.same _ _ (by omega) h.loop rfl, hk.same _ _ (Nat.le_refl _) h.defers rfl⟩

theorem Books.kept {W W' : World} {B : Nat} {r : Loop} {row : Option Nat} (h : Books W B r) (hg : W.grownBy W' row) (hr : ∀ k, row = some k → ∃ o : Obj, W.heap[k]? = some o ∧ o.isWalk = true) : Books W' B r :=
  ⟨(grownBy_keeps hg hr h.loop rfl).trans h.loop, (grownBy_keeps hg hr h.defers rfl).trans h.defers⟩

end Go.Proofs.Ytlnljanhnodhkaa

/- Slices of bytes in memory: read, copied, cut, appended, made a string of. -/
namespace Go.Proofs.Ytlnljanhnodhkaa
open Go.RowKit Go.Shelf
set_option linter.unusedVariables false

set_option maxRecDepth 100000 in
theorem info_u8 : (Try.prog.info? 5).map (fun i => (i.zero, i.size, i.bytes)) = some (some (.int .u8 0), 1, 1) := by kernel_rfl

/-- Where the bytes of a slice value lie. -/
def Lies (w : World) (a : Option Addr) (len : Nat) (bs : List Int) : Prop :=
  len = 0 ∨ ∃ b off, a = some ⟨b, off, none⟩ ∧ b < w.heap.size ∧ ∀ j, j < len → w.cell? ⟨b, off + j, none⟩ = some (.int .u8 (bs[j]?.getD 0))

theorem Lies.of_sl {w : World} {v : Value} {bs : List Int} (h : Sl .u8 w v bs) : ∃ a cap, v = .slice a bs.length cap ∧ Lies w a bs.length bs ∧ bs.length ≤ maxLen := by
  obtain ⟨a, cap, rfl, h1, h2, h, _⟩ := h
  refine ⟨a, cap, rfl, ?_, Nat.le_trans h1 h2⟩
  rcases h with rfl | h
  · exact .inl rfl
  · exact .inr h

theorem grown_below {w w' : World} (h : Below w.heap.size w w') (row : Option Nat) : w.grownBy w' row := ⟨h.os, h.tape, h.output, h.size, fun k hk _ => h.block k hk⟩

theorem grown_trans {a b c : World} {row : Option Nat} (h : a.grownBy b row) (k : b.grownBy c row) : a.grownBy c row :=
  ⟨k.os.trans h.os, k.tape.trans h.tape, k.output.trans h.output, Nat.le_trans h.size k.size, fun i hi hn => (k.block i (Nat.lt_of_lt_of_le hi h.size) hn).trans (h.block i hi hn)⟩

/-- What a slice owns it leads to. -/
theorem Sl.of_owns {w : World} {base : Nat} {v : Value} {bs : List Int} (h : w.ownsRow base 5 1 v bs.length (bs.map (Value.int .u8))) : Sl .u8 w v bs := by
  rcases h.2 with ⟨rfl, h0⟩ | ⟨g, cap, cur, rfl, _, hg, h1, h2, h3, h4⟩
  · obtain rfl := List.eq_nil_of_length_eq_zero h0
    exact Sl.nil _ _
  · refine Sl.at (off := 0) h1 h2 (Array.getElem?_eq_some_iff.1 hg).1 fun j hj => ?_
    rw [cell_of_row _ _ _ _ _ _ hg]
    have e : (cur.toList.take (bs.length * 1))[0 + j]? = (bs.map (Value.int .u8))[0 + j]? := by rw [h4]
    rw [List.getElem?_take, if_pos (by omega)] at e
    rw [← Array.getElem?_toList, e]
    simp [hj]

theorem sl_new {W : World} {g : Nat} {xs : List Int} (h : W.heap[g]? = some (.cells (xs.map (Value.int .u8)).toArray 5 (0, 0))) (hm : xs.length ≤ maxLen) :
    Sl .u8 W (.slice (some ⟨g, 0, none⟩) xs.length xs.length) xs := by
  refine Sl.at (off := 0) (Nat.le_refl _) hm (Array.getElem?_eq_some_iff.1 h).1 fun j hj => ?_
  rw [cell_of_row _ _ _ _ _ _ h]
  simp [hj]

set_option maxRecDepth 100000 in
theorem conv_sl {w : World} {v : Value} {xs : List Int} (h : Sl .u8 w v xs) : (convert 25 9 v).run Try.prog w = .ok (.string (strOfNums xs)) w := by
  obtain ⟨a, cap, rfl, h1, h2, h, _⟩ := h
  rcases h with rfl | ⟨b, off, rfl, h3, h4⟩
  · cases a with
    | none => exact run_convert_bytes_nil w 25 5 Try.underlying25 Try.underlying5 0 cap 9 Try.underlying9
    | some x =>
      rw [run_convert_bytes_string w 25 9 5 _ _ cap Try.underlying25 Try.underlying5 Try.underlying9, run_bytesToString w x _ cap [] (by have := run_loadCells_list (P := Try.prog) w x [] (fun j v hj => by simp at hj); simpa using this)]
      rfl
  · exact run_convert_bytes_arg w 25 5 Try.underlying25 Try.underlying5 b off _ cap xs rfl (fun i hi => by rw [List.getD_eq_getElem?_getD]; exact h4 i hi) 9 Try.underlying9

set_option maxRecDepth 100000 in
/-- Bytes of whatever slice appended to a row of one's own. -/
theorem run_append_bytes (base : Nat) (w : World) (v : Value) (xs : List Int) (hown : w.ownsRow base 5 1 v xs.length (xs.map (Value.int .u8))) (x : Value) (bs : List Int) (hx : Sl .u8 w x bs)
    (hlen : xs.length + bs.length ≤ 140737488355328) (hbase : base ≤ w.heap.size) :
    ∃ v' w', (Builtin.append_ #[25, 25] 25 #[v, x]).run Try.prog w = .ok v' w' ∧ w'.ownsRow base 5 1 v' (xs ++ bs).length ((xs ++ bs).map (Value.int .u8)) ∧ w.grownBy w' v.ownBlock := by
  obtain ⟨i0, hi, hz0, hz1, hz2⟩ := info_parts info_u8
  obtain ⟨a, cap, rfl, h1, h2, h, hnil⟩ := hx
  have hap : ∀ ad, a = some ad → (∀ j u, (bs.map (Value.int .u8))[j]? = some u → w.cell? (ad.add j) = some u) → ∃ v' w', (Builtin.append_ #[25, 25] 25 #[v, .slice a bs.length cap]).run Try.prog w = .ok v' w' ∧ w'.ownsRow base 5 1 v' (xs ++ bs).length ((xs ++ bs).map (Value.int .u8)) ∧ w.grownBy w' v.ownBlock := by
    rintro ad rfl hc
    obtain ⟨v', w', hr, ho, hg, _⟩ := run_append_own (P := Try.prog) w base 25 25 5 i0 (.int .u8 0) 1 1 Try.underlying25 hi hz0 hz1 hz2 rfl (by decide) v xs.length _ hown ad bs.length cap (bs.map (Value.int .u8)) (by simp) hc
      (fun u hu => by obtain ⟨y, _, rfl⟩ := List.mem_map.1 hu; rfl) (by unfold maxLen; omega) (by omega) hbase
    exact ⟨v', w', hr, by rw [List.length_append, List.map_append]; exact ho, hg⟩
  rcases h with rfl | ⟨b, off, rfl, h3, h4⟩
  · cases a with
    | some ad => exact hap ad rfl (fun j u hj => by simp at hj)
    | none =>
      obtain rfl := hnil rfl
      exact ⟨v, w, run_append_owned_none (P := Try.prog) (w := w) base 25 25 5 i0 1 Try.underlying25 hi v xs.length _ hown, by simpa using hown, World.grownBy.refl _ _⟩
  · refine hap _ rfl fun j u hj => ?_
    have hjl : j < bs.length := by
      have := (List.getElem?_eq_some_iff.1 hj).1
      rwa [List.length_map] at this
    have hplain : (⟨b, off, none⟩ : Addr).add j = ⟨b, off + j, none⟩ := by unfold Addr.add; split <;> simp_all
    rw [hplain, h4 j hjl]
    rw [List.getElem?_map, List.getElem?_eq_getElem hjl] at hj
    rw [List.getElem?_eq_getElem hjl]
    exact hj

end Go.Proofs.Ytlnljanhnodhkaa

/- Rows of pairs in memory: as they come in, and of one's own; appended, cut. -/
namespace Go.Proofs.Ytlnljanhnodhkaa
open Go.RowKit
set_option linter.unusedVariables false

/-! A pair as one value. -/
end Go.Proofs.Ytlnljanhnodhkaa

/- A region that draws its order, whose operations read what lay and whose calls leave what lay: walked once, in the order of the text. -/
namespace Go.Proofs.Ytlnljanhnodhkaa
open Go.RowKit
set_option linter.unusedVariables false

/-- A world that has what lay in W, and maybe more. -/
def Ext (W : World) : Type := {w : World // Below W.heap.size W w}
instance (W : World) : Nonempty (Ext W) := ⟨⟨W, Below.refl _ _⟩⟩

theorem region_ext {P : Program} {id : Nat} {Q : Exit → Act → World → Prop} {a : Act} {w : World} {l : List Oper} (hm : P.follows .mixedOrders = true) (hB : Region.lexB .any l.toArray = true)
    (h : wpQuiet P l.toArray (fun w' => ∃ x : Ext w, w' = x.1) (fun a' => ∀ x : Ext w, Q .normal a' x.1) l a) : (Code.region id l.toArray true).wp P Q a w := by
  refine wp_region_quiet (C := fun w' => ∃ x : Ext w, w' = x.1) hm hB ⟨⟨w.drew, (Below.refl _ w).drew⟩, rfl⟩ ?_
  have : (fun a' => ∀ w', (∃ x : Ext w, w' = x.1) → Q .normal a' w') = fun a' => ∀ x : Ext w, Q .normal a' x.1 := by
    funext a'
    exact propext ⟨fun h x => h _ ⟨x, rfl⟩, fun h w' ⟨x, e⟩ => e ▸ h x⟩
  rw [this]
  simpa using h

theorem calls_ext {P : Program} {f : FuncId} {args : Array Value} {W : World} {v : Value} (x : Ext W) (h : Calls P f args x.1 fun e w' => e = .returned v ∧ Below x.1.heap.size x.1 w') :
    Calls P f args x.1 fun e w'' => e = .returned v ∧ ∃ y : Ext W, w'' = y.1 :=
  h.mono fun e w' ⟨h1, h2⟩ => ⟨h1, ⟨w', x.2.trans (h2.mono x.2.size)⟩, rfl⟩

end Go.Proofs.Ytlnljanhnodhkaa

/- The library's Clone and Insert at pairs. -/
namespace Go.Proofs.Ytlnljanhnodhkaa
open Go.RowKit
set_option linter.unusedVariables false

end Go.Proofs.Ytlnljanhnodhkaa

/- make of a slice whose run is known; a guard that lets it by is no bar. -/
namespace Go.Proofs.Ytlnljanhnodhkaa
open Go.RowKit
set_option linter.unusedVariables false
theorem wpList_make_run {P : Program} {w w' : World} {ops : Array Oper} {rest : List Oper} {o : Oper} {a : Act} {Q : Exit → Act → World → Prop} (t : TypeId) (l c : Operand)
    (ho : o.op = .makeSlice t l c) (hw : Region.wanted o (yielded ops a.tmps) = true) (vl vc v' : Value) (hl : a.eval l = vl) (hc : a.eval c = vc)
    (hrun : (Instr.makeSlice t vl vc).run P w = .ok v' w') (h : wpList P ops Q rest (a.put o.dst v') w') : wpList P ops Q (o :: rest) a w := by
  unfold wpList
  rw [if_pos hw]
  refine .inl ?_
  unfold Oper.wp
  simp only [execOp, ho, Sem.run_bind, hl, hc, hrun, Result.andThen_ok, Sem.run_pure]
  exact h
/-- A gate for an arm: the next operation makes a slice. -/
theorem gate_make {P : Program} {w : World} {ops : Array Oper} {rest : List Oper} {a : Act} {Q : Exit → Act → World → Prop} {dst : Option Tmp} {t ty : TypeId} {l c : Operand} {pos : String} {after : Array Edge} {guard : Option (Nat × Bool)}
    (h : wpList P ops Q ({ dst := dst, op := .makeSlice t l c, type := ty, pos := pos, after := after, guard := guard } :: rest) a w) :
    wpList P ops Q ({ dst := dst, op := .makeSlice t l c, type := ty, pos := pos, after := after, guard := guard } :: rest) a w := h
end Go.Proofs.Ytlnljanhnodhkaa

/- The small functions of the developers' bits: size, holds, bit, New, Has, With, Or; Clone. -/
namespace Go.Proofs.Ytlnljanhnodhkaa
open Go.RowKit Go.Shelf
set_option linter.unusedVariables false

set_option maxRecDepth 100000 in
theorem eql_some (p : Addr) (n c : Nat) (w : World) : (binOp .eql 25 (.slice (some p) n c) (.slice none 0 0)).run Try.prog w = .ok (.bool false) w := by kernel_rfl
set_option maxRecDepth 100000 in
theorem eql_none (w : World) : (binOp .eql 25 (.slice none 0 0) (.slice none 0 0)).run Try.prog w = .ok (.bool true) w := by kernel_rfl
attribute [local go_sem] eql_some eql_none

end Go.Proofs.Ytlnljanhnodhkaa

/- Rows of snapshots in memory: as they come in, and of one's own; appended, stored. -/
namespace Go.Proofs.Ytlnljanhnodhkaa
open Go.RowKit
set_option linter.unusedVariables false

/-- A snapshot's three cells. -/
abbrev SlV := Option Addr × Nat × Nat
def slV (x : SlV) : Value := .slice x.1 x.2.1 x.2.2
/-! A snapshot as one value. -/
/-! Snapshots among the arguments. -/
/-! Snapshots of one's own. -/
end Go.Proofs.Ytlnljanhnodhkaa

/- A range over a function whose rounds are numbered: the iterator's contract rests on the caller's own invariant; the loop's variables may be boxed. No program is named. -/
namespace Go.Proofs.Ytlnljanhnodhkaa
open Go.RowKit
set_option linter.unusedVariables false

variable {F : Fence} {n : Nat} {P : Program}

/-- What an iterator of m items owes to a caller whose rounds keep R. -/
def SeqNum (F : Fence) (n : Nat) (P : Program) (g : Nat) (lb : Array Value) (encs : Nat → Array Value) (R : World → Prop) (m : Nat) (w : World) : Prop :=
  ∀ (l : Nat) (J Jx : Nat → World → Prop) (W : World), Below w.heap.size w W → (∀ k W, J k W → R W) → AbidesFrom W.heap.size J → AbidesFrom W.heap.size Jx →
    (∀ k W1, k < m → J k W1 → YieldAt F (n - 1) P l (encs k) W1 fun e W' => (e = .returned (.bool true) ∧ J (k + 1) W') ∨ (e = .returned (.bool false) ∧ Jx (k + 1) W')) →
    J 0 W →
    CallsIn F n P g (#[.func (.yield l) #[] #[]] ++ lb) W fun e W' => (∃ v, e = .returned v) ∧ (J m W' ∨ (∃ k, k ≤ m ∧ Jx k W'))

/-- How a round may be left. -/
def numPost (B : Nat) (I : Nat → World → Prop) (Ix : Code → Nat → World → Prop) (k : Nat) (W : World) : Exit → Act → World → Prop
  | .normal, _, W' => KeepsFrom B W W' ∧ I k W'
  | .ret, _, W' => KeepsFrom B W W' ∧ Ix .ret k W'
  | .exit id, _, W' => KeepsFrom B W W' ∧ Ix (.exit id) k W'
  | .goto t, _, W' => KeepsFrom B W W' ∧ Ix (.goto t) k W'
  | .panic _, _, _ => False
  | .outgrown, _, _ => False

/-- **A loop over such an iterator.** -/
theorem wpIn_rangeFunc_num {g : Operand} {ps : Array Tmp} {assign body : Code} {Q : Exit → Act → World → Prop} {a : Act} {w : World}
    (hro : F.round = none) (h1 : 1 ≤ n) {gf : Nat} {lb : Array Value} (hg : a.eval g = .func (.func gf) #[] lb) (hFg : F.fn gf) (eg : ∀ args w, (callFunc gf args).run P w = .ok (.enter gf args) w)
    {encs : Nat → Array Value} {R : World → Prop} {m : Nat} {w0 : World} (hseq : SeqNum F (n - 1) P gf lb encs R m w0)
    (hb0 : Below w0.heap.size w0 w) (hps : ∀ x, (encs x).size = ps.size)
    (I : Nat → World → Prop) (Ix : Code → Nat → World → Prop) (hR : ∀ k W, I k W → R W) (hI : OwnFrom w.heap.size I) (hIx : ∀ c, OwnFrom w.heap.size (Ix c)) (h0 : I 0 w) (Ax : Nat → Act → World → Prop) (hAx : ∀ x a', OwnFrom w.heap.size (fun (_ : Unit) W => Ax x a' W))
    (hassign : ∀ (l : Nat) (k : Nat) (W : World) (K : Act → World → Prop), k < m → I k W → (∀ a' W', KeepsFrom w.heap.size W W' → I k W' → Ax k a' W' → K a' W') →
      assign.wpIn (F.inRound l) (n - 1 - 1) P (Exit.then K (fun _ _ _ => False)) { tmps := (ps.zip (encs k)).foldl (fun t (p, v) => t.setIfInBounds p v) a.tmps, defers := [] } W)
    (hbody : ∀ (l : Nat) (k : Nat) (a' : Act) (W : World), w.heap.size ≤ l → (∃ r, W.heap[l]? = some (.loop r)) → k < m → I k W → Ax k a' W → body.wpIn (F.inRound l) (n - 1 - 1) P (numPost w.heap.size I Ix (k + 1) W) a' W)
    (hdone : ∀ (D : Nat) (W : World), w.heap.size ≤ D → I m W → W.heap[D]? = some (.deferred (some [])) → Q .normal { a with defers := { target := .collected D, args := #[] } :: a.defers } W)
    (hstop : ∀ (D : Nat) (c : Code) (k : Nat) (W : World), w.heap.size ≤ D → k ≤ m → Ix c k W → W.heap[D]? = some (.deferred (some [])) → c.wpIn F n P Q { a with defers := { target := .collected D, args := #[] } :: a.defers } W) :
    (Code.rangeFunc g ps assign body).wpIn F n P Q a w := by
  refine wpIn_rangeFunc fun fn hfn => ?_
  rw [hro]
  let rc : LoopState → Option Code → Loop := fun st pe => { state := st, pending := pe, fn, tmps := a.tmps, params := ps, assign, body, defers := w.heap.size }
  obtain ⟨W1, hW1⟩ : ∃ W1, (w.alloc (.deferred (some []))).alloc (.loop (rc .ready none)) = W1 := ⟨_, rfl⟩
  have bk1 : Books W1 w.heap.size (rc .ready none) := by
    rw [← hW1]
    refine ⟨?_, (Below.heap_alloc _ _ _ (by simp)).trans (World.alloc_heap_new w _)⟩
    have := World.alloc_heap_new (w.alloc (.deferred (some []))) (.loop (rc .ready none))
    rwa [World.size_alloc] at this
  have hsz : w.heap.size ≤ W1.heap.size := by rw [← hW1]; simp; omega
  have bel : Below w0.heap.size w0 W1 := by
    rw [← hW1]; exact hb0.trans ((((Below.refl _ w).alloc (Nat.le_refl _) _).alloc (by simp) _).mono hb0.size)
  have I1 : I 0 W1 := by rw [← hW1]; exact hI.alloc _ (hI.alloc _ h0)
  have walk : ∀ {A : World} {row : Option Nat}, (∀ r, row = some r → W1.heap.size ≤ r ∧ ∃ o : Obj, A.heap[r]? = some o ∧ o.isWalk = true) →
      (∀ r, row = some r → w.heap.size ≤ r ∧ ∃ o : Obj, A.heap[r]? = some o ∧ o.isCells = false) ∧ (∀ r, row = some r → ∃ o : Obj, A.heap[r]? = some o ∧ o.isWalk = true) := fun hr =>
    ⟨fun r e => by obtain ⟨h, o, ho, hw⟩ := hr r e; exact ⟨Nat.le_trans hsz h, o, ho, Obj.not_cells_of_walk hw⟩, fun r e => (hr r e).2⟩
  refine ⟨w.heap.size + 1, _, W1, { target := .fn (.func gf) lb, args := #[.func (.yield (w.heap.size + 1)) #[] #[]] }, W1, gf, #[.func (.yield (w.heap.size + 1)) #[] #[]] ++ lb, W1,
    hW1 ▸ run_enterLoop_outer fn _ _ _ _, by simp only [resolve, hg]; simp [go_sem], fun f' hf' => by simp [Target.leads] at hf'; subst hf'; exact hFg, by simp [invoke, go_sem, eg], fun _ => h1, ?_⟩
  refine (hseq (w.heap.size + 1) (fun k W => I k W ∧ Books W w.heap.size (rc .ready none)) (fun k W => ∃ c, Ix c k W ∧ Books W w.heap.size (rc .done (some c))) W1 bel (fun _ _ h => hR _ _ h.1)
    (fun s A B row hs hgr hr => ⟨hI s A B row hs.1 hgr (walk hr).1, hs.2.kept hgr (walk hr).2⟩)
    (fun s A B row hs hgr hr => by obtain ⟨c, hc, hb⟩ := hs; exact ⟨c, hIx c s A B row hc hgr (walk hr).1, hb.kept hgr (walk hr).2⟩) ?_ ⟨I1, bk1⟩).mono ?_
  · rintro k W hkm ⟨hi, bk⟩
    have hy := run_yield (P := P) (args := encs k) bk.loop (hps k)
    refine ⟨fn, _, assign, body, hy, roundIn_of_wpIn hfn (hassign _ k W _ hkm hi ?_)⟩
    clear hy
    intro a' Wa hkf hia hax
    replace bk := bk.from hkf
    refine ⟨_, run_beginRound bk.loop rfl, ?_⟩
    have bk2 := bk.put (rc .busy none)
    refine wpIn_mono (hbody _ k a' _ (by omega) ⟨_, bk2.loop⟩ hkm (hI.putObj _ hia (by omega) bk.loop rfl) ((hAx k a').putObj (s := ()) _ hax (by omega) bk.loop rfl)) ?_
    have out : ∀ (j : Option Code) (W3 : World), KeepsFrom w.heap.size (Wa.putObj (w.heap.size + 1) (.loop (rc .busy none))) W3 → (Instr.endRound (w.heap.size + 1) j).run P W3 = .ok (.bool j.isNone) (W3.putObj (w.heap.size + 1) (.loop (rc (if j.isNone then .ready else .done) j))) ∧
        W3.heap[w.heap.size + 1]? = some (.loop (rc .busy none)) ∧ Books (W3.putObj (w.heap.size + 1) (.loop (rc (if j.isNone then .ready else .done) j))) w.heap.size (rc (if j.isNone then .ready else .done) j) := fun j W3 hk =>
      ⟨run_endRound j (bk2.from hk).loop, (bk2.from hk).loop, (bk2.from hk).put _⟩
    rintro (_ | id | t | _ | ch | _) a3 W3 hp
    · obtain ⟨hk, hi3⟩ := hp
      obtain ⟨h2, h3, h4⟩ := out none W3 hk
      exact ⟨_, _, h2, .inl ⟨rfl, hI.putObj _ hi3 (by omega) h3 rfl, h4⟩⟩
    · obtain ⟨hk, hi3⟩ := hp
      obtain ⟨h2, h3, h4⟩ := out (some (.exit id)) W3 hk
      exact ⟨_, _, h2, .inr ⟨rfl, _, (hIx _).putObj _ hi3 (by omega) h3 rfl, h4⟩⟩
    · obtain ⟨hk, hi3⟩ := hp
      obtain ⟨h2, h3, h4⟩ := out (some (.goto t)) W3 hk
      exact ⟨_, _, h2, .inr ⟨rfl, _, (hIx _).putObj _ hi3 (by omega) h3 rfl, h4⟩⟩
    · obtain ⟨hk, hi3⟩ := hp
      obtain ⟨h2, h3, h4⟩ := out (some .ret) W3 hk
      exact ⟨_, _, h2, .inr ⟨rfl, _, (hIx _).putObj _ hi3 (by omega) h3 rfl, h4⟩⟩
    · exact hp.elim
    · exact hp.elim
  · rintro e W2 ⟨⟨v, rfl⟩, ⟨hi, bk⟩ | ⟨k, hk, c, hi, bk⟩⟩
    · exact ⟨none, _, run_endLoop bk.loop (by simp [rc]), hdone _ _ (Nat.le_refl _) (hI.putObj _ hi (by omega) bk.loop rfl) (bk.put _).defers⟩
    · exact ⟨some c, _, run_endLoop bk.loop (by simp [rc]), hstop _ c k _ (Nat.le_refl _) hk ((hIx c).putObj _ hi (by omega) bk.loop rfl) (bk.put _).defers⟩
end Go.Proofs.Ytlnljanhnodhkaa

/- The library's range function over the bytes of a slice has its contract: each byte comes, in order. -/
namespace Go.Proofs.Ytlnljanhnodhkaa
open Go.RowKit Go.Shelf
set_option linter.unusedVariables false

attribute [local go_sem] Oper.semAt_some

theorem take_snoc_getD (bs : List Int) {k : Nat} (h : k < bs.length) : bs.take (k + 1) = bs.take k ++ [bs[k]?.getD 0] := by
  rw [List.take_succ_eq_append_getElem h, List.getElem?_eq_getElem h]
  rfl

set_option maxRecDepth 100000 in
set_option maxHeartbeats 2000000 in
theorem values1_in (F : Fence) (n : Nat) (hf : F.fn 44) (hro : F.round = none) (hn : 1 ≤ n) (l Bs n₀ len cap : Nat) (a : Option Addr) (zs : List Int) (hz : zs.length = len) (hmax : len ≤ maxLen)
    (J Jx : List Int → World → Prop)
    (hY : ∀ pre x W, J pre W → pre.length < len → YieldAt F (n - 1) Try.prog l #[.int .u8 x] W fun e W' =>
      (e = .returned (.bool true) ∧ J (pre ++ [x]) W' ∧ Below n₀ W W') ∨ (e = .returned (.bool false) ∧ Jx (pre ++ [x]) W'))
    (W : World) (hBs : W.cell? ⟨Bs, 0, none⟩ = some (.slice a len cap)) (hc : len = 0 ∨ ∃ b off, a = some ⟨b, off, none⟩ ∧ b < n₀ ∧ ∀ j, j < len → W.cell? ⟨b, off + j, none⟩ = some (.int .u8 (zs[j]?.getD 0))) (h0 : J [] W) :
    CallsIn F n Try.prog 44 #[.func (.yield l) #[] #[], .pointer (some ⟨Bs, 0, none⟩)] W fun e W' => (∃ v, e = .returned v) ∧
      ((∃ ys, ys = zs ∧ J ys W') ∨ (∃ pre, pre <+: zs ∧ Jx pre W')) := by
  have HC := Lib.hid hc
  have HM := Lib.hid hmax
  have HZ := Lib.hid hz
  clear hc hmax hz
  refine callsIn_of_wp Try.func44 rfl hf ?_ hro
  simp only [Try.ntmps44, List.size_toArray, List.length_cons, List.length_nil, Nat.reduceAdd, Nat.reduceSub, Array.replicate_succ, Array.replicate_zero, List.push_toArray, List.append_toArray, List.nil_append, List.cons_append]
  gi_wp2
  gi_loopw [7] (fun i wr => ∃ k : Nat, k ≤ len ∧ i = .int .i64 k ∧ J (zs.take k) wr ∧ Below n₀ W wr)
    (fun i _ => len - (intOf i).toNat)
  case atStart => exact ⟨0, Nat.zero_le _, rfl, by simpa using h0, Below.refl _ _⟩
  case round =>
    obtain ⟨k, hk, rfl, hJs, hnx⟩ := hrel
    by_cases hlt : k < len
    · obtain ⟨b, off, rfl, hb, hcs⟩ : ∃ b off, a = some ⟨b, off, none⟩ ∧ b < n₀ ∧ ∀ j, j < len → W.cell? ⟨b, off + j, none⟩ = some (.int .u8 (zs[j]?.getD 0)) := by
        rcases HC.out with h | h
        · omega
        · exact h
      have hcx : wr.cell? ⟨b, off + k, none⟩ = some (.int .u8 (zs[k]?.getD 0)) := (hnx.cell (p := ⟨b, off + k, none⟩) hb).trans (hcs k hlt)
      obtain ⟨fn, tmps, assign, body, hy, hR⟩ := hY _ (zs[k]?.getD 0) wr hJs (by rw [List.length_take, HZ.out]; omega)
      have hm : len ≤ 9223372036854775807 := by have := HM.out; unfold maxLen at this; omega
      clear hcs
      gi_wp2
      refine hR.mono ?_
      rintro e W3 (⟨rfl, hJ3, hk3⟩ | ⟨rfl, hJx3⟩)
      · gi_wp2
        go_roundw
        case rel => exact ⟨k + 1, by omega, by simp, by rw [take_snoc_getD zs (by rw [HZ.out]; exact hlt)]; exact hJ3, hnx.trans hk3⟩
        case measure => simp [intOf]; omega
      · gi_wp2
        refine bodyPost_ret (results_none rfl _ _ _) rfl ?_
        exact ⟨⟨_, rfl⟩, .inr ⟨_, by rw [← take_snoc_getD zs (by rw [HZ.out]; exact hlt)]; exact List.take_prefix _ _, hJx3⟩⟩
    · obtain rfl : k = len := by omega
      gi_wp2
      go_end0
      exact ⟨⟨_, rfl⟩, .inl ⟨_, rfl, by rw [← HZ.out, List.take_length] at hJs; exact hJs⟩⟩

set_option maxRecDepth 100000 in
set_option maxHeartbeats 1000000 in
/-- The slice value is boxed; the function value holds the box. -/
theorem values_in (F : Fence) (n : Nat) (hf : F.fn 42) (hro : F.round = none) (a : Option Addr) (len cap : Nat) (w : World) :
    CallsIn F n Try.prog 42 #[.slice a len cap] w fun e w' => e = .returned (.func (.func 44) #[] #[.pointer (some ⟨w.heap.size, 0, none⟩)]) ∧ w' = w.alloc (.cells #[.slice a len cap] 25) := by
  refine callsIn_of_wp Try.func42 rfl hf ?_ hro
  simp only [Try.ntmps42, List.size_toArray, List.length_cons, List.length_nil, Nat.reduceAdd, Nat.reduceSub, Array.replicate_succ, Array.replicate_zero, List.push_toArray, List.append_toArray, List.nil_append, List.cons_append]
  gi_wp2
  go_ret
  exact ⟨rfl, rfl⟩

set_option maxRecDepth 100000 in
theorem values_stops (F : Fence) (n : Nat) (hf : F.fn 44) (hro : F.round = none) (hn : 1 ≤ n) (Bs n₀ len cap : Nat) (a : Option Addr) (zs : List Int) (hz : zs.length = len) (hmax : len ≤ maxLen) (w : World) (hBs : Bs < w.heap.size) (hn₀ : n₀ ≤ w.heap.size)
    (hb : w.cell? ⟨Bs, 0, none⟩ = some (.slice a len cap)) (hc : len = 0 ∨ ∃ b off, a = some ⟨b, off, none⟩ ∧ b < n₀ ∧ ∀ j, j < len → w.cell? ⟨b, off + j, none⟩ = some (.int .u8 (zs[j]?.getD 0))) :
    SeqStopsK F n Try.prog 44 #[.pointer (some ⟨Bs, 0, none⟩)] (fun x : Int => #[Value.int .u8 x]) (Below n₀) (fun ys => ys = zs) (fun pre => pre <+: zs) len w := fun l J Jx W hW _ _ hY h0 =>
  values1_in F n hf hro hn l Bs n₀ len cap a zs hz hmax J Jx hY W ((hW.cell (p := ⟨Bs, 0, none⟩) hBs).trans hb)
    (hc.imp id fun ⟨b, off, e, h1, h2⟩ => ⟨b, off, e, h1, fun j hj => ((hW.mono hn₀).cell (p := ⟨b, off + j, none⟩) h1).trans (h2 j hj)⟩) h0
end Go.Proofs.Ytlnljanhnodhkaa

/- Boxes beside a range over snapshots: what stays of them. -/
namespace Go.Proofs.Ytlnljanhnodhkaa
open Go.RowKit Go.Shelf
set_option linter.unusedVariables false

theorem rowC_own {x y : World} {B N : Nat} {t : TypeId} {C : List Value} {row : Option Nat} (h : RowC x B t C) (hg : x.grownBy y row) (hr : ∀ r, row = some r → N ≤ r ∧ ∃ o : Obj, x.heap[r]? = some o ∧ o.isCells = false) : RowC y B t C :=
  (hg.block B h.lt (fun e => by
    obtain ⟨-, o, ho, hc⟩ := hr B e.symm
    rw [show x.heap[B]? = _ from h] at ho
    cases ho
    cases hc)).trans h
theorem below_own {N : Nat} {w x y : World} {row : Option Nat} (h : Below N w x) (hN : N ≤ w.heap.size) (hg : x.grownBy y row) (hr : ∀ r, row = some r → w.heap.size ≤ r ∧ ∃ o : Obj, x.heap[r]? = some o ∧ o.isCells = false) : Below N w y :=
  h.grown hg (Nat.le_trans hN h.size) (fun k e => Nat.le_trans hN (hr k e).1)
theorem keepsFrom_cells {B : Nat} {x y : World} {b : Nat} {C : List Value} {t : TypeId} (h : RowC x b t C) (hg : x.grownBy y (some b)) : KeepsFrom B x y := ⟨hg.size, fun k o hk ho hc => by
  refine (hg.block k (Array.getElem?_eq_some_iff.1 ho).1 (fun e => ?_)).trans ho
  obtain rfl : b = k := by cases e; rfl
  rw [show x.heap[b]? = _ from h] at ho
  cases ho
  cases hc⟩
theorem keepsFrom_below {B : Nat} {x y : World} (h : Below x.heap.size x y) : KeepsFrom B x y := ⟨h.size, fun k o _ ho _ => (h.block k (Array.getElem?_eq_some_iff.1 ho).1).trans ho⟩
theorem keepsFrom_trans {B : Nat} {x y z : World} (h : KeepsFrom B x y) (k : KeepsFrom B y z) : KeepsFrom B x z := ⟨Nat.le_trans h.size k.size, fun j o hj ho hc => k.same j o hj (h.same j o hj ho hc) hc⟩
theorem keepsFrom_row {B N e sz n : Nat} {x y : World} {v : Value} {xs : List Value} (h : x.ownsRow N e sz v n xs) (hg : x.grownBy y v.ownBlock) : KeepsFrom B x y := ⟨hg.size, fun k o hk ho hc => by
  refine (hg.block k (Array.getElem?_eq_some_iff.1 ho).1 (fun e => ?_)).trans ho
  rcases h.2 with ⟨rfl, _⟩ | ⟨g, cap, cur, rfl, _, hgg, _⟩
  · cases e
  · obtain rfl : g = k := by cases e; rfl
    rw [hgg] at ho
    cases ho
    cases hc⟩
theorem set_other {x : World} {B B' : Nat} {t : TypeId} {C : List Value} (h : RowC x B t C) (hne : B ≠ B') (j : Nat) (v : Value) : RowC (x.setCell ⟨B', j, none⟩ v) B t C := h.grown (grownBy_setCellJ x B' j v) (fun e => hne (by cases e; rfl))
theorem set_below {N B' : Nat} {w x : World} (h : Below N w x) (hB : N ≤ B') (j : Nat) (v : Value) : Below N w (x.setCell ⟨B', j, none⟩ v) := h.setCell (p := ⟨B', j, none⟩) hB v

theorem letsOut_num {B : Nat} {I : Nat → World → Prop} {Ix : Code → Nat → World → Prop} {k : Nat} {W : World} : ¬ LetsOut (numPost B I Ix k W) := fun ⟨a, w, e⟩ => e
theorem list_roundC {l₀ n : Nat} {P : Program} {ops : Array Oper} {Q : Exit → Act → World → Prop} (hL : ¬ LetsOut Q) : ∀ (l : List Oper) (a : Act) (w : World), (∀ o ∈ l, ∀ c, o.op ≠ .defer c) → wpList P ops Q l a w → wpListIn (Fence.wide.inRound l₀) n P ops Q l a w
  | [], _, _, _, h => h
  | o :: rest, a, w, hd, h => by
    have hd' : ∀ o ∈ rest, ∀ c, o.op ≠ .defer c := fun o ho => hd o (List.mem_cons_of_mem _ ho)
    unfold wpList at h
    unfold wpListIn
    by_cases hw : Region.wanted o (yielded ops a.tmps) = true
    · rw [if_pos hw] at h ⊢
      rcases h with h | h
      · exact op_round (hd o List.mem_cons_self) (Oper.wp_mono (fun a' w' => list_roundC hL rest a' w' hd') h)
      · exact absurd h.2 hL
    · rw [if_neg hw] at h ⊢
      exact ⟨fun _ _ => trivial, list_roundC hL rest _ _ hd' h⟩
theorem region_seq_roundC {l₀ n id : Nat} {P : Program} {l : List Oper} {Q : Exit → Act → World → Prop} {a : Act} {w : World} (hL : ¬ LetsOut Q) (hd : noDefer l.toArray = true) (h : wpList P l.toArray Q l a w) : (Code.region id l.toArray false).wpIn (Fence.wide.inRound l₀) n P Q a w :=
  wpIn_region_lit (list_roundC hL l a w (fun o ho => by
    obtain ⟨i, hi⟩ := List.getElem?_of_mem ho
    exact noDefer_spec hd (i := i) (by simpa using hi)) h)
theorem letsOut_thenC {K : Act → World → Prop} {Q : Exit → Act → World → Prop} (h : ¬ LetsOut Q) : ¬ LetsOut (Exit.then K Q) := fun ⟨a, w, e⟩ => h ⟨a, w, e⟩
theorem row_own {N e sz n M : Nat} {x y : World} {v : Value} {xs : List Value} {row : Option Nat} (h : x.ownsRow N e sz v n xs) (hg : x.grownBy y row) (hr : ∀ r, row = some r → M ≤ r ∧ ∃ o : Obj, x.heap[r]? = some o ∧ o.isCells = false) : y.ownsRow N e sz v n xs := by
  refine ⟨h.1, ?_⟩
  rcases h.2 with h' | ⟨g, cap, cur, rfl, a1, a2, a3⟩
  · exact .inl h'
  · refine .inr ⟨g, cap, cur, rfl, a1, (hg.block g (Array.getElem?_eq_some_iff.1 a2).1 (fun e => ?_)).trans a2, a3⟩
    obtain ⟨-, o, ho, hc⟩ := hr g e.symm
    rw [a2] at ho
    cases ho
    cases hc
theorem own_slV {N e sz n : Nat} {x : World} {v : Value} {xs : List Value} (h : x.ownsRow N e sz v n xs) : ∃ q : SlV, v = slV q ∧ q.2.1 = n := by
  rcases h.2 with ⟨rfl, rfl⟩ | ⟨g, cap, cur, rfl, -⟩
  · exact ⟨(none, 0, 0), rfl, rfl⟩
  · exact ⟨(_, _, _), rfl, rfl⟩
set_option maxRecDepth 100000 in
theorem load_bool1 {x : World} {B : Nat} {z : Bool} (h : RowC x B 4 [.bool z]) : (loadVar 4 ⟨B, 0, none⟩).run Try.prog x = .ok (.bool z) x := by
  have c := h.cell 0 _ rfl
  simp [go_sem, c]
end Go.Proofs.Ytlnljanhnodhkaa

/- Rows of records in memory: as they come in, and of one's own; streams. -/
namespace Go.Proofs.Ytlnljanhnodhkaa
open Go.RowKit Go.Shelf
set_option linter.unusedVariables false

/-- A record's four cells. -/
abbrev RV := Int × Int × Bool × SlV
def rvL (q : RV) : List Value := [.int .i64 q.1, .int .i64 q.2.1, .bool q.2.2.1, slV q.2.2.2]
def rvV (q : RV) : Value := .agg #[.int .i64 q.1, .int .i64 q.2.1, .bool q.2.2.1, slV q.2.2.2]
def rvs (l : List RV) : List Value := l.flatMap rvL
theorem rvs_cons (p : RV) (l : List RV) : rvs (p :: l) = .int .i64 p.1 :: .int .i64 p.2.1 :: .bool p.2.2.1 :: slV p.2.2.2 :: rvs l := rfl
theorem rvs_append (a b : List RV) : rvs (a ++ b) = rvs a ++ rvs b := by simp [rvs]
theorem rvs_get {l : List RV} {j : Nat} {p : RV} (h : l[j]? = some p) : (rvs l)[j * 4]? = some (.int .i64 p.1) ∧ (rvs l)[j * 4 + 1]? = some (.int .i64 p.2.1) ∧ (rvs l)[j * 4 + 2]? = some (.bool p.2.2.1) ∧ (rvs l)[j * 4 + 3]? = some (slV p.2.2.2) := by
  induction l generalizing j with
  | nil => simp at h
  | cons q l ih =>
    rw [rvs_cons]
    cases j with
    | zero => simp at h; subst h; exact ⟨rfl, rfl, rfl, rfl⟩
    | succ j =>
      have := ih (j := j) (by simpa using h)
      rw [show (j + 1) * 4 = j * 4 + 1 + 1 + 1 + 1 by omega]
      simpa using this

/-- What a record's cells lead to. -/
structure RcIs (W : World) (q : RV) (s : RC) : Prop where
  fr : q.1 = s.fr
  ct : q.2.1 = s.ct
  ze : q.2.2.1 = s.ze
  da : Sl .u8 W (slV q.2.2.2) s.da
  ok : s.Ok
theorem RcIs.below {W W' : World} {q : RV} {s : RC} (h : RcIs W q s) (hB : Below W.heap.size W W') : RcIs W' q s := ⟨h.fr, h.ct, h.ze, h.da.below hB, h.ok⟩
/-- Records that lie somewhere; r: their cells. -/
def RcR (W : World) (v : Value) (r : List RV) (l : List RC) : Prop := ∃ a cap, v = .slice a l.length cap ∧ l.length ≤ cap ∧ cap ≤ maxLen ∧ (a = none → cap = 0) ∧ r.length = l.length ∧ (∀ (j : Nat) (q : RV) (s : RC), r[j]? = some q → l[j]? = some s → RcIs W q s) ∧
  (l = [] ∨ ∃ b off, a = some ⟨b, off, none⟩ ∧ b < W.heap.size ∧ ∀ j q, r[j]? = some q → W.cell? ⟨b, off + j * 4, none⟩ = some (.int .i64 q.1) ∧ W.cell? ⟨b, off + j * 4 + 1, none⟩ = some (.int .i64 q.2.1) ∧ W.cell? ⟨b, off + j * 4 + 2, none⟩ = some (.bool q.2.2.1) ∧ W.cell? ⟨b, off + j * 4 + 3, none⟩ = some (slV q.2.2.2))
def Rcs (W : World) (v : Value) (l : List RC) : Prop := ∃ r, RcR W v r l
theorem RcR.below {W W' : World} {v : Value} {r : List RV} {l : List RC} (h : RcR W v r l) (hB : Below W.heap.size W W') : RcR W' v r l := by
  obtain ⟨a, cap, rfl, h1, h2, hz, hr, hs, h4⟩ := h
  refine ⟨a, cap, rfl, h1, h2, hz, hr, fun j q s hq hl => (hs j q s hq hl).below hB, ?_⟩
  rcases h4 with h4 | ⟨b, off, rfl, h5, h6⟩
  · exact .inl h4
  · refine .inr ⟨b, off, rfl, Nat.lt_of_lt_of_le h5 hB.size, fun j p hj => ?_⟩
    obtain ⟨c1, c2, c3, c4⟩ := h6 j p hj
    exact ⟨(hB.cell (p := ⟨b, off + j * 4, none⟩) h5).trans c1, (hB.cell (p := ⟨b, off + j * 4 + 1, none⟩) h5).trans c2, (hB.cell (p := ⟨b, off + j * 4 + 2, none⟩) h5).trans c3, (hB.cell (p := ⟨b, off + j * 4 + 3, none⟩) h5).trans c4⟩
theorem RcR.nil (W : World) : RcR W (.slice none 0 0) [] [] := ⟨none, 0, rfl, Nat.le_refl _, Nat.zero_le _, (fun _ => rfl), rfl, fun j q s h => (by cases h), .inl rfl⟩
theorem Rcs.nil (W : World) : Rcs W (.slice none 0 0) [] := ⟨[], RcR.nil W⟩
theorem rcR_at {W : World} {v : Value} {r : List RV} {l : List RC} (h : RcR W v r l) {k : Nat} (hk : k < l.length) : ∃ q s, r[k]? = some q ∧ l[k]? = some s ∧ RcIs W q s := by
  obtain ⟨a, cap, rfl, h1, h2, hz, hr, hs, h4⟩ := h
  have a1 := List.getElem?_eq_getElem (l := r) (i := k) (by omega)
  have a2 := List.getElem?_eq_getElem hk
  exact ⟨_, _, a1, a2, hs k _ _ a1 a2⟩
theorem RcR.ok {W : World} {v : Value} {r : List RV} {l : List RC} (h : RcR W v r l) : ∀ s ∈ l, s.Ok := by
  intro s hm
  obtain ⟨j, hj⟩ := List.getElem?_of_mem hm
  obtain ⟨q, s', -, h2, h3⟩ := rcR_at h (List.getElem?_eq_some_iff.1 hj).1
  rw [hj] at h2; cases h2
  exact h3.ok
theorem RcR.len {W : World} {v : Value} {r : List RV} {l : List RC} (h : RcR W v r l) : ∃ a cap, v = .slice a l.length cap ∧ l.length ≤ cap ∧ cap ≤ maxLen := by
  obtain ⟨a, cap, e, h1, h2, -⟩ := h
  exact ⟨a, cap, e, h1, h2⟩
/-- One of them. -/
theorem RcR.at {W : World} {a : Option Addr} {n cap k : Nat} {r : List RV} {l : List RC} (h : RcR W (.slice a n cap) r l) {s : RC} (hk : l[k]? = some s) :
    ∃ b off q, a = some ⟨b, off, none⟩ ∧ b < W.heap.size ∧ r[k]? = some q ∧ RcIs W q s ∧ W.cell? ⟨b, off + k * 4, none⟩ = some (.int .i64 q.1) ∧ W.cell? ⟨b, off + k * 4 + 1, none⟩ = some (.int .i64 q.2.1) ∧ W.cell? ⟨b, off + k * 4 + 2, none⟩ = some (.bool q.2.2.1) ∧ W.cell? ⟨b, off + k * 4 + 3, none⟩ = some (slV q.2.2.2) := by
  obtain ⟨a', cap', e, h1, h2, hz, hr, hs, h4⟩ := h
  cases e
  rcases h4 with rfl | ⟨b, off, rfl, h5, h6⟩
  · simp at hk
  · have hkl := (List.getElem?_eq_some_iff.1 hk).1
    have hq := List.getElem?_eq_getElem (l := r) (i := k) (by omega)
    exact ⟨b, off, _, rfl, h5, hq, hs k _ s hq hk, h6 k _ hq⟩

/-! A record as one value. -/
theorem loadVar_openRS (t : TypeId) (h : t ≠ 39) (h' : t ≠ 24) (a : Addr) : loadVar t a = (do if ← isAgg t then pure (.agg (← loadCells a (← sizeOf t))) else load a) := rfl
theorem storeVar_openRS (t : TypeId) (h : t ≠ 39) (h' : t ≠ 24) (a : Addr) (v : Value) : storeVar t a v = (do
    if v.cells.size ≠ (← sizeOf t) then stuck "storeVar: the value has not the size of the variable"
    storeCells a v.cells.toList) := rfl
set_option maxRecDepth 100000 in
theorem zero_rc (w : World) : (zeroValue 39).run Try.prog w = .ok (.agg #[.int .i64 0, .int .i64 0, .bool false, .slice none 0 0]) w := by kernel_rfl
set_option maxRecDepth 100000 in
theorem build_rcZ (a b : Int) (z : Bool) (w : World) : (Instr.build 39 #[(0, .int .i64 a), (1, .int .i64 b), (2, .bool z)]).run Try.prog w = .ok (rvV (a, b, z, (none, 0, 0))) w := by kernel_rfl
set_option maxRecDepth 100000 in
theorem build_rcD (a b : Int) (x : Option Addr) (n c : Nat) (w : World) : (Instr.build 39 #[(0, .int .i64 a), (1, .int .i64 b), (3, .slice x n c)]).run Try.prog w = .ok (rvV (a, b, false, (x, n, c))) w := by kernel_rfl
set_option maxRecDepth 100000 in
theorem size_rc : (Try.prog.info? 39).map (·.size) = some 4 := by kernel_rfl
set_option maxRecDepth 100000 in
theorem load_rc {W : World} {b off : Nat} {q : RV} (c1 : W.cell? ⟨b, off, none⟩ = some (.int .i64 q.1)) (c2 : W.cell? ⟨b, off + 1, none⟩ = some (.int .i64 q.2.1)) (c3 : W.cell? ⟨b, off + 2, none⟩ = some (.bool q.2.2.1)) (c4 : W.cell? ⟨b, off + 3, none⟩ = some (slV q.2.2.2)) :
    (loadVar 39 ⟨b, off, none⟩).run Try.prog W = .ok (rvV q) W :=
  run_loadVar_mid W b off _ (rvL q) _ (fun j v hj => by
    match j with
    | 0 => cases hj; exact c1
    | 1 => cases hj; exact c2
    | 2 => cases hj; exact c3
    | 3 => cases hj; exact c4
    | j + 4 => simp [rvL] at hj) Try.underlying39 rfl (by kernel_rfl)
set_option maxRecDepth 100000 in
theorem new_rc (x : World) (q : RV) : (storeVar 39 ⟨x.heap.size, 0, none⟩ (rvV q)).run Try.prog (x.alloc (.cells #[.int .i64 0, .int .i64 0, .bool false, .slice none 0 0] 39)) = .ok () (x.alloc (.cells (rvL q).toArray 39)) :=
  run_storeVar_new x _ _ (rvL q).toArray size_rc rfl (by kernel_rfl)
set_option maxRecDepth 100000 in
theorem load_rcC {x : World} {B : Nat} {q : RV} (hr : RowC x B 39 (rvL q)) : (loadVar 39 ⟨B, 0, none⟩).run Try.prog x = .ok (rvV q) x :=
  run_loadVar_mid x B 0 _ (rvL q) _ hr.range Try.underlying39 rfl (by kernel_rfl)
set_option maxRecDepth 100000 in
theorem store_rcC {x : World} {B : Nat} {old : List Value} (q : RV) (hr : RowC x B 39 old) (ho : old.length = 4) :
    ∃ y, (storeVar 39 ⟨B, 0, none⟩ (rvV q)).run Try.prog x = .ok () y ∧ RowC y B 39 (rvL q) ∧ x.grownBy y (some B) := by
  refine ⟨_, run_storeVar_row x B _ _ old.toArray (rvL q).toArray hr size_rc (by simpa [rvL] using ho) (by kernel_rfl), setRow_heap x B _ _ _ _ hr, ?_⟩
  exact ⟨rfl, rfl, rfl, by rw [setRow_size]; exact Nat.le_refl _, fun k _ hk => setRow_other x B k _ (fun e => hk (by rw [e]))⟩
set_option maxRecDepth 100000 in
theorem slice_rc1 (w : World) (q : RV) : (Instr.buildSlice 22 1 #[(0, rvV q)]).run Try.prog w = .ok (.slice (some ⟨w.heap.size, 0, none⟩) 1 1) (w.alloc (.cells (rvL q).toArray 39)) := by kernel_rfl
set_option maxRecDepth 100000 in
theorem slice_rc2 (w : World) (q p : RV) : (Instr.buildSlice 22 2 #[(0, rvV q), (1, rvV p)]).run Try.prog w = .ok (.slice (some ⟨w.heap.size, 0, none⟩) 2 2) (w.alloc (.cells (rvs [q, p]).toArray 39)) := by kernel_rfl

/-! A stream as one value. -/
def smV (bl ba id : Int) (x : SlV) : Value := .agg #[.int .i64 bl, .int .i64 ba, .int .i64 id, slV x]
def smL (bl ba id : Int) (x : SlV) : List Value := [.int .i64 bl, .int .i64 ba, .int .i64 id, slV x]
set_option maxRecDepth 100000 in
theorem size_sm : (Try.prog.info? 24).map (·.size) = some 4 := by kernel_rfl
set_option maxRecDepth 100000 in
theorem zero_sm (w : World) : (zeroValue 24).run Try.prog w = .ok (smV 0 0 0 (none, 0, 0)) w := by kernel_rfl
set_option maxRecDepth 100000 in
theorem load_smC {x : World} {B : Nat} {bl ba id : Int} {v : SlV} (hr : RowC x B 24 (smL bl ba id v)) : (loadVar 24 ⟨B, 0, none⟩).run Try.prog x = .ok (smV bl ba id v) x :=
  run_loadVar_mid x B 0 _ (smL bl ba id v) _ hr.range Try.underlying24 rfl (by kernel_rfl)
set_option maxRecDepth 100000 in
theorem new_sm (x : World) (bl ba id : Int) (v : SlV) : (storeVar 24 ⟨x.heap.size, 0, none⟩ (smV bl ba id v)).run Try.prog (x.alloc (.cells #[.int .i64 0, .int .i64 0, .int .i64 0, .slice none 0 0] 24)) = .ok () (x.alloc (.cells (smL bl ba id v).toArray 24)) :=
  run_storeVar_new x _ _ (smL bl ba id v).toArray size_sm rfl (by kernel_rfl)
set_option maxRecDepth 100000 in
theorem build_sm3 (a b c : Int) (w : World) : (Instr.build 24 #[(0, .int .i64 a), (1, .int .i64 b), (2, .int .i64 c)]).run Try.prog w = .ok (smV a b c (none, 0, 0)) w := by kernel_rfl
set_option maxRecDepth 100000 in
theorem build_sm4 (a b c : Int) (x : Option Addr) (n m : Nat) (w : World) : (Instr.build 24 #[(0, .int .i64 a), (1, .int .i64 b), (2, .int .i64 c), (3, .slice x n m)]).run Try.prog w = .ok (smV a b c (x, n, m)) w := by kernel_rfl
set_option maxRecDepth 100000 in
theorem build_sm2 (a b : Int) (w : World) : (Instr.build 24 #[(0, .int .i64 a), (2, .int .i64 b)]).run Try.prog w = .ok (smV a 0 b (none, 0, 0)) w := by kernel_rfl
/-- A stream that lies somewhere. -/
structure SmR (W : World) (v : Value) (r : List RV) (s : SM) : Prop where
  is : ∃ x, v = smV s.bl s.ba s.id x ∧ RcR W (slV x) r s.re
  bl : I64 s.bl
  ba : I64 s.ba
  id : I64 s.id
def Smi (W : World) (v : Value) (s : SM) : Prop := ∃ r, SmR W v r s
theorem SmR.below {W W' : World} {v : Value} {r : List RV} {s : SM} (h : SmR W v r s) (hB : Below W.heap.size W W') : SmR W' v r s := by
  obtain ⟨⟨x, e, h1⟩, h2, h3, h4⟩ := h
  exact ⟨⟨x, e, h1.below hB⟩, h2, h3, h4⟩
theorem Smi.below {W W' : World} {v : Value} {s : SM} (h : Smi W v s) (hB : Below W.heap.size W W') : Smi W' v s := h.imp fun _ h => h.below hB
theorem SmR.ok {W : World} {v : Value} {r : List RV} {s : SM} (h : SmR W v r s) : s.Ok := by
  obtain ⟨⟨x, e, h1⟩, h2, h3, h4⟩ := h
  exact ⟨h2, h3, h4, h1.ok⟩
theorem Smi.ok {W : World} {v : Value} {s : SM} (h : Smi W v s) : s.Ok := by obtain ⟨r, h⟩ := h; exact h.ok

/-! Among the arguments. -/
set_option maxRecDepth 100000 in
theorem rec_of_cells {W : World} {cs : List Value} (h : Cells W 39 cs) : ∃ (q : RV) (s : RC), RcIs W q s ∧ cs = rvL q := by
  obtain ⟨hl, hj⟩ := h.struct Try.underlying39
  rw [show Try.prog.cellsOf 39 = 4 from by kernel_rfl] at hl
  have h0 : Cells W 3 ((cs.drop 0).take (Try.prog.cellsOf 3)) := hj 0 _ rfl
  have h1 : Cells W 3 ((cs.drop 1).take (Try.prog.cellsOf 3)) := hj 1 _ rfl
  have h2 : Cells W 4 ((cs.drop 2).take (Try.prog.cellsOf 4)) := hj 2 _ rfl
  have h3 : Cells W 25 ((cs.drop 3).take (Try.prog.cellsOf 25)) := hj 3 _ rfl
  rw [show Try.prog.cellsOf 3 = 1 from by kernel_rfl] at h0 h1
  rw [show Try.prog.cellsOf 4 = 1 from by kernel_rfl] at h2
  rw [show Try.prog.cellsOf 25 = 1 from by kernel_rfl] at h3
  match cs, hl with
  | [x, y, z, u], _ =>
    obtain ⟨a, e1, wa⟩ := h0.int Try.underlying3
    obtain ⟨c, e2, wc⟩ := h1.int Try.underlying3
    obtain ⟨d, e3⟩ := h2.bool Try.underlying4
    obtain ⟨b, lb, cb, bs, e4, -, -, s2, hb⟩ := h3.bytes Try.underlying25 Try.underlying5 (by kernel_rfl)
    simp at e1 e2 e3 e4
    subst e1 e2 e3 e4
    exact ⟨(a, c, d, (b, lb, cb)), ⟨a, c, d, bs⟩, ⟨rfl, rfl, rfl, s2, ⟨bounds_i64 wa, bounds_i64 wc, hb⟩⟩, rfl⟩
set_option maxRecDepth 100000 in
theorem rcs_of_cells {W : World} {a : Option Addr} {len cap : Nat}
    (r : (a = none ∧ len = 0 ∧ cap = 0) ∨ ∃ x, a = some x ∧ len ≤ cap ∧ cap ≤ maxLen ∧ ∀ i, i < cap → ∃ es, W.cells? 0 (x.add (i * Try.prog.cellsOf 39)) (Try.prog.cellsOf 39) = some es ∧ Cells W 39 es) : ∃ l, Rcs W (.slice a len cap) l := by
  rcases r with ⟨rfl, rfl, rfl⟩ | ⟨x, rfl, h1, h2, h3⟩
  · exact ⟨[], Rcs.nil W⟩
  · rw [show Try.prog.cellsOf 39 = 4 from by kernel_rfl] at h3
    have h4 : ∀ i, i < cap → ∃ p : RV × RC, RcIs W p.1 p.2 ∧ W.cell? (x.add (i * 4)) = some (.int .i64 p.1.1) ∧ W.cell? ((x.add (i * 4)).add 1) = some (.int .i64 p.1.2.1) ∧ W.cell? ((x.add (i * 4)).add 2) = some (.bool p.1.2.2.1) ∧ W.cell? ((x.add (i * 4)).add 3) = some (slV p.1.2.2.2) := by
      intro i hi
      obtain ⟨es, g1, g2⟩ := h3 i hi
      obtain ⟨q, s, hp, rfl⟩ := rec_of_cells g2
      have hm := (cells_many g1).2
      refine ⟨(q, s), hp, ?_, ?_, ?_, ?_⟩
      · obtain ⟨u, hu1, hu2⟩ := hm 0 (by omega)
        cases hu1
        rwa [show (x.add (i * 4)).add 0 = x.add (i * 4) by simp [Addr.add]] at hu2
      · obtain ⟨u, hu1, hu2⟩ := hm 1 (by omega)
        cases hu1
        exact hu2
      · obtain ⟨u, hu1, hu2⟩ := hm 2 (by omega)
        cases hu1
        exact hu2
      · obtain ⟨u, hu1, hu2⟩ := hm 3 (by omega)
        cases hu1
        exact hu2
    have h5 : ∀ i, ∃ p : RV × RC, i < cap → RcIs W p.1 p.2 ∧ W.cell? (x.add (i * 4)) = some (.int .i64 p.1.1) ∧ W.cell? ((x.add (i * 4)).add 1) = some (.int .i64 p.1.2.1) ∧ W.cell? ((x.add (i * 4)).add 2) = some (.bool p.1.2.2.1) ∧ W.cell? ((x.add (i * 4)).add 3) = some (slV p.1.2.2.2) := fun i => by
      by_cases hi : i < cap
      · obtain ⟨s, hs⟩ := h4 i hi; exact ⟨s, fun _ => hs⟩
      · exact ⟨((0, 0, false, (none, 0, 0)), rcz), fun h => absurd h hi⟩
    obtain ⟨f, hf⟩ := Classical.axiomOfChoice h5
    refine ⟨(List.range len).map fun i => (f i).2, (List.range len).map fun i => (f i).1, some x, cap, by simp, by simp; omega, h2, (fun e => by cases e), by simp, fun j q s hq hs => ?_, ?_⟩
    · have hjl : j < len := by have := (List.getElem?_eq_some_iff.1 hq).1; simpa using this
      simp [hjl] at hq hs
      subst hq hs
      exact (hf j (by omega)).1
    · by_cases h0 : len = 0
      · subst h0; exact .inl rfl
      · have hc0 := (hf 0 (by omega)).2.1
        rw [Nat.zero_mul, show x.add 0 = x by simp [Addr.add]] at hc0
        obtain ⟨b, off, rfl, hb⟩ := cell_plain hc0
        refine .inr ⟨b, off, rfl, hb, fun j s hj => ?_⟩
        have hjl : j < len := by have := (List.getElem?_eq_some_iff.1 hj).1; simpa using this
        simp [hjl] at hj
        subst hj
        have q := (hf j (by omega)).2
        simp only [add_plain] at q
        exact q
set_option maxRecDepth 100000 in
theorem Arg.stream {W : World} {v : Value} (h : Arg W 24 v) : ∃ s, Smi W v s := by
  obtain ⟨cs, rfl, hl, hc⟩ := h.agg (.inl ⟨_, Try.underlying24⟩)
  obtain ⟨-, hj⟩ := hc.struct Try.underlying24
  rw [show Try.prog.cellsOf 24 = 4 from by kernel_rfl] at hl
  have h0 : Cells W 3 ((cs.drop 0).take (Try.prog.cellsOf 3)) := hj 0 _ rfl
  have h1 : Cells W 3 ((cs.drop 1).take (Try.prog.cellsOf 3)) := hj 1 _ rfl
  have h2 : Cells W 3 ((cs.drop 2).take (Try.prog.cellsOf 3)) := hj 2 _ rfl
  have h3 : Cells W 22 ((cs.drop 3).take (Try.prog.cellsOf 22)) := hj 3 _ rfl
  rw [show Try.prog.cellsOf 3 = 1 from by kernel_rfl] at h0 h1 h2
  rw [show Try.prog.cellsOf 22 = 1 from by kernel_rfl] at h3
  match cs, hl with
  | [x, y, z, u], _ =>
    obtain ⟨a, e1, wa⟩ := h0.int Try.underlying3
    obtain ⟨b, e2, wb⟩ := h1.int Try.underlying3
    obtain ⟨c, e3, wc⟩ := h2.int Try.underlying3
    obtain ⟨d, ld, cd, e4, r⟩ := h3.slice Try.underlying22
    simp at e1 e2 e3 e4
    subst e1 e2 e3 e4
    obtain ⟨l, r', hR⟩ := rcs_of_cells r
    exact ⟨⟨a, b, c, l⟩, r', ⟨⟨(d, ld, cd), rfl, hR⟩, bounds_i64 wa, bounds_i64 wb, bounds_i64 wc⟩⟩

/-! Records of one's own. -/
structure RcF (N : Nat) (W : World) (q : RV) (s : RC) : Prop where
  fr : q.1 = s.fr
  ct : q.2.1 = s.ct
  ze : q.2.2.1 = s.ze
  da : W.ownsRow N 5 1 (slV q.2.2.2) s.da.length (s.da.map (Value.int .u8))
  ok : s.Ok
theorem RcF.below {N : Nat} {W W' : World} {q : RV} {s : RC} (h : RcF N W q s) (hB : Below W.heap.size W W') : RcF N W' q s := ⟨h.fr, h.ct, h.ze, own_belowT h.da hB, h.ok⟩
theorem RcF.is {N : Nat} {W : World} {q : RV} {s : RC} (h : RcF N W q s) : RcIs W q s := ⟨h.fr, h.ct, h.ze, Sl.of_owns h.da, h.ok⟩
def RcO (N : Nat) (W : World) (v : Value) (l : List RC) : Prop := ∃ r : List RV, r.length = l.length ∧ W.ownsRow N 39 4 v l.length (rvs r) ∧ ∀ (j : Nat) (q : RV) (s : RC), r[j]? = some q → l[j]? = some s → RcF N W q s
theorem RcO.nil (N : Nat) (W : World) : RcO N W (.slice none 0 0) [] := ⟨[], rfl, World.ownsRow_nil _ _ _ _, fun j q s h => by cases h⟩
theorem RcO.below {N : Nat} {W W' : World} {v : Value} {l : List RC} (h : RcO N W v l) (hB : Below W.heap.size W W') : RcO N W' v l := by
  obtain ⟨r, h1, h2, h3⟩ := h
  exact ⟨r, h1, own_belowT h2 hB, fun j q s a b => (h3 j q s a b).below hB⟩
theorem RcO.base {N : Nat} {W : World} {v : Value} {l : List RC} (h : RcO N W v l) : ∀ j, v.ownBlock = some j → N ≤ j ∧ j < W.heap.size := by
  obtain ⟨r, h1, h2, h3⟩ := h
  intro j hj
  rcases h2.2 with ⟨rfl, h0⟩ | ⟨g, cap, cur, rfl, a1, a2, -⟩
  · cases hj
  · cases hj
    exact ⟨a1, (Array.getElem?_eq_some_iff.1 a2).1⟩
/-- Records that lie in a row of their own. -/
theorem rcs_row {N : Nat} {W : World} {v : Value} {r : List RV} {l : List RC} (h1 : r.length = l.length) (h2 : W.ownsRow N 39 4 v l.length (rvs r)) (h3 : ∀ (j : Nat) (q : RV) (s : RC), r[j]? = some q → l[j]? = some s → RcIs W q s) : RcR W v r l := by
  rcases h2.2 with ⟨rfl, h0⟩ | ⟨g, cap, cur, rfl, a1, a2, a3, a4, a5, a6⟩
  · obtain rfl : l = [] := List.eq_nil_of_length_eq_zero h0
    obtain rfl : r = [] := List.eq_nil_of_length_eq_zero h1
    exact RcR.nil W
  · refine ⟨_, cap, rfl, a3, a4, (fun e => by cases e), h1, fun j q s a b => h3 j q s a b, .inr ⟨g, 0, rfl, (Array.getElem?_eq_some_iff.1 a2).1, fun j p hj => ?_⟩⟩
    have hc := h2.cells (g := g) rfl
    obtain ⟨f1, f2, f3, f4⟩ := rvs_get hj
    have c1 := hc _ _ f1
    have c2 := hc _ _ f2
    have c3 := hc _ _ f3
    have c4 := hc _ _ f4
    rw [Addr.add_mid] at c1 c2 c3 c4
    exact ⟨c1, by simpa [Nat.add_assoc] using c2, by simpa [Nat.add_assoc] using c3, by simpa [Nat.add_assoc] using c4⟩
theorem RcO.rcs {N : Nat} {W : World} {v : Value} {l : List RC} (h : RcO N W v l) : Rcs W v l := by
  obtain ⟨r, h1, h2, h3⟩ := h
  exact ⟨r, rcs_row h1 h2 fun j q s a b => (h3 j q s a b).is⟩
set_option maxRecDepth 100000 in
theorem info_rcT : (Try.prog.info? 39).map (fun i => (i.zero, i.size, i.bytes)) = some (some (.agg #[.int .i64 0, .int .i64 0, .bool false, .slice none 0 0]), 4, 48) := by kernel_rfl
theorem rv_ones (q : RV) : ∀ u ∈ rvs [q], u.oneCell' = true := by
  intro u hu
  simp [rvs, rvL] at hu
  rcases hu with rfl | rfl | rfl | rfl <;> rfl
theorem RcF.kept {N M n : Nat} {W W' : World} {q : RV} {s : RC} {v : Value} {xs : List Value} (h : RcF N W q s) (hv : W.ownsRow M 39 4 v n xs) (hg : W.grownBy W' v.ownBlock) : RcF N W' q s :=
  ⟨h.fr, h.ct, h.ze, h.da.kept hg (rows_ne h.da hv (by decide)), h.ok⟩
set_option maxRecDepth 100000 in
/-- One more. -/
theorem rc_append {N : Nat} {w : World} {v : Value} {l : List RC} {q : RV} {s : RC} (h : RcO N w v l) (hN : N ≤ w.heap.size) (hq : RcF N w q s) (hlen : l.length ≤ 900000) :
    ∃ v' w', (∀ ty, (Builtin.append_ #[22, 22] ty #[v, .slice (some ⟨w.heap.size, 0, none⟩) 1 1]).run Try.prog (w.alloc (.cells (rvL q).toArray 39)) = .ok v' w') ∧ RcO N w' v' (l ++ [s]) ∧ w.grownBy w' v.ownBlock := by
  obtain ⟨i0, hi⟩ : ∃ i, Try.prog.info? 39 = some i := ⟨_, rfl⟩
  have hqq := info_rcT
  rw [hi] at hqq
  have hz : (i0.zero, i0.size, i0.bytes) = (some (.agg #[.int .i64 0, .int .i64 0, .bool false, .slice none 0 0]), 4, 48) := Option.some.inj hqq
  have hz0 := congrArg (·.1) hz
  have hz1 := congrArg (·.2.1) hz
  have hz2 := congrArg (·.2.2) hz
  simp only at hz0 hz1 hz2
  obtain ⟨r, h1, h2, h3⟩ := h
  have hr : ∀ ty, ∃ v' w', (Builtin.append_ #[22, 22] ty #[v, .slice (some ⟨w.heap.size, 0, none⟩) 1 1]).run Try.prog (w.alloc (.cells (rvL q).toArray 39)) = .ok v' w' ∧ w'.ownsRow N 39 4 v' (l.length + 1) (rvs r ++ rvs [q]) ∧ (w.alloc (.cells (rvL q).toArray 39)).grownBy w' v.ownBlock := fun ty => by
    obtain ⟨v', w', g1, g2, g3, g4⟩ := run_append_own (P := Try.prog) (w.alloc (.cells (rvL q).toArray 39)) N 22 ty 39 i0 (.agg #[.int .i64 0, .int .i64 0, .bool false, .slice none 0 0]) 4 48 Try.underlying22 hi hz0 hz1 hz2 rfl (by decide) v l.length _ (own_belowT h2 (below_new w _)) ⟨w.heap.size, 0, none⟩ 1 1 (rvs [q]) rfl
      (fun j u hj => by
        rw [Addr.add_lit, Nat.zero_add]
        exact (RowC.new w 39 (rvL q)).cell j u (by simpa [rvs] using hj)) (rv_ones q) (by unfold maxLen; omega) (by omega) (by simp; omega)
    exact ⟨v', w', g1, g2, g3⟩
  obtain ⟨v', w', g1, g2, g3⟩ := hr 0
  have hgg : w.grownBy w' v.ownBlock := grown_trans (grown_below (below_new w _) _) g3
  refine ⟨v', w', fun ty => ?_, ⟨r ++ [q], by simp [h1], ?_, fun j q' s' ha hb => ?_⟩, hgg⟩
  · rw [← g1]; rfl
  · rw [List.length_append, rvs_append]; exact g2
  · by_cases hj : j < l.length
    · rw [List.getElem?_append_left (by omega)] at ha hb
      exact (h3 j q' s' ha hb).kept h2 hgg
    · obtain rfl : j = l.length := by have := (List.getElem?_eq_some_iff.1 hb).1; simp at this; omega
      rw [List.getElem?_append_right (Nat.le_refl _)] at hb
      rw [List.getElem?_append_right (by omega), h1] at ha
      simp at ha hb
      subst ha hb
      exact hq.kept h2 hgg
end Go.Proofs.Ytlnljanhnodhkaa

/- The developers' stream: within, the head, a record's place. -/
namespace Go.Proofs.Ytlnljanhnodhkaa
open Go.RowKit Go.Shelf
set_option linter.unusedVariables false
set_option linter.unusedSimpArgs false
attribute [-simp] Try.isAgg39 Try.zeroValue39 Try.isAgg24 Try.zeroValue24
attribute [-go_sem] loadVar storeVar
attribute [local go_sem] loadVar_openRS storeVar_openRS zero_rc zero_sm
section
set_option maxRecDepth 100000
set_option maxHeartbeats 4000000
set_option maxRecDepth 100000 in
theorem sm_within (n lo hi : Int) (w : World) : Calls Try.prog 39 #[.int .i64 n, .int .i64 lo, .int .i64 hi] w fun e w' => e = .returned (.bool (decide (lo ≤ n ∧ n ≤ hi))) ∧ w' = w := by
  obtain ⟨z, hz⟩ : ∃ z, decide (lo ≤ n ∧ n ≤ hi) = z := ⟨_, rfl⟩
  by_cases h1 : lo ≤ n
  · have g1 : decide (lo ≤ n) = true := by simpa using h1
    have g1' : decide (n ≥ lo) = true := g1
    have g2 : decide (n ≤ hi) = z := by rw [← hz]; simp [h1]
    rw [hz]
    clear hz
    go_enter Try.func39, Try.ntmps39
    go_wp2_with fail
    go_ret
    first | exact ⟨rfl, rfl⟩ | exact ⟨by rw [← g2], rfl⟩ | exact ⟨by rw [g2], rfl⟩
  · have g1 : decide (lo ≤ n) = false := by simpa using h1
    have g1' : decide (n ≥ lo) = false := g1
    have hzz : z = false := by rw [← hz]; simp [h1]
    rw [hz, hzz]
    clear hz hzz
    go_enter Try.func39, Try.ntmps39
    go_wp2_with fail
    go_ret
    exact ⟨rfl, rfl⟩
set_option maxRecDepth 100000 in
theorem sm_in {n lo hi : Int} (h : lo ≤ n ∧ n ≤ hi) (w : World) : Calls Try.prog 39 #[.int .i64 n, .int .i64 lo, .int .i64 hi] w fun e w' => e = .returned (.bool true) ∧ w' = w :=
  (sm_within n lo hi w).mono fun e w' ⟨h1, h2⟩ => ⟨by rw [h1, decide_eq_true h], h2⟩
set_option maxRecDepth 100000 in
theorem sm_out {n lo hi : Int} (h : ¬ (lo ≤ n ∧ n ≤ hi)) (w : World) : Calls Try.prog 39 #[.int .i64 n, .int .i64 lo, .int .i64 hi] w fun e w' => e = .returned (.bool false) ∧ w' = w :=
  (sm_within n lo hi w).mono fun e w' ⟨h1, h2⟩ => ⟨by rw [h1, decide_eq_false h], h2⟩

set_option maxRecDepth 100000 in
/-- **goodHead**. -/
theorem sm_head (bl ba id : Int) (x : SlV) (w : World) : Calls Try.prog 29 #[smV bl ba id x] w fun e w' => ∃ t, e = .returned (.bool t) ∧ (t = true ↔ hdOk bl ba id) ∧ Below w.heap.size w w' := by
  obtain ⟨a, n, c⟩ := x
  obtain ⟨W, hW⟩ : ∃ W, w.alloc (.cells #[.int .i64 bl, .int .i64 ba, .int .i64 id, .slice a n c] 24) = W := ⟨_, rfl⟩
  have r : RowC W w.heap.size 24 [.int .i64 bl, .int .i64 ba, .int .i64 id, .slice a n c] := by rw [← hW]; exact RowC.new w _ _
  have HB : Hid (Below w.heap.size w W) := by show Below _ _ _; rw [← hW]; exact below_new w _
  have c0 := r.cell 0 _ rfl
  have c1 := r.cell 1 _ rfl
  have c2 := r.cell 2 _ rfl
  simp only [smV, slV]
  clear r
  by_cases p1 : 1 ≤ bl ∧ bl ≤ 64
  · have C1 := Lib.hid (sm_in p1 W)
    have P1 := Lib.hid p1
    clear p1
    by_cases p2 : 1 ≤ id ∧ id ≤ 1000000
    · have C2 := Lib.hid (sm_in p2 W)
      have P2 := Lib.hid p2
      have w1 : wrap64 (id - 1) = id - 1 := IntWalk.wrap64_in _ (by omega)
      clear p2
      by_cases p3 : ba = -1
      · have q3 : (ba == -1) = true := by simpa using p3
        have P3 := Lib.hid p3
        clear p3
        go_enter Try.func29, Try.ntmps29
        go_wp2_with fail
        refine C1.out.mono ?_
        rintro e w1 ⟨rfl, rfl⟩
        go_wp2_with fail
        refine C2.out.mono ?_
        rintro e w1 ⟨rfl, rfl⟩
        go_wp2_with fail
        go_ret
        have := P1.out; have := P2.out; have := P3.out
        exact ⟨true, rfl, by unfold hdOk; simp; omega, HB.out⟩
      · have q3 : (ba == -1) = false := by simpa using p3
        have P3 := Lib.hid p3
        clear p3
        by_cases p4 : 1 ≤ ba ∧ ba ≤ id - 1
        · have C3 := Lib.hid (sm_in p4 W)
          have P4 := Lib.hid p4
          clear p4
          go_enter Try.func29, Try.ntmps29
          go_wp2_with fail
          refine C1.out.mono ?_
          rintro e w1 ⟨rfl, rfl⟩
          go_wp2_with fail
          refine C2.out.mono ?_
          rintro e w1 ⟨rfl, rfl⟩
          go_wp2_with fail
          refine C3.out.mono ?_
          rintro e w1 ⟨rfl, rfl⟩
          go_wp2_with fail
          go_ret
          have := P1.out; have := P2.out; have := P3.out; have := P4.out
          exact ⟨true, rfl, by unfold hdOk; simp; omega, HB.out⟩
        · have C3 := Lib.hid (sm_out p4 W)
          have P4 := Lib.hid p4
          clear p4
          go_enter Try.func29, Try.ntmps29
          go_wp2_with fail
          refine C1.out.mono ?_
          rintro e w1 ⟨rfl, rfl⟩
          go_wp2_with fail
          refine C2.out.mono ?_
          rintro e w1 ⟨rfl, rfl⟩
          go_wp2_with fail
          refine C3.out.mono ?_
          rintro e w1 ⟨rfl, rfl⟩
          go_wp2_with fail
          go_ret
          have := P1.out; have := P2.out; have := P3.out; have := P4.out
          exact ⟨false, rfl, by unfold hdOk; simp; omega, HB.out⟩
    · have C2 := Lib.hid (sm_out p2 W)
      have P2 := Lib.hid p2
      clear p2
      go_enter Try.func29, Try.ntmps29
      go_wp2_with fail
      refine C1.out.mono ?_
      rintro e w1 ⟨rfl, rfl⟩
      go_wp2_with fail
      refine C2.out.mono ?_
      rintro e w1 ⟨rfl, rfl⟩
      go_wp2_with fail
      go_ret
      have := P1.out; have := P2.out
      exact ⟨false, rfl, by unfold hdOk; simp; omega, HB.out⟩
  · have C1 := Lib.hid (sm_out p1 W)
    have P1 := Lib.hid p1
    clear p1
    go_enter Try.func29, Try.ntmps29
    go_wp2_with fail
    refine C1.out.mono ?_
    rintro e w1 ⟨rfl, rfl⟩
    go_wp2_with fail
    go_ret
    have := P1.out
    exact ⟨false, rfl, by unfold hdOk; simp; omega, HB.out⟩

set_option maxRecDepth 100000 in
/-- **goodPlace**. -/
theorem sm_place {bl lo : Int} (hb : 1 ≤ bl ∧ bl ≤ 64) (x : RC) (hx : x.Ok) (hlo : 0 ≤ lo) (d : SlV) (w : World) : Calls Try.prog 30 #[rvV (x.fr, x.ct, x.ze, d), .int .i64 lo, .int .i64 bl] w fun e w' => ∃ t, e = .returned (.bool t) ∧ (t = true ↔ plOk bl lo x) ∧ Below w.heap.size w w' := by
  obtain ⟨a, n, c⟩ := d
  obtain ⟨fr, ct, ze, da⟩ := x
  have hfr : I64 fr := hx.fr
  obtain ⟨W, hW⟩ : ∃ W, w.alloc (.cells #[.int .i64 fr, .int .i64 ct, .bool ze, .slice a n c] 39) = W := ⟨_, rfl⟩
  have r : RowC W w.heap.size 39 [.int .i64 fr, .int .i64 ct, .bool ze, .slice a n c] := by rw [← hW]; exact RowC.new w _ _
  have HB : Hid (Below w.heap.size w W) := by show Below _ _ _; rw [← hW]; exact below_new w _
  have c0 := r.cell 0 _ rfl
  have c1 := r.cell 1 _ rfl
  have w0 : wrap64 (bl - 1) = bl - 1 := IntWalk.wrap64_in _ (by omega)
  simp only [rvV, slV]
  clear r
  by_cases p1 : lo ≤ fr ∧ fr ≤ bl - 1
  · have C1 := Lib.hid (sm_in p1 W)
    have P1 := Lib.hid p1
    have w1 : wrap64 (bl - fr) = bl - fr := IntWalk.wrap64_in _ (by omega)
    clear p1
    by_cases p2 : 1 ≤ ct ∧ ct ≤ bl - fr
    · have C2 := Lib.hid (sm_in p2 W)
      have P2 := Lib.hid p2
      clear p2 hx hfr
      go_enter Try.func30, Try.ntmps30
      go_wp2_with fail
      refine C1.out.mono ?_
      rintro e w1 ⟨rfl, rfl⟩
      go_wp2_with fail
      refine C2.out.mono ?_
      rintro e w1 ⟨rfl, rfl⟩
      go_wp2_with fail
      go_ret
      have := P1.out; have := P2.out
      exact ⟨true, rfl, by unfold plOk; simp; omega, HB.out⟩
    · have C2 := Lib.hid (sm_out p2 W)
      have P2 := Lib.hid p2
      clear p2 hx hfr
      go_enter Try.func30, Try.ntmps30
      go_wp2_with fail
      refine C1.out.mono ?_
      rintro e w1 ⟨rfl, rfl⟩
      go_wp2_with fail
      refine C2.out.mono ?_
      rintro e w1 ⟨rfl, rfl⟩
      go_wp2_with fail
      go_ret
      have := P1.out; have := P2.out
      exact ⟨false, rfl, by unfold plOk; simp; omega, HB.out⟩
  · have C1 := Lib.hid (sm_out p1 W)
    have P1 := Lib.hid p1
    clear p1 hx hfr
    go_enter Try.func30, Try.ntmps30
    go_wp2_with fail
    refine C1.out.mono ?_
    rintro e w1 ⟨rfl, rfl⟩
    go_wp2_with fail
    go_ret
    have := P1.out
    exact ⟨false, rfl, by unfold plOk; simp; omega, HB.out⟩
end
end Go.Proofs.Ytlnljanhnodhkaa

/- Zero, the developers' and the document's. -/
namespace Go.Proofs.Ytlnljanhnodhkaa
open Go.RowKit Go.Shelf
set_option linter.unusedVariables false
set_option linter.unusedSimpArgs false

theorem Sl.cellW {w : World} {a : Option Addr} {n c : Nat} {xs : List Int} (h : Sl .u8 w (.slice a n c) xs) : n = xs.length ∧ n ≤ maxLen ∧ (0 < n → ∃ b o, a = some ⟨b, o, none⟩ ∧ ∀ x : World, Below w.heap.size w x → ∀ j, j < n → x.cell? ⟨b, o + j, none⟩ = some (.int .u8 (xs[j]?.getD 0))) := by
  obtain ⟨a', c', e, h1, h2, h3, -⟩ := h
  cases e
  refine ⟨rfl, Nat.le_trans h1 h2, fun h0 => ?_⟩
  rcases h3 with h3 | ⟨b, o, rfl, h4, h5⟩
  · rw [h3] at h0; cases h0
  · exact ⟨b, o, rfl, fun x hx j hj => (hx.cell (p := ⟨b, o + j, none⟩) h4).trans (h5 j hj)⟩
theorem allZ_step {bs : List Int} {k : Nat} {y : Int} (h : bs[k]? = some y) (h0 : allZ (bs.take k) = true) (hy : y = 0) : allZ (bs.take (k + 1)) = true := by
  rw [List.take_add_one, h]
  unfold allZ at *
  simp [hy] at h0 ⊢
  exact h0
theorem allZ_not {bs : List Int} {k : Nat} {y : Int} (h : bs[k]? = some y) (hy : y ≠ 0) : allZ bs = false := by
  have hm := List.mem_of_getElem? h
  rw [Bool.eq_false_iff]
  intro ha
  unfold allZ at ha
  rw [List.all_eq_true] at ha
  exact hy (by simpa using ha y hm)

set_option maxRecDepth 100000 in
set_option maxHeartbeats 4000000 in
/-- **Zero**. -/
theorem sm_zero {v : Value} {bs : List Int} {w : World} (hv : Sl .u8 w v bs) : Calls Try.prog 15 #[v] w fun e w' => e = .returned (.bool (allZ bs)) ∧ w' = w := by
  obtain ⟨a, ca, rfl, -⟩ := (show Sl _ _ _ _ from hv)
  obtain ⟨-, hm, hca⟩ := hv.cellW
  obtain ⟨n, hn⟩ : ∃ n, bs.length = n := ⟨_, rfl⟩
  rw [hn] at hm hca ⊢
  have HCA := Lib.hid hca
  have HN := Lib.hid hn
  have hm' : (n : Int) ≤ 9223372036854775807 := by unfold maxLen at hm; omega
  clear hca hv hn hm
  go_enter Try.func15, Try.ntmps15
  go_wp2_with fail
  go_loop [7] (fun iv => ∃ k : Nat, k ≤ n ∧ iv = .int .i64 (k : Int) ∧ Hid (allZ (bs.take k) = true)) (fun iv => n - (intOf iv).toNat)
  case atStart => exact ⟨0, Nat.zero_le _, rfl, rfl⟩
  case round =>
    obtain ⟨k, hk, rfl, HZ⟩ := hrel
    by_cases hlt : k < n
    · have g1 : (k : Int) < (n : Int) := by omega
      have HW : Hid (wrap64 ((k : Int) + 1) = (k : Int) + 1) := IntWalk.wrap64_in _ (by omega)
      obtain ⟨b, o, rfl, hC⟩ := HCA.out (by omega)
      obtain ⟨y, hy⟩ : ∃ y, bs[k]? = some y := ⟨_, List.getElem?_eq_getElem (by rw [HN.out]; exact hlt)⟩
      have c1 : w.cell? ⟨b, o + k, none⟩ = some (.int .u8 y) := by have := hC w (Below.refl _ _) k hlt; rw [hy] at this; exact this
      have HY := Lib.hid hy
      have HLT := Lib.hid hlt
      clear hC hy hlt
      by_cases q : y = 0
      · have q1 : (y != 0) = false := by simpa using q
        have HZ2 := Lib.hid (allZ_step HY.out HZ.out q)
        clear q
        go_wp2_with fail
        go_round
        case rel => exact ⟨k + 1, HLT.out, by first | simp | (rw [HW.out]; simp), HZ2⟩
        case measure => have := HLT.out; first | (simp [intOf]; omega) | (rw [HW.out]; simp [intOf]; omega)
      · have q1 : (y != 0) = true := by simpa using q
        have HZ2 := Lib.hid (allZ_not HY.out q)
        clear q
        go_wp2_with fail
        go_ret
        exact ⟨by rw [HZ2.out]; rfl, rfl⟩
    · have g1 : ¬ (k : Int) < (n : Int) := by omega
      obtain rfl : k = n := by omega
      have HZ2 : Hid (allZ bs = true) := by show _ = _; rw [← HZ.out, List.take_of_length_le (by rw [HN.out]; exact Nat.le_refl _)]
      go_wp2_with fail
      go_ret
      exact ⟨by rw [HZ2.out]; rfl, rfl⟩

set_option maxRecDepth 100000 in
set_option maxHeartbeats 4000000 in
/-- **Zero**, the document's. -/
theorem rf16_zero {v : Value} {bs : List Int} {w : World} (hv : Sl .u8 w v bs) : Calls Try.prog 16 #[v] w fun e w' => e = .returned (.bool (allZ bs)) ∧ w' = w := by
  obtain ⟨a, ca, rfl, -⟩ := (show Sl _ _ _ _ from hv)
  obtain ⟨-, hm, hca⟩ := hv.cellW
  obtain ⟨n, hn⟩ : ∃ n, bs.length = n := ⟨_, rfl⟩
  rw [hn] at hm hca ⊢
  have HCA := Lib.hid hca
  have HN := Lib.hid hn
  have hm' : (n : Int) ≤ 9223372036854775807 := by unfold maxLen at hm; omega
  clear hca hv hn hm
  go_enter Try.func16, Try.ntmps16
  go_wp2_with fail
  go_loop [3] (fun iv => ∃ k : Nat, k ≤ n ∧ iv = .int .i64 (k : Int) ∧ Hid (allZ (bs.take k) = true)) (fun iv => n - (intOf iv).toNat)
  case atStart => exact ⟨0, Nat.zero_le _, rfl, rfl⟩
  case round =>
    obtain ⟨k, hk, rfl, HZ⟩ := hrel
    by_cases hlt : k < n
    · have g1 : (k : Int) < (n : Int) := by omega
      have HW : Hid (wrap64 ((k : Int) + 1) = (k : Int) + 1) := IntWalk.wrap64_in _ (by omega)
      obtain ⟨b, o, rfl, hC⟩ := HCA.out (by omega)
      obtain ⟨y, hy⟩ : ∃ y, bs[k]? = some y := ⟨_, List.getElem?_eq_getElem (by rw [HN.out]; exact hlt)⟩
      have c1 : w.cell? ⟨b, o + k, none⟩ = some (.int .u8 y) := by have := hC w (Below.refl _ _) k hlt; rw [hy] at this; exact this
      have HY := Lib.hid hy
      have HLT := Lib.hid hlt
      clear hC hy hlt
      by_cases q : y = 0
      · have q1 : (y != 0) = false := by simpa using q
        have HZ2 := Lib.hid (allZ_step HY.out HZ.out q)
        clear q
        go_wp2_with fail
        go_round
        case rel => exact ⟨k + 1, HLT.out, by first | simp | (rw [HW.out]; simp), HZ2⟩
        case measure => have := HLT.out; first | (simp [intOf]; omega) | (rw [HW.out]; simp [intOf]; omega)
      · have q1 : (y != 0) = true := by simpa using q
        have HZ2 := Lib.hid (allZ_not HY.out q)
        clear q
        go_wp2_with fail
        go_ret
        exact ⟨by rw [HZ2.out]; rfl, rfl⟩
    · have g1 : ¬ (k : Int) < (n : Int) := by omega
      obtain rfl : k = n := by omega
      have HZ2 : Hid (allZ bs = true) := by show _ = _; rw [← HZ.out, List.take_of_length_le (by rw [HN.out]; exact Nat.le_refl _)]
      go_wp2_with fail
      go_ret
      exact ⟨by rw [HZ2.out]; rfl, rfl⟩
end Go.Proofs.Ytlnljanhnodhkaa

/- The library's Chunk at bytes, by blocks: its range function's contract, with numbered rounds. -/
namespace Go.Proofs.Ytlnljanhnodhkaa
open Go.RowKit Go.Shelf
set_option linter.unusedVariables false
set_option linter.unusedSimpArgs false
attribute [local go_sem] Oper.semAt_some

/-- Piece number k of bytes that lie at a place. -/
def encK (b off k : Nat) : Array Value := #[.slice (some ⟨b, off + 64 * k, none⟩) 64 64]
/-- What the two boxes hold. -/
structure ChB (Bs Bn : Nat) (v : Value) (W : World) : Prop where
  cs : W.cell? ⟨Bs, 0, none⟩ = some v
  cn : W.cell? ⟨Bn, 0, none⟩ = some (.int .i64 64)
  ls : Bs < W.heap.size
  ln : Bn < W.heap.size

set_option maxRecDepth 100000 in
set_option maxHeartbeats 1000000 in
theorem chunk64_in (F : Fence) (n : Nat) (hf : F.fn 43) (hro : F.round = none) (a : Option Addr) (len cap : Nat) (w : World) :
    CallsIn F n Try.prog 43 #[.slice a len cap, .int .i64 64] w fun e w' => e = .returned (.func (.func 45) #[] #[.pointer (some ⟨w.heap.size, 0, none⟩), .pointer (some ⟨w.heap.size + 1, 0, none⟩)]) ∧ w' = (w.alloc (.cells #[.slice a len cap] 25)).alloc (.cells #[.int .i64 64] 3) := by
  refine callsIn_of_wp Try.func43 rfl hf ?_ hro
  simp only [Try.ntmps43, List.size_toArray, List.length_cons, List.length_nil, Nat.reduceAdd, Nat.reduceSub, Array.replicate_succ, Array.replicate_zero, List.push_toArray, List.append_toArray, List.nil_append, List.cons_append]
  gi_wp2
  go_ret
  exact ⟨rfl, rfl⟩

set_option maxRecDepth 100000 in
set_option maxHeartbeats 2000000 in
theorem chunk64_seq (n : Nat) (hn : 1 ≤ n) (Bs Bn b off len cap m : Nat) (a : Option Addr) (ha : m = 0 ∨ a = some ⟨b, off, none⟩) (hlc : len ≤ cap) (hc : cap ≤ maxLen) (hmx : len ≤ 1000000) (hm : len = 64 * m) (w : World) :
    SeqNum Fence.wide n Try.prog 45 #[.pointer (some ⟨Bs, 0, none⟩), .pointer (some ⟨Bn, 0, none⟩)] (encK b off) (ChB Bs Bn (.slice a len cap)) m w := by
  intro lp J Jx W hW hJR hJA _ hY h0
  have HJR := Lib.hid hJR
  have HJD : Hid (∀ k x, J k x → J k x.drew) := fun k x hx => hJA k x x.drew none hx (grown_below (Below.refl _ x).drew none) (fun r e => by cases e)
  have HY := Lib.hid hY
  have HM := Lib.hid hm
  have HA := Lib.hid ha
  have hcap : cap ≤ 9223372036854775807 := by unfold maxLen at hc; omega
  have hmo : Try.prog.follows .mixedOrders = true := by kernel_rfl
  clear hm ha hc hJR hJA hY hW
  refine callsIn_of_wp Try.func45 rfl trivial ?_ rfl
  simp only [Try.ntmps45, List.size_toArray, List.length_cons, List.length_nil, Nat.reduceAdd, Nat.reduceSub, Array.replicate_succ, Array.replicate_zero, List.push_toArray, List.append_toArray, List.nil_append, List.cons_append]
  have hb0 := HJR.out 0 W h0
  have hBn := hb0.cn
  have hBs := hb0.cs
  clear hb0
  gi_wp2
  gi_loopw [4] (fun i wr => ∃ k : Nat, k ≤ m ∧ i = .int .i64 ((64 * k : Nat) : Int) ∧ J k wr) (fun i _ => 64 * m - (intOf i).toNat)
  case atStart => exact ⟨0, Nat.zero_le _, rfl, h0⟩
  case round =>
    obtain ⟨k, hk, rfl, hJs⟩ := hrel
    obtain ⟨K, hK⟩ : ∃ K, 64 * k = K := ⟨_, rfl⟩
    rw [hK]
    have hb := HJR.out k wr hJs
    have c1 := hb.cs
    have c2 := hb.cn
    by_cases hlt : K < len
    · have hkm : k < m := by have := HM.out; omega
      have hlt' : decide ((K : Int) < (len : Int)) = true := by simp; omega
      obtain rfl : a = some ⟨b, off, none⟩ := by rcases HA.out with h | h; omega; exact h
      have hKK := Lib.hid hK
      have d1 : ∀ y : Ext wr, y.1.cell? ⟨Bs, 0, none⟩ = some (.slice (some ⟨b, off, none⟩) len cap) := fun y => (y.2.cell (p := ⟨Bs, 0, none⟩) hb.ls).trans c1
      have d2 : ∀ y : Ext wr, y.1.cell? ⟨Bn, 0, none⟩ = some (.int .i64 64) := fun y => (y.2.cell (p := ⟨Bn, 0, none⟩) hb.ln).trans c2
      have g1 : (K : Int) ≤ len := by omega
      have g2 : (len : Int) ≤ cap := by omega
      have hq : (len : Int) - (K : Int) = ((len - K : Nat) : Int) := by omega
      have hmin : ∀ (ts : Array TypeId) (t : TypeId) (W : World), (Builtin.min_ ts t #[.int .i64 64, .int .i64 ((len - K : Nat) : Int)]).run Try.prog W = .ok (.int .i64 ((64 : Nat) : Int)) W := fun ts t W => by
        have h64 : 64 ≤ len - K := by have := HM.out; omega
        rw [run_min_int2]
        congr 2
        split <;> omega
      have hH2 : K + 64 ≤ len := by have := HM.out; omega
      have hKc : K < cap := by omega
      clear hBn hBs h0 hb
      gi_wp2_with fail
      refine wpIn_wide.2 ?_
      refine region_plan (fun x => ∃ y : Ext wr, x = y.1) 6 (.takes [0, 1, 2, 3, 4] (.one 5 .leaf)) hmo (by kernel_rfl) (by intro c x v a w h; cases x <;> exact h) ⟨⟨wr.drew, (Below.refl _ wr).drew⟩, rfl⟩ ?_
      repeat (rw [wpPlan_takes_cons]; simp only [nth_zero, nth_succ]; go_big_quiet_step (fail); refine wpQuiet_nil ?_)
      rw [wpPlan_takes_nil, wpPlan_one]
      simp only [nth_zero, nth_succ]
      go_wp2_with fail
      refine planPost_mk ⟨⟨wr.drew, (Below.refl _ wr).drew⟩, rfl⟩ ?_
      rw [wpPlan_leaf]
      simp only [List.drop_succ_cons, List.drop_zero]
      clear hmin d1 d2
      have c1' : wr.drew.cell? ⟨Bs, 0, none⟩ = some (.slice (some ⟨b, off, none⟩) len cap) := c1
      have c2' : wr.drew.cell? ⟨Bn, 0, none⟩ = some (.int .i64 64) := c2
      have HJ : J k wr.drew := HJD.out _ _ hJs
      obtain ⟨fn, tmps, assign, body, hy, hR⟩ := HY.out k wr.drew hkm HJ
      unfold encK at hy
      rw [hKK.out] at hy
      have HKM := Lib.hid hkm
      go_wp2_with fail
      gi_wp2_with fail
      refine hR.mono ?_
      rintro e W3 (⟨rfl, hJ3⟩ | ⟨rfl, hJx3⟩)
      · have hb3 := HJR.out _ W3 hJ3
        have c3 := hb3.cn
        clear hb3
        gi_wp2_with fail
        go_roundw
        case rel => exact ⟨k + 1, HKM.out, by have := hKK.out; go_num, hJ3⟩
        case measure => have := hKK.out; have := HKM.out; simp [intOf]; omega
      · gi_wp2_with fail
        refine bodyPost_ret (results_none rfl _ _ _) rfl ?_
        exact ⟨⟨_, rfl⟩, .inr ⟨k + 1, HKM.out, hJx3⟩⟩
    · have hlt' : decide ((K : Int) < (len : Int)) = false := by simp; omega
      obtain rfl : k = m := by have := HM.out; omega
      clear hK
      gi_wp2_with fail
      go_end0
      exact ⟨⟨_, rfl⟩, .inl hJs⟩
end Go.Proofs.Ytlnljanhnodhkaa

/- anyZero and goodData. -/
namespace Go.Proofs.Ytlnljanhnodhkaa
open Go.RowKit Go.Shelf
set_option linter.unusedVariables false
set_option linter.unusedSimpArgs false
attribute [-simp] Try.isAgg39 Try.zeroValue39 Try.isAgg24 Try.zeroValue24
attribute [-go_sem] loadVar storeVar
attribute [local go_sem] loadVar_openRS storeVar_openRS zero_rc zero_sm
attribute [local go_sem] Oper.semAt_some

/-- Chunk's two boxes, and all that lay ahead. -/
structure CkX (N B : Nat) (v : Value) (w W : World) : Prop where
  bs : RowC W B 25 [v]
  bn : RowC W (B + 1) 3 [.int .i64 64]
  be : Below N w W
theorem CkX.own {N B : Nat} {v : Value} {w x y : World} {row : Option Nat} {M : Nat} (h : CkX N B v w x) (hN : N ≤ w.heap.size) (hg : x.grownBy y row) (hM : w.heap.size ≤ M) (hr : ∀ r, row = some r → M ≤ r ∧ ∃ o : Obj, x.heap[r]? = some o ∧ o.isCells = false) : CkX N B v w y :=
  ⟨rowC_own h.bs hg hr, rowC_own h.bn hg hr, below_own h.be hN hg (fun r e => ⟨Nat.le_trans hM (hr r e).1, (hr r e).2⟩)⟩
theorem CkX.new {N : Nat} {w x : World} (v : Value) (hb : Below N w x) (hN : N ≤ x.heap.size) :
    CkX N x.heap.size v w ((x.alloc (.cells #[v] 25)).alloc (.cells #[.int .i64 64] 3)) := by
  have r1 := RowC.new x 25 [v]
  have r2 := RowC.new (x.alloc (.cells #[v] 25)) 3 [.int .i64 64]
  simp only [World.size_alloc] at r2
  exact ⟨r1.below (below_new _ _), r2, (hb.alloc hN _).alloc (by simp; omega) _⟩
/-- Piece k of 64 m bytes. -/
theorem sl_piece {w : World} {b off cap m : Nat} {bs : List Int} {len : Nat} (h : Sl .u8 w (.slice (some ⟨b, off, none⟩) len cap) bs) (hlen0 : 64 * m = len) (hl : bs.length = 64 * m) {k : Nat} (hk : k < m) : Sl .u8 w (.slice (some ⟨b, off + 64 * k, none⟩) 64 64) ((bs.drop (64 * k)).take 64) := by
  obtain ⟨a', c', e, h1, h2, h3, -⟩ := h
  obtain ⟨rfl, -, -⟩ := Value.slice.inj e
  have hlen : ((bs.drop (64 * k)).take 64).length = 64 := by simp; omega
  rcases h3 with h3 | ⟨b', o', e', h4, h5⟩
  · rw [h3] at hl; simp at hl; omega
  · cases e'
    have := Sl.at (k := .u8) (w := w) (b := b) (off := off + 64 * k) (cap := 64) (bs := (bs.drop (64 * k)).take 64) (by omega) (by unfold maxLen; omega) h4 (fun j hj => by
      rw [hlen] at hj
      rw [List.getElem?_take, if_pos hj, List.getElem?_drop, show off + 64 * k + j = off + (64 * k + j) by omega]
      exact h5 _ (by omega))
    rw [hlen] at this
    exact this

set_option maxRecDepth 100000 in
set_option maxHeartbeats 4000000 in
/-- **anyZero**. -/
theorem sm_any {v : Value} {bs : List Int} {m : Nat} {w : World} (hv : Sl .u8 w v bs) (hl : bs.length = 64 * m) (hm : m ≤ 1000) :
    Calls Try.prog 40 #[v] w fun e w' => ∃ t, e = .returned (.bool t) ∧ (t = false ↔ ∀ j, j < m → chunkZ bs j = false) ∧ Below w.heap.size w w' := by
  have HS := Lib.hid hv
  obtain ⟨a, cap, rfl, h1, h2, hla, -⟩ := hv
  obtain ⟨B, hB⟩ : ∃ B, w.heap.size = B := ⟨_, rfl⟩
  have HSZ := Lib.hid hB
  obtain ⟨b, off, hab⟩ : ∃ b off, m = 0 ∨ a = some ⟨b, off, none⟩ := by
    rcases hla with h | ⟨b, off, e, -⟩
    · exact ⟨0, 0, .inl (by rw [h] at hl; simp at hl; omega)⟩
    · exact ⟨b, off, .inr e⟩
  rw [hl] at HS h1 ⊢
  obtain ⟨len, hle⟩ : ∃ len, 64 * m = len := ⟨_, rfl⟩
  have HLE := Lib.hid hle
  have HL := Lib.hid hl
  rw [hle] at HS h1 ⊢
  refine (callsIn_wide (n := 3)).1 ?_
  refine callsIn_of_wp_marks Try.func40 rfl trivial ?_ rfl
  simp only [Try.ntmps40, List.size_toArray, List.length_cons, List.length_nil, Nat.reduceAdd, Nat.reduceSub, Array.replicate_succ, Array.replicate_zero, List.push_toArray, List.append_toArray, List.nil_append, List.cons_append]
  obtain ⟨X, hX⟩ : ∃ X, w.alloc (.cells #[.bool false] 4) = X := ⟨_, rfl⟩
  have hXs : X.heap.size = B + 1 := by rw [← hX, ← hB]; simp
  have hXb : Below B w X := by rw [← hX, ← hB]; exact below_new w _
  have k1 : RowC X B 4 [.bool false] := by rw [← hX, ← hB]; exact RowC.new w _ _
  have SX := CkX.new (.slice a len cap) hXb (by omega)
  rw [hXs] at SX
  obtain ⟨W0, hW0⟩ : ∃ W0, (X.alloc (.cells #[.slice a len cap] 25)).alloc (.cells #[.int .i64 64] 3) = W0 := ⟨_, rfl⟩
  have hWs : W0.heap.size = B + 3 := by rw [← hW0]; simp [hXs]
  have bX : Below X.heap.size X W0 := by rw [← hW0]; exact ((Below.refl _ X).alloc (Nat.le_refl _) _).alloc (by simp) _
  rw [hW0] at SX
  have k4 := k1.below bX
  have hseq := chunk64_seq 2 (by omega) (B + 1) (B + 1 + 1) b off len cap m a hab h1 h2 (by omega) hle.symm W0
  have HAB := Lib.hid hab
  clear k1 bX hXb h1 h2 hla hl hab hle
  gi_wp2_with (refine ⟨trivial, ?_⟩; gi_at_call 43; refine (chunk64_in _ _ trivial rfl _ _ _ _).mono ?_; rintro e w' ⟨rfl, rfl⟩)
  try rw [hX]
  try rw [hW0]
  try rw [hXs]
  clear hX hW0
  have HW := Lib.hid hWs
  refine wpIn_rangeFunc_num (n := 3) rfl (by omega) (gf := 45) (lb := #[.pointer (some ⟨B + 1, 0, none⟩), .pointer (some ⟨B + 1 + 1, 0, none⟩)]) rfl trivial (enters_of Try.func45 (by kernel_rfl) rfl)
    hseq (Below.refl _ _) (fun _ => rfl)
    (fun k W => RowC W B 4 [.bool false] ∧ CkX B (B + 1) (.slice a len cap) w W ∧ ∀ j, j < k → chunkZ bs j = false)
    (fun c k W => c = .ret ∧ RowC W B 4 [.bool true] ∧ Below B w W ∧ ¬ ∀ j, j < m → chunkZ bs j = false)
    ?hR ?hI ?hIx ⟨k4, SX, fun j hj => by omega⟩
    (fun k a' W => a' = { tmps := #[.slice a len cap, undef, .pointer (some ⟨B, 0, none⟩), .slice (some ⟨b, off + 64 * k, none⟩) 64 64, .slice a len cap, .func (.func 45) #[] #[.pointer (some ⟨B + 1, 0, none⟩), .pointer (some ⟨B + 1 + 1, 0, none⟩)], .slice (some ⟨b, off + 64 * k, none⟩) 64 64, undef, undef], defers := [] })
    ?hAx ?assign ?body ?done ?stop
  case hR =>
    intro k W ⟨_, h3, _⟩
    exact ⟨h3.bs.cell 0 _ rfl, h3.bn.cell 0 _ rfl, h3.bs.lt, h3.bn.lt⟩
  case hI =>
    intro s Y Z row ⟨g1, g2, g3⟩ hg hr
    exact ⟨rowC_own g1 hg hr, g2.own (by omega) hg (by omega) hr, g3⟩
  case hIx =>
    intro c s Y Z row ⟨g1, g2, g3, g4⟩ hg hr
    exact ⟨g1, rowC_own g2 hg hr, below_own g3 (by omega) hg (fun r e => ⟨by have := (hr r e).1; omega, (hr r e).2⟩), g4⟩
  case hAx =>
    rintro k a' _ Y Z row f4 hg hr
    exact f4
  case assign =>
    rintro lp k W K hkm ⟨g1, g2, g3⟩ hK
    have hK := hK _ _ (KeepsFrom.refl _ _) ⟨g1, g2, g3⟩ rfl
    clear g1 g2 g3
    unfold encK
    gi_wp2
    exact hK
  case body =>
    rintro lp k a' W _ _ hkm ⟨g1, g2, g3⟩ rfl
    have hk : k < m := hkm
    obtain rfl : a = some ⟨b, off, none⟩ := by rcases HAB.out with h | h; omega; exact h
    have hsl : Sl .u8 W (.slice (some ⟨b, off, none⟩) len cap) bs := HS.out.below (by rw [HSZ.out]; exact g2.be)
    have HF := Lib.hid (sm_zero (sl_piece hsl HLE.out HL.out hk))
    have HC : Hid (allZ ((bs.drop (64 * k)).take 64) = chunkZ bs k) := rfl
    rw [HC.out] at HF
    have f1 := g1.frozen 0
    have d1 := g1.cell 0 _ rfl
    have HK := Lib.hid hk
    have G1 := Lib.hid g1
    have G2 := Lib.hid g2
    have G3 := Lib.hid g3
    have HKF : Hid (∀ u, KeepsFrom W0.heap.size W (W.setCell ⟨B, 0, none⟩ u)) := fun u => keepsFrom_cells g1 (grownBy_setCellJ W B 0 u)
    cases hc : chunkZ bs k with
    | true =>
      rw [hc] at HF
      have HN : Hid (¬ ∀ j, j < m → chunkZ bs j = false) := fun h => by have := h k HK.out; rw [hc] at this; cases this
      clear hc hsl g1 g2 g3 hk hkm
      gi_step
      gi_step
      gi_step
      refine region_seq_roundC (letsOut_thenC (letsOut_inBlock letsOut_num)) (by kernel_rfl) ?_
      go_wp2_with fail
      refine HF.out.mono ?_
      rintro e y ⟨rfl, rfl⟩
      go_wp2_with fail
      gi_wp2
      exact ⟨HKF.out _, rfl, G1.out.set 0 _, set_below G2.out.be (by omega) _ _, HN.out⟩
    | false =>
      rw [hc] at HF
      have HN : Hid (∀ j, j < k + 1 → chunkZ bs j = false) := fun j hj => by
        by_cases e : j = k
        · subst e; exact hc
        · exact G3.out j (by omega)
      clear hc hsl g1 g2 g3 hk hkm
      gi_step
      gi_step
      gi_step
      refine region_seq_roundC (letsOut_thenC (letsOut_inBlock letsOut_num)) (by kernel_rfl) ?_
      go_wp2_with fail
      refine HF.out.mono ?_
      rintro e y ⟨rfl, rfl⟩
      go_wp2_with fail
      gi_wp2
      exact ⟨KeepsFrom.refl _ _, G1.out, G2.out, HN.out⟩
  case done =>
    rintro D W hD ⟨g1, g2, g3⟩ hK
    have d3 := g1.cell 0 _ rfl
    have f2 := g1.frozen 0
    have G1 := Lib.hid g1
    have G2 := Lib.hid g2
    have G3 := Lib.hid g3
    have HK := Lib.hid hK
    have HKF : Hid (KeepsFrom 0 W (W.setCell ⟨B, 0, none⟩ (.bool false))) := keepsFrom_cells g1 (grownBy_setCellJ W B 0 _)
    clear g1 g2 g3 hK
    gi_wp2
    have hK2 := HKF.out.same D _ (Nat.zero_le _) HK.out rfl
    refine ⟨by simp, .inl ⟨_, _, rfl, run_takeDeferred hK2, ?_⟩⟩
    have hg2 := grownBy_putObj' (W.setCell ⟨B, 0, none⟩ (.bool false)) D (.deferred none)
    have hy2 : RowC _ B 4 [.bool false] := rowC_own (N := 0) (G1.out.set 0 (.bool false)) hg2 (fun r e => by cases e; exact ⟨Nat.zero_le _, _, hK2, rfl⟩)
    refine ⟨_, results_cell rfl rfl (load_bool1 hy2), false, rfl, ⟨fun _ => G3.out, fun _ => rfl⟩, ?_⟩
    rw [HSZ.out]
    exact (set_below G2.out.be (by omega) 0 _).trans (belowK_b (w := w) (by omega) _ D _ _ (by have := HW.out; have := HSZ.out; omega) hK2 rfl rfl)
  case stop =>
    rintro D c k W hD _ ⟨rfl, g2, g3, g4⟩ hK
    have G2 := Lib.hid g2
    have G3 := Lib.hid g3
    have G4 := Lib.hid g4
    have HK := Lib.hid hK
    clear g2 g3 g4 hK
    gi_wp2
    refine ⟨by simp, .inl ⟨_, _, rfl, run_takeDeferred HK.out, ?_⟩⟩
    have hg2 := grownBy_putObj' W D (.deferred none)
    have hy2 := rowC_own (N := 0) G2.out hg2 (fun r e => by cases e; exact ⟨Nat.zero_le _, _, HK.out, rfl⟩)
    refine ⟨_, results_cell rfl rfl (load_bool1 hy2), true, rfl, ⟨fun h => (by cases h), fun h => absurd h G4.out⟩, ?_⟩
    rw [HSZ.out]
    exact G3.out.trans (belowK_b (w := w) (by omega) W D _ _ (by have := HW.out; have := HSZ.out; omega) HK.out rfl rfl)
end Go.Proofs.Ytlnljanhnodhkaa

/- goodData. -/
namespace Go.Proofs.Ytlnljanhnodhkaa
open Go.RowKit Go.Shelf
set_option linter.unusedVariables false
set_option linter.unusedSimpArgs false
attribute [-simp] Try.isAgg39 Try.zeroValue39 Try.isAgg24 Try.zeroValue24
attribute [-go_sem] loadVar storeVar
attribute [local go_sem] loadVar_openRS storeVar_openRS zero_rc zero_sm

set_option maxRecDepth 100000 in
set_option maxHeartbeats 4000000 in
/-- **goodData**. -/
theorem sm_data {x : RC} {d : SlV} {w : World} (hc : 1 ≤ x.ct ∧ x.ct ≤ 64) (hd : Sl .u8 w (slV d) x.da) (ba : Int) : Calls Try.prog 31 #[rvV (x.fr, x.ct, x.ze, d), .int .i64 ba] w fun e w' => ∃ t, e = .returned (.bool t) ∧ (t = true ↔ daOk ba x) ∧ Below w.heap.size w w' := by
  obtain ⟨a, n, c⟩ := d
  obtain ⟨fr, ct, ze, da⟩ := x
  obtain ⟨rfl, hmx, -⟩ := Sl.cellW hd
  obtain ⟨m, hm⟩ : ∃ m : Nat, ct = (m : Int) := ⟨ct.toNat, by have := hc.1; simp only at this; omega⟩
  subst hm
  simp only at hc hd
  obtain ⟨W, hW⟩ : ∃ W, w.alloc (.cells #[.int .i64 fr, .int .i64 (m : Int), .bool ze, .slice a da.length c] 39) = W := ⟨_, rfl⟩
  have r : RowC W w.heap.size 39 [.int .i64 fr, .int .i64 (m : Int), .bool ze, .slice a da.length c] := by rw [← hW]; exact RowC.new w _ _
  have hB : Below w.heap.size w W := by rw [← hW]; exact below_new w _
  have HB := Lib.hid hB
  have c1 := r.cell 1 _ rfl
  have c2 := r.cell 2 _ rfl
  have c3 := r.cell 3 _ rfl
  simp only [rvV, slV]
  have HD : Hid (Sl .u8 W (.slice a da.length c) da) := hd.below hB
  clear r hd hB
  obtain ⟨n, hn⟩ : ∃ n, da.length = n := ⟨_, rfl⟩
  have HN := Lib.hid hn
  simp only at hmx
  rw [hn] at c3 hmx HD hW ⊢
  have hmx' : (n : Int) ≤ 9223372036854775807 := by unfold maxLen at hmx; omega
  clear hn hmx
  cases ze with
  | true =>
    by_cases p1 : ba = -1
    · have q1 : (ba != -1) = false := by simpa using p1
      have P1 := Lib.hid p1
      clear p1
      go_enter Try.func31, Try.ntmps31
      go_wp2_with fail
      go_ret
      exact ⟨false, rfl, ⟨fun h => (by cases h), fun h => absurd P1.out (h.1 rfl).1⟩, HB.out⟩
    · have q1 : (ba != -1) = true := by simpa using p1
      have P1 := Lib.hid p1
      clear p1
      by_cases p2 : n = 0
      · have q2 : ((n : Int) == 0) = true := by simpa using p2
        have P2 := Lib.hid p2
        clear p2
        go_enter Try.func31, Try.ntmps31
        go_wp2_with fail
        go_ret
        exact ⟨true, rfl, ⟨fun _ => ⟨fun _ => ⟨P1.out, List.eq_nil_of_length_eq_zero (HN.out.trans P2.out)⟩, fun h => (by cases h)⟩, fun _ => rfl⟩, HB.out⟩
      · have q2 : ((n : Int) == 0) = false := by simpa using p2
        have P2 := Lib.hid p2
        clear p2
        go_enter Try.func31, Try.ntmps31
        go_wp2_with fail
        go_ret
        exact ⟨false, rfl, ⟨fun h => (by cases h), fun h => absurd (by have h2 : da = [] := (h.1 rfl).2; rw [← HN.out, h2]; rfl) P2.out⟩, HB.out⟩
  | false =>
    have w1 : wrap64 ((m : Int) * 64) = (m : Int) * 64 := IntWalk.wrap64_in _ (by omega)
    by_cases p1 : n = 64 * m
    · have q1 : ((n : Int) == (m : Int) * 64) = true := by simp; omega
      have HA := Lib.hid (sm_any HD.out (HN.out.trans p1) (by omega))
      have P1 := Lib.hid p1
      clear p1
      go_enter Try.func31, Try.ntmps31
      go_wp2_with fail
      refine HA.out.mono ?_
      rintro e y ⟨t, rfl, ht, hy⟩
      have HT := Lib.hid ht
      have HY := Lib.hid (HB.out.trans (hy.mono HB.out.size))
      clear ht hy
      have key : ∀ b : Bool, b = !t → (b = true ↔ daOk ba ⟨fr, (m : Int), false, da⟩) := fun b hb => by
        subst hb
        rw [Bool.not_eq_true', HT.out]
        unfold daOk
        simp only [HN.out, P1.out]
        constructor
        · intro h
          exact ⟨fun h => (by cases h), fun _ => ⟨by omega, fun j hj => h j (by omega)⟩⟩
        · intro h j hj
          exact (h.2 trivial).2 j (by omega)
      have KEY := Lib.hid key
      clear key
      go_wp2_with fail
      go_ret
      exact ⟨!t, rfl, KEY.out _ rfl, HY.out⟩
    · have q1 : ((n : Int) == (m : Int) * 64) = false := by simp; omega
      have P1 := Lib.hid p1
      clear p1
      go_enter Try.func31, Try.ntmps31
      go_wp2_with fail
      go_ret
      refine ⟨false, rfl, ⟨fun h => (by cases h), fun h => absurd ?_ P1.out⟩, HB.out⟩
      have h2 := (h.2 rfl).1
      simp only [HN.out] at h2
      omega
end Go.Proofs.Ytlnljanhnodhkaa

/- A range over a function whose rounds are numbered and whose iterator has memory of its own: a limit G, told at the first round, below which a round changes none of the iterator's blocks. No program is named. -/
namespace Go.Proofs.Ytlnljanhnodhkaa
open Go.RowKit
set_option linter.unusedVariables false

variable {F : Fence} {n : Nat} {P : Program}

/-- Blocks from B up to G lie as they lay. -/
def StayG (B G : Nat) (W W' : World) : Prop := W.heap.size ≤ W'.heap.size ∧ ∀ b, B ≤ b → b < G → W'.heap[b]? = W.heap[b]?
theorem StayG.trans {B G : Nat} {X Y Z : World} (h : StayG B G X Y) (k : StayG B G Y Z) : StayG B G X Z := ⟨Nat.le_trans h.1 k.1, fun b h1 h2 => (k.2 b h1 h2).trans (h.2 b h1 h2)⟩
theorem StayG.put {B G l : Nat} {W : World} (o : Obj) (h : l < B) : StayG B G W (W.putObj l o) := ⟨by simp, fun b h1 h2 => World.putObj_heap_other (by omega)⟩
theorem StayG.grown {B G : Nat} {W W' : World} {row : Option Nat} (hg : W.grownBy W' row) (hG : G ≤ W.heap.size) (hr : ∀ r, row = some r → r < B ∨ G ≤ r) : StayG B G W W' := ⟨hg.size, fun b h1 h2 => hg.block b (by omega) (fun e => by have := hr b e.symm; omega)⟩
end Go.Proofs.Ytlnljanhnodhkaa

/- A range over a function whose rounds are numbered and whose iterator makes memory in each round: a round changes none of what was made since the iterator went on. No program is named. -/
namespace Go.Proofs.Ytlnljanhnodhkaa
open Go.RowKit
set_option linter.unusedVariables false

variable {F : Fence} {n : Nat} {P : Program}

/-- What an iterator of m items owes to a caller whose rounds keep R. -/
def SeqNumB (F : Fence) (n : Nat) (P : Program) (g : Nat) (lb : Array Value) (encs : Nat → Array Value) (R : World → Prop) (m : Nat) (w : World) : Prop :=
  ∀ (l : Nat) (J Jx : Nat → World → Prop) (W : World), Below w.heap.size w W → (∀ k W, J k W → R W) → AbidesFrom W.heap.size J → AbidesFrom W.heap.size Jx →
    (∀ k W0 W1, k < m → J k W0 → Below W0.heap.size W0 W1 → YieldAt F (n - 1) P l (encs k) W1 fun e W' => StayG W0.heap.size W1.heap.size W1 W' ∧ ((e = .returned (.bool true) ∧ J (k + 1) W') ∨ (e = .returned (.bool false) ∧ Jx (k + 1) W'))) →
    J 0 W →
    CallsIn F n P g (#[.func (.yield l) #[] #[]] ++ lb) W fun e W' => (∃ v, e = .returned v) ∧ (J m W' ∨ (∃ k, k ≤ m ∧ Jx k W'))

/-- How a round may be left. -/
def numPostB (B H G : Nat) (I : Nat → Nat → World → Prop) (Ix : Code → Nat → World → Prop) (k : Nat) (W : World) : Exit → Act → World → Prop
  | .normal, _, W' => (KeepsFrom B W W' ∧ StayG H G W W') ∧ I W'.heap.size k W'
  | .ret, _, W' => (KeepsFrom B W W' ∧ StayG H G W W') ∧ Ix .ret k W'
  | .exit id, _, W' => (KeepsFrom B W W' ∧ StayG H G W W') ∧ Ix (.exit id) k W'
  | .goto t, _, W' => (KeepsFrom B W W' ∧ StayG H G W W') ∧ Ix (.goto t) k W'
  | .panic _, _, _ => False
  | .outgrown, _, _ => False
theorem letsOut_numB {B H G : Nat} {I : Nat → Nat → World → Prop} {Ix : Code → Nat → World → Prop} {k : Nat} {W : World} : ¬ LetsOut (numPostB B H G I Ix k W) := fun ⟨a, w, e⟩ => e
theorem below_grown {X Y : World} (h : Below X.heap.size X Y) : X.grownBy Y none := ⟨h.os, h.tape, h.output, h.size, fun k hk _ => h.block k hk⟩

/-- **A loop over such an iterator.** I H: what a round keeps; the blocks that it may change lie below H. -/
theorem wpIn_rangeFunc_numB {g : Operand} {ps : Array Tmp} {assign body : Code} {Q : Exit → Act → World → Prop} {a : Act} {w : World}
    (hro : F.round = none) (h1 : 1 ≤ n) {gf : Nat} {lb : Array Value} (hg : a.eval g = .func (.func gf) #[] lb) (hFg : F.fn gf) (eg : ∀ args w, (callFunc gf args).run P w = .ok (.enter gf args) w)
    {encs : Nat → Array Value} {R : World → Prop} {m : Nat} {w0 : World} (hseq : SeqNumB F (n - 1) P gf lb encs R m w0)
    (hb0 : Below w0.heap.size w0 w) (hps : ∀ x, (encs x).size = ps.size)
    (I : Nat → Nat → World → Prop) (Ix : Code → Nat → World → Prop) (hR : ∀ H k W, I H k W → R W) (hI : ∀ H, OwnFrom w.heap.size (I H)) (hup : ∀ H k W, I H k W → I W.heap.size k W) (hIx : ∀ c, OwnFrom w.heap.size (Ix c)) (h0 : I w.heap.size 0 w) (Ax : Nat → Act → World → Prop) (hAx : ∀ x a', OwnFrom w.heap.size (fun (_ : Unit) W => Ax x a' W))
    (hassign : ∀ (l H k : Nat) (W : World) (K : Act → World → Prop), w.heap.size + 2 ≤ H → H ≤ W.heap.size → k < m → I H k W → (∀ a' W', KeepsFrom w.heap.size W W' → StayG H W.heap.size W W' → I H k W' → Ax k a' W' → K a' W') →
      assign.wpIn (F.inRound l) (n - 1 - 1) P (Exit.then K (fun _ _ _ => False)) { tmps := (ps.zip (encs k)).foldl (fun t (p, v) => t.setIfInBounds p v) a.tmps, defers := [] } W)
    (hbody : ∀ (l H G k : Nat) (a' : Act) (W : World), w.heap.size ≤ l → (∃ r, W.heap[l]? = some (.loop r)) → w.heap.size + 2 ≤ H → H ≤ G → G ≤ W.heap.size → k < m → I H k W → Ax k a' W → body.wpIn (F.inRound l) (n - 1 - 1) P (numPostB w.heap.size H G I Ix (k + 1) W) a' W)
    (hdone : ∀ (D : Nat) (W : World), w.heap.size ≤ D → I W.heap.size m W → W.heap[D]? = some (.deferred (some [])) → Q .normal { a with defers := { target := .collected D, args := #[] } :: a.defers } W)
    (hstop : ∀ (D : Nat) (c : Code) (k : Nat) (W : World), w.heap.size ≤ D → k ≤ m → Ix c k W → W.heap[D]? = some (.deferred (some [])) → c.wpIn F n P Q { a with defers := { target := .collected D, args := #[] } :: a.defers } W) :
    (Code.rangeFunc g ps assign body).wpIn F n P Q a w := by
  refine wpIn_rangeFunc fun fn hfn => ?_
  rw [hro]
  let rc : LoopState → Option Code → Loop := fun st pe => { state := st, pending := pe, fn, tmps := a.tmps, params := ps, assign, body, defers := w.heap.size }
  obtain ⟨W1, hW1⟩ : ∃ W1, (w.alloc (.deferred (some []))).alloc (.loop (rc .ready none)) = W1 := ⟨_, rfl⟩
  have bk1 : Books W1 w.heap.size (rc .ready none) := by
    rw [← hW1]
    refine ⟨?_, (Below.heap_alloc _ _ _ (by simp)).trans (World.alloc_heap_new w _)⟩
    have := World.alloc_heap_new (w.alloc (.deferred (some []))) (.loop (rc .ready none))
    rwa [World.size_alloc] at this
  have hsz : w.heap.size ≤ W1.heap.size := by rw [← hW1]; simp; omega
  have bel : Below w0.heap.size w0 W1 := by
    rw [← hW1]; exact hb0.trans ((((Below.refl _ w).alloc (Nat.le_refl _) _).alloc (by simp) _).mono hb0.size)
  have hsz2 : W1.heap.size = w.heap.size + 2 := by rw [← hW1]; simp
  have I1 : I W1.heap.size 0 W1 := hup w.heap.size 0 W1 (by rw [← hW1]; exact (hI _).alloc _ ((hI _).alloc _ h0))
  have walk : ∀ {A : World} {row : Option Nat}, (∀ r, row = some r → W1.heap.size ≤ r ∧ ∃ o : Obj, A.heap[r]? = some o ∧ o.isWalk = true) →
      (∀ r, row = some r → w.heap.size ≤ r ∧ ∃ o : Obj, A.heap[r]? = some o ∧ o.isCells = false) ∧ (∀ r, row = some r → ∃ o : Obj, A.heap[r]? = some o ∧ o.isWalk = true) := fun hr =>
    ⟨fun r e => by obtain ⟨h, o, ho, hw⟩ := hr r e; exact ⟨Nat.le_trans hsz h, o, ho, Obj.not_cells_of_walk hw⟩, fun r e => (hr r e).2⟩
  refine ⟨w.heap.size + 1, _, W1, { target := .fn (.func gf) lb, args := #[.func (.yield (w.heap.size + 1)) #[] #[]] }, W1, gf, #[.func (.yield (w.heap.size + 1)) #[] #[]] ++ lb, W1,
    hW1 ▸ run_enterLoop_outer fn _ _ _ _, by simp only [resolve, hg]; simp [go_sem], fun f' hf' => by simp [Target.leads] at hf'; subst hf'; exact hFg, by simp [invoke, go_sem, eg], fun _ => h1, ?_⟩
  refine (hseq (w.heap.size + 1) (fun k W => I W.heap.size k W ∧ Books W w.heap.size (rc .ready none)) (fun k W => ∃ c, Ix c k W ∧ Books W w.heap.size (rc .done (some c))) W1 bel (fun _ _ h => hR _ _ _ h.1)
    (fun s A B row hs hgr hr => ⟨hup _ _ _ (hI _ s A B row hs.1 hgr (walk hr).1), hs.2.kept hgr (walk hr).2⟩)
    (fun s A B row hs hgr hr => by obtain ⟨c, hc, hb⟩ := hs; exact ⟨c, hIx c s A B row hc hgr (walk hr).1, hb.kept hgr (walk hr).2⟩) ?_ ⟨I1, bk1⟩).mono ?_
  · rintro k Y W hkm ⟨hi0, bk0⟩ hYW
    have hH : w.heap.size + 2 ≤ Y.heap.size := (Array.getElem?_eq_some_iff.1 bk0.loop).1
    obtain ⟨H, hHH⟩ : ∃ H, Y.heap.size = H := ⟨_, rfl⟩
    have hi : I H k W := by rw [← hHH]; exact hI _ k Y W none hi0 (below_grown hYW) (fun r e => by cases e)
    have bk : Books W w.heap.size (rc .ready none) := bk0.kept (below_grown hYW) (fun r e => by cases e)
    have hHW : H ≤ W.heap.size := by rw [← hHH]; exact hYW.size
    rw [hHH] at hH ⊢
    obtain ⟨G, hG⟩ : ∃ G, W.heap.size = G := ⟨_, rfl⟩
    have hy := run_yield (P := P) (args := encs k) bk.loop (hps k)
    refine ⟨fn, _, assign, body, hy, roundIn_of_wpIn hfn (hassign _ H k W _ hH hHW hkm hi ?_)⟩
    clear hy
    intro a' Wa hkf hsta hia hax
    rw [hG] at hsta ⊢
    replace bk := bk.from hkf
    refine ⟨_, run_beginRound bk.loop rfl, ?_⟩
    have bk2 := bk.put (rc .busy none)
    refine wpIn_mono (hbody _ H G k a' _ (by omega) ⟨_, bk2.loop⟩ hH (by omega) (by simp; have := hsta.1; omega) hkm ((hI H).putObj _ hia (by omega) bk.loop rfl) ((hAx k a').putObj (s := ()) _ hax (by omega) bk.loop rfl)) ?_
    have out : ∀ (j : Option Code) (W3 : World), KeepsFrom w.heap.size (Wa.putObj (w.heap.size + 1) (.loop (rc .busy none))) W3 → (Instr.endRound (w.heap.size + 1) j).run P W3 = .ok (.bool j.isNone) (W3.putObj (w.heap.size + 1) (.loop (rc (if j.isNone then .ready else .done) j))) ∧
        W3.heap[w.heap.size + 1]? = some (.loop (rc .busy none)) ∧ Books (W3.putObj (w.heap.size + 1) (.loop (rc (if j.isNone then .ready else .done) j))) w.heap.size (rc (if j.isNone then .ready else .done) j) := fun j W3 hk =>
      ⟨run_endRound j (bk2.from hk).loop, (bk2.from hk).loop, (bk2.from hk).put _⟩
    rintro (_ | id | t | _ | ch | _) a3 W3 hp
    · obtain ⟨⟨hk, hst3⟩, hi3⟩ := hp
      have hS := (hsta.trans (StayG.put (l := w.heap.size + 1) (Obj.loop (rc .busy none)) (by omega))).trans hst3
      obtain ⟨h2, h3, h4⟩ := out none W3 hk
      exact ⟨_, _, h2, hS.trans (StayG.put _ (by omega)), .inl ⟨rfl, hup _ _ _ ((hI _).putObj _ hi3 (by omega) h3 rfl), h4⟩⟩
    · obtain ⟨⟨hk, hst3⟩, hi3⟩ := hp
      have hS := (hsta.trans (StayG.put (l := w.heap.size + 1) (Obj.loop (rc .busy none)) (by omega))).trans hst3
      obtain ⟨h2, h3, h4⟩ := out (some (.exit id)) W3 hk
      exact ⟨_, _, h2, hS.trans (StayG.put _ (by omega)), .inr ⟨rfl, _, (hIx _).putObj _ hi3 (by omega) h3 rfl, h4⟩⟩
    · obtain ⟨⟨hk, hst3⟩, hi3⟩ := hp
      have hS := (hsta.trans (StayG.put (l := w.heap.size + 1) (Obj.loop (rc .busy none)) (by omega))).trans hst3
      obtain ⟨h2, h3, h4⟩ := out (some (.goto t)) W3 hk
      exact ⟨_, _, h2, hS.trans (StayG.put _ (by omega)), .inr ⟨rfl, _, (hIx _).putObj _ hi3 (by omega) h3 rfl, h4⟩⟩
    · obtain ⟨⟨hk, hst3⟩, hi3⟩ := hp
      have hS := (hsta.trans (StayG.put (l := w.heap.size + 1) (Obj.loop (rc .busy none)) (by omega))).trans hst3
      obtain ⟨h2, h3, h4⟩ := out (some .ret) W3 hk
      exact ⟨_, _, h2, hS.trans (StayG.put _ (by omega)), .inr ⟨rfl, _, (hIx _).putObj _ hi3 (by omega) h3 rfl, h4⟩⟩
    · exact hp.elim
    · exact hp.elim
  · rintro e W2 ⟨⟨v, rfl⟩, ⟨hi, bk⟩ | ⟨k, hk, c, hi, bk⟩⟩
    · exact ⟨none, _, run_endLoop bk.loop (by simp [rc]), hdone _ _ (Nat.le_refl _) (hup _ _ _ ((hI _).putObj _ hi (by omega) bk.loop rfl)) (bk.put _).defers⟩
    · exact ⟨some c, _, run_endLoop bk.loop (by simp [rc]), hstop _ c k _ (Nat.le_refl _) hk ((hIx c).putObj _ hi (by omega) bk.loop rfl) (bk.put _).defers⟩
end Go.Proofs.Ytlnljanhnodhkaa

/- The developers' range function over records: each comes, with the least block at which it may begin, in order. -/
namespace Go.Proofs.Ytlnljanhnodhkaa
open Go.RowKit Go.Shelf
set_option linter.unusedVariables false
set_option linter.unusedSimpArgs false
attribute [-simp] Try.isAgg39 Try.zeroValue39 Try.isAgg24 Try.zeroValue24
attribute [-go_sem] loadVar storeVar
attribute [local go_sem] loadVar_openRS storeVar_openRS zero_rc zero_sm
attribute [local go_sem] Oper.semAt_some

def rvz : RV := (0, 0, false, (none, 0, 0))
/-- The item number k. -/
def encR (r : List RV) (l : List RC) (k : Nat) : Array Value := #[.int .i64 (leastAt l k), rvV (r[k]?.getD rvz)]
/-- What the box of the range function holds. -/
structure RcB (B : Nat) (v : Value) (r : List RV) (l : List RC) (W : World) : Prop where
  cl : W.cell? ⟨B, 0, none⟩ = some v
  lt : B < W.heap.size
  rc : RcR W v r l
theorem encR_at {r : List RV} {l : List RC} {k : Nat} {q : RV} (h : r[k]? = some q) : encR r l k = #[.int .i64 (leastAt l k), rvV q] := by unfold encR; rw [h]; rfl
/-- Where the record ahead ends. -/
def endAt (l : List RC) : Nat → Int
  | 0 => 0
  | k + 1 => wrap64 ((l[k]?.getD rcz).fr + (l[k]?.getD rcz).ct)
theorem leastAt_same {l : List RC} {k : Nat} {p x : RC} (hp : l[k]? = some p) (hx : l[k + 1]? = some x) (h : x.ze = p.ze) : leastAt l (k + 1) = wrap64 (endAt l (k + 1) + 1) := by
  rw [leastAt_succ hp hx]; simp [least, endAt, hp, h]
theorem leastAt_other {l : List RC} {k : Nat} {p x : RC} (hp : l[k]? = some p) (hx : l[k + 1]? = some x) (h : ¬ x.ze = p.ze) : leastAt l (k + 1) = endAt l (k + 1) := by
  rw [leastAt_succ hp hx]; simp [least, endAt, hp, h]
theorem endAt_succ {l : List RC} {k : Nat} {p : RC} (hp : l[k]? = some p) : endAt l (k + 1) = wrap64 (p.fr + p.ct) := by simp [endAt, hp]

set_option maxRecDepth 100000 in
set_option maxHeartbeats 1000000 in
theorem records_in (F : Fence) (n : Nat) (hf : F.fn 21) (hro : F.round = none) (a : Option Addr) (len cap : Nat) (w : World) :
    CallsIn F n Try.prog 21 #[.slice a len cap] w fun e w' => e = .returned (.func (.func 34) #[] #[.pointer (some ⟨w.heap.size, 0, none⟩)]) ∧
      w' = w.alloc (.cells #[.slice a len cap] 22) := by
  refine callsIn_of_wp Try.func21 rfl hf ?_ hro
  simp only [Try.ntmps21, List.size_toArray, List.length_cons, List.length_nil, Nat.reduceAdd, Nat.reduceSub, Array.replicate_succ, Array.replicate_zero, List.push_toArray, List.append_toArray, List.nil_append, List.cons_append]
  gi_wp2
  go_ret
  exact ⟨rfl, rfl⟩

set_option maxRecDepth 100000 in
set_option maxHeartbeats 4000000 in
theorem records1_seq (n : Nat) (hn : 1 ≤ n) (B : Nat) (v : Value) (r : List RV) (l : List RC) (w : World) :
    SeqNumB Fence.wide n Try.prog 34 #[.pointer (some ⟨B, 0, none⟩)] (encR r l) (RcB B v r l) l.length w := by
  intro lp J Jx W hW hJR hJA _ hY h0
  have hR0 := hJR 0 W h0
  obtain ⟨a, cap, rfl, hlc, hcm⟩ := hR0.rc.len
  have HJR := Lib.hid hJR
  have HJE : Hid (∀ k x y, J k x → Below x.heap.size x y → J k y) := fun k x y hx hb => hJA k x y none hx (below_grown hb) (fun r e => by cases e)
  have HY := Lib.hid hY
  have hcl := hR0.cl
  obtain ⟨m, hm⟩ : ∃ m, l.length = m := ⟨_, rfl⟩
  have HM := Lib.hid hm
  rw [hm] at hlc hcl HY HJR ⊢
  have hmx : (m : Int) ≤ 9223372036854775807 := by unfold maxLen at hcm; omega
  have hmx2 : m ≤ maxLen := by omega
  have HMX := Lib.hid hmx2
  clear hm hlc hcm hR0 hJR hJA hY hW hmx2
  refine callsIn_of_wp Try.func34 rfl trivial ?_ rfl
  simp only [Try.ntmps34, List.size_toArray, List.length_cons, List.length_nil, Nat.reduceAdd, Nat.reduceSub, Array.replicate_succ, Array.replicate_zero, List.push_toArray, List.append_toArray, List.nil_append, List.cons_append]
  gi_wp2
  gi_loopw [3, 8] (fun x y wr => ∃ k : Nat, k ≤ m ∧ x = .int .i64 (endAt l k) ∧ y = .int .i64 (k : Int) ∧ J k wr) (fun _ y _ => m - (intOf y).toNat)
  case atStart => exact ⟨0, Nat.zero_le _, rfl, rfl, h0⟩
  case round =>
    obtain ⟨k, hk, rfl, rfl, hJs⟩ := hrel
    have hb := HJR.out k wr hJs
    have c1 := hb.cl
    by_cases hkm : k < m
    · have g1 : (k : Int) < (m : Int) := by omega
      have hW1 : Hid (wrap64 ((k : Int) + 1) = (k : Int) + 1) := IntWalk.wrap64_in _ (by have := HMX.out; unfold maxLen at this; omega)
      obtain ⟨s, hs⟩ : ∃ s, l[k]? = some s := ⟨_, List.getElem?_eq_getElem (by rw [HM.out]; omega)⟩
      obtain ⟨b, off, q, rfl, hbl, hq, hqs, d1, d2, d3, d4⟩ := hb.rc.at hs
      have LD := load_rc d1 d2 d3 d4
      obtain ⟨q1, q2, q3, q4⟩ := q
      have ST := new_rc wr (q1, q2, q3, q4)
      obtain ⟨W2, hW2⟩ : ∃ W2, wr.alloc (.cells (rvL (q1, q2, q3, q4)).toArray 39) = W2 := ⟨_, rfl⟩
      obtain ⟨C, hC⟩ : ∃ C, wr.heap.size = C := ⟨_, rfl⟩
      have hb2 : Below wr.heap.size wr W2 := by rw [← hW2]; exact below_new wr _
      have hR : RowC W2 C 39 (rvL (q1, q2, q3, q4)) := by rw [← hW2, ← hC]; exact RowC.new wr _ _
      rw [hW2] at ST
      rw [hC] at ST
      have HEN : Hid (endAt l (k + 1) = wrap64 (q1 + q2)) := by show _ = _; rw [endAt_succ hs, ← hqs.fr, ← hqs.ct]
      have e2 : ∀ y : Ext W2, y.1.cell? ⟨C, 2, none⟩ = some (.bool q3) := fun y => (hR.below y.2).cell 2 _ rfl
      have e0 : ∀ y : Ext W2, y.1.cell? ⟨B, 0, none⟩ = some (.slice (some ⟨b, off, none⟩) m cap) := fun y => ((hb2.trans (y.2.mono hb2.size)).cell (p := ⟨B, 0, none⟩) hb.lt).trans c1
      simp only [rvV, slV] at LD ST
      simp only [rvL, slV] at hW2
      by_cases h0 : k = 0
      · subst h0
        simp only [Nat.zero_mul, Nat.add_zero] at LD
        have HLA : Hid (leastAt l 0 = endAt l 0) := rfl
        gi_wp2_with fail
        refine wpIn_wide.2 ?_
        refine region_ext (by kernel_rfl) (by kernel_rfl) ?_
        repeat (go_big_quiet_step (fail))
        try (with_reducible refine wpQuiet_nil ?_)
        intro z
        clear e0 e2
        have LD2 := load_rcC (hR.below z.2)
        have hbz : Below wr.heap.size wr z.1 := hb2.trans (z.2.mono hb2.size)
        have hy0 := HY.out 0 wr z.1 hkm hJs hbz
        rw [encR_at hq, HLA.out] at hy0
        obtain ⟨fn, tmps, assign, body, hy, hRR⟩ := hy0
        have HRC : Hid (RowC z.1 C 39 (rvL (q1, q2, q3, q4))) := hR.below z.2
        have HCW : Hid (wr.heap.size ≤ C) := by show _ ≤ _; omega
        have HKM := Lib.hid hkm
        clear hb hs hq hqs d1 d2 d3 d4 hkm hR hW2 hC hJs hbl LD ST hb2 hbz 
        simp only [rvV, slV] at LD2 hy
        gi_wp2
        refine hRR.mono ?_
        rintro e W3 ⟨hst, (⟨rfl, hJ3⟩ | ⟨rfl, hJx3⟩)⟩
        · have hR3 : RowC W3 C 39 (rvL (q1, q2, q3, q4)) := (hst.2 C HCW.out HRC.out.lt).trans HRC.out
          have f0 := hR3.cell 0 _ rfl
          have f1 := hR3.cell 1 _ rfl
          have HJ3 := Lib.hid hJ3
          clear hJ3 hst hR3
          gi_wp2
          go_roundw
          case rel => exact ⟨0 + 1, HKM.out, by rw [HEN.out], by first | (simp; done) | (rw [hW1.out]; simp; done) | (simp only [Value.int.injEq, true_and]; omega), HJ3.out⟩
          case measure => have := HKM.out; first | (simp [intOf]; omega) | (rw [hW1.out]; simp [intOf]; omega)
        · have HJ3 := Lib.hid hJx3
          clear hJx3 hst
          gi_wp2
          refine bodyPost_ret (results_none rfl _ _ _) rfl ?_
          exact ⟨⟨_, rfl⟩, .inr ⟨0 + 1, HKM.out, HJ3.out⟩⟩
      · obtain ⟨i, rfl⟩ : ∃ i, k = i + 1 := ⟨k - 1, by omega⟩
        obtain ⟨s', hs'⟩ : ∃ s, l[i]? = some s := ⟨_, List.getElem?_eq_getElem (by rw [HM.out]; omega)⟩
        obtain ⟨b', off', q', eb, -, -, hqs', -, -, p3, -⟩ := hb.rc.at hs'
        obtain ⟨rfl, rfl⟩ : b' = b ∧ off' = off := by cases eb; exact ⟨rfl, rfl⟩
        obtain ⟨p1, p2, p3v, p4⟩ := q'
        simp only at p3
        have e4 : ∀ y : Ext W2, y.1.cell? ⟨b', off' + i * 4 + 2, none⟩ = some (.bool p3v) := fun y => ((hb2.trans (y.2.mono hb2.size)).cell (p := ⟨b', off' + i * 4 + 2, none⟩) hbl).trans p3
        have HQ : Hid (wrap64 (((i + 1 : Nat) : Int) - 1) = (i : Int)) := by show _ = _; rw [show ((i + 1 : Nat) : Int) - 1 = (i : Int) by omega]; exact IntWalk.wrap64_in _ (by omega)
        have g2 : (i : Int) < (m : Int) := by omega
        have g3 : ((i + 1 : Nat) : Int) > 0 := by omega
        by_cases hz : q3 = p3v
        · subst hz
          have HLA : Hid (leastAt l (i + 1) = wrap64 (endAt l (i + 1) + 1)) := leastAt_same hs' hs (by rw [← hqs.ze, ← hqs'.ze])
          have q5 : (q3 == q3) = true := by simp
          gi_wp2_with fail
          refine wpIn_wide.2 ?_
          refine region_ext (by kernel_rfl) (by kernel_rfl) ?_
          repeat (go_big_quiet_step (with_reducible (first | rw [HQ.out])))
          try (with_reducible refine wpQuiet_nil ?_)
          intro z
          clear e0 e2 e4
          have LD2 := load_rcC (hR.below z.2)
          have hbz : Below wr.heap.size wr z.1 := hb2.trans (z.2.mono hb2.size)
          have hy0 := HY.out (i + 1) wr z.1 hkm hJs hbz
          rw [encR_at hq, HLA.out] at hy0
          obtain ⟨fn, tmps, assign, body, hy, hRR⟩ := hy0
          have HRC : Hid (RowC z.1 C 39 (rvL (q1, q2, q3, q4))) := hR.below z.2
          have HCW : Hid (wr.heap.size ≤ C) := by show _ ≤ _; omega
          have HKM := Lib.hid hkm
          clear hb hs hq hqs d1 d2 d3 d4 hkm hR hW2 hC hJs hbl LD ST hb2 hbz p3 hs' hqs' eb
          simp only [rvV, slV] at LD2 hy
          gi_wp2
          refine hRR.mono ?_
          rintro e W3 ⟨hst, (⟨rfl, hJ3⟩ | ⟨rfl, hJx3⟩)⟩
          · have hR3 : RowC W3 C 39 (rvL (q1, q2, q3, q4)) := (hst.2 C HCW.out HRC.out.lt).trans HRC.out
            have f0 := hR3.cell 0 _ rfl
            have f1 := hR3.cell 1 _ rfl
            have HJ3 := Lib.hid hJ3
            clear hJ3 hst hR3
            gi_wp2
            go_roundw
            case rel => exact ⟨(i + 1) + 1, HKM.out, by rw [HEN.out], by first | (simp; done) | (rw [hW1.out]; simp; done) | (simp only [Value.int.injEq, true_and]; omega), HJ3.out⟩
            case measure => have := HKM.out; first | (simp [intOf]; omega) | (rw [hW1.out]; simp [intOf]; omega)
          · have HJ3 := Lib.hid hJx3
            clear hJx3 hst
            gi_wp2
            refine bodyPost_ret (results_none rfl _ _ _) rfl ?_
            exact ⟨⟨_, rfl⟩, .inr ⟨(i + 1) + 1, HKM.out, HJ3.out⟩⟩
        · have q5 : (q3 == p3v) = false := by simpa using hz
          have HLA : Hid (leastAt l (i + 1) = endAt l (i + 1)) := leastAt_other hs' hs (by rw [← hqs.ze, ← hqs'.ze]; exact hz)
          gi_wp2_with fail
          refine wpIn_wide.2 ?_
          refine region_ext (by kernel_rfl) (by kernel_rfl) ?_
          repeat (go_big_quiet_step (with_reducible (first | rw [HQ.out])))
          try (with_reducible refine wpQuiet_nil ?_)
          intro z
          clear e0 e2 e4
          have LD2 := load_rcC (hR.below z.2)
          have hbz : Below wr.heap.size wr z.1 := hb2.trans (z.2.mono hb2.size)
          have hy0 := HY.out (i + 1) wr z.1 hkm hJs hbz
          rw [encR_at hq, HLA.out] at hy0
          obtain ⟨fn, tmps, assign, body, hy, hRR⟩ := hy0
          have HRC : Hid (RowC z.1 C 39 (rvL (q1, q2, q3, q4))) := hR.below z.2
          have HCW : Hid (wr.heap.size ≤ C) := by show _ ≤ _; omega
          have HKM := Lib.hid hkm
          clear hb hs hq hqs d1 d2 d3 d4 hkm hR hW2 hC hJs hbl LD ST hb2 hbz p3 hs' hqs' eb
          simp only [rvV, slV] at LD2 hy
          gi_wp2
          refine hRR.mono ?_
          rintro e W3 ⟨hst, (⟨rfl, hJ3⟩ | ⟨rfl, hJx3⟩)⟩
          · have hR3 : RowC W3 C 39 (rvL (q1, q2, q3, q4)) := (hst.2 C HCW.out HRC.out.lt).trans HRC.out
            have f0 := hR3.cell 0 _ rfl
            have f1 := hR3.cell 1 _ rfl
            have HJ3 := Lib.hid hJ3
            clear hJ3 hst hR3
            gi_wp2
            go_roundw
            case rel => exact ⟨(i + 1) + 1, HKM.out, by rw [HEN.out], by first | (simp; done) | (rw [hW1.out]; simp; done) | (simp only [Value.int.injEq, true_and]; omega), HJ3.out⟩
            case measure => have := HKM.out; first | (simp [intOf]; omega) | (rw [hW1.out]; simp [intOf]; omega)
          · have HJ3 := Lib.hid hJx3
            clear hJx3 hst
            gi_wp2
            refine bodyPost_ret (results_none rfl _ _ _) rfl ?_
            exact ⟨⟨_, rfl⟩, .inr ⟨(i + 1) + 1, HKM.out, HJ3.out⟩⟩
    · have g1 : ¬ (k : Int) < (m : Int) := by omega
      obtain rfl : k = m := by omega
      have HJ := Lib.hid hJs
      clear hb hJs
      gi_wp2
      go_end0
      exact ⟨⟨_, rfl⟩, .inl HJ.out⟩
end Go.Proofs.Ytlnljanhnodhkaa

/- The developers' Good. -/
namespace Go.Proofs.Ytlnljanhnodhkaa
open Go.RowKit Go.Shelf
set_option linter.unusedVariables false
set_option linter.unusedSimpArgs false
attribute [-simp] Try.isAgg39 Try.zeroValue39 Try.isAgg24 Try.zeroValue24
attribute [-go_sem] loadVar storeVar
attribute [local go_sem] loadVar_openRS storeVar_openRS zero_rc zero_sm
attribute [local go_sem] Oper.semAt_some

theorem calls_yes {P : Program} {f : FuncId} {args : Array Value} {w : World} {p : Prop} (h : Calls P f args w fun e w' => ∃ t, e = .returned (.bool t) ∧ (t = true ↔ p) ∧ Below w.heap.size w w') (hp : p) : Calls P f args w fun e w' => e = .returned (.bool true) ∧ Below w.heap.size w w' :=
  h.mono fun e w' ⟨t, h1, h2, h3⟩ => ⟨by rw [h1, h2.2 hp], h3⟩
theorem calls_no {P : Program} {f : FuncId} {args : Array Value} {w : World} {p : Prop} (h : Calls P f args w fun e w' => ∃ t, e = .returned (.bool t) ∧ (t = true ↔ p) ∧ Below w.heap.size w w') (hp : ¬ p) : Calls P f args w fun e w' => e = .returned (.bool false) ∧ Below w.heap.size w w' :=
  h.mono fun e w' ⟨t, h1, h2, h3⟩ => ⟨by cases t with | false => exact h1 | true => exact absurd (h2.1 rfl) hp, h3⟩
theorem least_nn {s : SM} (hh : hdOk s.bl s.ba s.id) {k : Nat} (hk : k < s.re.length) (h : okTo s k) : 0 ≤ leastAt s.re k := by
  match k with
  | 0 => exact Int.le_refl 0
  | k + 1 =>
    have hp := List.getElem?_eq_getElem (l := s.re) (i := k) (by omega)
    have hx := List.getElem?_eq_getElem (l := s.re) (i := k + 1) hk
    obtain ⟨b1, b2, b3, b4⟩ := okTo_from hh h hp
    rw [leastAt_succ hp hx, least_ok (by omega) (by omega)]
    split <;> omega
theorem stay_below {H G : Nat} {X Y : World} (h : Below X.heap.size X Y) (hG : G ≤ X.heap.size) : StayG H G X Y := ⟨h.size, fun b _ hb => h.block b (by omega)⟩
theorem stay_set {H G B j : Nat} {X : World} {v : Value} (hB : B < H) (hG : G ≤ X.heap.size) : StayG H G X (X.setCell ⟨B, j, none⟩ v) := StayG.grown (grownBy_setCellJ X B j v) hG (fun r e => by cases e; exact .inl hB)

/-- What a round of Good keeps. -/
structure GoI (B D : Nat) (bl ba id : Int) (x : SlV) (s : SM) (w : World) (k : Nat) (W : World) : Prop where
  sb : RowC W B 24 (smL bl ba id x)
  rb : RowC W (B + 1) 4 [.bool false]
  lb : RowC W D 22 [slV x]
  be : Below B w W
  ok : okTo s k
theorem GoI.own {B D N k : Nat} {bl ba id : Int} {v : SlV} {s : SM} {w x y : World} {row : Option Nat} (h : GoI B D bl ba id v s w k x) (hB : B ≤ w.heap.size) (hN : w.heap.size ≤ N) (hg : x.grownBy y row) (hr : ∀ r, row = some r → N ≤ r ∧ ∃ o : Obj, x.heap[r]? = some o ∧ o.isCells = false) : GoI B D bl ba id v s w k y :=
  ⟨rowC_own h.sb hg hr, rowC_own h.rb hg hr, rowC_own h.lb hg hr, below_own h.be hB hg (fun r e => ⟨by have := (hr r e).1; omega, (hr r e).2⟩), h.ok⟩
theorem GoI.below {B D k : Nat} {bl ba id : Int} {v : SlV} {s : SM} {w x y : World} (h : GoI B D bl ba id v s w k x) (hB : B ≤ x.heap.size) (hb : Below x.heap.size x y) : GoI B D bl ba id v s w k y :=
  ⟨h.sb.below hb, h.rb.below hb, h.lb.below hb, h.be.trans (hb.mono hB), h.ok⟩

set_option maxRecDepth 100000 in
set_option maxHeartbeats 8000000 in
/-- **Good**. -/
theorem sm_good {w : World} {v : Value} {s : SM} (h : Smi w v s) : Calls Try.prog 12 #[v] w fun e w' => ∃ t, e = .returned (.bool t) ∧ (t = true ↔ sGood s) ∧ Below w.heap.size w w' := by
  have hok := h.ok
  obtain ⟨r, ⟨⟨x, rfl, hR⟩, ib, ia, ii⟩⟩ := h
  have HS := Lib.hid hR
  obtain ⟨xa, xn, xc⟩ := x
  obtain ⟨cap0, h0, hlc, hcm⟩ : ∃ cap, xn = s.re.length ∧ s.re.length ≤ cap ∧ cap ≤ maxLen := by obtain ⟨a', c', e, h1, h2⟩ := hR.len; cases e; exact ⟨_, rfl, h1, h2⟩
  obtain ⟨len, hle⟩ : ∃ len, s.re.length = len := ⟨_, rfl⟩
  have HL := Lib.hid hle
  have HOK := Lib.hid hok
  rw [hle] at h0
  subst h0
  obtain ⟨bl, hbl⟩ : ∃ b, s.bl = b := ⟨_, rfl⟩
  obtain ⟨ba, hba⟩ : ∃ b, s.ba = b := ⟨_, rfl⟩
  obtain ⟨id, hid⟩ : ∃ b, s.id = b := ⟨_, rfl⟩
  obtain ⟨B, hB⟩ : ∃ B, w.heap.size = B := ⟨_, rfl⟩
  have HSZ := Lib.hid hB
  obtain ⟨X, hX⟩ : ∃ X, (w.alloc (.cells #[.int .i64 bl, .int .i64 ba, .int .i64 id, .slice xa xn xc] 24)).alloc (.cells #[.bool false] 4) = X := ⟨_, rfl⟩
  have hXs : X.heap.size = B + 2 := by rw [← hX, ← hB]; simp
  have hXb : Below B w X := by rw [← hX, ← hB]; exact ((Below.refl _ w).alloc (Nat.le_refl _) _).alloc (by simp) _
  have k1 : RowC X B 24 (smL bl ba id (xa, xn, xc)) := by rw [← hX, ← hB]; exact (RowC.new w _ _).below (below_new _ _)
  have k2 : RowC X (B + 1) 4 [.bool false] := by
    rw [← hX, ← hB]
    have := RowC.new (w.alloc (.cells #[.int .i64 bl, .int .i64 ba, .int .i64 id, .slice xa xn xc] 24)) 4 [.bool false]
    rwa [World.size_alloc] at this
  have LS := load_smC k1
  have hhd := sm_head bl ba id (xa, xn, xc) X
  rw [hbl, hba, hid]
  simp only [smV, slV] at LS hhd ⊢
  by_cases hh : hdOk bl ba id
  · have HH := Lib.hid (calls_yes hhd hh)
    have HHD : Hid (hdOk s.bl s.ba s.id) := by show hdOk _ _ _; rw [hbl, hba, hid]; exact hh
    have K1 := Lib.hid k1
    have K2 := Lib.hid k2
    have HXB := Lib.hid hXb
    have HXS := Lib.hid hXs
    have HBL := Lib.hid hbl
    have HBA := Lib.hid hba
    clear hhd hh k1 k2 hXb hXs hlc hcm ib ia ii hok hR hbl hba hid hle
    refine (callsIn_wide (n := 3)).1 ?_
    refine callsIn_of_wp_marks Try.func12 rfl trivial ?_ rfl
    simp only [Try.ntmps12, List.size_toArray, List.length_cons, List.length_nil, Nat.reduceAdd, Nat.reduceSub, Array.replicate_succ, Array.replicate_zero, List.push_toArray, List.append_toArray, List.nil_append, List.cons_append]
    gi_wp2_with (refine ⟨trivial, ?_⟩; gi_at_call 29; refine (callsIn_wide.2 HH.out).mono ?_; rintro e y ⟨rfl, hy⟩; have m1 := K1.out.below hy; have m2 := K2.out.below hy; have HY := Lib.hid hy; have c3 := m1.cell 3 _ rfl; clear hy; simp only [slV] at c3)
    refine ⟨trivial, ?_⟩
    refine (records_in _ _ trivial rfl _ _ _ _).mono ?_
    rintro e w' ⟨rfl, rfl⟩
    obtain ⟨D, hD⟩ : ∃ D, y.heap.size = D := ⟨_, rfl⟩
    obtain ⟨W0, hW0⟩ : ∃ W0, y.alloc (.cells #[.slice xa xn xc] 22) = W0 := ⟨_, rfl⟩
    have hDB : B + 2 ≤ D := by rw [← hD, ← HXS.out]; exact HY.out.size
    have bW : Below y.heap.size y W0 := by rw [← hW0]; exact below_new y _
    have m3 : RowC W0 D 22 [slV (xa, xn, xc)] := by rw [← hW0, ← hD]; exact RowC.new y _ _
    have hWs : W0.heap.size = D + 1 := by rw [← hW0, ← hD]; simp
    have hbB : Below B w W0 := (HXB.out.trans (HY.out.mono (by have := HXS.out; omega))).trans (bW.mono (by omega))
    have GI0 : GoI B D bl ba id (xa, xn, xc) s w 0 W0 := ⟨m1.below bW, m2.below bW, m3, hbB, okTo_zero s⟩
    have hseq := records1_seq 2 (by omega) D (.slice xa xn xc) r s.re W0
    rw [HL.out] at hseq
    try rw [hW0]
    try rw [hD]
    have HDB := Lib.hid hDB
    have HWS := Lib.hid hWs
    clear hD hW0 m1 m2 m3 bW hbB c3 hDB LS hX
    gi_wp2_with fail
    refine wpIn_rangeFunc_numB (n := 3) rfl (by omega) (gf := 34) (lb := #[.pointer (some ⟨D, 0, none⟩)]) rfl trivial (enters_of Try.func34 (by kernel_rfl) rfl)
      hseq (Below.refl _ _) (fun _ => rfl)
      (fun H k W => GoI B D bl ba id (xa, xn, xc) s w k W)
      (fun c k W => c = .ret ∧ RowC W (B + 1) 4 [.bool false] ∧ Below B w W ∧ ¬ sGood s)
      ?hR ?hI ?hup ?hIx GI0
      (fun k a' W => ∃ C q, D < C ∧ r[k]? = some q ∧ RowC W C 39 (rvL q) ∧ a' = { tmps := #[.agg #[.int .i64 bl, .int .i64 ba, .int .i64 id, .slice xa xn xc], .pointer (some ⟨B, 0, none⟩), .pointer (some ⟨B + 1, 0, none⟩), .int .i64 (leastAt s.re k), .pointer (some ⟨C, 0, none⟩), .agg #[.int .i64 bl, .int .i64 ba, .int .i64 id, .slice xa xn xc], .bool true, .bool false, .pointer (some ⟨B, 3, none⟩), .slice xa xn xc, .func (.func 34) #[] #[.pointer (some ⟨D, 0, none⟩)], .int .i64 (leastAt s.re k), rvV q, undef, undef, undef, undef, undef, undef, undef, undef, undef, undef, undef, undef, undef], defers := [] })
      ?hAx ?assign ?body ?done ?stop
    case hR =>
      intro H k W g
      exact ⟨g.lb.cell 0 _ rfl, g.lb.lt, HS.out.below (by rw [HSZ.out]; exact g.be)⟩
    case hI =>
      intro H k Y Z row g hg hr
      exact g.own (by rw [HSZ.out]; exact Nat.le_refl _) (by have := HWS.out; have := HDB.out; have := HSZ.out; omega) hg hr
    case hup => exact fun H k W g => g
    case hIx =>
      intro c k Y Z row ⟨g1, g2, g3, g4⟩ hg hr
      exact ⟨g1, rowC_own g2 hg hr, below_own g3 (by rw [HSZ.out]; exact Nat.le_refl _) hg (fun r e => ⟨by have := (hr r e).1; have := HWS.out; have := HDB.out; have := HSZ.out; omega, (hr r e).2⟩), g4⟩
    case hAx =>
      rintro k a' _ Y Z row ⟨C, q, f1, f2, f3, f4⟩ hg hr
      exact ⟨C, q, f1, f2, rowC_own f3 hg hr, f4⟩
    case assign =>
      rintro lp H k W K hH hHW hkm g hK
      obtain ⟨q, s', hq, hs, -⟩ := rcR_at HS.out (k := k) (by rw [HL.out]; exact hkm)
      have ST := new_rc W q
      have HZ : Hid (D < W.heap.size) := g.lb.lt
      have bN := below_new W (.cells (rvL q).toArray 39)
      have hK := hK _ _ (keepsFrom_below bN) (stay_below bN (Nat.le_refl _)) (g.below (by have := HZ.out; have := HDB.out; omega) bN) ⟨W.heap.size, q, HZ.out, hq, RowC.new W _ _, rfl⟩
      rw [encR_at hq]
      clear g hq hs bN
      gi_wp2
      exact hK
    case body =>
      rintro lp H G k a' W _ _ hH hHG hGW hkm g ⟨C, q, hC, hq, hx, rfl⟩
      obtain ⟨q', s', hq', hs, hqs⟩ := rcR_at HS.out (k := k) (by rw [HL.out]; exact hkm)
      obtain rfl : q' = q := by rw [hq] at hq'; cases hq'; rfl
      obtain ⟨q1, q2, q3, q4⟩ := q'
      have eq1 := hqs.fr
      have eq2 := hqs.ct
      have eq3 := hqs.ze
      simp only at eq1 eq2 eq3
      have LD := load_rcC hx
      have d0 := g.sb.cell 0 _ rfl
      have hle := least_nn HHD.out (by rw [HL.out]; exact hkm) g.ok
      obtain ⟨lo, hlo⟩ : ∃ lo, leastAt s.re k = lo := ⟨_, rfl⟩
      have hHD := HHD.out
      rw [HBL.out, HBA.out] at hHD
      have hpl := sm_place (bl := bl) ⟨hHD.1, hHD.2.1⟩ s' hqs.ok (by rw [hlo] at hle; exact hle) q4 W
      rw [← eq1, ← eq2, ← eq3] at hpl
      rw [hlo]
      have HZ : Hid (B + 1 < H) := by have := HWS.out; have := HDB.out; show _ < _; omega
      have HGW := Lib.hid hGW
      by_cases p1 : plOk bl lo s'
      · have HP := Lib.hid (calls_yes hpl p1)
        have hda : ∀ y : World, Below W.heap.size W y → Calls Try.prog 31 #[rvV (q1, q2, q3, q4), .int .i64 ba] y fun e w' => ∃ t, e = .returned (.bool t) ∧ (t = true ↔ daOk ba s') ∧ Below y.heap.size y w' := fun y hy => by
          have := sm_data (x := s') (d := q4) (w := y) (by obtain ⟨a1, a2, a3, a4⟩ := p1; have := hHD.1; have := hHD.2.1; rw [hlo] at hle; omega) ((hqs.da.below (by rw [HSZ.out]; exact g.be)).below hy) ba
          rw [← eq1, ← eq2, ← eq3] at this
          exact this
        by_cases p2 : daOk ba s'
        · have HDA : Hid (∀ y : World, Below W.heap.size W y → Calls Try.prog 31 #[rvV (q1, q2, q3, q4), .int .i64 ba] y fun e w' => e = .returned (.bool true) ∧ Below y.heap.size y w') := fun y hy => calls_yes (hda y hy) p2
          have HO : Hid (okTo s (k + 1)) := okTo_succ g.ok hs ⟨by rw [HBL.out, hlo]; exact p1, by rw [HBA.out]; exact p2⟩
          have HX := Lib.hid hx
          have GG := Lib.hid g
          have HL2 : Hid (∀ y : World, Below W.heap.size W y → (loadVar 39 ⟨C, 0, none⟩).run Try.prog y = .ok (rvV (q1, q2, q3, q4)) y) := fun y hy => load_rcC (hx.below hy)
          have HL3 : Hid (∀ y : World, Below W.heap.size W y → y.cell? ⟨B, 1, none⟩ = some (.int .i64 ba)) := fun y hy => (g.sb.below hy).cell 1 _ rfl
          clear hda hpl p1 p2 hq hq' hs hqs eq1 eq2 eq3 hx hle hlo g hkm hGW hH hHG hHD
          simp only [rvV, slV] at LD HP HDA HL2
          gi_step
          gi_step
          gi_step
          refine region_seq_roundC (letsOut_thenC (letsOut_inBlock letsOut_numB)) (by kernel_rfl) ?_
          go_wp2_with fail
          refine HP.out.mono ?_
          rintro e y ⟨rfl, hy⟩
          have l2 := HL2.out y hy
          have l3 := HL3.out y hy
          have HD2 := Lib.hid (HDA.out y hy)
          have HY2 := Lib.hid hy
          clear hy
          go_wp2_with fail
          refine HD2.out.mono ?_
          rintro e z ⟨rfl, hz⟩
          have HZ2 : Hid (Below W.heap.size W z) := HY2.out.trans (hz.mono HY2.out.size)
          clear hz
          go_wp2_with fail
          gi_wp2
          have g := GG.out.below (by rw [← HSZ.out]; exact Nat.le_trans GG.out.be.size (Nat.le_refl _)) HZ2.out
          exact ⟨⟨keepsFrom_below HZ2.out, stay_below HZ2.out HGW.out⟩, ⟨g.sb, g.rb, g.lb, g.be, HO.out⟩⟩
        · have HDA : Hid (∀ y : World, Below W.heap.size W y → Calls Try.prog 31 #[rvV (q1, q2, q3, q4), .int .i64 ba] y fun e w' => e = .returned (.bool false) ∧ Below y.heap.size y w') := fun y hy => calls_no (hda y hy) p2
          have HN : Hid (¬ sGood s) := sGood_not hs (fun h => p2 (by have := h.2; rw [HBA.out] at this; exact this))
          have GG := Lib.hid g
          have HL2 : Hid (∀ y : World, Below W.heap.size W y → (loadVar 39 ⟨C, 0, none⟩).run Try.prog y = .ok (rvV (q1, q2, q3, q4)) y) := fun y hy => load_rcC (hx.below hy)
          have HL3 : Hid (∀ y : World, Below W.heap.size W y → y.cell? ⟨B, 1, none⟩ = some (.int .i64 ba)) := fun y hy => (g.sb.below hy).cell 1 _ rfl
          clear hda hpl p1 p2 hq hq' hs hqs eq1 eq2 eq3 hx hle hlo g hkm hGW hH hHG hHD
          simp only [rvV, slV] at LD HP HDA HL2
          gi_step
          gi_step
          gi_step
          refine region_seq_roundC (letsOut_thenC (letsOut_inBlock letsOut_numB)) (by kernel_rfl) ?_
          go_wp2_with fail
          refine HP.out.mono ?_
          rintro e y ⟨rfl, hy⟩
          have l2 := HL2.out y hy
          have l3 := HL3.out y hy
          have HD2 := Lib.hid (HDA.out y hy)
          have HY2 := Lib.hid hy
          clear hy
          go_wp2_with fail
          refine HD2.out.mono ?_
          rintro e z ⟨rfl, hz⟩
          have HZ2 : Hid (Below W.heap.size W z) := HY2.out.trans (hz.mono HY2.out.size)
          have g := GG.out.below (by rw [← HSZ.out]; exact Nat.le_trans GG.out.be.size (Nat.le_refl _)) HZ2.out
          have fz := g.rb.frozen 0
          have cz := g.rb.cell 0 _ rfl
          have HR3 : Hid (RowC (z.setCell ⟨B + 1, 0, none⟩ (.bool false)) (B + 1) 4 [.bool false]) := g.rb.set 0 _
          have HB3 : Hid (Below B w (z.setCell ⟨B + 1, 0, none⟩ (.bool false))) := set_below g.be (by omega) 0 _
          have HKF : Hid (KeepsFrom W0.heap.size W (z.setCell ⟨B + 1, 0, none⟩ (.bool false))) := keepsFrom_trans (keepsFrom_below HZ2.out) (keepsFrom_cells g.rb (grownBy_setCellJ z (B + 1) 0 _))
          have HST : Hid (StayG H G W (z.setCell ⟨B + 1, 0, none⟩ (.bool false))) := (stay_below HZ2.out HGW.out).trans (stay_set HZ.out (Nat.le_trans HGW.out HZ2.out.size))
          clear hz g
          go_wp2_with fail
          gi_wp2
          exact ⟨⟨HKF.out, HST.out⟩, rfl, HR3.out, HB3.out, HN.out⟩
      · have HP := Lib.hid (calls_no hpl p1)
        have HN : Hid (¬ sGood s) := sGood_not hs (fun h => p1 (by have := h.1; rw [HBL.out, hlo] at this; exact this))
        have GG := Lib.hid g
        clear hpl p1 hq hq' hs hqs eq1 eq2 eq3 hx hle hlo g hkm hGW hH hHG hHD
        simp only [rvV, slV] at LD HP
        gi_step
        gi_step
        gi_step
        refine region_seq_roundC (letsOut_thenC (letsOut_inBlock letsOut_numB)) (by kernel_rfl) ?_
        go_wp2_with fail
        refine HP.out.mono ?_
        rintro e z ⟨rfl, hz⟩
        have HZ2 := Lib.hid hz
        have g := GG.out.below (by rw [← HSZ.out]; exact Nat.le_trans GG.out.be.size (Nat.le_refl _)) HZ2.out
        have fz := g.rb.frozen 0
        have cz := g.rb.cell 0 _ rfl
        have HR3 : Hid (RowC (z.setCell ⟨B + 1, 0, none⟩ (.bool false)) (B + 1) 4 [.bool false]) := g.rb.set 0 _
        have HB3 : Hid (Below B w (z.setCell ⟨B + 1, 0, none⟩ (.bool false))) := set_below g.be (by omega) 0 _
        have HKF : Hid (KeepsFrom W0.heap.size W (z.setCell ⟨B + 1, 0, none⟩ (.bool false))) := keepsFrom_trans (keepsFrom_below HZ2.out) (keepsFrom_cells g.rb (grownBy_setCellJ z (B + 1) 0 _))
        have HST : Hid (StayG H G W (z.setCell ⟨B + 1, 0, none⟩ (.bool false))) := (stay_below HZ2.out HGW.out).trans (stay_set HZ.out (Nat.le_trans HGW.out HZ2.out.size))
        clear hz g
        go_wp2_with fail
        gi_wp2
        exact ⟨⟨HKF.out, HST.out⟩, rfl, HR3.out, HB3.out, HN.out⟩
    case done =>
      rintro Dd W hD g hK
      have HG : Hid (sGood s) := okTo_all (by rw [HL.out]; exact g.ok) HHD.out
      have d3 := g.rb.cell 0 _ rfl
      have f2 := g.rb.frozen 0
      have GG := Lib.hid g
      have HK := Lib.hid hK
      have HKF : Hid (KeepsFrom 0 W (W.setCell ⟨B + 1, 0, none⟩ (.bool true))) := keepsFrom_cells g.rb (grownBy_setCellJ W (B + 1) 0 _)
      clear g hK
      gi_wp2
      have hK2 := HKF.out.same Dd _ (Nat.zero_le _) HK.out rfl
      refine ⟨by simp, .inl ⟨_, _, rfl, run_takeDeferred hK2, ?_⟩⟩
      have hg2 := grownBy_putObj' (W.setCell ⟨B + 1, 0, none⟩ (.bool true)) Dd (.deferred none)
      have hy2 : RowC _ (B + 1) 4 [.bool true] := rowC_own (N := 0) (GG.out.rb.set 0 (.bool true)) hg2 (fun r e => by cases e; exact ⟨Nat.zero_le _, _, hK2, rfl⟩)
      refine ⟨_, results_cell rfl rfl (load_bool1 hy2), true, rfl, ⟨fun _ => HG.out, fun _ => rfl⟩, ?_⟩
      rw [HSZ.out]
      exact (set_below GG.out.be (by omega) 0 _).trans (belowK_b (w := w) (by rw [HSZ.out]; exact Nat.le_refl _) _ Dd _ _ (by have := HWS.out; have := HDB.out; have := HSZ.out; omega) hK2 rfl rfl)
    case stop =>
      rintro Dd c k W hD _ ⟨rfl, g2, g3, g4⟩ hK
      have G2 := Lib.hid g2
      have G3 := Lib.hid g3
      have G4 := Lib.hid g4
      have HK := Lib.hid hK
      clear g2 g3 g4 hK
      gi_wp2
      refine ⟨by simp, .inl ⟨_, _, rfl, run_takeDeferred HK.out, ?_⟩⟩
      have hg2 := grownBy_putObj' W Dd (.deferred none)
      have hy2 := rowC_own (N := 0) G2.out hg2 (fun r e => by cases e; exact ⟨Nat.zero_le _, _, HK.out, rfl⟩)
      refine ⟨_, results_cell rfl rfl (load_bool1 hy2), false, rfl, ⟨fun h => (by cases h), fun h => absurd h G4.out⟩, ?_⟩
      rw [HSZ.out]
      exact G3.out.trans (belowK_b (w := w) (by rw [HSZ.out]; exact Nat.le_refl _) W Dd _ _ (by have := HWS.out; have := HDB.out; have := HSZ.out; omega) HK.out rfl rfl)
  · have HH := Lib.hid (calls_no hhd hh)
    have HN : Hid (¬ sGood s) := by intro hg; have := hg.1; rw [hbl, hba, hid] at this; exact hh this
    have f2 := fun y (hy : Below X.heap.size X y) => (k2.below hy).frozen 0
    have HF2 := Lib.hid f2
    have K2 := Lib.hid k2
    have HXB := Lib.hid hXb
    have HXS := Lib.hid hXs
    clear hhd hh k1 k2 hXb hXs hlc hcm ib ia ii hok hR f2 hbl hba hid hle
    go_enter Try.func12, Try.ntmps12
    go_wp2_with fail
    refine HH.out.mono ?_
    rintro e y ⟨rfl, hy⟩
    have f3 := HF2.out y hy
    have c3 := (K2.out.below hy).cell 0 _ rfl
    have R3 : Hid (RowC (y.setCell ⟨B + 1, 0, none⟩ (.bool false)) (B + 1) 4 [.bool false]) := (K2.out.below hy).set 0 _
    have HB3 : Hid (Below B w (y.setCell ⟨B + 1, 0, none⟩ (.bool false))) := set_below (HXB.out.trans (hy.mono (by have := HXS.out; omega))) (by omega) 0 _
    clear hy
    go_wp2_with fail
    refine bodyPost_ret (results_cell rfl rfl (load_bool1 R3.out)) rfl ?_
    exact ⟨false, rfl, ⟨fun h => (by cases h), fun h => absurd h HN.out⟩, by rw [HSZ.out]; exact HB3.out⟩
end Go.Proofs.Ytlnljanhnodhkaa

/- Marked sectors in memory: their rows of cells, read and written at once; copies. -/
namespace Go.Proofs.Ytlnljanhnodhkaa
open Go.RowKit
set_option linter.unusedVariables false

def u8s (bs : List Int) : List Value := bs.map (Value.int .u8)
/-- Bytes that a call has made since W. -/
def OwnB (W x : World) (v : Value) (bs : List Int) : Prop := x.ownsRow W.heap.size 5 1 v bs.length (u8s bs)
theorem OwnB.below {W x x' : World} {v : Value} {bs : List Int} (h : OwnB W x v bs) (hb : Below x.heap.size x x') : OwnB W x' v bs := by
  refine ⟨h.1, ?_⟩
  rcases h.2 with h' | ⟨g, cap, cur, rfl, a1, a2, a3⟩
  · exact .inl h'
  · exact .inr ⟨g, cap, cur, rfl, a1, (hb.block g (Array.getElem?_eq_some_iff.1 a2).1).trans a2, a3⟩
theorem OwnB.sl {W x : World} {v : Value} {bs : List Int} (h : OwnB W x v bs) : Sl .u8 x v bs := Sl.of_owns h
theorem ownB_one (W x : World) (hb : W.heap.size ≤ x.heap.size) (y : Int) : OwnB W (x.alloc (.cells #[.int .u8 y] 5)) (.slice (some ⟨x.heap.size, 0, none⟩) 1 1) [y] :=
  World.ownsRow_lit (base := W.heap.size) x #[.int .u8 y] 1 hb (by simp [maxLen]) rfl
set_option maxRecDepth 100000 in
theorem OwnB.app {W x : World} {v u : Value} {xs bs : List Int} (h : OwnB W x v xs) (hb : Below W.heap.size W x) (hu : Sl .u8 x u bs) (hl : xs.length + bs.length ≤ 1000000) :
    ∃ v' x', Hid ((Builtin.append_ #[25, 25] 25 #[v, u]).run Try.prog x = .ok v' x') ∧ Hid (OwnB W x' v' (xs ++ bs)) ∧ Hid (Below W.heap.size W x') := by
  obtain ⟨v', x', r1, r2, r3⟩ := run_append_bytes W.heap.size x v xs h u bs hu (by omega) hb.size
  exact ⟨v', x', r1, r2, hb.grown r3 hb.size (fun k e => (h.lt k e).1)⟩
end Go.Proofs.Ytlnljanhnodhkaa

/- The library's Grow and Concat at bytes. -/
namespace Go.Proofs.Ytlnljanhnodhkaa
open Go.RowKit Go.Shelf
set_option linter.unusedVariables false

set_option maxRecDepth 100000 in
set_option maxHeartbeats 1600000 in
/-- **Grow** of the nil slice: room, and no bytes. -/
theorem grow_nil (n : Nat) (hn : n ≤ 1000000) (w : World) :
    Calls Try.prog 37 #[.slice none 0 0, .int .i64 (n : Int)] w fun e w' => ∃ v, e = .returned v ∧ w'.ownsRow w.heap.size 5 1 v 0 [] ∧ Below w.heap.size w w' := by
  obtain ⟨i0, hi, hz0, hz1, hz2⟩ := info_parts info_u8
  have g0 : ¬ ((n : Int) < 0) := by omega
  have g1 : decide ((n : Int) < 0) = false := by simp
  by_cases h : 0 < n
  · have g2 : decide ((n : Int) > 0) = true := by simp; omega
    have hr := fun ty => Lib.run_append_grow_zeros (P := Try.prog) w 25 3 ty 5 i0 (.int .u8 0) .i64 .i64 Try.underlying25 Try.underlying3 hi hz0 none 0 0 [] (run_firstCells_none w.drew i0.size 0 0 0) n h (by omega) (by omega) (by omega) (by rw [hz2]; omega)
      (by rw [hz2]; exact growslice_fits (by omega) (by omega))
    have hc1 := grownCap_ge w (0 + n) 0 5
    have hc2 := grownCap_le_maxLen w (0 + n) 0 5 (by unfold maxLen; omega)
    obtain ⟨G, hG⟩ : ∃ G, grownCap w (0 + n) 0 5 = G := ⟨_, rfl⟩
    rw [hG] at hr hc1 hc2
    obtain ⟨W, hW⟩ : ∃ W, w.drew.alloc (.cells (([] : List Value).toArray ++ Builtin.zeroCells (Value.int .u8 0).cells n ++ Builtin.zeroCells (Value.int .u8 0).cells (G - (0 + n))) 5) = W := ⟨_, rfl⟩
    rw [hW] at hr
    have HO : Hid (W.ownsRow w.heap.size 5 1 (.slice (some ⟨w.heap.size, 0, none⟩) 0 G) 0 []) := by
      refine ⟨by simp, .inr ⟨w.heap.size, G, _, rfl, Nat.le_refl _, by rw [← hW]; exact heap_alloc_new w.drew _, Nat.zero_le _, hc2, ?_, by simp⟩⟩
      simp [size_zeroCells, Value.cells]
      omega
    have HB : Hid (Below w.heap.size w W) := by rw [← hW]; exact ((Below.refl _ w).drew).alloc (Nat.le_refl _) _
    have HR := Lib.hid hr
    have g3 : G ≤ 9223372036854775807 := by unfold maxLen at hc2; omega
    clear hr hW hc2 hG hz0 hz1 hz2 hi
    go_enter Try.func37, Try.ntmps37
    go_wp2_with (at_builtin; refine Lib.wpList_append_run _ rfl _ _ _ _ rfl _ _ rfl rfl _ _ (HR.out _) ?_)
    go_ret
    exact ⟨_, rfl, HO.out, HB.out⟩
  · obtain rfl : n = 0 := by omega
    go_enter Try.func37, Try.ntmps37
    go_wp2
    go_ret
    exact ⟨_, rfl, World.ownsRow_nil _ _ _ _, Below.refl _ _⟩

/-- A slice of slices of bytes. -/
def Sls (w : World) (v : Value) (bss : List (List Int)) : Prop :=
  ∃ B cap, v = .slice (some ⟨B, 0, none⟩) bss.length cap ∧ bss.length ≤ cap ∧ cap ≤ maxLen ∧ B < w.heap.size ∧ ∀ k, k < bss.length → ∃ u, w.cell? ⟨B, k, none⟩ = some u ∧ Sl .u8 w u (bss[k]?.getD [])
theorem take_snoc_nil (bss : List (List Int)) {k : Nat} (h : k < bss.length) : bss.take (k + 1) = bss.take k ++ [bss[k]?.getD []] := by
  rw [List.take_succ_eq_append_getElem h, List.getElem?_eq_getElem h]
  rfl
theorem flat_snocB (bss : List (List Int)) {k : Nat} (h : k < bss.length) : (bss.take (k + 1)).flatten = (bss.take k).flatten ++ bss[k]?.getD [] := by
  rw [take_snoc_nil bss h]; simp
theorem flat_le (bss : List (List Int)) (k : Nat) : (bss.take k).flatten.length ≤ bss.flatten.length := by
  conv => rhs; rw [← List.take_append_drop k bss]
  rw [List.flatten_append, List.length_append]
  omega

set_option maxRecDepth 100000 in
set_option maxHeartbeats 1600000 in
/-- **Concat**. -/
theorem concat_any (v : Value) (bss : List (List Int)) (w : World) (hv : Sls w v bss) (hl : bss.flatten.length ≤ 1000000) :
    Calls Try.prog 25 #[v] w fun e w' => ∃ v, e = .returned v ∧ w'.ownsRow w.heap.size 5 1 v bss.flatten.length (u8s bss.flatten) ∧ Below w.heap.size w w' := by
  obtain ⟨B, cap, rfl, h1, h2, h3, h4⟩ := hv
  obtain ⟨n, hn⟩ : ∃ n, bss.length = n := ⟨_, rfl⟩
  have HN := Lib.hid hn
  have HL := Lib.hid hl
  rw [hn] at h1 h4 ⊢
  have H4 := Lib.hid h4
  have hm : (n : Int) ≤ 9223372036854775807 := by unfold maxLen at h2; omega
  clear hn hl h4 h2
  go_enter Try.func25, Try.ntmps25
  go_wp2_with fail
  go_loop [3, 11] (fun s i => ∃ k : Nat, k ≤ n ∧ i = .int .i64 k ∧ s = .int .i64 (((bss.take k).flatten.length : Nat) : Int)) (fun _ i => n - (intOf i).toNat)
  case atStart => exact ⟨0, Nat.zero_le _, rfl, rfl⟩
  case round =>
    obtain ⟨k, hk, rfl, rfl⟩ := hrel
    obtain ⟨m, hm0⟩ : ∃ m, (bss.take k).flatten.length = m := ⟨_, rfl⟩
    rw [hm0]
    by_cases hlt : k < n
    · have hlt' : decide ((k : Int) < (n : Int)) = true := by simp; omega
      obtain ⟨u, c0, ⟨a, cp, rfl, -⟩⟩ := H4.out k hlt
      obtain ⟨q, hq⟩ : ∃ q, (bss[k]?.getD []).length = q := ⟨_, rfl⟩
      rw [hq] at c0
      have hs : (bss.take (k + 1)).flatten.length = m + q := by rw [flat_snocB bss (by rw [HN.out]; exact hlt), List.length_append, hm0, hq]
      have hb := flat_le bss (k + 1)
      have hb2 := HL.out
      have g5 : (m : Int) + (q : Int) ≤ 1000000 := by omega
      have g6 : decide ((m : Int) + (q : Int) < 0) = false := by simp; omega
      have HS := Lib.hid hs
      clear hs hb hb2 hq hm0
      go_wp2_with fail
      go_round
      case rel => exact ⟨k + 1, by omega, by go_num, by rw [HS.out]; simp⟩
      case measure => simp [intOf]; omega
    · have hlt' : decide ((k : Int) < (n : Int)) = false := by simp; omega
      obtain rfl : k = n := by omega
      have hmb : m ≤ 1000000 := by rw [← hm0]; exact Nat.le_trans (flat_le bss k) HL.out
      clear hm0
      go_wp2_with fail
      go_at_call 37
      refine (grow_nil m hmb w).mono ?_
      rintro e w1 ⟨v1, rfl, hO, hB⟩
      have HO := Lib.hid hO
      have HB := Lib.hid hB
      clear hO hB
      go_wp2_with fail
      go_loopw [6, 27] (fun v i wr => ∃ j : Nat, j ≤ k ∧ i = .int .i64 j ∧ Hid (OwnB w wr v (bss.take j).flatten) ∧ Hid (Below w.heap.size w wr)) (fun _ i _ => k - (intOf i).toNat)
      case atStart => exact ⟨0, Nat.zero_le _, rfl, HO, HB⟩
      case round =>
        obtain ⟨j, hj, rfl, HO, HB⟩ := hrel
        by_cases hlt : j < k
        · have hlt' : decide ((j : Int) < (k : Int)) = true := by simp; omega
          obtain ⟨u, c0, hu⟩ := H4.out j hlt
          have c1 : wr.cell? ⟨B, j, none⟩ = some u := (HB.out.cell (p := ⟨B, j, none⟩) h3).trans c0
          obtain ⟨v5, x3, R3, O3, K3⟩ := HO.out.app HB.out (hu.below HB.out) (by
            rw [← List.length_append, ← flat_snocB bss (by rw [HN.out]; exact hlt)]
            exact Nat.le_trans (flat_le bss _) HL.out)
          clear c0 hu
          go_wp2_with (at_builtin; refine wpList_append_run (.tmp 31) (.tmp 32) 25 rfl rfl _ _ _ rfl rfl R3.out ?_)
          go_roundw
          case rel => exact ⟨j + 1, by omega, by go_num, by rw [flat_snocB bss (by rw [HN.out]; exact hlt)]; exact O3, K3⟩
          case measure => simp [intOf]; omega
        · have hlt' : decide ((j : Int) < (k : Int)) = false := by simp; omega
          obtain rfl : j = k := by omega
          have e1 : bss.take j = bss := List.take_of_length_le (by rw [HN.out]; exact Nat.le_refl _)
          rw [e1] at HO
          clear e1
          go_wp2_with fail
          go_ret
          exact ⟨_, rfl, HO.out, HB.out⟩
end Go.Proofs.Ytlnljanhnodhkaa

/- The range function of package le has its contract: each place below the bound comes, with its shift, in order. -/
namespace Go.Proofs.Ytlnljanhnodhkaa
open Go.RowKit Go.Shelf
set_option linter.unusedVariables false

attribute [local go_sem] Oper.semAt_some

/-- What has come when k rounds are over: the first k places. -/
def upto (m k : Nat) : List (Fin m) := (List.finRange m).take k
theorem upto_succ (m k : Nat) (h : k < m) : upto m (k + 1) = upto m k ++ [⟨k, h⟩] := by
  unfold upto
  rw [List.take_succ_eq_append_getElem (by simpa using h)]
  simp
theorem upto_length (m k : Nat) (h : k ≤ m) : (upto m k).length = k := by simp [upto, h]
theorem upto_all (m : Nat) : upto m m = List.finRange m := by
  unfold upto; rw [List.take_of_length_le (by simp)]

def encP {m : Nat} (x : Fin m) : Array Value := #[.int .i64 (x.1 : Int), .int .u64 (8 * (x.1 : Int))]

set_option maxRecDepth 100000 in
set_option maxHeartbeats 1000000 in
theorem places_in (F : Fence) (n : Nat) (hf : F.fn 35) (hro : F.round = none) (size : Int) (w : World) :
    CallsIn F n Try.prog 35 #[.int .i64 size] w fun e w' => e = .returned (.func (.func 41) #[] #[.pointer (some ⟨w.heap.size, 0, none⟩)]) ∧ w' = w.alloc (.cells #[.int .i64 size] 3) := by
  refine callsIn_of_wp Try.func35 rfl hf ?_ hro
  simp only [Try.ntmps35, List.size_toArray, List.length_cons, List.length_nil, Nat.reduceAdd, Nat.reduceSub, Array.replicate_succ, Array.replicate_zero, List.push_toArray, List.append_toArray, List.nil_append, List.cons_append]
  gi_wp2
  go_ret
  exact ⟨rfl, rfl⟩

set_option maxRecDepth 100000 in
set_option maxHeartbeats 2000000 in
theorem places1_in (F : Fence) (n : Nat) (hf : F.fn 41) (hro : F.round = none) (hn : 1 ≤ n) (l Bs m : Nat) (size : Int) (hm : (size ≤ 8 ∧ m = size.toNat) ∨ (8 < size ∧ m = 8)) (J Jx : List (Fin m) → World → Prop)
    (hY : ∀ pre x W, J pre W → pre.length < m → YieldAt F (n - 1) Try.prog l (encP x) W fun e W' =>
      (e = .returned (.bool true) ∧ J (pre ++ [x]) W' ∧ True) ∨ (e = .returned (.bool false) ∧ Jx (pre ++ [x]) W'))
    (W : World) (hBs : W.cell? ⟨Bs, 0, none⟩ = some (.int .i64 size)) (h0 : J [] W) :
    CallsIn F n Try.prog 41 #[.func (.yield l) #[] #[], .pointer (some ⟨Bs, 0, none⟩)] W fun e W' => (∃ v, e = .returned v) ∧
      ((∃ ys, ys = List.finRange m ∧ J ys W') ∨ (∃ pre, (∃ k, k ≤ m ∧ pre = upto m k) ∧ Jx pre W')) := by
  refine callsIn_of_wp Try.func41 rfl hf ?_ hro
  simp only [Try.ntmps41, List.size_toArray, List.length_cons, List.length_nil, Nat.reduceAdd, Nat.reduceSub, Array.replicate_succ, Array.replicate_zero, List.push_toArray, List.append_toArray, List.nil_append, List.cons_append]
  gi_wp2
  all_goals
    gi_loopw [6] (fun i wr => ∃ k : Nat, k ≤ m ∧ i = .int .i64 k ∧ J (upto m k) wr) (fun i _ => m - (intOf i).toNat)
    case atStart => exact ⟨0, Nat.zero_le _, rfl, h0⟩
    case round =>
      obtain ⟨k, hk, rfl, hJs⟩ := hrel
      by_cases hlt : k < m
      · obtain ⟨fn, tmps, assign, body, hy, hR⟩ := hY _ ⟨k, hlt⟩ wr hJs (by rw [upto_length m k hk]; exact hlt)
        dsimp only [encP] at hy
        have hb1 : (k : Int) < size := by omega
        have hb2 : (k : Int) < 8 := by omega
        gi_wp2
        refine hR.mono ?_
        rintro e W3 (⟨rfl, hJ3, hk3⟩ | ⟨rfl, hJx3⟩)
        · gi_wp2
          go_roundw
          case rel => exact ⟨k + 1, by omega, by simp, by rw [upto_succ m k hlt]; exact hJ3⟩
          case measure => simp [intOf]; omega
        · gi_wp2
          refine bodyPost_ret (results_none rfl _ _ _) rfl ?_
          exact ⟨⟨_, rfl⟩, .inr ⟨_, ⟨k + 1, by omega, (upto_succ m k hlt).symm⟩, hJx3⟩⟩
      · obtain rfl : k = m := by omega
        gi_wp2
        go_end0
        exact ⟨⟨_, rfl⟩, .inl ⟨_, rfl, by rw [← upto_all]; exact hJs⟩⟩

/-- What a loop over the places may rely on: nothing but its own. -/
def AnyKp (_ _ : World) : Prop := True

set_option maxRecDepth 100000 in
theorem places_stops (F : Fence) (n : Nat) (hf : F.fn 41) (hro : F.round = none) (hn : 1 ≤ n) (Bs : Nat) (size : Int) (w : World) (hBs : Bs < w.heap.size)
    (hc : w.cell? ⟨Bs, 0, none⟩ = some (.int .i64 size)) :
    SeqStopsK F n Try.prog 41 #[.pointer (some ⟨Bs, 0, none⟩)] (encP (m := nPlaces size)) AnyKp (fun ys => ys = List.finRange (nPlaces size)) (fun _ => True) (nPlaces size) w := fun l J Jx W hW _ _ hY h0 =>
  (places1_in F n hf hro hn l Bs (nPlaces size) size (nPlaces_cases size) J Jx
    (fun pre x W hJ hl => (hY pre x W hJ hl).mono fun e W' h => h.imp (fun ⟨a, b, _⟩ => ⟨a, b, trivial⟩) id)
    W ((hW.cell (p := ⟨Bs, 0, none⟩) hBs).trans hc) h0).mono fun e W' ⟨he, h⟩ => ⟨he, h.imp id fun ⟨pre, _, hj⟩ => ⟨pre, trivial, hj⟩⟩

theorem anyKp_t {A B C : World} (_ : AnyKp A B) (_ : AnyKp B C) : AnyKp A C := trivial
end Go.Proofs.Ytlnljanhnodhkaa

/- The bytes of a number, as the package le writes them. -/
namespace Go.Proofs.Ytlnljanhnodhkaa
open Go.RowKit Go.Shelf
set_option linter.unusedVariables false

attribute [local go_sem] Oper.semAt_some

set_option maxRecDepth 100000 in
set_option maxHeartbeats 2000000 in
theorem put_some (n : Int) (size : Nat) (w : World) (hs1 : 1 ≤ size) (hs2 : size ≤ 16) (hn0 : 0 ≤ n) (hn1 : n < 18446744073709551616) :
    Calls Try.prog 23 #[.int .u64 n, .int .i64 (size : Int)] w fun e w' => ∃ v, e = .returned v ∧ w'.ownsRow w.heap.size 5 1 v size ((putL n size).map (Value.int .u8)) ∧ Below w.heap.size w w' := by
  refine (callsIn_wide (n := 3)).1 ?_
  refine callsIn_of_wp_marks Try.func23 rfl trivial ?_ rfl
  simp only [Try.ntmps23, List.size_toArray, List.length_cons, List.length_nil, Nat.reduceAdd, Nat.reduceSub, Array.replicate_succ, Array.replicate_zero, List.push_toArray, List.append_toArray, List.nil_append, List.cons_append]
  obtain ⟨i0, hi, hz0, hz1, hz2⟩ := info_parts info_u8
  have g1 : ¬ ((size : Int) < 1) := by omega
  have g2 : ¬ (16 < (size : Int)) := by omega
  have g3 : decide ((size : Int) < 1) = false := by simpa using g1
  have g4 : decide (16 < (size : Int)) = false := by simpa using g2
  gi_wp2_with (first | (gi_at_make; refine wpListIn_make_full _ rfl _ _ 25 rfl w.heap.size 5 i0 (.int .u8 0) 1 Try.underlying25 hi hz0 hz1 .i64 .i64 _ _ size rfl rfl rfl rfl (by rw [hz2]; omega) (by unfold maxLen; omega) (by simp) ?_; intro w1 hown1 hgrow1) | (refine ⟨trivial, ?_⟩; gi_at_call 35; refine (places_in _ _ trivial rfl _ _).mono ?_; rintro e w' ⟨rfl, rfl⟩))
  have hz := hown1.lt _ rfl
  have hown2 : w1.ownsRow w.heap.size 5 1 (.slice (some ⟨w.heap.size + 1, 0, none⟩) size size) size (putF n size (m := nPlaces (size : Int)) []) := by
    rw [putF_nil]
    rw [show (Value.int IntKind.u8 0).cells = #[.int .u8 0] from rfl, toList_madeCells_one, Nat.mul_one, World.size_alloc] at hown1
    exact hown1
  rw [World.size_alloc] at hz
  have bN1 : Boxed w1 w.heap.size 53 (.int .u64 n) := (Boxed.new w 53 (.int .u64 n)).kept hgrow1 (by simp)
  have bS := Boxed.new w1 25 (.slice (some ⟨w.heap.size + 1, 0, none⟩) size size)
  have bP := Boxed.new (w1.alloc (.cells #[.slice (some ⟨w.heap.size + 1, 0, none⟩) size size] 25)) 3 (.int .i64 (size : Int))
  rw [World.size_alloc] at bP
  have hB1 : Below w.heap.size w w1 := ((Below.refl _ w).alloc (Nat.le_refl _) _).grown hgrow1 (by simp) (fun k e => by cases e)
  have hB0 : Below w.heap.size w ((w1.alloc (.cells #[.slice (some ⟨w.heap.size + 1, 0, none⟩) size size] 25)).alloc (.cells #[.int .i64 (size : Int)] 3)) := (hB1.alloc hB1.size _).alloc (by have := hB1.size; simp; omega) _
  clear hown1 hgrow1 g3 g4
  refine wpIn_rangeFunc_ownF (n := 3) rfl (by omega) (gf := 41) (lb := #[.pointer (some ⟨w1.heap.size + 1, 0, none⟩)]) rfl trivial (enters_of Try.func41 (by kernel_rfl) rfl)
    (places_stops Fence.wide 2 trivial rfl (by omega) (w1.heap.size + 1) (size : Int) _ (by simp) bP.cell) anyKp_t (fun _ _ _ _ _ _ _ _ => trivial) (Below.refl _ _) (fun _ => rfl)
    (fun pre W => (W.ownsRow w.heap.size 5 1 (.slice (some ⟨w.heap.size + 1, 0, none⟩) size size) size (putF n size pre) ∧ Boxed W w.heap.size 53 (.int .u64 n) ∧ Boxed W w1.heap.size 25 (.slice (some ⟨w.heap.size + 1, 0, none⟩) size size)) ∧ Below w.heap.size w W)
    (fun _ _ _ => False)
    (OwnFrom.and (OwnFrom.and ((ownsRow_own _ _ _ _ (fun _ => size) (fun pre => putF n size pre)).from _) (OwnFrom.and ((boxed_own _ _ (fun _ => _)).from _) ((boxed_own _ _ (fun _ => _)).from _))) (ownFrom_below (Nat.le_refl _) (by have := hB1.size; simp; omega)))
    (fun _ _ _ _ _ h _ _ => h.elim) ?h0 ?a1 ?assign ?body ?done ?stop
  case h0 => exact ⟨⟨(hown2.alloc _).alloc _, (bN1.alloc _).alloc _, bS.alloc _⟩, hB0⟩
  case assign =>
    intro l x W K hK
    dsimp only [encP]
    gi_wp2
    exact hK
  case body =>
    rintro l pre x W ⟨⟨hrow, hbn, hbs⟩, hB⟩ hlen
    have c1 := hbn.cell
    have c2 := hbs.cell
    have hx : x.1 < size := by have := x.2; unfold nPlaces at this; split at this <;> omega
    have hx8 : x.1 < 8 := by have := x.2; have := nPlaces_le (size : Int); omega
    have hx' : ((x.1 : Nat) : Int) < (size : Int) := by omega
    obtain ⟨z, c3⟩ : ∃ z, W.cell? ⟨w.heap.size + 1, x.1, none⟩ = some (.int .u8 z) := by
      rw [hrow.cellAt x.1 (by omega)]
      unfold putF
      simp [hx]
    have f3 := hrow.frozenAt x.1
    gi_wp2
    have hst := hrow.stored x.1 (.int .u8 (n / 2 ^ (8 * x.1) % 256))
    refine ⟨KeepsOthers.setCell _ _ _, trivial, ⟨?_, hbn.kept hst.2 (by simp), hbs.kept hst.2 (by have := hz.2; simp; omega)⟩, hB.setCell (p := ⟨w.heap.size + 1, x.1, none⟩) (by simp) _⟩
    rw [putF_snoc]
    exact hst.1
  case done =>
    rintro D xs W hD rfl ⟨⟨hrow, hbn, hbs⟩, hB⟩ hK
    have c2 := hbs.cell
    rw [putF_all] at hrow
    gi_wp2
    refine ⟨by simp, .inl ⟨_, _, rfl, run_takeDeferred hK, ?_⟩⟩
    refine ⟨_, results_tmp rfl _ _ _, _, rfl, ownsRow_putObj hrow _ hK rfl, hB.trans (belowK_b (w := w) (Nat.le_refl _) W D _ _ (by have := hB1.size; simp at hD; omega) hK rfl rfl)⟩
  case stop =>
    rintro D c pre W _ _ h _
    exact h.elim

end Go.Proofs.Ytlnljanhnodhkaa

/- Bytes in slices that lie in memory, whatever order they were made in; a literal made of a constant string; le.Put. -/
namespace Go.Proofs.Ytlnljanhnodhkaa
open Go.RowKit Go.Shelf
set_option linter.unusedVariables false

/-- Bytes that lie in memory, each slice by itself. -/
def AllSl (w : World) (L : List (Value × List Int)) : Prop := ∀ p ∈ L, Sl .u8 w p.1 p.2
theorem AllSl.nil (w : World) : AllSl w [] := fun p h => by cases h
theorem AllSl.put {w w' : World} {L : List (Value × List Int)} (h : AllSl w L) (hb : Below w.heap.size w w') {v : Value} {bs : List Int} (hv : Sl .u8 w' v bs) : AllSl w' ((v, bs) :: L) := fun p hp => by
  rcases List.mem_cons.1 hp with rfl | hp
  · exact hv
  · exact (h p hp).below hb
theorem AllSl.below {w w' : World} {L : List (Value × List Int)} (h : AllSl w L) (hb : Below w.heap.size w w') : AllSl w' L := fun p hp => (h p hp).below hb
theorem wpPlan_two {P : Program} {l : List Oper} {Q : Exit → Act → World → Prop} {S : World → Prop} {n i j : Nat} {p q : Plan} {a : Act} {w : World} : wpPlan P l Q S n (.two i j p q) a w = (wpList P l.toArray (planPost S Q (wpPlan P l Q S n p)) [nth l i] a w ∧ wpList P l.toArray (planPost S Q (wpPlan P l Q S n q)) [nth l j] a w) := rfl
set_option maxRecDepth 100000 in
theorem put_sl {x : World} (n : Int) (k : Nat) (h1 : 1 ≤ k) (h2 : k ≤ 16) (h0 : 0 ≤ n) (h3 : n < 18446744073709551616) : Calls Try.prog 23 #[.int .u64 n, .int .i64 (k : Int)] x fun e w' => ∃ a c, e = .returned (.slice a k c) ∧ Sl .u8 w' (.slice a k c) (putL n k) ∧ Below x.heap.size x w' := by
  refine (put_some n k x h1 h2 h0 h3).mono ?_
  rintro e w' ⟨v, rfl, hrow, hb⟩
  have hs := Sl.of_owns (bs := putL n k) (by rw [putL_length]; exact hrow)
  obtain ⟨a, c, hv, -⟩ := id hs
  rw [putL_length] at hv
  subst hv
  exact ⟨a, c, rfl, hs, hb⟩
set_option maxRecDepth 100000 in
theorem conv_mark (w : World) (L : Nat) (C : Array Value) (n c : Nat) (h : w.heap[L]? = some (.cells C 5 (0, 0))) :
    ∃ w', (convert 25 25 (.slice (some ⟨L, 0, none⟩) n c)).run Try.prog w = .ok (.slice (some ⟨L, 0, none⟩) n c) w' ∧ Below L w w' ∧ w'.heap.size = w.heap.size ∧ ∀ p, w'.cell? p = w.cell? p := by
  have hsh : w.shape? L = some (5, C.size) := by unfold World.shape?; rw [h]
  have hlt : L < w.heap.size := (Array.getElem?_eq_some_iff.1 h).1
  have hoth : ∀ k, k ≠ L → (w.freeze ⟨L, C.size, none⟩ 1).heap[k]? = w.heap[k]? := fun k hk => by
    unfold World.freeze
    rw [if_neg (by decide)]
    show (w.heap.modify L _)[k]? = _
    rw [Array.getElem?_modify, if_neg (fun e => hk e.symm)]
  have hat : ∃ r, (w.freeze ⟨L, C.size, none⟩ 1).heap[L]? = some (.cells C 5 r) := by
    unfold World.freeze
    rw [if_neg (by decide)]
    show ∃ r, (w.heap.modify L _)[L]? = _
    rw [Array.getElem?_modify, if_pos rfl, h]
    exact ⟨_, rfl⟩
  have hsz : (w.freeze ⟨L, C.size, none⟩ 1).heap.size = w.heap.size := by
    unfold World.freeze
    rw [if_neg (by decide)]
    exact Array.size_modify
  refine ⟨w.freeze ⟨L, C.size, none⟩ 1, ?_, ⟨rfl, rfl, rfl, by rw [hsz]; exact Nat.le_refl _, fun k hk => hoth k (by omega)⟩, hsz, fun p => ?_⟩
  · simp [convert, run_underlying Try.underlying25, run_underlying Try.underlying5, markStringish, hsh]
  · by_cases hp : p.block = L
    · obtain ⟨r, hr⟩ := hat
      unfold World.cell?
      rw [hp, hr, h]
    · exact World.cell?_of_block (hoth _ hp)
theorem Sl.cells {w w' : World} {v : Value} {bs : List Int} (h : Sl .u8 w v bs) (hs : w'.heap.size = w.heap.size) (hc : ∀ p, w'.cell? p = w.cell? p) : Sl .u8 w' v bs := by
  obtain ⟨a, cap, e, h1, h2, h3, hn⟩ := h
  refine ⟨a, cap, e, h1, h2, ?_, hn⟩
  rcases h3 with h3 | ⟨b, off, e, h3, h4⟩
  · exact .inl h3
  · exact .inr ⟨b, off, e, by rw [hs]; exact h3, fun j hj => (hc _).trans (h4 j hj)⟩
theorem AllSl.cells {w w' : World} {L : List (Value × List Int)} (h : AllSl w L) (hs : w'.heap.size = w.heap.size) (hc : ∀ p, w'.cell? p = w.cell? p) : AllSl w' L := fun p hp => (h p hp).cells hs hc
theorem plan_have {ι : Type} {P : Program} {l : List Oper} {Q : Exit → Act → World → Prop} {S : World → Prop} {n : Nat} {p0 : Plan} {a0 : Act} {x0 : World} (p1 : Plan) (F : ι → Act) (C : ι → World → Prop) (h1 : ∀ i x, C i x → wpPlan P l Q S n p1 (F i) x)
    (h0 : (∀ i x, C i x → wpPlan P l Q S n p1 (F i) x) → wpPlan P l Q S n p0 a0 x0) : wpPlan P l Q S n p0 a0 x0 := h0 h1
end Go.Proofs.Ytlnljanhnodhkaa

