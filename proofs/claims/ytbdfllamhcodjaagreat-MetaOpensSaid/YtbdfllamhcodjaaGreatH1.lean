/- The ground of the proofs, part 1. -/
import Derived.WalkKit
import Derived.Laws.BitsAllLaws
import Derived.Below
import Derived.Test.YtbdfllamhcodjaaGreatProg
import Derived.Deep.MidRow
import Derived.Deep.WholeRow
import Derived.ChangeKeysEq
import Derived.Lib.Hide
import Derived.Laws.ResultCell
import Derived.Great.BuildSlice
import Derived.OwnWalk
import Derived.StillTailTactics
import Derived.OrdersIn
import Derived.RangeFuncCalls
import Derived.RangeFuncKeeps
import Derived.RangeFuncBox
import Derived.Laws.CopyOwn
import Derived.TacticsIn
import Derived.OwnWalkIn
import Derived.Shelf.Abstract
import Derived.Laws.BytesArg
import Derived.BigQuiet
import Derived.OrdersHeld
import Derived.StillTail
import Derived.Laws.StructEq
import Derived.RangeFuncWrites
import Derived.Deep.Upon
import Derived.Maps.AppendAt
import Derived.RangeFuncNested
import Derived.RangeFuncBound
import Derived.RangeFuncLeaves
import Derived.Shelf.RegionOpen
import Derived.TacticsInMore
import Derived.LoopNIn
import Derived.LoopIn
/- Plain facts on numbers and their bytes; no program is named here. -/
namespace Go.Proofs.YtbdfllamhcodjaaGreat
open Go.RowKit
set_option linter.unusedVariables false

/-- The number that the first k bytes stand for, the lowest first. -/
def getN (bs : List Int) : Nat → Int
  | 0 => 0
  | k + 1 => getN bs k + bs[k]?.getD 0 * 2 ^ (8 * k)

/-- All numbers of a list fit a byte. -/
def IsBytes (bs : List Int) : Prop := ∀ j : Nat, 0 ≤ bs[j]?.getD 0 ∧ bs[j]?.getD 0 < 256

theorem pow_cases (P : Nat → Prop) (h0 : P 0) (h1 : P 1) (h2 : P 2) (h3 : P 3) (h4 : P 4) (h5 : P 5) (h6 : P 6) (h7 : P 7) (k : Nat) (hk : k < 8) : P k := by
  match k, hk with
  | 0, _ => exact h0
  | 1, _ => exact h1
  | 2, _ => exact h2
  | 3, _ => exact h3
  | 4, _ => exact h4
  | 5, _ => exact h5
  | 6, _ => exact h6
  | 7, _ => exact h7

/-- What a round of the reading makes of the number so far. -/
def orStep (v y : Int) (k : Nat) : Int := bits BinOp.or IntKind.u64 v (IntKind.u64.wrap (y * 2 ^ (8 * k)))

theorem wrap_u64_in (x : Int) (h0 : 0 ≤ x) (h1 : x < 18446744073709551616) : IntKind.u64.wrap x = x := by
  rw [IntKind.wrap_u64]; omega

theorem shl_lt (y : Int) (k : Nat) (hk : k < 8) (h0 : 0 ≤ y) (h1 : y < 256) : 0 ≤ y * 2 ^ (8 * k) ∧ y * 2 ^ (8 * k) < 18446744073709551616 := by
  revert y
  refine pow_cases (fun k => ∀ y : Int, 0 ≤ y → y < 256 → 0 ≤ y * 2 ^ (8 * k) ∧ y * 2 ^ (8 * k) < 18446744073709551616) ?_ ?_ ?_ ?_ ?_ ?_ ?_ ?_ k hk <;> (intro y h0 h1; simp only [Nat.reduceMul, Int.reducePow]; omega)

theorem orStep_eq (v y : Int) (k : Nat) (hk : k < 8) (hv0 : 0 ≤ v) (hv1 : v < 18446744073709551616) (h0 : 0 ≤ y) (h1 : y < 256) :
    orStep v y k = ((v.toNat ||| (y * 2 ^ (8 * k)).toNat : Nat) : Int) := by
  obtain ⟨a, b⟩ := shl_lt y k hk h0 h1
  unfold orStep
  rw [wrap_u64_in _ a b, u64_or v _ hv0 hv1 a b]

theorem orStep_bd (v y : Int) (k : Nat) (hk : k < 8) (hv0 : 0 ≤ v) (hv1 : v < 18446744073709551616) (h0 : 0 ≤ y) (h1 : y < 256) :
    0 ≤ orStep v y k ∧ orStep v y k < 18446744073709551616 := by
  obtain ⟨a, b⟩ := shl_lt y k hk h0 h1
  rw [orStep_eq v y k hk hv0 hv1 h0 h1]
  have := Nat.or_lt_two_pow (n := 64) (show v.toNat < 2 ^ 64 by simp only [Nat.reducePow]; omega) (show (y * 2 ^ (8 * k)).toNat < 2 ^ 64 by simp only [Nat.reducePow]; omega)
  simp only [Nat.reducePow] at this
  omega

theorem orStep_add (v y : Int) (k : Nat) (hk : k < 8) (hv0 : 0 ≤ v) (hv1 : v < 18446744073709551616) (hvk : v < 2 ^ (8 * k)) (h0 : 0 ≤ y) (h1 : y < 256) :
    orStep v y k = v + y * 2 ^ (8 * k) := by
  rw [orStep_eq v y k hk hv0 hv1 h0 h1]
  obtain ⟨a, rfl⟩ := Int.eq_ofNat_of_zero_le hv0
  obtain ⟨c, rfl⟩ := Int.eq_ofNat_of_zero_le h0
  have e1 : ((c : Int) * 2 ^ (8 * k)) = ((2 ^ (8 * k) * c : Nat) : Int) := by simp [Int.mul_comm]
  have ha : a < 2 ^ (8 * k) := by
    have : ((a : Nat) : Int) < ((2 ^ (8 * k) : Nat) : Int) := by simpa using hvk
    omega
  rw [e1, Int.toNat_natCast, Int.toNat_natCast, Nat.or_comm, ← Nat.two_pow_add_eq_or_of_lt ha c]
  omega

theorem getN_bd (bs : List Int) (h : IsBytes bs) : ∀ k : Nat, 0 ≤ getN bs k ∧ getN bs k < 2 ^ (8 * k)
  | 0 => by simp [getN]
  | k + 1 => by
    obtain ⟨a, b⟩ := getN_bd bs h k
    obtain ⟨c, d⟩ := h k
    have hp : (0 : Int) < 2 ^ (8 * k) := Int.pow_pos (by omega)
    have e : (2 : Int) ^ (8 * (k + 1)) = 256 * 2 ^ (8 * k) := by rw [show 8 * (k + 1) = 8 * k + 8 from by omega, Int.pow_add]; simp [Int.mul_comm]
    rw [e]
    unfold getN
    have h1 : 0 ≤ bs[k]?.getD 0 * 2 ^ (8 * k) := Int.mul_nonneg c (by omega)
    have h2 : bs[k]?.getD 0 * 2 ^ (8 * k) ≤ 255 * 2 ^ (8 * k) := Int.mul_le_mul_of_nonneg_right (by omega) (by omega)
    omega

theorem getN_step (bs : List Int) (h : IsBytes bs) (k : Nat) (hk : k < 8) : orStep (getN bs k) (bs[k]?.getD 0) k = getN bs (k + 1) := by
  obtain ⟨a, b⟩ := getN_bd bs h k
  obtain ⟨c, d⟩ := h k
  have hb : getN bs k < 18446744073709551616 := by
    refine Int.lt_of_lt_of_le b ?_
    refine pow_cases (fun k => (2 : Int) ^ (8 * k) ≤ 18446744073709551616) ?_ ?_ ?_ ?_ ?_ ?_ ?_ ?_ k hk <;> decide
  exact orStep_add _ _ k hk a hb b c d

/-- The number of places of a size. -/
def nPlaces (size : Int) : Nat := if size ≤ 8 then size.toNat else 8
theorem nPlaces_cases (size : Int) : (size ≤ 8 ∧ nPlaces size = size.toNat) ∨ (8 < size ∧ nPlaces size = 8) := by
  unfold nPlaces
  by_cases h : size ≤ 8
  · exact .inl ⟨h, if_pos h⟩
  · exact .inr ⟨by omega, if_neg h⟩
theorem nPlaces_le (size : Int) : nPlaces size ≤ 8 := by unfold nPlaces; split <;> omega
def getL (bs : List Int) : Int := getN bs (nPlaces (bs.length : Int))

theorem prefix_snoc {m : Nat} {pre : List (Fin m)} {x : Fin m} (h : pre ++ [x] <+: List.finRange m) : pre <+: List.finRange m ∧ x.1 = pre.length := by
  obtain ⟨t, ht⟩ := h
  refine ⟨⟨x :: t, by rw [← ht]; simp⟩, ?_⟩
  have h1 : (List.finRange m)[pre.length]? = some x := by rw [← ht]; simp
  have h2 : pre.length < m := by
    have := congrArg List.length ht
    simp at this; omega
  rw [List.getElem?_eq_getElem (by simpa using h2)] at h1
  simp at h1
  rw [← h1]
/-- The bytes of a number, of which the first eight count. -/
def putL (n : Int) (size : Nat) : List Int := (List.range size).map fun i => if i < 8 then n / 2 ^ (8 * i) % 256 else 0
theorem putL_length (n : Int) (size : Nat) : (putL n size).length = size := by simp [putL]
theorem putL_get (n : Int) (size j : Nat) (h : j < size) : (putL n size)[j]?.getD 0 = if j < 8 then n / 2 ^ (8 * j) % 256 else 0 := by simp [putL, h]
theorem putL_bytes (n : Int) (size : Nat) : IsBytes (putL n size) := by
  intro j
  by_cases h : j < size
  · rw [putL_get n size j h]; split <;> omega
  · simp [putL, h]
/-- What lies there when some places are written. -/
def putF (n : Int) (size : Nat) {m : Nat} (pre : List (Fin m)) : List Value := (List.range size).map fun i => Value.int .u8 (if pre.any (fun x => x.1 == i) then n / 2 ^ (8 * i) % 256 else 0)
theorem putF_nil (n : Int) (size m : Nat) : putF n size (m := m) [] = List.replicate size (Value.int .u8 0) := by
  unfold putF
  apply List.ext_getElem
  · simp
  · intro i h1 h2; simp
theorem putF_snoc (n : Int) (size m : Nat) (pre : List (Fin m)) (x : Fin m) : putF n size (pre ++ [x]) = (putF n size pre).set x.1 (Value.int .u8 (n / 2 ^ (8 * x.1) % 256)) := by
  unfold putF
  apply List.ext_getElem
  · simp
  · intro i h1 h2
    simp only [List.getElem_map, List.getElem_range, List.getElem_set, List.any_append, List.any_cons, List.any_nil, Bool.or_false]
    by_cases e : x.1 = i
    · subst e; simp
    · rw [if_neg e]
      have : (x.1 == i) = false := by simpa using e
      rw [this, Bool.or_false]
theorem putF_all (n : Int) (size : Nat) : putF n size (List.finRange (nPlaces (size : Int))) = (putL n size).map (Value.int .u8) := by
  unfold putF putL
  rw [List.map_map]
  apply List.map_congr_left
  intro i hi
  have hi' : i < size := by simpa using hi
  have e : (List.finRange (nPlaces (size : Int))).any (fun x => x.1 == i) = decide (i < 8) := by
    rw [Bool.eq_iff_iff]
    simp only [List.any_eq_true, List.mem_finRange, true_and, beq_iff_eq, decide_eq_true_eq]
    constructor
    · rintro ⟨x, rfl⟩
      have := x.2
      have := nPlaces_le (size : Int)
      omega
    · intro h
      exact ⟨⟨i, by unfold nPlaces; split <;> omega⟩, rfl⟩
  simp only [Function.comp, e, decide_eq_true_eq]

/-- A number's bytes are the number, as far as they have room. -/
theorem getN_putL (n : Int) (hn : 0 ≤ n) (K : Nat) : ∀ j : Nat, j ≤ K → j ≤ 8 → getN (putL n K) j = n % 2 ^ (8 * j)
  | 0, _, _ => by simp [getN]
  | j + 1, h1, h2 => by
    have ih := getN_putL n hn K j (by omega) (by omega)
    unfold getN
    rw [ih, putL_get n K j (by omega), if_pos (by omega)]
    refine pow_cases (fun j => n % 2 ^ (8 * j) + n / 2 ^ (8 * j) % 256 * 2 ^ (8 * j) = n % 2 ^ (8 * (j + 1))) ?_ ?_ ?_ ?_ ?_ ?_ ?_ ?_ j (by omega) <;> (simp only [Nat.reduceMul, Nat.reduceAdd, Int.reducePow]; omega)
theorem getL_putL (n : Int) (h0 : 0 ≤ n) (h1 : n < 18446744073709551616) (K : Nat) : getL (putL n K) = if K < 8 then n % 2 ^ (8 * K) else n := by
  unfold getL
  rw [putL_length]
  by_cases h : K < 8
  · rw [if_pos h, show nPlaces (K : Int) = K from by unfold nPlaces; rw [if_pos (by omega)]; omega, getN_putL n h0 K K (Nat.le_refl _) (by omega)]
  · rw [if_neg h, show nPlaces (K : Int) = 8 from by unfold nPlaces; split <;> omega, getN_putL n h0 K 8 (by omega) (by omega)]
    simp only [Nat.reduceMul, Int.reducePow]
    omega

/-- Where the numbers of a slice value lie. -/
def LiesAt (k : IntKind) (w : World) (a : Option Addr) (bs : List Int) : Prop :=
  bs = [] ∨ ∃ b off, a = some ⟨b, off, none⟩ ∧ b < w.heap.size ∧ ∀ j, j < bs.length → w.cell? ⟨b, off + j, none⟩ = some (.int k (bs[j]?.getD 0))

/-- A slice value that leads to numbers of kind k. -/
def Sl (k : IntKind) (w : World) (v : Value) (bs : List Int) : Prop :=
  ∃ a cap, v = .slice a bs.length cap ∧ bs.length ≤ cap ∧ cap ≤ maxLen ∧ LiesAt k w a bs ∧ (a = none → cap = 0)
theorem Sl.nil (k : IntKind) (w : World) : Sl k w (.slice none 0 0) [] := ⟨none, 0, rfl, Nat.le_refl _, Nat.zero_le _, .inl rfl, fun _ => rfl⟩
theorem Sl.at {k : IntKind} {w : World} {b off cap : Nat} {bs : List Int} (h1 : bs.length ≤ cap) (h2 : cap ≤ maxLen) (h3 : b < w.heap.size) (h4 : ∀ j, j < bs.length → w.cell? ⟨b, off + j, none⟩ = some (.int k (bs[j]?.getD 0))) :
    Sl k w (.slice (some ⟨b, off, none⟩) bs.length cap) bs := ⟨_, cap, rfl, h1, h2, .inr ⟨b, off, rfl, h3, h4⟩, fun e => by cases e⟩
theorem Sl.below {k : IntKind} {w w' : World} {v : Value} {bs : List Int} (h : Sl k w v bs) (hb : Below w.heap.size w w') : Sl k w' v bs := by
  obtain ⟨a, cap, e, h1, h2, h, hn⟩ := h
  refine ⟨a, cap, e, h1, h2, ?_, hn⟩
  rcases h with h | ⟨b, off, e, h3, h4⟩
  · exact .inl h
  · exact .inr ⟨b, off, e, Nat.lt_of_lt_of_le h3 hb.size, fun j hj => (hb.cell (p := ⟨b, off + j, none⟩) h3).trans (h4 j hj)⟩
end Go.Proofs.YtbdfllamhcodjaaGreat

/- Blocks: their cells, read and written at once; two blocks held against each other. Needs the types api.Block and uint8. -/
namespace Go.Proofs.YtbdfllamhcodjaaGreat
open Go.RowKit
set_option linter.unusedVariables false

/-- What a block's cells hold. -/
def IsBlk (c : List Value) : Prop := ∃ bs : List Int, bs.length = 64 ∧ c = bs.map (Value.int .u8)
theorem IsBlk.length {c : List Value} (h : IsBlk c) : c.length = 64 := by obtain ⟨bs, h1, rfl⟩ := h; simp [h1]
theorem IsBlk.one {c : List Value} (h : IsBlk c) : ∀ v ∈ c, v.oneCell' = true := by
  obtain ⟨bs, h1, rfl⟩ := h
  intro v hv
  obtain ⟨x, _, rfl⟩ := List.mem_map.1 hv
  rfl
theorem IsBlk.all {c : List Value} (h : IsBlk c) : c.toArray.all (·.oneCell') = true := all_oneCell_toArray h.one

/-- A block of one byte. -/
def fillB (v : Int) : List Value := List.replicate 64 (.int .u8 v)
theorem isBlk_fill (v : Int) : IsBlk (fillB v) := ⟨List.replicate 64 v, by simp, by simp [fillB]⟩
def zarr : Array Value := (fillB 0).toArray
theorem zarr_size : zarr.size = 64 := by simp [zarr, fillB]

set_option maxRecDepth 100000 in
theorem under_blk : Tryz.prog.underlying 60 = some (.array 64 5) := by kernel_rfl
set_option maxRecDepth 100000 in
theorem info_blk : (Tryz.prog.info? 60).map (fun i => (i.zero, i.size, i.bytes)) = some (some (.agg zarr), 64, 64) := by kernel_rfl
set_option maxRecDepth 100000 in
theorem size_blk : (Tryz.prog.info? 60).map (·.size) = some 64 := by kernel_rfl
set_option maxRecDepth 100000 in
theorem zero_blk (w : World) : (zeroValue 60).run Tryz.prog w = .ok (.agg zarr) w := by kernel_rfl
set_option maxRecDepth 100000 in
theorem build_blk (w : World) : (Instr.build 60 #[]).run Tryz.prog w = .ok (.agg zarr) w := by kernel_rfl
set_option maxRecDepth 100000 in
/-- A block is read. -/
theorem load_blk {w : World} {b o : Nat} {c : List Value} (hc : w.rangeAt b o c) (h : c.length = 64) : (loadVar 60 ⟨b, o, none⟩).run Tryz.prog w = .ok (.agg c.toArray) w :=
  run_loadVar_mid w b o _ c _ hc under_blk rfl (by rw [h]; exact size_blk)
set_option maxRecDepth 100000 in
/-- A block is written. -/
theorem store_blk {w : World} {b o : Nat} {c : List Value} (ht : w.there b o 64) (h : IsBlk c) : (storeVar 60 ⟨b, o, none⟩ (.agg c.toArray)).run Tryz.prog w = .ok () (w.setCells b o c) := by
  have := run_storeVar_mid (P := Tryz.prog) w b o 60 c.toArray (by simpa [h.length] using ht) (by simpa [h.length] using size_blk) h.all
  simpa using this
set_option maxRecDepth 100000 in
/-- .. in the block that was made last. -/
theorem load_new {w : World} {c : Array Value} (h : c.size = 64) : (loadVar 60 ⟨w.heap.size, 0, none⟩).run Tryz.prog (w.alloc (.cells c 60)) = .ok (.agg c) (w.alloc (.cells c 60)) :=
  run_loadVar_new w _ c _ _ under_blk (by rw [h]; exact size_blk)
set_option maxRecDepth 100000 in
theorem store_new {w : World} {c : Array Value} {c' : List Value} (h : c.size = 64) (h' : IsBlk c') : (storeVar 60 ⟨w.heap.size, 0, none⟩ (.agg c'.toArray)).run Tryz.prog (w.alloc (.cells c 60)) = .ok () (w.alloc (.cells c'.toArray 60)) :=
  run_storeVar_new w _ c c'.toArray (by simpa [h'.length] using size_blk) (by simpa [h'.length] using h) h'.all

/-- Results that lie in a cell. -/
theorem results_cell {P : Program} {fn : Func} {p : Tmp} {ty : TypeId} {tmps : Array Value} {w : World} {ad : Addr} {v : Value} (h : fn.results = #[.cell p ty]) (ha : tmps.getD p undef = .pointer (some ad)) (hl : (loadVar ty ad).run P w = .ok v w) :
    (results fn tmps).run P w = .ok v w := by
  have e : (asAddr (.pointer (some ad))).run P w = .ok ad w := by simp [asAddr]
  have ha' : tmps[p]?.getD undef = .pointer (some ad) := by simpa using ha
  simp [results, h, Sem.run_bind, Result.andThen, ha', e, hl]
theorem results_cell2 {P : Program} {fn : Func} {p u : Tmp} {ty : TypeId} {tmps : Array Value} {w : World} {ad : Addr} {v : Value} (h : fn.results = #[.cell p ty, .tmp u]) (ha : tmps.getD p undef = .pointer (some ad)) (hl : (loadVar ty ad).run P w = .ok v w) :
    (results fn tmps).run P w = .ok (.tuple #[v, tmps.getD u undef]) w := by
  have e : (asAddr (.pointer (some ad))).run P w = .ok ad w := by simp [asAddr]
  have ha' : tmps[p]?.getD undef = .pointer (some ad) := by simpa using ha
  simp [results, h, Sem.run_bind, Result.andThen, ha', e, hl]

/-- Whatever is no block is read and written cell by cell. -/
theorem loadVar_open (t : TypeId) (h : t ≠ 60) (a : Addr) : loadVar t a = (do if ← isAgg t then pure (.agg (← loadCells a (← sizeOf t))) else load a) := rfl
theorem storeVar_open (t : TypeId) (h : t ≠ 60) (a : Addr) (v : Value) : storeVar t a v = (do
    if v.cells.size ≠ (← sizeOf t) then stuck "storeVar: the value has not the size of the variable"
    storeCells a v.cells.toList) := rfl

theorem run_eqItems_ints {P : Program} {t : TypeId} (ht : P.plainKey t = true) (hu : P.underlying t = some (.int .u8)) (d : Nat) (xs ys : List Int) (w : World) : ∀ is : List Nat, (∀ i ∈ is, i < xs.length ∧ i < ys.length) →
    (Op.eqItems (d + 1) t 1 (xs.map (Value.int .u8)).toArray (ys.map (Value.int .u8)).toArray is).run P w = .ok (is.all fun i => xs[i]?.getD 0 == ys[i]?.getD 0) w
  | [], _ => by simp [Op.eqItems]
  | i :: is, h => by
    obtain ⟨h1, h2⟩ := h i (by simp)
    have e1 : (xs.map (Value.int .u8)).toArray[i]? = some (.int .u8 (xs[i]?.getD 0)) := by simp [h1]
    have e2 : (ys.map (Value.int .u8)).toArray[i]? = some (.int .u8 (ys[i]?.getD 0)) := by simp [h2]
    simp only [Op.eqItems, Sem.run_bind, Nat.mul_one, run_part_plain w ht e1, run_part_plain w ht e2, Result.andThen_ok, run_equalIn_int w d t .u8 .u8 _ _ hu]
    by_cases e : (xs[i]?.getD 0 == ys[i]?.getD 0) = true
    · simp only [e, Bool.not_true, Bool.false_eq_true, if_false, List.all_cons, Bool.true_and]
      exact run_eqItems_ints ht hu d xs ys w is fun j hj => h j (by simp [hj])
    · simp only [Bool.not_eq_true] at e
      simp only [e, Bool.not_false, if_true, List.all_cons, Bool.false_and, Sem.run_pure]

/-- Are two rows of cells alike? -/
noncomputable def alike (a b : List Value) : Bool := @decide (a = b) (Classical.propDecidable _)
theorem alike_iff {a b : List Value} : alike a b = true ↔ a = b := by unfold alike; simp
theorem alike_self (a : List Value) : alike a a = true := alike_iff.2 rfl
theorem alike_not {a b : List Value} (h : a ≠ b) : alike a b = false := by
  cases e : alike a b with
  | false => rfl
  | true => exact absurd (alike_iff.1 e) h

set_option maxRecDepth 100000 in
/-- Two blocks held against each other. -/
theorem eq_blk {a b : List Value} (ha : IsBlk a) (hb : IsBlk b) (w : World) : (Op.equalIn 10000 60 (.agg a.toArray) (.agg b.toArray)).run Tryz.prog w = .ok (alike a b) w := by
  obtain ⟨xs, hx, rfl⟩ := ha
  obtain ⟨ys, hy, rfl⟩ := hb
  obtain ⟨i0, hi⟩ : ∃ i, Tryz.prog.info? 5 = some i := Option.isSome_iff_exists.1 (show (Tryz.prog.info? 5).isSome = true by kernel_rfl)
  rw [run_equalIn_array w 9999 (xs.map (Value.int .u8)).toArray (ys.map (Value.int .u8)).toArray under_blk hi, show Tryz.prog.cellsOf 5 = 1 from by kernel_rfl,
    run_eqItems_ints (d := 9998) (by kernel_rfl) (by kernel_rfl) xs ys w (List.range 64) (fun i hi => by have := List.mem_range.1 hi; omega)]
  congr 1
  rw [Bool.eq_iff_iff, alike_iff, List.all_eq_true]
  constructor
  · intro h
    congr 1
    apply List.ext_getElem (by omega)
    intro i h1 h2
    have := h i (List.mem_range.2 (by omega))
    simpa [h1, h2] using this
  · intro h i hi
    have hxy : xs = ys := by
      have e := congrArg (List.map intOf) h
      rw [List.map_map, List.map_map, show intOf ∘ Value.int .u8 = id from by funext x; rfl] at e
      simpa using e
    simp [hxy]
end Go.Proofs.YtbdfllamhcodjaaGreat

/- Plain facts on the check of bytes; no program is named here. -/
namespace Go.Proofs.YtbdfllamhcodjaaGreat
open Go.RowKit
set_option linter.unusedVariables false

/-- One byte taken into a check. -/
def fnvStep (h y : Int) : Int := IntKind.u64.wrap (bits BinOp.xor IntKind.u64 h y * 1099511628211)
/-- Bytes taken into a check, one behind the other. -/
def fnvMore (h : Int) (bs : List Int) : Int := bs.foldl fnvStep h
def fnvInit : Int := 14695981039346656037

/-- A number that fits 64 bits. -/
def IsU64 (h : Int) : Prop := 0 ≤ h ∧ h < 18446744073709551616
theorem isU64_init : IsU64 fnvInit := by unfold IsU64 fnvInit; omega
theorem isU64_wrap (x : Int) : IsU64 (IntKind.u64.wrap x) := by
  rw [IntKind.wrap_u64]; unfold IsU64; omega
theorem isU64_step (h y : Int) : IsU64 (fnvStep h y) := isU64_wrap _

theorem fnvMore_cons (h y : Int) (bs : List Int) : fnvMore h (y :: bs) = fnvMore (fnvStep h y) bs := rfl
theorem fnvMore_append (h : Int) (as0 bs : List Int) : fnvMore h (as0 ++ bs) = fnvMore (fnvMore h as0) bs := by simp [fnvMore]
theorem fnvMore_snoc (h : Int) (as0 : List Int) (y : Int) : fnvMore h (as0 ++ [y]) = fnvStep (fnvMore h as0) y := by rw [fnvMore_append]; rfl
theorem isU64_more {h : Int} (bs : List Int) (hh : IsU64 h) : IsU64 (fnvMore h bs) := by
  induction bs generalizing h with
  | nil => exact hh
  | cons y bs ih => rw [fnvMore_cons]; exact ih (isU64_step h y)

theorem IsBytes.snoc {bs : List Int} {y : Int} (h : IsBytes bs) (hy : 0 ≤ y ∧ y < 256) : IsBytes (bs ++ [y]) := by
  intro j
  by_cases hj : j < bs.length
  · rw [List.getElem?_append_left hj]; exact h j
  · rw [List.getElem?_append_right (by omega)]
    rcases Nat.eq_zero_or_pos (j - bs.length) with e | e
    · rw [e]; simpa using hy
    · rw [List.getElem?_eq_none (by simp; omega)]; simp
theorem bytes_one {y : Int} (hy : 0 ≤ y ∧ y < 256) : IsBytes [y] := by
  have := IsBytes.snoc (bs := []) (fun j => by simp) hy
  simpa using this

theorem IsBytes.set {bs : List Int} {y : Int} {k : Nat} (h : IsBytes bs) (hy : 0 ≤ y ∧ y < 256) : IsBytes (bs.set k y) := by
  intro j
  rw [List.getElem?_set]
  by_cases e : k = j
  · subst e
    by_cases hk : k < bs.length
    · rw [if_pos rfl, if_pos hk]; simpa using hy
    · rw [if_pos rfl, if_neg hk]; simp
  · rw [if_neg e]; exact h j

end Go.Proofs.YtbdfllamhcodjaaGreat

/- Marked sectors and their bytes; no program. -/
namespace Go.Proofs.YtbdfllamhcodjaaGreat
open Go.RowKit
set_option linter.unusedVariables false

/-- A marked sector. -/
structure Sct where
  mark : Int
  seq : Int
  index : Int
  body : List Int
structure Sct.Ok (p : Sct) : Prop where
  mark : 0 ≤ p.mark ∧ p.mark < 256
  seq : 0 ≤ p.seq ∧ p.seq < 4294967296
  len : p.body.length = 48
  bytes : IsBytes p.body
/-- May it be? -/
def Sct.fits (p : Sct) : Bool := decide (p.mark ≠ 0 ∧ 0 ≤ p.index ∧ p.index ≤ 65535)
/-- Its bytes ahead of the check; all of them. -/
def Sct.head (p : Sct) : List Int := p.mark :: (putL p.seq 4 ++ (putL p.index 2 ++ p.body))
def chk (bs : List Int) : Int := fnvMore fnvInit bs
def Sct.bytes (p : Sct) : List Int := p.head ++ (putL (chk p.head) 8 ++ [0])
/-- The sector that bytes are, if they are one. -/
def Sct.of (bs : List Int) : Sct := ⟨bs[0]?.getD 0, getL ((bs.drop 1).take 4), getL ((bs.drop 5).take 2), (bs.drop 7).take 48⟩
def zsct : Sct := ⟨0, 0, 0, List.replicate 48 0⟩

theorem chk_u64 (bs : List Int) : 0 ≤ chk bs ∧ chk bs < 18446744073709551616 := isU64_more bs isU64_init
theorem IsBytes.app {as0 bs : List Int} (ha : IsBytes as0) (hb : IsBytes bs) : IsBytes (as0 ++ bs) := by
  intro j
  by_cases hj : j < as0.length
  · rw [List.getElem?_append_left hj]; exact ha j
  · rw [List.getElem?_append_right (by omega)]; exact hb _
theorem IsBytes.one {y : Int} {bs : List Int} (hy : 0 ≤ y ∧ y < 256) (hb : IsBytes bs) : IsBytes (y :: bs) := by
  have := IsBytes.app (bytes_one hy) hb
  simpa using this
theorem IsBytes.cut {bs : List Int} (h : IsBytes bs) (k n : Nat) : IsBytes ((bs.drop k).take n) := by
  intro j
  rw [List.getElem?_take]
  split
  · rw [List.getElem?_drop]; exact h _
  · simp
theorem Sct.head_length {p : Sct} (h : p.Ok) : p.head.length = 55 := by simp [Sct.head, putL_length, h.len]
theorem Sct.bytes_length {p : Sct} (h : p.Ok) : p.bytes.length = 64 := by simp [Sct.bytes, Sct.head_length h, putL_length]
theorem Sct.head_bytes {p : Sct} (h : p.Ok) : IsBytes p.head := IsBytes.one h.mark ((putL_bytes _ _).app ((putL_bytes _ _).app h.bytes))
theorem Sct.bytes_bytes {p : Sct} (h : p.Ok) : IsBytes p.bytes := (Sct.head_bytes h).app ((putL_bytes _ _).app (bytes_one (by omega)))

theorem take_one {bs : List Int} (h : 0 < bs.length) : bs.take 1 = [bs[0]?.getD 0] := by
  cases bs with
  | nil => simp at h
  | cons x l => simp
theorem of_ok {bs : List Int} (hb : IsBytes bs) (h : bs.length = 64) : (Sct.of bs).Ok := by
  refine ⟨hb 0, ?_, by simp [Sct.of, h], hb.cut 7 48⟩
  have hl : ((bs.drop 1).take 4).length = 4 := by simp [h]
  have hn : nPlaces (((bs.drop 1).take 4).length : Int) = 4 := by rw [hl]; rfl
  have := getN_bd _ (hb.cut 1 4) 4
  show 0 ≤ getL _ ∧ getL _ < _
  unfold getL
  rw [hn]
  simpa using this
theorem of_index {bs : List Int} (hb : IsBytes bs) (h : bs.length = 64) : 0 ≤ (Sct.of bs).index ∧ (Sct.of bs).index ≤ 65535 := by
  have hl : ((bs.drop 5).take 2).length = 2 := by simp [h]
  have hn : nPlaces (((bs.drop 5).take 2).length : Int) = 2 := by rw [hl]; rfl
  have := getN_bd _ (hb.cut 5 2) 2
  show 0 ≤ getL _ ∧ getL _ ≤ _
  unfold getL
  rw [hn]
  have h2 : (2 : Int) ^ (8 * 2) = 65536 := rfl
  rw [h2] at this
  exact ⟨this.1, by omega⟩
/-- A sector's bytes are it. -/
theorem of_bytes {p : Sct} (h : p.Ok) (hi : 0 ≤ p.index ∧ p.index ≤ 65535) : Sct.of p.bytes = p := by
  have hl := Sct.head_length h
  have e0 : p.bytes[0]?.getD 0 = p.mark := rfl
  have e1 : (p.bytes.drop 1).take 4 = putL p.seq 4 := by
    unfold Sct.bytes Sct.head
    simp [putL_length]
  have e2 : (p.bytes.drop 5).take 2 = putL p.index 2 := by
    unfold Sct.bytes Sct.head
    rw [List.cons_append, List.drop_succ_cons, List.append_assoc, List.drop_append, putL_length, List.drop_of_length_le (by rw [putL_length]; exact Nat.le_refl _), List.nil_append, Nat.sub_self, List.drop_zero, List.append_assoc, List.take_append_of_le_length (by rw [putL_length]; exact Nat.le_refl _), List.take_of_length_le (by rw [putL_length]; exact Nat.le_refl _)]
  have e3 : (p.bytes.drop 7).take 48 = p.body := by
    unfold Sct.bytes Sct.head
    rw [List.cons_append, List.drop_succ_cons, List.append_assoc, List.append_assoc, List.drop_append, putL_length, List.drop_of_length_le (by rw [putL_length]; omega), List.nil_append, List.drop_append, putL_length, List.drop_of_length_le (by rw [putL_length]; exact Nat.le_refl _), List.nil_append, List.drop_zero, List.take_append_of_le_length (by rw [h.len]; exact Nat.le_refl _), List.take_of_length_le (by rw [h.len]; exact Nat.le_refl _)]
  unfold Sct.of
  rw [e0, e1, e2, e3, getL_putL _ h.seq.1 (by have := h.seq.2; omega), getL_putL _ hi.1 (by omega), if_pos (by omega), if_pos (by omega)]
  have h4 : p.seq % 2 ^ (8 * 4) = p.seq := Int.emod_eq_of_lt h.seq.1 h.seq.2
  have h2 : p.index % 2 ^ (8 * 2) = p.index := Int.emod_eq_of_lt hi.1 (by have := hi.2; simp only [Nat.reduceMul, Int.reducePow]; omega)
  rw [h4, h2]
end Go.Proofs.YtbdfllamhcodjaaGreat

/- A region that draws its order, in a round of a loop over a function, at the wide fence: walked once, its tail in order. -/
namespace Go.Proofs.YtbdfllamhcodjaaGreat
open Go.RowKit
set_option linter.unusedVariables false

section
variable {l n : Nat} {P : Program} {ops : Array Oper} {Q : Exit → Act → World → Prop} {md : Region.Mode}

theorem op_round {o : Oper} {a : Act} {w : World} {K : Act → World → Prop} (hd : ∀ c, o.op ≠ .defer c) (h : o.wp P a w K Q) : o.wpIn (Fence.wide.inRound l) n P a w K Q := by
  unfold Oper.wpIn
  refine ⟨fun _ _ => trivial, ?_⟩
  rw [Oper.semAt_eq _ _ _ hd]
  unfold Oper.wp at h
  generalize (execOp a.eval o).run P w = r at *
  cases r with
  | ok x w' =>
    cases x <;> simp only [Oper.upon, Oper.uponIn] at h ⊢ <;>
      first
        | exact h
        | exact ⟨fun e => by simp [Fence.wide] at e, CallsIn.inRound l (callsIn_wide.2 h)⟩
        | exact ⟨fun e => by simp [Fence.wide] at e, fun c cs _ => let ⟨v, w', r, s⟩ := h c cs; ⟨v, w', r, stepsIn_wide.2 s⟩⟩
  | halt x w' => cases x <;> simp only [Oper.upon, Oper.uponIn] at h ⊢ <;> exact h

/-- No operation of the region is a deferred call. -/
def noDefer (ops : Array Oper) : Bool := ops.all fun o => match o.op with | .defer _ => false | _ => true
theorem noDefer_spec {i : Nat} {o : Oper} (h : noDefer ops = true) (hi : ops[i]? = some o) : ∀ c, o.op ≠ .defer c := by
  intro c e
  unfold noDefer at h
  rw [Array.all_eq_true] at h
  obtain ⟨hlt, hk⟩ := Array.getElem?_eq_some_iff.1 hi
  have := h i hlt
  rw [hk, e] at this
  cases this

theorem opAt_round {i : Nat} {a : Act} {w : World} {K : Act → World → Prop} (hL : ¬ LetsOut Q) (hd : noDefer ops = true) (h : wpOp P ops Q i K a w) : wpOpIn (Fence.wide.inRound l) n P ops Q i K a w := by
  unfold wpOp at h
  unfold wpOpIn
  cases ho : ops[i]? with
  | none => simpa [ho] using h
  | some o =>
    simp only [ho] at h ⊢
    by_cases hw : Region.wanted o (yielded ops a.tmps) = true
    · simp only [hw, if_true] at h ⊢
      rcases h with h | h
      · exact op_round (noDefer_spec hd ho) h
      · exact absurd h.2 hL
    · simp only [hw] at h ⊢
      exact ⟨fun _ _ => trivial, h⟩

theorem any_round (hL : ¬ LetsOut Q) (hd : noDefer ops = true) : ∀ (fuel : Nat) (listed : Array Bool) (a : Act) (w : World), wpAny P md ops Q fuel listed a w → wpAnyIn (Fence.wide.inRound l) n P md ops Q fuel listed a w
  | 0, _, _, _, h => h
  | fuel + 1, listed, a, w, h => ⟨h.1, fun i hi => wpOpIn_mono (fun a w => any_round hL hd fuel _ a w) (opAt_round hL hd (h.2 i hi))⟩

theorem region_round {id : Nat} {a : Act} {w : World} {l' : List Oper} (k : Nat) (hL : ¬ LetsOut Q) (hd : noDefer l'.toArray = true) (hm : P.follows .mixedOrders = true) (hB : Region.lexTailB .any l'.toArray k = true)
    (h : wpStill P l'.toArray w.drew (fun a' => wpList P l'.toArray Q (l'.drop k) a' w.drew) (l'.take k) a) : (Code.region id l'.toArray true).wpIn (Fence.wide.inRound l) n P Q a w := by
  simp only [Region.lexTailB, Bool.and_eq_true, decide_eq_true_eq] at hB
  obtain ⟨⟨⟨⟨hsel, hn⟩, hs⟩, hc⟩, hlex⟩ := hB
  have htl : (l'.take k).length = k := by simp at hn ⊢; omega
  have hdl : (l'.drop k).length = l'.toArray.size - k := by simp
  have inv0 : HeadInv .any l'.toArray k (Array.replicate l'.toArray.size false) :=
    ⟨by simp, fun j oj _ hl => (by rw [getD_replicate_false] at hl; cases hl), fun t _ ht => getD_in (by simpa using ht) (getD_replicate_false _ _)⟩
  have H := wpAnyL_lex (md := .any) (g := l'.toArray.size - k) hsel hs hc hn (l'.take k) 0 _ a (fun j hj => by
    have hj' : j < k := by rw [htl] at hj; exact hj
    simp [hj']) (by simpa using htl) inv0 (by rw [htl]; exact hlex) h
  refine wpIn_region_any hm (any_round hL hd _ _ _ _ ?_)
  have := wpAny_of_head (Q' := Q) (g := l'.toArray.size - k) (fun listed a' hL => by
    have := wpAny_of_seq (md := .any) (Q' := Q) (l'.drop k) k listed a' w.drew (fun j => by simp [List.getElem?_drop]) (by rw [hdl]; exact hL.1) hL.2
    rwa [hdl] at this) _ _ _ H
  rw [htl, show k + (l'.toArray.size - k) = l'.toArray.size from by simp at hn ⊢; omega] at this
  exact this

theorem letsOut_inBlock {id : Nat} (h : ¬ LetsOut Q) : ¬ LetsOut (Exit.inBlock id Q) := fun ⟨a, w, e⟩ => h ⟨a, w, e⟩
end

/-- make of so many elements, inside a fence. -/
theorem wpListIn_make_full {F : Fence} {n : Nat} {P : Program} (w : World) {ops : Array Oper} {rest : List Oper} {o : Oper} {a : Act} {Q : Exit → Act → World → Prop}
    (hg : o.guard = none) (l c : Operand) (t : TypeId) (hop : o.op = Op.makeSlice t l c)
    (base : Nat) (e : TypeId) (i : TypeInfo) (z : Value) (size : Nat) (h1 : P.underlying t = some (.slice e)) (h2 : P.info? e = some i) (h3 : i.zero = some z) (h4 : i.size = size)
    (kl kc : IntKind) (L C : Int) (m : Nat) (hl : a.eval l = .int kl L) (hc : a.eval c = .int kc C) (hL : L = (m : Int)) (hC : C = (m : Int)) (b2 : i.bytes * m ≤ 281474976710656) (b3 : m ≤ maxLen) (b4 : base ≤ w.heap.size)
    (hK : ∀ w', w'.ownsRow base e size (.slice (some ⟨w.heap.size, 0, none⟩) m m) m (madeCells z.cells (m * size)).toList → w.grownBy w' none → wpListIn F n P ops Q rest (a.put o.dst (.slice (some ⟨w.heap.size, 0, none⟩) m m)) w') :
    wpListIn F n P ops Q (o :: rest) a w := by
  refine wpListIn_plain hg fun K hK' => ?_
  obtain ⟨w', hrun, r1, r2⟩ := run_make_full (P := P) w base t e i z size h1 h2 h3 h4 kl kc m b2 b3 b4
  subst hL
  subst hC
  unfold Oper.wpIn
  refine ⟨?_, ?_⟩
  · simp [Oper.about, hop]
  · rw [Oper.semAt_plain F _ _ (by rw [hop]; intro c hc'; cases hc')]
    simp [execOp, hop, hl, hc, hrun, Result.andThen]
    exact hK' _ _ (hK w' r1 r2)

/-- That a slice owns its row speaks of cells alone. -/
theorem ownsRow_own {β : Type} (n₀ e size : Nat) (v : Value) (k : β → Nat) (f : β → List Value) : Own (fun s W => W.ownsRow n₀ e size v (k s) (f s)) := by
  rintro s X Y row hr hg hrow
  refine hr.kept hg ?_
  rcases hr.2 with ⟨rfl, _⟩ | ⟨g, cap, cur, rfl, _, hgb, _⟩
  · exact .inl rfl
  · refine .inr fun e' => ?_
    obtain ⟨o, ho, hc⟩ := hrow g (by simpa [Value.ownBlock] using e'.symm)
    rw [hgb] at ho; cases ho; cases hc

/-- A row that is full: its block. -/
theorem ownsRow_row {w : World} {base e n g : Nat} {xs : List Value} (h : w.ownsRow base e 1 (.slice (some ⟨g, 0, none⟩) n n) n xs) : w.heap[g]? = some (.cells xs.toArray e (0, 0)) := by
  rcases h.2 with ⟨h', _⟩ | ⟨g', cap, cur, h', _, hg, _, _, hs, ht⟩
  · simp at h'
  · simp only [Value.slice.injEq, Option.some.injEq, Addr.mk.injEq, and_true, true_and] at h'
    obtain ⟨rfl, rfl⟩ := h'
    rw [hg, ← ht, List.take_of_length_le (by rw [Array.length_toList]; omega)]
theorem splice_all (cur cs : List Value) (h : cur.length = cs.length) : splice cur 0 cs = cs := by
  unfold splice
  simp [h]

/-- An append whose run is known; a guard that lets it by is no bar. -/
theorem wpList_append_run {P : Program} {w w' : World} {ops : Array Oper} {rest : List Oper} {o : Oper} {a : Act} {Q : Exit → Act → World → Prop} (s x : Operand) (t : TypeId)
    (ho : o.op = .call { callee := .builtin .append, args := #[s, x], argTypes := #[t, t] }) (hw : Region.wanted o (yielded ops a.tmps) = true)
    (vs vx v' : Value) (hs : a.eval s = vs) (hx : a.eval x = vx) (hrun : (Builtin.append_ #[t, t] o.type #[vs, vx]).run P w = .ok v' w')
    (h : wpList P ops Q rest (a.put o.dst v') w') : wpList P ops Q (o :: rest) a w := by
  unfold wpList
  rw [if_pos hw]
  refine .inl ?_
  unfold Oper.wp
  simp [execOp, ho, resolve, invoke, builtin, hs, hx, hrun, Result.andThen]
  exact h

/-- A cut of a slice whose run is known; a guard that lets it by is no bar. -/
theorem wpList_slice_run {P : Program} {w w' : World} {ops : Array Oper} {rest : List Oper} {o : Oper} {a : Act} {Q : Exit → Act → World → Prop} (s : Operand) (t : TypeId) (lo hi : Option Operand)
    (ho : o.op = .slice t s lo hi none) (hw : Region.wanted o (yielded ops a.tmps) = true)
    (vs v' : Value) (l h : Option Value) (hs : a.eval s = vs) (hl : lo.map a.eval = l) (hh : hi.map a.eval = h) (hrun : (Instr.sliceAt t vs l h none).run P w = .ok v' w')
    (hK : wpList P ops Q rest (a.put o.dst v') w') : wpList P ops Q (o :: rest) a w := by
  unfold wpList
  rw [if_pos hw]
  refine .inl ?_
  unfold Oper.wp
  simp [execOp, ho, hs, hl, hh, hrun, Result.andThen]
  exact hK

/-- A gate for an arm: the next operation cuts the slice in slot k. -/
theorem gate_slice (k : Nat) {P : Program} {ops : Array Oper} {Q : Exit → Act → World → Prop} {rest : List Oper} {a : Act} {w : World} {dst : Option Tmp} {t ty : TypeId} {lo hi mx : Option Operand} {pos : String} {after : Array Edge} {guard : Option (Nat × Bool)}
    (h : wpList P ops Q ({ dst := dst, op := .slice t (.tmp k) lo hi mx, type := ty, pos := pos, after := after, guard := guard } :: rest) a w) :
    wpList P ops Q ({ dst := dst, op := .slice t (.tmp k) lo hi mx, type := ty, pos := pos, after := after, guard := guard } :: rest) a w := h

theorem letsOut_own {α : Type} {Kp : World → World → Prop} {I : List α → World → Prop} {Ix : Code → List α → World → Prop} {xs : List α} {W : World} : ¬ LetsOut (ownPostK Kp I Ix xs W) := fun ⟨a, w, e⟩ => e.elim
end Go.Proofs.YtbdfllamhcodjaaGreat

/- Slices of bytes in memory: read, copied, cut, appended, made a string of. -/
namespace Go.Proofs.YtbdfllamhcodjaaGreat
open Go.RowKit Go.Shelf
set_option linter.unusedVariables false

set_option maxRecDepth 100000 in
theorem info_u8 : (Tryz.prog.info? 5).map (fun i => (i.zero, i.size, i.bytes)) = some (some (.int .u8 0), 1, 1) := by kernel_rfl

set_option maxRecDepth 100000 in
theorem size_u8 : (Tryz.prog.info? 5).map (·.size) = some 1 := by kernel_rfl

/-- Where the bytes of a slice value lie. -/
def Lies (w : World) (a : Option Addr) (len : Nat) (bs : List Int) : Prop :=
  len = 0 ∨ ∃ b off, a = some ⟨b, off, none⟩ ∧ b < w.heap.size ∧ ∀ j, j < len → w.cell? ⟨b, off + j, none⟩ = some (.int .u8 (bs[j]?.getD 0))

/-- What a copy of bytes into a new row of as many asks. -/
theorem copy_facts {w w1 : World} {a : Option Addr} {len e : Nat} {bs : List Int} (HL : Hid (bs.length = len)) (hA : Hid (Lies w a len bs))
    (hown1 : w1.ownsRow w.heap.size e 1 (.slice (some ⟨w.heap.size, 0, none⟩) len len) len (madeCells (Value.int .u8 0).cells (len * 1)).toList) (hgrow1 : w.grownBy w1 none) :
    Hid (Below w.heap.size w w1) ∧ Hid (w1.heap[w.heap.size]? = some (.cells (List.replicate len (Value.int .u8 0)).toArray e (0, 0))) ∧
    Hid (0 < (bs.map (Value.int .u8)).length → some (⟨w.heap.size, 0, none⟩ : Addr) = some ⟨w.heap.size, 0, none⟩ ∧ ∃ ad, a = some ad ∧ ∀ j v, (bs.map (Value.int .u8))[j]? = some v → w1.cell? (ad.add j) = some v) := by
  have hB1 : Below w.heap.size w w1 := (Below.refl _ w).grown hgrow1 (Nat.le_refl _) (fun k e => by cases e)
  refine ⟨hB1, ?_, ?_⟩
  · rw [show (Value.int .u8 0).cells = #[.int .u8 0] from rfl, toList_madeCells_one, Nat.mul_one] at hown1
    exact ownsRow_row hown1
  · intro h0
    rw [List.length_map, HL.out] at h0
    rcases hA.out with h | ⟨b, off, e, hb, hc⟩
    · omega
    · refine ⟨rfl, _, e, fun j v hj => ?_⟩
      have hjl : j < len := by
        have := (List.getElem?_eq_some_iff.1 hj).1
        rwa [List.length_map, HL.out] at this
      have hplain : (⟨b, off, none⟩ : Addr).add j = ⟨b, off + j, none⟩ := by unfold Addr.add; split <;> simp_all
      rw [hplain, hB1.cell (p := ⟨b, off + j, none⟩) hb, hc j hjl]
      rw [List.getElem?_map, List.getElem?_eq_getElem (by rw [HL.out]; exact hjl)] at hj
      rw [List.getElem?_eq_getElem (by rw [HL.out]; exact hjl)]
      exact hj

theorem copy_len {len : Nat} {bs : List Int} (HL : Hid (bs.length = len)) : Hid ((bs.map (Value.int .u8)).length = Nat.min len len) := by
  show _ = _
  rw [List.length_map, HL.out]; exact (Nat.min_self _).symm

theorem copy_one {bs : List Int} : Hid (∀ v ∈ bs.map (Value.int .u8), v.oneCell' = true) := by
  intro v hv
  obtain ⟨x, _, rfl⟩ := List.mem_map.1 hv
  rfl

theorem Lies.of_sl {w : World} {v : Value} {bs : List Int} (h : Sl .u8 w v bs) : ∃ a cap, v = .slice a bs.length cap ∧ Lies w a bs.length bs ∧ bs.length ≤ maxLen := by
  obtain ⟨a, cap, rfl, h1, h2, h, _⟩ := h
  refine ⟨a, cap, rfl, ?_, Nat.le_trans h1 h2⟩
  rcases h with rfl | h
  · exact .inl rfl
  · exact .inr h

theorem drop_get (bs : List Int) (k j : Nat) : (bs.drop k)[j]?.getD 0 = bs[k + j]?.getD 0 := by rw [List.getElem?_drop]

theorem take_get (bs : List Int) (k j : Nat) (h : j < k) : (bs.take k)[j]?.getD 0 = bs[j]?.getD 0 := by rw [List.getElem?_take, if_pos h]

theorem grown_below {w w' : World} (h : Below w.heap.size w w') (row : Option Nat) : w.grownBy w' row := ⟨h.os, h.tape, h.output, h.size, fun k hk _ => h.block k hk⟩

theorem grown_trans {a b c : World} {row : Option Nat} (h : a.grownBy b row) (k : b.grownBy c row) : a.grownBy c row :=
  ⟨k.os.trans h.os, k.tape.trans h.tape, k.output.trans h.output, Nat.le_trans h.size k.size, fun i hi hn => (k.block i (Nat.lt_of_lt_of_le hi h.size) hn).trans (h.block i hi hn)⟩

theorem IsBytes.take {bs : List Int} (h : IsBytes bs) (k : Nat) : IsBytes (bs.take k) := by
  intro j
  by_cases hj : j < k
  · rw [take_get bs k j hj]; exact h j
  · rw [List.getElem?_eq_none (by simp; omega)]; simp

theorem IsBytes.drop {bs : List Int} (h : IsBytes bs) (k : Nat) : IsBytes (bs.drop k) := by
  intro j
  rw [drop_get]; exact h _

/-- What a slice owns it leads to. -/
theorem Sl.of_owns {w : World} {base : Nat} {v : Value} {bs : List Int} (h : w.ownsRow base 5 1 v bs.length (bs.map (Value.int .u8))) : Sl .u8 w v bs := by
  rcases h.2 with ⟨rfl, h0⟩ | ⟨g, cap, cur, rfl, _, hg, h1, h2, h3, h4⟩
  · obtain rfl := List.eq_nil_of_length_eq_zero h0
    exact Sl.nil _ _
  · refine Sl.at (off := 0) h1 h2 (Array.getElem?_eq_some_iff.1 hg).1 fun j hj => ?_
    rw [cell_of_row _ _ _ _ _ _ hg]
    have e : (cur.toList.take (bs.length * 1))[0 + j]? = (bs.map (Value.int .u8))[0 + j]? := by rw [h4]
    rw [List.getElem?_take, if_pos (by omega)] at e
    rw [← Array.getElem?_toList, e]
    simp [hj]

theorem sl_new {W : World} {g : Nat} {xs : List Int} (h : W.heap[g]? = some (.cells (xs.map (Value.int .u8)).toArray 5 (0, 0))) (hm : xs.length ≤ maxLen) :
    Sl .u8 W (.slice (some ⟨g, 0, none⟩) xs.length xs.length) xs := by
  refine Sl.at (off := 0) (Nat.le_refl _) hm (Array.getElem?_eq_some_iff.1 h).1 fun j hj => ?_
  rw [cell_of_row _ _ _ _ _ _ h]
  simp [hj]

set_option maxRecDepth 100000 in
theorem conv_sl {w : World} {v : Value} {xs : List Int} (h : Sl .u8 w v xs) : (convert 37 9 v).run Tryz.prog w = .ok (.string (strOfNums xs)) w := by
  obtain ⟨a, cap, rfl, h1, h2, h, _⟩ := h
  rcases h with rfl | ⟨b, off, rfl, h3, h4⟩
  · cases a with
    | none => exact run_convert_bytes_nil w 37 5 Tryz.underlying37 Tryz.underlying5 0 cap 9 Tryz.underlying9
    | some x =>
      rw [run_convert_bytes_string w 37 9 5 _ _ cap Tryz.underlying37 Tryz.underlying5 Tryz.underlying9, run_bytesToString w x _ cap [] (by have := run_loadCells_list (P := Tryz.prog) w x [] (fun j v hj => by simp at hj); simpa using this)]
      rfl
  · exact run_convert_bytes_arg w 37 5 Tryz.underlying37 Tryz.underlying5 b off _ cap xs rfl (fun i hi => by rw [List.getD_eq_getElem?_getD]; exact h4 i hi) 9 Tryz.underlying9

set_option maxRecDepth 100000 in
/-- Bytes of whatever slice appended to a row of one's own. -/
theorem run_append_bytes (base : Nat) (w : World) (v : Value) (xs : List Int) (hown : w.ownsRow base 5 1 v xs.length (xs.map (Value.int .u8))) (x : Value) (bs : List Int) (hx : Sl .u8 w x bs)
    (hlen : xs.length + bs.length ≤ 140737488355328) (hbase : base ≤ w.heap.size) :
    ∃ v' w', (Builtin.append_ #[37, 37] 37 #[v, x]).run Tryz.prog w = .ok v' w' ∧ w'.ownsRow base 5 1 v' (xs ++ bs).length ((xs ++ bs).map (Value.int .u8)) ∧ w.grownBy w' v.ownBlock := by
  obtain ⟨i0, hi, hz0, hz1, hz2⟩ := info_parts info_u8
  obtain ⟨a, cap, rfl, h1, h2, h, hnil⟩ := hx
  have hap : ∀ ad, a = some ad → (∀ j u, (bs.map (Value.int .u8))[j]? = some u → w.cell? (ad.add j) = some u) → ∃ v' w', (Builtin.append_ #[37, 37] 37 #[v, .slice a bs.length cap]).run Tryz.prog w = .ok v' w' ∧ w'.ownsRow base 5 1 v' (xs ++ bs).length ((xs ++ bs).map (Value.int .u8)) ∧ w.grownBy w' v.ownBlock := by
    rintro ad rfl hc
    obtain ⟨v', w', hr, ho, hg, _⟩ := run_append_own (P := Tryz.prog) w base 37 37 5 i0 (.int .u8 0) 1 1 Tryz.underlying37 hi hz0 hz1 hz2 rfl (by decide) v xs.length _ hown ad bs.length cap (bs.map (Value.int .u8)) (by simp) hc
      (fun u hu => by obtain ⟨y, _, rfl⟩ := List.mem_map.1 hu; rfl) (by unfold maxLen; omega) (by omega) hbase
    exact ⟨v', w', hr, by rw [List.length_append, List.map_append]; exact ho, hg⟩
  rcases h with rfl | ⟨b, off, rfl, h3, h4⟩
  · cases a with
    | some ad => exact hap ad rfl (fun j u hj => by simp at hj)
    | none =>
      obtain rfl := hnil rfl
      exact ⟨v, w, run_append_owned_none (P := Tryz.prog) (w := w) base 37 37 5 i0 1 Tryz.underlying37 hi v xs.length _ hown, by simpa using hown, World.grownBy.refl _ _⟩
  · refine hap _ rfl fun j u hj => ?_
    have hjl : j < bs.length := by
      have := (List.getElem?_eq_some_iff.1 hj).1
      rwa [List.length_map] at this
    have hplain : (⟨b, off, none⟩ : Addr).add j = ⟨b, off + j, none⟩ := by unfold Addr.add; split <;> simp_all
    rw [hplain, h4 j hjl]
    rw [List.getElem?_map, List.getElem?_eq_getElem hjl] at hj
    rw [List.getElem?_eq_getElem hjl]
    exact hj

set_option maxRecDepth 100000 in
/-- A copy by append to an empty literal. -/
theorem copy_lit (w : World) (x : Value) (bs : List Int) (hx : Sl .u8 w x bs) (hlen : bs.length ≤ 140737488355328) :
    ∃ v' w', Hid ((Builtin.append_ #[37, 37] 37 #[.slice (some ⟨w.heap.size, 0, none⟩) 0 0, x]).run Tryz.prog (w.alloc (.cells #[] 5)) = .ok v' w') ∧ Hid (w'.ownsRow w.heap.size 5 1 v' bs.length (bs.map (Value.int .u8))) ∧ Hid (Below w.heap.size w w') := by
  have ho0 : (w.alloc (.cells #[] 5)).ownsRow w.heap.size 5 1 (.slice (some ⟨w.heap.size, 0, none⟩) 0 0) ([] : List Int).length (([] : List Int).map (Value.int .u8)) := World.ownsRow_lit w #[] 0 (Nat.le_refl _) (by unfold maxLen; omega) rfl
  obtain ⟨v3, w3, hrun, ho3, hg3⟩ := run_append_bytes w.heap.size (w.alloc (.cells #[] 5)) _ [] ho0 x bs (hx.below ((Below.refl _ _).alloc (Nat.le_refl _) _)) (by simp; omega) (by simp)
  have hgB : Below w.heap.size w w3 := ((Below.refl _ _).alloc (Nat.le_refl _) _).grown hg3 (by simp) (fun k e => by simp [Value.ownBlock] at e; omega)
  exact ⟨v3, w3, hrun, Lib.hid (by simpa using ho3), hgB⟩

set_option maxRecDepth 100000 in
theorem elem_bytes : Tryz.prog.underlying 37 = some (.slice (Tryz.prog.elem 37)) := by kernel_rfl

set_option maxRecDepth 100000 in
theorem sizeOf_byte (W : World) : (sizeOf (Tryz.prog.elem 37)).run Tryz.prog W = .ok 1 W := by kernel_rfl

theorem add_none (ra : Option Addr) : (ra.map fun x => x.add 0) = ra := by cases ra <;> simp [Addr.add]

set_option maxRecDepth 100000 in
/-- The first K bytes of a slice. -/
theorem sl_hi {ra : Option Addr} {R rc K : Nat} {rest : List Int} {w0 : World} (h : Sl .u8 w0 (.slice ra R rc) rest) (hK : K ≤ R) :
    (∀ W : World, (Instr.sliceAt 37 (.slice ra R rc) none (some (.int .i64 (K : Int))) none).run Tryz.prog W = .ok (.slice ra K rc) W) ∧ ∀ W : World, Sl .u8 W (.slice ra R rc) rest → Sl .u8 W (.slice ra K rc) (rest.take K) := by
  obtain ⟨a, cap, e, h1, h2, _, h4⟩ := h
  simp only [Value.slice.injEq] at e
  obtain ⟨rfl, rfl, rfl⟩ := e
  refine ⟨fun W => ?_, fun W hW => ?_⟩
  · rw [run_sliceAt_slice (h := elem_bytes), run_slice_h (ht := elem_bytes) (kh := .i64) (h0 := by omega) (h2 := by omega), sizeOf_byte]
    simp only [Result.andThen, sliced, Int.toNat_natCast, Nat.zero_mul, add_none, ite_self, Nat.sub_zero]
  · obtain ⟨a, cap, e, h1, h2, h3, h4⟩ := hW
    simp only [Value.slice.injEq] at e
    obtain ⟨rfl, _, rfl⟩ := e
    have htl : (rest.take K).length = K := by rw [List.length_take]; omega
    refine ⟨ra, rc, by rw [htl], by omega, h2, ?_, h4⟩
    rcases h3 with rfl | ⟨b, off, e, h5, h6⟩
    · exact .inl (by simp)
    · exact .inr ⟨b, off, e, h5, fun j hj => by rw [htl] at hj; rw [take_get _ _ _ hj]; exact h6 j (by omega)⟩

set_option maxRecDepth 100000 in
/-- .. and all behind them. -/
theorem sl_lo {ra : Option Addr} {R rc K : Nat} {rest : List Int} {w0 : World} (h : Sl .u8 w0 (.slice ra R rc) rest) (hK : K ≤ R) :
    ∃ ra', (∀ W : World, (Instr.sliceAt 37 (.slice ra R rc) (some (.int .i64 (K : Int))) none none).run Tryz.prog W = .ok (.slice ra' (R - K) (rc - K)) W) ∧ ∀ W : World, Sl .u8 W (.slice ra R rc) rest → Sl .u8 W (.slice ra' (R - K) (rc - K)) (rest.drop K) := by
  obtain ⟨a, cap, e, h1, h2, _, h4⟩ := h
  simp only [Value.slice.injEq] at e
  obtain ⟨rfl, rfl, rfl⟩ := e
  refine ⟨if rc = K then ra else ra.map fun x => x.add K, fun W => ?_, fun W hW => ?_⟩
  · rw [run_sliceAt_slice (h := elem_bytes), run_slice_l (ht := elem_bytes) (kl := .i64) (h0 := by omega) (h1 := by omega), sizeOf_byte]
    simp only [Result.andThen, sliced, Int.toNat_natCast, Nat.mul_one]
  · obtain ⟨a, cap, e, h1, h2, h3, h4⟩ := hW
    simp only [Value.slice.injEq] at e
    obtain ⟨rfl, _, rfl⟩ := e
    refine ⟨_, rc - K, by rw [List.length_drop], by rw [List.length_drop]; omega, by omega, ?_, ?_⟩
    · by_cases h0 : rest.length = K
      · exact .inl (List.drop_of_length_le (by omega))
      · rcases h3 with rfl | ⟨b, off, rfl, h5, h6⟩
        · exact .inl (by simp)
        · refine .inr ⟨b, off + K, ?_, h5, fun j hj => ?_⟩
          · rw [if_neg (by omega)]
            show some _ = _
            congr 1
            unfold Addr.add
            split <;> simp_all
          · rw [List.length_drop] at hj
            rw [drop_get, Nat.add_assoc]
            exact h6 (K + j) (by omega)
    · intro e
      split at e
      · omega
      · have := h4 (by simpa using e); omega


/-- All behind the first K bytes, as the walk spells it. -/
theorem sl_lo_at {ra : Option Addr} {R rc K : Nat} {rest : List Int} {W : World} (hW : Sl .u8 W (.slice ra R rc) rest) (hK : K ≤ R) :
    Sl .u8 W (.slice (if rc = K then ra else ra.map fun x => x.add K) (R - K) (rc - K)) (rest.drop K) := by
  obtain ⟨a, cap, e, h1, h2, h3, h4⟩ := hW
  simp only [Value.slice.injEq] at e
  obtain ⟨rfl, rfl, rfl⟩ := e
  refine ⟨_, rc - K, by rw [List.length_drop], by rw [List.length_drop]; omega, by omega, ?_, ?_⟩
  · by_cases h0 : rest.length = K
    · exact .inl (List.drop_of_length_le (by omega))
    · rcases h3 with rfl | ⟨b, off, rfl, h5, h6⟩
      · exact .inl (by simp)
      · refine .inr ⟨b, off + K, ?_, h5, fun j hj => ?_⟩
        · rw [if_neg (by omega)]
          show some _ = _
          congr 1
          unfold Addr.add
          split <;> simp_all
        · rw [List.length_drop] at hj
          rw [drop_get, Nat.add_assoc]
          exact h6 (K + j) (by omega)
  · intro e
    split at e
    · omega
    · have := h4 (by simpa using e); omega

end Go.Proofs.YtbdfllamhcodjaaGreat

/- A region that draws its order, whose operations read what lay and whose calls leave what lay: walked once, in the order of the text. -/
namespace Go.Proofs.YtbdfllamhcodjaaGreat
open Go.RowKit
set_option linter.unusedVariables false

/-- A world that has what lay in W, and maybe more. -/
def Ext (W : World) : Type := {w : World // Below W.heap.size W w}
instance (W : World) : Nonempty (Ext W) := ⟨⟨W, Below.refl _ _⟩⟩

theorem region_ext {P : Program} {id : Nat} {Q : Exit → Act → World → Prop} {a : Act} {w : World} {l : List Oper} (hm : P.follows .mixedOrders = true) (hB : Region.lexB .any l.toArray = true)
    (h : wpQuiet P l.toArray (fun w' => ∃ x : Ext w, w' = x.1) (fun a' => ∀ x : Ext w, Q .normal a' x.1) l a) : (Code.region id l.toArray true).wp P Q a w := by
  refine wp_region_quiet (C := fun w' => ∃ x : Ext w, w' = x.1) hm hB ⟨⟨w.drew, (Below.refl _ w).drew⟩, rfl⟩ ?_
  have : (fun a' => ∀ w', (∃ x : Ext w, w' = x.1) → Q .normal a' w') = fun a' => ∀ x : Ext w, Q .normal a' x.1 := by
    funext a'
    exact propext ⟨fun h x => h _ ⟨x, rfl⟩, fun h w' ⟨x, e⟩ => e ▸ h x⟩
  rw [this]
  simpa using h

theorem calls_ext {P : Program} {f : FuncId} {args : Array Value} {W : World} {v : Value} (x : Ext W) (h : Calls P f args x.1 fun e w' => e = .returned v ∧ Below x.1.heap.size x.1 w') :
    Calls P f args x.1 fun e w'' => e = .returned v ∧ ∃ y : Ext W, w'' = y.1 :=
  h.mono fun e w' ⟨h1, h2⟩ => ⟨h1, ⟨w', x.2.trans (h2.mono x.2.size)⟩, rfl⟩

end Go.Proofs.YtbdfllamhcodjaaGreat

/- A region that draws its order, walked in an order of one's own choice: what only reads is taken ahead, under a condition that all else keeps; what makes or writes is carried out as it may come up. No program is named. -/
namespace Go.Proofs.YtbdfllamhcodjaaGreat
open Go.RowKit
set_option linter.unusedVariables false

/-- What hands back a value, if anything. -/
def readOp : Op → Bool
  | .move _ | .assign _ | .pick .. | .load .. | .binOp .. | .unOp .. | .convert .. | .fieldAddr .. | .field .. | .indexAddr .. | .index .. | .extract .. | .build .. | .slice .. | .nilCheck _ => true
  | .call { callee := .builtin .len, .. } => true
  | _ => false

theorem andThen_value {α : Type} {s : Result α} {f : α → Value} {n : Next} {w' : World} (h : (s.andThen fun v w => Result.ok (Next.value (f v)) w) = .ok n w') : ∃ v, n = .value v := by
  cases s with
  | ok v w => simp [Result.andThen] at h; exact ⟨_, h.1.symm⟩
  | halt x w => simp [Result.andThen] at h

theorem andThen_any {α : Type} {s : Result α} {g : α → World → Result Next} {n : Next} {w' : World} (hg : ∀ a w n w', g a w = .ok n w' → ∃ v, n = .value v) (h : s.andThen g = .ok n w') : ∃ v, n = .value v := by
  cases s with
  | ok v w => exact hg _ _ _ _ h
  | halt x w => simp [Result.andThen] at h

section
variable {P : Program} {ops : Array Oper} {Q : Exit → Act → World → Prop} {md : Region.Mode} {S : World → Prop}

theorem readOp_value {o : Oper} {ρ : Operand → Value} {w w' : World} {n : Next} (h : readOp o.op = true) (hr : (execOp ρ o).run P w = .ok n w') : ∃ v, n = .value v := by
  obtain ⟨dst, op, ty, pos, aft, gd⟩ := o
  cases op
  case nilCheck x =>
    unfold execOp at hr
    dsimp only at hr
    revert hr
    split
    · intro hr; simp [runtimePanic] at hr
    · intro hr; simp [runtimePanic] at hr
    · intro hr; simp [runtimePanic] at hr
    · split
      · intro hr; simp [runtimePanic] at hr
      · intro hr
        simp only [Sem.run_bind] at hr
        refine andThen_any (fun a w n w' hr => andThen_any (fun a w n w' hr => ?_) hr) hr
        split at hr
        · simp [unsupported] at hr
        · simp at hr; exact ⟨_, hr.1.symm⟩
      · intro hr; simp at hr; exact ⟨_, hr.1.symm⟩
    · intro hr; simp at hr; exact ⟨_, hr.1.symm⟩
  case call c =>
    obtain ⟨callee, args, at_⟩ := c
    cases callee <;> simp [readOp] at h
    rename_i b
    cases b <;> simp at h
    simp only [execOp, Sem.run_bind, resolve, invoke, builtin, Sem.run_pure, Result.andThen_ok] at hr
    exact andThen_value (f := id) hr
  all_goals first
    | (simp [readOp] at h; done)
    | (simp only [execOp, Sem.run_bind, Sem.run_pure] at hr; exact andThen_value (f := id) hr)
    | (simp only [execOp, Sem.run_bind, Sem.run_pure] at hr; exact andThen_value hr)
    | (simp [execOp] at hr; exact ⟨_, hr.1.symm⟩)
    | skip

/-- What the quiet walk shows of an operation that only reads. -/
theorem yieldsIf_of_quiet {i : Nat} {o : Oper} {a : Act} {K : Act → Prop} (hrd : readOp o.op = true) (hne : ∃ w, S w) (h : if Region.wanted o (yielded ops a.tmps) then o.quiet P a S K else K (a.put o.dst undef)) :
    ∃ v, YieldsIf P ops S o v a ∧ K (a.put o.dst v) := by
  by_cases hw : Region.wanted o (yielded ops a.tmps) = true
  · rw [if_pos hw] at h
    obtain ⟨v, h1, h2⟩ := h
    refine ⟨v, .inl ⟨hw, fun w hS => ?_⟩, h2⟩
    have h3 := h1 w hS
    unfold Oper.quietAt at h3
    cases hr : (execOp a.eval o).run P w with
    | ok n w' =>
      obtain ⟨u, rfl⟩ := readOp_value hrd hr
      rw [hr] at h3
      obtain ⟨rfl, rfl⟩ := h3
      rfl
    | halt x w' => rw [hr] at h3; exact h3.elim
  · rw [if_neg hw] at h
    exact ⟨undef, .inr ⟨by simpa using hw, rfl⟩, h⟩

/-- The first part of a walk, in whatever order is picked: none from number n on comes up; S holds behind each; then L. -/
def wpAnyM (P : Program) (md : Region.Mode) (ops : Array Oper) (Q : Exit → Act → World → Prop) (S : World → Prop) (n : Nat) (L : Array Bool → Act → World → Prop) : Nat → Array Bool → Act → World → Prop
  | 0, listed, a, w => L listed a w
  | f + 1, listed, a, w => Region.ready md ops listed ≠ [] ∧ ∀ i ∈ Region.ready md ops listed, i < n ∧ wpOp P ops Q i (fun a' w' => S w' ∧ wpAnyM P md ops Q S n L f (listed.setIfInBounds i true) a' w') a w

theorem wpAny_of_M {n g : Nat} {L : Array Bool → Act → World → Prop} (hL : ∀ listed a w, L listed a w → wpAny P md ops Q g listed a w) :
    ∀ (f : Nat) (listed : Array Bool) (a : Act) (w : World), wpAnyM P md ops Q S n L f listed a w → wpAny P md ops Q (f + g) listed a w
  | 0, listed, a, w, h => by rw [Nat.zero_add]; exact hL _ _ _ h
  | f + 1, listed, a, w, h => by
    rw [show f + 1 + g = (f + g) + 1 by omega]
    exact ⟨fun h0 => absurd h0 h.1, fun i hi => wpOp_mono (fun a' w' h' => wpAny_of_M hL f _ a' w' h'.2) (h.2 i hi).2⟩

theorem wpAnyM_first {n i : Nat} {oi : Oper} {v : Value} {L : Array Bool → Act → World → Prop} (hi : ops[i]? = some oi) (hsel : ∀ (j : Nat) (o : Oper) cs b, ops[j]? = some o → o.op ≠ .select cs b)
    (hQ : ∀ c a w, Q (.panic c) (a.put oi.dst v) w → Q (.panic c) a w)
    (hs : Region.sinkB md ops n = true) (hc : Region.chainB md ops n = true) (hn : n < ops.size) (hin : i < n)
    (hdone : ∀ listed a w, L listed a w → ∀ j ∈ Region.ready md ops listed, n ≤ j) :
    ∀ (f : Nat) (listed : Array Bool) (a : Act) (w : World), HeadInv md ops n listed →
      (∀ j oj, ops[j]? = some oj → j ≠ i → listed.getD j true = false → (∀ e ∈ oj.after, Region.binds md e = true → e.on ≠ i) → oi.apart ops oj = true) →
      i ∈ Region.ready md ops listed → YieldsIf P ops S oi v a → S w →
      wpAnyM P md ops Q S n L f (listed.setIfInBounds i true) (a.put oi.dst v) w → wpAnyM P md ops Q S n L (f + 1) listed a w := by
  intro f
  induction f with
  | zero =>
    intro listed a w inv _ hr hy hS H
    have hun := (mem_ready.1 hr).1
    refine ⟨fun h => (by rw [h] at hr; cases hr), fun j hj => ?_⟩
    have hjn : j < n := by
      rcases Nat.lt_or_ge j n with h | h
      · exact h
      · exact absurd hj (tail_waits hs hc hn inv _ i rfl hin hun j h)
    refine ⟨hjn, ?_⟩
    by_cases hji : j = i
    · subst hji; exact hy.wpOp hi hS ⟨hS, H⟩
    · have := hdone _ _ _ H j (ready_mono hj hji)
      omega
  | succ f ih =>
    intro listed a w inv hfree hr hy hS H
    have hun := (mem_ready.1 hr).1
    refine ⟨fun h => (by rw [h] at hr; cases hr), fun j hj => ?_⟩
    have hjn : j < n := by
      rcases Nat.lt_or_ge j n with h | h
      · exact h
      · exact absurd hj (tail_waits hs hc hn inv _ i rfl hin hun j h)
    refine ⟨hjn, ?_⟩
    by_cases hji : j = i
    · subst hji; exact hy.wpOp hi hS ⟨hS, H⟩
    · have h1 := (H.2 j (ready_mono hj hji)).2
      obtain ⟨hjun, oj, hoj, hall⟩ := mem_ready.1 hj
      have hnot : ∀ e ∈ oj.after, Region.binds md e = true → e.on ≠ i := fun e he hb heq => by
        have h1 := hall e he hb
        rw [heq, getD_both hun] at h1
        cases h1
      have h2 := wpOp_putIf hoj (hfree j oj hoj hji hjun hnot) (fun cs b => hsel i oi cs b hi) (fun cs b => hsel j oj cs b hoj) hQ hy h1
      have hfree' : ∀ k ok, ops[k]? = some ok → k ≠ i → (listed.setIfInBounds j true).getD k true = false →
          (∀ e ∈ ok.after, Region.binds md e = true → e.on ≠ i) → oi.apart ops ok = true := fun k ok hk hki hun hno => by
        refine hfree k ok hk hki ?_ hno
        by_cases hjk : j = k
        · subst hjk; exact hjun
        · rw [getD_set_ne true hjk] at hun; exact hun
      refine wpOp_mono (fun a' w' h3 => ⟨h3.2.1, ih (listed.setIfInBounds j true) a' w' (inv.set hj hjn) hfree' (ready_mono hr (Ne.symm hji)) h3.1 h3.2.1 ?_⟩) h2
      rw [Array.setIfInBounds_comm _ _ hji]
      exact h3.2.2

/-- An order of one's own choice. -/
inductive Plan where
  | leaf
  | take (i : Nat) (next : Plan)
  | one (i : Nat) (next : Plan)
  | two (i j : Nat) (next1 next2 : Plan)

/-- Operation number i. -/
def nth : List Oper → Nat → Oper
  | [], _ => { dst := none, op := .move (.tmp 0), type := 0, pos := "", after := #[], guard := none }
  | o :: _, 0 => o
  | _ :: l, n + 1 => nth l n
theorem nth_zero (o : Oper) (l : List Oper) : nth (o :: l) 0 = o := rfl
theorem nth_succ (o : Oper) (l : List Oper) (n : Nat) : nth (o :: l) (n + 1) = nth l n := rfl
theorem nth_get : ∀ (l : List Oper) (i : Nat), i < l.length → l[i]? = some (nth l i)
  | [], _, h => by simp at h
  | o :: l, 0, _ => rfl
  | o :: l, n + 1, h => by rw [List.getElem?_cons_succ]; exact nth_get l n (by simpa using h)

/-- Where a part of the walk that carries out one operation has to come. -/
def planPost (S : World → Prop) (Q : Exit → Act → World → Prop) (K : Act → World → Prop) : Exit → Act → World → Prop
  | .normal, a, w => S w ∧ K a w
  | .ret, a, w => Q .ret a w
  | .exit i, a, w => Q (.exit i) a w
  | .goto t, a, w => Q (.goto t) a w
  | .panic c, a, w => Q (.panic c) a w
  | .outgrown, a, w => Q .outgrown a w

/-- The walk. -/
def wpPlan (P : Program) (l : List Oper) (Q : Exit → Act → World → Prop) (S : World → Prop) (n : Nat) : Plan → Act → World → Prop
  | .leaf, a, w => wpList P l.toArray Q (l.drop n) a w
  | .take i next, a, w => wpQuiet P l.toArray S (fun a' => wpPlan P l Q S n next a' w) [nth l i] a
  | .one i next, a, w => wpList P l.toArray (planPost S Q (wpPlan P l Q S n next)) [nth l i] a w
  | .two i j n1 n2, a, w => wpList P l.toArray (planPost S Q (wpPlan P l Q S n n1)) [nth l i] a w ∧ wpList P l.toArray (planPost S Q (wpPlan P l Q S n n2)) [nth l j] a w

/-- All of these ahead. -/
def Plan.takes : List Nat → Plan → Plan
  | [], p => p
  | i :: l, p => .take i (Plan.takes l p)

/-- May it be gone so? -/
def planB (md : Region.Mode) (l : List Oper) (n : Nat) : Plan → Nat → Array Bool → Bool
  | .leaf, f, listed => decide (f = 0) && Region.seqB md l.toArray (l.length - n) n listed
  | .take i next, f, listed => decide (0 < f) && decide (i < n) && readOp (nth l i).op && (Region.ready md l.toArray listed).contains i && Region.free md l.toArray listed i && planB md l n next (f - 1) (listed.setIfInBounds i true)
  | .one i next, f, listed => decide (0 < f) && decide (i < n) && decide (Region.ready md l.toArray listed = [i]) && planB md l n next (f - 1) (listed.setIfInBounds i true)
  | .two i j n1 n2, f, listed => decide (0 < f) && decide (i < n) && decide (j < n) && decide (Region.ready md l.toArray listed = [i, j]) && planB md l n n1 (f - 1) (listed.setIfInBounds i true) && planB md l n n2 (f - 1) (listed.setIfInBounds j true)

theorem wpPlan_leaf {l : List Oper} {n : Nat} {a : Act} {w : World} : wpPlan P l Q S n .leaf a w = wpList P l.toArray Q (l.drop n) a w := rfl
theorem wpPlan_take {l : List Oper} {n i : Nat} {p : Plan} {a : Act} {w : World} : wpPlan P l Q S n (.take i p) a w = wpQuiet P l.toArray S (fun a' => wpPlan P l Q S n p a' w) [nth l i] a := rfl
theorem wpPlan_one {l : List Oper} {n i : Nat} {p : Plan} {a : Act} {w : World} : wpPlan P l Q S n (.one i p) a w = wpList P l.toArray (planPost S Q (wpPlan P l Q S n p)) [nth l i] a w := rfl
theorem wpPlan_takes_nil {l : List Oper} {n : Nat} {p : Plan} {a : Act} {w : World} : wpPlan P l Q S n (.takes [] p) a w = wpPlan P l Q S n p a w := rfl
theorem wpPlan_takes_cons {l : List Oper} {n i : Nat} {is : List Nat} {p : Plan} {a : Act} {w : World} : wpPlan P l Q S n (.takes (i :: is) p) a w = wpQuiet P l.toArray S (fun a' => wpPlan P l Q S n (.takes is p) a' w) [nth l i] a := rfl

theorem wp_congrQ {o : Oper} {a : Act} {w : World} {K : Act → World → Prop} {Q' : Exit → Act → World → Prop} (hp : ∀ c a w, Q' (.panic c) a w → Q (.panic c) a w) (ho : ∀ a w, Q' .outgrown a w → Q .outgrown a w) (h : o.wp P a w K Q') : o.wp P a w K Q := by
  unfold Oper.wp at *
  generalize (execOp a.eval o).run P w = r at *
  cases r with
  | ok n w' =>
    cases n <;> simp only [Oper.upon] at h ⊢ <;>
      first
        | exact h
        | exact Calls.mono h (fun e w'' he => by cases e <;> first | exact he | exact hp _ _ _ he | (obtain ⟨a', w', h'⟩ := he; exact ⟨a', w', ho _ _ h'⟩))
  | halt x w' => cases x <;> simp only [Oper.upon] at h ⊢ <;> first | exact h | exact hp _ _ _ h | exact ho _ _ h

theorem wpOp_of_one {l : List Oper} {i : Nat} {K : Act → World → Prop} {a : Act} {w : World} (hi : i < l.length) (h : wpList P l.toArray (planPost S Q K) [nth l i] a w) :
    wpOp P l.toArray Q i (fun a' w' => S w' ∧ K a' w') a w := by
  have ho : l.toArray[i]? = some (nth l i) := by simpa using nth_get l i hi
  unfold wpOp
  simp only [ho]
  unfold wpList at h
  by_cases hw : Region.wanted (nth l i) (yielded l.toArray a.tmps) = true
  · rw [if_pos hw] at h ⊢
    rcases h with h | ⟨h1, a', w', h2⟩
    · exact .inl (wp_congrQ (fun _ _ _ h => h) (fun _ _ h => h) h)
    · exact .inr ⟨h1, a', w', h2⟩
  · rw [if_neg hw] at h ⊢
    exact h

theorem wpAnyM_plan {l : List Oper} {n : Nat} (hsel : Region.noSelect l.toArray = true) (hs : Region.sinkB md l.toArray n = true) (hc : Region.chainB md l.toArray n = true) (hn : n < l.length) (hQ : ∀ c (x : Option Tmp) v a w, Q (.panic c) (a.put x v) w → Q (.panic c) a w) :
    ∀ (p : Plan) (f : Nat) (listed : Array Bool) (a : Act) (w : World), HeadInv md l.toArray n listed → planB md l n p f listed = true → S w → wpPlan P l Q S n p a w →
      wpAnyM P md l.toArray Q S n (fun listed' a' w' => Region.seqB md l.toArray (l.length - n) n listed' = true ∧ wpList P l.toArray Q (l.drop n) a' w') f listed a w := by
  have hn' : n < l.toArray.size := by simpa using hn
  intro p
  induction p with
  | leaf =>
    intro f listed a w inv hB hS h
    simp only [planB, Bool.and_eq_true, decide_eq_true_eq] at hB
    obtain ⟨rfl, hB⟩ := hB
    exact ⟨hB, h⟩
  | take i next ih =>
    intro f listed a w inv hB hS h
    simp only [planB, Bool.and_eq_true, decide_eq_true_eq] at hB
    obtain ⟨⟨⟨⟨⟨hf, hin⟩, hrd⟩, hr⟩, hfr⟩, hB⟩ := hB
    obtain ⟨f, rfl⟩ : ∃ g, f = g + 1 := ⟨f - 1, by omega⟩
    have ho : l.toArray[i]? = some (nth l i) := by simpa using nth_get l i (by omega)
    have hr' : i ∈ Region.ready md l.toArray listed := by simpa using hr
    simp only [wpPlan, wpQuiet] at h
    obtain ⟨v, hy, hK⟩ := yieldsIf_of_quiet (i := i) hrd ⟨w, hS⟩ h
    exact wpAnyM_first ho (Region.noSelect_spec hsel) (fun c a w => hQ c _ v a w) hs hc hn' hin (fun listed a w hL => seqB_ready hL.1) f listed a w inv (Region.free_spec ho hfr) hr' hy hS
      (ih f _ _ w (inv.set hr' hin) (by simpa using hB) hS hK)
  | one i next ih =>
    intro f listed a w inv hB hS h
    simp only [planB, Bool.and_eq_true, decide_eq_true_eq] at hB
    obtain ⟨⟨⟨hf, hin⟩, hr⟩, hB⟩ := hB
    obtain ⟨f, rfl⟩ : ∃ g, f = g + 1 := ⟨f - 1, by omega⟩
    refine ⟨by rw [hr]; simp, fun j hj => ?_⟩
    have hj' := hj
    rw [hr] at hj
    obtain rfl : j = i := by simpa using hj
    exact ⟨hin, wpOp_mono (fun a' w' h' => ⟨h'.1, ih f _ _ w' (inv.set hj' hin) (by simpa using hB) h'.1 h'.2⟩) (wpOp_of_one (by omega) h)⟩
  | two i k n1 n2 ih1 ih2 =>
    intro f listed a w inv hB hS h
    simp only [planB, Bool.and_eq_true, decide_eq_true_eq] at hB
    obtain ⟨⟨⟨⟨⟨hf, hin⟩, hkn⟩, hr⟩, hB1⟩, hB2⟩ := hB
    obtain ⟨f, rfl⟩ : ∃ g, f = g + 1 := ⟨f - 1, by omega⟩
    obtain ⟨g1, g2⟩ := h
    refine ⟨by rw [hr]; simp, fun j hj => ?_⟩
    have hj' := hj
    rw [hr] at hj
    rcases (by simpa using hj : j = i ∨ j = k) with rfl | rfl
    · exact ⟨hin, wpOp_mono (fun a' w' h' => ⟨h'.1, ih1 f _ _ w' (inv.set hj' hin) (by simpa using hB1) h'.1 h'.2⟩) (wpOp_of_one (by omega) g1)⟩
    · exact ⟨hkn, wpOp_mono (fun a' w' h' => ⟨h'.1, ih2 f _ _ w' (inv.set hj' hkn) (by simpa using hB2) h'.1 h'.2⟩) (wpOp_of_one (by omega) g2)⟩

/-- May the region be gone so? -/
def planOk (l : List Oper) (n : Nat) (p : Plan) : Bool :=
  Region.noSelect l.toArray && decide (n < l.length) && Region.sinkB .any l.toArray n && Region.chainB .any l.toArray n && planB .any l n p n (Array.replicate l.length false)

theorem wpAny_plan {l : List Oper} {a : Act} {w : World} (S : World → Prop) (n : Nat) (p : Plan) (hB : planOk l n p = true) (hQ : ∀ c (x : Option Tmp) v a w, Q (.panic c) (a.put x v) w → Q (.panic c) a w) (hS : S w)
    (h : wpPlan P l Q S n p a w) : wpAny P .any l.toArray Q l.toArray.size (Array.replicate l.toArray.size false) a w := by
  simp only [planOk, Bool.and_eq_true, decide_eq_true_eq] at hB
  obtain ⟨⟨⟨⟨hsel, hn⟩, hs⟩, hc⟩, hp⟩ := hB
  have inv0 : HeadInv .any l.toArray n (Array.replicate l.toArray.size false) :=
    ⟨by simp, fun j oj _ hl => (by rw [getD_replicate_false] at hl; cases hl), fun t _ ht => getD_in (by simpa using ht) (getD_replicate_false _ _)⟩
  have H := wpAnyM_plan (md := .any) hsel hs hc hn hQ p n _ a w inv0 (by simpa using hp) hS h
  have := wpAny_of_M (g := l.length - n) (fun listed a' w' hL => by
    have := wpAny_of_seq (md := .any) (Q' := Q) (l.drop n) n listed a' w' (fun j => by simp [List.getElem?_drop]) (by rw [List.length_drop]; exact hL.1) hL.2
    rwa [List.length_drop] at this) _ _ _ _ H
  rw [show n + (l.length - n) = l.toArray.size by simp; omega] at this
  exact this

/-- **A REGION THAT DRAWS, in an order of one's own choice.** -/
theorem region_plan {id : Nat} {a : Act} {w : World} {l : List Oper} (S : World → Prop) (n : Nat) (p : Plan) (hm : P.follows .mixedOrders = true) (hB : planOk l n p = true) (hQ : ∀ c (x : Option Tmp) v a w, Q (.panic c) (a.put x v) w → Q (.panic c) a w) (hS : S w.drew)
    (h : wpPlan P l Q S n p a w.drew) : (Code.region id l.toArray true).wp P Q a w :=
  wp_region_any hm (wpAny_plan S n p hB hQ hS h)

/-- .. in a round of a loop over a function. -/
theorem region_plan_round {id fuel l₀ : Nat} {a : Act} {w : World} {l : List Oper} (S : World → Prop) (n : Nat) (p : Plan) (hL : ¬ LetsOut Q) (hd : noDefer l.toArray = true) (hm : P.follows .mixedOrders = true) (hB : planOk l n p = true) (hQ : ∀ c (x : Option Tmp) v a w, Q (.panic c) (a.put x v) w → Q (.panic c) a w) (hS : S w.drew)
    (h : wpPlan P l Q S n p a w.drew) : (Code.region id l.toArray true).wpIn (Fence.wide.inRound l₀) fuel P Q a w :=
  wpIn_region_any hm (any_round hL hd _ _ _ _ (wpAny_plan S n p hB hQ hS h))

/-- A slice literal whose run is known; a guard that lets it by is no bar. -/
theorem wpList_build_run {w w' : World} {ops : Array Oper} {rest : List Oper} {o : Oper} {a : Act} {Q : Exit → Act → World → Prop} (t : TypeId) (len : Nat) (parts : Array (Nat × Operand))
    (ho : o.op = .buildSlice t len parts) (hw : Region.wanted o (yielded ops a.tmps) = true) (vs : List (Nat × Value)) (v' : Value) (hs : (parts.toList.map fun (i, x) => (i, a.eval x)) = vs)
    (hrun : (Instr.buildSlice t len vs.toArray).run P w = .ok v' w') (h : wpList P ops Q rest (a.put o.dst v') w') : wpList P ops Q (o :: rest) a w := by
  unfold wpList
  rw [if_pos hw]
  refine .inl ?_
  have hs' : (parts.map fun (i, x) => (i, a.eval x)) = vs.toArray := by
    apply Array.toList_inj.1
    rw [Array.toList_map, hs]
  unfold Oper.wp
  simp only [execOp, ho, Sem.run_bind, hs', hrun, Result.andThen_ok, Sem.run_pure]
  exact h
/-- A gate for an arm: the next operation is a slice literal. -/
theorem gate_build {w : World} {ops : Array Oper} {rest : List Oper} {a : Act} {Q : Exit → Act → World → Prop} {dst : Option Tmp} {t ty : TypeId} {len : Nat} {parts : Array (Nat × Operand)} {pos : String} {after : Array Edge} {guard : Option (Nat × Bool)}
    (h : wpList P ops Q ({ dst := dst, op := .buildSlice t len parts, type := ty, pos := pos, after := after, guard := guard } :: rest) a w) :
    wpList P ops Q ({ dst := dst, op := .buildSlice t len parts, type := ty, pos := pos, after := after, guard := guard } :: rest) a w := h
/-- Where one operation has been carried out. -/
theorem planPost_mk {K : Act → World → Prop} {a : Act} {w : World} (h1 : S w) (h2 : K a w) : planPost S Q K .normal a w := ⟨h1, h2⟩
end
end Go.Proofs.YtbdfllamhcodjaaGreat

/- Marked sectors in memory: their rows of cells, read and written at once; copies. -/
namespace Go.Proofs.YtbdfllamhcodjaaGreat
open Go.RowKit
set_option linter.unusedVariables false

def u8s (bs : List Int) : List Value := bs.map (Value.int .u8)
/-- Its cells. -/
def Sct.cells (p : Sct) : List Value := .int .u8 p.mark :: .int .u32 p.seq :: .int .i64 p.index :: u8s p.body
theorem u8s_length (bs : List Int) : (u8s bs).length = bs.length := by simp [u8s]
theorem u8s_one (bs : List Int) : ∀ v ∈ u8s bs, v.oneCell' = true := by
  intro v hv
  obtain ⟨x, _, rfl⟩ := List.mem_map.1 hv
  rfl
theorem isBlk_u8s {bs : List Int} (h : bs.length = 64) : IsBlk (u8s bs) := ⟨bs, h, rfl⟩
theorem Sct.cells_length {p : Sct} (h : p.body.length = 48) : p.cells.length = 51 := by simp [Sct.cells, u8s, h]
theorem Sct.cells_one (p : Sct) : ∀ v ∈ p.cells, v.oneCell' = true := by
  intro v hv
  simp only [Sct.cells, List.mem_cons] at hv
  rcases hv with rfl | rfl | rfl | hv
  · rfl
  · rfl
  · rfl
  · exact u8s_one _ v hv

/-- A row whose cells lie in a block of its own. -/
theorem row_there {W : World} {B : Nat} {a : Array Value} {t : TypeId} (h : W.heap[B]? = some (.cells a t (0, 0))) (o n : Nat) (hn : o + n ≤ a.size) : W.there B o n := fun j hj => by
  refine ⟨?_, by simp [World.frozen?, h]⟩
  rw [cell_of_row _ _ _ _ _ _ h, Array.getElem?_eq_getElem (by omega)]
  rfl
theorem row_range {W : World} {B : Nat} {c : List Value} {t : TypeId} (h : W.heap[B]? = some (.cells c.toArray t (0, 0))) : W.rangeAt B 0 c := fun j x hx => by
  rw [cell_of_row _ _ _ _ _ _ h, Nat.zero_add]
  simpa using hx
theorem row_part {W : World} {B : Nat} {a b : List Value} {t : TypeId} (h : W.heap[B]? = some (.cells (a ++ b).toArray t (0, 0))) : W.rangeAt B a.length b := fun j x hx => by
  rw [cell_of_row _ _ _ _ _ _ h]
  simp [List.getElem?_append_right, hx]
/-- Bytes that lie in a block, as a slice. -/
theorem sl_range {W : World} {B o : Nat} {bs : List Int} (h : W.rangeAt B o (u8s bs)) (hB : B < W.heap.size) (hm : bs.length ≤ maxLen) : Sl .u8 W (.slice (some ⟨B, o, none⟩) bs.length bs.length) bs :=
  Sl.at (Nat.le_refl _) hm hB fun j hj => by
    rw [h j (.int .u8 bs[j]) (by simp [u8s, hj])]
    simp [hj]

set_option maxRecDepth 100000 in
/-- copy: bytes go over into a block. -/
theorem run_copy_bytes {w : World} {B o dLen dCap : Nat} {v : Value} {bs : List Int} (ty : TypeId) (hv : Sl .u8 w v bs) (hd : bs.length ≤ dLen) (ht : w.there B o bs.length) :
    (Builtin.copy_ #[37, 37] ty #[.slice (some ⟨B, o, none⟩) dLen dCap, v]).run Tryz.prog w = .ok (goInt bs.length) (w.setCells B o (u8s bs)) := by
  obtain ⟨a, cap, rfl, h1, h2, h3, h4⟩ := hv
  rcases h3 with rfl | ⟨b, off, rfl, h5, h6⟩
  · exact run_copy_none w _ _ ty 5 _ _ _ _ _ _ Tryz.underlying37 size_u8 (by simp)
  · have := run_copy_cells (P := Tryz.prog) w 37 37 ty 5 B o dLen dCap ⟨b, off, none⟩ bs.length cap (u8s bs) Tryz.underlying37 size_u8 (by rw [u8s_length]; exact (Nat.min_eq_left hd).symm)
      (fun j v hj => by
        have hjl : j < bs.length := by have := (List.getElem?_eq_some_iff.1 hj).1; rwa [u8s_length] at this
        rw [show (⟨b, off, none⟩ : Addr).add j = ⟨b, off + j, none⟩ by unfold Addr.add; split <;> simp_all, h6 j hjl]
        simp [u8s, hjl] at hj ⊢
        exact hj)
      (fun j hj => (ht j (by rwa [u8s_length] at hj)).1) (fun j hj => (ht j (by rwa [u8s_length] at hj)).2) (u8s_one bs)
    rwa [u8s_length] at this

theorem below_cells {N b : Nat} (h : N ≤ b) : ∀ (vs : List Value) (o : Nat) (w : World), Below N w (w.setCells b o vs)
  | [], _, w => Below.refl N w
  | v :: vs, o, w => ((Below.refl N w).setCell (p := ⟨b, o, none⟩) h v).trans (below_cells h vs (o + 1) _)
set_option maxRecDepth 100000 in
/-- A block that is a result's own cell is written and read. -/
theorem blk_cell {w x : World} {B : Nat} {u : List Value} {z : Array Value} (hw : x.heap[B]? = some (.cells z 60 (0, 0))) (hz : z.size = 64) (hB : w.heap.size ≤ B) (hb : Below w.heap.size w x) (hu : IsBlk u) :
    ∃ x', (storeVar 60 ⟨B, 0, none⟩ (.agg u.toArray)).run Tryz.prog x = .ok () x' ∧ (loadVar 60 ⟨B, 0, none⟩).run Tryz.prog x' = .ok (.agg u.toArray) x' ∧ Below w.heap.size w x' := by
  have ht : x.there B 0 64 := row_there hw 0 64 (by rw [hz]; exact Nat.le_refl _)
  have hs := store_blk ht hu
  exact ⟨_, hs, load_blk (World.rangeAt_setCells_same x _ 0 u (by rw [hu.length]; exact ht)) hu.length, hb.trans (below_cells hB _ _ _)⟩

/-- Bytes that a call has made since W. -/
def OwnB (W x : World) (v : Value) (bs : List Int) : Prop := x.ownsRow W.heap.size 5 1 v bs.length (u8s bs)
set_option maxRecDepth 100000 in
theorem OwnB.app {W x : World} {v u : Value} {xs bs : List Int} (h : OwnB W x v xs) (hb : Below W.heap.size W x) (hu : Sl .u8 x u bs) (hl : xs.length + bs.length ≤ 1000000) :
    ∃ v' x', Hid ((Builtin.append_ #[37, 37] 37 #[v, u]).run Tryz.prog x = .ok v' x') ∧ Hid (OwnB W x' v' (xs ++ bs)) ∧ Hid (Below W.heap.size W x') := by
  obtain ⟨v', x', r1, r2, r3⟩ := run_append_bytes W.heap.size x v xs h u bs hu (by omega) hb.size
  exact ⟨v', x', r1, r2, hb.grown r3 hb.size (fun k e => (h.lt k e).1)⟩
theorem rangeAt_app {W : World} {B : Nat} {a c : List Value} (h1 : W.rangeAt B 0 a) (h2 : W.rangeAt B a.length c) : W.rangeAt B 0 (a ++ c) := fun j x hx => by
  by_cases hj : j < a.length
  · rw [List.getElem?_append_left hj] at hx; exact h1 j x hx
  · rw [List.getElem?_append_right (by omega)] at hx
    have := h2 (j - a.length) x hx
    rwa [show a.length + (j - a.length) = 0 + j by omega] at this

/-- What lay in a block still does; it may still be written. -/
theorem there_below {N : Nat} {x y : World} {B o n : Nat} (hb : Below N x y) (hB : B < N) (h : x.there B o n) : y.there B o n := fun j hj => by
  have e := hb.block B hB
  refine ⟨?_, ?_⟩
  · rw [hb.cell (p := ⟨B, o + j, none⟩) hB]; exact (h j hj).1
  · rw [World.frozen?_of_block (a := ⟨B, o + j, none⟩) e]; exact (h j hj).2
theorem range_below {N : Nat} {x y : World} {B o : Nat} {c : List Value} (hb : Below N x y) (hB : B < N) (h : x.rangeAt B o c) : y.rangeAt B o c := fun j v hv => by
  rw [hb.cell (p := ⟨B, o + j, none⟩) hB]
  exact h j v hv
end Go.Proofs.YtbdfllamhcodjaaGreat

/- The document's marked sectors in memory: read, written, made at once. -/
namespace Go.Proofs.YtbdfllamhcodjaaGreat
open Go.RowKit
set_option linter.unusedVariables false

def zcs : List Value := .int .u8 0 :: .int .u32 0 :: .int .i64 0 :: u8s (List.replicate 48 0)
set_option maxRecDepth 100000 in
theorem zero_sec (w : World) : (zeroValue 167).run Tryz.prog w = .ok (.agg zcs.toArray) w := by kernel_rfl
set_option maxRecDepth 100000 in
theorem build_sec (m s i : Int) (w : World) : (Instr.build 167 #[(0, .int .u8 m), (1, .int .u32 s), (2, .int .i64 i)]).run Tryz.prog w = .ok (.agg (Value.int .u8 m :: .int .u32 s :: .int .i64 i :: u8s (List.replicate 48 0)).toArray) w := by kernel_rfl
set_option maxRecDepth 100000 in
theorem build_sec0 (w : World) : (Instr.build 167 #[]).run Tryz.prog w = .ok (.agg zcs.toArray) w := by kernel_rfl
/-- Whatever is neither a block nor such a sector is read and written cell by cell. -/
theorem loadVar_open2 (t : TypeId) (h : t ≠ 60 ∧ t ≠ 167) (a : Addr) : loadVar t a = (do if ← isAgg t then pure (.agg (← loadCells a (← sizeOf t))) else load a) := rfl
theorem storeVar_open2 (t : TypeId) (h : t ≠ 60 ∧ t ≠ 167) (a : Addr) (v : Value) : storeVar t a v = (do
    if v.cells.size ≠ (← sizeOf t) then stuck "storeVar: the value has not the size of the variable"
    storeCells a v.cells.toList) := rfl
def decOk (bs : List Int) : Bool := (Sct.of bs).fits && decide ((Sct.of bs).bytes = bs)
def decS (bs : List Int) : Sct := if decOk bs = true then Sct.of bs else zsct
def decE (bs : List Int) : Int := if decOk bs = true then 0 else 11
end Go.Proofs.YtbdfllamhcodjaaGreat

/- Transactions in a ring, and what replaying yields; no program. -/
namespace Go.Proofs.YtbdfllamhcodjaaGreat
open Go.RowKit
set_option linter.unusedVariables false

/-- A page's bytes, with its number. -/
structure Img where
  index : Int
  body : List Int
structure Img.Ok (x : Img) : Prop where
  len : x.body.length = 48
  bytes : IsBytes x.body
def Img.cells (x : Img) : List Value := .int .i64 x.index :: u8s x.body
/-- .. that may be written. -/
def Img.fits (x : Img) : Prop := 0 ≤ x.index ∧ x.index ≤ 65535
theorem Img.cells_length {x : Img} (h : x.body.length = 48) : x.cells.length = 49 := by simp [Img.cells, u8s, h]
theorem Img.cells_one (x : Img) : ∀ v ∈ x.cells, v.oneCell' = true := by
  intro v hv
  simp only [Img.cells, List.mem_cons] at hv
  rcases hv with rfl | hv
  · rfl
  · exact u8s_one _ v hv
/-- The marked sector of an image, of a commit. -/
def imgSct (seq : Int) (x : Img) : Sct := ⟨73, seq, x.index, x.body⟩
def comSct (seq : Int) (n : Nat) : Sct := ⟨67, seq, n, List.replicate 48 0⟩
def IsSeq (seq : Int) : Prop := 0 ≤ seq ∧ seq < 4294967296
theorem zeros_bytes (n : Nat) : IsBytes (List.replicate n 0) := fun j => by
  rw [List.getElem?_replicate]
  split <;> decide
theorem imgSct_ok {seq : Int} {x : Img} (hs : IsSeq seq) (hx : x.Ok) : (imgSct seq x).Ok := ⟨by show (0 : Int) ≤ 73 ∧ (73 : Int) < 256; omega, hs, hx.len, hx.bytes⟩
theorem comSct_ok {seq : Int} {n : Nat} (hs : IsSeq seq) : (comSct seq n).Ok := ⟨by show (0 : Int) ≤ 67 ∧ (67 : Int) < 256; omega, hs, by simp [comSct], zeros_bytes 48⟩
theorem imgSct_fits {seq : Int} {x : Img} (hx : x.fits) : (imgSct seq x).fits = true := decide_eq_true ⟨by show (73 : Int) ≠ 0; omega, hx⟩
theorem comSct_fits {seq : Int} {n : Nat} (hn : n ≤ 65535) : (comSct seq n).fits = true := decide_eq_true ⟨by show (67 : Int) ≠ 0; omega, by show (0 : Int) ≤ n ∧ (n : Int) ≤ 65535; omega⟩
/-- A sector that may be is read back. -/
theorem decOk_bytes {p : Sct} (hp : p.Ok) (hf : p.fits = true) : decOk p.bytes = true ∧ Sct.of p.bytes = p := by
  have hx := of_decide_eq_true hf
  have e := of_bytes hp ⟨hx.2.1, hx.2.2⟩
  refine ⟨?_, e⟩
  unfold decOk
  rw [e, hf]
  simp
theorem decOk_zeros : decOk (List.replicate 64 0) = false := by
  have h : (Sct.of (List.replicate 64 0)).fits = false := by decide
  unfold decOk
  rw [h]
  rfl

/-- The transaction at a place, if there is one. -/
def oneGo (g : Nat → List Int) (seq : Int) : Nat → Nat → List Img → Option (List Img)
  | 0, _, _ => none
  | f + 1, k, acc =>
    if decOk (g k) = false ∨ (Sct.of (g k)).seq ≠ seq then none
    else if (Sct.of (g k)).mark = 67 then (if k < 1 ∨ (Sct.of (g k)).index ≠ k ∨ (Sct.of (g k)).body ≠ List.replicate 48 0 then none else some acc)
    else if (Sct.of (g k)).mark ≠ 73 then none
    else oneGo g seq f (k + 1) (acc ++ [⟨(Sct.of (g k)).index, (Sct.of (g k)).body⟩])
/-- The sectors from a place on. -/
def turnG (rd : Nat → List Int) (frm count at0 : Nat) : Nat → List Int := fun k => rd (frm + (at0 + k) % count)
def oneS (rd : Nat → List Int) (frm count at0 : Nat) (seq : Int) : Option (List Img) := oneGo (turnG rd frm count at0) seq count 0 []
/-- What replaying yields. -/
def repGo (rd : Nat → List Int) (frm count : Nat) : Nat → Nat → Int → List (List Img) → List (List Img) × Nat × Int
  | 0, at0, seq, acc => (acc, at0, seq)
  | f + 1, at0, seq, acc =>
    match oneS rd frm count at0 seq with
    | none => (acc, at0, seq)
    | some t => repGo rd frm count f ((at0 + t.length + 1) % count) ((seq + 1) % 4294967296) (acc ++ [t])
def repS (rd : Nat → List Int) (frm count at0 : Nat) (seq : Int) : List (List Img) × Nat × Int := repGo rd frm count count at0 seq []

/-- The sectors of a transaction. -/
def txnB (seq : Int) (t : List Img) : List (List Int) := t.map (fun x => (imgSct seq x).bytes) ++ [(comSct seq t.length).bytes]
theorem txnB_length (seq : Int) (t : List Img) : (txnB seq t).length = t.length + 1 := by simp [txnB]
structure TxnOk (count : Nat) (t : List Img) : Prop where
  least : 1 ≤ t.length
  most : t.length + 1 ≤ count
  ok : ∀ x ∈ t, x.Ok
  fits : ∀ x ∈ t, x.fits
theorem oneGo_txn {g : Nat → List Int} {seq : Int} {t : List Img} (hs : IsSeq seq) (h1 : 1 ≤ t.length) (h2 : t.length ≤ 65535) (hok : ∀ x ∈ t, x.Ok) (hft : ∀ x ∈ t, x.fits)
    (hg : ∀ k, k ≤ t.length → (txnB seq t)[k]? = some (g k)) : ∀ f k : Nat, k ≤ t.length → t.length < f + k → oneGo g seq f k (t.take k) = some t
  | 0, k, hk, hf => by omega
  | f + 1, k, hk, hf => by
    have hgk := hg k hk
    unfold oneGo
    by_cases hlt : k < t.length
    · have e : g k = (imgSct seq t[k]).bytes := by
        unfold txnB at hgk
        rw [List.getElem?_append_left (by simpa using hlt), List.getElem?_map, List.getElem?_eq_getElem hlt] at hgk
        simpa using hgk.symm
      have hm := List.getElem_mem hlt
      obtain ⟨d1, d2⟩ := decOk_bytes (imgSct_ok hs (hok _ hm)) (imgSct_fits (seq := seq) (hft _ hm))
      rw [e, d1, d2, if_neg (by simp [imgSct]), if_neg (by simp [imgSct]), if_neg (by simp [imgSct])]
      have := oneGo_txn hs h1 h2 hok hft hg f (k + 1) hlt (by omega)
      rw [List.take_succ_eq_append_getElem hlt] at this
      exact this
    · obtain rfl : k = t.length := by omega
      have e : g t.length = (comSct seq t.length).bytes := by
        unfold txnB at hgk
        rw [List.getElem?_append_right (by simp)] at hgk
        simpa using hgk.symm
      obtain ⟨d1, d2⟩ := decOk_bytes (comSct_ok (n := t.length) hs) (comSct_fits (seq := seq) h2)
      rw [e, d1, d2, if_neg (by simp [comSct]), if_pos (by simp [comSct]), if_neg (by rintro (h | h | h) <;> first | omega | exact h rfl), List.take_length]
/-- Where a transaction's sectors stand, it is told. -/
theorem oneS_txn {rd : Nat → List Int} {frm count at0 : Nat} {seq : Int} {t : List Img} (hs : IsSeq seq) (ht : TxnOk count t) (hc : count ≤ 65535)
    (hg : ∀ k, k ≤ t.length → (txnB seq t)[k]? = some (rd (frm + (at0 + k) % count))) : oneS rd frm count at0 seq = some t :=
  oneGo_txn hs ht.least (by have := ht.most; omega) ht.ok ht.fits hg count 0 (Nat.zero_le _) (by have := ht.most; omega)
/-- Transactions one behind the other, from a place and a sequence to a place and a sequence. -/
def Laid (rd : Nat → List Int) (frm count : Nat) : Nat → Int → List (List Img) → Nat → Int → Prop
  | at0, seq, [], at1, seq1 => at1 = at0 ∧ seq1 = seq
  | at0, seq, t :: ts, at1, seq1 => oneS rd frm count at0 seq = some t ∧ Laid rd frm count ((at0 + t.length + 1) % count) ((seq + 1) % 4294967296) ts at1 seq1
theorem repGo_laid {rd : Nat → List Int} {frm count : Nat} {at1 : Nat} {seq1 : Int} (hn : oneS rd frm count at1 seq1 = none) :
    ∀ (ts : List (List Img)) (f at0 : Nat) (seq : Int) (acc : List (List Img)), Laid rd frm count at0 seq ts at1 seq1 → ts.length ≤ f → repGo rd frm count f at0 seq acc = (acc ++ ts, at1, seq1)
  | [], f, at0, seq, acc, h, hf => by
    obtain ⟨rfl, rfl⟩ := h
    cases f with
    | zero => simp [repGo]
    | succ f => unfold repGo; rw [hn]; simp
  | t :: ts, 0, at0, seq, acc, h, hf => by simp at hf
  | t :: ts, f + 1, at0, seq, acc, h, hf => by
    unfold repGo
    rw [h.1]
    have := repGo_laid hn ts f _ _ (acc ++ [t]) h.2 (by simpa using hf)
    simpa using this
theorem repS_laid {rd : Nat → List Int} {frm count at0 at1 : Nat} {seq seq1 : Int} {ts : List (List Img)} (h : Laid rd frm count at0 seq ts at1 seq1) (hn : oneS rd frm count at1 seq1 = none) (hf : ts.length ≤ count) :
    repS rd frm count at0 seq = (ts, at1, seq1) := by
  have := repGo_laid hn ts count at0 seq [] h hf
  rw [List.nil_append] at this
  exact this

/-- The sectors of transactions one behind the other. -/
def layB : Int → List (List Img) → List (List Int)
  | _, [] => []
  | seq, t :: ts => txnB seq t ++ layB ((seq + 1) % 4294967296) ts
def seqAt (seq : Int) (n : Nat) : Int := (seq + n) % 4294967296
theorem isSeq_next {seq : Int} : IsSeq ((seq + 1) % 4294967296) := ⟨by omega, by omega⟩
/-- Where they stand, they are laid. -/
theorem laid_of_layB {rd : Nat → List Int} {frm count : Nat} (hc : count ≤ 65535) (h0 : 0 < count) : ∀ (ts : List (List Img)) (at0 : Nat) (seq : Int), IsSeq seq → (∀ t ∈ ts, TxnOk count t) →
    (∀ k, k < (layB seq ts).length → (layB seq ts)[k]? = some (rd (frm + (at0 + k) % count))) → at0 < count → Laid rd frm count at0 seq ts ((at0 + (layB seq ts).length) % count) (seqAt seq ts.length)
  | [], at0, seq, hs, _, _, ha => by
    refine ⟨?_, ?_⟩
    · show (at0 + 0) % count = at0
      rw [Nat.add_zero, Nat.mod_eq_of_lt ha]
    · show (seq + ((0 : Nat) : Int)) % 4294967296 = seq
      have := hs.1; have := hs.2
      omega
  | t :: ts, at0, seq, hs, hok, hg, ha => by
    have hlen : (layB seq (t :: ts)).length = t.length + 1 + (layB ((seq + 1) % 4294967296) ts).length := by
      show (txnB seq t ++ _).length = _
      rw [List.length_append, txnB_length]
    refine ⟨oneS_txn hs (hok t List.mem_cons_self) hc fun k hk => ?_, ?_⟩
    · have := hg k (by rw [hlen]; omega)
      unfold layB at this
      rw [List.getElem?_append_left (by rw [txnB_length]; omega)] at this
      exact this
    · have e := laid_of_layB hc h0 ts ((at0 + t.length + 1) % count) ((seq + 1) % 4294967296) isSeq_next (fun u hu => hok u (List.mem_cons_of_mem _ hu)) (fun k hk => by
        have := hg (t.length + 1 + k) (by rw [hlen]; omega)
        unfold layB at this
        rw [List.getElem?_append_right (by rw [txnB_length]; omega), txnB_length, Nat.add_sub_cancel_left] at this
        rw [this, Nat.mod_add_mod, show at0 + (t.length + 1 + k) = at0 + t.length + 1 + k by omega]) (Nat.mod_lt _ h0)
      rw [Nat.mod_add_mod] at e
      have e2 : at0 + (layB seq (t :: ts)).length = at0 + t.length + 1 + (layB ((seq + 1) % 4294967296) ts).length := by rw [hlen]; omega
      have e3 : seqAt seq (t :: ts).length = seqAt ((seq + 1) % 4294967296) ts.length := by
        unfold seqAt
        rw [List.length_cons]
        omega
      rw [e2, e3]
      exact e
theorem seqAt_zero {seq : Int} (hs : IsSeq seq) : seqAt seq 0 = seq := by
  unfold seqAt
  have := hs.1; have := hs.2
  omega
theorem seqAt_succ (seq : Int) (n : Nat) : seqAt seq (n + 1) = seqAt ((seq + 1) % 4294967296) n := by
  unfold seqAt
  omega
theorem layB_append (us : List (List Img)) : ∀ (ts : List (List Img)) (seq : Int), IsSeq seq → layB seq (ts ++ us) = layB seq ts ++ layB (seqAt seq ts.length) us
  | [], seq, hs => by
    show layB seq us = [] ++ layB (seqAt seq 0) us
    rw [seqAt_zero hs]
    rfl
  | t :: ts, seq, hs => by
    show txnB seq t ++ layB ((seq + 1) % 4294967296) (ts ++ us) = (txnB seq t ++ layB ((seq + 1) % 4294967296) ts) ++ _
    rw [layB_append us ts _ isSeq_next, List.append_assoc, List.length_cons, seqAt_succ]
theorem layB_one (seq : Int) (t : List Img) : layB seq [t] = txnB seq t := by
  show txnB seq t ++ [] = _
  rw [List.append_nil]
end Go.Proofs.YtbdfllamhcodjaaGreat

/- What a disk holds, without a program: sectors, and of each its versions. -/
namespace Go.Proofs.YtbdfllamhcodjaaGreat
open Go.RowKit
set_option linter.unusedVariables false

theorem next_rel {n k : Nat} {C : Nat → Prop} (h : wrap64 ((k : Int) + 1) = (k : Int) + 1) (hk : k < n) (hC : C (k + 1)) : ∃ k' : Nat, k' ≤ n ∧ Value.int .i64 (wrap64 ((k : Int) + 1)) = Value.int .i64 (k' : Int) ∧ C k' :=
  ⟨k + 1, hk, by rw [h]; simp, hC⟩
theorem next_lt {n k : Nat} (h : wrap64 ((k : Int) + 1) = (k : Int) + 1) (hk : k < n) : n - (intOf (Value.int .i64 (wrap64 ((k : Int) + 1)))).toNat < n - (intOf (Value.int .i64 (k : Int))).toNat := by
  rw [h]
  simp only [intOf]
  omega

/-- A sector. -/
structure Sec where
  c : List Value
  vs : List (List Value)

def Sec.Ok (s : Sec) : Prop := IsBlk s.c ∧ ∀ v ∈ s.vs, IsBlk v
/-- What it yields. -/
def Sec.look (s : Sec) : List Value := s.vs.getLast?.getD s.c
/-- One version more; of many those between are dropped. -/
def Sec.add (s : Sec) (b : List Value) : Sec := if 255 < s.vs.length then ⟨s.c, s.vs.set 255 b⟩ else ⟨s.c, s.vs ++ [b]⟩
/-- The k-th version, counted from 1, is what it contains. -/
def Sec.settle (s : Sec) (k : Nat) : Sec := ⟨if k = 0 then s.c else s.vs[k - 1]?.getD s.c, []⟩

theorem Sec.Ok.look {s : Sec} (h : s.Ok) : IsBlk s.look := by
  unfold Sec.look
  cases e : s.vs.getLast? with
  | none => exact h.1
  | some v => exact h.2 v (List.mem_of_getLast? e)
theorem Sec.Ok.add {s : Sec} {b : List Value} (h : s.Ok) (hb : IsBlk b) : (s.add b).Ok := by
  unfold Sec.add
  split
  · exact ⟨h.1, fun v hv => by rcases List.mem_or_eq_of_mem_set hv with h' | rfl; exact h.2 v h'; exact hb⟩
  · exact ⟨h.1, fun v hv => by rcases List.mem_append.1 hv with h' | h'; exact h.2 v h'; rw [List.mem_singleton.1 h']; exact hb⟩
theorem Sec.Ok.settle {s : Sec} {k : Nat} (h : s.Ok) : (s.settle k).Ok := by
  refine ⟨?_, fun v hv => by cases hv⟩
  unfold Sec.settle
  dsimp only
  split
  · exact h.1
  · cases e : s.vs[k - 1]? with
    | none => exact h.1
    | some v => exact h.2 v (List.mem_of_getElem? e)
theorem Sec.look_none {s : Sec} (h : s.vs = []) : s.look = s.c := by simp [Sec.look, h]
theorem Sec.look_some {s : Sec} (h : s.vs ≠ []) : s.look = s.vs[s.vs.length - 1]?.getD s.c := by
  unfold Sec.look
  rw [List.getLast?_eq_getElem?]

theorem flat_get {vs : List (List Value)} (h : ∀ v ∈ vs, IsBlk v) {k : Nat} {v : List Value} (hk : vs[k]? = some v) (j : Nat) (hj : j < 64) : vs.flatten[k * 64 + j]? = v[j]? := by
  induction vs generalizing k with
  | nil => simp at hk
  | cons x l ih =>
    have hx := (h x (by simp)).length
    cases k with
    | zero =>
      obtain rfl : x = v := by simpa using hk
      rw [List.flatten_cons, List.getElem?_append_left (by omega)]
      simp
    | succ k =>
      rw [List.flatten_cons, List.getElem?_append_right (by omega), hx, show (k + 1) * 64 + j - 64 = k * 64 + j by omega]
      exact ih (fun v hv => h v (by simp [hv])) (by simpa using hk)
/-- Another one at i. -/
def upd {α : Type} (D : Nat → α) (i : Nat) (s : α) : Nat → α := fun j => if j = i then s else D j
theorem upd_same {α : Type} (D : Nat → α) (i : Nat) (s : α) : upd D i s i = s := if_pos rfl
theorem upd_other {α : Type} (D : Nat → α) {i j : Nat} (s : α) (h : j ≠ i) : upd D i s j = D j := if_neg h
end Go.Proofs.YtbdfllamhcodjaaGreat

/- A sector of the package disk in memory; what its methods come to. -/
namespace Go.Proofs.YtbdfllamhcodjaaGreat
open Go.RowKit
set_option linter.unusedVariables false
attribute [-simp] Tryz.isAgg60 Tryz.zeroValue60
attribute [-go_sem] loadVar storeVar
attribute [local go_sem] zero_blk build_blk loadVar_open storeVar_open

/-- The sector s at offset o of block sb; its versions' slice is v, made at or beyond N. -/
structure SecAt (w : World) (N sb o : Nat) (s : Sec) (v : Value) : Prop where
  ok : s.Ok
  cont : w.rangeAt sb o s.c
  ver : w.cell? ⟨sb, o + 64, none⟩ = some v
  there : w.there sb o 65
  row : w.ownsRow N 60 64 v s.vs.length s.vs.flatten
  apart : v.ownBlock ≠ some sb

theorem SecAt.lt {w : World} {N sb o : Nat} {s : Sec} {v : Value} (h : SecAt w N sb o s v) : sb < w.heap.size := World.block_lt_of_cell? w _ h.ver

theorem SecAt.form {w : World} {N sb o : Nat} {s : Sec} {v : Value} (h : SecAt w N sb o s v) : ∃ a cap, v = .slice a s.vs.length cap ∧ s.vs.length ≤ cap ∧ cap ≤ maxLen ∧ (s.vs ≠ [] → ∃ g, a = some ⟨g, 0, none⟩ ∧ g ≠ sb ∧ g < w.heap.size ∧ N ≤ g ∧ ∀ k u, s.vs[k]? = some u → w.rangeAt g (k * 64) u) := by
  have hap := h.apart
  rcases h.row.2 with ⟨rfl, h0⟩ | ⟨g, cap, cur, rfl, h1, h2, h3, h4, h5, h6⟩
  · exact ⟨none, 0, by rw [h0], by omega, by simp [maxLen], fun hn => absurd (List.eq_nil_of_length_eq_zero h0) hn⟩
  · refine ⟨some ⟨g, 0, none⟩, cap, rfl, h3, h4, fun _ => ⟨g, rfl, fun e => hap (by rw [e]; rfl), (Array.getElem?_eq_some_iff.1 h2).1, h1, fun k u hu j x hx => ?_⟩⟩
    have hk : k < s.vs.length := (List.getElem?_eq_some_iff.1 hu).1
    have hj : j < 64 := by have := (List.getElem?_eq_some_iff.1 hx).1; rw [(h.ok.2 u (List.mem_of_getElem? hu)).length] at this; exact this
    have hf := flat_get h.ok.2 hu j hj
    rw [cell_of_row _ _ _ _ _ _ h2, ← Array.getElem?_toList]
    rw [← h6, List.getElem?_take, if_pos (by omega)] at hf
    rw [hf, hx]

set_option maxRecDepth 100000 in
set_option maxHeartbeats 1000000 in
theorem yields_at (N sb o : Nat) (s : Sec) (v : Value) (w : World) (h : SecAt w N sb o s v) :
    Calls Tryz.prog 130 #[.pointer (some ⟨sb, o, none⟩)] w fun e w' => e = .returned (.agg s.look.toArray) ∧ Below w.heap.size w w' := by
  obtain ⟨a, cap, rfl, hcap, hmax, hv⟩ := h.form
  obtain ⟨W, hW⟩ : ∃ W, w.alloc (.cells zarr 60) = W := ⟨_, rfl⟩
  have hsz : w.heap.size < W.heap.size := by rw [← hW]; simp
  have c1 : W.cell? ⟨sb, o + 64, none⟩ = some (.slice a s.vs.length cap) := by rw [← hW, World.cell?_alloc_lt _ _ _ h.lt]; exact h.ver
  have hB : Below w.heap.size w (w.alloc (.cells s.look.toArray 60)) := (Below.refl _ w).alloc (Nat.le_refl _) _
  have hok := h.ok.look
  by_cases hn : s.vs = []
  · have hl : s.look = s.c := Sec.look_none hn
    rw [hl] at hB hok ⊢
    have h0 : s.vs.length = 0 := by rw [hn]; rfl
    have L : (loadVar 60 ⟨sb, o, none⟩).run Tryz.prog W = .ok (.agg s.c.toArray) W := by rw [← hW]; exact load_blk (World.rangeAt_alloc h.cont _) h.ok.1.length
    have S : (storeVar 60 ⟨w.heap.size, 0, none⟩ (.agg s.c.toArray)).run Tryz.prog W = .ok () (w.alloc (.cells s.c.toArray 60)) := by rw [← hW]; exact store_new zarr_size h.ok.1
    have R : (loadVar 60 ⟨w.heap.size, 0, none⟩).run Tryz.prog (w.alloc (.cells s.c.toArray 60)) = .ok (.agg s.c.toArray) (w.alloc (.cells s.c.toArray 60)) := load_new (by simpa using h.ok.1.length)
    have HB := Lib.hid hB
    rw [h0] at c1
    clear hB hok hl hn h0 hv h hsz hcap hmax
    go_enter Tryz.func130, Tryz.ntmps130
    go_wp2_with (with_reducible (rw [hW]; clear hW))
    refine bodyPost_ret (results_cell rfl rfl R) rfl ⟨rfl, HB.out⟩
  · obtain ⟨g, rfl, hg1, hg2, hg3, hv⟩ := hv hn
    obtain ⟨m, hm⟩ : ∃ m, s.vs.length = m + 1 := ⟨s.vs.length - 1, by have := List.length_pos_iff.2 hn; omega⟩
    have hu : s.vs[m]? = some s.look := by
      have := Sec.look_some hn
      rw [hm, Nat.add_sub_cancel] at this
      rw [List.getElem?_eq_getElem (by omega)] at this ⊢
      rw [this]; rfl
    have hr := hv m _ hu
    obtain ⟨u, hul⟩ : ∃ u, s.look = u := ⟨_, rfl⟩
    rw [hul] at hr hB hok hu ⊢
    have L : (loadVar 60 ⟨g, m * 64, none⟩).run Tryz.prog W.drew = .ok (.agg u.toArray) W.drew := by rw [← hW]; exact load_blk (by simpa using World.rangeAt_alloc hr _) hok.length
    have S : (storeVar 60 ⟨w.heap.size, 0, none⟩ (.agg u.toArray)).run Tryz.prog W.drew = .ok () (w.alloc (.cells u.toArray 60)).drew := by rw [← hW]; exact store_new (w := w.drew) zarr_size hok
    have R : (loadVar 60 ⟨w.heap.size, 0, none⟩).run Tryz.prog (w.alloc (.cells u.toArray 60)).drew = .ok (.agg u.toArray) (w.alloc (.cells u.toArray 60)).drew := load_new (w := w.drew) (by simpa using hok.length)
    have HB := Lib.hid hB
    have hmx : Tryz.prog.follows .mixedOrders = true := by kernel_rfl
    rw [hm] at c1 hcap
    have HM1 : Hid (m + 1 ≤ maxLen) := by show _ ≤ _; omega
    clear hB hok hul hn hm hu hr hv h hsz hg1 hg2 hg3 hcap hmax
    go_enter Tryz.func130, Tryz.ntmps130
    go_wp2_with (with_reducible (rw [hW]; clear hW))
    have hm1 : (m : Int) + 1 ≤ 9223372036854775807 := by have := HM1.out; unfold maxLen at this; omega
    refine region_plan (fun x => x = W.drew) 12 (.takes [0, 1, 2, 3, 4, 5, 6, 7, 8, 9, 10, 11] .leaf) hmx (by kernel_rfl) (by intro c x v a w h; cases x <;> exact h) rfl ?_
    repeat (rw [wpPlan_takes_cons]; simp only [nth_zero, nth_succ]; go_big_quiet_step (fail); refine wpQuiet_nil ?_)
    rw [wpPlan_takes_nil, wpPlan_leaf]
    simp only [List.drop_succ_cons, List.drop_zero]
    go_wp2_with fail
    refine bodyPost_ret (results_cell rfl rfl R) rfl ⟨rfl, HB.out.drew⟩
end Go.Proofs.YtbdfllamhcodjaaGreat

/- What a method of a sector may turn: the sector's own cells, its versions' own block, and what is new. -/
namespace Go.Proofs.YtbdfllamhcodjaaGreat
open Go.RowKit
set_option linter.unusedVariables false

theorem keepsOthers_setCells (b : Nat) : ∀ (vs : List Value) (o : Nat) (w : World), KeepsOthers w (w.setCells b o vs)
  | [], _, w => KeepsOthers.refl w
  | v :: r, o, w => (KeepsOthers.setCell w _ v).trans (keepsOthers_setCells b r (o + 1) _)
theorem below_setCells {N b : Nat} (h : N ≤ b) : ∀ (vs : List Value) (o : Nat) (w : World), Below N w (w.setCells b o vs)
  | [], _, w => Below.refl N w
  | v :: r, o, w => ((Below.refl N w).setCell (p := ⟨b, o, none⟩) h v).trans (below_setCells h r (o + 1) _)
theorem size_setCells (b : Nat) : ∀ (vs : List Value) (o : Nat) (w : World), (w.setCells b o vs).heap.size = w.heap.size
  | [], _, w => rfl
  | v :: r, o, w => (size_setCells b r (o + 1) _).trans (by simp [World.setCell])

theorem grown_setCell (w : World) (p : Addr) (v : Value) : w.grownBy (w.setCell p v) (some p.block) :=
  ⟨rfl, rfl, rfl, by simp [World.setCell], fun k _ hne => Below.heap_setCell _ _ _ k (fun e => hne (by rw [e]))⟩
theorem size_setCell (w : World) (p : Addr) (v : Value) : (w.setCell p v).heap.size = w.heap.size := by simp [World.setCell]

theorem still_trans {a b c : World} (h : b.os = a.os ∧ b.tape = a.tape ∧ b.output = a.output) (k : c.os = b.os ∧ c.tape = b.tape ∧ c.output = b.output) : c.os = a.os ∧ c.tape = a.tape ∧ c.output = a.output :=
  ⟨k.1.trans h.1, k.2.1.trans h.2.1, k.2.2.trans h.2.2⟩
theorem still_setCells (b : Nat) (vs : List Value) (o : Nat) (w : World) : (w.setCells b o vs).os = w.os ∧ (w.setCells b o vs).tape = w.tape ∧ (w.setCells b o vs).output = w.output := by
  have := below_setCells (Nat.zero_le b) vs o w
  exact ⟨this.os, this.tape, this.output⟩

/-- From w to w' no more has turned than 65 cells of block sb from o on, the block of v, and what was not there. -/
structure Step (w w' : World) (sb o : Nat) (v : Value) : Prop where
  still : w'.os = w.os ∧ w'.tape = w.tape ∧ w'.output = w.output
  others : KeepsOthers w w'
  blocks : ∀ k, k < w.heap.size → k ≠ sb → some k ≠ v.ownBlock → w'.heap[k]? = w.heap[k]?
  cells : ∀ j, j < o ∨ o + 65 ≤ j → w'.cell? ⟨sb, j, none⟩ = w.cell? ⟨sb, j, none⟩
  there : ∀ i m, w.there sb i m → w'.there sb i m

theorem Step.size {w w' : World} {sb o : Nat} {v : Value} (h : Step w w' sb o v) : w.heap.size ≤ w'.heap.size := h.others.size
theorem Step.refl (w : World) (sb o : Nat) (v : Value) : Step w w sb o v := ⟨⟨rfl, rfl, rfl⟩, KeepsOthers.refl w, fun _ _ _ _ => rfl, fun _ _ => rfl, fun _ _ h => h⟩
theorem Step.trans {a b c : World} {sb o : Nat} {v : Value} (h : Step a b sb o v) (k : Step b c sb o v) : Step a c sb o v :=
  ⟨still_trans h.still k.still, h.others.trans k.others, fun i hi h1 h2 => (k.blocks i (Nat.lt_of_lt_of_le hi h.size) h1 h2).trans (h.blocks i hi h1 h2), fun j hj => (k.cells j hj).trans (h.cells j hj), fun i m ht => k.there i m (h.there i m ht)⟩
theorem Step.drew {a b : World} {sb o : Nat} {v : Value} (h : Step a b sb o v) : Step a b.drew sb o v := ⟨h.still, h.others.trans (KeepsOthers.drew b), h.blocks, h.cells, h.there⟩
theorem Step.alloc {a b : World} {sb o : Nat} {v : Value} (h : Step a b sb o v) (hsb : sb < b.heap.size) (ob : Obj) : Step a (b.alloc ob) sb o v :=
  h.trans ⟨⟨rfl, rfl, rfl⟩, KeepsOthers.alloc b ob, fun k hk _ _ => Below.heap_alloc b ob k hk, fun j _ => World.cell?_alloc_lt _ _ _ hsb, fun i m ht => World.there_alloc ht ob⟩
theorem Step.setCell {a b : World} {sb o j : Nat} {v : Value} (h : Step a b sb o v) (h1 : o ≤ j) (h2 : j < o + 65) (hs : (b.cell? ⟨sb, j, none⟩).isSome = true) (u : Value) : Step a (b.setCell ⟨sb, j, none⟩ u) sb o v :=
  h.trans ⟨⟨rfl, rfl, rfl⟩, KeepsOthers.setCell b _ u, fun k hk hne _ => Below.heap_setCell _ _ _ k (fun e => hne e), fun i hi => World.cell?_setCell_other b _ _ u (fun e => by cases e; omega), fun i m ht => World.there_setCells ht sb j [u]⟩
theorem Step.setCells {a b : World} {sb o : Nat} {v : Value} {c : List Value} (h : Step a b sb o v) (hsb : sb < b.heap.size) (hl : c.length = 64) : Step a (b.setCells sb o c) sb o v :=
  h.trans ⟨still_setCells sb c o b, keepsOthers_setCells sb c o b, fun k hk hne _ => World.heap_setCells_other b sb o c hk hne, fun i hi => World.cell?_setCells_out sb c o b _ (fun _ _ => by rw [hl]; show i < o ∨ o + 64 ≤ i; omega), fun i m ht => World.there_setCells ht sb o c⟩
theorem Step.grown {a b c : World} {sb o : Nat} {v : Value} (h : Step a b sb o v) (hg : b.grownBy c v.ownBlock) (hsb : sb < b.heap.size) (hne : v.ownBlock ≠ some sb) (hv : ∀ j ob, v.ownBlock = some j → b.heap[j]? = some ob → ob.isCells = true) : Step a c sb o v := by
  have hb : c.heap[sb]? = b.heap[sb]? := hg.block sb hsb (fun e => hne e.symm)
  exact h.trans ⟨⟨hg.os, hg.tape, hg.output⟩, KeepsOthers.of_grownBy hg hv, fun k hk _ h2 => hg.block k hk h2, fun i _ => World.cell?_of_block (a := ⟨sb, i, none⟩) hb,
    fun i m ht j hj => by rw [World.cell?_of_block (a := ⟨sb, i + j, none⟩) hb, World.frozen?_of_block (a := ⟨sb, i + j, none⟩) hb]; exact ht j hj⟩
theorem ownBlock_cells {w : World} {N e size n : Nat} {v : Value} {xs : List Value} (h : w.ownsRow N e size v n xs) : ∀ j ob, v.ownBlock = some j → w.heap[j]? = some ob → ob.isCells = true := by
  intro j ob hj hb
  rcases h.2 with ⟨rfl, _⟩ | ⟨g, cap, cur, rfl, _, h2, _⟩
  · simp [Value.ownBlock] at hj
  · obtain rfl : g = j := by simpa [Value.ownBlock] using hj
    rw [h2] at hb
    cases hb
    rfl

attribute [-simp] Tryz.isAgg60 Tryz.zeroValue60
attribute [-go_sem] loadVar storeVar
attribute [local go_sem] zero_blk build_blk loadVar_open storeVar_open

set_option maxRecDepth 100000 in
set_option maxHeartbeats 1000000 in
theorem settle_zero (N sb o : Nat) (s : Sec) (v : Value) (w : World) (h : SecAt w N sb o s v) :
    Calls Tryz.prog 114 #[.pointer (some ⟨sb, o, none⟩), .int .i64 0] w fun e w' => e = .returned (.tuple #[]) ∧ SecAt w' N sb o (s.settle 0) (.slice none 0 0) ∧ Step w w' sb o v := by
  have c1 := h.ver
  have f1 : w.frozen? ⟨sb, o + 64, none⟩ = false := (h.there 64 (by omega)).2
  have HH := Lib.hid h
  clear h
  go_enter Tryz.func114, Tryz.ntmps114
  go_wp2_with fail
  go_end0
  have h := HH.out
  have hst : Step w (w.setCell ⟨sb, o + 64, none⟩ (.slice none 0 0)) sb o v := (Step.refl w sb o v).setCell (by omega) (by omega) (by rw [h.ver]; rfl) _
  refine ⟨rfl, ⟨h.ok.settle, ?_, World.cell?_setCell_same' _ _ _ (by rw [h.ver]; rfl), hst.there _ _ h.there, World.ownsRow_nil _ _ _ _, by simp [Value.ownBlock]⟩, hst⟩
  exact World.rangeAt_setCells_apart h.cont sb (o + 64) [.slice none 0 0] (by rw [h.ok.1.length]; omega)

set_option maxRecDepth 100000 in
set_option maxHeartbeats 1000000 in
theorem settle_some (N sb o m : Nat) (s : Sec) (v : Value) (w : World) (h : SecAt w N sb o s v) (hm : m < s.vs.length) :
    Calls Tryz.prog 114 #[.pointer (some ⟨sb, o, none⟩), .int .i64 ((m : Int) + 1)] w fun e w' => e = .returned (.tuple #[]) ∧ SecAt w' N sb o (s.settle (m + 1)) (.slice none 0 0) ∧ Step w w' sb o v := by
  have hn : s.vs ≠ [] := fun e => by rw [e] at hm; simp at hm
  have hsb := h.lt
  obtain ⟨a, cap, rfl, hcap, hmax, hv⟩ := h.form
  obtain ⟨g, rfl, hg1, hg2, hg3, hv⟩ := hv hn
  obtain ⟨u, hu⟩ : ∃ u, s.vs[m]? = some u := ⟨_, List.getElem?_eq_getElem hm⟩
  have hub := h.ok.2 u (List.mem_of_getElem? hu)
  have c1 := h.ver
  have L : (loadVar 60 ⟨g, m * 64, none⟩).run Tryz.prog w = .ok (.agg u.toArray) w := load_blk (hv m u hu) hub.length
  obtain ⟨W, hW⟩ : ∃ W, w.setCells sb o u = W := ⟨_, rfl⟩
  have S : (storeVar 60 ⟨sb, o, none⟩ (.agg u.toArray)).run Tryz.prog w = .ok () W := by rw [← hW]; exact store_blk (fun j hj => h.there j (by omega)) hub
  have hst0 : Step w W sb o (.slice (some ⟨g, 0, none⟩) s.vs.length cap) := by rw [← hW]; exact (Step.refl w sb o _).setCells hsb hub.length
  have c2 : W.cell? ⟨sb, o + 64, none⟩ = some (.slice (some ⟨g, 0, none⟩) s.vs.length cap) := by
    rw [← hW, World.cell?_setCells_out sb u o w _ (fun _ _ => by rw [hub.length]; exact .inr (Nat.le_refl _))]; exact h.ver
  have f2 : W.frozen? ⟨sb, o + 64, none⟩ = false := (hst0.there _ _ h.there 64 (by omega)).2
  have r2 : W.rangeAt sb o u := by rw [← hW]; exact World.rangeAt_setCells_same w sb o u (fun j hj => h.there j (by rw [hub.length] at hj; omega))
  have e1 : (s.settle (m + 1)).c = u := by simp [Sec.settle, hu]
  have g1 : decide (0 < (m : Int) + 1) = true := by simp
  have g2 : (m : Int) < (s.vs.length : Int) := by omega
  obtain ⟨n, hnn⟩ : ∃ n, s.vs.length = n := ⟨_, rfl⟩
  have HM : Hid ((m : Int) ≤ (maxLen : Int)) := by show _ ≤ _; omega
  have HH := Lib.hid h
  have H0 := Lib.hid hst0
  have HE := Lib.hid e1
  have HR := Lib.hid r2
  have HU := Lib.hid hub
  have hm1 : wrap64 (m : Int) = (m : Int) := by
    have := HM.out
    unfold maxLen at this
    have e := IntKind.wrap_i64 (m : Int)
    show wrap64 _ = _
    unfold wrap64; omega
  have HNN := Lib.hid hnn
  rw [hnn] at c1 c2 g2
  clear h hst0 e1 r2 hub hm hn hu hv hcap hmax hW hnn hg1 hg2 hg3 hsb
  go_enter Tryz.func114, Tryz.ntmps114
  go_wp2_with fail
  go_end0
  have h := HH.out
  have hst : Step w (W.setCell ⟨sb, o + 64, none⟩ (.slice none 0 0)) sb o _ := H0.out.setCell (by omega) (by omega) (by rw [c2]; rfl) _
  refine ⟨rfl, ⟨h.ok.settle, ?_, World.cell?_setCell_same' _ _ _ (by rw [c2]; rfl), hst.there _ _ h.there, World.ownsRow_nil _ _ _ _, by simp [Value.ownBlock]⟩, by rw [HNN.out] at hst ⊢; exact hst⟩
  rw [HE.out]
  exact World.rangeAt_setCells_apart HR.out sb (o + 64) [.slice none 0 0] (by rw [HU.out.length]; omega)

set_option maxRecDepth 100000 in
/-- **settle**. -/
theorem settle_at (N sb o k : Nat) (s : Sec) (v : Value) (w : World) (h : SecAt w N sb o s v) (hk : k ≤ s.vs.length) :
    Calls Tryz.prog 114 #[.pointer (some ⟨sb, o, none⟩), .int .i64 (k : Int)] w fun e w' => e = .returned (.tuple #[]) ∧ SecAt w' N sb o (s.settle k) (.slice none 0 0) ∧ Step w w' sb o v := by
  cases k with
  | zero => exact settle_zero N sb o s v w h
  | succ m => exact settle_some N sb o m s v w h hk
end Go.Proofs.YtbdfllamhcodjaaGreat

/- Cells laid one by one; no program. -/
namespace Go.Proofs.YtbdfllamhcodjaaGreat
open Go.RowKit
set_option linter.unusedVariables false

theorem laid_get (l : List Value) : ∀ (k : Nat) (A : Array Value) (i : Nat), k + l.length ≤ A.size → ((l.zipIdx k).foldl (fun cs (x : Value × Nat) => cs.setIfInBounds (0 + x.2) x.1) A)[i]? = if k ≤ i ∧ i < k + l.length then l[i - k]? else A[i]? := by
  induction l with
  | nil => intro k A i h; simp; omega
  | cons x l ih =>
    intro k A i h
    rw [List.length_cons] at h
    rw [List.zipIdx_cons, List.foldl_cons, ih _ _ _ (by simp; omega)]
    simp only [Nat.zero_add, List.length_cons]
    by_cases h1 : i = k
    · subst h1
      rw [if_neg (by omega), if_pos (by omega), Nat.sub_self]
      simp [show i < A.size by omega]
    · by_cases h2 : k + 1 ≤ i ∧ i < k + 1 + l.length
      · rw [if_pos h2, if_pos (by omega), show i - k = (i - (k + 1)) + 1 by omega, List.getElem?_cons_succ]
      · rw [if_neg h2, if_neg (by omega), Array.getElem?_setIfInBounds_ne (by omega)]
theorem laid_all (l : List Value) (A : Array Value) (h : l.length = A.size) : (l.zipIdx.foldl (fun cs (x : Value × Nat) => cs.setIfInBounds (0 + x.2) x.1) A) = l.toArray := by
  apply Array.ext_getElem?
  intro i
  rw [laid_get l 0 A i (by omega)]
  split
  · simp
  · rw [Array.getElem?_eq_none (by omega)]; simp; omega

end Go.Proofs.YtbdfllamhcodjaaGreat

/- Slices of blocks. -/
namespace Go.Proofs.YtbdfllamhcodjaaGreat
open Go.RowKit
set_option linter.unusedVariables false

set_option maxRecDepth 100000 in
/-- A slice of one block. -/
theorem slice_one (w : World) (b : List Value) (h : b.length = 64) : (Instr.buildSlice 69 1 #[(0, .agg b.toArray)]).run Tryz.prog w = .ok (.slice (some ⟨w.heap.size, 0, none⟩) 1 1) (w.alloc (.cells b.toArray 60)) := by
  have e : (b.zipIdx.foldl (fun cs (x : Value × Nat) => cs.setIfInBounds (0 + x.2) x.1) ((Array.range 64).map (zarr[· % zarr.size]!))) = b.toArray := laid_all b _ (by simp [h])
  have e2 : b.toArray.zipIdx.foldl (fun cs (x : Value × Nat) => cs.setIfInBounds (0 + x.2) x.1) ((Array.range 64).map (zarr[· % zarr.size]!)) = b.toArray := by
    rw [← Array.foldl_toList, Array.toList_zipIdx]
    exact e
  obtain ⟨i0, hi, hz0, hz1, hz2⟩ := info_parts info_blk
  refine run_buildSlice (P := Tryz.prog) w 69 60 1 _ b.toArray i0 (.agg zarr) (by kernel_rfl) hi hz0 (by rw [hz1]; decide) (by rw [hz1]; decide) ?_
  rw [hz1]
  show Instr.fill _ _ [(0, Value.agg b.toArray)] = _
  simp only [Instr.fill]
  rw [if_neg (by simp [Value.cells, h])]
  congr 1

end Go.Proofs.YtbdfllamhcodjaaGreat

/- A version is added. -/
namespace Go.Proofs.YtbdfllamhcodjaaGreat
open Go.RowKit
set_option linter.unusedVariables false
attribute [-simp] Tryz.isAgg60 Tryz.zeroValue60
attribute [-go_sem] loadVar storeVar
attribute [local go_sem] zero_blk build_blk loadVar_open storeVar_open

set_option maxRecDepth 100000 in
theorem info_blk3 : (Tryz.prog.info? 60).map (fun i => (i.zero, i.size, i.bytes)) = some (some (.agg zarr), 64, 64) := info_blk

set_option maxRecDepth 100000 in
/-- A block appended to versions. -/
theorem append_blk (N : Nat) (w : World) (v : Value) (vs : List (List Value)) (b : List Value) (B : Nat) (hown : w.ownsRow N 60 64 v vs.length vs.flatten) (hb : IsBlk b) (hB : w.rangeAt B 0 b) (hlen : vs.length ≤ 1000000) (hN : N ≤ w.heap.size) :
    ∃ v' w', (Builtin.append_ #[69, 69] 69 #[v, .slice (some ⟨B, 0, none⟩) 1 1]).run Tryz.prog w = .ok v' w' ∧ w'.ownsRow N 60 64 v' (vs ++ [b]).length (vs ++ [b]).flatten ∧ w.grownBy w' v.ownBlock ∧ (v'.ownBlock = v.ownBlock ∨ v'.ownBlock = some w.heap.size) := by
  obtain ⟨i0, hi, hz0, hz1, hz2⟩ := info_parts info_blk3
  obtain ⟨v', w', hr, h1, h2, _, h3⟩ := run_append_own_at (P := Tryz.prog) w N 69 69 60 i0 (.agg zarr) 64 64 Tryz.underlying69 hi hz0 hz1 hz2 zarr_size (by omega) v vs.length vs.flatten hown
    ⟨B, 0, none⟩ 1 1 b (by rw [hb.length]) (fun j u hj => by have := hB j u hj; rwa [Addr.add_mid]) hb.one (by unfold maxLen; omega) (by omega) hN
  exact ⟨v', w', hr, by simpa using h1, h2, h3⟩

/-- What the statement reads: the versions' slice, and the block that was handed in. -/
def AddC (sb o B : Nat) (v : Value) (b : List Value) : Type := {x : World // x.cell? ⟨sb, o + 64, none⟩ = some v ∧ x.rangeAt B 0 b}

set_option maxRecDepth 100000 in
set_option maxHeartbeats 1000000 in
theorem add_few (N sb o : Nat) (s : Sec) (v : Value) (b : List Value) (w : World) (h : SecAt w N sb o s v) (hb : IsBlk b) (hN : N ≤ w.heap.size) (hk : ¬ 255 < s.vs.length) :
    Calls Tryz.prog 118 #[.pointer (some ⟨sb, o, none⟩), .agg b.toArray] w fun e w' => e = .returned (.tuple #[]) ∧ ∃ v', SecAt w' N sb o (s.add b) v' ∧ Step w w' sb o v ∧ (v'.ownBlock = v.ownBlock ∨ ∃ k, v'.ownBlock = some k ∧ w.heap.size ≤ k) := by
  have hsb := h.lt
  have hf := h.form
  have hown := h.row
  obtain ⟨W, hW⟩ : ∃ W, w.alloc (.cells b.toArray 60) = W := ⟨_, rfl⟩
  have hsz : W.heap.size = w.heap.size + 1 := by rw [← hW]; simp
  have hst : Step w W sb o v := by rw [← hW]; exact (Step.refl w sb o v).alloc hsb _
  have c1 : W.cell? ⟨sb, o + 64, none⟩ = some v := by rw [← hW, World.cell?_alloc_lt _ _ _ hsb]; exact h.ver
  have r1 : W.rangeAt w.heap.size 0 b := by
    rw [← hW]; intro j x hx
    rw [cell_of_row _ _ _ _ _ _ (heap_alloc_new w _)]; simpa using hx
  have hown1 : W.ownsRow N 60 64 v s.vs.length s.vs.flatten := by rw [← hW]; exact hown.alloc _
  -- behind the slice of one
  obtain ⟨W2, hW2⟩ : ∃ W2, W.drew.alloc (.cells b.toArray 60) = W2 := ⟨_, rfl⟩
  have hsb1 : sb < W.heap.size := by omega
  have hsz2 : W2.heap.size = W.heap.size + 1 := by rw [← hW2]; simp
  have hst2 : Step w W2 sb o v := by rw [← hW2]; exact hst.drew.alloc hsb1 _
  have c2 : W2.cell? ⟨sb, o + 64, none⟩ = some v := by rw [← hW2, World.cell?_alloc_lt _ _ _ hsb1]; exact c1
  have r2 : W2.rangeAt w.heap.size 0 b := by rw [← hW2]; exact World.rangeAt_alloc (by simpa using r1) _
  have r3 : W2.rangeAt W.heap.size 0 b := by
    rw [← hW2]; intro j x hx
    have := cell_of_row _ _ (0 + j) _ _ _ (heap_alloc_new W.drew (.cells b.toArray 60))
    exact this.trans (by simpa using hx)
  have hown2 : W2.ownsRow N 60 64 v s.vs.length s.vs.flatten := by rw [← hW2]; exact hown1.drew.alloc _
  obtain ⟨v', w3, hrun, ho3, hg3, hb3⟩ := append_blk N W2 v s.vs b W.heap.size hown2 hb r3 (by omega) (by omega)
  have hap : v.ownBlock ≠ some sb := h.apart
  have hst3 : Step w w3 sb o v := hst2.grown hg3 (by omega) hap (ownBlock_cells hown2)
  have c3 : w3.cell? ⟨sb, o + 64, none⟩ = some v := hg3.cell c2 (fun e => hap e.symm)
  have f3 : w3.frozen? ⟨sb, o + 64, none⟩ = false := (hst3.there _ _ h.there 64 (by omega)).2
  have r4 : w3.rangeAt w.heap.size 0 b := fun j x hx => hg3.cell (r2 j x hx) (fun e => by have := (hown.lt _ e.symm).2; simp at this)
  have hv'sb : v'.ownBlock ≠ some sb := by rcases hb3 with e | e <;> rw [e]; exact hap; simp; omega
  -- behind the store
  have hst4 : Step w (w3.setCell ⟨sb, o + 64, none⟩ v') sb o v := hst3.setCell (by omega) (by omega) (by rw [c3]; rfl) v'
  have hc4 : w3.rangeAt sb o s.c := fun j x hx => by
    have hj : j < 64 := by have := (List.getElem?_eq_some_iff.1 hx).1; rw [h.ok.1.length] at this; exact this
    have e1 : W.cell? ⟨sb, o + j, none⟩ = some x := by rw [← hW, World.cell?_alloc_lt _ _ _ hsb]; exact h.cont j x hx
    have e2 : W2.cell? ⟨sb, o + j, none⟩ = some x := by rw [← hW2, World.cell?_alloc_lt _ _ _ hsb1]; exact e1
    exact hg3.cell e2 (fun e => hap e.symm)
  have hadd : s.add b = ⟨s.c, s.vs ++ [b]⟩ := by unfold Sec.add; rw [if_neg hk]
  have hfin : SecAt (w3.setCell ⟨sb, o + 64, none⟩ v') N sb o (s.add b) v' := by
    refine ⟨h.ok.add hb, ?_, World.cell?_setCell_same' _ _ _ (by rw [c3]; rfl), hst4.there _ _ h.there, ?_, hv'sb⟩
    · rw [hadd]; exact World.rangeAt_setCells_apart hc4 sb (o + 64) [v'] (by rw [h.ok.1.length]; omega)
    · rw [hadd]
      exact ho3.kept (grown_setCell w3 ⟨sb, o + 64, none⟩ v') (.inr hv'sb)
  have HF := Lib.hid hfin
  have HV : Hid (∃ a' cap', v' = .slice a' (s.add b).vs.length cap') := by obtain ⟨a', cap', e, _⟩ := hfin.form; exact ⟨a', cap', e⟩
  have HB : Hid ((Instr.buildSlice 69 1 #[(0, .agg b.toArray)]).run Tryz.prog W.drew = .ok (.slice (some ⟨W.heap.size, 0, none⟩) 1 1) W2) := by rw [← hW2]; exact slice_one W.drew b hb.length
  have HS := Lib.hid hst4
  have HN : Hid (v'.ownBlock = v.ownBlock ∨ ∃ k, v'.ownBlock = some k ∧ w.heap.size ≤ k) := hb3.imp id fun e => ⟨_, e, by omega⟩
  have HA := Lib.hid hrun
  have hC : ∀ x : AddC sb o w.heap.size v b, x.1.cell? ⟨sb, o + 64, none⟩ = some v := fun x => x.2.1
  have hL : ∀ x : AddC sb o w.heap.size v b, (loadVar 60 ⟨w.heap.size, 0, none⟩).run Tryz.prog x.1 = .ok (.agg b.toArray) x.1 := fun x => load_blk x.2.2 hb.length
  haveI hne : Nonempty (AddC sb o w.heap.size v b) := ⟨⟨W, c1, r1⟩⟩
  have K1 : Hid (∃ y : AddC sb o w.heap.size v b, W.drew = y.1) := ⟨⟨W.drew, c1, by simpa using r1⟩, rfl⟩
  have K2 : Hid (∃ y : AddC sb o w.heap.size v b, W2 = y.1) := ⟨⟨W2, c2, r2⟩, rfl⟩
  have K3 : Hid (∃ y : AddC sb o w.heap.size v b, w3 = y.1) := ⟨⟨w3, c3, r4⟩, rfl⟩
  obtain ⟨a, cap, hva, -, -, -⟩ := hf
  obtain ⟨n, hn⟩ : ∃ n, s.vs.length = n := ⟨_, rfl⟩
  rw [hn] at hva hk
  have g1 : decide ((255 : Int) < (n : Int)) = false := by simp; omega
  subst hva
  have hmx : Tryz.prog.follows .mixedOrders = true := by kernel_rfl
  have HSZ := Lib.hid hsz
  clear h hown hst hown1 hsz2 hst2 hown2 ho3 hg3 hb3 hap hst3 hv'sb hst4 hc4 hadd hfin hrun hn hk c2 r1 r2 r3 r4 hsb hsb1 hsz
  go_enter Tryz.func118, Tryz.ntmps118
  go_wp2_with (with_reducible (rw [hW]; clear hW))
  refine region_plan (fun x => ∃ y : AddC sb o w.heap.size (.slice a n cap) b, x = y.1) 8 (.takes [0, 1, 2, 3, 4, 5] (.one 6 (.one 7 .leaf))) hmx (by kernel_rfl) (by intro c x v a w h; cases x <;> exact h) K1.out ?_
  repeat (rw [wpPlan_takes_cons]; simp only [nth_zero, nth_succ]; go_big_quiet_step (fail); refine wpQuiet_nil ?_)
  rw [wpPlan_takes_nil, wpPlan_one]
  simp only [nth_zero, nth_succ]
  (with_reducible refine gate_build ?_)
  refine wpList_build_run _ _ _ rfl rfl [(0, .agg b.toArray)] _ rfl HB.out ?_
  go_wp2_with fail
  refine planPost_mk K2.out ?_
  rw [wpPlan_one]
  simp only [nth_zero, nth_succ]
  refine wpList_append_run (.tmp 20) (.tmp 22) 69 rfl rfl _ _ _ rfl rfl HA.out ?_
  go_wp2_with fail
  refine planPost_mk K3.out ?_
  rw [wpPlan_leaf]
  simp only [List.drop_succ_cons, List.drop_zero]
  obtain ⟨a', cap', rfl⟩ := HV.out
  go_wp2_with fail
  go_end0
  exact ⟨rfl, _, HF.out, HS.out, HN.out⟩
end Go.Proofs.YtbdfllamhcodjaaGreat

/- A disk in memory; New, Len, has, Read, Write. -/
namespace Go.Proofs.YtbdfllamhcodjaaGreat
open Go.RowKit
set_option linter.unusedVariables false
attribute [-simp] Tryz.isAgg60 Tryz.zeroValue60
attribute [-go_sem] loadVar storeVar
attribute [local go_sem] zero_blk build_blk loadVar_open storeVar_open

/-- The blocks of a disk. -/
def foot (rb sb n : Nat) (sv : Nat → Value) (k : Nat) : Prop := k = rb ∨ k = sb ∨ ∃ i, i < n ∧ (sv i).ownBlock = some k

structure DskAt (w : World) (rb sb n : Nat) (sv : Nat → Value) (D : Nat → Sec) : Prop where
  head : Boxed w rb 181 (.slice (some ⟨sb, 0, none⟩) n n)
  ne : rb ≠ sb
  max : n ≤ 4096
  secs : ∀ i, i < n → SecAt w 0 sb (i * 65) (D i) (sv i)
  far : ∀ i, i < n → (sv i).ownBlock ≠ some rb
  apart : ∀ i j, i < n → j < n → i ≠ j → ∀ k, (sv i).ownBlock = some k → (sv j).ownBlock ≠ some k

/-- A disk at block rb; f: its blocks. -/
def Disk (w : World) (rb n : Nat) (f : Nat → Prop) (D : Nat → Sec) : Prop := ∃ sb sv, DskAt w rb sb n sv D ∧ f = foot rb sb n sv

/-- No more has turned than the blocks f, and what is new; f' is made of f and of what is new. -/
structure Turn (f f' : Nat → Prop) (w w' : World) : Prop where
  still : w'.os = w.os ∧ w'.tape = w.tape ∧ w'.output = w.output
  others : KeepsOthers w w'
  out : ∀ k, k < w.heap.size → ¬ f k → w'.heap[k]? = w.heap[k]?
  new : ∀ k, f' k → f k ∨ w.heap.size ≤ k

theorem Turn.size {f f' : Nat → Prop} {w w' : World} (h : Turn f f' w w') : w.heap.size ≤ w'.heap.size := h.others.size
theorem Turn.refl (f : Nat → Prop) (w : World) : Turn f f w w := ⟨⟨rfl, rfl, rfl⟩, KeepsOthers.refl w, fun _ _ _ => rfl, fun k h => .inl h⟩
theorem Turn.trans {f f' f'' : Nat → Prop} {a b c : World} (h : Turn f f' a b) (k : Turn f' f'' b c) : Turn f f'' a c :=
  ⟨still_trans h.still k.still, h.others.trans k.others, fun i hi hn => (k.out i (Nat.lt_of_lt_of_le hi h.size) (fun hf => (h.new i hf).elim hn (fun h' => absurd h' (Nat.not_le.2 hi)))).trans (h.out i hi hn),
    fun i hi => (k.new i hi).elim (h.new i) (fun h' => .inr (Nat.le_trans h.size h'))⟩

theorem SecAt.kept {w w' : World} {N sb o : Nat} {s : Sec} {v : Value} (h : SecAt w N sb o s v) (h1 : w'.heap[sb]? = w.heap[sb]?) (h2 : ∀ g, v.ownBlock = some g → w'.heap[g]? = w.heap[g]?) : SecAt w' N sb o s v := by
  refine ⟨h.ok, fun j x hx => (World.cell?_of_block (a := ⟨sb, o + j, none⟩) h1).trans (h.cont j x hx), (World.cell?_of_block (a := ⟨sb, o + 64, none⟩) h1).trans h.ver,
    fun j hj => ⟨by rw [World.cell?_of_block (a := ⟨sb, o + j, none⟩) h1]; exact (h.there j hj).1, by rw [World.frozen?_of_block (a := ⟨sb, o + j, none⟩) h1]; exact (h.there j hj).2⟩, ⟨h.row.1, ?_⟩, h.apart⟩
  rcases h.row.2 with h' | ⟨g, cap, cur, rfl, a1, a2, a3⟩
  · exact .inl h'
  · exact .inr ⟨g, cap, cur, rfl, a1, (h2 g rfl).trans a2, a3⟩

theorem DskAt.kept {w w' : World} {rb sb n : Nat} {sv : Nat → Value} {D : Nat → Sec} (h : DskAt w rb sb n sv D) (hk : ∀ k, foot rb sb n sv k → w'.heap[k]? = w.heap[k]?) : DskAt w' rb sb n sv D :=
  ⟨(hk rb (.inl rfl)).trans h.head, h.ne, h.max, fun i hi => (h.secs i hi).kept (hk sb (.inr (.inl rfl))) (fun g hg => hk g (.inr (.inr ⟨i, hi, hg⟩))), h.far, h.apart⟩

theorem DskAt.lt {w : World} {rb sb n : Nat} {sv : Nat → Value} {D : Nat → Sec} (h : DskAt w rb sb n sv D) (hn : 0 < n) {k : Nat} (hk : foot rb sb n sv k) : k < w.heap.size := by
  rcases hk with rfl | rfl | ⟨i, hi, hk⟩
  · exact h.head.lt
  · exact (h.secs 0 hn).lt
  · exact ((h.secs i hi).row.lt k hk).2

theorem DskAt.isCells {w : World} {rb sb n : Nat} {sv : Nat → Value} {D : Nat → Sec} (h : DskAt w rb sb n sv D) (hn : 0 < n) {k : Nat} (hk : foot rb sb n sv k) {ob : Obj} (ho : w.heap[k]? = some ob) : ob.isCells = true := by
  rcases hk with rfl | rfl | ⟨i, hi, hk⟩
  · rw [show w.heap[k]? = _ from h.head] at ho; cases ho; rfl
  · have := (h.secs 0 hn).ver
    obtain ⟨o, h1, h2⟩ := cells_of_cell this
    rw [h1] at ho; cases ho; exact h2
  · exact ownBlock_cells (h.secs i hi).row k ob hk ho

/-- One sector is turned. -/
theorem DskAt.step {w w' : World} {rb sb n i : Nat} {sv : Nat → Value} {D : Nat → Sec} {s' : Sec} {v' : Value} (h : DskAt w rb sb n sv D) (hi : i < n) (hs : Step w w' sb (i * 65) (sv i)) (hs' : SecAt w' 0 sb (i * 65) s' v')
    (hv : v'.ownBlock = none ∨ v'.ownBlock = (sv i).ownBlock ∨ ∃ k, v'.ownBlock = some k ∧ w.heap.size ≤ k) : DskAt w' rb sb n (upd sv i v') (upd D i s') := by
  have hlt : ∀ j, j < n → ∀ k, (sv j).ownBlock = some k → k < w.heap.size := fun j hj k hk => ((h.secs j hj).row.lt k hk).2
  have hfar : ∀ j, j < n → (upd sv i v' j).ownBlock ≠ some rb := fun j hj => by
    by_cases e : j = i
    · subst e
      rw [upd_same]
      rcases hv with e | e | ⟨k, e, hk⟩ <;> rw [e]
      · simp
      · exact h.far j hj
      · have := h.head.lt; simp; omega
    · rw [upd_other _ _ e]; exact h.far j hj
  refine ⟨(hs.blocks rb h.head.lt h.ne (fun e => h.far i hi e.symm)).trans h.head, h.ne, h.max, fun j hj => ?_, hfar, fun a b ha hb hab k hka hkb => ?_⟩
  · by_cases e : j = i
    · subst e; rw [upd_same, upd_same]; exact hs'
    · rw [upd_other _ _ e, upd_other _ _ e]
      have hj' := h.secs j hj
      have hr : j * 65 + 65 ≤ i * 65 ∨ i * 65 + 65 ≤ j * 65 := by omega
      refine ⟨hj'.ok, fun m x hx => ?_, (hs.cells _ (by omega)).trans hj'.ver, hs.there _ _ hj'.there, ⟨hj'.row.1, ?_⟩, hj'.apart⟩
      · have hm : m < 64 := by have := (List.getElem?_eq_some_iff.1 hx).1; rw [hj'.ok.1.length] at this; exact this
        exact (hs.cells _ (by omega)).trans (hj'.cont m x hx)
      · rcases hj'.row.2 with h' | ⟨g, cap, cur, hg, a1, a2, a3⟩
        · exact .inl h'
        · refine .inr ⟨g, cap, cur, hg, a1, ?_, a3⟩
          have hg' : (sv j).ownBlock = some g := by rw [hg]; rfl
          rw [hs.blocks g (hlt j hj g hg') (fun e' => hj'.apart (by rw [hg', e'])) (fun e' => h.apart j i hj hi e g hg' e'.symm)]
          exact a2
  · have key : ∀ j, j < n → j ≠ i → ∀ k, v'.ownBlock = some k → (sv j).ownBlock ≠ some k := fun j hj hji k hk hk' => by
      rcases hv with e | e | ⟨k', e, hk2⟩
      · rw [e] at hk; cases hk
      · rw [e] at hk; exact h.apart j i hj hi hji k hk' hk
      · rw [e] at hk; cases hk; have := hlt j hj _ hk'; omega
    by_cases e1 : a = i
    · by_cases e2 : b = i
      · omega
      · subst e1
        rw [upd_same] at hka
        rw [upd_other _ _ e2] at hkb
        exact key b hb e2 k hka hkb
    · rw [upd_other _ _ e1] at hka
      by_cases e2 : b = i
      · subst e2
        rw [upd_same] at hkb
        exact key a ha e1 k hkb hka
      · rw [upd_other _ _ e2] at hkb
        exact h.apart a b ha hb hab k hka hkb

theorem DskAt.turn {w w' : World} {rb sb n i : Nat} {sv : Nat → Value} {D : Nat → Sec} {v' : Value} (h : DskAt w rb sb n sv D) (hi : i < n) (hs : Step w w' sb (i * 65) (sv i))
    (hv : v'.ownBlock = none ∨ v'.ownBlock = (sv i).ownBlock ∨ ∃ k, v'.ownBlock = some k ∧ w.heap.size ≤ k) : Turn (foot rb sb n sv) (foot rb sb n (upd sv i v')) w w' := by
  refine ⟨hs.still, hs.others, fun k hk hn => hs.blocks k hk (fun e => hn (.inr (.inl e))) (fun e => hn (.inr (.inr ⟨i, hi, e.symm⟩))), fun k hk => ?_⟩
  rcases hk with rfl | rfl | ⟨j, hj, hk⟩
  · exact .inl (.inl rfl)
  · exact .inl (.inr (.inl rfl))
  · by_cases e : j = i
    · subst e
      rw [upd_same] at hk
      rcases hv with e | e | ⟨k', e, hk2⟩
      · rw [e] at hk; cases hk
      · rw [e] at hk; exact .inl (.inr (.inr ⟨j, hj, hk⟩))
      · rw [e] at hk; cases hk; exact .inr hk2
    · rw [upd_other _ _ e] at hk
      exact .inl (.inr (.inr ⟨j, hj, hk⟩))

/-- What turns elsewhere does not touch it. -/
theorem Disk.out {w w' : World} {rb n : Nat} {f : Nat → Prop} {D : Nat → Sec} (h : Disk w rb n f D) (hk : ∀ k, f k → w'.heap[k]? = w.heap[k]?) : Disk w' rb n f D := by
  obtain ⟨sb, sv, h, rfl⟩ := h
  exact ⟨sb, sv, h.kept hk, rfl⟩
theorem Disk.lt {w : World} {rb n : Nat} {f : Nat → Prop} {D : Nat → Sec} (h : Disk w rb n f D) (hn : 0 < n) : ∀ k, f k → k < w.heap.size := by
  obtain ⟨sb, sv, h, rfl⟩ := h
  exact fun k hk => h.lt hn hk
theorem Disk.below {w w' : World} {rb n : Nat} {f : Nat → Prop} {D : Nat → Sec} (h : Disk w rb n f D) (hn : 0 < n) (hb : Below w.heap.size w w') : Disk w' rb n f D :=
  h.out fun k hk => hb.block k (h.lt hn k hk)
theorem Disk.ok {w : World} {rb n : Nat} {f : Nat → Prop} {D : Nat → Sec} (h : Disk w rb n f D) {i : Nat} (hi : i < n) : (D i).Ok := by obtain ⟨sb, sv, h, rfl⟩ := h; exact (h.secs i hi).ok

set_option maxRecDepth 100000 in
set_option maxHeartbeats 1000000 in
theorem len_at (rb n : Nat) (f : Nat → Prop) (D : Nat → Sec) (w : World) (h : Disk w rb n f D) :
    Calls Tryz.prog 116 #[.pointer (some ⟨rb, 0, none⟩)] w fun e w' => e = .returned (.int .i64 (n : Int)) ∧ w' = w := by
  obtain ⟨sb, sv, h, rfl⟩ := h
  have c1 := h.head.cell
  clear h
  go_enter Tryz.func116, Tryz.ntmps116
  go_wp2
  go_ret
  exact ⟨rfl, rfl⟩

set_option maxRecDepth 100000 in
set_option maxHeartbeats 1000000 in
theorem len_nil (w : World) :
    Calls Tryz.prog 116 #[.pointer none] w fun e w' => e = .returned (.int .i64 0) ∧ w' = w := by
  go_enter Tryz.func116, Tryz.ntmps116
  go_wp2
  go_ret
  exact ⟨rfl, rfl⟩

set_option maxRecDepth 100000 in
set_option maxHeartbeats 1000000 in
theorem has_of (p : Option Addr) (n : Nat) (i : Int) (w : World) (hl : Calls Tryz.prog 116 #[.pointer p] w fun e w' => e = .returned (.int .i64 (n : Int)) ∧ w' = w) :
    Calls Tryz.prog 117 #[.pointer p, .int .i64 i] w fun e w' => e = .returned (.bool (decide (0 ≤ i ∧ i < (n : Int)))) ∧ w' = w := by
  have HL := Lib.hid hl
  clear hl
  by_cases h0 : 0 ≤ i
  · have g0 : decide (0 ≤ i) = true := by simpa using h0
    have HE : Hid (decide (i < (n : Int)) = decide (0 ≤ i ∧ i < (n : Int))) := by show _ = _; simp [h0]
    go_enter Tryz.func117, Tryz.ntmps117
    go_wp2_with fail
    refine HL.out.mono ?_
    rintro e w' ⟨rfl, rfl⟩
    go_wp2_with fail
    go_ret
    exact ⟨by rw [← HE.out]; rfl, rfl⟩
  · have g0 : decide (0 ≤ i) = false := by simpa using h0
    have HE : Hid (false = decide (0 ≤ i ∧ i < (n : Int))) := by show _ = _; simp [h0]
    go_enter Tryz.func117, Tryz.ntmps117
    go_wp2_with fail
    go_ret
    exact ⟨rfl, rfl⟩
end Go.Proofs.YtbdfllamhcodjaaGreat

/- Read, Write, New. -/
namespace Go.Proofs.YtbdfllamhcodjaaGreat
open Go.RowKit
set_option linter.unusedVariables false
attribute [-simp] Tryz.isAgg60 Tryz.zeroValue60
attribute [-go_sem] loadVar storeVar
attribute [local go_sem] zero_blk build_blk loadVar_open storeVar_open

set_option maxRecDepth 100000 in
set_option maxHeartbeats 1000000 in
/-- **Read**. -/
theorem read_yes (rb n i : Nat) (f : Nat → Prop) (D : Nat → Sec) (w : World) (h : Disk w rb n f D) (hi : i < n) :
    Calls Tryz.prog 87 #[.pointer (some ⟨rb, 0, none⟩), .int .i64 (i : Int)] w fun e w' => e = .returned (.tuple #[.agg (D i).look.toArray, .int .i64 0]) ∧ Below w.heap.size w w' := by
  obtain ⟨W, hW⟩ : ∃ W, w.alloc (.cells zarr 60) = W := ⟨_, rfl⟩
  have hB : Below w.heap.size w W := by rw [← hW]; exact (Below.refl _ w).alloc (Nat.le_refl _) _
  have h' := h.below (by omega) hB
  have hok : IsBlk (D i).look := (h.ok hi).look
  have HH := Lib.hid (has_of _ n (i : Int) W (len_at rb n f D W h'))
  have HE : Hid (decide (0 ≤ (i : Int) ∧ (i : Int) < (n : Int)) = true) := by show _ = _; simp; omega
  obtain ⟨sb, sv, hd, rfl⟩ := h'
  have c1 := hd.head.cell
  have HY := Lib.hid (yields_at 0 sb (i * 65) (D i) (sv i) W (hd.secs i hi))
  obtain ⟨u, hu⟩ : ∃ u, (D i).look = u := ⟨_, rfl⟩
  rw [hu] at HY hok ⊢
  have g1 : (i : Int) < (n : Int) := by omega
  -- the result's cell, behind what the sector has yielded
  have K : Hid (∀ w', Below W.heap.size W w' → ∃ w'', (storeVar 60 ⟨w.heap.size, 0, none⟩ (.agg u.toArray)).run Tryz.prog w' = .ok () w'' ∧ (loadVar 60 ⟨w.heap.size, 0, none⟩).run Tryz.prog w'' = .ok (.agg u.toArray) w'' ∧ Below w.heap.size w w'') := by
    intro w' hb
    have hlt : w.heap.size < W.heap.size := by rw [← hW]; simp
    have hblk : w'.heap[w.heap.size]? = some (.cells zarr 60 (0, 0)) := (hb.block _ hlt).trans (by rw [← hW]; exact heap_alloc_new w _)
    have ht : w'.there w.heap.size 0 64 := fun j hj => by
      have hcell := cell_of_row w' w.heap.size (0 + j) zarr _ _ hblk
      refine ⟨?_, ?_⟩
      · rw [hcell]; simp [zarr_size]; omega
      · simp [World.frozen?, hblk]
    have hs := store_blk ht hok
    refine ⟨_, hs, load_blk (World.rangeAt_setCells_same w' _ 0 u (by rw [hok.length]; exact ht)) hok.length, ?_⟩
    exact hB.trans ((hb.mono (Nat.le_of_lt hlt)).trans (below_setCells (Nat.le_refl _) _ _ _))
  clear hd hB h hok hi hu
  go_enter Tryz.func87, Tryz.ntmps87
  go_wp2_with fail
  clear hW
  refine HH.out.mono ?_
  rintro e w' ⟨rfl, rfl⟩
  rw [HE.out]
  go_wp2_with fail
  refine HY.out.mono ?_
  rintro e w' ⟨rfl, hb⟩
  obtain ⟨w'', S, R, hB2⟩ := K.out w' hb
  have HB2 := Lib.hid hB2
  clear hb hB2
  go_wp2_with fail
  exact bodyPost_ret (results_cell2 rfl rfl R) rfl ⟨rfl, HB2.out⟩
end Go.Proofs.YtbdfllamhcodjaaGreat

/- Write, New. -/
namespace Go.Proofs.YtbdfllamhcodjaaGreat
open Go.RowKit
set_option linter.unusedVariables false
attribute [-simp] Tryz.isAgg60 Tryz.zeroValue60
attribute [-go_sem] loadVar storeVar
attribute [local go_sem] zero_blk build_blk loadVar_open storeVar_open

theorem Turn.of_below {f : Nat → Prop} {w W : World} (h : Below w.heap.size w W) : Turn f f w W :=
  ⟨⟨h.os, h.tape, h.output⟩, ⟨h.size, fun k o hk _ => (h.block k (Array.getElem?_eq_some_iff.1 hk).1).trans hk⟩, fun k hk _ => h.block k hk, fun _ hk => .inl hk⟩
theorem Turn.below {f f' : Nat → Prop} {w W : World} {N : Nat} (h : Turn f f' w W) (hN : N ≤ w.heap.size) (hf : ∀ k, f k → N ≤ k) : Below N w W :=
  ⟨h.still.1, h.still.2.1, h.still.2.2, h.size, fun k hk => h.out k (by omega) (fun hfk => by have := hf k hfk; omega)⟩

set_option maxRecDepth 100000 in
set_option maxHeartbeats 1000000 in
/-- **Write**. -/
theorem write_yes (rb n i : Nat) (f : Nat → Prop) (D : Nat → Sec) (b : List Value) (w : World) (h : Disk w rb n f D) (hi : i < n) (hb : IsBlk b) (hk : ¬ 255 < (D i).vs.length) :
    Calls Tryz.prog 74 #[.pointer (some ⟨rb, 0, none⟩), .int .i64 (i : Int), .agg b.toArray] w fun e w' => e = .returned (.int .i64 0) ∧ ∃ f', Disk w' rb n f' (upd D i ((D i).add b)) ∧ Turn f f' w w' := by
  obtain ⟨W, hW⟩ : ∃ W, w.alloc (.cells b.toArray 60) = W := ⟨_, rfl⟩
  have hB : Below w.heap.size w W := by rw [← hW]; exact (Below.refl _ w).alloc (Nat.le_refl _) _
  have h' := h.below (by omega) hB
  have HH := Lib.hid (has_of _ n (i : Int) W (len_at rb n f D W h'))
  have HE : Hid (decide (0 ≤ (i : Int) ∧ (i : Int) < (n : Int)) = true) := by show _ = _; simp; omega
  obtain ⟨sb, sv, hd, rfl⟩ := h'
  have HA : Hid (Calls Tryz.prog 118 #[.pointer (some ⟨sb, i * 65, none⟩), .agg b.toArray] W.drew fun e w' => e = .returned (.tuple #[]) ∧ ∃ f', Disk w' rb n f' (upd D i ((D i).add b)) ∧ Turn (foot rb sb n sv) f' w w') := by
    have hs : SecAt W.drew 0 sb (i * 65) (D i) (sv i) := (hd.secs i hi).kept rfl (fun _ _ => rfl)
    refine (add_few 0 sb (i * 65) (D i) (sv i) b W.drew hs hb (Nat.zero_le _) hk).mono ?_
    rintro e w' ⟨rfl, v', h1, h2, h3⟩
    have hd' : DskAt W.drew rb sb n sv D := hd.kept fun _ _ => rfl
    have h3' : v'.ownBlock = none ∨ v'.ownBlock = (sv i).ownBlock ∨ ∃ k, v'.ownBlock = some k ∧ W.drew.heap.size ≤ k := .inr h3
    exact ⟨rfl, _, ⟨sb, _, hd'.step hi h2 h1 h3', rfl⟩, (Turn.of_below hB.drew).trans (hd'.turn hi h2 h3')⟩
  have c1 := hd.head.cell
  have L : (loadVar 60 ⟨w.heap.size, 0, none⟩).run Tryz.prog W.drew = .ok (.agg b.toArray) W.drew := by rw [← hW]; exact load_new (w := w.drew) (by simpa using hb.length)
  have hmx : Tryz.prog.follows .mixedOrders = true := by kernel_rfl
  have G1 : Hid ((i : Int) < (n : Int)) := by show _ < _; omega
  clear hd h hi hb hk hB
  go_enter Tryz.func74, Tryz.ntmps74
  go_wp2_with fail
  clear hW
  refine HH.out.mono ?_
  rintro e w' ⟨rfl, hw⟩
  obtain rfl := hw.symm
  rw [HE.out]
  go_wp2_with fail
  have g1 := G1.out
  refine region_plan (fun x => x = W.drew) 7 (.takes [0, 1, 2, 3, 4, 5, 6] .leaf) hmx (by kernel_rfl) (by intro c x v a w h; cases x <;> exact h) rfl ?_
  repeat (rw [wpPlan_takes_cons]; simp only [nth_zero, nth_succ]; go_big_quiet_step (fail); refine wpQuiet_nil ?_)
  rw [wpPlan_takes_nil, wpPlan_leaf]
  simp only [List.drop_succ_cons, List.drop_zero]
  go_wp2_with fail
  refine HA.out.mono ?_
  rintro e w' ⟨rfl, hf⟩
  have HF := Lib.hid hf
  clear hf
  go_wp2_with fail
  go_ret
  exact ⟨rfl, HF.out⟩
end Go.Proofs.YtbdfllamhcodjaaGreat

/- New. -/
namespace Go.Proofs.YtbdfllamhcodjaaGreat
open Go.RowKit
set_option linter.unusedVariables false
attribute [-simp] Tryz.isAgg60 Tryz.zeroValue60
attribute [-go_sem] loadVar storeVar
attribute [local go_sem] zero_blk build_blk loadVar_open storeVar_open

/-- A sector of zeros. -/
def zsec : Sec := ⟨fillB 0, []⟩
theorem zsec_ok : zsec.Ok := ⟨isBlk_fill 0, fun v hv => by cases hv⟩
/-- Its cells. -/
def zcells : Array Value := (fillB 0 ++ [Value.slice none 0 0]).toArray
theorem zcells_size : zcells.size = 65 := by simp [zcells, fillB]
set_option maxRecDepth 100000 in
theorem info_sec : (Tryz.prog.info? 208).map (fun i => (i.zero, i.size, i.bytes)) = some (some (.agg zcells), 65, 88) := by kernel_rfl

theorem made_get (z : Array Value) (k : Nat) (hz : z.size = k) (hk : 0 < k) (n i j : Nat) (hi : i < n) (hj : j < k) : (madeCells z (n * k))[i * k + j]? = z[j]? := by
  have h1 : i * k + j < n * k := by
    have : (i + 1) * k ≤ n * k := Nat.mul_le_mul_right k hi
    rw [Nat.add_mul] at this; omega
  have h2 : (i * k + j) % k = j := by rw [Nat.mul_comm, Nat.mul_add_mod, Nat.mod_eq_of_lt hj]
  unfold madeCells
  simp only [Array.getElem?_map, hz]
  rw [Array.getElem?_range, if_pos h1]
  simp only [Option.map_some, h2]
  rw [getElem!_pos z j (by omega), Array.getElem?_eq_getElem (by omega)]

theorem ownsRow_full {w : World} {base e n g size : Nat} {xs : List Value} (h : w.ownsRow base e size (.slice (some ⟨g, 0, none⟩) n n) n xs) : w.heap[g]? = some (.cells xs.toArray e (0, 0)) := by
  rcases h.2 with ⟨h', _⟩ | ⟨g', cap, cur, h', _, hg, _, _, hs, ht⟩
  · simp at h'
  · simp only [Value.slice.injEq, Option.some.injEq, Addr.mk.injEq, and_true, true_and] at h'
    obtain ⟨rfl, rfl⟩ := h'
    rw [hg, ← ht, List.take_of_length_le (by rw [Array.length_toList]; omega)]

/-- Zeros are a disk. -/
theorem disk_zero {w : World} {rb sb n : Nat} (hr : Boxed w rb 181 (.slice (some ⟨sb, 0, none⟩) n n)) (hs : w.heap[sb]? = some (.cells (madeCells zcells (n * 65)) 208 (0, 0))) (hne : rb ≠ sb) (hn : n ≤ 4096) :
    DskAt w rb sb n (fun _ => .slice none 0 0) (fun _ => zsec) := by
  have hc : ∀ i j, i < n → j < 65 → w.cell? ⟨sb, i * 65 + j, none⟩ = zcells[j]? := fun i j hi hj => by
    rw [cell_of_row _ _ _ _ _ _ hs]; exact made_get zcells 65 zcells_size (by omega) n i j hi hj
  refine ⟨hr, hne, hn, fun i hi => ⟨zsec_ok, fun j x hx => ?_, ?_, fun j hj => ⟨?_, by simp [World.frozen?, hs]⟩, World.ownsRow_nil _ _ _ _, by simp [Value.ownBlock]⟩, fun _ _ => by simp [Value.ownBlock], fun _ _ _ _ _ _ h => by simp [Value.ownBlock] at h⟩
  · have hj : j < 64 := by have := (List.getElem?_eq_some_iff.1 hx).1; rw [zsec_ok.1.length] at this; exact this
    rw [hc i j hi (by omega), ← hx]
    show ((fillB 0 ++ [Value.slice none 0 0]).toArray)[j]? = (fillB 0)[j]?
    rw [List.getElem?_toArray, List.getElem?_append_left (by rw [(isBlk_fill 0).length]; exact hj)]
  · rw [hc i 64 hi (by omega)]; rfl
  · rw [hc i j hi hj, Array.getElem?_eq_getElem (by rw [zcells_size]; exact hj)]; rfl

set_option maxRecDepth 100000 in
set_option maxHeartbeats 1000000 in
/-- **New**. -/
theorem new_yes (n : Nat) (w : World) (h1 : 1 ≤ n) (h2 : n ≤ 4096) :
    Calls Tryz.prog 42 #[.int .i64 (n : Int)] w fun e w' => ∃ rb, e = .returned (.tuple #[.pointer (some ⟨rb, 0, none⟩), .int .i64 0]) ∧ (∃ f, Disk w' rb n f (fun _ => zsec) ∧ ∀ k, f k → w.heap.size ≤ k) ∧ Below w.heap.size w w' := by
  obtain ⟨i0, hi, hz0, hz1, hz2⟩ := info_parts info_sec
  have g1 : decide ((n : Int) < 1) = false := by simp; omega
  have g2 : decide (4096 < (n : Int)) = false := by simp; omega
  go_enter Tryz.func42, Tryz.ntmps42
  go_wp2_with (first | (at_make; refine wpList_make_full _ rfl _ _ 179 rfl w.heap.size 208 i0 (.agg zcells) 65 Tryz.underlying179 hi hz0 hz1 .i64 .i64 _ _ n rfl rfl rfl rfl (by rw [hz2]; omega) (by unfold maxLen; omega) (by simp) ?_; intro w1 hown1 hgrow1))
  have hrow := ownsRow_full hown1
  rw [show (Value.agg zcells).cells = zcells from rfl] at hrow
  have hlt : w.heap.size < w1.heap.size := (Array.getElem?_eq_some_iff.1 hrow).1
  go_ret2
  refine ⟨_, rfl, ⟨_, ⟨w.heap.size, _, disk_zero (Boxed.new _ _ _) ?_ (by omega) h2, rfl⟩, ?_⟩, ?_⟩
  · rw [Below.heap_alloc _ _ _ hlt]; simpa using hrow
  · intro k hk
    rcases hk with rfl | rfl | ⟨i, hi, hk⟩
    · omega
    · omega
    · simp [Value.ownBlock] at hk
  · exact ((Below.refl _ w).grown hgrow1 (Nat.le_refl _) (fun k e => by cases e)).alloc (by omega) _
end Go.Proofs.YtbdfllamhcodjaaGreat

/- A range over a function whose iterator reads, between two rounds, what the body itself writes: the iterator's contract rests on the caller's own invariant. No program is named. -/
namespace Go.Proofs.YtbdfllamhcodjaaGreat
open Go.RowKit
set_option linter.unusedVariables false

variable {F : Fence} {n : Nat} {P : Program}

/-- What an iterator owes to a caller whose rounds keep R: as long as R holds of what has come, the next one that comes is Ok; when none comes any more, S. -/
def SeqBy {α : Type} (F : Fence) (n : Nat) (P : Program) (g : Nat) (lb : Array Value) (encs : α → Array Value) (R : List α → World → Prop) (Ok : List α → α → Prop) (S : List α → Prop) (w : World) : Prop :=
  ∀ (l : Nat) (J Jx : List α → World → Prop) (W : World), Below w.heap.size w W → (∀ pre W, J pre W → R pre W) → AbidesFrom W.heap.size J → AbidesFrom W.heap.size Jx →
    (∀ pre x W1, J pre W1 → Ok pre x → YieldAt F (n - 1) P l (encs x) W1 fun e W' =>
      (e = .returned (.bool true) ∧ J (pre ++ [x]) W') ∨ (e = .returned (.bool false) ∧ Jx (pre ++ [x]) W')) →
    J [] W →
    CallsIn F n P g (#[.func (.yield l) #[] #[]] ++ lb) W fun e W' => (∃ v, e = .returned v) ∧ ((∃ xs, S xs ∧ J xs W') ∨ (∃ pre, Jx pre W'))

/-- The record of a loop at rest, and the block of its rounds' deferred calls. -/
structure Books (W : World) (B : Nat) (r : Loop) : Prop where
  loop : W.heap[B + 1]? = some (.loop r)
  defers : W.heap[B]? = some (.deferred (some []))

theorem Books.lt {W : World} {B : Nat} {r : Loop} (h : Books W B r) : B + 1 < W.heap.size := (Array.getElem?_eq_some_iff.1 h.loop).1

theorem Books.put {W : World} {B : Nat} {r : Loop} (h : Books W B r) (r' : Loop) : Books (W.putObj (B + 1) (.loop r')) B r' :=
  ⟨World.putObj_heap_same h.lt, (World.putObj_heap_other (by omega)).trans h.defers⟩

theorem Books.from {W W' : World} {B : Nat} {r : Loop} (h : Books W B r) (hk : KeepsFrom B W W') : Books W' B r :=
  ⟨hk.same _ _ (by omega) h.loop rfl, hk.same _ _ (Nat.le_refl _) h.defers rfl⟩

theorem Books.kept {W W' : World} {B : Nat} {r : Loop} {row : Option Nat} (h : Books W B r) (hg : W.grownBy W' row) (hr : ∀ k, row = some k → ∃ o : Obj, W.heap[k]? = some o ∧ o.isWalk = true) : Books W' B r :=
  ⟨(grownBy_keeps hg hr h.loop rfl).trans h.loop, (grownBy_keeps hg hr h.defers rfl).trans h.defers⟩

/-- **A loop over such an iterator.** -/
theorem wpIn_rangeFunc_by {α : Type} {g : Operand} {ps : Array Tmp} {assign body : Code} {Q : Exit → Act → World → Prop} {a : Act} {w : World}
    (hro : F.round = none) (h1 : 1 ≤ n) {gf : Nat} {lb : Array Value} (hg : a.eval g = .func (.func gf) #[] lb) (hFg : F.fn gf) (eg : ∀ args w, (callFunc gf args).run P w = .ok (.enter gf args) w)
    {encs : α → Array Value} {Ok : List α → α → Prop} {S : List α → Prop} {w0 : World} (I : List α → World → Prop) (Ix : Code → List α → World → Prop) (hseq : SeqBy F (n - 1) P gf lb encs I Ok S w0)
    (hb0 : Below w0.heap.size w0 w) (hps : ∀ x, (encs x).size = ps.size) (hI : OwnFrom w.heap.size I) (hIx : ∀ c, OwnFrom w.heap.size (Ix c)) (h0 : I [] w) (a₁ : α → Act)
    (hassign : ∀ (l : Nat) (x : α) (W : World) (K : Act → World → Prop), K (a₁ x) W →
      assign.wpIn (F.inRound l) (n - 1 - 1) P (Exit.then K (fun _ _ _ => False)) { tmps := (ps.zip (encs x)).foldl (fun t (p, v) => t.setIfInBounds p v) a.tmps, defers := [] } W)
    (hbody : ∀ (l : Nat) (pre : List α) (x : α) (W : World), I pre W → Ok pre x → body.wpIn (F.inRound l) (n - 1 - 1) P (ownPostG w.heap.size (fun _ _ => True) I Ix (pre ++ [x]) W) (a₁ x) W)
    (hdone : ∀ (D : Nat) (xs : List α) (W : World), w.heap.size ≤ D → S xs → I xs W → W.heap[D]? = some (.deferred (some [])) → Q .normal { a with defers := { target := .collected D, args := #[] } :: a.defers } W)
    (hstop : ∀ (D : Nat) (c : Code) (pre : List α) (W : World), w.heap.size ≤ D → Ix c pre W → W.heap[D]? = some (.deferred (some [])) → c.wpIn F n P Q { a with defers := { target := .collected D, args := #[] } :: a.defers } W) :
    (Code.rangeFunc g ps assign body).wpIn F n P Q a w := by
  refine wpIn_rangeFunc fun fn hfn => ?_
  rw [hro]
  -- the record, by its state and its jump
  let rc : LoopState → Option Code → Loop := fun st pe => { state := st, pending := pe, fn, tmps := a.tmps, params := ps, assign, body, defers := w.heap.size }
  obtain ⟨W1, hW1⟩ : ∃ W1, (w.alloc (.deferred (some []))).alloc (.loop (rc .ready none)) = W1 := ⟨_, rfl⟩
  have bk1 : Books W1 w.heap.size (rc .ready none) := by
    rw [← hW1]
    refine ⟨?_, (Below.heap_alloc _ _ _ (by simp)).trans (World.alloc_heap_new w _)⟩
    have := World.alloc_heap_new (w.alloc (.deferred (some []))) (.loop (rc .ready none))
    rwa [World.size_alloc] at this
  have hsz : w.heap.size ≤ W1.heap.size := by rw [← hW1]; simp; omega
  have bel : Below w0.heap.size w0 W1 := by
    rw [← hW1]; exact hb0.trans ((((Below.refl _ w).alloc (Nat.le_refl _) _).alloc (by simp) _).mono hb0.size)
  have I1 : I [] W1 := by rw [← hW1]; exact hI.alloc _ (hI.alloc _ h0)
  -- a turn of a block that holds a walk touches no book
  have walk : ∀ {A : World} {row : Option Nat}, (∀ r, row = some r → W1.heap.size ≤ r ∧ ∃ o : Obj, A.heap[r]? = some o ∧ o.isWalk = true) →
      (∀ r, row = some r → w.heap.size ≤ r ∧ ∃ o : Obj, A.heap[r]? = some o ∧ o.isCells = false) ∧ (∀ r, row = some r → ∃ o : Obj, A.heap[r]? = some o ∧ o.isWalk = true) := fun hr =>
    ⟨fun r e => by obtain ⟨h, o, ho, hw⟩ := hr r e; exact ⟨Nat.le_trans hsz h, o, ho, Obj.not_cells_of_walk hw⟩, fun r e => (hr r e).2⟩
  refine ⟨w.heap.size + 1, _, W1, { target := .fn (.func gf) lb, args := #[.func (.yield (w.heap.size + 1)) #[] #[]] }, W1, gf, #[.func (.yield (w.heap.size + 1)) #[] #[]] ++ lb, W1,
    hW1 ▸ run_enterLoop_outer fn _ _ _ _, by simp only [resolve, hg]; simp [go_sem], fun f' hf' => by simp [Target.leads] at hf'; subst hf'; exact hFg, by simp [invoke, go_sem, eg], fun _ => h1, ?_⟩
  refine (hseq (w.heap.size + 1) (fun pre W => I pre W ∧ Books W w.heap.size (rc .ready none)) (fun pre W => ∃ c, Ix c pre W ∧ Books W w.heap.size (rc .done (some c))) W1 bel (fun _ _ h => h.1)
    (fun s A B row hs hgr hr => ⟨hI s A B row hs.1 hgr (walk hr).1, hs.2.kept hgr (walk hr).2⟩)
    (fun s A B row hs hgr hr => by obtain ⟨c, hc, hb⟩ := hs; exact ⟨c, hIx c s A B row hc hgr (walk hr).1, hb.kept hgr (walk hr).2⟩) ?_ ⟨I1, bk1⟩).mono ?_
  · rintro pre x W ⟨hi, bk⟩ hok
    have hy := run_yield (P := P) (args := encs x) bk.loop (hps x)
    refine ⟨fn, _, assign, body, hy, roundIn_of_wpIn hfn (hassign _ x W _ ⟨_, run_beginRound bk.loop rfl, ?_⟩)⟩
    have bk2 := bk.put (rc .busy none)
    refine wpIn_mono (hbody _ pre x _ (hI.putObj _ hi (by omega) bk.loop rfl) hok) ?_
    -- however the round is left, the record is turned once more
    have out : ∀ (j : Option Code) (W3 : World), KeepsFrom w.heap.size (W.putObj (w.heap.size + 1) (.loop (rc .busy none))) W3 → (Instr.endRound (w.heap.size + 1) j).run P W3 = .ok (.bool j.isNone) (W3.putObj (w.heap.size + 1) (.loop (rc (if j.isNone then .ready else .done) j))) ∧
        W3.heap[w.heap.size + 1]? = some (.loop (rc .busy none)) ∧ Books (W3.putObj (w.heap.size + 1) (.loop (rc (if j.isNone then .ready else .done) j))) w.heap.size (rc (if j.isNone then .ready else .done) j) := fun j W3 hk =>
      ⟨run_endRound j (bk2.from hk).loop, (bk2.from hk).loop, (bk2.from hk).put _⟩
    rintro (_ | id | t | _ | ch | _) a3 W3 hp
    · obtain ⟨hk, -, hi3⟩ := hp
      obtain ⟨h2, h3, h4⟩ := out none W3 hk
      exact ⟨_, _, h2, .inl ⟨rfl, hI.putObj _ hi3 (by omega) h3 rfl, h4⟩⟩
    · obtain ⟨hk, hi3⟩ := hp
      obtain ⟨h2, h3, h4⟩ := out (some (.exit id)) W3 hk
      exact ⟨_, _, h2, .inr ⟨rfl, _, (hIx _).putObj _ hi3 (by omega) h3 rfl, h4⟩⟩
    · obtain ⟨hk, hi3⟩ := hp
      obtain ⟨h2, h3, h4⟩ := out (some (.goto t)) W3 hk
      exact ⟨_, _, h2, .inr ⟨rfl, _, (hIx _).putObj _ hi3 (by omega) h3 rfl, h4⟩⟩
    · obtain ⟨hk, hi3⟩ := hp
      obtain ⟨h2, h3, h4⟩ := out (some .ret) W3 hk
      exact ⟨_, _, h2, .inr ⟨rfl, _, (hIx _).putObj _ hi3 (by omega) h3 rfl, h4⟩⟩
    · exact hp.elim
    · exact hp.elim
  · rintro e W2 ⟨⟨v, rfl⟩, ⟨xs, hS, hi, bk⟩ | ⟨pre, c, hi, bk⟩⟩
    · exact ⟨none, _, run_endLoop bk.loop (by simp [rc]), hdone _ xs _ (Nat.le_refl _) hS (hI.putObj _ hi (by omega) bk.loop rfl) (bk.put _).defers⟩
    · exact ⟨some c, _, run_endLoop bk.loop (by simp [rc]), hstop _ c pre _ (Nat.le_refl _) ((hIx c).putObj _ hi (by omega) bk.loop rfl) (bk.put _).defers⟩
end Go.Proofs.YtbdfllamhcodjaaGreat

/- The loose sectors, one by one. -/
namespace Go.Proofs.YtbdfllamhcodjaaGreat
open Go.RowKit Go.Shelf
set_option linter.unusedVariables false
attribute [-simp] Tryz.isAgg60 Tryz.zeroValue60
attribute [-go_sem] loadVar storeVar
attribute [local go_sem] zero_blk build_blk loadVar_open storeVar_open
attribute [local go_sem] Oper.semAt_some

/-- The loose ones below k. -/
def looseTo (D : Nat → Sec) (k : Nat) : List Nat := (List.range k).filter fun i => !(D i).vs.isEmpty
theorem looseTo_yes {D : Nat → Sec} {k : Nat} (h : (D k).vs ≠ []) : looseTo D (k + 1) = looseTo D k ++ [k] := by
  unfold looseTo
  rw [List.range_succ, List.filter_append]
  simp [h]
theorem looseTo_no {D : Nat → Sec} {k : Nat} (h : (D k).vs = []) : looseTo D (k + 1) = looseTo D k := by
  unfold looseTo
  rw [List.range_succ, List.filter_append]
  simp [h]
theorem looseTo_lt {D : Nat → Sec} {k i : Nat} (h : i ∈ looseTo D k) : i < k := by
  have := (List.mem_filter.1 h).1
  simpa using this
theorem looseTo_loose {D : Nat → Sec} {k i : Nat} (h : i ∈ looseTo D k) : (D i).vs ≠ [] := by
  have := (List.mem_filter.1 h).2
  simpa using this
theorem mem_looseTo {D : Nat → Sec} {k i : Nat} (hi : i < k) (h : (D i).vs ≠ []) : i ∈ looseTo D k := by
  unfold looseTo
  rw [List.mem_filter]
  exact ⟨by simpa using hi, by simpa using h⟩

theorem looseTo_length (D : Nat → Sec) (k : Nat) : (looseTo D k).length ≤ k := by
  have := List.length_filter_le (fun i => !(D i).vs.isEmpty) (List.range k)
  simpa [looseTo] using this
/-- What comes: the sector's number, and where it stands. -/
def encL (sb : Nat) (i : Nat) : Array Value := #[.int .i64 (i : Int), .pointer (some ⟨sb, i * 65, none⟩)]

/-- Between two rounds: the variable d, and sectors of which those that have not come have as many versions as at first. -/
def LooseR (Bd rb sb n : Nat) (D0 : Nat → Sec) (pre : List Nat) (W : World) : Prop :=
  Boxed W Bd 91 (.pointer (some ⟨rb, 0, none⟩)) ∧ ∃ sv D, DskAt W rb sb n sv D ∧ ∀ i, i < n → i ∉ pre → (D i).vs.length = (D0 i).vs.length
/-- Which one comes. -/
def LooseOk (n : Nat) (D0 : Nat → Sec) (pre : List Nat) (x : Nat) : Prop := ∃ k, k < n ∧ pre = looseTo D0 k ∧ x = k ∧ (D0 k).vs ≠ []

set_option maxRecDepth 100000 in
set_option maxHeartbeats 2000000 in
theorem loose1_in (Bd rb sb n : Nat) (D0 : Nat → Sec) (l : Nat) (J Jx : List Nat → World → Prop) (hR : ∀ pre W, J pre W → LooseR Bd rb sb n D0 pre W)
    (hY : ∀ pre x W, J pre W → LooseOk n D0 pre x → YieldAt Fence.wide 1 Tryz.prog l (encL sb x) W fun e W' =>
      (e = .returned (.bool true) ∧ J (pre ++ [x]) W') ∨ (e = .returned (.bool false) ∧ Jx (pre ++ [x]) W'))
    (W : World) (h0 : J [] W) :
    CallsIn Fence.wide 2 Tryz.prog 141 #[.func (.yield l) #[] #[], .pointer (some ⟨Bd, 0, none⟩)] W fun e W' => (∃ v, e = .returned v) ∧
      ((∃ xs, xs = looseTo D0 n ∧ J xs W') ∨ (∃ pre, Jx pre W')) := by
  refine callsIn_of_wp Tryz.func141 rfl trivial ?_ rfl
  simp only [Tryz.ntmps141, List.size_toArray, List.length_cons, List.length_nil, Nat.reduceAdd, Nat.reduceSub, Array.replicate_succ, Array.replicate_zero, List.push_toArray, List.append_toArray, List.nil_append, List.cons_append]
  obtain ⟨hbx, sv, D, hd, hD⟩ := hR _ _ h0
  have hbc := hbx.cell
  have HL := Lib.hid (len_at rb n _ D W ⟨sb, sv, hd, rfl⟩)
  clear hbx hd hD
  gi_wp2_with (refine ⟨trivial, ?_⟩; gi_at_call 116; refine (callsIn_wide.2 HL.out).mono ?_; rintro e w' ⟨rfl, rfl⟩)
  clear hbc HL
  gi_loopw [7] (fun i wr => ∃ k : Nat, k ≤ n ∧ i = .int .i64 k ∧ J (looseTo D0 k) wr) (fun i _ => n - (intOf i).toNat)
  case atStart => exact ⟨0, Nat.zero_le _, rfl, h0⟩
  case round =>
    obtain ⟨k, hk, rfl, hJs⟩ := hrel
    by_cases hlt : k < n
    · obtain ⟨hbx, sv, D, hd, hD⟩ := hR _ _ hJs
      have hbc := hbx.cell
      have hhc := hd.head.cell
      have hlen := hD k hlt (fun hm => by have := looseTo_lt hm; omega)
      have hver := (hd.secs k hlt).ver
      obtain ⟨a, cap, hf, -⟩ := (hd.secs k hlt).form
      rw [hf, hlen] at hver
      have hb1 : (k : Int) < (n : Int) := by omega
      have HW : Hid (wrap64 ((k : Int) + 1) = (k : Int) + 1) := IntWalk.wrap64_in _ (by have := hd.max; omega)
      clear hbx hd hD hlen hf
      by_cases hv : (D0 k).vs = []
      · have hz : (D0 k).vs.length = 0 := by rw [hv]; rfl
        rw [hz] at hver
        have hnext := looseTo_no hv
        have HN := Lib.hid hnext
        clear hv hz hnext
        gi_wp2
        refine ⟨fun _ h => (by cases h), ?_⟩
        gi_wp2
        go_roundw
        case rel => exact next_rel (C := fun k => J (looseTo D0 k) wr) HW.out hlt (by rw [HN.out]; exact hJs)
        case measure =>
            exact next_lt HW.out hlt
      · obtain ⟨fn, tmps, assign, body, hy, hYr⟩ := hY _ k wr hJs ⟨k, hlt, rfl, rfl, hv⟩
        dsimp only [encL] at hy
        obtain ⟨m, hm⟩ : ∃ m, (D0 k).vs.length = m := ⟨_, rfl⟩
        have hm0 : (0 : Int) < (m : Int) := by have := List.length_pos_iff.2 hv; omega
        rw [hm] at hver
        have hnext := looseTo_yes hv
        have HN := Lib.hid hnext
        clear hv hm hnext
        gi_wp2
        refine hYr.mono ?_
        rintro e W3 (⟨rfl, hJ3⟩ | ⟨rfl, hJx3⟩)
        · gi_wp2
          go_roundw
          case rel => exact next_rel (C := fun k => J (looseTo D0 k) W3) HW.out hlt (by rw [HN.out]; exact hJ3)
          case measure =>
            exact next_lt HW.out hlt
        · gi_wp2
          refine bodyPost_ret (results_none rfl _ _ _) rfl ?_
          exact ⟨⟨_, rfl⟩, .inr ⟨_, hJx3⟩⟩
    · obtain rfl : k = n := by omega
      gi_wp2
      go_end0
      exact ⟨⟨_, rfl⟩, .inl ⟨_, rfl, hJs⟩⟩
end Go.Proofs.YtbdfllamhcodjaaGreat

/- Ranges over the loose sectors. -/
namespace Go.Proofs.YtbdfllamhcodjaaGreat
open Go.RowKit Go.Shelf
set_option linter.unusedVariables false
attribute [-simp] Tryz.isAgg60 Tryz.zeroValue60
attribute [-go_sem] loadVar storeVar
attribute [local go_sem] zero_blk build_blk loadVar_open storeVar_open
attribute [local go_sem] Oper.semAt_some

theorem SeqBy.mono {α : Type} {F : Fence} {n : Nat} {P : Program} {g : Nat} {lb : Array Value} {encs : α → Array Value} {R R' : List α → World → Prop} {Ok : List α → α → Prop} {S : List α → Prop} {w : World}
    (h : SeqBy F n P g lb encs R Ok S w) (hR : ∀ pre W, R' pre W → R pre W) : SeqBy F n P g lb encs R' Ok S w :=
  fun l J Jx W hW hJ hA hAx hY h0 => h l J Jx W hW (fun pre W' hj => hR pre W' (hJ pre W' hj)) hA hAx hY h0

set_option maxRecDepth 100000 in
theorem loose_by (Bd rb sb n : Nat) (D0 : Nat → Sec) (w : World) : SeqBy Fence.wide 2 Tryz.prog 141 #[.pointer (some ⟨Bd, 0, none⟩)] (encL sb) (LooseR Bd rb sb n D0) (LooseOk n D0) (fun xs => xs = looseTo D0 n) w :=
  fun l J Jx W _ hR _ _ hY h0 => loose1_in Bd rb sb n D0 l J Jx hR hY W h0

set_option maxRecDepth 100000 in
set_option maxHeartbeats 1000000 in
theorem loose_in (F : Fence) (n : Nat) (hf : F.fn 113) (hro : F.round = none) (p : Option Addr) (w : World) :
    CallsIn F n Tryz.prog 113 #[.pointer p] w fun e w' => e = .returned (.func (.func 141) #[] #[.pointer (some ⟨w.heap.size, 0, none⟩)]) ∧ w' = w.alloc (.cells #[.pointer p] 91) := by
  refine callsIn_of_wp Tryz.func113 rfl hf ?_ hro
  simp only [Tryz.ntmps113, List.size_toArray, List.length_cons, List.length_nil, Nat.reduceAdd, Nat.reduceSub, Array.replicate_succ, Array.replicate_zero, List.push_toArray, List.append_toArray, List.nil_append, List.cons_append]
  gi_wp2
  go_ret
  exact ⟨rfl, rfl⟩
theorem boxed_from {β : Type} (B : Nat) (t : TypeId) (f : β → Value) (N : Nat) : OwnFrom N (fun s W => Boxed W B t (f s)) := (boxed_own B t f).from N

end Go.Proofs.YtbdfllamhcodjaaGreat

/- Flush. -/
namespace Go.Proofs.YtbdfllamhcodjaaGreat
open Go.RowKit Go.Shelf
set_option linter.unusedVariables false
attribute [-simp] Tryz.isAgg60 Tryz.zeroValue60
attribute [-go_sem] loadVar storeVar
attribute [local go_sem] zero_blk build_blk loadVar_open storeVar_open
attribute [local go_sem] Oper.semAt_some

open Classical in
/-- Those of pre are settled. -/
noncomputable def settled (D : Nat → Sec) (g : Nat → Nat) (pre : List Nat) : Nat → Sec := fun j => if j ∈ pre then (D j).settle (g j) else D j
theorem settled_nil (D : Nat → Sec) (g : Nat → Nat) : settled D g [] = D := by funext j; simp [settled]
theorem settled_not {D : Nat → Sec} {g : Nat → Nat} {pre : List Nat} {j : Nat} (h : j ∉ pre) : settled D g pre j = D j := if_neg h
theorem settled_yes {D : Nat → Sec} {g : Nat → Nat} {pre : List Nat} {j : Nat} (h : j ∈ pre) : settled D g pre j = (D j).settle (g j) := if_pos h
theorem settled_snoc (D : Nat → Sec) (g : Nat → Nat) (pre : List Nat) (x : Nat) : settled D g (pre ++ [x]) = upd (settled D g pre) x ((D x).settle (g x)) := by
  funext j
  by_cases e : j = x
  · subst e; rw [upd_same, settled_yes (by simp)]
  · rw [upd_other _ _ e]
    by_cases h : j ∈ pre
    · rw [settled_yes h, settled_yes (by simp [h])]
    · rw [settled_not h, settled_not (by simp [h, e])]
theorem not_mem_self (D : Nat → Sec) (x : Nat) : x ∉ looseTo D x := fun h => by have := looseTo_lt h; omega

/-- The disk, some of whose sectors are settled, since w. -/
def Part (w : World) (rb sb n : Nat) (f : Nat → Prop) (D : Nat → Sec) (g : Nat → Nat) (pre : List Nat) (W : World) : Prop := ∃ sv, DskAt W rb sb n sv (settled D g pre) ∧ Turn f (foot rb sb n sv) w W

theorem Turn.kept {f f' : Nat → Prop} {w W W' : World} {row : Option Nat} (h : Turn f f' w W) (hg : W.grownBy W' row) (hr : ∀ r, row = some r → w.heap.size ≤ r) : Turn f f' w W' := by
  have hb : ∀ k, k < w.heap.size → W'.heap[k]? = W.heap[k]? := fun k hk => hg.block k (Nat.lt_of_lt_of_le hk h.size) (fun e => by have := hr k e.symm; omega)
  exact ⟨still_trans h.still ⟨hg.os, hg.tape, hg.output⟩, ⟨Nat.le_trans h.size hg.size, fun k o hk ho => (hb k (Array.getElem?_eq_some_iff.1 hk).1).trans (h.others.same k o hk ho)⟩,
    fun k hk hn => (hb k hk).trans (h.out k hk hn), h.new⟩

theorem DskAt.grown {W W' : World} {rb sb n : Nat} {sv : Nat → Value} {D : Nat → Sec} {row : Option Nat} (h : DskAt W rb sb n sv D) (hn : 0 < n) (hg : W.grownBy W' row) (hr : ∀ r, row = some r → ∃ o : Obj, W.heap[r]? = some o ∧ o.isCells = false) : DskAt W' rb sb n sv D :=
  h.kept fun k hk => hg.block k (h.lt hn hk) fun e => by
    obtain ⟨o, ho, hc⟩ := hr k e.symm
    rw [h.isCells hn hk ho] at hc
    cases hc

theorem part_own (w : World) (rb sb n : Nat) (f : Nat → Prop) (D : Nat → Sec) (g : Nat → Nat) (hn : 0 < n) (N : Nat) (hN : w.heap.size ≤ N) : OwnFrom N (Part w rb sb n f D g) := by
  rintro pre W W' row ⟨sv, h1, h2⟩ hg hr
  exact ⟨sv, h1.grown hn hg (fun r e => (hr r e).2), h2.kept hg (fun r e => Nat.le_trans hN (hr r e).1)⟩

/-- One more is settled. -/
theorem Part.next {w W W' : World} {rb sb n x : Nat} {f : Nat → Prop} {D : Nat → Sec} {g : Nat → Nat} {sv : Nat → Value} {pre : List Nat} (h1 : DskAt W rb sb n sv (settled D g pre)) (h2 : Turn f (foot rb sb n sv) w W) (hx : x < n) (hp : x ∉ pre)
    (hs' : SecAt W' 0 sb (x * 65) ((settled D g pre x).settle (g x)) (.slice none 0 0)) (hs : Step W W' sb (x * 65) (sv x)) : Part w rb sb n f D g (pre ++ [x]) W' := by
  rw [settled_not hp] at hs'
  refine ⟨upd sv x (.slice none 0 0), ?_, h2.trans (h1.turn hx hs (.inl rfl))⟩
  rw [settled_snoc]
  exact h1.step hx hs hs' (.inl rfl)

theorem Boxed.step {W W' : World} {B t sb o N n : Nat} {u v : Value} {xs : List Value} (h : Boxed W B t u) (hs : Step W W' sb o v) (hr : W.ownsRow N 60 64 v n xs) (ht : t ≠ 60) (hne : B ≠ sb) : Boxed W' B t u :=
  (hs.blocks B h.lt hne (h.not_row ht hr)).trans h

set_option maxRecDepth 100000 in
set_option maxHeartbeats 2000000 in
/-- **Flush**. -/
theorem flush_at (rb n : Nat) (f : Nat → Prop) (D : Nat → Sec) (w : World) (h : Disk w rb n f D) (hn : 0 < n) :
    Calls Tryz.prog 138 #[.pointer (some ⟨rb, 0, none⟩)] w fun e w' => e = .returned (.int .i64 0) ∧ ∃ f', Disk w' rb n f' (settled D (fun j => (D j).vs.length) (looseTo D n)) ∧ Turn f f' w w' := by
  obtain ⟨g, hg⟩ : ∃ g : Nat → Nat, (fun j => (D j).vs.length) = g := ⟨_, rfl⟩
  rw [hg]
  refine (callsIn_wide (n := 3)).1 ?_
  refine callsIn_of_wp_marks Tryz.func138 rfl trivial ?_ rfl
  simp only [Tryz.ntmps138, List.size_toArray, List.length_cons, List.length_nil, Nat.reduceAdd, Nat.reduceSub, Array.replicate_succ, Array.replicate_zero, List.push_toArray, List.append_toArray, List.nil_append, List.cons_append]
  obtain ⟨sb, sv, hd, rfl⟩ := h
  have hmax := hd.max
  have HD := Lib.hid hd
  have HG := Lib.hid hg
  clear hd hg
  gi_wp2_with (refine ⟨trivial, ?_⟩; gi_at_call 113; refine (loose_in _ _ trivial rfl _ _).mono ?_; rintro e w' ⟨rfl, rfl⟩)
  obtain ⟨W0, hW0⟩ : ∃ W0, w.alloc (.cells #[.pointer (some ⟨rb, 0, none⟩)] 91) = W0 := ⟨_, rfl⟩
  have bd0 : Boxed W0 w.heap.size 91 (.pointer (some ⟨rb, 0, none⟩)) := by rw [← hW0]; exact Boxed.new w _ _
  have hB0 : Below w.heap.size w W0 := by rw [← hW0]; exact (Below.refl _ w).alloc (Nat.le_refl _) _
  have hsz0 : W0.heap.size = w.heap.size + 1 := by rw [← hW0]; simp
  rw [hW0]
  clear hW0
  have P0 : Part w rb sb n (foot rb sb n sv) D g [] W0 := ⟨sv, by rw [settled_nil]; exact HD.out.kept (fun k hk => hB0.block k (HD.out.lt hn hk)), Turn.of_below hB0⟩
  refine wpIn_rangeFunc_by (n := 3) rfl (by omega) (gf := 141) (lb := #[.pointer (some ⟨w.heap.size, 0, none⟩)]) rfl trivial (enters_of Tryz.func141 (by kernel_rfl) rfl)
    (fun pre W => Boxed W w.heap.size 91 (.pointer (some ⟨rb, 0, none⟩)) ∧ Part w rb sb n (foot rb sb n sv) D g pre W)
    (fun _ _ _ => False)
    ((loose_by w.heap.size rb sb n D W0).mono fun pre W hI => ⟨hI.1, by obtain ⟨sv', h1, _⟩ := hI.2; exact ⟨sv', _, h1, fun i _ hi => by rw [settled_not hi]⟩⟩)
    (Below.refl _ _) (fun _ => rfl)
    ((boxed_from _ _ (fun _ => .pointer (some ⟨rb, 0, none⟩)) _).and (part_own w rb sb n _ D g hn _ (by omega)))
    (fun _ _ _ _ _ h _ _ => h.elim) ⟨bd0, P0⟩ ?a1 ?assign ?body ?done ?stop
  case assign =>
    intro l x W K hK
    dsimp only [encL]
    gi_wp2
    exact hK
  case body =>
    rintro l pre x W ⟨hbd, sv', h1, h2⟩ ⟨k, hk, rfl, rfl, hvs⟩
    have hs := h1.secs x hk
    have hsv := hs.ver
    have hsx : settled D g (looseTo D x) x = D x := settled_not (not_mem_self D x)
    obtain ⟨a, cap, hf, -⟩ := hs.form
    have hS := settle_at 0 sb (x * 65) (g x) _ _ W hs (by rw [hsx, ← HG.out]; exact Nat.le_refl _)
    have hlen : (settled D g (looseTo D x) x).vs.length = g x := by rw [hsx, ← HG.out]
    rw [hlen] at hf
    rw [hf] at hsv
    have HS := Lib.hid hS
    have H1 := Lib.hid h1
    have H2 := Lib.hid h2
    have HK := Lib.hid hk
    have hsb := hs.lt
    have HB := Lib.hid hbd
    have HSB : Hid (sb < w.heap.size) := (HD.out.secs x hk).lt
    obtain ⟨m, hm⟩ : ∃ m, g x = m := ⟨_, rfl⟩
    have HM := Lib.hid hm
    rw [hm] at hsv HS
    clear hs hf hS hlen hsx h1 h2 hk hsb hvs hbd hm
    gi_wp2_with (refine ⟨trivial, ?_⟩; gi_at_call 114; refine (CallsIn.inRound l (callsIn_wide.2 HS.out)).mono ?_; rintro e w' ⟨rfl, hsa, hst⟩)
    refine ⟨hst.others.from _, trivial, Boxed.step HB.out hst (H1.out.secs x HK.out).row (by decide) (by have := HSB.out; omega), Part.next H1.out H2.out HK.out (not_mem_self D x) (by rw [HM.out]; exact hsa) hst⟩
  case done =>
    rintro Dd xs W hDd rfl ⟨hbd, sv', h1, h2⟩ hK
    gi_wp2
    refine ⟨by simp, .inl ⟨_, _, rfl, run_takeDeferred hK, ?_⟩⟩
    have hgr := grownBy_putObj' W Dd (.deferred none)
    exact ⟨_, results_tmp rfl _ _ _, rfl, _, ⟨sb, sv', h1.grown hn hgr (fun r e => by cases e; exact ⟨_, hK, rfl⟩), rfl⟩, h2.kept hgr (fun r e => by cases e; omega)⟩
  case stop =>
    rintro D c pre W _ h _
    exact h.elim

end Go.Proofs.YtbdfllamhcodjaaGreat

/- Crash. -/
namespace Go.Proofs.YtbdfllamhcodjaaGreat
open Go.RowKit Go.Shelf
set_option linter.unusedVariables false
attribute [-simp] Tryz.isAgg60 Tryz.zeroValue60
attribute [-go_sem] loadVar storeVar
attribute [local go_sem] zero_blk build_blk loadVar_open storeVar_open
attribute [local go_sem] Oper.semAt_some

/-- What a crash makes of the sector with m versions that has place i among the loose ones. -/
def crashK (bs : List Int) (i m : Nat) : Nat := if i < bs.length then (bs[i]?.getD 0).toNat % (m + 1) else 0
theorem crashK_le (bs : List Int) (i m : Nat) : crashK bs i m ≤ m := by
  unfold crashK; split
  · exact Nat.le_of_lt_succ (Nat.mod_lt _ (by omega))
  · omega
def crashG (D : Nat → Sec) (bs : List Int) (j : Nat) : Nat := crashK bs (looseTo D j).length (D j).vs.length

/-- Where the bytes of pick are: no block of the disk. -/
def Clear (f : Nat → Prop) (v : Value) : Prop := ∀ b off len cap, v = .slice (some ⟨b, off, none⟩) len cap → ¬ f b

theorem letsOut_ownG {α : Type} {B : Nat} {Kp : World → World → Prop} {I : List α → World → Prop} {Ix : Code → List α → World → Prop} {xs : List α} {W : World} : ¬ LetsOut (ownPostG B Kp I Ix xs W) := fun ⟨a, w, e⟩ => e.elim

/-- A variable of the caller's is written. -/
theorem Part.box {w W : World} {rb sb n B t : Nat} {f : Nat → Prop} {D : Nat → Sec} {g : Nat → Nat} {pre : List Nat} {u : Value} (h : Part w rb sb n f D g pre W) (hb : Boxed W B t u) (ht : t ≠ 60) (hB : w.heap.size ≤ B) (h1 : rb < w.heap.size) (h2 : sb < w.heap.size) (u' : Value) :
    Part w rb sb n f D g pre (W.setCell ⟨B, 0, none⟩ u') := by
  obtain ⟨sv, hd, htn⟩ := h
  refine ⟨sv, hd.kept fun k hk => Below.heap_setCell _ _ _ k (fun e => ?_), htn.kept (grownBy_setCell' W B u') (fun r e => by cases e; exact hB)⟩
  have e : B = k := e.symm
  subst e
  rcases hk with rfl | rfl | ⟨i, hi, hk⟩
  · omega
  · omega
  · exact hb.not_row ht (hd.secs i hi).row hk.symm

/-- How a round ends. -/
theorem crash_end {w W w' : World} {rb sb n K N : Nat} {sv : Nat → Value} {D : Nat → Sec} {g : Nat → Nat} {pv dv : Value} {pre : List Nat} {x : Nat} {a : Act} (HD : DskAt w rb sb n sv D) (hn : 0 < n) (hK : pre.length = K)
    (e1 : Boxed w' w.heap.size 37 pv) (e2 : Boxed w' (w.heap.size + 1) 3 (.int .i64 (K : Int))) (e3 : Boxed w' (w.heap.size + 1 + 1) 91 dv) (e4 : KeepsOthers W w') (e5 : Part w rb sb n (foot rb sb n sv) D g (pre ++ [x]) w') (hN : w.heap.size ≤ N) :
    ownPostG N (fun _ _ => True) (fun pre W => Boxed W w.heap.size 37 pv ∧ Boxed W (w.heap.size + 1) 3 (.int .i64 (pre.length : Int)) ∧ Boxed W (w.heap.size + 1 + 1) 91 dv ∧ Part w rb sb n (foot rb sb n sv) D g pre W)
      (fun _ _ _ => False) (pre ++ [x]) W Exit.normal a (w'.setCell ⟨w.heap.size + 1, 0, none⟩ (.int .i64 ((K : Int) + 1))) := by
  refine ⟨(e4.trans (KeepsOthers.setCell _ _ _)).from _, trivial, e1.other (by omega) _, ?_, e3.other (by omega) _, e5.box e2 (by decide) (by omega) (HD.lt hn (.inl rfl)) (HD.lt hn (.inr (.inl rfl))) _⟩
  have := e2.set (.int .i64 ((K : Int) + 1))
  rw [List.length_append, hK]
  exact this

set_option maxRecDepth 100000 in
set_option maxHeartbeats 4000000 in
/-- **Crash**. -/
theorem crash_at (rb n : Nat) (f : Nat → Prop) (D : Nat → Sec) (v : Value) (bs : List Int) (w : World) (h : Disk w rb n f D) (hn : 0 < n) (hv : Sl .u8 w v bs) (hB : IsBytes bs) (hc : bs ≠ [] → Clear f v) (hl : ∀ i, i < n → (D i).vs.length ≤ 1000000) :
    Calls Tryz.prog 69 #[.pointer (some ⟨rb, 0, none⟩), v] w fun e w' => e = .returned (.tuple #[]) ∧ ∃ f', Disk w' rb n f' (settled D (crashG D bs) (looseTo D n)) ∧ Turn f f' w w' := by
  obtain ⟨g, hg⟩ : ∃ g : Nat → Nat, crashG D bs = g := ⟨_, rfl⟩
  rw [hg]
  obtain ⟨ad, cap, rfl, hcap, hmaxc, hlies, -⟩ := hv
  refine (callsIn_wide (n := 3)).1 ?_
  refine callsIn_of_wp_marks Tryz.func69 rfl trivial ?_ rfl
  simp only [Tryz.ntmps69, List.size_toArray, List.length_cons, List.length_nil, Nat.reduceAdd, Nat.reduceSub, Array.replicate_succ, Array.replicate_zero, List.push_toArray, List.append_toArray, List.nil_append, List.cons_append]
  obtain ⟨sb, sv, hd, rfl⟩ := h
  have hmax := hd.max
  have HD := Lib.hid hd
  have HG := Lib.hid hg
  have HC := Lib.hid hc
  have HLI := Lib.hid hlies
  have HBY := Lib.hid hB
  have HMC := Lib.hid hmaxc
  have HCAP := Lib.hid hcap
  obtain ⟨L, hL⟩ : ∃ L, bs.length = L := ⟨_, rfl⟩
  have HL := Lib.hid hL
  rw [hL]
  clear hd hg hc hlies hB hmaxc hcap hL
  gi_wp2_with (refine ⟨trivial, ?_⟩; gi_at_call 113; refine (loose_in _ _ trivial rfl _ _).mono ?_; rintro e w' ⟨rfl, rfl⟩)
  obtain ⟨W0, hW0⟩ : ∃ W0, (((w.alloc (.cells #[.slice ad L cap] 37)).alloc (.cells #[.int .i64 0] 3)).alloc (.cells #[.pointer (some ⟨rb, 0, none⟩)] 91)) = W0 := ⟨_, rfl⟩
  have bp0 : Boxed W0 w.heap.size 37 (.slice ad L cap) := by rw [← hW0]; exact ((Boxed.new w _ _).alloc _).alloc _
  have bk0 : Boxed W0 (w.heap.size + 1) 3 (.int .i64 0) := by
    rw [← hW0]
    have := (Boxed.new (w.alloc (.cells #[.slice ad L cap] 37)) 3 (.int .i64 0)).alloc (.cells #[.pointer (some ⟨rb, 0, none⟩)] 91)
    rwa [World.size_alloc] at this
  have bd0 : Boxed W0 (w.heap.size + 1 + 1) 91 (.pointer (some ⟨rb, 0, none⟩)) := by
    rw [← hW0]
    have := Boxed.new ((w.alloc (.cells #[.slice ad L cap] 37)).alloc (.cells #[.int .i64 0] 3)) 91 (.pointer (some ⟨rb, 0, none⟩))
    rwa [World.size_alloc, World.size_alloc] at this
  have hB0 : Below w.heap.size w W0 := by rw [← hW0]; exact (((Below.refl _ w).alloc (Nat.le_refl _) _).alloc (by simp) _).alloc (by simp; omega) _
  have hsz0 : W0.heap.size = w.heap.size + 3 := by rw [← hW0]; simp
  rw [hW0]
  clear hW0
  have P0 : Part w rb sb n (foot rb sb n sv) D g [] W0 := ⟨sv, by rw [settled_nil]; exact HD.out.kept (fun k hk => hB0.block k (HD.out.lt hn hk)), Turn.of_below hB0⟩
  refine wpIn_rangeFunc_by (n := 3) rfl (by omega) (gf := 141) (lb := #[.pointer (some ⟨w.heap.size + 1 + 1, 0, none⟩)]) rfl trivial (enters_of Tryz.func141 (by kernel_rfl) rfl)
    (fun pre W => Boxed W w.heap.size 37 (.slice ad L cap) ∧ Boxed W (w.heap.size + 1) 3 (.int .i64 (pre.length : Int)) ∧ Boxed W (w.heap.size + 1 + 1) 91 (.pointer (some ⟨rb, 0, none⟩)) ∧ Part w rb sb n (foot rb sb n sv) D g pre W)
    (fun _ _ _ => False)
    ((loose_by (w.heap.size + 1 + 1) rb sb n D W0).mono fun pre W hI => ⟨hI.2.2.1, by obtain ⟨sv', h1, _⟩ := hI.2.2.2; exact ⟨sv', _, h1, fun i _ hi => by rw [settled_not hi]⟩⟩)
    (Below.refl _ _) (fun _ => rfl)
    ((boxed_from _ _ (fun _ => .slice ad L cap) _).and ((boxed_from _ _ (fun pre : List Nat => .int .i64 (pre.length : Int)) _).and ((boxed_from _ _ (fun _ => .pointer (some ⟨rb, 0, none⟩)) _).and (part_own w rb sb n _ D g hn _ (by omega)))))
    (fun _ _ _ _ _ h _ _ => h.elim) ⟨bp0, bk0, bd0, P0⟩ ?a1 ?assign ?body ?done ?stop
  case assign =>
    intro l x W K hK
    dsimp only [encL]
    gi_wp2
    exact hK
  case body =>
    rintro l pre x W ⟨hbp, hbk, hbd, sv', h1, h2⟩ ⟨k, hk, rfl, rfl, hvs⟩
    have hs := h1.secs x hk
    have hsv := hs.ver
    have hsx : settled D g (looseTo D x) x = D x := settled_not (not_mem_self D x)
    obtain ⟨a, cap', hf, hc1, hc2, -⟩ := hs.form
    rw [hsx] at hf hc1
    obtain ⟨m, hm⟩ : ∃ m, (D x).vs.length = m := ⟨_, rfl⟩
    rw [hf, hm] at hsv
    rw [hm] at hc1
    obtain ⟨K, hK⟩ : ∃ K, (looseTo D x).length = K := ⟨_, rfl⟩
    have hKx : K ≤ x := by rw [← hK]; exact looseTo_length D x
    have hgx : g x = crashK bs K m := by rw [← HG.out, crashG, hK, hm]
    have hgm : g x ≤ m := by rw [hgx]; exact crashK_le _ _ _
    obtain ⟨q, hq⟩ : ∃ q, g x = q := ⟨_, rfl⟩
    have hS : ∀ W' : World, W' = W ∨ W' = W.drew → Calls Tryz.prog 114 #[.pointer (some ⟨sb, x * 65, none⟩), .int .i64 (q : Int)] W' fun e w' => e = .returned (.tuple #[]) ∧ Boxed w' w.heap.size 37 (.slice ad L cap) ∧ Boxed w' (w.heap.size + 1) 3 (.int .i64 (K : Int)) ∧ Boxed w' (w.heap.size + 1 + 1) 91 (.pointer (some ⟨rb, 0, none⟩)) ∧ KeepsOthers W w' ∧ Part w rb sb n (foot rb sb n sv) D g (looseTo D x ++ [x]) w' := by
      intro W' hW'
      have hsec : SecAt W' 0 sb (x * 65) (settled D g (looseTo D x) x) (sv' x) := by rcases hW' with rfl | rfl; exact hs; exact hs.kept rfl (fun _ _ => rfl)
      have hlt : sb < w.heap.size := (HD.out.secs x hk).lt
      refine (settle_at 0 sb (x * 65) q _ _ W' hsec (by rw [hsx, ← hq, hm]; exact hgm)).mono ?_
      rintro e w' ⟨rfl, hsa, hst⟩
      have hst' : Step W w' sb (x * 65) (sv' x) := by rcases hW' with rfl | rfl; exact hst; exact (Step.refl W sb (x * 65) (sv' x)).drew.trans hst
      exact ⟨rfl, Boxed.step hbp hst' hs.row (by decide) (by omega), Boxed.step (by rw [← hK]; exact hbk) hst' hs.row (by decide) (by omega), Boxed.step hbd hst' hs.row (by decide) (by omega), hst'.others, Part.next h1 h2 hk (not_mem_self D x) (by rw [hq]; exact hsa) hst'⟩
    have HS := Lib.hid hS
    have d1 := hbp.cell
    have d2 := hbk.cell
    rw [hK] at d2
    have HK := Lib.hid hK
    have HW1 : Hid (wrap64 ((K : Int) + 1) = (K : Int) + 1) := IntWalk.wrap64_in _ (by omega)
    by_cases hKL : K < L
    · obtain ⟨b, off, rfl, hbw, hby⟩ : ∃ b off, ad = some ⟨b, off, none⟩ ∧ b < w.heap.size ∧ ∀ j, j < bs.length → w.cell? ⟨b, off + j, none⟩ = some (.int .u8 (bs[j]?.getD 0)) := by
        rcases HLI.out with e | e
        · have := HL.out; rw [e] at this; simp at this; omega
        · exact e
      obtain ⟨y, hy⟩ : ∃ y, bs[K]?.getD 0 = y := ⟨_, rfl⟩
      obtain ⟨y0, y1⟩ := HBY.out K
      rw [hy] at y0 y1
      have d3 : W.cell? ⟨b, off + K, none⟩ = some (.int .u8 y) := by
        rw [← hy, ← hby K (by rw [HL.out]; exact hKL)]
        exact World.cell?_of_block (a := ⟨b, off + K, none⟩) (h2.out b hbw (HC.out (fun e => by have := HL.out; rw [e] at this; simp at this; omega) b off _ _ rfl))
      have hqy : q = y.toNat % (m + 1) := by rw [← hq, hgx, crashK, if_pos (by rw [HL.out]; exact hKL), hy]
      have hlt : (K : Int) < (L : Int) := by omega
      have HY0 : Hid (0 ≤ y) := y0
      have HY1 : Hid (y < 256) := y1
      have HQY : Hid (y % ((m : Int) + 1) = (q : Int)) := by
        show _ = _
        obtain ⟨z, rfl⟩ := Int.eq_ofNat_of_zero_le y0
        rw [hqy, Int.toNat_natCast, Int.natCast_emod, Int.natCast_add]
        rfl
      have HM : Hid ((m : Int) ≤ 1000000) := by have := hl x hk; show _ ≤ _; omega
      have hmx : Tryz.prog.follows .mixedOrders = true := by kernel_rfl
      clear hs hf hsx hm hgx hgm hq hS h1 h2 hk hvs hbp hbk hbd hc1 hc2 hK hKx hKL hby hy y0 y1 hqy hbw
      gi_wp2
      · have hm1 := HM.out
        have y0 := HY0.out
        have y1 := HY1.out
        refine region_plan_round (fun x => x = W.drew) 12 (.takes [0, 1, 2, 3, 4, 5, 6, 7, 8, 9, 10, 11] .leaf) (fun ⟨a, w, e⟩ => False.elim e) (by kernel_rfl) hmx (by kernel_rfl) (by intro c x v a w h; cases x <;> exact h) rfl ?_
        repeat (rw [wpPlan_takes_cons]; simp only [nth_zero, nth_succ]; go_big_quiet_step (fail); refine wpQuiet_nil ?_)
        rw [wpPlan_takes_nil, wpPlan_leaf]
        simp only [List.drop_succ_cons, List.drop_zero]
        rw [HQY.out]
        clear hm1 y0 y1
        go_wp2_with fail
        gi_wp2_with (refine ⟨trivial, ?_⟩; gi_at_call 114; refine (CallsIn.inRound l (callsIn_wide.2 (HS.out _ (.inr rfl)))).mono ?_; rintro e w' ⟨rfl, e1, e2, e3, e4, e5⟩; have e2c := e2.cell; have e2f := e2.frozen; have E1 := Lib.hid e1; have E2 := Lib.hid e2; have E3 := Lib.hid e3; have E4 := Lib.hid e4; have E5 := Lib.hid e5; clear e1 e2 e3 e4 e5)
        have HLT := HD.out
        rw [HW1.out]
        exact crash_end HLT hn HK.out E1.out E2.out E3.out E4.out E5.out (by omega)
    · have hq0 : q = 0 := by rw [← hq, hgx]; unfold crashK; rw [if_neg (by rw [HL.out]; exact hKL)]
      subst hq0
      have g1 : ¬ ((K : Int) < (L : Int)) := by omega
      clear hs hf hsx hm hgx hgm hq hS h1 h2 hk hvs hbp hbk hbd hc1 hc2 hK hKx hKL
      gi_wp2_with (refine ⟨trivial, ?_⟩; gi_at_call 114; refine (CallsIn.inRound l (callsIn_wide.2 (HS.out _ (.inl rfl)))).mono ?_; rintro e w' ⟨rfl, e1, e2, e3, e4, e5⟩; have e2c := e2.cell; have e2f := e2.frozen; have E1 := Lib.hid e1; have E2 := Lib.hid e2; have E3 := Lib.hid e3; have E4 := Lib.hid e4; have E5 := Lib.hid e5; clear e1 e2 e3 e4 e5)
      have HLT := HD.out
      rw [HW1.out]
      exact crash_end HLT hn HK.out E1.out E2.out E3.out E4.out E5.out (by omega)
  case done =>
    rintro Dd xs W hDd rfl ⟨-, -, hbd, sv', h1, h2⟩ hK
    gi_wp2
    refine ⟨by simp, .inl ⟨_, _, rfl, run_takeDeferred hK, ?_⟩⟩
    have hgr := grownBy_putObj' W Dd (.deferred none)
    exact ⟨_, results_none rfl _ _ _, rfl, _, ⟨sb, sv', h1.grown hn hgr (fun r e => by cases e; exact ⟨_, hK, rfl⟩), rfl⟩, h2.kept hgr (fun r e => by cases e; omega)⟩
  case stop =>
    rintro D c pre W _ h _
    exact h.elim

end Go.Proofs.YtbdfllamhcodjaaGreat

/- A disk that a statement has made, and what else it has made. -/
namespace Go.Proofs.YtbdfllamhcodjaaGreat
open Go.RowKit
set_option linter.unusedVariables false

theorem Sl.same {k : IntKind} {w w' : World} {v : Value} {bs : List Int} (h : Sl k w v bs) (hs : w.heap.size ≤ w'.heap.size) (hb : ∀ b, v.ownBlock = some b → w'.heap[b]? = w.heap[b]?) : Sl k w' v bs := by
  obtain ⟨a, cap, rfl, h1, h2, h3, h4⟩ := h
  refine ⟨a, cap, rfl, h1, h2, ?_, h4⟩
  rcases h3 with h3 | ⟨b, off, rfl, h5, h6⟩
  · exact .inl h3
  · exact .inr ⟨b, off, rfl, Nat.lt_of_lt_of_le h5 hs, fun j hj => (World.cell?_of_block (a := ⟨b, off + j, none⟩) (hb b rfl)).trans (h6 j hj)⟩
set_option maxRecDepth 100000 in
/-- A block that holds a block is read. -/
theorem load_at {w : World} {B : Nat} {c : List Value} (h : w.heap[B]? = some (.cells c.toArray 60 (0, 0))) (hc : IsBlk c) : (loadVar 60 ⟨B, 0, none⟩).run Tryz.prog w = .ok (.agg c.toArray) w :=
  load_blk (fun j x hx => by rw [cell_of_row _ _ _ _ _ _ h]; simpa using hx) hc.length

end Go.Proofs.YtbdfllamhcodjaaGreat

/- Things in memory, each with its blocks; two side by side; since when they are, and what else has been made. -/
namespace Go.Proofs.YtbdfllamhcodjaaGreat
open Go.RowKit
set_option linter.unusedVariables false

/-- A thing in memory: what it says of a world, and which blocks are its own. -/
abbrev Res := World → (Nat → Prop) → Prop

structure IsRes (P : Res) : Prop where
  out : ∀ {w w' : World} {f : Nat → Prop}, P w f → (∀ k, f k → w'.heap[k]? = w.heap[k]?) → P w' f
  lt : ∀ {w : World} {f : Nat → Prop}, P w f → ∀ k, f k → k < w.heap.size
  cells : ∀ {w : World} {f : Nat → Prop}, P w f → ∀ k, f k → ∀ ob, w.heap[k]? = some ob → ob.isCells = true

section
variable {P P' Q Q' : Res} {w w' w0 W W' : World} {f : Nat → Prop} {own : Nat → Prop}

theorem IsRes.below (hP : IsRes P) (h : P w f) (hb : Below w.heap.size w w') : P w' f := hP.out h fun k hk => hb.block k (hP.lt h k hk)
theorem IsRes.grown {row : Option Nat} (hP : IsRes P) (h : P w f) (hg : w.grownBy w' row) (hr : ∀ r, row = some r → ∃ o : Obj, w.heap[r]? = some o ∧ o.isCells = false) : P w' f :=
  hP.out h fun k hk => hg.block k (hP.lt h k hk) fun e => by
    obtain ⟨o, ho, hc⟩ := hr k e.symm
    rw [hP.cells h k hk o ho] at hc
    cases hc

/-- Two, apart from each other. -/
def Sep (P Q : Res) : Res := fun w f => ∃ f1 f2, P w f1 ∧ Q w f2 ∧ (∀ k, f1 k → ¬ f2 k) ∧ f = fun k => f1 k ∨ f2 k

theorem IsRes.sep (hP : IsRes P) (hQ : IsRes Q) : IsRes (Sep P Q) where
  out := by
    rintro w w' f ⟨f1, f2, h1, h2, h3, rfl⟩ hk
    exact ⟨f1, f2, hP.out h1 (fun k h => hk k (.inl h)), hQ.out h2 (fun k h => hk k (.inr h)), h3, rfl⟩
  lt := by
    rintro w f ⟨f1, f2, h1, h2, h3, rfl⟩ k hk
    exact hk.elim (hP.lt h1 k) (hQ.lt h2 k)
  cells := by
    rintro w f ⟨f1, f2, h1, h2, h3, rfl⟩ k hk
    exact hk.elim (hP.cells h1 k) (hQ.cells h2 k)

theorem Sep.swap (h : Sep P Q w f) : Sep Q P w f := by
  obtain ⟨f1, f2, h1, h2, h3, rfl⟩ := h
  exact ⟨f2, f1, h2, h1, fun k a b => h3 k b a, by funext k; exact propext or_comm⟩

/-- What turns one of them. -/
theorem Turn.first (hP : IsRes P) (hQ : IsRes Q) {f1 f2 : Nat → Prop} (h1 : P w f1) (h2 : Q w f2) (h3 : ∀ k, f1 k → ¬ f2 k) (h : ∃ f1', P' w' f1' ∧ Turn f1 f1' w w') : ∃ f', Sep P' Q w' f' ∧ Turn (fun k => f1 k ∨ f2 k) f' w w' := by
  obtain ⟨f1', g1, g2⟩ := h
  refine ⟨_, ⟨f1', f2, g1, hQ.out h2 (fun k hk => g2.out k (hQ.lt h2 k hk) (fun h => h3 k h hk)), fun k a b => ?_, rfl⟩, ⟨g2.still, g2.others, fun k hk hn => g2.out k hk (fun h => hn (.inl h)), fun k hk => ?_⟩⟩
  · rcases g2.new k a with h | h
    · exact h3 k h b
    · have := hQ.lt h2 k b; omega
  · rcases hk with hk | hk
    · exact (g2.new k hk).imp .inl id
    · exact .inl (.inr hk)

set_option maxRecDepth 100000 in
theorem Sep.first {g : FuncId} {args : Array Value} {R : Ending → World → Prop} (hP : IsRes P) (hQ : IsRes Q) (h : Sep P Q w f)
    (hc : ∀ f1, P w f1 → Calls Tryz.prog g args w fun e w' => R e w' ∧ ∃ f1', P' w' f1' ∧ Turn f1 f1' w w') : Calls Tryz.prog g args w fun e w' => R e w' ∧ ∃ f', Sep P' Q w' f' ∧ Turn f f' w w' := by
  obtain ⟨f1, f2, h1, h2, h3, rfl⟩ := h
  exact (hc f1 h1).mono fun e w' ⟨hr, h⟩ => ⟨hr, Turn.first hP hQ h1 h2 h3 h⟩

set_option maxRecDepth 100000 in
theorem Sep.second {g : FuncId} {args : Array Value} {R : Ending → World → Prop} (hP : IsRes P) (hQ : IsRes Q) (h : Sep P Q w f)
    (hc : ∀ f2, Q w f2 → Calls Tryz.prog g args w fun e w' => R e w' ∧ ∃ f2', Q' w' f2' ∧ Turn f2 f2' w w') : Calls Tryz.prog g args w fun e w' => R e w' ∧ ∃ f', Sep P Q' w' f' ∧ Turn f f' w w' :=
  (Sep.first hQ hP h.swap hc).mono fun e w' ⟨hr, f', h1, h2⟩ => ⟨hr, f', h1.swap, h2⟩

/-- Since w0 it has been made; the blocks own are no part of it. -/
def AtR (P : Res) (w0 W : World) (own : Nat → Prop) : Prop := ∃ f, P W f ∧ (∀ k, f k → w0.heap.size ≤ k ∧ ¬ own k) ∧ (∀ k, own k → k < W.heap.size) ∧ Below w0.heap.size w0 W

theorem AtR.bel (h : AtR P w0 W own) : Below w0.heap.size w0 W := by obtain ⟨f, h1, h2, h3, h4⟩ := h; exact h4
theorem AtR.size (h : AtR P w0 W own) : w0.heap.size ≤ W.heap.size := h.bel.size
theorem AtR.lt (h : AtR P w0 W own) {B : Nat} (hB : own B) : B < W.heap.size := by obtain ⟨f, h1, h2, h3, h4⟩ := h; exact h3 B hB
/-- What is made beside it may be owned. -/
theorem AtR.below (hP : IsRes P) (h : AtR P w0 W own) (hb : Below W.heap.size W W') (own' : Nat → Prop) (ho : ∀ k, own' k → own k ∨ (W.heap.size ≤ k ∧ k < W'.heap.size)) : AtR P w0 W' own' := by
  obtain ⟨f, h1, h2, h3, h4⟩ := h
  refine ⟨f, hP.below h1 hb, fun k hk => ⟨(h2 k hk).1, fun h' => ?_⟩, fun k hk => ?_, h4.trans (hb.mono h4.size)⟩
  · rcases ho k h' with h' | ⟨h', _⟩
    · exact (h2 k hk).2 h'
    · have := hP.lt h1 k hk; omega
  · rcases ho k hk with h' | ⟨_, h'⟩
    · exact Nat.lt_of_lt_of_le (h3 k h') hb.size
    · exact h'
theorem AtR.beside (hP : IsRes P) (h : AtR P w0 W own) (hb : Below W.heap.size W W') : AtR P w0 W' own := h.below hP hb own fun _ h => .inl h
theorem AtR.less (h : AtR P w0 W own) (own' : Nat → Prop) (ho : ∀ k, own' k → own k) : AtR P w0 W own' := by
  obtain ⟨f, h1, h2, h3, h4⟩ := h
  exact ⟨f, h1, fun k hk => ⟨(h2 k hk).1, fun h' => (h2 k hk).2 (ho k h')⟩, fun k hk => h3 k (ho k hk), h4⟩
/-- A cell of what is owned is written. -/
theorem AtR.owned (hP : IsRes P) (h : AtR P w0 W own) {B : Nat} (hB : own B) (hw : w0.heap.size ≤ B) (W' : World) (hb : Below B W W') (hs : ∀ k, k < W.heap.size → k ≠ B → W'.heap[k]? = W.heap[k]?) (hsz : W'.heap.size = W.heap.size) : AtR P w0 W' own := by
  obtain ⟨f, h1, h2, h3, h4⟩ := h
  exact ⟨f, hP.out h1 (fun k hk => hs k (hP.lt h1 k hk) (fun e => (h2 k hk).2 (e ▸ hB))), h2, fun k hk => by rw [hsz]; exact h3 k hk, h4.trans (hb.mono hw)⟩
theorem AtR.setCell (hP : IsRes P) (h : AtR P w0 W own) {B k : Nat} (hB : own B) (hw : w0.heap.size ≤ B) (u : Value) : AtR P w0 (W.setCell ⟨B, k, none⟩ u) own :=
  h.owned hP hB hw _ ((Below.refl B W).setCell (p := ⟨B, k, none⟩) (Nat.le_refl _) u) (fun j _ hj => Below.heap_setCell _ _ _ j (fun e => hj e)) (size_setCell _ _ _)
theorem AtR.turned (hP' : IsRes P') {f : Nat → Prop} (h2 : ∀ k, f k → w0.heap.size ≤ k ∧ ¬ own k) (h3 : ∀ k, own k → k < W.heap.size) (h4 : Below w0.heap.size w0 W)
    (h : ∃ f', P' W' f' ∧ Turn f f' W W') : AtR P' w0 W' own ∧ ∀ k, own k → W'.heap[k]? = W.heap[k]? := by
  obtain ⟨f', g1, g2⟩ := h
  refine ⟨⟨f', g1, fun k hk => ?_, fun k hk => Nat.lt_of_lt_of_le (h3 k hk) g2.size, h4.trans (g2.below h4.size (fun k hk => (h2 k hk).1))⟩, fun k hk => g2.out k (h3 k hk) (fun h' => (h2 k h').2 hk)⟩
  rcases g2.new k hk with h' | h'
  · exact h2 k h'
  · exact ⟨Nat.le_trans h4.size h', fun ho => by have := h3 k ho; omega⟩
set_option maxRecDepth 100000 in
/-- A call that turns it. -/
theorem AtR.call {g : FuncId} {args : Array Value} {R : Ending → World → Prop} (hP' : IsRes P') (h : AtR P w0 W own)
    (hc : ∀ f, P W f → (∀ k, f k → w0.heap.size ≤ k ∧ ¬ own k) → Calls Tryz.prog g args W fun e w' => R e w' ∧ ∃ f', P' w' f' ∧ Turn f f' W w') :
    Calls Tryz.prog g args W fun e w' => R e w' ∧ AtR P' w0 w' own ∧ ∀ k, own k → w'.heap[k]? = W.heap[k]? := by
  obtain ⟨f, h1, h2, h3, h4⟩ := h
  exact (hc f h1 h2).mono fun e w' ⟨hr, h⟩ => ⟨hr, AtR.turned hP' h2 h3 h4 h⟩
set_option maxRecDepth 100000 in
/-- A call that reads it. -/
theorem AtR.look {g : FuncId} {args : Array Value} {R : Ending → World → Prop} (h : AtR P w0 W own) (hc : ∀ f, P W f → Calls Tryz.prog g args W R) : Calls Tryz.prog g args W R := by
  obtain ⟨f, h1, h2, h3, h4⟩ := h
  exact hc f h1
end

/-- A block of cells. -/
def RowR (B : Nat) (a : Array Value) (t : TypeId) : Res := fun w f => w.heap[B]? = some (.cells a t (0, 0)) ∧ f = fun k => k = B
theorem RowR.isRes (B : Nat) (a : Array Value) (t : TypeId) : IsRes (RowR B a t) where
  out := by rintro w w' f ⟨h1, rfl⟩ hk; exact ⟨(hk B rfl).trans h1, rfl⟩
  lt := by rintro w f ⟨h1, rfl⟩ k rfl; exact (Array.getElem?_eq_some_iff.1 h1).1
  cells := by rintro w f ⟨h1, rfl⟩ k rfl ob ho; rw [h1] at ho; cases ho; rfl
theorem heap_set_same {w : World} {B : Nat} {a : Array Value} {t : TypeId} (h : w.heap[B]? = some (.cells a t (0, 0))) (j : Nat) (v : Value) : (w.setCell ⟨B, j, none⟩ v).heap[B]? = some (.cells (a.setIfInBounds j v) t (0, 0)) := by
  obtain ⟨hlt, hk⟩ := Array.getElem?_eq_some_iff.1 h
  show (w.heap.modify B _)[B]? = _
  rw [Array.getElem?_eq_getElem (by rw [Array.size_modify]; exact hlt), Array.getElem_modify_self, hk]
  rfl
theorem turn_setCell (w : World) (B j : Nat) (v : Value) {f : Nat → Prop} (hB : f B) : Turn f f w (w.setCell ⟨B, j, none⟩ v) :=
  ⟨⟨rfl, rfl, rfl⟩, KeepsOthers.setCell _ _ _, fun k hk hn => Below.heap_setCell _ _ _ k (fun e => hn (e ▸ hB)), fun k hk => .inl hk⟩
/-- One of its cells is written, beside something else. -/
theorem Sep.set {R : Res} {B : Nat} {a : Array Value} {t : TypeId} {w : World} {f : Nat → Prop} (hR : IsRes R) (h : Sep (RowR B a t) R w f) (j : Nat) (v : Value) :
    Sep (RowR B (a.setIfInBounds j v) t) R (w.setCell ⟨B, j, none⟩ v) f ∧ Turn f f w (w.setCell ⟨B, j, none⟩ v) := by
  obtain ⟨f1, f2, ⟨h1, rfl⟩, h2, h3, rfl⟩ := h
  exact ⟨⟨_, f2, ⟨heap_set_same h1 j v, rfl⟩, hR.out h2 (fun k hk => Below.heap_setCell _ _ _ k (fun e => h3 k e hk)), h3, rfl⟩, turn_setCell w B j v (.inl rfl)⟩
theorem Sep.cell {R : Res} {B : Nat} {a : Array Value} {t : TypeId} {w : World} {f : Nat → Prop} (h : Sep (RowR B a t) R w f) (j : Nat) : w.cell? ⟨B, j, none⟩ = a[j]? := by
  obtain ⟨f1, f2, ⟨h1, rfl⟩, h2, h3, rfl⟩ := h
  exact cell_of_row _ _ _ _ _ _ h1
theorem Sep.frozen {R : Res} {B : Nat} {a : Array Value} {t : TypeId} {w : World} {f : Nat → Prop} (h : Sep (RowR B a t) R w f) (j : Nat) : w.frozen? ⟨B, j, none⟩ = false := by
  obtain ⟨f1, f2, ⟨h1, rfl⟩, h2, h3, rfl⟩ := h
  simp [World.frozen?, h1]

/-- A disk. -/
def DskR (p n : Nat) (D : Nat → Sec) : Res := fun w f => Disk w p n f D ∧ 0 < n
theorem DskR.isRes (p n : Nat) (D : Nat → Sec) : IsRes (DskR p n D) where
  out := fun h hk => ⟨h.1.out hk, h.2⟩
  lt := fun h => h.1.lt h.2
  cells := by
    rintro w f ⟨⟨sb, sv, h, rfl⟩, hn⟩ k hk ob ho
    exact h.isCells hn hk ho
end Go.Proofs.YtbdfllamhcodjaaGreat

/- A rig in memory; which disk it has; one more goes through. -/
namespace Go.Proofs.YtbdfllamhcodjaaGreat
open Go.RowKit Go.Shelf
set_option linter.unusedVariables false
attribute [-simp] Tryz.isAgg60 Tryz.zeroValue60
attribute [-go_sem] loadVar storeVar
attribute [local go_sem] zero_blk build_blk loadVar_open storeVar_open
attribute [local go_sem] Oper.semAt_some

/-- What a rig holds. -/
structure RS where
  n0 : Nat
  n1 : Nat
  D0 : Nat → Sec
  D1 : Nat → Sec
  fuse : Int
  down : Bool
  done : Int

/-- Where its disks are. -/
def RS.head (p0 p1 : Nat) (S : RS) : Array Value := #[.pointer (some ⟨p0, 0, none⟩), .pointer (some ⟨p1, 0, none⟩), .int .i64 S.fuse, .bool S.down, .int .i64 S.done]
def RS.disks (p0 p1 : Nat) (S : RS) : Res := Sep (DskR p0 S.n0 S.D0) (DskR p1 S.n1 S.D1)
theorem RS.disks_isRes (p0 p1 : Nat) (S : RS) : IsRes (S.disks p0 p1) := (DskR.isRes _ _ _).sep (DskR.isRes _ _ _)
/-- A rig at block rb. -/
def RigR (rb p0 p1 : Nat) (S : RS) : Res := Sep (RowR rb (S.head p0 p1) 96) (S.disks p0 p1)
theorem RigR.isRes (rb p0 p1 : Nat) (S : RS) : IsRes (RigR rb p0 p1 S) := (RowR.isRes _ _ _).sep (S.disks_isRes p0 p1)

/-- Does one more go through? What it is then. -/
def RS.ok (S : RS) : Bool := !S.down && decide (S.fuse ≠ 0)
def RS.after (S : RS) : RS := if S.ok = true then { S with fuse := if 0 < S.fuse then S.fuse - 1 else S.fuse, done := S.done + 1 } else { S with down := true }
structure RS.Fit (S : RS) : Prop where
  fuse : 0 < S.fuse → wrap64 (S.fuse - 1) = S.fuse - 1
  done : wrap64 (S.done + 1) = S.done + 1

set_option maxRecDepth 100000 in
set_option maxHeartbeats 2000000 in
/-- **passes**. -/
theorem passes_at (rb p0 p1 : Nat) (S : RS) (f : Nat → Prop) (w : World) (h : RigR rb p0 p1 S w f) (hS : S.Fit) :
    Calls Tryz.prog 73 #[.pointer (some ⟨rb, 0, none⟩)] w fun e w' => e = .returned (.bool S.ok) ∧ ∃ f', RigR rb p0 p1 S.after w' f' ∧ Turn f f' w w' := by
  have hR := S.disks_isRes p0 p1
  have c2 : w.cell? ⟨rb, 2, none⟩ = some (.int .i64 S.fuse) := h.cell 2
  have c3 : w.cell? ⟨rb, 3, none⟩ = some (.bool S.down) := h.cell 3
  have c4 : w.cell? ⟨rb, 4, none⟩ = some (.int .i64 S.done) := h.cell 4
  have r2 := h.frozen 2
  have r3 := h.frozen 3
  have r4 := h.frozen 4
  have HF := Lib.hid hS.fuse
  have HD := hS.done
  have H := Lib.hid h
  obtain ⟨fu, hfu⟩ : ∃ x, S.fuse = x := ⟨_, rfl⟩
  obtain ⟨dn, hdn⟩ : ∃ x, S.done = x := ⟨_, rfl⟩
  obtain ⟨dw, hdw⟩ : ∃ x, S.down = x := ⟨_, rfl⟩
  have EF := Lib.hid hfu
  have ED := Lib.hid hdn
  have EW := Lib.hid hdw
  rw [hfu] at c2 HF
  rw [hdn] at c4 HD
  rw [hdw] at c3
  clear h hS hfu hdn hdw
  by_cases h0 : fu = 0
  · subst h0
    have HE : Hid (S.ok = false) := by show _ = _; simp [RS.ok, EF.out]
    have HA : Hid ({ S with down := true } = S.after) := by show _ = _; unfold RS.after; rw [if_neg (by rw [HE.out]; simp)]
    go_enter Tryz.func73, Tryz.ntmps73
    go_wp2
    go_ret
    obtain ⟨g1, g2⟩ := H.out.set hR 3 (.bool true)
    rw [HE.out, ← HA.out]
    exact ⟨rfl, f, g1, g2⟩
  · have q0 : (fu == 0) = false := by simpa using h0
    cases dw with
    | true =>
      have HE : Hid (S.ok = false) := by show _ = _; simp [RS.ok, EW.out]
      have HA : Hid (S = S.after) := by show _ = _; unfold RS.after; rw [if_neg (by rw [HE.out]; simp)]; cases S; simp at *; exact EW.out
      go_enter Tryz.func73, Tryz.ntmps73
      go_wp2
      go_ret
      rw [HE.out, ← HA.out]
      exact ⟨rfl, f, H.out, Turn.refl _ _⟩
    | false =>
      have HE : Hid (S.ok = true) := by show _ = _; simp [RS.ok, EW.out, EF.out, h0]
      by_cases h1 : 0 < fu
      · have HA : Hid ({ S with fuse := fu - 1, done := dn + 1 } = S.after) := by show _ = _; unfold RS.after; rw [if_pos HE.out, EF.out, ED.out, if_pos h1]
        have HF1 := HF.out h1
        have r2' : (w.setCell ⟨rb, 2, none⟩ (.int .i64 (fu - 1))).frozen? ⟨rb, 4, none⟩ = false := by rw [World.frozen?_setCell]; exact r4
        clear HF
        go_enter Tryz.func73, Tryz.ntmps73
        go_wp2
        go_ret
        obtain ⟨g1, g2⟩ := H.out.set hR 2 (.int .i64 (fu - 1))
        obtain ⟨g3, g4⟩ := g1.set hR 4 (.int .i64 (dn + 1))
        rw [HE.out, ← HA.out]
        exact ⟨rfl, f, g3, g2.trans g4⟩
      · have HA : Hid ({ S with done := dn + 1 } = S.after) := by show _ = _; unfold RS.after; rw [if_pos HE.out, EF.out, ED.out, if_neg h1]
        clear HF
        go_enter Tryz.func73, Tryz.ntmps73
        go_wp2
        go_ret
        obtain ⟨g1, g2⟩ := H.out.set hR 4 (.int .i64 (dn + 1))
        rw [HE.out, ← HA.out]
        exact ⟨rfl, f, g1, g2⟩
end Go.Proofs.YtbdfllamhcodjaaGreat

/- The disks of a rig, one by one; the disk with a number. -/
namespace Go.Proofs.YtbdfllamhcodjaaGreat
open Go.RowKit Go.Shelf
set_option linter.unusedVariables false
attribute [-simp] Tryz.isAgg60 Tryz.zeroValue60
attribute [-go_sem] loadVar storeVar
attribute [local go_sem] zero_blk build_blk loadVar_open storeVar_open
attribute [local go_sem] Oper.semAt_some

set_option maxRecDepth 100000 in
theorem index_d0 (a b : Option Addr) (w : World) : (Instr.index 94 (.agg #[.pointer a, .pointer b]) (.int .i64 0)).run Tryz.prog w = .ok (.pointer a) w := by kernel_rfl
set_option maxRecDepth 100000 in
theorem index_d1 (a b : Option Addr) (w : World) : (Instr.index 94 (.agg #[.pointer a, .pointer b]) (.int .i64 1)).run Tryz.prog w = .ok (.pointer b) w := by kernel_rfl
attribute [local go_sem] index_d0 index_d1

/-- What comes: a disk's number, and the disk. -/
def dsk (p0 p1 i : Nat) : Nat := if i = 0 then p0 else p1
def encD (p0 p1 : Nat) (i : Nat) : Array Value := #[.int .i64 (i : Int), .pointer (some ⟨dsk p0 p1 i, 0, none⟩)]
/-- What must be so between two rounds. -/
def DisksR (Bd rb p0 p1 : Nat) (W : World) : Prop := Boxed W Bd 30 (.pointer (some ⟨rb, 0, none⟩)) ∧ W.cell? ⟨rb, 0, none⟩ = some (.pointer (some ⟨p0, 0, none⟩)) ∧ W.cell? ⟨rb, 0 + 1, none⟩ = some (.pointer (some ⟨p1, 0, none⟩))
def DisksOk (pre : List Nat) (x : Nat) : Prop := (pre = [] ∧ x = 0) ∨ (pre = [0] ∧ x = 1)

set_option maxRecDepth 100000 in
set_option maxHeartbeats 2000000 in
theorem disks_by (Bd rb p0 p1 : Nat) (w : World) : SeqBy Fence.wide 2 Tryz.prog 112 #[.pointer (some ⟨Bd, 0, none⟩)] (encD p0 p1) (fun _ W => DisksR Bd rb p0 p1 W) DisksOk (fun xs => xs = [0, 1]) w := by
  intro l J Jx W _ hR _ _ hY h0
  refine callsIn_of_wp Tryz.func112 rfl trivial ?_ rfl
  simp only [Tryz.ntmps112, List.size_toArray, List.length_cons, List.length_nil, Nat.reduceAdd, Nat.reduceSub, Array.replicate_succ, Array.replicate_zero, List.push_toArray, List.append_toArray, List.nil_append, List.cons_append]
  obtain ⟨hbx, c0, c1⟩ := hR _ _ h0
  have hbc := hbx.cell
  clear hbx
  gi_wp2
  clear hbc c0 c1
  gi_loopw [11] (fun i wr => (i = .int .i64 0 ∧ J [] wr) ∨ (i = .int .i64 1 ∧ J [0] wr) ∨ (i = .int .i64 2 ∧ J [0, 1] wr)) (fun i _ => 2 - (intOf i).toNat)
  case atStart => exact .inl ⟨rfl, h0⟩
  case round =>
    rcases hrel with ⟨rfl, hJ⟩ | ⟨rfl, hJ⟩ | ⟨rfl, hJ⟩
    · obtain ⟨fn, tmps, assign, body, hy0, hYr⟩ := hY [] 0 wr hJ (.inl ⟨rfl, rfl⟩)
      have hy : (Instr.yield l #[.int .i64 0, .pointer (some ⟨p0, 0, none⟩)]).run Tryz.prog wr = _ := hy0
      clear hy0
      gi_wp2
      refine hYr.mono ?_
      rintro e W3 (⟨rfl, hJ3⟩ | ⟨rfl, hJx3⟩)
      · gi_wp2
        go_roundw
        case rel => exact .inr (.inl ⟨rfl, hJ3⟩)
        case measure => simp [intOf]
      · gi_wp2
        refine bodyPost_ret (results_none rfl _ _ _) rfl ?_
        exact ⟨⟨_, rfl⟩, .inr ⟨_, hJx3⟩⟩
    · obtain ⟨fn, tmps, assign, body, hy0, hYr⟩ := hY [0] 1 wr hJ (.inr ⟨rfl, rfl⟩)
      have hy : (Instr.yield l #[.int .i64 1, .pointer (some ⟨p1, 0, none⟩)]).run Tryz.prog wr = _ := hy0
      clear hy0
      gi_wp2
      refine hYr.mono ?_
      rintro e W3 (⟨rfl, hJ3⟩ | ⟨rfl, hJx3⟩)
      · gi_wp2
        go_roundw
        case rel => exact .inr (.inr ⟨rfl, hJ3⟩)
        case measure => simp [intOf]
      · gi_wp2
        refine bodyPost_ret (results_none rfl _ _ _) rfl ?_
        exact ⟨⟨_, rfl⟩, .inr ⟨_, hJx3⟩⟩
    · gi_wp2
      go_end0
      exact ⟨⟨_, rfl⟩, .inl ⟨_, rfl, hJ⟩⟩

set_option maxRecDepth 100000 in
set_option maxHeartbeats 2000000 in
/-- Of a nil rig none comes. -/
theorem disks_nil_by (Bd : Nat) (encs : Nat → Array Value) (w : World) : SeqBy Fence.wide 2 Tryz.prog 112 #[.pointer (some ⟨Bd, 0, none⟩)] encs (fun _ W => Boxed W Bd 30 (.pointer none)) (fun _ _ => False) (fun xs => xs = []) w := by
  intro l J Jx W _ hR _ _ _ h0
  refine callsIn_of_wp Tryz.func112 rfl trivial ?_ rfl
  simp only [Tryz.ntmps112, List.size_toArray, List.length_cons, List.length_nil, Nat.reduceAdd, Nat.reduceSub, Array.replicate_succ, Array.replicate_zero, List.push_toArray, List.append_toArray, List.nil_append, List.cons_append]
  have hbc := (hR _ _ h0).cell
  gi_wp2
  refine bodyPost_ret (results_none rfl _ _ _) rfl ?_
  exact ⟨⟨_, rfl⟩, .inl h0⟩

set_option maxRecDepth 100000 in
set_option maxHeartbeats 1000000 in
theorem disks_in (F : Fence) (n : Nat) (hf : F.fn 68) (hro : F.round = none) (p : Option Addr) (w : World) :
    CallsIn F n Tryz.prog 68 #[.pointer p] w fun e w' => e = .returned (.func (.func 112) #[] #[.pointer (some ⟨w.heap.size, 0, none⟩)]) ∧ w' = w.alloc (.cells #[.pointer p] 30) := by
  refine callsIn_of_wp Tryz.func68 rfl hf ?_ hro
  simp only [Tryz.ntmps68, List.size_toArray, List.length_cons, List.length_nil, Nat.reduceAdd, Nat.reduceSub, Array.replicate_succ, Array.replicate_zero, List.push_toArray, List.append_toArray, List.nil_append, List.cons_append]
  gi_wp2
  go_ret
  exact ⟨rfl, rfl⟩
end Go.Proofs.YtbdfllamhcodjaaGreat

/- The disk with a number. -/
namespace Go.Proofs.YtbdfllamhcodjaaGreat
open Go.RowKit Go.Shelf
set_option linter.unusedVariables false
attribute [-simp] Tryz.isAgg60 Tryz.zeroValue60
attribute [-go_sem] loadVar storeVar
attribute [local go_sem] zero_blk build_blk loadVar_open storeVar_open
attribute [local go_sem] Oper.semAt_some

/-- Which disk has this number. -/
def dk (p0 p1 : Nat) (dev : Int) : Option Addr := if dev = 0 then some ⟨p0, 0, none⟩ else if dev = 1 then some ⟨p1, 0, none⟩ else none

set_option maxRecDepth 100000 in
set_option maxHeartbeats 2000000 in
/-- **disk**. -/
theorem disk_in (rb p0 p1 : Nat) (dev : Int) (w : World) (hlt : rb < w.heap.size) (hc0 : w.cell? ⟨rb, 0, none⟩ = some (.pointer (some ⟨p0, 0, none⟩))) (hc1 : w.cell? ⟨rb, 1, none⟩ = some (.pointer (some ⟨p1, 0, none⟩))) :
    Calls Tryz.prog 71 #[.pointer (some ⟨rb, 0, none⟩), .int .i64 dev] w fun e w' => e = .returned (.pointer (dk p0 p1 dev)) ∧ Below w.heap.size w w' := by
  refine (callsIn_wide (n := 3)).1 ?_
  refine callsIn_of_wp_marks Tryz.func71 rfl trivial ?_ rfl
  simp only [Tryz.ntmps71, List.size_toArray, List.length_cons, List.length_nil, Nat.reduceAdd, Nat.reduceSub, Array.replicate_succ, Array.replicate_zero, List.push_toArray, List.append_toArray, List.nil_append, List.cons_append]
  have C0 := Lib.hid hc0
  have C1 := Lib.hid hc1
  have HLT := Lib.hid hlt
  clear hc0 hc1 hlt
  gi_wp2_with (refine ⟨trivial, ?_⟩; gi_at_call 68; refine (disks_in _ _ trivial rfl _ _).mono ?_; rintro e w' ⟨rfl, rfl⟩)
  obtain ⟨W0, hW0⟩ : ∃ W0, ((w.alloc (.cells #[.int .i64 dev] 3)).alloc (.cells #[.pointer none] 91)).alloc (.cells #[.pointer (some ⟨rb, 0, none⟩)] 30) = W0 := ⟨_, rfl⟩
  have bv : Boxed W0 w.heap.size 3 (.int .i64 dev) := by rw [← hW0]; exact ((Boxed.new w _ _).alloc _).alloc _
  have br : Boxed W0 (w.heap.size + 1) 91 (.pointer none) := by
    rw [← hW0]
    have := (Boxed.new (w.alloc (.cells #[.int .i64 dev] 3)) 91 (.pointer none)).alloc (.cells #[.pointer (some ⟨rb, 0, none⟩)] 30)
    rwa [World.size_alloc] at this
  have bd : Boxed W0 (w.heap.size + 1 + 1) 30 (.pointer (some ⟨rb, 0, none⟩)) := by
    rw [← hW0]
    have := Boxed.new ((w.alloc (.cells #[.int .i64 dev] 3)).alloc (.cells #[.pointer none] 91)) 30 (.pointer (some ⟨rb, 0, none⟩))
    rwa [World.size_alloc, World.size_alloc] at this
  have hB0 : Below w.heap.size w W0 := by rw [← hW0]; exact (((Below.refl _ w).alloc (Nat.le_refl _) _).alloc (by simp) _).alloc (by simp; omega) _
  have hsz0 : W0.heap.size = w.heap.size + 3 := by rw [← hW0]; simp
  rw [hW0]
  clear hW0
  refine wpIn_rangeFunc_by (n := 3) rfl (by omega) (gf := 112) (lb := #[.pointer (some ⟨w.heap.size + 1 + 1, 0, none⟩)]) rfl trivial (enters_of Tryz.func112 (by kernel_rfl) rfl)
    (fun pre W => Boxed W w.heap.size 3 (.int .i64 dev) ∧ Boxed W (w.heap.size + 1) 91 (.pointer none) ∧ Boxed W (w.heap.size + 1 + 1) 30 (.pointer (some ⟨rb, 0, none⟩)) ∧ Below w.heap.size w W ∧ ∀ y : Nat, y ∈ pre → (y : Int) ≠ dev)
    (fun c pre W => c = .ret ∧ Boxed W (w.heap.size + 1) 91 (.pointer (dk p0 p1 dev)) ∧ Below w.heap.size w W)
    ((disks_by (w.heap.size + 1 + 1) rb p0 p1 W0).mono fun pre W hI => ⟨hI.2.2.1, (hI.2.2.2.1.cell (p := ⟨rb, 0, none⟩) HLT.out).trans C0.out, (hI.2.2.2.1.cell (p := ⟨rb, 1, none⟩) HLT.out).trans C1.out⟩)
    (Below.refl _ _) (fun _ => rfl)
    ((boxed_from _ _ (fun _ => .int .i64 dev) _).and ((boxed_from _ _ (fun _ => .pointer none) _).and ((boxed_from _ _ (fun _ => .pointer (some ⟨rb, 0, none⟩)) _).and ((ownFrom_below (Nat.le_refl _) (by omega)).and (fun s W W' row hs hg hr => hs)))))
    (fun c => OwnFrom.and (fun s W W' row hs hg hr => hs) ((boxed_from _ _ (fun _ => .pointer (dk p0 p1 dev)) _).and (ownFrom_below (Nat.le_refl _) (by omega))))
    ⟨bv, br, bd, hB0, fun y hy => by cases hy⟩ ?a1 ?assign ?body ?done ?stop
  case assign =>
    intro l x W K hK
    dsimp only [encD]
    gi_wp2
    exact hK
  case body =>
    rintro l pre x W ⟨hbv, hbr, hbd, hB, hne⟩ hok
    have d1 := hbv.cell
    have d2 := hbr.cell
    have d3 := hbr.frozen
    have HBV := Lib.hid hbv
    have HBR := Lib.hid hbr
    have HBD := Lib.hid hbd
    have HB := Lib.hid hB
    have HNE := Lib.hid hne
    have HOK := Lib.hid hok
    obtain ⟨p, hp⟩ : ∃ p, dsk p0 p1 x = p := ⟨_, rfl⟩
    have HP := Lib.hid hp
    rw [hp]
    clear hbv hbr hbd hB hne hok hp
    by_cases q : (x : Int) = dev
    · have q1 : ((x : Int) == dev) = true := by simpa using q
      have HQ := Lib.hid q
      clear q
      gi_wp2
      have e : dk p0 p1 dev = some ⟨p, 0, none⟩ := by
        rw [← HQ.out, ← HP.out]
        rcases HOK.out with ⟨_, rfl⟩ | ⟨_, rfl⟩ <;> simp [dk, dsk]
      rw [e]
      exact ⟨(KeepsOthers.setCell _ _ _).from _, rfl, HBR.out.set _, HB.out.setCell (p := ⟨w.heap.size + 1, 0, none⟩) (by simp) _⟩
    · have q1 : ((x : Int) == dev) = false := by simpa using q
      have HQ := Lib.hid q
      clear q
      gi_wp2
      refine ⟨(KeepsOthers.refl _).from _, trivial, HBV.out, HBR.out, HBD.out, HB.out, fun y hy => ?_⟩
      rcases List.mem_append.1 hy with hy | hy
      · exact HNE.out y hy
      · rw [List.mem_singleton.1 hy]; exact HQ.out
  case done =>
    rintro Dd xs W hDd rfl ⟨hbv, hbr, hbd, hB, hne⟩ hK
    have d2 := hbr.cell
    have d3 := hbr.frozen
    have e : dk p0 p1 dev = none := by
      have h0 := hne 0 (by simp)
      have h1 := hne 1 (by simp)
      unfold dk
      rw [if_neg (fun h => h0 (by simp [h])), if_neg (fun h => h1 (by simp [h]))]
    have HE := Lib.hid e
    clear e
    gi_wp2
    have hK' := (KeepsOthers.setCell W ⟨w.heap.size + 1, 0, none⟩ (.pointer none)).same Dd _ hK rfl
    refine ⟨by simp, .inl ⟨_, _, rfl, run_takeDeferred hK', ?_⟩⟩
    have hc5 := cell_kept (hbr.set (.pointer none)).cell (grownBy_putObj' _ Dd (.deferred none)) (fun r e => by cases e; exact ⟨_, hK', rfl⟩)
    refine ⟨.pointer none, ?_, by rw [HE.out], (hB.setCell (p := ⟨w.heap.size + 1, 0, none⟩) (by simp) _).trans (belowK_b (w := w) (Nat.le_refl _) _ Dd _ _ (by omega) hK' rfl rfl)⟩
    simp [results, Tryz.f71, go_sem, hc5]
  case stop =>
    rintro Dd c pre W hDd ⟨rfl, hbr, hB⟩ hK
    gi_wp2
    refine ⟨by simp, .inl ⟨_, _, rfl, run_takeDeferred hK, ?_⟩⟩
    have hc5 := cell_kept hbr.cell (grownBy_putObj' _ Dd (.deferred none)) (fun r e => by cases e; exact ⟨_, hK, rfl⟩)
    refine ⟨.pointer (dk p0 p1 dev), ?_, rfl, hB.trans (belowK_b (w := w) (Nat.le_refl _) W Dd _ _ (by omega) hK rfl rfl)⟩
    simp [results, Tryz.f71, go_sem, hc5]

set_option maxRecDepth 100000 in
set_option maxHeartbeats 2000000 in
/-- **disk**, of a nil rig. -/
theorem disk_nil (dev : Int) (w : World) :
    Calls Tryz.prog 71 #[.pointer none, .int .i64 dev] w fun e w' => e = .returned (.pointer none) ∧ Below w.heap.size w w' := by
  refine (callsIn_wide (n := 3)).1 ?_
  refine callsIn_of_wp_marks Tryz.func71 rfl trivial ?_ rfl
  simp only [Tryz.ntmps71, List.size_toArray, List.length_cons, List.length_nil, Nat.reduceAdd, Nat.reduceSub, Array.replicate_succ, Array.replicate_zero, List.push_toArray, List.append_toArray, List.nil_append, List.cons_append]
  gi_wp2_with (refine ⟨trivial, ?_⟩; gi_at_call 68; refine (disks_in _ _ trivial rfl _ _).mono ?_; rintro e w' ⟨rfl, rfl⟩)
  obtain ⟨W0, hW0⟩ : ∃ W0, ((w.alloc (.cells #[.int .i64 dev] 3)).alloc (.cells #[.pointer none] 91)).alloc (.cells #[.pointer none] 30) = W0 := ⟨_, rfl⟩
  have br : Boxed W0 (w.heap.size + 1) 91 (.pointer none) := by
    rw [← hW0]
    have := (Boxed.new (w.alloc (.cells #[.int .i64 dev] 3)) 91 (.pointer none)).alloc (.cells #[.pointer none] 30)
    rwa [World.size_alloc] at this
  have bd : Boxed W0 (w.heap.size + 1 + 1) 30 (.pointer none) := by
    rw [← hW0]
    have := Boxed.new ((w.alloc (.cells #[.int .i64 dev] 3)).alloc (.cells #[.pointer none] 91)) 30 (.pointer none)
    rwa [World.size_alloc, World.size_alloc] at this
  have hB0 : Below w.heap.size w W0 := by rw [← hW0]; exact (((Below.refl _ w).alloc (Nat.le_refl _) _).alloc (by simp) _).alloc (by simp; omega) _
  have hsz0 : W0.heap.size = w.heap.size + 3 := by rw [← hW0]; simp
  rw [hW0]
  clear hW0
  refine wpIn_rangeFunc_by (n := 3) rfl (by omega) (gf := 112) (lb := #[.pointer (some ⟨w.heap.size + 1 + 1, 0, none⟩)]) rfl trivial (enters_of Tryz.func112 (by kernel_rfl) rfl)
    (fun pre W => Boxed W (w.heap.size + 1) 91 (.pointer none) ∧ Boxed W (w.heap.size + 1 + 1) 30 (.pointer none) ∧ Below w.heap.size w W)
    (fun _ _ _ => False)
    ((disks_nil_by (w.heap.size + 1 + 1) (encD 0 0) W0).mono fun pre W hI => hI.2.1)
    (Below.refl _ _) (fun _ => rfl)
    ((boxed_from _ _ (fun _ => .pointer none) _).and ((boxed_from _ _ (fun _ => .pointer none) _).and (ownFrom_below (Nat.le_refl _) (by omega))))
    (fun _ _ _ _ _ h _ _ => h.elim) ⟨br, bd, hB0⟩ ?a1 ?assign ?body ?done ?stop
  case assign =>
    intro l x W K hK
    dsimp only [encD]
    gi_wp2
    exact hK
  case body =>
    rintro l pre x W _ h
    exact h.elim
  case done =>
    rintro Dd xs W hDd rfl ⟨hbr, hbd, hB⟩ hK
    have d2 := hbr.cell
    have d3 := hbr.frozen
    gi_wp2
    have hK' := (KeepsOthers.setCell W ⟨w.heap.size + 1, 0, none⟩ (.pointer none)).same Dd _ hK rfl
    refine ⟨by simp, .inl ⟨_, _, rfl, run_takeDeferred hK', ?_⟩⟩
    have hc5 := cell_kept (hbr.set (.pointer none)).cell (grownBy_putObj' _ Dd (.deferred none)) (fun r e => by cases e; exact ⟨_, hK', rfl⟩)
    refine ⟨.pointer none, ?_, rfl, (hB.setCell (p := ⟨w.heap.size + 1, 0, none⟩) (by simp) _).trans (belowK_b (w := w) (Nat.le_refl _) _ Dd _ _ (by omega) hK' rfl rfl)⟩
    simp [results, Tryz.f71, go_sem, hc5]
  case stop =>
    rintro D c pre W _ h _
    exact h.elim

set_option maxRecDepth 100000 in
set_option maxHeartbeats 1000000 in
/-- **has**. -/
theorem has_rig (p : Option Addr) (n : Nat) (i : Int) (w : World) (hl : Calls Tryz.prog 116 #[.pointer p] w fun e w' => e = .returned (.int .i64 (n : Int)) ∧ w' = w) :
    Calls Tryz.prog 72 #[.pointer p, .int .i64 i] w fun e w' => e = .returned (.bool (decide (0 ≤ i ∧ i < (n : Int)))) ∧ w' = w := by
  have HL := Lib.hid hl
  clear hl
  by_cases h0 : 0 ≤ i
  · have g0 : decide (0 ≤ i) = true := by simpa using h0
    have HE : Hid (decide (i < (n : Int)) = decide (0 ≤ i ∧ i < (n : Int))) := by show _ = _; simp [h0]
    go_enter Tryz.func72, Tryz.ntmps72
    go_wp2_with fail
    refine HL.out.mono ?_
    rintro e w' ⟨rfl, rfl⟩
    go_wp2_with fail
    go_ret
    exact ⟨by rw [← HE.out]; rfl, rfl⟩
  · have g0 : decide (0 ≤ i) = false := by simpa using h0
    have HE : Hid (false = decide (0 ≤ i ∧ i < (n : Int))) := by show _ = _; simp [h0]
    go_enter Tryz.func72, Tryz.ntmps72
    go_wp2_with fail
    go_ret
    exact ⟨rfl, rfl⟩
end Go.Proofs.YtbdfllamhcodjaaGreat

/- What flushes and crashes leave to be read. -/
namespace Go.Proofs.YtbdfllamhcodjaaGreat
open Go.RowKit
set_option linter.unusedVariables false

/-- What a flush leaves to be read. -/
theorem flushed_look (D : Nat → Sec) (n j : Nat) (hj : j < n) : (settled D (fun j => (D j).vs.length) (looseTo D n) j).look = (D j).look := by
  by_cases h : (D j).vs = []
  · rw [settled_not (fun hm => looseTo_loose hm h)]
  · rw [settled_yes (mem_looseTo hj h), Sec.look_some h]
    have hp := List.length_pos_iff.2 h
    unfold Sec.settle Sec.look
    simp only [List.getLast?_nil, Option.getD_none]
    rw [if_neg (by omega)]
theorem add_look (s : Sec) (b : List Value) (h : s.vs.length ≤ 255) : (s.add b).look = b := by
  unfold Sec.add Sec.look
  rw [if_neg (by omega)]
  simp
theorem add_more (s : Sec) (b : List Value) (h : s.vs.length ≤ 255) : (s.add b).vs.length = s.vs.length + 1 := by
  unfold Sec.add
  rw [if_neg (by omega)]
  simp

/-- Behind a flush no sector has versions, and each contains what it yielded. -/
theorem flushed_none (D : Nat → Sec) (n j : Nat) (hj : j < n) : (settled D (fun j => (D j).vs.length) (looseTo D n) j).vs = [] := by
  by_cases h : (D j).vs = []
  · rw [settled_not (fun hm => looseTo_loose hm h)]; exact h
  · rw [settled_yes (mem_looseTo hj h)]; rfl
theorem flushed_c (D : Nat → Sec) (n j : Nat) (hj : j < n) : (settled D (fun j => (D j).vs.length) (looseTo D n) j).c = (D j).look := by
  rw [← flushed_look D n j hj, Sec.look_none (flushed_none D n j hj)]
theorem settled_none (D : Nat → Sec) (g : Nat → Nat) (n j : Nat) (hj : j < n) : (settled D g (looseTo D n) j).vs = [] := by
  by_cases h : (D j).vs = []
  · rw [settled_not (fun hm => looseTo_loose hm h)]; exact h
  · rw [settled_yes (mem_looseTo hj h)]; rfl
/-- Behind a crash a sector yields what it contained, or one of its versions. -/
theorem settled_either (D : Nat → Sec) (g : Nat → Nat) (n j : Nat) (hj : j < n) : (settled D g (looseTo D n) j).look = (D j).c ∨ (settled D g (looseTo D n) j).look ∈ (D j).vs := by
  rw [Sec.look_none (settled_none D g n j hj)]
  by_cases h : (D j).vs = []
  · rw [settled_not (fun hm => looseTo_loose hm h)]; exact .inl rfl
  · rw [settled_yes (mem_looseTo hj h)]
    unfold Sec.settle
    dsimp only
    split
    · exact .inl rfl
    · cases e : (D j).vs[g j - 1]? with
      | none => exact .inl rfl
      | some v => exact .inr (List.mem_of_getElem? e)

end Go.Proofs.YtbdfllamhcodjaaGreat

/- The document's own disk in memory; Has, Read. -/
namespace Go.Proofs.YtbdfllamhcodjaaGreat
open Go.RowKit
set_option linter.unusedVariables false
attribute [-simp] Tryz.isAgg60 Tryz.zeroValue60
attribute [-go_sem] loadVar storeVar
attribute [local go_sem] zero_blk build_blk loadVar_open storeVar_open

theorem rangeAt_same {w w' : World} {b o : Nat} {c : List Value} (h : w.rangeAt b o c) (hb : w'.heap[b]? = w.heap[b]?) : w'.rangeAt b o c := fun j x hx => (World.cell?_of_block (a := ⟨b, o + j, none⟩) hb).trans (h j x hx)
end Go.Proofs.YtbdfllamhcodjaaGreat

/- The document's own disk: Write. -/
namespace Go.Proofs.YtbdfllamhcodjaaGreat
open Go.RowKit
set_option linter.unusedVariables false
attribute [-simp] Tryz.isAgg60 Tryz.zeroValue60
attribute [-go_sem] loadVar storeVar
attribute [local go_sem] zero_blk build_blk loadVar_open storeVar_open

/-- A row of its own, made since W. -/
def Own (W x : World) (v : Value) (vs : List (List Value)) : Prop := x.ownsRow W.heap.size 60 64 v vs.length vs.flatten
/-- A block of its own, made since W. -/
def One (W x : World) (B : Nat) (b : List Value) : Prop := W.heap.size ≤ B ∧ B < x.heap.size ∧ x.rangeAt B 0 b

end Go.Proofs.YtbdfllamhcodjaaGreat

/- The document's own disk: Flush. -/
namespace Go.Proofs.YtbdfllamhcodjaaGreat
open Go.RowKit
set_option linter.unusedVariables false
attribute [-simp] Tryz.isAgg60 Tryz.zeroValue60
attribute [-go_sem] loadVar storeVar
attribute [local go_sem] zero_blk build_blk loadVar_open storeVar_open

/-- Of the first k sectors the last versions. -/
def flTo (D : Nat → Sec) (k : Nat) : Nat → Sec := fun j => if j < k then ⟨(D j).look, []⟩ else D j
/-- It is what Flush of the disk makes. -/
theorem flTo_settled (D : Nat → Sec) (n : Nat) : settled D (fun j => (D j).vs.length) (looseTo D n) = flTo D n := by
  funext j
  unfold flTo
  by_cases h : j < n
  · rw [if_pos h]
    have h1 := flushed_none D n j h
    have h2 := flushed_c D n j h
    cases e : settled D (fun j => (D j).vs.length) (looseTo D n) j with
    | mk c vs => rw [e] at h1 h2; simp only at h1 h2; rw [h1, h2]
  · rw [if_neg h, settled_not (fun hm => h (looseTo_lt hm))]

end Go.Proofs.YtbdfllamhcodjaaGreat

/- What a rig's methods come to. -/
namespace Go.Proofs.YtbdfllamhcodjaaGreat
open Go.RowKit Go.Shelf
set_option linter.unusedVariables false
attribute [-simp] Tryz.isAgg60 Tryz.zeroValue60
attribute [-go_sem] loadVar storeVar
attribute [local go_sem] zero_blk build_blk loadVar_open storeVar_open

/-- How many sectors; which there are; what one yields. -/
def RS.len (S : RS) (dev : Int) : Nat := if dev = 0 then S.n0 else if dev = 1 then S.n1 else 0
def RS.has (S : RS) (dev i : Int) : Bool := decide (0 ≤ i ∧ i < (S.len dev : Int))
def RS.look (S : RS) (dev : Int) (i : Nat) : List Value := if dev = 0 then (S.D0 i).look else (S.D1 i).look
/-- One version more; all flushed; a crash. -/
def RS.put (S : RS) (dev : Int) (i : Nat) (b : List Value) : RS := if dev = 0 then { S with D0 := upd S.D0 i ((S.D0 i).add b) } else { S with D1 := upd S.D1 i ((S.D1 i).add b) }
def RS.fl (S : RS) (dev : Int) : RS := if dev = 0 then { S with D0 := flTo S.D0 S.n0 } else { S with D1 := flTo S.D1 S.n1 }
noncomputable def RS.crash (S : RS) (b0 b1 : List Int) : RS := { S with D0 := settled S.D0 (crashG S.D0 b0) (looseTo S.D0 S.n0), D1 := settled S.D1 (crashG S.D1 b1) (looseTo S.D1 S.n1), fuse := -1, down := false }
def RS.read (S : RS) (dev i : Int) : List Value := if S.has dev i = true ∧ S.down = false then S.look dev i.toNat else fillB 0
def RS.readE (S : RS) (dev i : Int) : Int := if S.has dev i = true then (if S.down = true then 14 else 0) else 1
def RS.write (S : RS) (dev i : Int) (b : List Value) : RS := if S.has dev i = true then (if S.ok = true then S.after.put dev i.toNat b else S.after) else S
def RS.writeE (S : RS) (dev i : Int) : Int := if S.has dev i = true then (if S.ok = true then 0 else 14) else 1
def RS.flush (S : RS) (dev : Int) : RS := if dev = 0 ∨ dev = 1 then (if S.ok = true then S.after.fl dev else S.after) else S
def RS.flushE (S : RS) (dev : Int) : Int := if dev = 0 ∨ dev = 1 then (if S.ok = true then 0 else 14) else 1

theorem RS.after_same (S : RS) : S.after.n0 = S.n0 ∧ S.after.n1 = S.n1 ∧ S.after.D0 = S.D0 ∧ S.after.D1 = S.D1 := by unfold RS.after; split <;> exact ⟨rfl, rfl, rfl, rfl⟩
theorem RS.after_len (S : RS) (dev : Int) : S.after.len dev = S.len dev := by unfold RS.len; rw [S.after_same.1, S.after_same.2.1]

section
variable {rb p0 p1 : Nat} {S : RS} {w : World} {f : Nat → Prop}
theorem RigR.d0 (h : RigR rb p0 p1 S w f) : ∃ g, Disk w p0 S.n0 g S.D0 ∧ 0 < S.n0 := by
  obtain ⟨f1, f2, _, ⟨f3, f4, h1, h2, _⟩, _⟩ := h
  exact ⟨f3, h1⟩
theorem RigR.d1 (h : RigR rb p0 p1 S w f) : ∃ g, Disk w p1 S.n1 g S.D1 ∧ 0 < S.n1 := by
  obtain ⟨f1, f2, _, ⟨f3, f4, h1, h2, _⟩, _⟩ := h
  exact ⟨f4, h2⟩
theorem RigR.rb_lt (h : RigR rb p0 p1 S w f) : rb < w.heap.size := by
  obtain ⟨f1, f2, ⟨h1, _⟩, _⟩ := h
  exact (Array.getElem?_eq_some_iff.1 h1).1
theorem dk_cases (p0 p1 : Nat) (dev : Int) : (dev = 0 ∧ dk p0 p1 dev = some ⟨p0, 0, none⟩) ∨ (dev = 1 ∧ dk p0 p1 dev = some ⟨p1, 0, none⟩) ∨ (dev ≠ 0 ∧ dev ≠ 1 ∧ dk p0 p1 dev = none) := by
  by_cases h0 : dev = 0
  · exact .inl ⟨h0, by rw [h0]; rfl⟩
  · by_cases h1 : dev = 1
    · exact .inr (.inl ⟨h1, by rw [h1]; rfl⟩)
    · exact .inr (.inr ⟨h0, h1, by unfold dk; rw [if_neg h0, if_neg h1]⟩)

set_option maxRecDepth 100000 in
theorem RigR.disk (h : RigR rb p0 p1 S w f) (dev : Int) :
    Calls Tryz.prog 71 #[.pointer (some ⟨rb, 0, none⟩), .int .i64 dev] w fun e w' => e = .returned (.pointer (dk p0 p1 dev)) ∧ Below w.heap.size w w' :=
  disk_in rb p0 p1 dev w h.rb_lt (h.cell 0) (h.cell 1)
set_option maxRecDepth 100000 in
theorem RigR.lenOf (h : RigR rb p0 p1 S w f) (dev : Int) :
    Calls Tryz.prog 116 #[.pointer (dk p0 p1 dev)] w fun e w' => e = .returned (.int .i64 (S.len dev : Int)) ∧ w' = w := by
  rcases dk_cases p0 p1 dev with ⟨rfl, e⟩ | ⟨rfl, e⟩ | ⟨e0, e1, e⟩ <;> rw [e]
  · obtain ⟨g, h1, _⟩ := h.d0; exact len_at p0 S.n0 g S.D0 w h1
  · obtain ⟨g, h1, _⟩ := h.d1; exact len_at p1 S.n1 g S.D1 w h1
  · have : S.len dev = 0 := by unfold RS.len; rw [if_neg e0, if_neg e1]
    rw [this]; exact len_nil w
set_option maxRecDepth 100000 in
theorem RigR.hasOf (h : RigR rb p0 p1 S w f) (dev i : Int) :
    Calls Tryz.prog 72 #[.pointer (dk p0 p1 dev), .int .i64 i] w fun e w' => e = .returned (.bool (S.has dev i)) ∧ w' = w :=
  has_rig _ _ i w (h.lenOf dev)
theorem RS.has_lt {dev i : Int} (h : S.has dev i = true) : (dev = 0 ∨ dev = 1) ∧ ∃ k : Nat, i = (k : Int) ∧ k < S.len dev := by
  unfold RS.has at h
  have h := of_decide_eq_true h
  obtain ⟨k, rfl⟩ := Int.eq_ofNat_of_zero_le h.1
  refine ⟨?_, k, rfl, by omega⟩
  by_cases h0 : dev = 0
  · exact .inl h0
  · by_cases h1 : dev = 1
    · exact .inr h1
    · have : S.len dev = 0 := by unfold RS.len; rw [if_neg h0, if_neg h1]
      omega
set_option maxRecDepth 100000 in
/-- The disks' own methods, at a rig. -/
theorem RigR.readOf (h : RigR rb p0 p1 S w f) {dev i : Int} (hi : S.has dev i = true) :
    Calls Tryz.prog 87 #[.pointer (dk p0 p1 dev), .int .i64 i] w fun e w' => e = .returned (.tuple #[.agg (S.look dev i.toNat).toArray, .int .i64 0]) ∧ Below w.heap.size w w' := by
  obtain ⟨hd, k, rfl, hk⟩ := RS.has_lt hi
  rcases hd with rfl | rfl
  · obtain ⟨g, h1, _⟩ := h.d0; exact read_yes p0 S.n0 k g S.D0 w h1 hk
  · obtain ⟨g, h1, _⟩ := h.d1; exact read_yes p1 S.n1 k g S.D1 w h1 hk
theorem RigR.okLook (h : RigR rb p0 p1 S w f) {dev i : Int} (hi : S.has dev i = true) : IsBlk (S.look dev i.toNat) := by
  obtain ⟨hd, k, rfl, hk⟩ := RS.has_lt hi
  rcases hd with rfl | rfl
  · obtain ⟨g, h1, _⟩ := h.d0; exact (h1.ok hk).look
  · obtain ⟨g, h1, _⟩ := h.d1; exact (h1.ok hk).look
/-- No sector has more versions than that. -/
def RS.Few (S : RS) (m : Nat) : Prop := (∀ i, i < S.n0 → (S.D0 i).vs.length ≤ m) ∧ (∀ i, i < S.n1 → (S.D1 i).vs.length ≤ m)
theorem RS.Few.mono {m m' : Nat} (h : S.Few m) (hm : m ≤ m') : S.Few m' := ⟨fun i hi => Nat.le_trans (h.1 i hi) hm, fun i hi => Nat.le_trans (h.2 i hi) hm⟩
theorem RS.after_few {m : Nat} (h : S.Few m) : S.after.Few m := by
  unfold RS.after
  split <;> exact h
set_option maxRecDepth 100000 in
theorem RigR.putOf (h : RigR rb p0 p1 S w f) {dev i : Int} {b : List Value} (hi : S.has dev i = true) (hb : IsBlk b) (hm : S.Few 255) :
    Calls Tryz.prog 74 #[.pointer (dk p0 p1 dev), .int .i64 i, .agg b.toArray] w fun e w' => e = .returned (.int .i64 0) ∧ ∃ f', RigR rb p0 p1 (S.put dev i.toNat b) w' f' ∧ Turn f f' w w' := by
  obtain ⟨hd, k, rfl, hk⟩ := RS.has_lt hi
  rcases hd with rfl | rfl
  · have hk' : k < S.n0 := hk
    refine Sep.second (R := fun e _ => e = .returned (.int .i64 0)) (RowR.isRes _ _ _) (S.disks_isRes p0 p1) h (Q' := (S.put 0 k b).disks p0 p1) fun f2 h2 => ?_
    refine Sep.first (R := fun e _ => e = .returned (.int .i64 0)) (DskR.isRes _ _ _) (DskR.isRes _ _ _) h2 fun f3 h3 => ?_
    refine (write_yes p0 S.n0 k f3 S.D0 b w h3.1 hk' hb (by have := hm.1 k hk'; omega)).mono ?_
    rintro e w' ⟨rfl, f', g1, g2⟩
    exact ⟨rfl, f', ⟨g1, h3.2⟩, g2⟩
  · have hk' : k < S.n1 := hk
    refine Sep.second (R := fun e _ => e = .returned (.int .i64 0)) (RowR.isRes _ _ _) (S.disks_isRes p0 p1) h (Q' := (S.put 1 k b).disks p0 p1) fun f2 h2 => ?_
    refine Sep.second (R := fun e _ => e = .returned (.int .i64 0)) (DskR.isRes _ _ _) (DskR.isRes _ _ _) h2 fun f3 h3 => ?_
    refine (write_yes p1 S.n1 k f3 S.D1 b w h3.1 hk' hb (by have := hm.2 k hk'; omega)).mono ?_
    rintro e w' ⟨rfl, f', g1, g2⟩
    exact ⟨rfl, f', ⟨g1, h3.2⟩, g2⟩
set_option maxRecDepth 100000 in
theorem RigR.flOf (h : RigR rb p0 p1 S w f) {dev : Int} (hd : dev = 0 ∨ dev = 1) :
    Calls Tryz.prog 138 #[.pointer (dk p0 p1 dev)] w fun e w' => e = .returned (.int .i64 0) ∧ ∃ f', RigR rb p0 p1 (S.fl dev) w' f' ∧ Turn f f' w w' := by
  rcases hd with rfl | rfl
  · refine Sep.second (R := fun e _ => e = .returned (.int .i64 0)) (RowR.isRes _ _ _) (S.disks_isRes p0 p1) h (Q' := (S.fl 0).disks p0 p1) fun f2 h2 => ?_
    refine Sep.first (R := fun e _ => e = .returned (.int .i64 0)) (DskR.isRes _ _ _) (DskR.isRes _ _ _) h2 fun f3 h3 => ?_
    refine (flush_at p0 S.n0 f3 S.D0 w h3.1 h3.2).mono ?_
    rintro e w' ⟨rfl, f', g1, g2⟩
    rw [flTo_settled] at g1
    exact ⟨rfl, f', ⟨g1, h3.2⟩, g2⟩
  · refine Sep.second (R := fun e _ => e = .returned (.int .i64 0)) (RowR.isRes _ _ _) (S.disks_isRes p0 p1) h (Q' := (S.fl 1).disks p0 p1) fun f2 h2 => ?_
    refine Sep.second (R := fun e _ => e = .returned (.int .i64 0)) (DskR.isRes _ _ _) (DskR.isRes _ _ _) h2 fun f3 h3 => ?_
    refine (flush_at p1 S.n1 f3 S.D1 w h3.1 h3.2).mono ?_
    rintro e w' ⟨rfl, f', g1, g2⟩
    rw [flTo_settled] at g1
    exact ⟨rfl, f', ⟨g1, h3.2⟩, g2⟩
end
end Go.Proofs.YtbdfllamhcodjaaGreat

