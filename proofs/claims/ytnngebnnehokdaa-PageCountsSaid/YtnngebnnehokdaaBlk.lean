/- Blocks: their cells, read and written at once; two blocks held against each other. Needs the types api.Block and uint8. -/
import Derived.Test.YtnngebnnehokdaaProg
import Derived.Test.YtnngebnnehokdaaMath
import Derived.Deep.MidRow
import Derived.Deep.WholeRow
import Derived.ChangeKeysEq
import Derived.Lib.Hide
import Derived.Laws.ResultCell
import Derived.Great.BuildSlice
import Derived.WalkKit
import Derived.OwnWalk
namespace Go.Proofs.Ytnngebnnehokdaa
open Go.RowKit
set_option linter.unusedVariables false

/-- What a block's cells hold. -/
def IsBlk (c : List Value) : Prop := ∃ bs : List Int, bs.length = 64 ∧ c = bs.map (Value.int .u8)
theorem IsBlk.length {c : List Value} (h : IsBlk c) : c.length = 64 := by obtain ⟨bs, h1, rfl⟩ := h; simp [h1]
theorem IsBlk.one {c : List Value} (h : IsBlk c) : ∀ v ∈ c, v.oneCell' = true := by
  obtain ⟨bs, h1, rfl⟩ := h
  intro v hv
  obtain ⟨x, _, rfl⟩ := List.mem_map.1 hv
  rfl
theorem IsBlk.all {c : List Value} (h : IsBlk c) : c.toArray.all (·.oneCell') = true := all_oneCell_toArray h.one

/-- A block of one byte. -/
def fillB (v : Int) : List Value := List.replicate 64 (.int .u8 v)
theorem isBlk_fill (v : Int) : IsBlk (fillB v) := ⟨List.replicate 64 v, by simp, by simp [fillB]⟩
theorem fillB_inj {a b : Int} (h : fillB a = fillB b) : a = b := by
  unfold fillB at h
  simpa [List.replicate_succ] using h

def zarr : Array Value := (fillB 0).toArray
theorem zarr_size : zarr.size = 64 := by simp [zarr, fillB]

theorem under_blk : Try.prog.underlying 27 = some (.array 64 5) := by kernel_rfl
theorem info_blk : (Try.prog.info? 27).map (fun i => (i.zero, i.size, i.bytes)) = some (some (.agg zarr), 64, 64) := by kernel_rfl
theorem size_blk : (Try.prog.info? 27).map (·.size) = some 64 := by kernel_rfl
theorem zero_blk (w : World) : (zeroValue 27).run Try.prog w = .ok (.agg zarr) w := by kernel_rfl
theorem build_blk (w : World) : (Instr.build 27 #[]).run Try.prog w = .ok (.agg zarr) w := by kernel_rfl
theorem guard_blk : Try.prog.eqGuardType Try.prog.depth 27 = false := by kernel_rfl

/-- A block is read. -/
theorem load_blk {w : World} {b o : Nat} {c : List Value} (hc : w.rangeAt b o c) (h : c.length = 64) : (loadVar 27 ⟨b, o, none⟩).run Try.prog w = .ok (.agg c.toArray) w :=
  run_loadVar_mid w b o _ c _ hc under_blk rfl (by rw [h]; exact size_blk)
/-- A block is written. -/
theorem store_blk {w : World} {b o : Nat} {c : List Value} (ht : w.there b o 64) (h : IsBlk c) : (storeVar 27 ⟨b, o, none⟩ (.agg c.toArray)).run Try.prog w = .ok () (w.setCells b o c) := by
  have := run_storeVar_mid (P := Try.prog) w b o 27 c.toArray (by simpa [h.length] using ht) (by simpa [h.length] using size_blk) h.all
  simpa using this
/-- .. in the block that was made last. -/
theorem load_new {w : World} {c : Array Value} (h : c.size = 64) : (loadVar 27 ⟨w.heap.size, 0, none⟩).run Try.prog (w.alloc (.cells c 27)) = .ok (.agg c) (w.alloc (.cells c 27)) :=
  run_loadVar_new w _ c _ _ under_blk (by rw [h]; exact size_blk)
theorem store_new {w : World} {c : Array Value} {c' : List Value} (h : c.size = 64) (h' : IsBlk c') : (storeVar 27 ⟨w.heap.size, 0, none⟩ (.agg c'.toArray)).run Try.prog (w.alloc (.cells c 27)) = .ok () (w.alloc (.cells c'.toArray 27)) :=
  run_storeVar_new w _ c c'.toArray (by simpa [h'.length] using size_blk) (by simpa [h'.length] using h) h'.all

/-- Results that lie in a cell. -/
theorem results_cell {P : Program} {fn : Func} {p : Tmp} {ty : TypeId} {tmps : Array Value} {w : World} {ad : Addr} {v : Value} (h : fn.results = #[.cell p ty]) (ha : tmps.getD p undef = .pointer (some ad)) (hl : (loadVar ty ad).run P w = .ok v w) :
    (results fn tmps).run P w = .ok v w := by
  have e : (asAddr (.pointer (some ad))).run P w = .ok ad w := by simp [asAddr]
  have ha' : tmps[p]?.getD undef = .pointer (some ad) := by simpa using ha
  simp [results, h, Sem.run_bind, Result.andThen, ha', e, hl]
theorem results_cell2 {P : Program} {fn : Func} {p u : Tmp} {ty : TypeId} {tmps : Array Value} {w : World} {ad : Addr} {v : Value} (h : fn.results = #[.cell p ty, .tmp u]) (ha : tmps.getD p undef = .pointer (some ad)) (hl : (loadVar ty ad).run P w = .ok v w) :
    (results fn tmps).run P w = .ok (.tuple #[v, tmps.getD u undef]) w := by
  have e : (asAddr (.pointer (some ad))).run P w = .ok ad w := by simp [asAddr]
  have ha' : tmps[p]?.getD undef = .pointer (some ad) := by simpa using ha
  simp [results, h, Sem.run_bind, Result.andThen, ha', e, hl]

/-- Whatever is no block is read and written cell by cell. -/
theorem loadVar_open (t : TypeId) (h : t ≠ 27) (a : Addr) : loadVar t a = (do if ← isAgg t then pure (.agg (← loadCells a (← sizeOf t))) else load a) := rfl
theorem storeVar_open (t : TypeId) (h : t ≠ 27) (a : Addr) (v : Value) : storeVar t a v = (do
    if v.cells.size ≠ (← sizeOf t) then stuck "storeVar: the value has not the size of the variable"
    storeCells a v.cells.toList) := rfl

theorem store_fill (W : World) (v : Int) : (storeVar 27 ⟨W.heap.size, 0, none⟩ (.agg (fillB v).toArray)).run Try.prog (W.alloc (.cells zarr 27)) = .ok () (W.alloc (.cells (fillB v).toArray 27)) :=
  store_new zarr_size (isBlk_fill v)

theorem run_eqItems_ints {P : Program} {t : TypeId} (ht : P.plainKey t = true) (hu : P.underlying t = some (.int .u8)) (d : Nat) (xs ys : List Int) (w : World) : ∀ is : List Nat, (∀ i ∈ is, i < xs.length ∧ i < ys.length) →
    (Op.eqItems (d + 1) t 1 (xs.map (Value.int .u8)).toArray (ys.map (Value.int .u8)).toArray is).run P w = .ok (is.all fun i => xs[i]?.getD 0 == ys[i]?.getD 0) w
  | [], _ => by simp [Op.eqItems]
  | i :: is, h => by
    obtain ⟨h1, h2⟩ := h i (by simp)
    have e1 : (xs.map (Value.int .u8)).toArray[i]? = some (.int .u8 (xs[i]?.getD 0)) := by simp [h1]
    have e2 : (ys.map (Value.int .u8)).toArray[i]? = some (.int .u8 (ys[i]?.getD 0)) := by simp [h2]
    simp only [Op.eqItems, Sem.run_bind, Nat.mul_one, run_part_plain w ht e1, run_part_plain w ht e2, Result.andThen_ok, run_equalIn_int w d t .u8 .u8 _ _ hu]
    by_cases e : (xs[i]?.getD 0 == ys[i]?.getD 0) = true
    · simp only [e, Bool.not_true, Bool.false_eq_true, if_false, List.all_cons, Bool.true_and]
      exact run_eqItems_ints ht hu d xs ys w is fun j hj => h j (by simp [hj])
    · simp only [Bool.not_eq_true] at e
      simp only [e, Bool.not_false, if_true, List.all_cons, Bool.false_and, Sem.run_pure]

/-- Are two rows of cells alike? -/
noncomputable def alike (a b : List Value) : Bool := @decide (a = b) (Classical.propDecidable _)
theorem alike_iff {a b : List Value} : alike a b = true ↔ a = b := by unfold alike; simp
theorem alike_self (a : List Value) : alike a a = true := alike_iff.2 rfl
theorem alike_not {a b : List Value} (h : a ≠ b) : alike a b = false := by
  cases e : alike a b with
  | false => rfl
  | true => exact absurd (alike_iff.1 e) h

/-- Two blocks held against each other. -/
theorem eq_blk {a b : List Value} (ha : IsBlk a) (hb : IsBlk b) (w : World) : (Op.equalIn 10000 27 (.agg a.toArray) (.agg b.toArray)).run Try.prog w = .ok (alike a b) w := by
  obtain ⟨xs, hx, rfl⟩ := ha
  obtain ⟨ys, hy, rfl⟩ := hb
  obtain ⟨i0, hi⟩ : ∃ i, Try.prog.info? 5 = some i := ⟨_, rfl⟩
  rw [run_equalIn_array w 9999 (xs.map (Value.int .u8)).toArray (ys.map (Value.int .u8)).toArray under_blk hi, show Try.prog.cellsOf 5 = 1 from by kernel_rfl,
    run_eqItems_ints (d := 9998) (by kernel_rfl) (by kernel_rfl) xs ys w (List.range 64) (fun i hi => by have := List.mem_range.1 hi; omega)]
  congr 1
  rw [Bool.eq_iff_iff, alike_iff, List.all_eq_true]
  constructor
  · intro h
    congr 1
    apply List.ext_getElem (by omega)
    intro i h1 h2
    have := h i (List.mem_range.2 (by omega))
    simpa [h1, h2] using this
  · intro h i hi
    have hxy : xs = ys := by
      have e := congrArg (List.map intOf) h
      rw [List.map_map, List.map_map, show intOf ∘ Value.int .u8 = id from by funext x; rfl] at e
      simpa using e
    simp [hxy]
theorem eq_fill (a b : Int) (w : World) : (Op.equalIn 10000 27 (.agg (fillB a).toArray) (.agg (fillB b).toArray)).run Try.prog w = .ok (a == b) w := by
  rw [eq_blk (isBlk_fill a) (isBlk_fill b)]
  congr 1
  rw [Bool.eq_iff_iff, alike_iff, beq_iff_eq]
  exact ⟨fillB_inj, fun h => by rw [h]⟩
theorem eq_fill_z (a : Int) (w : World) : (Op.equalIn 10000 27 (.agg (fillB a).toArray) (.agg zarr)).run Try.prog w = .ok (a == 0) w := eq_fill a 0 w
end Go.Proofs.Ytnngebnnehokdaa
