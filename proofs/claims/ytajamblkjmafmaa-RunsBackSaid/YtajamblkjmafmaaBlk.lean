/- Blocks: their cells, read and written at once; two blocks held against each other. Needs the types api.Block and uint8. -/
import Derived.Test.YtajamblkjmafmaaProg
import Derived.Test.YtajamblkjmafmaaMath
import Derived.Deep.MidRow
import Derived.Deep.WholeRow
import Derived.ChangeKeysEq
import Derived.Lib.Hide
import Derived.Laws.ResultCell
import Derived.Great.BuildSlice
import Derived.WalkKit
import Derived.OwnWalk
namespace Go.Proofs.Ytajamblkjmafmaa
open Go.RowKit
set_option linter.unusedVariables false

/-- What a block's cells hold. -/
def IsBlk (c : List Value) : Prop := ∃ bs : List Int, bs.length = 64 ∧ c = bs.map (Value.int .u8)
theorem IsBlk.length {c : List Value} (h : IsBlk c) : c.length = 64 := by obtain ⟨bs, h1, rfl⟩ := h; simp [h1]
theorem IsBlk.one {c : List Value} (h : IsBlk c) : ∀ v ∈ c, v.oneCell' = true := by
  obtain ⟨bs, h1, rfl⟩ := h
  intro v hv
  obtain ⟨x, _, rfl⟩ := List.mem_map.1 hv
  rfl
theorem IsBlk.all {c : List Value} (h : IsBlk c) : c.toArray.all (·.oneCell') = true := all_oneCell_toArray h.one

/-- A block of one byte. -/
def fillB (v : Int) : List Value := List.replicate 64 (.int .u8 v)
theorem isBlk_fill (v : Int) : IsBlk (fillB v) := ⟨List.replicate 64 v, by simp, by simp [fillB]⟩
theorem fillB_inj {a b : Int} (h : fillB a = fillB b) : a = b := by
  unfold fillB at h
  simpa [List.replicate_succ] using h

def zarr : Array Value := (fillB 0).toArray
theorem zarr_size : zarr.size = 64 := by simp [zarr, fillB]

/-- Results that lie in a cell. -/
theorem results_cell {P : Program} {fn : Func} {p : Tmp} {ty : TypeId} {tmps : Array Value} {w : World} {ad : Addr} {v : Value} (h : fn.results = #[.cell p ty]) (ha : tmps.getD p undef = .pointer (some ad)) (hl : (loadVar ty ad).run P w = .ok v w) :
    (results fn tmps).run P w = .ok v w := by
  have e : (asAddr (.pointer (some ad))).run P w = .ok ad w := by simp [asAddr]
  have ha' : tmps[p]?.getD undef = .pointer (some ad) := by simpa using ha
  simp [results, h, Sem.run_bind, Result.andThen, ha', e, hl]
theorem results_cell2 {P : Program} {fn : Func} {p u : Tmp} {ty : TypeId} {tmps : Array Value} {w : World} {ad : Addr} {v : Value} (h : fn.results = #[.cell p ty, .tmp u]) (ha : tmps.getD p undef = .pointer (some ad)) (hl : (loadVar ty ad).run P w = .ok v w) :
    (results fn tmps).run P w = .ok (.tuple #[v, tmps.getD u undef]) w := by
  have e : (asAddr (.pointer (some ad))).run P w = .ok ad w := by simp [asAddr]
  have ha' : tmps[p]?.getD undef = .pointer (some ad) := by simpa using ha
  simp [results, h, Sem.run_bind, Result.andThen, ha', e, hl]

theorem run_eqItems_ints {P : Program} {t : TypeId} (ht : P.plainKey t = true) (hu : P.underlying t = some (.int .u8)) (d : Nat) (xs ys : List Int) (w : World) : ∀ is : List Nat, (∀ i ∈ is, i < xs.length ∧ i < ys.length) →
    (Op.eqItems (d + 1) t 1 (xs.map (Value.int .u8)).toArray (ys.map (Value.int .u8)).toArray is).run P w = .ok (is.all fun i => xs[i]?.getD 0 == ys[i]?.getD 0) w
  | [], _ => by simp [Op.eqItems]
  | i :: is, h => by
    obtain ⟨h1, h2⟩ := h i (by simp)
    have e1 : (xs.map (Value.int .u8)).toArray[i]? = some (.int .u8 (xs[i]?.getD 0)) := by simp [h1]
    have e2 : (ys.map (Value.int .u8)).toArray[i]? = some (.int .u8 (ys[i]?.getD 0)) := by simp [h2]
    simp only [Op.eqItems, Sem.run_bind, Nat.mul_one, run_part_plain w ht e1, run_part_plain w ht e2, Result.andThen_ok, run_equalIn_int w d t .u8 .u8 _ _ hu]
    by_cases e : (xs[i]?.getD 0 == ys[i]?.getD 0) = true
    · simp only [e, Bool.not_true, Bool.false_eq_true, if_false, List.all_cons, Bool.true_and]
      exact run_eqItems_ints ht hu d xs ys w is fun j hj => h j (by simp [hj])
    · simp only [Bool.not_eq_true] at e
      simp only [e, Bool.not_false, if_true, List.all_cons, Bool.false_and, Sem.run_pure]

/-- Are two rows of cells alike? -/
noncomputable def alike (a b : List Value) : Bool := @decide (a = b) (Classical.propDecidable _)
theorem alike_iff {a b : List Value} : alike a b = true ↔ a = b := by unfold alike; simp
theorem alike_self (a : List Value) : alike a a = true := alike_iff.2 rfl
theorem alike_not {a b : List Value} (h : a ≠ b) : alike a b = false := by
  cases e : alike a b with
  | false => rfl
  | true => exact absurd (alike_iff.1 e) h

end Go.Proofs.Ytajamblkjmafmaa
