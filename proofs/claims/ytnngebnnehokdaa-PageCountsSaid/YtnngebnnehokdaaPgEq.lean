/- Two marked sectors held against each other, whole. -/
import Derived.Test.YtnngebnnehokdaaPgSame
import Derived.Laws.StructEq
namespace Go.Proofs.Ytnngebnnehokdaa
open Go.RowKit
set_option linter.unusedVariables false

theorem part_int {t : TypeId} {k k' : IntKind} (hu : Try.prog.underlying t = some (.int k)) {xs : Array Value} {off : Nat} {n : Int} (hx : xs[off]? = some (.int k' n)) (w : World) : (part t xs off).run Try.prog w = .ok (.int k' n) w :=
  run_part_plain w (by unfold Program.plainKey; rw [hu]) hx
theorem part_bod {xs : Array Value} {off : Nat} (w : World) : (part 23 xs off).run Try.prog w = .ok (.agg (xs.extract off (off + 48))) w := by
  obtain ⟨i0, hi⟩ : ∃ i, Try.prog.info? 23 = some i := ⟨_, rfl⟩
  have hs : Try.prog.cellsOf 23 = 48 := by kernel_rfl
  simp [part, isAgg, run_underlying under_bod, run_sizeOf w hi, hs, Result.andThen]
theorem sct_body (p : Sct) (hp : p.body.length = 48) : p.cells.toArray.extract 3 (3 + 48) = (u8s p.body).toArray := by
  rw [show p.cells = [.int .u8 p.mark, .int .u32 p.seq, .int .i64 p.index] ++ u8s p.body from rfl]
  apply Array.toList_inj.1
  simp only [u8s, List.cons_append, List.nil_append, Array.toList_extract, List.extract_eq_take_drop, List.drop_succ_cons, List.drop_zero]
  exact List.take_of_length_le (by simp [hp])

/-- **==** on marked sectors. -/
theorem eq_sec {p q : Sct} (hp : p.body.length = 48) (hq : q.body.length = 48) (w : World) : (Op.equalIn 10000 25 (.agg p.cells.toArray) (.agg q.cells.toArray)).run Try.prog w = .ok (sameS p q) w := by
  rw [run_equalIn_struct w 9999 25 _ _ (by kernel_rfl) (by kernel_rfl)]
  have h0 : ∃ f0 f1 f2 f3 : Field, Try.prog.fieldsOf 25 = #[f0, f1, f2, f3] ∧ (f0.name ≠ "_" ∧ f0.type = 5 ∧ f0.offset = 0) ∧ (f1.name ≠ "_" ∧ f1.type = 22 ∧ f1.offset = 1) ∧ (f2.name ≠ "_" ∧ f2.type = 3 ∧ f2.offset = 2) ∧ (f3.name ≠ "_" ∧ f3.type = 23 ∧ f3.offset = 3) :=
    ⟨_, _, _, _, rfl, ⟨by decide, rfl, rfl⟩, ⟨by decide, rfl, rfl⟩, ⟨by decide, rfl, rfl⟩, ⟨by decide, rfl, rfl⟩⟩
  obtain ⟨f0, f1, f2, f3, h0, ⟨n0, t0, o0⟩, ⟨n1, t1, o1⟩, ⟨n2, t2, o2⟩, ⟨n3, t3, o3⟩⟩ := h0
  rw [h0]
  simp only [Op.eqFields, Sem.run_bind, if_pos n0, if_pos n1, if_pos n2, if_pos n3, t0, t1, t2, t3, o0, o1, o2, o3]
  have a0 : p.cells.toArray[0]? = some (.int .u8 p.mark) := rfl
  have b0 : q.cells.toArray[0]? = some (.int .u8 q.mark) := rfl
  have a1 : p.cells.toArray[1]? = some (.int .u32 p.seq) := rfl
  have b1 : q.cells.toArray[1]? = some (.int .u32 q.seq) := rfl
  have a2 : p.cells.toArray[2]? = some (.int .i64 p.index) := rfl
  have b2 : q.cells.toArray[2]? = some (.int .i64 q.index) := rfl
  have s0 : sameS p q = (p.mark == q.mark && (p.seq == q.seq && (p.index == q.index && alike (u8s p.body) (u8s q.body)))) := rfl
  rw [s0, part_int Try.underlying5 a0, Result.andThen_ok, part_int Try.underlying5 b0, Result.andThen_ok, run_equalIn_int w 9998 5 .u8 .u8 _ _ Try.underlying5, Result.andThen_ok]
  cases p.mark == q.mark
  · rfl
  simp only [Bool.not_true, Bool.false_eq_true, if_false, Bool.true_and, Sem.run_bind]
  rw [part_int Try.underlying22 a1, Result.andThen_ok, part_int Try.underlying22 b1, Result.andThen_ok, run_equalIn_int w 9998 22 .u32 .u32 _ _ Try.underlying22, Result.andThen_ok]
  cases p.seq == q.seq
  · rfl
  simp only [Bool.not_true, Bool.false_eq_true, if_false, Bool.true_and, Sem.run_bind]
  rw [part_int Try.underlying3 a2, Result.andThen_ok, part_int Try.underlying3 b2, Result.andThen_ok, run_equalIn_int w 9998 3 .i64 .i64 _ _ Try.underlying3, Result.andThen_ok]
  cases p.index == q.index
  · rfl
  simp only [Bool.not_true, Bool.false_eq_true, if_false, Bool.true_and, Sem.run_bind]
  rw [part_bod, Result.andThen_ok, part_bod, Result.andThen_ok, sct_body p hp, sct_body q hq, eq_bod_at 9997 hp hq, Result.andThen_ok]
  cases alike (u8s p.body) (u8s q.body) <;> rfl
end Go.Proofs.Ytnngebnnehokdaa
