/- Two marked sectors held against each other, whole. -/
import Derived.Test.YtnffaekbldcphaaPgSame
import Derived.Laws.StructEq
namespace Go.Proofs.Ytnffaekbldcphaa
open Go.RowKit
set_option linter.unusedVariables false

set_option maxRecDepth 100000 in
theorem part_int {t : TypeId} {k k' : IntKind} (hu : Try.prog.underlying t = some (.int k)) {xs : Array Value} {off : Nat} {n : Int} (hx : xs[off]? = some (.int k' n)) (w : World) : (part t xs off).run Try.prog w = .ok (.int k' n) w :=
  run_part_plain w (by unfold Program.plainKey; rw [hu]) hx
theorem sct_body (p : Sct) (hp : p.body.length = 48) : p.cells.toArray.extract 3 (3 + 48) = (u8s p.body).toArray := by
  rw [show p.cells = [.int .u8 p.mark, .int .u32 p.seq, .int .i64 p.index] ++ u8s p.body from rfl]
  apply Array.toList_inj.1
  simp only [u8s, List.cons_append, List.nil_append, Array.toList_extract, List.extract_eq_take_drop, List.drop_succ_cons, List.drop_zero]
  exact List.take_of_length_le (by simp [hp])

end Go.Proofs.Ytnffaekbldcphaa
