/- The developers' Count. -/
import Derived.Test.YtnffaekbldcphaaPgCount
namespace Go.Proofs.Ytnffaekbldcphaa
open Go.RowKit
set_option linter.unusedVariables false

set_option maxRecDepth 100000 in
theorem pgCount (n : Int) (w : World) (h0 : -9223372036854775808 ≤ n) (h1 : n < 9223372036854775808) :
    Calls Try.prog 23 #[.int .i64 n] w fun e w' => e = .returned (.int .i64 (cnt n)) ∧ w' = w := by
  by_cases hn : n < 1
  · have hc : cnt n = 0 := if_pos hn
    rw [hc]
    go_enter Try.func23, Try.ntmps23
    go_wp2_with fail
    all_goals (go_ret; exact ⟨rfl, rfl⟩)
  · have hc : cnt n = (n - 1) / 48 + 1 := if_neg hn
    have hq : Int.tdiv (n - 1) 48 = (n - 1) / 48 := Int.tdiv_eq_ediv_of_nonneg (by omega)
    rw [hc]
    go_enter Try.func23, Try.ntmps23
    go_wp2_with fail
    all_goals (go_ret; exact ⟨rfl, rfl⟩)
end Go.Proofs.Ytnffaekbldcphaa
