/- The document's own Count. -/
import Derived.Test.YtnffaekbldcphaaPgRow
namespace Go.Proofs.Ytnffaekbldcphaa
open Go.RowKit
set_option linter.unusedVariables false

/-- How many pieces so many bytes have. -/
def cnt (n : Int) : Int := if n < 1 then 0 else (n - 1) / 48 + 1
theorem cnt_nat (n : Nat) : cnt n = ((n + 47) / 48 : Nat) := by
  unfold cnt
  split <;> omega
set_option maxRecDepth 100000 in
theorem refCount (n : Int) (w : World) (h0 : -9223372036854775808 ≤ n) (h1 : n < 9223372036854775808) :
    Calls Try.prog 21 #[.int .i64 n] w fun e w' => e = .returned (.int .i64 (cnt n)) ∧ w' = w := by
  by_cases hn : n < 1
  · have hc : cnt n = 0 := if_pos hn
    rw [hc]
    go_enter Try.func21, Try.ntmps21
    go_wp2_with fail
    all_goals (go_ret; exact ⟨rfl, rfl⟩)
  · have hc : cnt n = (n - 1) / 48 + 1 := if_neg hn
    have hq : Int.tdiv (n - 1) 48 = (n - 1) / 48 := Int.tdiv_eq_ediv_of_nonneg (by omega)
    rw [hc]
    go_enter Try.func21, Try.ntmps21
    go_wp2_with fail
    all_goals (go_ret; exact ⟨rfl, rfl⟩)
end Go.Proofs.Ytnffaekbldcphaa
