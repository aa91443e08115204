/- The helper of the statements that brings a number into a range. -/
import Derived.Test.YtlpmikbplngmnaaProg
import Derived.WalkKit
import Derived.Below
import Derived.Lib.Hide
namespace Go.Proofs.Ytlpmikbplngmnaa
open Go.RowKit
set_option linter.unusedVariables false

/-- A number brought into the range from 0 to n - 1. -/
def modI (k n : Int) : Int := if n < 1 then 0 else k % n
theorem modI_bd {k n : Int} (h : 1 ≤ n) : 0 ≤ modI k n ∧ modI k n < n := by
  unfold modI; rw [if_neg (by omega)]
  exact ⟨Int.emod_nonneg _ (by omega), Int.emod_lt_of_pos _ (by omega)⟩

set_option maxRecDepth 100000 in
set_option maxHeartbeats 1000000 in
theorem mod_any (k n : Int) (w : World) (hn : n < 4611686018427387904) :
    Calls Try.prog 26 #[.int .i64 k, .int .i64 n] w fun e w' => e = .returned (.int .i64 (modI k n)) ∧ w' = w := by
  by_cases h : n < 1
  · go_enter Try.func26, Try.ntmps26
    go_wp2
    go_ret
    exact ⟨by simp [modI, h], rfl⟩
  · go_enter Try.func26, Try.ntmps26
    go_wp2
    have e : (wrap64 (k.tmod n + n)).tmod n = modI k n := by
      have h1 : k.tmod n = k - n * k.tdiv n := by have := Int.mul_tdiv_add_tmod k n; omega
      have h2 : k.tmod n < n := Int.tmod_lt_of_pos k (by omega)
      have h3 : -n < k.tmod n := by
        have := Int.tmod_lt_of_pos (-k) (show 0 < n by omega)
        rw [Int.neg_tmod] at this; omega
      have h4 : wrap64 (k.tmod n + n) = k.tmod n + n := by unfold wrap64; omega
      rw [h4, Int.tmod_eq_emod_of_nonneg (by omega), Int.add_emod_right, h1]
      unfold modI
      rw [if_neg (by omega), Int.sub_mul_emod_self_left]
    rw [e]
    go_ret
    exact ⟨rfl, rfl⟩
end Go.Proofs.Ytlpmikbplngmnaa
