/- The clock's rounds: which slot goes, by looking; no program is named. -/
import Derived.Test.YtlpmikbplngmnaaWyFlat
namespace Go.Proofs.Ytlpmikbplngmnaa
set_option linter.unusedVariables false
def ckN (n k : Nat) : WM := (List.range k).foldl (fun (m : WM) (b : Nat) => mPut (mRoom m (b : Int)).2 (b : Int) (b : Int) false) (mNew 1 n)
theorem ckN_succ (n k : Nat) : ckN n (k + 1) = mPut (mRoom (ckN n k) (k : Int)).2 (k : Int) (k : Int) false := by
  unfold ckN
  rw [List.range_succ, List.foldl_append]
  rfl
def ckA (n : Nat) : WM := mPut (mRoom (ckN n n) (n : Int)).2 0 (n : Int) false
theorem ck_fill : ∀ n : Fin 5, 2 ≤ n.val → ∀ k : Fin 4, k.val < n.val → (mRoom (ckN n.val k.val) (k.val : Int)).1 = some k.val := by decide +kernel
theorem ck_first : ∀ n : Fin 5, 2 ≤ n.val → (mRoom (ckN n.val n.val) (n.val : Int)).1 = some 0 := by decide +kernel
theorem ck_then : ∀ n : Fin 5, 2 ≤ n.val → ∀ t : Fin 4, 1 ≤ t.val → t.val < n.val → (mRoom (mTouch (ckA n.val) (t.val : Int)) ((n.val : Int) + 1)).1 = some (if t.val = 1 then (if n.val = 2 then 1 else 2) else 1) := by decide +kernel
end Go.Proofs.Ytlpmikbplngmnaa
