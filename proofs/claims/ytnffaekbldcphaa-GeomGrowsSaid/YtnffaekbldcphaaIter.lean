/- The range function of package le has its contract: each place below the bound comes, with its shift, in order. -/
import Derived.RangeFuncNested
import Derived.RangeFuncBound
import Derived.RangeFuncCalls
import Derived.RangeFuncLeaves
import Derived.Shelf.Abstract
import Derived.Shelf.RegionOpen
import Derived.WalkKit
import Derived.OwnWalkIn
import Derived.TacticsInMore
import Derived.LoopNIn
import Derived.LoopIn
import Derived.Test.YtnffaekbldcphaaProg
import Derived.Test.YtnffaekbldcphaaMath
namespace Go.Proofs.Ytnffaekbldcphaa
open Go.RowKit Go.Shelf
set_option linter.unusedVariables false

attribute [local go_sem] Oper.semAt_some

/-- What has come when k rounds are over: the first k places. -/
def upto (m k : Nat) : List (Fin m) := (List.finRange m).take k
theorem upto_succ (m k : Nat) (h : k < m) : upto m (k + 1) = upto m k ++ [⟨k, h⟩] := by
  unfold upto
  rw [List.take_succ_eq_append_getElem (by simpa using h)]
  simp
theorem upto_length (m k : Nat) (h : k ≤ m) : (upto m k).length = k := by simp [upto, h]
theorem upto_all (m : Nat) : upto m m = List.finRange m := by
  unfold upto; rw [List.take_of_length_le (by simp)]

def encP {m : Nat} (x : Fin m) : Array Value := #[.int .i64 (x.1 : Int), .int .u64 (8 * (x.1 : Int))]

/-- What a loop over the places may rely on: nothing but its own. -/
def AnyKp (_ _ : World) : Prop := True

theorem anyKp_t {A B C : World} (_ : AnyKp A B) (_ : AnyKp B C) : AnyKp A C := trivial
end Go.Proofs.Ytnffaekbldcphaa
