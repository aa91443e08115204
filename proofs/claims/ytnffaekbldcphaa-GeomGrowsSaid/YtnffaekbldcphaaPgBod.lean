/- Bodies: arrays of 48 bytes, and slices of them; pieces of bytes. -/
import Derived.Test.YtnffaekbldcphaaPgRow
import Derived.Test.YtnffaekbldcphaaPgCount
import Derived.Test.YtnffaekbldcphaaLaid
import Derived.Maps.AppendAt
namespace Go.Proofs.Ytnffaekbldcphaa
open Go.RowKit
set_option linter.unusedVariables false

def z48 : List Value := u8s (List.replicate 48 0)
theorem z48_size : z48.toArray.size = 48 := by simp [z48, u8s]
/-- How many pieces bytes have; one of them; the first k of them. -/
def nPcs (bs : List Int) : Nat := (bs.length + 47) / 48
def piece (bs : List Int) (k : Nat) : List Int := (bs.drop (48 * k)).take 48 ++ List.replicate (48 - ((bs.drop (48 * k)).take 48).length) 0
theorem piece_length (bs : List Int) (k : Nat) : (piece bs k).length = 48 := by simp [piece]; omega
def rows (bs : List Int) (k : Nat) : List (List Value) := (List.range k).map fun i => u8s (piece bs i)
theorem rows_succ (bs : List Int) (k : Nat) : rows bs (k + 1) = rows bs k ++ [u8s (piece bs k)] := by simp [rows, List.range_succ]
theorem rows_length (bs : List Int) (k : Nat) : (rows bs k).length = k := by simp [rows]
end Go.Proofs.Ytnffaekbldcphaa
