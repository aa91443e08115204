/- The developers' marked sectors in memory; what their page promises. -/
import Derived.Test.YtnngebnnehokdaaPgRefE
import Derived.Test.YtnngebnnehokdaaPgSec
import Derived.Test.YtnngebnnehokdaaPgBod
import Derived.Test.YtnngebnnehokdaaPgEq
namespace Go.Proofs.Ytnngebnnehokdaa
open Go.RowKit
set_option linter.unusedVariables false

theorem size_pg : (Try.prog.info? 25).map (·.size) = some 51 := by kernel_rfl
theorem load_pg {w : World} {b o : Nat} {c : List Value} (hc : w.rangeAt b o c) (h : c.length = 51) : (loadVar 25 ⟨b, o, none⟩).run Try.prog w = .ok (.agg c.toArray) w :=
  run_loadVar_mid w b o _ c _ hc Try.underlying25 rfl (by rw [h]; exact size_pg)
theorem store_pg {w : World} {b o : Nat} {c : List Value} (ht : w.there b o 51) (h : c.length = 51) (h1 : ∀ v ∈ c, v.oneCell' = true) : (storeVar 25 ⟨b, o, none⟩ (.agg c.toArray)).run Try.prog w = .ok () (w.setCells b o c) := by
  have := run_storeVar_mid (P := Try.prog) w b o 25 c.toArray (by simpa [h] using ht) (by simpa [h] using size_pg) (all_oneCell_toArray h1)
  simpa using this
theorem store_new_pg {w : World} {c : Array Value} {c' : List Value} (h : c.size = 51) (h' : c'.length = 51) (h1 : ∀ v ∈ c', v.oneCell' = true) : (storeVar 25 ⟨w.heap.size, 0, none⟩ (.agg c'.toArray)).run Try.prog (w.alloc (.cells c 25)) = .ok () (w.alloc (.cells c'.toArray 25)) :=
  run_storeVar_new w _ c c'.toArray (by simpa [h'] using size_pg) (by simpa [h'] using h) (all_oneCell_toArray h1)
theorem zero_pg (w : World) : (zeroValue 25).run Try.prog w = .ok (.agg zcs.toArray) w := by kernel_rfl
theorem build_pg (m s i : Int) (w : World) : (Instr.build 25 #[(0, .int .u8 m), (1, .int .u32 s), (2, .int .i64 i)]).run Try.prog w = .ok (.agg (Value.int .u8 m :: .int .u32 s :: .int .i64 i :: u8s (List.replicate 48 0)).toArray) w := by kernel_rfl
theorem build_pg0 (w : World) : (Instr.build 25 #[]).run Try.prog w = .ok (.agg zcs.toArray) w := by kernel_rfl
theorem zcs_len : zcs.toArray.size = 51 := by simp [zcs, u8s]
/-- Whatever is neither a block nor such a sector is read and written cell by cell. -/
theorem loadVar_open4 (t : TypeId) (h : t ≠ 27 ∧ t ≠ 25 ∧ t ≠ 23) (a : Addr) : loadVar t a = (do if ← isAgg t then pure (.agg (← loadCells a (← sizeOf t))) else load a) := rfl
theorem storeVar_open4 (t : TypeId) (h : t ≠ 27 ∧ t ≠ 25) (a : Addr) (v : Value) : storeVar t a v = (do
    if v.cells.size ≠ (← sizeOf t) then stuck "storeVar: the value has not the size of the variable"
    storeCells a v.cells.toList) := rfl

/-- What is promised of the four. -/
structure PageOk : Prop where
  enc : ∀ (p : Sct), p.Ok → ∀ w : World, Calls Try.prog 9 #[.agg p.cells.toArray] w fun e w' => e = .returned (.tuple #[.agg p.code.toArray, .int .i64 p.codeE]) ∧ Below w.heap.size w w'
  dec : ∀ (bs : List Int), IsBytes bs → bs.length = 64 → ∀ w : World, Calls Try.prog 11 #[.agg (u8s bs).toArray] w fun e w' => e = .returned (.tuple #[.agg (decS bs).cells.toArray, .int .i64 (decE bs)]) ∧ Below w.heap.size w w'
  count : ∀ (n : Int), -9223372036854775808 ≤ n → n < 9223372036854775808 → ∀ w : World, Calls Try.prog 17 #[.int .i64 n] w fun e w' => e = .returned (.int .i64 (cnt n)) ∧ Below w.heap.size w w'
  cut : ∀ (v : Value) (bs : List Int) (w : World), Sl .u8 w v bs → bs.length ≤ 100000 → Calls Try.prog 15 #[v] w fun e w' => ∃ v', e = .returned v' ∧ w'.ownsRow w.heap.size 23 48 v' (nPcs bs) (rows bs (nPcs bs)).flatten ∧ Below w.heap.size w w'
end Go.Proofs.Ytnngebnnehokdaa
