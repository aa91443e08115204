/- The document's marked sectors in memory: read, written, made at once. -/
import Derived.Test.YtnngebnnehokdaaPgRow
import Derived.Laws.StructEq
namespace Go.Proofs.Ytnngebnnehokdaa
open Go.RowKit
set_option linter.unusedVariables false

def zcs : List Value := .int .u8 0 :: .int .u32 0 :: .int .i64 0 :: u8s (List.replicate 48 0)
theorem zcs_eq : zcs = zsct.cells := rfl
theorem size_sec : (Try.prog.info? 33).map (·.size) = some 51 := by kernel_rfl
theorem load_sec {w : World} {b o : Nat} {c : List Value} (hc : w.rangeAt b o c) (h : c.length = 51) : (loadVar 33 ⟨b, o, none⟩).run Try.prog w = .ok (.agg c.toArray) w :=
  run_loadVar_mid w b o _ c _ hc Try.underlying33 rfl (by rw [h]; exact size_sec)
theorem store_sec {w : World} {b o : Nat} {c : List Value} (ht : w.there b o 51) (h : c.length = 51) (h1 : ∀ v ∈ c, v.oneCell' = true) : (storeVar 33 ⟨b, o, none⟩ (.agg c.toArray)).run Try.prog w = .ok () (w.setCells b o c) := by
  have := run_storeVar_mid (P := Try.prog) w b o 33 c.toArray (by simpa [h] using ht) (by simpa [h] using size_sec) (all_oneCell_toArray h1)
  simpa using this
theorem zero_sec (w : World) : (zeroValue 33).run Try.prog w = .ok (.agg zcs.toArray) w := by kernel_rfl
theorem build_sec (m s i : Int) (w : World) : (Instr.build 33 #[(0, .int .u8 m), (1, .int .u32 s), (2, .int .i64 i)]).run Try.prog w = .ok (.agg (Value.int .u8 m :: .int .u32 s :: .int .i64 i :: u8s (List.replicate 48 0)).toArray) w := by kernel_rfl
theorem build_sec0 (w : World) : (Instr.build 33 #[]).run Try.prog w = .ok (.agg zcs.toArray) w := by kernel_rfl
/-- Whatever is neither a block nor such a sector is read and written cell by cell. -/
theorem loadVar_open2 (t : TypeId) (h : t ≠ 27 ∧ t ≠ 33) (a : Addr) : loadVar t a = (do if ← isAgg t then pure (.agg (← loadCells a (← sizeOf t))) else load a) := rfl
theorem storeVar_open2 (t : TypeId) (h : t ≠ 27 ∧ t ≠ 33) (a : Addr) (v : Value) : storeVar t a v = (do
    if v.cells.size ≠ (← sizeOf t) then stuck "storeVar: the value has not the size of the variable"
    storeCells a v.cells.toList) := rfl
/-- A sector that is a result's own cell is written and read. -/
theorem sec_cell {w x : World} {B : Nat} {u : List Value} {z : Array Value} (hw : x.heap[B]? = some (.cells z 33 (0, 0))) (hz : z.size = 51) (hB : w.heap.size ≤ B) (hb : Below w.heap.size w x) (hu : u.length = 51) (h1 : ∀ v ∈ u, v.oneCell' = true) :
    ∃ x', (storeVar 33 ⟨B, 0, none⟩ (.agg u.toArray)).run Try.prog x = .ok () x' ∧ (loadVar 33 ⟨B, 0, none⟩).run Try.prog x' = .ok (.agg u.toArray) x' ∧ Below w.heap.size w x' := by
  have ht : x.there B 0 51 := row_there hw 0 51 (by rw [hz]; exact Nat.le_refl _)
  have hs := store_sec ht hu h1
  exact ⟨_, hs, load_sec (World.rangeAt_setCells_same x _ 0 u (by rw [hu]; exact ht)) hu, hb.trans (below_cells hB _ _ _)⟩
/-- A part of bytes that lie in a block, as a slice. -/
theorem sl_part {W : World} {B k n cap : Nat} {bs : List Int} (h : W.rangeAt B 0 (u8s bs)) (hB : B < W.heap.size) (hk : k + n ≤ bs.length) (hc : n ≤ cap) (hm : cap ≤ maxLen) : Sl .u8 W (.slice (some ⟨B, k, none⟩) n cap) ((bs.drop k).take n) := by
  have hl : ((bs.drop k).take n).length = n := by simp; omega
  have := Sl.at (k := .u8) (w := W) (b := B) (off := k) (cap := cap) (bs := (bs.drop k).take n) (by rw [hl]; exact hc) hm hB (fun j hj => by
    rw [hl] at hj
    have := h (k + j) (.int .u8 (bs[k + j]?.getD 0)) (by simp [u8s, show k + j < bs.length by omega])
    rw [Nat.zero_add] at this
    rw [this, List.getElem?_take, if_pos hj, List.getElem?_drop])
  rwa [hl] at this

def decOk (bs : List Int) : Bool := (Sct.of bs).fits && decide ((Sct.of bs).bytes = bs)
def decS (bs : List Int) : Sct := if decOk bs = true then Sct.of bs else zsct
def decE (bs : List Int) : Int := if decOk bs = true then 0 else 11
end Go.Proofs.Ytnngebnnehokdaa
