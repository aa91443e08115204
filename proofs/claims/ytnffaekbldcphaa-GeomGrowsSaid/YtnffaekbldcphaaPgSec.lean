/- The document's marked sectors in memory: read, written, made at once. -/
import Derived.Test.YtnffaekbldcphaaPgRow
import Derived.Laws.StructEq
namespace Go.Proofs.Ytnffaekbldcphaa
open Go.RowKit
set_option linter.unusedVariables false

def zcs : List Value := .int .u8 0 :: .int .u32 0 :: .int .i64 0 :: u8s (List.replicate 48 0)
theorem zcs_eq : zcs = zsct.cells := rfl
/-- A part of bytes that lie in a block, as a slice. -/
theorem sl_part {W : World} {B k n cap : Nat} {bs : List Int} (h : W.rangeAt B 0 (u8s bs)) (hB : B < W.heap.size) (hk : k + n ≤ bs.length) (hc : n ≤ cap) (hm : cap ≤ maxLen) : Sl .u8 W (.slice (some ⟨B, k, none⟩) n cap) ((bs.drop k).take n) := by
  have hl : ((bs.drop k).take n).length = n := by simp; omega
  have := Sl.at (k := .u8) (w := W) (b := B) (off := k) (cap := cap) (bs := (bs.drop k).take n) (by rw [hl]; exact hc) hm hB (fun j hj => by
    rw [hl] at hj
    have := h (k + j) (.int .u8 (bs[k + j]?.getD 0)) (by simp [u8s, show k + j < bs.length by omega])
    rw [Nat.zero_add] at this
    rw [this, List.getElem?_take, if_pos hj, List.getElem?_drop])
  rwa [hl] at this

def decOk (bs : List Int) : Bool := (Sct.of bs).fits && decide ((Sct.of bs).bytes = bs)
def decS (bs : List Int) : Sct := if decOk bs = true then Sct.of bs else zsct
def decE (bs : List Int) : Int := if decOk bs = true then 0 else 11
end Go.Proofs.Ytnffaekbldcphaa
