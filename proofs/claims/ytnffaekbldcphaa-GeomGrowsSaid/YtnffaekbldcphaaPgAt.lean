/- Cells of one's own in a walk: boxed arguments, blocks and marked sectors that are stored; a document's sector made of a sector's parts. -/
import Derived.Test.YtnffaekbldcphaaPgAll
import Derived.Test.YtnffaekbldcphaaPgRefD
namespace Go.Proofs.Ytnffaekbldcphaa
open Go.RowKit
set_option linter.unusedVariables false

/-- Block B has these cells. -/
def RowC (x : World) (B : Nat) (t : TypeId) (C : List Value) : Prop := x.heap[B]? = some (.cells C.toArray t (0, 0))
section
variable {x y : World} {B : Nat} {t : TypeId} {C : List Value}
theorem RowC.lt (h : RowC x B t C) : B < x.heap.size := (Array.getElem?_eq_some_iff.1 h).1
theorem RowC.below (h : RowC x B t C) (hb : Below x.heap.size x y) : RowC y B t C := (hb.block B h.lt).trans h
theorem RowC.belowN {N : Nat} (h : RowC x B t C) (hb : Below N x y) (hB : B < N) : RowC y B t C := (hb.block B hB).trans h
theorem RowC.range (h : RowC x B t C) : x.rangeAt B 0 C := row_range h
theorem RowC.cell (h : RowC x B t C) (j : Nat) (v : Value) (hj : C[j]? = some v) : x.cell? ⟨B, j, none⟩ = some v := by
  have := h.range j v hj
  rwa [Nat.zero_add] at this
theorem RowC.frozen (h : RowC x B t C) (j : Nat) : x.frozen? ⟨B, j, none⟩ = false := by
  have h' : x.heap[B]? = some (.cells C.toArray t (0, 0)) := h
  simp [World.frozen?, h']
theorem RowC.set (h : RowC x B t C) (j : Nat) (v : Value) : RowC (x.setCell ⟨B, j, none⟩ v) B t (C.set j v) := by
  have h' : x.heap[B]? = some (.cells C.toArray t (0, 0)) := h
  obtain ⟨hlt, hk⟩ := Array.getElem?_eq_some_iff.1 h'
  show (x.heap.modify B _)[B]? = _
  rw [Array.getElem?_eq_getElem (by rw [Array.size_modify]; exact hlt), Array.getElem_modify_self, hk]
  simp
theorem RowC.new (x : World) (t : TypeId) (C : List Value) : RowC (x.alloc (.cells C.toArray t)) x.heap.size t C := heap_alloc_new x _
end
theorem below_new (x : World) (o : Obj) : Below x.heap.size x (x.alloc o) := (Below.refl _ x).alloc (Nat.le_refl _) _
/-- Cells laid from a place on. -/
theorem laid_from (l : List Value) (k : Nat) (A : Array Value) : l.zipIdx.foldl (fun cs (x : Value × Nat) => cs.setIfInBounds (k + x.2) x.1) A = (l.zipIdx k).foldl (fun cs (x : Value × Nat) => cs.setIfInBounds (0 + x.2) x.1) A := by
  rw [List.zipIdx_eq_map_add (l := l) (i := k), List.foldl_map]
  congr 1
  funext cs x
  obtain ⟨a, j⟩ := x
  show cs.setIfInBounds (k + j) a = cs.setIfInBounds (0 + (k + j)) a
  rw [Nat.zero_add]
def places4 : Nat → Option (Nat × Nat) := fun i => (#[(0, 1), (1, 1), (2, 1), (3, 48)] : Array (Nat × Nat))[i]?
/-- A block's bytes, a sector's code. -/
theorem isBlk_code {p : Sct} (hp : p.Ok) : IsBlk p.code := by
  unfold Sct.code
  split
  · exact isBlk_u8s (Sct.bytes_length hp)
  · exact isBlk_fill 0
theorem decS_ok {bs : List Int} (hb : IsBytes bs) (hl : bs.length = 64) : (decS bs).Ok := by
  unfold decS
  split
  · exact of_ok hb hl
  · exact ⟨by decide, by decide, by simp [zsct], fun j => by
      show 0 ≤ ((List.replicate 48 (0 : Int))[j]?).getD 0 ∧ ((List.replicate 48 (0 : Int))[j]?).getD 0 < 256
      rw [List.getElem?_replicate]
      split <;> decide⟩
end Go.Proofs.Ytnffaekbldcphaa
