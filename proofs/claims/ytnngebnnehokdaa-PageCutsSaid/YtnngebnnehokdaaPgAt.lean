/- Cells of one's own in a walk: boxed arguments, blocks and marked sectors that are stored; a document's sector made of a sector's parts. -/
import Derived.Test.YtnngebnnehokdaaPgAll
import Derived.Test.YtnngebnnehokdaaPgRefD
namespace Go.Proofs.Ytnngebnnehokdaa
open Go.RowKit
set_option linter.unusedVariables false

/-- Block B has these cells. -/
def RowC (x : World) (B : Nat) (t : TypeId) (C : List Value) : Prop := x.heap[B]? = some (.cells C.toArray t (0, 0))
section
variable {x y : World} {B : Nat} {t : TypeId} {C : List Value}
theorem RowC.lt (h : RowC x B t C) : B < x.heap.size := (Array.getElem?_eq_some_iff.1 h).1
theorem RowC.below (h : RowC x B t C) (hb : Below x.heap.size x y) : RowC y B t C := (hb.block B h.lt).trans h
theorem RowC.belowN {N : Nat} (h : RowC x B t C) (hb : Below N x y) (hB : B < N) : RowC y B t C := (hb.block B hB).trans h
theorem RowC.range (h : RowC x B t C) : x.rangeAt B 0 C := row_range h
theorem RowC.cell (h : RowC x B t C) (j : Nat) (v : Value) (hj : C[j]? = some v) : x.cell? ⟨B, j, none⟩ = some v := by
  have := h.range j v hj
  rwa [Nat.zero_add] at this
theorem RowC.frozen (h : RowC x B t C) (j : Nat) : x.frozen? ⟨B, j, none⟩ = false := by
  have h' : x.heap[B]? = some (.cells C.toArray t (0, 0)) := h
  simp [World.frozen?, h']
theorem RowC.set (h : RowC x B t C) (j : Nat) (v : Value) : RowC (x.setCell ⟨B, j, none⟩ v) B t (C.set j v) := by
  have h' : x.heap[B]? = some (.cells C.toArray t (0, 0)) := h
  obtain ⟨hlt, hk⟩ := Array.getElem?_eq_some_iff.1 h'
  show (x.heap.modify B _)[B]? = _
  rw [Array.getElem?_eq_getElem (by rw [Array.size_modify]; exact hlt), Array.getElem_modify_self, hk]
  simp
theorem RowC.new (x : World) (t : TypeId) (C : List Value) : RowC (x.alloc (.cells C.toArray t)) x.heap.size t C := heap_alloc_new x _
end
theorem below_new (x : World) (o : Obj) : Below x.heap.size x (x.alloc o) := (Below.refl _ x).alloc (Nat.le_refl _) _
theorem new_blk (x : World) {C : List Value} (hC : IsBlk C) : ∃ y, (storeVar 27 ⟨x.heap.size, 0, none⟩ (.agg C.toArray)).run Try.prog (x.alloc (.cells zarr 27)) = .ok () y ∧ RowC y x.heap.size 27 C ∧ Below x.heap.size x y :=
  ⟨_, store_new zarr_size hC, RowC.new x _ C, below_new x _⟩
theorem new_pg (x : World) (p : Sct) (hp : p.body.length = 48) : ∃ y, (storeVar 25 ⟨x.heap.size, 0, none⟩ (.agg p.cells.toArray)).run Try.prog (x.alloc (.cells zcs.toArray 25)) = .ok () y ∧ RowC y x.heap.size 25 p.cells ∧ Below x.heap.size x y :=
  ⟨_, store_new_pg zcs_len (Sct.cells_length hp) (Sct.cells_one p), RowC.new x _ _, below_new x _⟩
theorem store_new_sec {w : World} {c : Array Value} {c' : List Value} (h : c.size = 51) (h' : c'.length = 51) (h1 : ∀ v ∈ c', v.oneCell' = true) : (storeVar 33 ⟨w.heap.size, 0, none⟩ (.agg c'.toArray)).run Try.prog (w.alloc (.cells c 33)) = .ok () (w.alloc (.cells c'.toArray 33)) :=
  run_storeVar_new w _ c c'.toArray (by simpa [h'] using size_sec) (by simpa [h'] using h) (all_oneCell_toArray h1)
theorem new_sec (x : World) (p : Sct) (hp : p.body.length = 48) : ∃ y, (storeVar 33 ⟨x.heap.size, 0, none⟩ (.agg p.cells.toArray)).run Try.prog (x.alloc (.cells zcs.toArray 33)) = .ok () y ∧ RowC y x.heap.size 33 p.cells ∧ Below x.heap.size x y :=
  ⟨_, store_new_sec zcs_len (Sct.cells_length hp) (Sct.cells_one p), RowC.new x _ _, below_new x _⟩
theorem RowC.blk {x : World} {B : Nat} {C : List Value} {t : TypeId} (h : RowC x B t C) (hC : C.length = 64) : (loadVar 27 ⟨B, 0, none⟩).run Try.prog x = .ok (.agg C.toArray) x := load_blk h.range hC
theorem RowC.pg {x : World} {B : Nat} {p : Sct} {t : TypeId} (h : RowC x B t p.cells) (hp : p.body.length = 48) : (loadVar 25 ⟨B, 0, none⟩).run Try.prog x = .ok (.agg p.cells.toArray) x := load_pg h.range (Sct.cells_length hp)
theorem RowC.sec {x : World} {B : Nat} {p : Sct} {t : TypeId} (h : RowC x B t p.cells) (hp : p.body.length = 48) : (loadVar 33 ⟨B, 0, none⟩).run Try.prog x = .ok (.agg p.cells.toArray) x := load_sec h.range (Sct.cells_length hp)
theorem RowC.bod {x : World} {B : Nat} {p : Sct} {t : TypeId} (h : RowC x B t p.cells) (hp : p.body.length = 48) : (loadVar 23 ⟨B, 3, none⟩).run Try.prog x = .ok (.agg (u8s p.body).toArray) x :=
  load_bod (row_part (a := [.int .u8 p.mark, .int .u32 p.seq, .int .i64 p.index]) (b := u8s p.body) h) (by rw [u8s_length, hp])

/-- Cells laid from a place on. -/
theorem laid_from (l : List Value) (k : Nat) (A : Array Value) : l.zipIdx.foldl (fun cs (x : Value × Nat) => cs.setIfInBounds (k + x.2) x.1) A = (l.zipIdx k).foldl (fun cs (x : Value × Nat) => cs.setIfInBounds (0 + x.2) x.1) A := by
  rw [List.zipIdx_eq_map_add (l := l) (i := k), List.foldl_map]
  congr 1
  funext cs x
  obtain ⟨a, j⟩ := x
  show cs.setIfInBounds (k + j) a = cs.setIfInBounds (0 + (k + j)) a
  rw [Nat.zero_add]
def places4 : Nat → Option (Nat × Nat) := fun i => (#[(0, 1), (1, 1), (2, 1), (3, 48)] : Array (Nat × Nat))[i]?
/-- The document's sector, of a sector's four parts. -/
theorem build_sec4 (m s i : Int) (c : List Value) (hc : c.length = 48) (w : World) :
    (Instr.build 33 #[(0, .int .u8 m), (1, .int .u32 s), (2, .int .i64 i), (3, .agg c.toArray)]).run Try.prog w = .ok (.agg (Value.int .u8 m :: .int .u32 s :: .int .i64 i :: c).toArray) w := by
  refine run_build w _ _ _ ?_
  have e : Instr.fill places4 zcs.toArray [(0, .int .u8 m), (1, .int .u32 s), (2, .int .i64 i), (3, .agg c.toArray)] = some (Value.int .u8 m :: .int .u32 s :: .int .i64 i :: c).toArray := by
    have h3 : Instr.fill places4 zcs.toArray [(0, .int .u8 m), (1, .int .u32 s), (2, .int .i64 i), (3, .agg c.toArray)] = Instr.fill places4 (((zcs.set 0 (.int .u8 m)).set 1 (.int .u32 s)).set 2 (.int .i64 i)).toArray [(3, .agg c.toArray)] := rfl
    have hz : (((zcs.set 0 (.int .u8 m)).set 1 (.int .u32 s)).set 2 (.int .i64 i)).toArray.size = 51 := by simp [zcs, u8s]
    rw [h3]
    have p3 : places4 3 = some (3, 48) := rfl
    simp only [Instr.fill, p3, Value.cells]
    refine (if_neg ?_).trans ?_
    · intro h
      rcases Bool.or_eq_true_iff.1 h with h | h
      · exact (of_decide_eq_true h) (by simpa using hc)
      · have h' : 3 + c.toArray.size > (((zcs.set 0 (.int .u8 m)).set 1 (.int .u32 s)).set 2 (.int .i64 i)).toArray.size := of_decide_eq_true h
        rw [hz, List.size_toArray, hc] at h'
        omega
    congr 1
    rw [← Array.foldl_toList, Array.toList_zipIdx, laid_from]
    apply Array.ext_getElem?
    intro j
    rw [laid_get c 3 _ j (by rw [hz, hc]; omega)]
    match j with
    | 0 => rfl
    | 1 => rfl
    | 2 => rfl
    | j + 3 =>
      by_cases hj : j < 48
      · rw [if_pos (by omega)]; simp
      · rw [if_neg (by omega), Array.getElem?_eq_none (by omega)]; simp; omega
  exact e
/-- Whatever is no block, no body and neither sector is read and written cell by cell. -/
theorem loadVar_open5 (t : TypeId) (h : t ≠ 27 ∧ t ≠ 25 ∧ t ≠ 23 ∧ t ≠ 33) (a : Addr) : loadVar t a = (do if ← isAgg t then pure (.agg (← loadCells a (← sizeOf t))) else load a) := rfl
theorem storeVar_open5 (t : TypeId) (h : t ≠ 27 ∧ t ≠ 25 ∧ t ≠ 33) (a : Addr) (v : Value) : storeVar t a v = (do
    if v.cells.size ≠ (← sizeOf t) then stuck "storeVar: the value has not the size of the variable"
    storeCells a v.cells.toList) := rfl
/-- A block's bytes, a sector's code. -/
theorem isBlk_code {p : Sct} (hp : p.Ok) : IsBlk p.code := by
  unfold Sct.code
  split
  · exact isBlk_u8s (Sct.bytes_length hp)
  · exact isBlk_fill 0
theorem decS_ok {bs : List Int} (hb : IsBytes bs) (hl : bs.length = 64) : (decS bs).Ok := by
  unfold decS
  split
  · exact of_ok hb hl
  · exact ⟨by decide, by decide, by simp [zsct], fun j => by
      show 0 ≤ ((List.replicate 48 (0 : Int))[j]?).getD 0 ∧ ((List.replicate 48 (0 : Int))[j]?).getD 0 < 256
      rw [List.getElem?_replicate]
      split <;> decide⟩
end Go.Proofs.Ytnngebnnehokdaa
