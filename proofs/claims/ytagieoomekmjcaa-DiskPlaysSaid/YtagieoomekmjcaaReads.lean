/- What DiskReads holds against the disk: twenty blocks. -/
import Derived.Test.YtagieoomekmjcaaPicks
namespace Go.Proofs.Ytagieoomekmjcaa
open Go.RowKit
set_option linter.unusedVariables false

def z20 : Array Value := (List.replicate 1280 (Value.int .u8 0)).toArray
theorem zero_20 (w : World) : (zeroValue 60).run Try.prog w = .ok (.agg z20) w := by kernel_rfl

/-- Twenty blocks at block B, of one byte each. -/
def Warr (W : World) (B : Nat) (want : Nat → Int) : Prop := (∀ k, k < 20 → W.rangeAt B (k * 64) (fillB (want k))) ∧ W.there B 0 1280

theorem Warr.new (W : World) : Warr (W.alloc (.cells z20 60)) W.heap.size (fun _ => 0) := by
  refine ⟨fun k hk j x hx => ?_, fun j hj => ⟨?_, ?_⟩⟩
  · have hj : j < 64 := by have := (List.getElem?_eq_some_iff.1 hx).1; rw [(isBlk_fill 0).length] at this; exact this
    rw [cell_of_row _ _ _ _ _ _ (heap_alloc_new W _)]
    have hx' : x = .int .u8 0 := by
      unfold fillB at hx
      rw [List.getElem?_replicate, if_pos hj] at hx
      exact (Option.some.inj hx).symm
    subst hx'
    simp only [z20, List.getElem?_toArray]
    rw [List.getElem?_replicate, if_pos (by omega)]
  · rw [cell_of_row _ _ _ _ _ _ (heap_alloc_new W _)]
    rw [z20, List.getElem?_toArray, List.getElem?_replicate, if_pos (by omega)]
    rfl
  · unfold World.frozen?
    rw [heap_alloc_new W _]
    simp
theorem Warr.same {W W' : World} {B : Nat} {want : Nat → Int} (h : Warr W B want) (hb : W'.heap[B]? = W.heap[B]?) : Warr W' B want :=
  ⟨fun k hk j x hx => (World.cell?_of_block (a := ⟨B, k * 64 + j, none⟩) hb).trans (h.1 k hk j x hx),
    fun j hj => ⟨by rw [World.cell?_of_block (a := ⟨B, 0 + j, none⟩) hb]; exact (h.2 j hj).1, by rw [World.frozen?_of_block (a := ⟨B, 0 + j, none⟩) hb]; exact (h.2 j hj).2⟩⟩
theorem Warr.at {W : World} {B : Nat} {want : Nat → Int} (h : Warr W B want) {k : Nat} (hk : k < 20) : W.there B (k * 64) 64 := fun j hj => by
  have := h.2 (k * 64 + j) (by omega)
  rwa [Nat.zero_add] at this
theorem Warr.set {W : World} {B : Nat} {want : Nat → Int} (h : Warr W B want) {k : Nat} (hk : k < 20) (v : Int) : Warr (W.setCells B (k * 64) (fillB v)) B (upd want k v) := by
  refine ⟨fun j hj => ?_, World.there_setCells h.2 _ _ _⟩
  by_cases e : j = k
  · subst e
    rw [upd_same]
    exact World.rangeAt_setCells_same W B (j * 64) (fillB v) (by rw [(isBlk_fill v).length]; exact h.at hk)
  · rw [upd_other _ _ e]
    refine World.rangeAt_setCells_apart (h.1 j hj) B (k * 64) (fillB v) ?_
    rw [(isBlk_fill v).length, (isBlk_fill _).length]
    omega
theorem Warr.load {W : World} {B : Nat} {want : Nat → Int} (h : Warr W B want) {k : Nat} (hk : k < 20) : (loadVar 37 ⟨B, k * 64, none⟩).run Try.prog W = .ok (.agg (fillB (want k)).toArray) W :=
  load_blk (h.1 k hk) (isBlk_fill _).length
theorem Warr.store {W : World} {B : Nat} {want : Nat → Int} (h : Warr W B want) {k : Nat} (hk : k < 20) (v : Int) : (storeVar 37 ⟨B, k * 64, none⟩ (.agg (fillB v).toArray)).run Try.prog W = .ok () (W.setCells B (k * 64) (fillB v)) :=
  store_blk (h.at hk) (isBlk_fill v)

/-- What a flush leaves to be read. -/
theorem flushed_look (D : Nat → Sec) (n j : Nat) (hj : j < n) : (settled D (fun j => (D j).vs.length) (looseTo D n) j).look = (D j).look := by
  by_cases h : (D j).vs = []
  · rw [settled_not (fun hm => looseTo_loose hm h)]
  · rw [settled_yes (mem_looseTo hj h), Sec.look_some h]
    have hp := List.length_pos_iff.2 h
    unfold Sec.settle Sec.look
    simp only [List.getLast?_nil, Option.getD_none]
    rw [if_neg (by omega)]
theorem flushed_few (D : Nat → Sec) (n j : Nat) : (settled D (fun j => (D j).vs.length) (looseTo D n) j).vs.length ≤ (D j).vs.length := by
  by_cases h : j ∈ looseTo D n
  · rw [settled_yes h]; simp [Sec.settle]
  · rw [settled_not h]; exact Nat.le_refl _
theorem add_look (s : Sec) (b : List Value) (h : s.vs.length ≤ 255) : (s.add b).look = b := by
  unfold Sec.add Sec.look
  rw [if_neg (by omega)]
  simp
theorem add_more (s : Sec) (b : List Value) (h : s.vs.length ≤ 255) : (s.add b).vs.length = s.vs.length + 1 := by
  unfold Sec.add
  rw [if_neg (by omega)]
  simp
end Go.Proofs.Ytagieoomekmjcaa
