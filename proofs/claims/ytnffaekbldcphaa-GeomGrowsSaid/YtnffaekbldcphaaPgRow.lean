/- Marked sectors in memory: their rows of cells, read and written at once; copies. -/
import Derived.Test.YtnffaekbldcphaaBlk
import Derived.Test.YtnffaekbldcphaaPgMath
import Derived.Test.YtnffaekbldcphaaBytes
import Derived.Test.YtnffaekbldcphaaQuiet
import Derived.Test.YtnffaekbldcphaaOrd
namespace Go.Proofs.Ytnffaekbldcphaa
open Go.RowKit
set_option linter.unusedVariables false

def u8s (bs : List Int) : List Value := bs.map (Value.int .u8)
/-- Its cells. -/
def Sct.cells (p : Sct) : List Value := .int .u8 p.mark :: .int .u32 p.seq :: .int .i64 p.index :: u8s p.body
theorem u8s_length (bs : List Int) : (u8s bs).length = bs.length := by simp [u8s]
theorem u8s_one (bs : List Int) : ∀ v ∈ u8s bs, v.oneCell' = true := by
  intro v hv
  obtain ⟨x, _, rfl⟩ := List.mem_map.1 hv
  rfl
theorem isBlk_u8s {bs : List Int} (h : bs.length = 64) : IsBlk (u8s bs) := ⟨bs, h, rfl⟩
theorem Sct.cells_length {p : Sct} (h : p.body.length = 48) : p.cells.length = 51 := by simp [Sct.cells, u8s, h]
theorem Sct.cells_one (p : Sct) : ∀ v ∈ p.cells, v.oneCell' = true := by
  intro v hv
  simp only [Sct.cells, List.mem_cons] at hv
  rcases hv with rfl | rfl | rfl | hv
  · rfl
  · rfl
  · rfl
  · exact u8s_one _ v hv

/-- A row whose cells lie in a block of its own. -/
theorem row_there {W : World} {B : Nat} {a : Array Value} {t : TypeId} (h : W.heap[B]? = some (.cells a t (0, 0))) (o n : Nat) (hn : o + n ≤ a.size) : W.there B o n := fun j hj => by
  refine ⟨?_, by simp [World.frozen?, h]⟩
  rw [cell_of_row _ _ _ _ _ _ h, Array.getElem?_eq_getElem (by omega)]
  rfl
theorem row_range {W : World} {B : Nat} {c : List Value} {t : TypeId} (h : W.heap[B]? = some (.cells c.toArray t (0, 0))) : W.rangeAt B 0 c := fun j x hx => by
  rw [cell_of_row _ _ _ _ _ _ h, Nat.zero_add]
  simpa using hx
theorem row_part {W : World} {B : Nat} {a b : List Value} {t : TypeId} (h : W.heap[B]? = some (.cells (a ++ b).toArray t (0, 0))) : W.rangeAt B a.length b := fun j x hx => by
  rw [cell_of_row _ _ _ _ _ _ h]
  simp [List.getElem?_append_right, hx]
/-- Bytes that lie in a block, as a slice. -/
theorem sl_range {W : World} {B o : Nat} {bs : List Int} (h : W.rangeAt B o (u8s bs)) (hB : B < W.heap.size) (hm : bs.length ≤ maxLen) : Sl .u8 W (.slice (some ⟨B, o, none⟩) bs.length bs.length) bs :=
  Sl.at (Nat.le_refl _) hm hB fun j hj => by
    rw [h j (.int .u8 bs[j]) (by simp [u8s, hj])]
    simp [hj]

theorem below_cells {N b : Nat} (h : N ≤ b) : ∀ (vs : List Value) (o : Nat) (w : World), Below N w (w.setCells b o vs)
  | [], _, w => Below.refl N w
  | v :: vs, o, w => ((Below.refl N w).setCell (p := ⟨b, o, none⟩) h v).trans (below_cells h vs (o + 1) _)
/-- Bytes that a call has made since W. -/
def OwnB (W x : World) (v : Value) (bs : List Int) : Prop := x.ownsRow W.heap.size 5 1 v bs.length (u8s bs)
theorem OwnB.below {W x x' : World} {v : Value} {bs : List Int} (h : OwnB W x v bs) (hb : Below x.heap.size x x') : OwnB W x' v bs := by
  refine ⟨h.1, ?_⟩
  rcases h.2 with h' | ⟨g, cap, cur, rfl, a1, a2, a3⟩
  · exact .inl h'
  · exact .inr ⟨g, cap, cur, rfl, a1, (hb.block g (Array.getElem?_eq_some_iff.1 a2).1).trans a2, a3⟩
theorem OwnB.sl {W x : World} {v : Value} {bs : List Int} (h : OwnB W x v bs) : Sl .u8 x v bs := Sl.of_owns h
theorem ownB_one (W x : World) (hb : W.heap.size ≤ x.heap.size) (y : Int) : OwnB W (x.alloc (.cells #[.int .u8 y] 5)) (.slice (some ⟨x.heap.size, 0, none⟩) 1 1) [y] :=
  World.ownsRow_lit (base := W.heap.size) x #[.int .u8 y] 1 hb (by simp [maxLen]) rfl
theorem rangeAt_app {W : World} {B : Nat} {a c : List Value} (h1 : W.rangeAt B 0 a) (h2 : W.rangeAt B a.length c) : W.rangeAt B 0 (a ++ c) := fun j x hx => by
  by_cases hj : j < a.length
  · rw [List.getElem?_append_left hj] at hx; exact h1 j x hx
  · rw [List.getElem?_append_right (by omega)] at hx
    have := h2 (j - a.length) x hx
    rwa [show a.length + (j - a.length) = 0 + j by omega] at this

/-- copy, for a walk. -/
theorem wpList_cp_run {P : Program} {w w' : World} {ops : Array Oper} {rest : List Oper} {o : Oper} {a : Act} {Q : Exit → Act → World → Prop} (s x : Operand) (t : TypeId)
    (ho : o.op = .call { callee := .builtin .copy, args := #[s, x], argTypes := #[t, t] }) (hw : Region.wanted o (yielded ops a.tmps) = true)
    (vs vx v' : Value) (hs : a.eval s = vs) (hx : a.eval x = vx) (hrun : (Builtin.copy_ #[t, t] o.type #[vs, vx]).run P w = .ok v' w')
    (h : wpList P ops Q rest (a.put o.dst v') w') : wpList P ops Q (o :: rest) a w := by
  unfold wpList
  rw [if_pos hw]
  refine .inl ?_
  unfold Oper.wp
  simp [execOp, ho, resolve, invoke, builtin, hs, hx, hrun, Result.andThen]
  exact h
/-- What lay in a block still does; it may still be written. -/
theorem there_below {N : Nat} {x y : World} {B o n : Nat} (hb : Below N x y) (hB : B < N) (h : x.there B o n) : y.there B o n := fun j hj => by
  have e := hb.block B hB
  refine ⟨?_, ?_⟩
  · rw [hb.cell (p := ⟨B, o + j, none⟩) hB]; exact (h j hj).1
  · rw [World.frozen?_of_block (a := ⟨B, o + j, none⟩) e]; exact (h j hj).2
theorem range_below {N : Nat} {x y : World} {B o : Nat} {c : List Value} (hb : Below N x y) (hB : B < N) (h : x.rangeAt B o c) : y.rangeAt B o c := fun j v hv => by
  rw [hb.cell (p := ⟨B, o + j, none⟩) hB]
  exact h j v hv
end Go.Proofs.Ytnffaekbldcphaa
