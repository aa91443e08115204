/- Cells of one's own: a block with these cells; rows that lie apart by their elements' types. -/
import Derived.WalkKit
import Derived.Below
import Derived.Laws.OwnMore
import Derived.Laws.Rows
import Derived.OwnWalk
import Derived.RangeFuncSeq
import Derived.Deep.MidRow
namespace Go.Proofs.Ytajamblkjmafmaa
open Go.RowKit
set_option linter.unusedVariables false

theorem row_range {W : World} {B : Nat} {c : List Value} {t : TypeId} (h : W.heap[B]? = some (.cells c.toArray t (0, 0))) : W.rangeAt B 0 c := fun j x hx => by
  rw [cell_of_row _ _ _ _ _ _ h, Nat.zero_add]
  simpa using hx
/-- Block B has these cells. -/
def RowC (x : World) (B : Nat) (t : TypeId) (C : List Value) : Prop := x.heap[B]? = some (.cells C.toArray t (0, 0))
section
variable {x y : World} {B : Nat} {t : TypeId} {C : List Value}
theorem RowC.lt (h : RowC x B t C) : B < x.heap.size := (Array.getElem?_eq_some_iff.1 h).1
theorem RowC.below (h : RowC x B t C) (hb : Below x.heap.size x y) : RowC y B t C := (hb.block B h.lt).trans h
theorem RowC.belowN {N : Nat} (h : RowC x B t C) (hb : Below N x y) (hB : B < N) : RowC y B t C := (hb.block B hB).trans h
theorem RowC.range (h : RowC x B t C) : x.rangeAt B 0 C := row_range h
theorem RowC.cell (h : RowC x B t C) (j : Nat) (v : Value) (hj : C[j]? = some v) : x.cell? ⟨B, j, none⟩ = some v := by
  have := h.range j v hj
  rwa [Nat.zero_add] at this
theorem RowC.frozen (h : RowC x B t C) (j : Nat) : x.frozen? ⟨B, j, none⟩ = false := by
  have h' : x.heap[B]? = some (.cells C.toArray t (0, 0)) := h
  simp [World.frozen?, h']
theorem RowC.set (h : RowC x B t C) (j : Nat) (v : Value) : RowC (x.setCell ⟨B, j, none⟩ v) B t (C.set j v) := by
  have h' : x.heap[B]? = some (.cells C.toArray t (0, 0)) := h
  obtain ⟨hlt, hk⟩ := Array.getElem?_eq_some_iff.1 h'
  show (x.heap.modify B _)[B]? = _
  rw [Array.getElem?_eq_getElem (by rw [Array.size_modify]; exact hlt), Array.getElem_modify_self, hk]
  simp
theorem RowC.new (x : World) (t : TypeId) (C : List Value) : RowC (x.alloc (.cells C.toArray t)) x.heap.size t C := heap_alloc_new x _
end
theorem below_new (x : World) (o : Obj) : Below x.heap.size x (x.alloc o) := (Below.refl _ x).alloc (Nat.le_refl _) _
theorem own_belowT {x x' : World} {N e sz n : Nat} {v : Value} {xs : List Value} (h : x.ownsRow N e sz v n xs) (hb : Below x.heap.size x x') : x'.ownsRow N e sz v n xs := by
  refine ⟨h.1, ?_⟩
  rcases h.2 with h' | ⟨g, cap, cur, rfl, a1, a2, a3⟩
  · exact .inl h'
  · exact .inr ⟨g, cap, cur, rfl, a1, (hb.block g (Array.getElem?_eq_some_iff.1 a2).1).trans a2, a3⟩
theorem row_ne {x : World} {N e sz n B : Nat} {v : Value} {xs C : List Value} {t : TypeId} (h : x.ownsRow N e sz v n xs) (hB : RowC x B t C) (hne : e ≠ t) : v.ownBlock ≠ some B := by
  rcases h.2 with ⟨rfl, _⟩ | ⟨g, cap, cur, rfl, _, hg, _⟩
  · simp [Value.ownBlock]
  · intro e'
    obtain rfl : g = B := by simpa [Value.ownBlock] using e'
    have hB' : x.heap[g]? = some (.cells C.toArray t (0, 0)) := hB
    rw [hg] at hB'
    cases hB'
    exact hne rfl
theorem rows_ne {x : World} {N N' e e' sz sz' n n' : Nat} {v v' : Value} {xs xs' : List Value} (h : x.ownsRow N e sz v n xs) (h' : x.ownsRow N' e' sz' v' n' xs') (hne : e ≠ e') : v.ownBlock = none ∨ v.ownBlock ≠ v'.ownBlock := by
  rcases h.2 with ⟨rfl, _⟩ | ⟨g, cap, cur, rfl, _, hg, _⟩
  · exact .inl rfl
  · right
    rcases h'.2 with ⟨rfl, _⟩ | ⟨g', cap', cur', rfl, _, hg', _⟩
    · simp [Value.ownBlock]
    · intro ee
      obtain rfl : g = g' := by simpa [Value.ownBlock] using ee
      rw [hg] at hg'
      cases hg'
      exact hne rfl
theorem grownBy_setCellJ (W : World) (b j : Nat) (v : Value) : W.grownBy (W.setCell ⟨b, j, none⟩ v) (some b) :=
  ⟨rfl, rfl, rfl, (KeepsWalks.setCell W _ v).size, fun k _ hk => Below.heap_setCell _ _ _ k (fun e => hk (by rw [e]))⟩
theorem RowC.grown {x y : World} {B : Nat} {t : TypeId} {C : List Value} {row : Option Nat} (h : RowC x B t C) (hg : x.grownBy y row) (hne : row ≠ some B) : RowC y B t C := (hg.block B h.lt (fun e => hne e.symm)).trans h
theorem row_lenT {W : World} {base sz n : Nat} {e : TypeId} {v : Value} {xs : List Value} (h : W.ownsRow base e sz v n xs) : ∃ ra c, v = .slice ra n c ∧ (0 < n → ∃ g, ra = some ⟨g, 0, none⟩ ∧ g < W.heap.size ∧ W.rangeAt g 0 xs) := by
  rcases h.2 with ⟨rfl, rfl⟩ | ⟨g, cap, cur, rfl, _, hg, _⟩
  · exact ⟨_, _, rfl, fun h => absurd h (by omega)⟩
  · refine ⟨_, _, rfl, fun _ => ⟨g, rfl, (Array.getElem?_eq_some_iff.1 hg).1, fun j u hj => ?_⟩⟩
    have := h.cells (g := g) rfl j u hj
    rwa [Addr.add_mid] at this

end Go.Proofs.Ytajamblkjmafmaa
