/- The library's Chunk at bytes: its range function has its contract: each piece comes, in order. -/
import Derived.Test.YtnffaekbldcphaaOrd
import Derived.Test.YtnffaekbldcphaaQuiet
import Derived.Test.YtnffaekbldcphaaPgBod
import Derived.Test.YtnffaekbldcphaaIter
import Derived.RangeFuncBox
namespace Go.Proofs.Ytnffaekbldcphaa
open Go.RowKit Go.Shelf
set_option linter.unusedVariables false

attribute [local go_sem] Oper.semAt_some

/-- What the body of a loop over pieces must keep: some blocks. -/
def KpC (S : Nat → Prop) (A B : World) : Prop := A.heap.size ≤ B.heap.size ∧ ∀ k, S k → B.heap[k]? = A.heap[k]?
theorem KpC.refl (S : Nat → Prop) (A : World) : KpC S A A := ⟨Nat.le_refl _, fun _ _ => rfl⟩
theorem kpC_t {S : Nat → Prop} {A B C : World} (h : KpC S A B) (k : KpC S B C) : KpC S A C := ⟨Nat.le_trans h.1 k.1, fun j hj => (k.2 j hj).trans (h.2 j hj)⟩
theorem KpC.cell {S : Nat → Prop} {A B : World} (h : KpC S A B) {p : Addr} (hp : S p.block) : B.cell? p = A.cell? p := World.cell?_of_block (h.2 _ hp)
theorem kpC_b {S : Nat → Prop} {w : World} (hS : ∀ k, S k → k < w.heap.size) (W : World) (l : Nat) (o o' : Obj) (hl : w.heap.size ≤ l) (_ : W.heap[l]? = some o) (_ : o.isCells = false) (_ : o.isWalk = false) : KpC S W (W.putObj l o') := ⟨by simp, fun k hk => by
  refine World.putObj_heap_other ?_
  have := hS k hk
  omega⟩
/-- Piece number k of len bytes that lie at a place. -/
def encC (b off len : Nat) {m : Nat} (x : Fin m) : Array Value := #[.slice (some ⟨b, off + 48 * x.1, none⟩) (min 48 (len - 48 * x.1)) (min 48 (len - 48 * x.1))]

end Go.Proofs.Ytnffaekbldcphaa
