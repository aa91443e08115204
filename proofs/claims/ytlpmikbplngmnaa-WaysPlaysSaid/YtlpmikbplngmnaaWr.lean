/- Write, New. -/
import Derived.Test.YtlpmikbplngmnaaRW
namespace Go.Proofs.Ytlpmikbplngmnaa
open Go.RowKit
set_option linter.unusedVariables false
attribute [-go_sem] loadVar storeVar
theorem Turn.of_below {f : Nat → Prop} {w W : World} (h : Below w.heap.size w W) : Turn f f w W :=
  ⟨⟨h.os, h.tape, h.output⟩, ⟨h.size, fun k o hk _ => (h.block k (Array.getElem?_eq_some_iff.1 hk).1).trans hk⟩, fun k hk _ => h.block k hk, fun _ hk => .inl hk⟩
theorem Turn.below {f f' : Nat → Prop} {w W : World} {N : Nat} (h : Turn f f' w W) (hN : N ≤ w.heap.size) (hf : ∀ k, f k → N ≤ k) : Below N w W :=
  ⟨h.still.1, h.still.2.1, h.still.2.2, h.size, fun k hk => h.out k (by omega) (fun hfk => by have := hf k hfk; omega)⟩

end Go.Proofs.Ytlpmikbplngmnaa
