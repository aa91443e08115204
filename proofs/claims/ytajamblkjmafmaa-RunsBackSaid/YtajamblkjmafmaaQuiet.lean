/- A region that draws its order, whose operations read what lay and whose calls leave what lay: walked once, in the order of the text. -/
import Derived.BigQuiet
import Derived.Below
import Derived.WalkKit
import Derived.OwnWalk
namespace Go.Proofs.Ytajamblkjmafmaa
open Go.RowKit
set_option linter.unusedVariables false

/-- A world that has what lay in W, and maybe more. -/
def Ext (W : World) : Type := {w : World // Below W.heap.size W w}
instance (W : World) : Nonempty (Ext W) := ⟨⟨W, Below.refl _ _⟩⟩

theorem region_ext {P : Program} {id : Nat} {Q : Exit → Act → World → Prop} {a : Act} {w : World} {l : List Oper} (hm : P.follows .mixedOrders = true) (hB : Region.lexB .any l.toArray = true)
    (h : wpQuiet P l.toArray (fun w' => ∃ x : Ext w, w' = x.1) (fun a' => ∀ x : Ext w, Q .normal a' x.1) l a) : (Code.region id l.toArray true).wp P Q a w := by
  refine wp_region_quiet (C := fun w' => ∃ x : Ext w, w' = x.1) hm hB ⟨⟨w.drew, (Below.refl _ w).drew⟩, rfl⟩ ?_
  have : (fun a' => ∀ w', (∃ x : Ext w, w' = x.1) → Q .normal a' w') = fun a' => ∀ x : Ext w, Q .normal a' x.1 := by
    funext a'
    exact propext ⟨fun h x => h _ ⟨x, rfl⟩, fun h w' ⟨x, e⟩ => e ▸ h x⟩
  rw [this]
  simpa using h

theorem calls_ext {P : Program} {f : FuncId} {args : Array Value} {W : World} {v : Value} (x : Ext W) (h : Calls P f args x.1 fun e w' => e = .returned v ∧ Below x.1.heap.size x.1 w') :
    Calls P f args x.1 fun e w'' => e = .returned v ∧ ∃ y : Ext W, w'' = y.1 :=
  h.mono fun e w' ⟨h1, h2⟩ => ⟨h1, ⟨w', x.2.trans (h2.mono x.2.size)⟩, rfl⟩

theorem Ext.cell {W : World} (x : Ext W) {p : Addr} (h : p.block < W.heap.size) : x.1.cell? p = W.cell? p := x.2.cell h
end Go.Proofs.Ytajamblkjmafmaa
