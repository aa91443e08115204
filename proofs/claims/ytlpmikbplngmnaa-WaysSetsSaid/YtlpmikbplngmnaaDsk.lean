/- A disk in memory; New, Len, has, Read, Write. -/
import Derived.RangeFuncBox
import Derived.Test.YtlpmikbplngmnaaAdd
namespace Go.Proofs.Ytlpmikbplngmnaa
open Go.RowKit
set_option linter.unusedVariables false
attribute [-go_sem] loadVar storeVar
/-- The blocks of a disk. -/
def foot (rb sb n : Nat) (sv : Nat → Value) (k : Nat) : Prop := k = rb ∨ k = sb ∨ ∃ i, i < n ∧ (sv i).ownBlock = some k

/-- No more has turned than the blocks f, and what is new; f' is made of f and of what is new. -/
structure Turn (f f' : Nat → Prop) (w w' : World) : Prop where
  still : w'.os = w.os ∧ w'.tape = w.tape ∧ w'.output = w.output
  others : KeepsOthers w w'
  out : ∀ k, k < w.heap.size → ¬ f k → w'.heap[k]? = w.heap[k]?
  new : ∀ k, f' k → f k ∨ w.heap.size ≤ k

theorem Turn.size {f f' : Nat → Prop} {w w' : World} (h : Turn f f' w w') : w.heap.size ≤ w'.heap.size := h.others.size
theorem Turn.refl (f : Nat → Prop) (w : World) : Turn f f w w := ⟨⟨rfl, rfl, rfl⟩, KeepsOthers.refl w, fun _ _ _ => rfl, fun k h => .inl h⟩
theorem Turn.trans {f f' f'' : Nat → Prop} {a b c : World} (h : Turn f f' a b) (k : Turn f' f'' b c) : Turn f f'' a c :=
  ⟨still_trans h.still k.still, h.others.trans k.others, fun i hi hn => (k.out i (Nat.lt_of_lt_of_le hi h.size) (fun hf => (h.new i hf).elim hn (fun h' => absurd h' (Nat.not_le.2 hi)))).trans (h.out i hi hn),
    fun i hi => (k.new i hi).elim (h.new i) (fun h' => .inr (Nat.le_trans h.size h'))⟩

end Go.Proofs.Ytlpmikbplngmnaa
