/- A disk that a statement has made, and what else it has made. -/
import Derived.Test.YtlpmikbplngmnaaCrash
namespace Go.Proofs.Ytlpmikbplngmnaa
open Go.RowKit
set_option linter.unusedVariables false

theorem Sl.same {k : IntKind} {w w' : World} {v : Value} {bs : List Int} (h : Sl k w v bs) (hs : w.heap.size ≤ w'.heap.size) (hb : ∀ b, v.ownBlock = some b → w'.heap[b]? = w.heap[b]?) : Sl k w' v bs := by
  obtain ⟨a, cap, rfl, h1, h2, h3, h4⟩ := h
  refine ⟨a, cap, rfl, h1, h2, ?_, h4⟩
  rcases h3 with h3 | ⟨b, off, rfl, h5, h6⟩
  · exact .inl h3
  · exact .inr ⟨b, off, rfl, Nat.lt_of_lt_of_le h5 hs, fun j hj => (World.cell?_of_block (a := ⟨b, off + j, none⟩) (hb b rfl)).trans (h6 j hj)⟩
end Go.Proofs.Ytlpmikbplngmnaa
