/- The statements' own way of holding a marked sector against the document's. -/
import Derived.Test.YtnffaekbldcphaaPgBod
namespace Go.Proofs.Ytnffaekbldcphaa
open Go.RowKit
set_option linter.unusedVariables false
attribute [-go_sem] loadVar storeVar
noncomputable def sameS (p q : Sct) : Bool := p.mark == q.mark && (p.seq == q.seq && (p.index == q.index && alike (u8s p.body) (u8s q.body)))
theorem sameS_iff {p q : Sct} : sameS p q = true ↔ p = q := by
  unfold sameS
  rw [Bool.and_eq_true, Bool.and_eq_true, Bool.and_eq_true, alike_iff]
  constructor
  · rintro ⟨a, b, c, d⟩
    have e := congrArg (List.map intOf) d
    unfold u8s at e
    rw [List.map_map, List.map_map, show intOf ∘ Value.int .u8 = id from by funext x; rfl] at e
    cases p; cases q
    simp at a b c e
    simp [a, b, c, e]
  · rintro rfl
    simp

end Go.Proofs.Ytnffaekbldcphaa
