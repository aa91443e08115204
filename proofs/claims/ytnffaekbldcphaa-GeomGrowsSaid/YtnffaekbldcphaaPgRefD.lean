/- The document's own Decode. -/
import Derived.Test.YtnffaekbldcphaaPgSec
import Derived.Test.YtnffaekbldcphaaPgRefE
namespace Go.Proofs.Ytnffaekbldcphaa
open Go.RowKit
set_option linter.unusedVariables false
attribute [-go_sem] loadVar storeVar
theorem u8s_inj {a b : List Int} (h : u8s a = u8s b) : a = b := by
  have e := congrArg (List.map intOf) h
  unfold u8s at e
  rw [List.map_map, List.map_map, show intOf ∘ Value.int .u8 = id from by funext x; rfl] at e
  simpa using e
theorem zcs_one : ∀ v ∈ zcs, v.oneCell' = true := Sct.cells_one zsct
/-- The three ways that Decode goes. -/
theorem dec_ways {bs : List Int} (hb : IsBytes bs) (hl : bs.length = 64) :
    ((Sct.of bs).code = fillB 0 ∧ (Sct.of bs).codeE = 11 ∧ decS bs = zsct ∧ decE bs = 11) ∨
    (∃ c, (Sct.of bs).code = c ∧ IsBlk c ∧ alike c (u8s bs) = false ∧ (Sct.of bs).codeE = 0 ∧ decS bs = zsct ∧ decE bs = 11) ∨
    (∃ c, (Sct.of bs).code = c ∧ IsBlk c ∧ alike c (u8s bs) = true ∧ (Sct.of bs).codeE = 0 ∧ decS bs = Sct.of bs ∧ decE bs = 0) := by
  unfold Sct.code Sct.codeE decS decE decOk
  by_cases hf : (Sct.of bs).fits = true
  · by_cases hq : (Sct.of bs).bytes = bs
    · refine .inr (.inr ⟨_, rfl, ?_, ?_, ?_⟩)
      · rw [if_pos hf]; exact isBlk_u8s (Sct.bytes_length (of_ok hb hl))
      · rw [if_pos hf, hq]; exact alike_iff.2 rfl
      · simp [hf, hq]
    · refine .inr (.inl ⟨_, rfl, ?_, ?_, ?_⟩)
      · rw [if_pos hf]; exact isBlk_u8s (Sct.bytes_length (of_ok hb hl))
      · rw [if_pos hf]; exact alike_not (fun h => hq (u8s_inj h))
      · simp [hf, hq]
  · exact .inl (by simp [hf])

end Go.Proofs.Ytnffaekbldcphaa
