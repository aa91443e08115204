/- The statements' own trial: what it holds, plain facts. -/
import Derived.Test.YtnngebnnehokdaaPgOk
namespace Go.Proofs.Ytnngebnnehokdaa
open Go.RowKit
set_option linter.unusedVariables false
def kP : Sct := ⟨9, 258, 3, 77 :: List.replicate 47 0⟩
theorem kP_ok : kP.Ok := ⟨by decide, by decide, rfl, by
  intro j
  match j with
  | 0 => decide
  | j + 1 =>
    show 0 ≤ ((List.replicate 47 (0 : Int))[j]?).getD 0 ∧ ((List.replicate 47 (0 : Int))[j]?).getD 0 < 256
    rw [List.getElem?_replicate]
    split <;> decide⟩
theorem kP_fits : kP.fits = true := by decide
theorem kP_code : kP.code = u8s kP.bytes ∧ kP.codeE = 0 := by unfold Sct.code Sct.codeE; rw [kP_fits]; exact ⟨rfl, rfl⟩
theorem kP_of : Sct.of kP.bytes = kP := of_bytes kP_ok (by decide)
theorem kP_dec : decS kP.bytes = kP ∧ decE kP.bytes = 0 := by
  unfold decS decE decOk
  rw [kP_of, kP_fits]
  simp
theorem kP_63 : kP.bytes[63]? = some 0 := by
  unfold Sct.bytes
  rw [List.getElem?_append_right (by rw [Sct.head_length kP_ok]; omega), List.getElem?_append_right (by rw [putL_length, Sct.head_length kP_ok]; omega), putL_length, Sct.head_length kP_ok]
  rfl
theorem z64_dec : decS (List.replicate 64 0) = zsct ∧ decE (List.replicate 64 0) = 11 := by
  have : (Sct.of (List.replicate 64 0)).fits = false := by decide
  unfold decS decE decOk
  rw [this]
  exact ⟨rfl, rfl⟩
theorem z64_blk : (u8s (List.replicate 64 0)).toArray = zarr := by unfold u8s zarr fillB; rw [List.map_replicate]
end Go.Proofs.Ytnngebnnehokdaa
