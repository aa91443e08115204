/- The two coders and the two guards answer alike. -/
import Derived.Test.YtlnljanhnodhkaaK3
namespace Go.Proofs.Ytlnljanhnodhkaa
open Go.RowKit Go.Shelf
set_option linter.unusedVariables false
set_option maxRecDepth 100000 in
theorem codes_enc (s : SM) : ∃ (er : Int) (bs : List Int),
    (∀ (x : World) (v : Value), Smi x v s → IsBytes bs ∧ Calls Try.prog 10 #[v] x fun e w' => ∃ u : SlV, e = .returned (.tuple #[slV u, .int .i64 er]) ∧ Sl .u8 w' (slV u) bs ∧ Below x.heap.size x w') ∧
    (∀ (x : World) (v : Value), Smi x v s → Calls Try.prog 11 #[v] x fun e w' => ∃ u : SlV, e = .returned (.tuple #[slV u, .int .i64 er]) ∧ Sl .u8 w' (slV u) bs ∧ Below x.heap.size x w') := by
  by_cases h : sGood s
  · refine ⟨0, encB s, fun x v k => ⟨isBytes_encB k.ok, (sm_encode k h).mono fun e w' h' => ?_⟩, fun x v k => (rf16_encode k h).mono fun e w' h' => ?_⟩
    all_goals
      obtain ⟨u, rfl, ho, hb⟩ := h'
      obtain ⟨q, rfl, -⟩ := own_slV ho
      exact ⟨q, rfl, OwnB.sl ho, hb⟩
  · refine ⟨11, [], fun x v k => ⟨isBytes_nil, (sm_encodeN k h).mono fun e w' h' => ?_⟩, fun x v k => (rf16_encodeN k h).mono fun e w' h' => ?_⟩
    all_goals
      obtain ⟨rfl, hb⟩ := h'
      exact ⟨(none, 0, 0), rfl, Sl.nil _ _, hb⟩
set_option maxRecDepth 100000 in
theorem codes_good (s : SM) : ∃ gd : Bool,
    (∀ (x : World) (v : Value), Smi x v s → Calls Try.prog 12 #[v] x fun e w' => e = .returned (.bool gd) ∧ Below x.heap.size x w') ∧
    (∀ (x : World) (v : Value), Smi x v s → Calls Try.prog 13 #[v] x fun e w' => e = .returned (.bool gd) ∧ Below x.heap.size x w') := by
  by_cases h : sGood s
  · exact ⟨true, fun x v k => calls_yes (sm_good k) h, fun x v k => calls_yes (rf16_good k) h⟩
  · exact ⟨false, fun x v k => calls_no (sm_good k) h, fun x v k => calls_no (rf16_good k) h⟩
end Go.Proofs.Ytlnljanhnodhkaa
