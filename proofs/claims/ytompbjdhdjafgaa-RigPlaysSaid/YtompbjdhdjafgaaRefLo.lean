/- The document's own disk: Loose. -/
import Derived.Test.YtompbjdhdjafgaaRefFl
namespace Go.Proofs.Ytompbjdhdjafgaa
open Go.RowKit
set_option linter.unusedVariables false
attribute [-simp] Try.isAgg38 Try.zeroValue38
attribute [-go_sem] loadVar storeVar
attribute [local go_sem] zero_blk build_blk loadVar_open storeVar_open

/-- The list so far. -/
def LPart (w : World) (D : Nat → Sec) (k : Nat) (v : Value) (W : World) : Prop := W.ownsRow w.heap.size 3 1 v (looseTo D k).length (ints (looseTo D k)) ∧ Below w.heap.size w W ∧ (looseTo D k = [] → v = .slice none 0 0)

set_option maxRecDepth 100000 in
set_option maxHeartbeats 4000000 in
/-- **Loose**. -/
theorem refLoose (rq n : Nat) (f : Nat → Prop) (D : Nat → Sec) (w : World) (h : Ref w rq n f D) :
    Calls Try.prog 50 #[.pointer (some ⟨rq, 0, none⟩)] w fun e w' => ∃ v, e = .returned v ∧ w'.ownsRow w.heap.size 3 1 v (looseTo D n).length (ints (looseTo D n)) ∧ Below w.heap.size w w' ∧ (looseTo D n = [] → v = .slice none 0 0) := by
  obtain ⟨i0, hi, hz0, hz1, hz2⟩ := info_parts info_int
  obtain ⟨ss, vb, sv, h, rfl⟩ := h
  have HM : Hid (n ≤ 4096) := h.max
  have HH := Lib.hid h
  have HI : Hid (∃ i : TypeInfo, Try.prog.info? 3 = some i ∧ i.zero = some (.int .i64 0) ∧ i.size = 1 ∧ i.bytes = 8) := ⟨i0, hi, hz0, hz1, hz2⟩
  clear h hi hz0 hz1 hz2
  go_enter Try.func50, Try.ntmps50
  go_wp2
  go_loopw [3, 4] (fun v i wr => ∃ k : Nat, k ≤ n ∧ i = .int .i64 k ∧ LPart w D k v wr) (fun _ i _ => n - (intOf i).toNat)
  case atStart => exact ⟨0, Nat.zero_le _, rfl, World.ownsRow_nil _ _ _ _, Below.refl _ _, fun _ => rfl⟩
  case round =>
    obtain ⟨k, hk, rfl, hR, hB, hN⟩ := hrel
    by_cases hlt : k < n
    · have hn : 0 < n := by omega
      have hD : RefAt _ rq ss vb n sv D := HH.out.kept fun q hq => hB.block q (HH.out.lt hn hq)
      have c0 := cell_of_row _ _ 0 _ _ _ hD.head
      have c1 := cell_of_row _ _ 1 _ _ _ hD.head
      have c2 := hD.ver k hlt
      obtain ⟨a, cap, hf, -, -, -, -⟩ := row_form (hD.ok k hlt).2 (hD.row k hlt)
      rw [hf] at c2
      simp only [List.getElem?_toArray, List.getElem?_cons_zero, List.getElem?_cons_succ] at c0 c1
      have g1 : (k : Int) < (n : Int) := by omega
      have HLT := Lib.hid hlt
      have HW : Hid (wrap64 ((k : Int) + 1) = (k : Int) + 1) := IntWalk.wrap64_in _ (by have := HM.out; omega)
      obtain ⟨m, hm⟩ : ∃ m, (D k).vs.length = m := ⟨_, rfl⟩
      rw [hm] at c2
      by_cases h0 : 0 < m
      · have hv0 : (D k).vs ≠ [] := fun e => by rw [e] at hm; simp at hm; omega
        obtain ⟨i0, hi, hz0, hz1, hz2⟩ := HI.out
        have hle := looseTo_length D k
        have hb2 := HM.out
        obtain ⟨v', w1, hrun, ho, hg, _⟩ := run_append_own (P := Try.prog) (w := wr.alloc (.cells #[.int .i64 (k : Int)] 3)) w.heap.size 96 96 3 i0 (.int .i64 0) 1 8 Try.underlying96 hi hz0 hz1 hz2 rfl (by decide) _ _ _ (hR.alloc _) ⟨wr.heap.size, 0, none⟩ 1 1 [.int .i64 (k : Int)] rfl (cell_one_new _ _ _) (by simp [Value.oneCell']) (by unfold maxLen; omega) (by omega) (by have := hB.size; simp; omega)
        have HP : Hid (LPart w D (k + 1) v' w1) := by
          show LPart _ _ _ _ _
          unfold LPart
          rw [looseTo_yes hv0]
          exact ⟨by rw [ints_snoc, List.length_append]; exact ho, (hB.alloc hB.size _).grown hg (by have := hB.size; simp; omega) (fun q hq => (hR.lt q hq).1), fun e => by simp at e⟩
        have HA := Lib.hid hrun
        clear hR hB hN hD hlt hk hv0 hm hf hn ho hg hrun hi hz0 hz1 hz2 hle hb2
        go_wp2_with (at_builtin; refine wpList_append_run (.tmp 23) (.tmp 25) 96 rfl rfl _ _ _ rfl rfl HA.out ?_)
        exact ⟨next_rel (C := fun k => LPart w D k _ _) HW.out HLT.out HP.out, next_lt HW.out HLT.out⟩
      · obtain rfl : m = 0 := by omega
        have hv0 : (D k).vs = [] := List.eq_nil_of_length_eq_zero hm
        have HP : Hid (LPart w D (k + 1) u3 wr) := by show LPart _ _ _ _ _; unfold LPart; rw [looseTo_no hv0]; exact ⟨hR, hB, hN⟩
        clear hR hB hN hD hlt hk hv0 hm h0 hf hn
        go_wp2_with fail
        exact ⟨next_rel (C := fun k => LPart w D k _ _) HW.out HLT.out HP.out, next_lt HW.out HLT.out⟩
    · obtain rfl : k = n := by omega
      have HP : Hid (LPart w D k u3 wr) := ⟨hR, hB, hN⟩
      have c0 : wr.cell? ⟨rq, 0, none⟩ = some (.slice (some ⟨ss, 0, none⟩) k k) := by
        rw [World.cell?_of_block (a := ⟨rq, 0, none⟩) (hB.block rq (Array.getElem?_eq_some_iff.1 HH.out.head).1), cell_of_row _ _ _ _ _ _ HH.out.head]; rfl
      clear hR hB hN hk hlt
      go_wp2_with fail
      go_ret
      exact ⟨_, rfl, HP.out⟩
end Go.Proofs.Ytompbjdhdjafgaa
