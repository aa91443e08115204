/- The document's map of blocks in slots: Dirty. -/
import Derived.Test.YtlpmikbplngmnaaWyDirt
import Derived.Test.YtlpmikbplngmnaaInO
namespace Go.Proofs.Ytlpmikbplngmnaa
open Go.RowKit Go.Shelf Go.Lib
set_option linter.unusedVariables false
set_option linter.unusedSimpArgs false
variable {P SB HB cap : Nat} {m : WM} {w : World} {f : Nat → Prop}
def dOf (s : WSlot) : Int := if s.d then s.b else -1
theorem dirty_take {m : WM} {k : Nat} (h : k < m.size) : (mDirty m).take (k + 1) = (mDirty m).take k ++ [dOf (m.slot k)] := by
  have hl : k < (mDirty m).length := by unfold mDirty; simpa using h
  rw [List.take_succ_eq_append_getElem hl]
  have e : (mDirty m)[k]? = some (dOf (m.slot k)) := by
    unfold mDirty
    rw [List.getElem?_map, List.getElem?_range h]
    rfl
  rw [List.getElem?_eq_getElem hl] at e
  rw [Option.some.inj e]

set_option maxRecDepth 100000 in
set_option maxHeartbeats 2000000 in
/-- **Dirty**. -/
theorem WyQ.dirty (h : WyQ P SB HB cap m w f) (ho : WmOk m) :
    Calls Try.prog 36 #[.pointer (some ⟨P, 0, none⟩)] w fun e w' => ∃ u, e = .returned u ∧ InO w.heap.size w' u (mDirty m) ∧ Below w.heap.size w w' := by
  have hn8 : m.size ≤ 32 := by show m.ss.length * m.wy ≤ 8 * 4; exact Nat.mul_le_mul ho.st8 ho.wy4
  have KK : Hid (∀ x : World, Below w.heap.size w x → WyQ P SB HB cap m x f) := fun x hx => (WyQ.isRes P SB HB cap m).below h hx
  have KH : Hid (∀ x : World, Below w.heap.size w x → x.cell? ⟨P, 2, none⟩ = some (.slice (some ⟨SB, 0, none⟩) m.size cap)) := fun x hx => (KK.out x hx).head.2.2.1
  have KS : Hid (∀ x : World, Below w.heap.size w x → ∀ r, r < m.size → x.cell? ⟨SB, r * 3, none⟩ = some (.int .i64 (m.slot r).b) ∧ x.cell? ⟨SB, r * 3 + 1, none⟩ = some (.bool (m.slot r).d)) := fun x hx r hr => ⟨((KK.out x hx).slot hr).1, ((KK.out x hx).slot hr).2.1⟩
  have HT : Hid (∀ k, k < m.size → (mDirty m).take (k + 1) = (mDirty m).take k ++ [dOf (m.slot k)]) := fun k hk => dirty_take hk
  have HA : Hid ((mDirty m).take m.size = mDirty m) := List.take_of_length_le (by unfold mDirty; simp)
  have HL : Hid (∀ k, k ≤ m.size → ((mDirty m).take k).length ≤ 900000) := fun k hk => by rw [List.length_take]; omega
  obtain ⟨nn, hnn⟩ : ∃ nn, m.size = nn := ⟨_, rfl⟩
  rw [hnn] at hn8 KH KS HT HA HL
  clear h ho hnn
  have HSI := Lib.hid slice_int1
  obtain ⟨B, hB⟩ : ∃ B, w.heap.size = B := ⟨_, rfl⟩
  have HSZ := Lib.hid hB
  rw [hB] at KK KH KS ⊢
  clear hB
  go_enter Try.func36, Try.ntmps36
  go_wp2_with fail
  go_loopw [3, 4, 5] (fun uv iv _ wr => ∃ k : Nat, k ≤ nn ∧ iv = .int .i64 (k : Int) ∧ Hid (InO B wr uv ((mDirty m).take k)) ∧ Hid (Below B w wr)) (fun _ iv _ _ => nn - (intOf iv).toNat)
  case atStart => exact ⟨0, Nat.zero_le _, rfl, InO.nil _ _, by rw [← HSZ.out]; exact Below.refl _ w⟩
  case round =>
    obtain ⟨k, hk, rfl, HU, HB⟩ := hrel
    have c0 := KH.out _ HB.out
    by_cases hlt : k < nn
    · have g1 : (k : Int) < (nn : Int) := by omega
      have HLT := Lib.hid hlt
      obtain ⟨c1, c2⟩ := KS.out _ HB.out k hlt
      have hsz : B ≤ wr.heap.size := by rw [← HSZ.out]; exact HB.out.size
      obtain ⟨v2, W4, hr, h1, h2, -⟩ := in_append HU.out hsz (dOf (m.slot k)) (HL.out k hk)
      rw [← HT.out k hlt] at h1
      have HR := Lib.hid (hr 43)
      have H1 := Lib.hid h1
      have H2 : Hid (Below B w W4) := HB.out.grown h2 hsz (fun j hj => (HU.out.base j hj).1)
      clear h1 h2 hr hsz
      by_cases hd : (m.slot k).d = true
      · have hx : dOf (m.slot k) = (m.slot k).b := by unfold dOf; rw [if_pos hd]
        rw [hx] at HR
        rw [hd] at c2
        clear hx hd
        go_wp2_with (first | (at_builtin; refine wpList_append_run (.tmp 31) (.tmp 33) 43 rfl rfl _ _ _ rfl rfl HR.out ?_) | fail)
        exact ⟨⟨k + 1, HLT.out, by simp, H1, H2⟩, by have := HLT.out; simp [intOf]; omega⟩
      · have hd2 : (m.slot k).d = false := by simpa using hd
        have hx : dOf (m.slot k) = -1 := by unfold dOf; rw [if_neg hd]
        rw [hx] at HR
        rw [hd2] at c2
        clear hx hd hd2
        go_wp2_with (first | (at_builtin; refine wpList_append_run (.tmp 31) (.tmp 33) 43 rfl rfl _ _ _ rfl rfl HR.out ?_) | fail)
        exact ⟨⟨k + 1, HLT.out, by simp, H1, H2⟩, by have := HLT.out; simp [intOf]; omega⟩
    · obtain rfl : k = nn := by omega
      rw [HA.out] at HU
      go_wp2_with fail
      go_ret
      exact ⟨_, rfl, HU.out, HB.out⟩
end Go.Proofs.Ytlpmikbplngmnaa
