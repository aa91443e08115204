/- The document's map of blocks in slots: has, Clean, Drop, Touch. -/
import Derived.Test.YtlpmikbplngmnaaWyPut
import Derived.Test.YtlpmikbplngmnaaQuiet

namespace Go.Proofs.Ytlpmikbplngmnaa
open Go.RowKit Go.Shelf Go.Lib
set_option linter.unusedVariables false
set_option linter.unusedSimpArgs false
variable {P SB HB cap : Nat} {m : WM} {w : World} {f : Nat → Prop}

set_option maxRecDepth 100000 in
set_option maxHeartbeats 1000000 in
/-- **has**. -/
theorem WyQ.has (h : WyQ P SB HB cap m w f) (i : Int) :
    Calls Try.prog 34 #[.pointer (some ⟨P, 0, none⟩), .int .i64 i] w fun e w' => e = .returned (.bool (decide (mHas m i))) ∧ w' = w := by
  obtain ⟨-, -, c0, -⟩ := h.head
  clear h
  by_cases h0 : 0 ≤ i
  · have g0 : decide (0 ≤ i) = true := by simpa using h0
    have HE : Hid (decide (i < (m.size : Int)) = decide (mHas m i)) := by show _ = _; simp [mHas, h0]
    go_enter Try.func34, Try.ntmps34
    go_wp2
    go_ret
    exact ⟨by rw [← HE.out]; rfl, rfl⟩
  · have g0 : decide (0 ≤ i) = false := by simpa using h0
    have HE : Hid (false = decide (mHas m i)) := by show _ = _; simp [mHas, h0]
    go_enter Try.func34, Try.ntmps34
    go_wp2
    go_ret
    exact ⟨by rw [← HE.out]; rfl, rfl⟩
set_option maxRecDepth 100000 in
set_option maxHeartbeats 1000000 in
/-- **Clean**. -/
theorem WyQ.clean (h : WyQ P SB HB cap m w f) (ho : WmOk m) (i : Int) :
    Calls Try.prog 22 #[.pointer (some ⟨P, 0, none⟩), .int .i64 i] w fun e w' => e = .returned (.tuple #[]) ∧ WyQ P SB HB cap (mClean m i) w' f ∧ Turn f f w w' := by
  have H := Lib.hid (h.has i)
  by_cases hi : mHas m i
  · have HE : decide (mHas m i) = true := by simpa using hi
    rw [HE] at H
    have hm : mClean m i = mWrite m i.toNat ⟨(m.slot i.toNat).b, false, (m.slot i.toNat).k⟩ := by unfold mClean; rw [if_pos hi]
    have hn := has_nat13 hi
    have K := Lib.hid (h.writeD ho.lens hn false)
    rw [← hm] at K
    obtain ⟨-, -, c0, -⟩ := h.head
    obtain ⟨-, c1, -⟩ := h.slot hn
    have cf := h.frozenS (i.toNat * 3 + 1)
    obtain ⟨n, rfl⟩ : ∃ n : Nat, i = (n : Int) := ⟨i.toNat, (Int.toNat_of_nonneg hi.1).symm⟩
    rw [Int.toNat_natCast] at K c1 cf hn
    clear h hi HE hm
    go_enter Try.func22, Try.ntmps22
    go_wp2_with fail
    refine H.out.mono ?_
    rintro e w' ⟨rfl, rfl⟩
    go_wp2_with fail
    go_end0
    exact ⟨rfl, K.out⟩
  · have HE : decide (mHas m i) = false := by simpa using hi
    rw [HE] at H
    have hm : mClean m i = m := by unfold mClean; rw [if_neg hi]
    rw [hm]
    have K := Lib.hid h
    clear h
    go_enter Try.func22, Try.ntmps22
    go_wp2_with fail
    refine H.out.mono ?_
    rintro e w' ⟨rfl, rfl⟩
    go_wp2_with fail
    go_end0
    exact ⟨rfl, K.out, Turn.refl _ _⟩
set_option maxRecDepth 100000 in
set_option maxHeartbeats 1000000 in
/-- **Touch**. -/
theorem WyQ.touch (h : WyQ P SB HB cap m w f) (ho : WmOk m) (i : Int) :
    Calls Try.prog 18 #[.pointer (some ⟨P, 0, none⟩), .int .i64 i] w fun e w' => e = .returned (.tuple #[]) ∧ WyQ P SB HB cap (mTouch m i) w' f ∧ Turn f f w w' := by
  have H := Lib.hid (h.has i)
  by_cases hi : mHas m i
  · have HE : decide (mHas m i) = true := by simpa using hi
    rw [HE] at H
    have hn := has_nat13 hi
    obtain ⟨-, -, c0, -⟩ := h.head
    obtain ⟨c1, -, c2⟩ := h.slot hn
    have cf := h.frozenS (i.toNat * 3 + 2)
    have K := Lib.hid (h.writeK ho.lens hn true)
    have K0 := Lib.hid h
    have hm : mTouch m i = if ¬ (m.slot i.toNat).b < 0 then mWrite m i.toNat ⟨(m.slot i.toNat).b, (m.slot i.toNat).d, true⟩ else m := by unfold mTouch; simp [hi]
    obtain ⟨n, rfl⟩ : ∃ n : Nat, i = (n : Int) := ⟨i.toNat, (Int.toNat_of_nonneg hi.1).symm⟩
    rw [Int.toNat_natCast] at K c1 c2 cf hn hm
    by_cases hb : (m.slot n).b < 0
    · have hm2 : mTouch m (n : Int) = m := by rw [hm, if_neg (by simpa using hb)]
      have gb : decide ((m.slot n).b ≥ 0) = false := by simpa using hb
      rw [hm2]
      clear h hi HE hm hm2 K
      go_enter Try.func18, Try.ntmps18
      go_wp2_with fail
      refine H.out.mono ?_
      rintro e w' ⟨rfl, rfl⟩
      go_wp2_with fail
      go_end0
      exact ⟨rfl, K0.out, Turn.refl _ _⟩
    · have hm2 : mTouch m (n : Int) = mWrite m n ⟨(m.slot n).b, (m.slot n).d, true⟩ := by rw [hm, if_pos hb]
      have gb : decide ((m.slot n).b ≥ 0) = true := by simpa using hb
      rw [← hm2] at K
      clear h hi HE hm hm2 K0
      go_enter Try.func18, Try.ntmps18
      go_wp2_with fail
      refine H.out.mono ?_
      rintro e w' ⟨rfl, rfl⟩
      go_wp2_with fail
      go_end0
      exact ⟨rfl, K.out⟩
  · have HE : decide (mHas m i) = false := by simpa using hi
    rw [HE] at H
    have hm : mTouch m i = m := by unfold mTouch; rw [if_neg (fun h => hi h.1)]
    rw [hm]
    have K := Lib.hid h
    clear h
    go_enter Try.func18, Try.ntmps18
    go_wp2_with fail
    refine H.out.mono ?_
    rintro e w' ⟨rfl, rfl⟩
    go_wp2_with fail
    go_end0
    exact ⟨rfl, K.out, Turn.refl _ _⟩
set_option maxRecDepth 100000 in
set_option maxHeartbeats 1000000 in
/-- **Drop**. -/
theorem WyQ.drop (h : WyQ P SB HB cap m w f) (ho : WmOk m) (i : Int) :
    Calls Try.prog 24 #[.pointer (some ⟨P, 0, none⟩), .int .i64 i] w fun e w' => e = .returned (.tuple #[]) ∧ WyQ P SB HB cap (mDrop m i) w' f ∧ Turn f f w w' := by
  have H := Lib.hid (h.has i)
  by_cases hi : mHas m i
  · have HE : decide (mHas m i) = true := by simpa using hi
    rw [HE] at H
    have hm : mDrop m i = mWrite m i.toNat wE := by unfold mDrop; rw [if_pos hi]
    have hn := has_nat13 hi
    have K := Lib.hid (h.write ho.lens hn wE)
    rw [← hm] at K
    obtain ⟨-, -, c0, -⟩ := h.head
    obtain ⟨c1, c2, c3⟩ := h.slot hn
    have cf := h.frozenS (i.toNat * 3)
    have cf1 := h.frozenS (i.toNat * 3 + 1)
    have cf2 := h.frozenS (i.toNat * 3 + 2)
    obtain ⟨n, rfl⟩ : ∃ n : Nat, i = (n : Int) := ⟨i.toNat, (Int.toNat_of_nonneg hi.1).symm⟩
    rw [Int.toNat_natCast] at K c1 c2 c3 cf cf1 cf2 hn
    clear h hi HE hm
    go_enter Try.func24, Try.ntmps24
    go_wp2_with fail
    refine H.out.mono ?_
    rintro e w' ⟨rfl, rfl⟩
    go_wp2_with fail
    go_end0
    exact ⟨rfl, K.out⟩
  · have HE : decide (mHas m i) = false := by simpa using hi
    rw [HE] at H
    have hm : mDrop m i = m := by unfold mDrop; rw [if_neg hi]
    rw [hm]
    have K := Lib.hid h
    clear h
    go_enter Try.func24, Try.ntmps24
    go_wp2_with fail
    refine H.out.mono ?_
    rintro e w' ⟨rfl, rfl⟩
    go_wp2_with fail
    go_end0
    exact ⟨rfl, K.out, Turn.refl _ _⟩
end Go.Proofs.Ytlpmikbplngmnaa
