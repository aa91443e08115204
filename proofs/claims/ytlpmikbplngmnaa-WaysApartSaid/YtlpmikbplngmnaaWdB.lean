/- The program's map of blocks in slots: Clean, Touch, Drop, Put, Find, Block. -/
import Derived.Test.YtlpmikbplngmnaaWdA
namespace Go.Proofs.Ytlpmikbplngmnaa
open Go.RowKit Go.Shelf Go.Lib
set_option linter.unusedVariables false
set_option linter.unusedSimpArgs false
variable {P SB HB cap : Nat} {m : WM} {w : World} {f : Nat → Prop}
theorem WmOk.size32 (ho : WmOk m) : m.size ≤ 32 := by
  calc m.ss.length * m.wy ≤ 8 * 4 := Nat.mul_le_mul ho.st8 ho.wy4
    _ = 32 := rfl
/-- An empty slot says -1. -/
theorem WmOk.empty (ho : WmOk m) {i : Nat} (hi : i < m.size) : ((m.slot i).b < 0 ↔ (m.slot i).b = -1) := by
  constructor
  · intro hb
    have hE := bare_iff.1 (ho.sets _ (div_lt hi)).bare _ (by rw [(ho.sets _ (div_lt hi)).len]; exact Nat.mod_lt _ ho.wy1) hb
    have e : m.slot i = wE := hE
    rw [e]
    rfl
  · intro e; omega

set_option maxRecDepth 100000 in
set_option maxHeartbeats 1000000 in
/-- **Clean**. -/
theorem WyD.clean (h : WyD P SB HB cap m w f) (ho : WmLen m) (hz : m.size ≤ 32) (i : Int) :
    Calls Try.prog 21 #[.pointer (some ⟨P, 0, none⟩), .int .i64 i] w fun e w' => e = .returned (.tuple #[]) ∧ WyD P SB HB cap (mClean m i) w' f ∧ Turn f f w w' := by
  by_cases hi : mHas m i
  · have hm : mClean m i = mWrite m i.toNat ⟨(m.slot i.toNat).b, false, (m.slot i.toNat).k⟩ := by unfold mClean; rw [if_pos hi]
    have hn := has_nat13 hi
    have K := Lib.hid (h.writeD ho hn false)
    rw [← hm] at K
    have H := Lib.hid (h.contentYes hz hn)
    obtain ⟨-, c1, -⟩ := h.slot hn
    have cf := h.frozenS (i.toNat * 3 + 1)
    obtain ⟨n, rfl⟩ : ∃ n : Nat, i = (n : Int) := ⟨i.toNat, (Int.toNat_of_nonneg hi.1).symm⟩
    rw [Int.toNat_natCast] at H K c1 cf hn
    clear h hi hm hz ho hn
    go_enter Try.func21, Try.ntmps21
    go_wp2_with fail
    refine H.out.mono ?_
    rintro e w' ⟨rfl, rfl⟩
    go_wp2_with fail
    go_end0
    exact ⟨rfl, K.out⟩
  · have H := Lib.hid (h.contentNo hi)
    have hm : mClean m i = m := by unfold mClean; rw [if_neg hi]
    rw [hm]
    have K := Lib.hid h
    clear h
    go_enter Try.func21, Try.ntmps21
    go_wp2_with fail
    refine H.out.mono ?_
    rintro e w' ⟨rfl, rfl⟩
    go_wp2_with fail
    go_end0
    exact ⟨rfl, K.out, Turn.refl _ _⟩
set_option maxRecDepth 100000 in
set_option maxHeartbeats 1000000 in
/-- **Drop**. -/
theorem WyD.drop (h : WyD P SB HB cap m w f) (ho : WmLen m) (hz : m.size ≤ 32) (i : Int) :
    Calls Try.prog 23 #[.pointer (some ⟨P, 0, none⟩), .int .i64 i] w fun e w' => e = .returned (.tuple #[]) ∧ WyD P SB HB cap (mDrop m i) w' f ∧ Turn f f w w' := by
  by_cases hi : mHas m i
  · have hm : mDrop m i = mWrite m i.toNat wE := by unfold mDrop; rw [if_pos hi]
    have hn := has_nat13 hi
    have K := Lib.hid (h.write ho hn wE)
    rw [← hm] at K
    have H := Lib.hid (h.contentYes hz hn)
    obtain ⟨c1, c2, c3⟩ := h.slot hn
    have cf := h.frozenS (i.toNat * 3)
    have cf1 := h.frozenS (i.toNat * 3 + 1)
    have cf2 := h.frozenS (i.toNat * 3 + 2)
    obtain ⟨n, rfl⟩ : ∃ n : Nat, i = (n : Int) := ⟨i.toNat, (Int.toNat_of_nonneg hi.1).symm⟩
    rw [Int.toNat_natCast] at H K c1 c2 c3 cf cf1 cf2 hn
    clear h hi hm hz ho hn
    go_enter Try.func23, Try.ntmps23
    go_wp2_with fail
    refine H.out.mono ?_
    rintro e w' ⟨rfl, rfl⟩
    go_wp2_with fail
    go_end0
    exact ⟨rfl, K.out⟩
  · have H := Lib.hid (h.contentNo hi)
    have hm : mDrop m i = m := by unfold mDrop; rw [if_neg hi]
    rw [hm]
    have K := Lib.hid h
    clear h
    go_enter Try.func23, Try.ntmps23
    go_wp2_with fail
    refine H.out.mono ?_
    rintro e w' ⟨rfl, rfl⟩
    go_wp2_with fail
    go_end0
    exact ⟨rfl, K.out, Turn.refl _ _⟩
set_option maxRecDepth 100000 in
set_option maxHeartbeats 1000000 in
/-- **Touch**. -/
theorem WyD.touch (h : WyD P SB HB cap m w f) (ho : WmOk m) (i : Int) :
    Calls Try.prog 17 #[.pointer (some ⟨P, 0, none⟩), .int .i64 i] w fun e w' => e = .returned (.tuple #[]) ∧ WyD P SB HB cap (mTouch m i) w' f ∧ Turn f f w w' := by
  by_cases hi : mHas m i
  · have hn := has_nat13 hi
    have H := Lib.hid (h.contentYes ho.size32 hn)
    obtain ⟨c1, -, c2⟩ := h.slot hn
    have cf := h.frozenS (i.toNat * 3 + 2)
    have K := Lib.hid (h.writeK ho.lens hn true)
    have K0 := Lib.hid h
    have hm : mTouch m i = if ¬ (m.slot i.toNat).b < 0 then mWrite m i.toNat ⟨(m.slot i.toNat).b, (m.slot i.toNat).d, true⟩ else m := by unfold mTouch; simp [hi]
    have hE := ho.empty hn
    obtain ⟨n, rfl⟩ : ∃ n : Nat, i = (n : Int) := ⟨i.toNat, (Int.toNat_of_nonneg hi.1).symm⟩
    rw [Int.toNat_natCast] at H K c1 c2 cf hn hm hE
    by_cases hb : (m.slot n).b < 0
    · have hm2 : mTouch m (n : Int) = m := by rw [hm, if_neg (by simpa using hb)]
      have gb : ((m.slot n).b == -1) = true := by simpa using hE.1 hb
      have gb2 : ((m.slot n).b != -1) = false := by simp [hE.1 hb]
      rw [hm2]
      clear h hi hm hm2 K hE hb ho hn
      go_enter Try.func17, Try.ntmps17
      go_wp2_with fail
      refine H.out.mono ?_
      rintro e w' ⟨rfl, rfl⟩
      go_wp2_with fail
      go_end0
      exact ⟨rfl, K0.out, Turn.refl _ _⟩
    · have hm2 : mTouch m (n : Int) = mWrite m n ⟨(m.slot n).b, (m.slot n).d, true⟩ := by rw [hm, if_pos hb]
      have gb : ((m.slot n).b == -1) = false := by simp; omega
      have gb2 : ((m.slot n).b != -1) = true := by simp; omega
      rw [← hm2] at K
      clear h hi hm hm2 K0 hE hb ho hn
      go_enter Try.func17, Try.ntmps17
      go_wp2_with fail
      refine H.out.mono ?_
      rintro e w' ⟨rfl, rfl⟩
      go_wp2_with fail
      go_end0
      exact ⟨rfl, K.out⟩
  · have H := Lib.hid (h.contentNo hi)
    have hm : mTouch m i = m := by unfold mTouch; rw [if_neg (fun h => hi h.1)]
    rw [hm]
    have K := Lib.hid h
    clear h
    go_enter Try.func17, Try.ntmps17
    go_wp2_with fail
    refine H.out.mono ?_
    rintro e w' ⟨rfl, rfl⟩
    go_wp2_with fail
    go_end0
    exact ⟨rfl, K.out, Turn.refl _ _⟩
set_option maxRecDepth 100000 in
set_option maxHeartbeats 1000000 in
/-- **Find**. -/
theorem WyD.find (h : WyD P SB HB cap m w f) (ho : WmOk m) (b : Int) (hb : b ≤ 9223372036854775807) :
    Calls Try.prog 15 #[.pointer (some ⟨P, 0, none⟩), .int .i64 b] w fun e w' => e = .returned (opP (mFind m b)) ∧ w' = w := by
  by_cases h0 : b < 0
  · have E : Hid (opP (mFind m b) = opP none) := by unfold mFind; rw [if_pos h0]; rfl
    have H := Lib.hid (WyD.setNo (w := w) b (.pointer (some ⟨P, 0, none⟩)) (.inr ⟨_, rfl, h0⟩))
    clear h h0
    go_enter Try.func15, Try.ntmps15
    go_wp2_with fail
    refine H.out.mono ?_
    rintro e w' ⟨rfl, rfl⟩
    go_wp2_with fail
    go_ret2
    exact ⟨by rw [E.out]; rfl, rfl⟩
  · have E : Hid (opP ((findW (m.set (m.of b)).l b).map fun k => m.of b * m.wy + k) = opP (mFind m b)) := by unfold mFind; rw [if_neg h0]; rfl
    have H := Lib.hid (h.setYes ho (by omega) hb)
    have H2 := Lib.hid (h.first ho (of_lt ho.st1 b) b)
    rw [E.out] at H2
    obtain ⟨o, ho2⟩ : ∃ o, mFind m b = o := ⟨_, rfl⟩
    rw [ho2] at H2 ⊢
    clear h h0 ho E ho2
    cases o with
    | none =>
      go_enter Try.func15, Try.ntmps15
      go_wp2_with fail
      refine H.out.mono ?_
      rintro e w' ⟨rfl, rfl⟩
      go_wp2_with fail
      refine H2.out.mono ?_
      rintro e w' ⟨rfl, rfl⟩
      unfold opP
      go_wp2_with fail
      go_ret2
      exact ⟨rfl, rfl⟩
    | some k =>
      go_enter Try.func15, Try.ntmps15
      go_wp2_with fail
      refine H.out.mono ?_
      rintro e w' ⟨rfl, rfl⟩
      go_wp2_with fail
      refine H2.out.mono ?_
      rintro e w' ⟨rfl, rfl⟩
      unfold opP
      go_wp2_with fail
      go_ret2
      exact ⟨rfl, rfl⟩
end Go.Proofs.Ytlpmikbplngmnaa
