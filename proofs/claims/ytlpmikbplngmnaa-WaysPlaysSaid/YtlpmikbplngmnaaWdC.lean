/- The program's map of blocks in slots: Put, Block. -/
import Derived.Test.YtlpmikbplngmnaaWdB
import Derived.Test.YtlpmikbplngmnaaWyTw
namespace Go.Proofs.Ytlpmikbplngmnaa
open Go.RowKit Go.Shelf Go.Lib
set_option linter.unusedVariables false
set_option linter.unusedSimpArgs false
variable {P SB HB cap : Nat} {m : WM} {w : World} {f : Nat → Prop}

set_option maxRecDepth 100000 in
set_option maxHeartbeats 1000000 in
/-- **Put**. -/
theorem WyD.put (h : WyD P SB HB cap m w f) (ho : WmOk m) (i b : Int) (d : Bool) (hb : b ≤ 9223372036854775807) :
    Calls Try.prog 13 #[.pointer (some ⟨P, 0, none⟩), .int .i64 i, .int .i64 b, .bool d] w fun e w' => e = .returned (.tuple #[]) ∧ WyD P SB HB cap (mPut m i b d) w' f ∧ Turn f f w w' := by
  by_cases hi : mHas m i
  · have hn := has_nat13 hi
    have HC := Lib.hid (h.contentYes ho.size32 hn)
    by_cases h0 : b < 0
    · have hm : mPut m i b d = m := by unfold mPut; rw [if_neg (fun h => by omega)]
      rw [hm]
      have K := Lib.hid h
      have HS := Lib.hid (WyD.setNo (w := w) b (.pointer (some ⟨P, 0, none⟩)) (.inr ⟨_, rfl, h0⟩))
      obtain ⟨n, rfl⟩ : ∃ n : Nat, i = (n : Int) := ⟨i.toNat, (Int.toNat_of_nonneg hi.1).symm⟩
      rw [Int.toNat_natCast] at HC
      clear h ho hm hi h0 hn
      go_enter Try.func13, Try.ntmps13
      go_wp2_with fail
      refine HC.out.mono ?_
      rintro e w' ⟨rfl, rfl⟩
      go_wp2_with fail
      refine HS.out.mono ?_
      rintro e w' ⟨rfl, rfl⟩
      go_wp2_with fail
      refine bodyPost_ret (results_none rfl _ _ _) rfl ?_
      exact ⟨rfl, K.out, Turn.refl _ _⟩
    · have HS := Lib.hid (h.setYes ho (by omega) hb)
      have h3 := ho.wy1
      have h4 := ho.wy4
      have hrem := of_eq ho.st1 b
      have hlt := of_lt ho.st1 b
      have c0 := h.head.1
      obtain ⟨n, rfl⟩ : ∃ n : Nat, i = (n : Int) := ⟨i.toNat, (Int.toNat_of_nonneg hi.1).symm⟩
      rw [Int.toNat_natCast] at HC hn
      have hn8 : n < 32 := Nat.lt_of_lt_of_le hn ho.size32
      have hqe : (n : Int) / (m.wy : Int) = ((n / m.wy : Nat) : Int) := by simp
      have K := Lib.hid h
      by_cases hq : m.of b = n / m.wy
      · have HF := Lib.hid (h.first ho hlt b)
        have hE : Hid (opP ((findW (m.set (m.of b)).l b).map fun k => m.of b * m.wy + k) = opP (mFind m b)) := by unfold mFind; rw [if_neg h0]; rfl
        rw [hE.out] at HF
        have hput : (mFind m b = none ∨ mFind m b = some n) → mPut m (n : Int) b d = mWrite m n ⟨b, d, true⟩ := fun e => by
          unfold mPut
          rw [if_pos ⟨hi, by omega, by rw [hrem, hqe, hq], by simpa using e⟩]
          simp
        have hstay : ¬ (mFind m b = none ∨ mFind m b = some n) → mPut m (n : Int) b d = m := fun e => by
          unfold mPut
          rw [if_neg (fun h => e (by simpa using h.2.2.2))]
        obtain ⟨g1, g2, g3⟩ := h.slot hn
        have f1 := h.frozenS (n * 3)
        have f2 := h.frozenS (n * 3 + 1)
        have f3 := h.frozenS (n * 3 + 2)
        have KW := Lib.hid (h.write ho.lens hn ⟨b, d, true⟩)
        have HPut := Lib.hid hput
        have HStay := Lib.hid hstay
        obtain ⟨s, hs⟩ : ∃ s, m.of b = s := ⟨_, rfl⟩
        obtain ⟨wy, hwy⟩ : ∃ wy, m.wy = wy := ⟨_, rfl⟩
        have hdiv : (n : Int) / (wy : Int) = (s : Int) := by rw [← hwy, hqe, ← hs, hq]
        have hsn : s ≤ n := by rw [← hs, hq]; exact Nat.div_le_self _ _
        rw [hs] at HS HF
        rw [hwy] at h3 h4 c0
        obtain ⟨o, hO⟩ : ∃ o, mFind m b = o := ⟨_, rfl⟩
        rw [hO] at HF HPut HStay
        clear h ho hi h0 hn hrem hlt hqe hq hE hput hstay hs hwy hb hO
        cases o with
        | none =>
          rw [HPut.out (.inl rfl)]
          go_enter Try.func13, Try.ntmps13
          go_wp2_with fail
          refine HC.out.mono ?_
          rintro e w' ⟨rfl, rfl⟩
          go_wp2_with fail
          refine HS.out.mono ?_
          rintro e w' ⟨rfl, rfl⟩
          go_wp2_with fail
          refine HF.out.mono ?_
          rintro e w' ⟨rfl, rfl⟩
          unfold opP
          go_wp2_with fail
          go_end0
          exact ⟨rfl, KW.out⟩
        | some j =>
          by_cases hj : j = n
          · subst hj
            rw [HPut.out (.inr rfl)]
            go_enter Try.func13, Try.ntmps13
            go_wp2_with fail
            refine HC.out.mono ?_
            rintro e w' ⟨rfl, rfl⟩
            go_wp2_with fail
            refine HS.out.mono ?_
            rintro e w' ⟨rfl, rfl⟩
            go_wp2_with fail
            refine HF.out.mono ?_
            rintro e w' ⟨rfl, rfl⟩
            unfold opP
            go_wp2_with fail
            go_end0
            exact ⟨rfl, KW.out⟩
          · rw [HStay.out (fun e => by rcases e with e | e <;> cases e; exact hj rfl)]
            have q1 : ((j : Int) == (n : Int)) = false := by simp; omega
            have q2 : ((j : Int) != (n : Int)) = true := by simp; omega
            clear hj
            go_enter Try.func13, Try.ntmps13
            go_wp2_with fail
            refine HC.out.mono ?_
            rintro e w' ⟨rfl, rfl⟩
            go_wp2_with fail
            refine HS.out.mono ?_
            rintro e w' ⟨rfl, rfl⟩
            go_wp2_with fail
            refine HF.out.mono ?_
            rintro e w' ⟨rfl, rfl⟩
            unfold opP
            go_wp2_with fail
            refine bodyPost_ret (results_none rfl _ _ _) rfl ?_
            exact ⟨rfl, K.out, Turn.refl _ _⟩
      · have hm : mPut m (n : Int) b d = m := by unfold mPut; rw [if_neg (fun h => by rw [hrem, hqe] at h; omega)]
        rw [hm]
        obtain ⟨s, hs⟩ : ∃ s, m.of b = s := ⟨_, rfl⟩
        obtain ⟨wy, hwy⟩ : ∃ wy, m.wy = wy := ⟨_, rfl⟩
        obtain ⟨q, hqd⟩ : ∃ q, n / m.wy = q := ⟨_, rfl⟩
        have hdiv : (n : Int) / (wy : Int) = (q : Int) := by rw [← hwy, hqe, hqd]
        have hqn : q ≤ n := by rw [← hqd]; exact Nat.div_le_self _ _
        rw [hs, hqd] at hq
        rw [hs] at HS
        rw [hwy] at h3 h4 c0
        have q1 : (((s : Nat) : Int) == (q : Int)) = false := by simp; omega
        have q2 : (((s : Nat) : Int) != (q : Int)) = true := by simp; omega
        clear h ho hi h0 hn hrem hlt hqe hq hs hwy hb hqd hm
        go_enter Try.func13, Try.ntmps13
        go_wp2_with fail
        refine HC.out.mono ?_
        rintro e w' ⟨rfl, rfl⟩
        go_wp2_with fail
        refine HS.out.mono ?_
        rintro e w' ⟨rfl, rfl⟩
        go_wp2_with fail
        refine bodyPost_ret (results_none rfl _ _ _) rfl ?_
        exact ⟨rfl, K.out, Turn.refl _ _⟩
  · have HC := Lib.hid (h.contentNo hi)
    have hm : mPut m i b d = m := by unfold mPut; rw [if_neg (fun h => hi h.1)]
    rw [hm]
    have K := Lib.hid h
    by_cases h0 : b < 0
    · have HS := Lib.hid (WyD.setNo (w := w) b (.pointer (some ⟨P, 0, none⟩)) (.inr ⟨_, rfl, h0⟩))
      clear h ho hm hi h0
      go_enter Try.func13, Try.ntmps13
      go_wp2_with fail
      refine HC.out.mono ?_
      rintro e w' ⟨rfl, rfl⟩
      go_wp2_with fail
      refine HS.out.mono ?_
      rintro e w' ⟨rfl, rfl⟩
      go_wp2_with fail
      refine bodyPost_ret (results_none rfl _ _ _) rfl ?_
      exact ⟨rfl, K.out, Turn.refl _ _⟩
    · have HS := Lib.hid (h.setYes ho (by omega) hb)
      obtain ⟨s, hs⟩ : ∃ s, m.of b = s := ⟨_, rfl⟩
      rw [hs] at HS
      clear h ho hm hi h0 hs
      go_enter Try.func13, Try.ntmps13
      go_wp2_with fail
      refine HC.out.mono ?_
      rintro e w' ⟨rfl, rfl⟩
      go_wp2_with fail
      refine HS.out.mono ?_
      rintro e w' ⟨rfl, rfl⟩
      go_wp2_with fail
      refine bodyPost_ret (results_none rfl _ _ _) rfl ?_
      exact ⟨rfl, K.out, Turn.refl _ _⟩
set_option maxRecDepth 100000 in
set_option maxHeartbeats 1000000 in
/-- **Block**. -/
theorem WyD.block (h : WyD P SB HB cap m w f) (ho : WmOk m) (i : Int) :
    Calls Try.prog 28 #[.pointer (some ⟨P, 0, none⟩), .int .i64 i] w fun e w' => e = .returned (.tuple #[.int .i64 (bkOf m i).1, .bool (bkOf m i).2.1, .bool (bkOf m i).2.2]) ∧ Below w.heap.size w w' := by
  have hmx : Try.prog.follows .mixedOrders = true := by kernel_rfl
  by_cases hi : mHas m i
  · have hn := has_nat13 hi
    have HC := Lib.hid (h.contentYes ho.size32 hn)
    obtain ⟨c1, c2, -⟩ := h.slot hn
    have hE := ho.empty hn
    by_cases hb : (m.slot i.toNat).b < 0
    · have e : bkOf m i = (-1, false, false) := by unfold bkOf; rw [if_neg (fun h => h.2 hb)]
      rw [e]
      rw [hE.1 hb] at c1
      obtain ⟨n, rfl⟩ : ∃ n : Nat, i = (n : Int) := ⟨i.toNat, (Int.toNat_of_nonneg hi.1).symm⟩
      rw [Int.toNat_natCast] at HC c1 c2
      clear h ho hi hn hE hb e
      go_enter Try.func28, Try.ntmps28
      go_wp2_with fail
      refine HC.out.mono ?_
      rintro e w' ⟨rfl, rfl⟩
      go_wp2_with fail
      go_ret3
      exact ⟨rfl, Below.refl _ _⟩
    · have e : bkOf m i = ((m.slot i.toNat).b, (m.slot i.toNat).d, true) := by unfold bkOf; rw [if_pos ⟨hi, hb⟩]
      rw [e]
      have q1 : ((m.slot i.toNat).b == -1) = false := by simp; omega
      obtain ⟨n, rfl⟩ : ∃ n : Nat, i = (n : Int) := ⟨i.toNat, (Int.toNat_of_nonneg hi.1).symm⟩
      rw [Int.toNat_natCast] at HC c1 c2 q1 ⊢
      clear h ho hi hn hE hb e
      go_enter Try.func28, Try.ntmps28
      go_wp2_with fail
      refine HC.out.mono ?_
      rintro e w' ⟨rfl, rfl⟩
      go_wp2_with fail
      refine region_plan (fun x => x = w'.drew) 10 (.takes [0, 1, 2, 3, 4, 5, 6, 7, 8, 9] .leaf) hmx (by kernel_rfl) (by intro c x v a w h; cases x <;> exact h) rfl ?_
      repeat (rw [wpPlan_takes_cons]; simp only [nth_zero, nth_succ]; go_big_quiet_step (fail); refine wpQuiet_nil ?_)
      rw [wpPlan_takes_nil, wpPlan_leaf]
      simp only [List.drop_succ_cons, List.drop_zero]
      go_wp2_with fail
      go_ret3
      exact ⟨rfl, (Below.refl _ _).drew⟩
  · have HC := Lib.hid (h.contentNo hi)
    have e : bkOf m i = (-1, false, false) := by unfold bkOf; rw [if_neg (fun h => hi h.1)]
    rw [e]
    clear h ho hi e
    go_enter Try.func28, Try.ntmps28
    go_wp2_with fail
    refine HC.out.mono ?_
    rintro e w' ⟨rfl, rfl⟩
    go_wp2_with fail
    go_ret3
    exact ⟨rfl, Below.refl _ _⟩
end Go.Proofs.Ytlpmikbplngmnaa
