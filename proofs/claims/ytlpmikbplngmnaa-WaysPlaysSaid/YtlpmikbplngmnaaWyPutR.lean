/- The document's map of blocks in slots: Put. -/
import Derived.Test.YtlpmikbplngmnaaWyFind
namespace Go.Proofs.Ytlpmikbplngmnaa
open Go.RowKit Go.Shelf Go.Lib
set_option linter.unusedVariables false
set_option linter.unusedSimpArgs false
variable {P SB HB cap : Nat} {m : WM} {w : World} {f : Nat → Prop}

set_option maxRecDepth 100000 in
set_option maxHeartbeats 1000000 in
/-- **Put**. -/
theorem WyQ.put (h : WyQ P SB HB cap m w f) (ho : WmOk m) (i b : Int) (d : Bool) (hb : b ≤ 9223372036854775807) :
    Calls Try.prog 14 #[.pointer (some ⟨P, 0, none⟩), .int .i64 i, .int .i64 b, .bool d] w fun e w' => e = .returned (.tuple #[]) ∧ WyQ P SB HB cap (mPut m i b d) w' f ∧ Turn f f w w' := by
  have HH : Hid (∀ y : Ext w, Calls Try.prog 34 #[.pointer (some ⟨P, 0, none⟩), .int .i64 i] y.1 fun e w' => e = .returned (.bool (decide (mHas m i))) ∧ ∃ x : Ext w, w' = x.1) := fun y => (((WyQ.isRes P SB HB cap m).below h y.2).has i).mono fun e w' h => ⟨h.1, y, h.2⟩
  have K : Hid (∀ y : Ext w, WyQ P SB HB cap m y.1 f) := fun y => (WyQ.isRes P SB HB cap m).below h y.2
  by_cases hi : mHas m i
  · have HE : decide (mHas m i) = true := by simpa using hi
    rw [HE] at HH
    by_cases h0 : b < 0
    · have g0 : decide (b < 0) = true := by simpa using h0
      have hm : mPut m i b d = m := by unfold mPut; rw [if_neg (fun h => by omega)]
      rw [hm]
      clear h hi HE hm
      go_enter Try.func14, Try.ntmps14
      go_wp2_with fail
      refine region_ext (by kernel_rfl) (by kernel_rfl) ?_
      repeat (go_big_quiet_step (with_reducible (exact HH.out _)))
      try (with_reducible refine wpQuiet_nil ?_)
      intro z
      skip
      go_wp2_with fail
      refine bodyPost_ret (results_none rfl _ _ _) rfl ?_
      exact ⟨rfl, K.out z, Turn.of_below z.2⟩
    · have g0 : decide (b < 0) = false := by simpa using h0
      have h1 := ho.st1
      have h2 := ho.st8
      have h3 := ho.wy1
      have h4 := ho.wy4
      have hrem := of_eq ho.st1 b
      have hlt := of_lt ho.st1 b
      have c0 : ∀ y : Ext w, y.1.cell? ⟨P, 0, none⟩ = some (.int .i64 (m.ss.length : Int)) := fun y => (K.out y).head.1
      have c1 : ∀ y : Ext w, y.1.cell? ⟨P, 1, none⟩ = some (.int .i64 (m.wy : Int)) := fun y => (K.out y).head.2.1
      obtain ⟨n, rfl⟩ : ∃ n : Nat, i = (n : Int) := ⟨i.toNat, (Int.toNat_of_nonneg hi.1).symm⟩
      have hn : n < m.size := by have := hi.2; omega
      have hn8 : n < 32 := Nat.lt_of_lt_of_le hn (by show m.ss.length * m.wy ≤ 8 * 4; exact Nat.mul_le_mul h2 h4)
      have HHI := Lib.hid hi
      obtain ⟨st, hst⟩ : ∃ st, m.ss.length = st := ⟨_, rfl⟩
      obtain ⟨wy, hwy⟩ : ∃ wy, m.wy = wy := ⟨_, rfl⟩
      obtain ⟨s, hs⟩ : ∃ s, m.of b = s := ⟨_, rfl⟩
      rw [hst] at h1 h2 hrem hlt c0
      rw [hs] at hrem hlt
      rw [hwy] at h3 h4 c1
      obtain ⟨q, hqd⟩ : ∃ q, n / wy = q := ⟨_, rfl⟩
      have hquo : (n : Int) / (wy : Int) = (q : Int) := by rw [← hqd]; simp
      have hq32 : q ≤ n := by rw [← hqd]; exact Nat.div_le_self _ _
      have HQD := Lib.hid hqd
      clear hqd
      by_cases hq : s = q
      · subst hq
        have FD : Hid (∀ y : Ext w, Calls Try.prog 16 #[.pointer (some ⟨P, 0, none⟩), .int .i64 b] y.1 fun e w' => e = .returned (.int .i64 (opI (mFind m b))) ∧ ∃ x : Ext w, w' = x.1) := fun y => ((K.out y).find ho b hb).mono fun e w' h => ⟨h.1, ⟨w', y.2.trans (h.2.mono y.2.size)⟩, rfl⟩
        have KW : Hid (∀ y : Ext w, WyQ P SB HB cap (mWrite m n ⟨b, d, true⟩) (((y.1.setCell ⟨SB, n * 3, none⟩ (.int .i64 b)).setCell ⟨SB, n * 3 + 1, none⟩ (.bool d)).setCell ⟨SB, n * 3 + 2, none⟩ (.bool true)) f ∧ Turn f f w (((y.1.setCell ⟨SB, n * 3, none⟩ (.int .i64 b)).setCell ⟨SB, n * 3 + 1, none⟩ (.bool d)).setCell ⟨SB, n * 3 + 2, none⟩ (.bool true))) := fun y => by
          have q := (K.out y).write ho.lens hn ⟨b, d, true⟩
          exact ⟨q.1, (Turn.of_below y.2).trans q.2⟩
        have HC : Hid (∀ y : Ext w, y.1.cell? ⟨P, 2, none⟩ = some (.slice (some ⟨SB, 0, none⟩) m.size cap) ∧ y.1.cell? ⟨SB, n * 3, none⟩ = some (.int .i64 (m.slot n).b) ∧ y.1.cell? ⟨SB, n * 3 + 1, none⟩ = some (.bool (m.slot n).d) ∧ y.1.cell? ⟨SB, n * 3 + 2, none⟩ = some (.bool (m.slot n).k) ∧ y.1.frozen? ⟨SB, n * 3, none⟩ = false ∧ y.1.frozen? ⟨SB, n * 3 + 1, none⟩ = false ∧ y.1.frozen? ⟨SB, n * 3 + 2, none⟩ = false) := fun y =>
          ⟨(K.out y).head.2.2.1, ((K.out y).slot hn).1, ((K.out y).slot hn).2.1, ((K.out y).slot hn).2.2, (K.out y).frozenS _, (K.out y).frozenS _, (K.out y).frozenS _⟩
        have hput : (mFind m b = none ∨ mFind m b = some n) → mPut m (n : Int) b d = mWrite m n ⟨b, d, true⟩ := fun e => by
          unfold mPut
          rw [if_pos ⟨hi, by omega, by rw [hst, hwy, hrem, hquo], by simpa using e⟩]
          simp
        have hstay : ¬ (mFind m b = none ∨ mFind m b = some n) → mPut m (n : Int) b d = m := fun e => by
          unfold mPut
          rw [if_neg (fun h => e (by simpa using h.2.2.2))]
        by_cases hw : mFind m b = none ∨ mFind m b = some n
        · rw [hput hw]
          have hv : opI (mFind m b) = -1 ∨ opI (mFind m b) = (n : Int) := by
            rcases hw with e | e <;> rw [e]
            · exact .inl rfl
            · exact .inr rfl
          clear h hi HE hput hstay hw
          rcases hv with hv | hv
          · rw [hv] at FD
            clear hv
            go_enter Try.func14, Try.ntmps14
            go_wp2_with fail
            refine region_ext (by kernel_rfl) (by kernel_rfl) ?_
            repeat (go_big_quiet_step (with_reducible (exact HH.out _)))
            try (with_reducible refine wpQuiet_nil ?_)
            intro z
            clear c0 c1 HH
            go_wp2_with fail
            refine (FD.out z).mono ?_
            rintro e w' ⟨rfl, y, rfl⟩
            obtain ⟨d0, d1, d2, d3, d4, d5, d6⟩ := HC.out y
            go_wp2_with fail
            go_end0
            exact ⟨rfl, KW.out y⟩
          · rw [hv] at FD
            clear hv
            go_enter Try.func14, Try.ntmps14
            go_wp2_with fail
            refine region_ext (by kernel_rfl) (by kernel_rfl) ?_
            repeat (go_big_quiet_step (with_reducible (exact HH.out _)))
            try (with_reducible refine wpQuiet_nil ?_)
            intro z
            clear c0 c1 HH
            go_wp2_with fail
            refine (FD.out z).mono ?_
            rintro e w' ⟨rfl, y, rfl⟩
            obtain ⟨d0, d1, d2, d3, d4, d5, d6⟩ := HC.out y
            go_wp2_with fail
            go_end0
            exact ⟨rfl, KW.out y⟩
        · rw [hstay hw]
          obtain ⟨j, hj, hjn⟩ : ∃ j : Nat, opI (mFind m b) = (j : Int) ∧ j ≠ n := by
            cases e : mFind m b with
            | none => exact absurd (.inl e) hw
            | some j => exact ⟨j, rfl, fun e2 => hw (.inr (by rw [e, e2]))⟩
          rw [hj] at FD
          have q1 : ((j : Int) == (n : Int)) = false := by simp; omega
          have q2 : ((j : Int) != (n : Int)) = true := by simp; omega
          clear h hi HE hput hstay hw hj
          go_enter Try.func14, Try.ntmps14
          go_wp2_with fail
          refine region_ext (by kernel_rfl) (by kernel_rfl) ?_
          repeat (go_big_quiet_step (with_reducible (exact HH.out _)))
          try (with_reducible refine wpQuiet_nil ?_)
          intro z
          clear c0 c1 HH
          go_wp2_with fail
          refine (FD.out z).mono ?_
          rintro e w' ⟨rfl, y, rfl⟩
          go_wp2_with fail
          refine bodyPost_ret (results_none rfl _ _ _) rfl ?_
          exact ⟨rfl, K.out y, Turn.of_below y.2⟩
      · have q1 : (((s : Nat) : Int) == (q : Int)) = false := by simp; omega
        have q2 : (((s : Nat) : Int) != (q : Int)) = true := by simp; omega
        have hm : mPut m (n : Int) b d = m := by unfold mPut; rw [if_neg (fun h => by rw [hst, hwy, hrem, hquo] at h; omega)]
        rw [hm]
        clear h hi HE hm
        go_enter Try.func14, Try.ntmps14
        go_wp2_with fail
        refine region_ext (by kernel_rfl) (by kernel_rfl) ?_
        repeat (go_big_quiet_step (with_reducible (exact HH.out _)))
        try (with_reducible refine wpQuiet_nil ?_)
        intro z
        clear c0 c1 HH
        go_wp2_with fail
        refine bodyPost_ret (results_none rfl _ _ _) rfl ?_
        exact ⟨rfl, K.out z, Turn.of_below z.2⟩
  · have HE : decide (mHas m i) = false := by simpa using hi
    rw [HE] at HH
    have hm : mPut m i b d = m := by unfold mPut; rw [if_neg (fun h => hi h.1)]
    rw [hm]
    clear h hi HE hm
    go_enter Try.func14, Try.ntmps14
    go_wp2_with fail
    refine region_ext (by kernel_rfl) (by kernel_rfl) ?_
    repeat (go_big_quiet_step (with_reducible (exact HH.out _)))
    try (with_reducible refine wpQuiet_nil ?_)
    intro z
    skip
    go_wp2_with fail
    refine bodyPost_ret (results_none rfl _ _ _) rfl ?_
    exact ⟨rfl, K.out z, Turn.of_below z.2⟩
end Go.Proofs.Ytlpmikbplngmnaa
