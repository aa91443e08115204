/- Whatever the number, the size and the bytes, LeBack returns true and leaves its arguments as they were; no conditions. -/
import Derived.Test.YtplmobijconfeaaFrame
namespace Go.Proofs.Ytplmobijconfeaa.leBack
open Go.ChangeShapes Go.WideShapes Go.ChangeAt Go.RowKit
open Go.ChangeMaps (open_string shut_string)
set_option linter.unusedVariables false

set_option maxRecDepth 100000 in
set_option maxHeartbeats 2000000 in
theorem walk (a0 : Int) (a1 : Int) (a2 : Option Addr) (len2 cap2 : Nat) (z2 : List Int) (w : World) (w0 : (Lit.int .u64 a0).wf = true) (w1 : (Lit.int .u8 a1).wf = true) (w2 : IsRow .u8 w a2 len2 cap2 z2) :
    Calls Try.prog 5 #[.int .u64 a0, .int .u8 a1, .slice a2 len2 cap2] w fun e w' => e = .returned (.bool true) ∧ Below w.heap.size w w' := by
  obtain ⟨hs, hb, hlen⟩ := bytes_of_row w2
  obtain ⟨n0, n1⟩ := bounds_u64 w0
  obtain ⟨s0, s1⟩ := bounds_u8 w1
  have hl2 : len2 ≤ 9223372036854775807 := by
    obtain ⟨a, c, e, h1, h2, _⟩ := hs
    unfold maxLen at h2; omega
  have HW := Lib.hid (wakes_any)
  generalize hxs : z2.take len2 = xs at hs hb hlen
  have HS := Lib.hid hs
  have HB := Lib.hid hb
  have HL := Lib.hid hlen
  clear hxs hs hb hlen w0 w1 w2
  obtain ⟨K, hK⟩ : ∃ K : Nat, 1 + a1 % 16 = (K : Int) := ⟨(1 + a1 % 16).toNat, by omega⟩
  have k1 : 1 ≤ K := by omega
  have k2 : K ≤ 16 := by omega
  have hfin : ∀ (W : World), Hid (Below w.heap.size w W) → Hid (Sl .u8 W (.slice a2 len2 cap2) xs) := fun W hB => HS.out.below hB.out
  have HX := Lib.hid hfin
  clear hfin
  by_cases h8 : K < 8
  · have h8' : (K : Int) < 8 := by omega
    obtain ⟨M, hM⟩ : ∃ M, IntKind.u64.wrap (2 ^ (8 * K)) = M := ⟨_, rfl⟩
    have hM2 : M = 2 ^ (8 * K) := by rw [← hM]; exact wrap_pow K h8
    have hM1 : 1 ≤ M := by rw [hM2]; exact Int.pow_pos (by omega)
    have hM0 : (M == 0) = false := by simp; omega
    have HG : Hid (getL (putL a0 K) = a0 % M) := Lib.hid (by rw [getL_putL a0 n0 (by omega) K, if_pos h8, hM2])
    clear hM2
    go_enter Try.func5, Try.ntmps5
    go_wp2_with fail
    refine (put_some a0 K _ k1 k2 n0 (by omega)).mono ?_
    rintro e w1 ⟨v1, rfl, ho1, hB1⟩
    have hs1 : Sl .u8 w1 v1 (putL a0 K) := Sl.of_owns (by rw [putL_length]; exact ho1)
    obtain ⟨pa, pc, rfl, hs2⟩ := hs1.form (putL_length a0 K)
    have S1 := Lib.hid hs2
    have B1 := Lib.hid hB1
    clear ho1 hB1 hs1 hs2 hK s0 s1
    go_wp2_with fail
    have hg := get_any _ (putL a0 K) _ S1.out (putL_bytes a0 K)
    rw [HG.out] at hg
    refine hg.mono ?_
    clear hg
    rintro e w2 ⟨rfl, hB2⟩
    have B2 : Hid (Below w.heap.size w w2) := B1.out.trans (hB2.mono B1.out.size)
    clear hB2 hM hM1 hM0
    by_cases hr : 1 ≤ len2 ∧ len2 ≤ 8
    · obtain ⟨r1, r2⟩ := hr
      have q1 : ¬ (len2 : Int) < 1 := by omega
      have q2 : ¬ (8 : Int) < (len2 : Int) := by omega
      have q3 : decide ((len2 : Int) < 1) = false := by simpa using q1
      have q4 : decide ((8 : Int) < (len2 : Int)) = false := by simpa using q2
      go_wp2_with fail
      refine (get_any _ xs _ (HX.out _ B2).out HB.out).mono ?_
      rintro e w3 ⟨rfl, hB3⟩
      have B3 : Hid (Below w.heap.size w w3) := B2.out.trans (hB3.mono B2.out.size)
      clear hB3
      obtain ⟨g, hg⟩ : ∃ g, getL xs = g := ⟨_, rfl⟩
      have HQ := Lib.hid hg
      rw [hg]
      clear hg
      go_wp2_with fail
      refine (put_some g len2 _ r1 (by omega) (by rw [← HQ.out]; exact (getL_bd xs HB.out).1) (by rw [← HQ.out]; exact (getL_bd xs HB.out).2)).mono ?_
      rintro e w4 ⟨v4, rfl, ho4, hB4⟩
      have e4 : putL g len2 = xs := by rw [← HQ.out, ← HL.out]; exact putL_getL xs HB.out (by rw [HL.out]; omega)
      have S4 : Hid (Sl .u8 w4 v4 xs) := Lib.hid (by rw [e4] at ho4; rw [← HL.out] at ho4; exact Sl.of_owns ho4)
      have B4 : Hid (Below w.heap.size w w4) := B3.out.trans (hB4.mono B3.out.size)
      clear ho4 hB4 e4
      go_wp2_with fail
      refine (bytes_yes _ _ xs _ S4.out (HX.out _ B4).out).mono ?_
      rintro e w' ⟨rfl, rfl⟩
      go_wp2_with fail
      refine (HW.out _).mono ?_
      rintro e w5 ⟨rfl, hB5⟩
      have B5 : Hid (Below w.heap.size w w5) := B4.out.trans (hB5.mono B4.out.size)
      clear hB5
      go_wp2_with fail
      go_ret
      exact ⟨rfl, B5.out⟩
    · have hq : (len2 : Int) < 1 ∨ ((8 : Int) < (len2 : Int) ∧ decide ((len2 : Int) < 1) = false) := by
        by_cases h : len2 = 0
        · left; omega
        · right; refine ⟨by omega, ?_⟩; simp; omega
      clear hr
      rcases hq with q | ⟨q, q2⟩
      all_goals
        go_wp2_with fail
        refine (HW.out _).mono ?_
        rintro e w5 ⟨rfl, hB5⟩
        have B5 : Hid (Below w.heap.size w w5) := B2.out.trans (hB5.mono B2.out.size)
        clear hB5
        go_wp2_with fail
        go_ret
        exact ⟨rfl, B5.out⟩
  · have h8' : ¬ (K : Int) < 8 := by omega
    have HG : Hid (getL (putL a0 K) = a0) := Lib.hid (by rw [getL_putL a0 n0 (by omega) K, if_neg h8])
    go_enter Try.func5, Try.ntmps5
    go_wp2_with fail
    refine (put_some a0 K _ k1 k2 n0 (by omega)).mono ?_
    rintro e w1 ⟨v1, rfl, ho1, hB1⟩
    have hs1 : Sl .u8 w1 v1 (putL a0 K) := Sl.of_owns (by rw [putL_length]; exact ho1)
    obtain ⟨pa, pc, rfl, hs2⟩ := hs1.form (putL_length a0 K)
    have S1 := Lib.hid hs2
    have B1 := Lib.hid hB1
    clear ho1 hB1 hs1 hs2 hK s0 s1
    go_wp2_with fail
    have hg := get_any _ (putL a0 K) _ S1.out (putL_bytes a0 K)
    rw [HG.out] at hg
    refine hg.mono ?_
    clear hg
    rintro e w2 ⟨rfl, hB2⟩
    have B2 : Hid (Below w.heap.size w w2) := B1.out.trans (hB2.mono B1.out.size)
    clear hB2
    by_cases hr : 1 ≤ len2 ∧ len2 ≤ 8
    · obtain ⟨r1, r2⟩ := hr
      have q1 : ¬ (len2 : Int) < 1 := by omega
      have q2 : ¬ (8 : Int) < (len2 : Int) := by omega
      have q3 : decide ((len2 : Int) < 1) = false := by simpa using q1
      have q4 : decide ((8 : Int) < (len2 : Int)) = false := by simpa using q2
      go_wp2_with fail
      refine (get_any _ xs _ (HX.out _ B2).out HB.out).mono ?_
      rintro e w3 ⟨rfl, hB3⟩
      have B3 : Hid (Below w.heap.size w w3) := B2.out.trans (hB3.mono B2.out.size)
      clear hB3
      obtain ⟨g, hg⟩ : ∃ g, getL xs = g := ⟨_, rfl⟩
      have HQ := Lib.hid hg
      rw [hg]
      clear hg
      go_wp2_with fail
      refine (put_some g len2 _ r1 (by omega) (by rw [← HQ.out]; exact (getL_bd xs HB.out).1) (by rw [← HQ.out]; exact (getL_bd xs HB.out).2)).mono ?_
      rintro e w4 ⟨v4, rfl, ho4, hB4⟩
      have e4 : putL g len2 = xs := by rw [← HQ.out, ← HL.out]; exact putL_getL xs HB.out (by rw [HL.out]; omega)
      have S4 : Hid (Sl .u8 w4 v4 xs) := Lib.hid (by rw [e4] at ho4; rw [← HL.out] at ho4; exact Sl.of_owns ho4)
      have B4 : Hid (Below w.heap.size w w4) := B3.out.trans (hB4.mono B3.out.size)
      clear ho4 hB4 e4
      go_wp2_with fail
      refine (bytes_yes _ _ xs _ S4.out (HX.out _ B4).out).mono ?_
      rintro e w' ⟨rfl, rfl⟩
      go_wp2_with fail
      refine (HW.out _).mono ?_
      rintro e w5 ⟨rfl, hB5⟩
      have B5 : Hid (Below w.heap.size w w5) := B4.out.trans (hB5.mono B4.out.size)
      clear hB5
      go_wp2_with fail
      go_ret
      exact ⟨rfl, B5.out⟩
    · have hq : (len2 : Int) < 1 ∨ ((8 : Int) < (len2 : Int) ∧ decide ((len2 : Int) < 1) = false) := by
        by_cases h : len2 = 0
        · left; omega
        · right; refine ⟨by omega, ?_⟩; simp; omega
      clear hr
      rcases hq with q | ⟨q, q2⟩
      all_goals
        go_wp2_with fail
        refine (HW.out _).mono ?_
        rintro e w5 ⟨rfl, hB5⟩
        have B5 : Hid (Below w.heap.size w w5) := B2.out.trans (hB5.mono B2.out.size)
        clear hB5
        go_wp2_with fail
        go_ret
        exact ⟨rfl, B5.out⟩

set_option maxRecDepth 100000 in
theorem lifted (os : Os) (started : os.Started) (H : Type) (enc : TypeId × Value → H) :
    ReturnsInHanded {} Try.checked os 5 .any (Rows.leBackSpec.pre6 enc Try.prog Try.f5 Rows.leBackRow.domain false) (Rows.leBackSpec.post enc Try.prog Try.f5 false true false false) := by
  refine returnsInHanded_of_change (C := Try.checked) own started (by kernel_rfl) Try.func5
    (ChangeSpec.witness6 (enc := enc) (C := Try.checked) false ⟨#[], #[.int .u64 0, .int .u8 0, .slice none 0 0], []⟩ 8 (by kernel_rfl) (by kernel_rfl) (by kernel_rfl) (by kernel_rfl)) ?_
  intro W base args ds gs before hval0 hW hcnd _
  have hval : ∀ (j : Nat) t v, Try.f5.params[j]? = some t → args[j]? = some v → Value.okWide Try.prog W .any base t v := hval0
  have hW' := hW
  obtain ⟨p, q, hA0, hV, rfl, hfz, hnd⟩ := hW
  have hA : DataW.TrodAll enc Try.prog W 0 (fun _ => true) true Try.f5.params.toList args.toList ds p := hA0
  rw [Try.params5] at hA hval
  obtain ⟨v0, vs0, d0, ds0, p0, q0, hargs, rfl, rfl, h0, r0⟩ := trodAll_cons hA
  obtain ⟨v1, vs1, d1, ds1, p1, q1, rfl, rfl, rfl, h1, r1⟩ := trodAll_cons r0
  obtain ⟨v2, vs2, d2, ds2, p2, q2, rfl, rfl, rfl, h2, r2⟩ := trodAll_cons r1
  obtain ⟨rfl, rfl, rfl⟩ := trodAll_nil r2
  obtain rfl : args = #[v0, v1, v2] := by cases args; simp_all
  obtain ⟨rfl, rfl⟩ := trodVars_none hV
  obtain ⟨a0, rfl, rfl, rfl, w0⟩ := open_int Try.underlying22 (hval 0 22 v0 rfl rfl) h0
  obtain ⟨a1, rfl, rfl, rfl, w1⟩ := open_int Try.underlying5 (hval 1 5 v1 rfl rfl) h1
  obtain ⟨a2, len2, cap2, rfl⟩ := okWide_slice Try.underlying23 (hval 2 23 v2 rfl rfl)
  have k2 := h2
  have lt2 : ∀ x ∈ p2, x.block < W.heap.size := by obtain ⟨m, hm⟩ := k2; exact DataW.trod_lt m _ _ _ hm
  obtain ⟨z2, w2⟩ : ∃ zs, IsRow .u8 W a2 len2 cap2 zs := by
    obtain ⟨fuel, hf⟩ := h2
    rcases open_ints Try.underlying23 Try.underlying5 (by kernel_rfl) hf with ⟨hcs, _⟩ | ⟨x, l, c, zs, hcs, _, hl, hm, hz, _, hcell, hwz⟩
    · simp [Value.cells] at hcs
      obtain ⟨rfl, rfl, rfl⟩ := hcs
      exact ⟨[], .inl ⟨rfl, rfl, rfl, rfl⟩⟩
    · simp [Value.cells] at hcs
      obtain ⟨rfl, rfl, rfl⟩ := hcs
      exact ⟨zs, .inr ⟨_, rfl, hl, hm, by simpa using hz, hcell, hwz⟩⟩
  clear hA0 hval0
  refine (walk a0 a1 a2 len2 cap2 z2 W w0 w1 w2).mono fun e W' ⟨he, bel⟩ => ?_
  subst he
  exact ⟨_, rfl, _, _, _, [], _, [], hW', trodAll_mk1 (shut_bool Try.underlying4 _), (trodAll_cons_mk (shut_int Try.underlying22 w0) (trodAll_cons_mk (shut_int Try.underlying5 w1) (trodAll_cons_mk (Below.trod laidOut (by kernel_rfl) (of_decide_eq_true (by kernel_rfl)) k2 bel lt2) trodAll_mk0))), rfl, bel.frame _, fun h => by cases h⟩

theorem over : Rows.leBackRow.holds Try.pinned (OpenSpec.ofChange Rows.leBackSpec) :=
  OpenClaim.holds_of_wide 5 Try.f5 rfl rfl rfl rfl rfl rfl rfl ⟨rfl, rfl, rfl, rfl, rfl⟩ rfl rfl rfl rfl rfl (by kernel_rfl) Try.func5 (by kernel_rfl)
    (of_decide_eq_true (by kernel_rfl)) (by unfold Func.isWrapper; first | (rw [if_pos (by decide +kernel)]; kernel_rfl) | (rw [if_neg (by decide +kernel)]; exact ⟨rfl, rfl⟩))
    (fun os started H enc _ => lifted os started H enc)

theorem proved : Rows.LeBackSaid := over
#print axioms proved
end Go.Proofs.Ytplmobijconfeaa.leBack
