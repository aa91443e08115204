/- A block that was touched outlives a round of the clock: of clean blocks, all touched at first, the first goes first, one touched again later; for every pair of bytes. -/
import Derived.Test.YtlpmikbplngmnaaWdW
import Derived.Test.YtlpmikbplngmnaaWdS
import Derived.Test.YtlpmikbplngmnaaWdK
import Derived.Test.YtlpmikbplngmnaaMod
namespace Go.Proofs.Ytlpmikbplngmnaa.waysClock
open Go.ChangeShapes Go.WideShapes Go.ChangeAt Go.RowKit
set_option linter.unusedVariables false
open Go.Shelf Go.Lib
set_option linter.unusedSimpArgs false

set_option maxRecDepth 100000 in
set_option maxHeartbeats 1000000 in
theorem walk (v0 v1 : Value) (w : World) (w0 : Arg w 5 v0) (w1 : Arg w 5 v1) :
    Calls Try.prog 6 #[v0, v1] w fun e w' => e = .returned (.bool true) ∧ Below w.heap.size w w' := by
  obtain ⟨n, rfl, wn⟩ := w0.int Try.underlying5
  obtain ⟨u, rfl, wu⟩ := w1.int Try.underlying5
  obtain ⟨hn0, hn1⟩ := bounds_u8 wn
  obtain ⟨hu0, hu1⟩ := bounds_u8 wu
  clear wn wu w0 w1
  obtain ⟨N, hN⟩ : ∃ N : Nat, 2 + n % 3 = (N : Int) := ⟨(2 + n % 3).toNat, by omega⟩
  have hN2 : 2 ≤ N := by omega
  have hN4 : N ≤ 4 := by omega
  obtain ⟨T, hT⟩ : ∃ T : Nat, 1 + u % ((N : Int) - 1) = (T : Int) := ⟨(1 + u % ((N : Int) - 1)).toNat, by have := Int.emod_nonneg u (show (N : Int) - 1 ≠ 0 by omega); omega⟩
  have hT1 : 1 ≤ T := by have := Int.emod_nonneg u (show (N : Int) - 1 ≠ 0 by omega); omega
  have hTN : T < N := by have := Int.emod_lt_of_pos u (show 0 < (N : Int) - 1 by omega); omega
  have hq : (N : Int) - 1 = 1 ∨ (N : Int) - 1 = 2 ∨ (N : Int) - 1 = 3 := by omega
  have H0 := Lib.hid (WAt.new (w0 := w) (Below.refl _ w) 1 N (by decide) (by decide) (by omega) hN4)
  have K1 : Hid (∀ q x k, k < N → WAt w x q (ckN N k) → Calls Try.prog 11 #[q.v, .int .i64 (k : Int)] x fun e w' => e = .returned (.tuple #[.int .i64 (k : Int), .bool true]) ∧ WAt w w' q (mRoom (ckN N k) (k : Int)).2) := fun q x k hk h => by
    have := h.room (k : Int) (by omega)
    rw [ck_fill ⟨N, by omega⟩ hN2 ⟨k, by omega⟩ hk] at this
    exact this
  have K2 : Hid (∀ q x k, k < N → WAt w x q (mRoom (ckN N k) (k : Int)).2 → Calls Try.prog 13 #[q.v, .int .i64 (k : Int), .int .i64 (k : Int), .bool false] x fun e w' => e = .returned (.tuple #[]) ∧ WAt w w' q (ckN N (k + 1))) := fun q x k hk h => by
    have := h.put (k : Int) (k : Int) false (by omega)
    rw [← ckN_succ] at this
    exact this
  have K3 : Hid (∀ q x, WAt w x q (ckN N N) → Calls Try.prog 11 #[q.v, .int .i64 (N : Int)] x fun e w' => e = .returned (.tuple #[.int .i64 0, .bool true]) ∧ WAt w w' q (mRoom (ckN N N) (N : Int)).2) := fun q x h => by
    have := h.room (N : Int) (by omega)
    rw [ck_first ⟨N, by omega⟩ hN2] at this
    exact this
  have K4 : Hid (∀ q x, WAt w x q (mRoom (ckN N N) (N : Int)).2 → Calls Try.prog 13 #[q.v, .int .i64 0, .int .i64 (N : Int), .bool false] x fun e w' => e = .returned (.tuple #[]) ∧ WAt w w' q (ckA N)) := fun q x h => h.put 0 (N : Int) false (by omega)
  have K5 : Hid (∀ q x, WAt w x q (ckA N) → Calls Try.prog 17 #[q.v, .int .i64 (T : Int)] x fun e w' => e = .returned (.tuple #[]) ∧ WAt w w' q (mTouch (ckA N) (T : Int))) := fun q x h => h.touch (T : Int)
  obtain ⟨R, hR⟩ : ∃ R : Nat, (if T = 1 then (if N = 2 then 1 else 2) else 1) = R := ⟨_, rfl⟩
  have K6 : Hid (∀ q x, WAt w x q (mTouch (ckA N) (T : Int)) → Calls Try.prog 11 #[q.v, .int .i64 ((N : Int) + 1)] x fun e w' => e = .returned (.tuple #[.int .i64 (R : Int), .bool true]) ∧ Below w.heap.size w w') := fun q x h => by
    have := h.room ((N : Int) + 1) (by omega)
    rw [ck_then ⟨N, by omega⟩ hN2 ⟨T, by omega⟩ hT1 hTN, hR] at this
    exact this.mono fun e w' h => ⟨h.1, h.2.bel⟩
  have HR := Lib.hid hR
  have HT1 := Lib.hid hT1
  have HTN := Lib.hid hTN
  clear hR
  go_enter Try.func6, Try.ntmps6
  go_wp2_with fail
  refine H0.out.mono ?_
  rintro e x ⟨q, rfl, h, -⟩
  have A : Hid (WAt w x q (ckN N 0)) := h
  clear h
  unfold WPos.v
  go_wp2_with fail
  go_loopw [8] (fun iv wr => ∃ k : Nat, k ≤ N ∧ iv = .int .i64 (k : Int) ∧ Hid (WAt w wr q (ckN N k))) (fun iv _ => N - (intOf iv).toNat)
  case atStart => exact ⟨0, Nat.zero_le _, rfl, A⟩
  case round =>
    obtain ⟨k, hk, rfl, HA⟩ := hrel
    clear A
    by_cases hlt : k < N
    · have g1 : (k : Int) < (N : Int) := by omega
      have HLT := Lib.hid hlt
      go_wp2_with fail
      refine (K1.out q _ k HLT.out HA.out).mono ?_
      rintro e y ⟨rfl, h⟩
      have A1 := Lib.hid h
      clear h
      go_wp2_with fail
      refine (K2.out q _ k HLT.out A1.out).mono ?_
      rintro e z ⟨rfl, h⟩
      have A2 := Lib.hid h
      clear h
      go_wp2_with fail
      exact ⟨⟨k + 1, HLT.out, by simp, A2⟩, by have := HLT.out; simp [intOf]; omega⟩
    · obtain rfl : k = N := by omega
      go_wp2_with fail
      refine (K3.out q _ HA.out).mono ?_
      rintro e y ⟨rfl, h⟩
      have A1 := Lib.hid h
      clear h
      go_wp2_with fail
      refine (K4.out q _ A1.out).mono ?_
      rintro e z ⟨rfl, h⟩
      have A2 := Lib.hid h
      clear h
      have gk : ¬ ((k : Int) - 1 = 0) := by omega
      have gt0 : 0 ≤ u % ((k : Int) - 1) := Int.emod_nonneg u gk
      go_upto_region 17 with (fail)
      go_wp2_with fail
      refine (K5.out q _ A2.out).mono ?_
      rintro e z2 ⟨rfl, h⟩
      have A3 := Lib.hid h
      clear h A2 A1 hT hN gk gt0 hq
      by_cases h1 : T = 1
      · have g1 : ((T : Int) == 1) = true := by simp; omega
        by_cases h2 : k = 2
        · have g2 : ((k : Int) == 2) = true := by simp; omega
          obtain rfl : R = 1 := by rw [← HR.out, if_pos h1, if_pos h2]
          clear h1 h2 HR
          go_wp2_with fail
          refine (K6.out q _ A3.out).mono ?_
          rintro e w2 ⟨rfl, h⟩
          have B := Lib.hid h
          clear h
          go_wp2_with fail
          refine (ways_wakes _).mono ?_
          rintro e w3 ⟨rfl, h⟩
          have B2 : Hid (Below w.heap.size w w3) := B.out.trans (h.mono B.out.size)
          clear h
          go_wp2_with fail
          go_ret
          exact ⟨rfl, B2.out⟩
        · have g2 : ((k : Int) == 2) = false := by simp; omega
          obtain rfl : R = 2 := by rw [← HR.out, if_pos h1, if_neg h2]
          clear h1 h2 HR
          go_wp2_with fail
          refine (K6.out q _ A3.out).mono ?_
          rintro e w2 ⟨rfl, h⟩
          have B := Lib.hid h
          clear h
          go_wp2_with fail
          refine (ways_wakes _).mono ?_
          rintro e w3 ⟨rfl, h⟩
          have B2 : Hid (Below w.heap.size w w3) := B.out.trans (h.mono B.out.size)
          clear h
          go_wp2_with fail
          go_ret
          exact ⟨rfl, B2.out⟩
      · have g1 : ((T : Int) == 1) = false := by simp; omega
        obtain rfl : R = 1 := by rw [← HR.out, if_neg h1]
        clear h1 HR
        go_wp2_with fail
        refine (K6.out q _ A3.out).mono ?_
        rintro e w2 ⟨rfl, h⟩
        have B := Lib.hid h
        clear h
        go_wp2_with fail
        refine (ways_wakes _).mono ?_
        rintro e w3 ⟨rfl, h⟩
        have B2 : Hid (Below w.heap.size w w3) := B.out.trans (h.mono B.out.size)
        clear h
        go_wp2_with fail
        go_ret
        exact ⟨rfl, B2.out⟩

set_option maxRecDepth 100000 in
theorem lifted (os : Os) (started : os.Started) (H : Type) (enc : TypeId × Value → H) :
    ReturnsInHanded {} Try.checked os 6 .any (Rows.waysClockSpec.pre6 enc Try.prog Try.f6 Rows.waysClockRow.domain false) (Rows.waysClockSpec.post enc Try.prog Try.f6 false true false false) := by
  refine returnsInHanded_of_change (C := Try.checked) own started (by kernel_rfl) Try.func6
    (ChangeSpec.witness6 (enc := enc) (C := Try.checked) false ⟨#[], #[.int .u8 0, .int .u8 0], []⟩ 8 (by kernel_rfl) (by kernel_rfl) (by kernel_rfl) (by kernel_rfl)) ?_
  intro W base args ds gs before hval0 hW hcnd _
  have hval : ∀ (j : Nat) t v, Try.f6.params[j]? = some t → args[j]? = some v → Value.okWide Try.prog W .any base t v := hval0
  have hW' := hW
  obtain ⟨p, q, hA0, hV, rfl, hfz, hnd⟩ := hW
  have hA : DataW.TrodAll enc Try.prog W 0 (fun _ => true) true Try.f6.params.toList args.toList ds p := hA0
  rw [Try.params6] at hA hval
  obtain ⟨v0, vs0, d0, ds0, p0, q0, hargs, rfl, rfl, h0, r0⟩ := trodAll_cons hA
  obtain ⟨v1, vs1, d1, ds1, p1, q1, rfl, rfl, rfl, h1, r1⟩ := trodAll_cons r0
  obtain ⟨rfl, rfl, rfl⟩ := trodAll_nil r1
  obtain rfl : args = #[v0, v1] := by cases args; simp_all
  obtain ⟨rfl, rfl⟩ := trodVars_none hV
  have lt0 : ∀ x ∈ p0, x.block < W.heap.size := by obtain ⟨m, hm⟩ := h0; exact DataW.trod_lt m _ _ _ hm
  have a0 := Arg.mk (hval 0 5 v0 rfl rfl) h0
  have lt1 : ∀ x ∈ p1, x.block < W.heap.size := by obtain ⟨m, hm⟩ := h1; exact DataW.trod_lt m _ _ _ hm
  have a1 := Arg.mk (hval 1 5 v1 rfl rfl) h1
  clear hA0 hval0
  refine (walk v0 v1 W a0 a1).mono fun e W' ⟨he, bel⟩ => ?_
  subst he
  exact ⟨_, rfl, _, _, _, [], _, [], hW', trodAll_mk1 (shut_bool Try.underlying4 _), (trodAll_cons_mk (Below.trod laidOut (by kernel_rfl) (of_decide_eq_true (by kernel_rfl)) h0 bel lt0) (trodAll_cons_mk (Below.trod laidOut (by kernel_rfl) (of_decide_eq_true (by kernel_rfl)) h1 bel lt1) trodAll_mk0)), rfl, bel.frame _, fun h => by cases h⟩

set_option maxRecDepth 100000 in
theorem over : Rows.waysClockRow.holds Try.pinned (OpenSpec.ofChange Rows.waysClockSpec) :=
  OpenClaim.holds_of_wide 6 Try.f6 rfl rfl rfl rfl rfl rfl rfl ⟨rfl, rfl, rfl, rfl, rfl⟩ rfl rfl rfl rfl rfl (by kernel_rfl) Try.func6 (by kernel_rfl)
    (of_decide_eq_true (by kernel_rfl)) (by unfold Func.isWrapper; first | (rw [if_pos (by decide +kernel)]; kernel_rfl) | (rw [if_neg (by decide +kernel)]; exact ⟨rfl, rfl⟩))
    (fun os started H enc _ => lifted os started H enc)

theorem proved : Rows.WaysClockSaid := over
#print axioms proved
end Go.Proofs.Ytlpmikbplngmnaa.waysClock
