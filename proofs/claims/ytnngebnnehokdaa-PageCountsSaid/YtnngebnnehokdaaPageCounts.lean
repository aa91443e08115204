/- So many bytes have as many pieces as their Cut; one byte more has at most one piece more. -/
import Derived.Test.YtnngebnnehokdaaPgArg
import Derived.Test.YtnngebnnehokdaaPgAt
import Derived.Test.YtnngebnnehokdaaPgWakes
import Derived.Test.YtnngebnnehokdaaQuiet
namespace Go.Proofs.Ytnngebnnehokdaa.pageCounts
open Go.ChangeShapes Go.WideShapes Go.ChangeAt Go.RowKit
set_option linter.unusedVariables false
attribute [-simp] Try.isAgg27 Try.zeroValue27 Try.isAgg23 Try.zeroValue23 Try.isAgg25 Try.zeroValue25 Try.isAgg33 Try.zeroValue33
attribute [-go_sem] loadVar storeVar run_equalIn_agg
attribute [local go_sem] zero_blk build_blk zero_bod zero_pg build_pg build_pg0 zero_sec loadVar_open5 storeVar_open5

set_option maxRecDepth 100000 in
set_option maxHeartbeats 4000000 in
theorem walk (v0 : Value) (w : World) (w0 : Arg w 51 v0) :
    Calls Try.prog 8 #[v0] w fun e w' => e = .returned (.bool true) ∧ Below w.heap.size w w' := by
  obtain ⟨n, rfl, wn⟩ := w0.int Try.underlying51
  have hn := (wf_iff .u16 n).1 wn
  simp [IntKind.min, IntKind.max, IntKind.signed, IntKind.bits] at hn
  obtain ⟨n0, n1⟩ := hn
  obtain ⟨K, hK⟩ : ∃ K : Nat, Int.tmod n 3000 = (K : Int) := ⟨(n % 3000).toNat, by rw [Int.tmod_eq_emod_of_nonneg (by omega)]; omega⟩
  have hK3 : K < 3000 := by
    have e : Int.tmod n 3000 = n % 3000 := Int.tmod_eq_emod_of_nonneg (by omega)
    rw [e] at hK
    omega
  obtain ⟨A, hA⟩ : ∃ A, (K + 47) / 48 = A := ⟨_, rfl⟩
  have hc1 : cnt (K : Int) = (A : Int) := by rw [cnt_nat, hA]
  have hc2 : cnt (-(K : Int)) = 0 := by unfold cnt; rw [if_pos (by omega)]
  have hc3 : cnt ((K : Int) + 1) = (((K + 48) / 48 : Nat) : Int) := by
    have := cnt_nat (K + 1)
    rw [show ((K + 1 : Nat) : Int) = (K : Int) + 1 by omega] at this
    rw [this]
  have hA2 : A ≤ 63 := by omega
  have HA := Lib.hid hA
  obtain ⟨i0, hi, hz0, hz1, hz2⟩ := info_parts info_u8
  have HM : ∀ x : World, Below w.heap.size w x → ∃ x', (Instr.makeSlice 41 (.int .i64 (K : Int)) (.int .i64 (K : Int))).run Try.prog x = .ok (.slice (some ⟨x.heap.size, 0, none⟩) K K) x' ∧ Sl .u8 x' (.slice (some ⟨x.heap.size, 0, none⟩) K K) (List.replicate K 0) ∧ Below w.heap.size w x' := fun x hx => by
    obtain ⟨x', r, ho, hg⟩ := run_make_full (P := Try.prog) x x.heap.size 41 5 i0 (.int .u8 0) 1 Try.underlying41 hi hz0 hz1 .i64 .i64 K (by rw [hz2]; omega) (by unfold maxLen; omega) (Nat.le_refl _)
    refine ⟨x', r, ?_, hx.grown hg hx.size (fun k e => by cases e)⟩
    rw [show (Value.int IntKind.u8 0).cells = #[.int .u8 0] from rfl, toList_madeCells_one, Nat.mul_one] at ho
    have := Sl.of_owns (bs := List.replicate K 0) (by rw [List.map_replicate, List.length_replicate]; exact ho)
    exact this
  obtain ⟨x1, MK, hs, hb1⟩ := HM w (Below.refl _ _)
  have S1 := Lib.hid hs
  have B1 := Lib.hid hb1
  have HMK := Lib.hid MK
  have hnp : nPcs (List.replicate K 0) = A := by unfold nPcs; rw [List.length_replicate, hA]
  have HNP := Lib.hid hnp
  clear hs hb1 MK HM hi hz0 hz1 hz2 hnp wn w0 hA
  by_cases h0 : K = 0
  · -- no bytes
    have hA1 : A = 0 := by have := HA.out; omega
    have g0 : ((K : Int) == 0) = true := by simp; omega
    have g1 : ((A : Int) == 0) = true := by simp; omega
    have g2 : ((A : Int) + 1 == (A : Int)) = false := by simp; omega
    have g4 : decide ((K : Int) ≤ (A : Int) * 48) = true := by simp; omega
    have g5 : Int.tmod (K : Int) 48 = 0 := by rw [Int.tmod_eq_emod_of_nonneg (by omega)]; omega
    replace hc3 : cnt ((K : Int) + 1) = (A : Int) + 1 := by rw [hc3]; omega
    have HK0 := Lib.hid h0
    clear h0 hA1
    have HC1 := Lib.hid hc1
    have HC2 := Lib.hid hc2
    have HC3 := Lib.hid hc3
    clear hc1 hc2 hc3
    go_enter Try.func8, Try.ntmps8
    go_wp2_with fail
    clear hK
    go_at_call 17
    refine (pgCount (K : Int) w (by omega) (by omega)).mono ?_
    rintro e y ⟨rfl, hy⟩
    obtain rfl := hy.symm
    rw [HC1.out]
    clear hy
    go_wp2_with fail
    go_at_call 17
    refine (pgCount ((K : Int) + 1) w (by omega) (by omega)).mono ?_
    rintro e y ⟨rfl, hy⟩
    obtain rfl := hy.symm
    rw [HC3.out]
    clear hy
    go_wp2_with ((with_reducible refine gate_make ?_); refine wpList_make_run _ _ _ rfl rfl _ _ _ rfl rfl HMK.out ?_)
    go_at_call 15
    refine (pgCut _ _ x1 S1.out (by simp; omega)).mono ?_
    rintro e x2 ⟨v2, rfl, ho, hb⟩
    rw [HNP.out] at ho
    obtain ⟨ra, c, rfl⟩ := row_len ho
    have B2 : Hid (Below w.heap.size w x2) := B1.out.trans (hb.mono B1.out.size)
    clear ho hb
    go_wp2_with fail
    go_at_call 17
    refine (pgCount (-(K : Int)) x2 (by omega) (by omega)).mono ?_
    rintro e y ⟨rfl, hy⟩
    obtain rfl := hy.symm
    rw [HC2.out]
    clear hy
    go_wp2_with fail
    go_at_call 14
    refine (pgWakes x2).mono ?_
    rintro e x3 ⟨rfl, hb⟩
    have B3 : Hid (Below w.heap.size w x3) := B2.out.trans (hb.mono B2.out.size)
    clear hb
    go_wp2_with fail
    go_ret
    exact ⟨rfl, B3.out⟩
  · by_cases h1 : K % 48 = 0
    · -- just so many pieces
      have hA1 : K = 48 * A := by have := HA.out; omega
      have e3 : (K + 48) / 48 = A + 1 := by omega
      replace hc3 : cnt ((K : Int) + 1) = (A : Int) + 1 := by rw [hc3, e3]; omega
      have g1 : ((A : Int) == 0) = false := by simp; omega
      have g2 : ((A : Int) + 1 == (A : Int)) = false := by simp; omega
      have g3 : decide (((A : Int) - 1) * 48 < (K : Int)) = true := by simp; omega
      have g4 : decide ((K : Int) ≤ (A : Int) * 48) = true := by simp; omega
      have g5 : Int.tmod (K : Int) 48 = 0 := by rw [Int.tmod_eq_emod_of_nonneg (by omega)]; omega
      clear hA1 e3 h1
      have HC1 := Lib.hid hc1
      have HC2 := Lib.hid hc2
      have HC3 := Lib.hid hc3
      clear hc1 hc2 hc3
      go_enter Try.func8, Try.ntmps8
      go_wp2_with fail
      clear hK
      go_at_call 17
      refine (pgCount (K : Int) w (by omega) (by omega)).mono ?_
      rintro e y ⟨rfl, hy⟩
      obtain rfl := hy.symm
      rw [HC1.out]
      clear hy
      go_wp2_with fail
      go_at_call 17
      refine (pgCount ((K : Int) + 1) w (by omega) (by omega)).mono ?_
      rintro e y ⟨rfl, hy⟩
      obtain rfl := hy.symm
      rw [HC3.out]
      clear hy
      go_wp2_with ((with_reducible refine gate_make ?_); refine wpList_make_run _ _ _ rfl rfl _ _ _ rfl rfl HMK.out ?_)
      go_at_call 15
      refine (pgCut _ _ x1 S1.out (by simp; omega)).mono ?_
      rintro e x2 ⟨v2, rfl, ho, hb⟩
      rw [HNP.out] at ho
      obtain ⟨ra, c, rfl⟩ := row_len ho
      have B2 : Hid (Below w.heap.size w x2) := B1.out.trans (hb.mono B1.out.size)
      clear ho hb
      go_wp2_with fail
      go_at_call 17
      refine (pgCount (-(K : Int)) x2 (by omega) (by omega)).mono ?_
      rintro e y ⟨rfl, hy⟩
      obtain rfl := hy.symm
      rw [HC2.out]
      clear hy
      go_wp2_with fail
      go_at_call 14
      refine (pgWakes x2).mono ?_
      rintro e x3 ⟨rfl, hb⟩
      have B3 : Hid (Below w.heap.size w x3) := B2.out.trans (hb.mono B2.out.size)
      clear hb
      go_wp2_with fail
      go_ret
      exact ⟨rfl, B3.out⟩
    · -- a piece that is not full
      have hA1 : ¬ K % 48 = 0 := h1
      have e3 : (K + 48) / 48 = A := by have := HA.out; omega
      rw [e3] at hc3
      have g0 : 0 < A := by have := HA.out; omega
      have g1 : ((A : Int) == 0) = false := by simp; omega
      have g3 : decide (((A : Int) - 1) * 48 < (K : Int)) = true := by have := HA.out; simp; omega
      have g4 : decide ((K : Int) ≤ (A : Int) * 48) = true := by have := HA.out; simp; omega
      have HC1 := Lib.hid hc1
      have HC2 := Lib.hid hc2
      have HC3 := Lib.hid hc3
      clear hc1 hc2 hc3
      go_enter Try.func8, Try.ntmps8
      go_wp2_with fail
      clear hK
      go_at_call 17
      refine (pgCount (K : Int) w (by omega) (by omega)).mono ?_
      rintro e y ⟨rfl, hy⟩
      obtain rfl := hy.symm
      rw [HC1.out]
      clear hy
      go_wp2_with fail
      go_at_call 17
      refine (pgCount ((K : Int) + 1) w (by omega) (by omega)).mono ?_
      rintro e y ⟨rfl, hy⟩
      obtain rfl := hy.symm
      rw [HC3.out]
      clear hy
      go_wp2_with ((with_reducible refine gate_make ?_); refine wpList_make_run _ _ _ rfl rfl _ _ _ rfl rfl HMK.out ?_)
      go_at_call 15
      refine (pgCut _ _ x1 S1.out (by simp; omega)).mono ?_
      rintro e x2 ⟨v2, rfl, ho, hb⟩
      rw [HNP.out] at ho
      obtain ⟨ra, c, rfl⟩ := row_len ho
      have B2 : Hid (Below w.heap.size w x2) := B1.out.trans (hb.mono B1.out.size)
      clear ho hb
      go_wp2_with fail
      go_at_call 17
      refine (pgCount (-(K : Int)) x2 (by omega) (by omega)).mono ?_
      rintro e y ⟨rfl, hy⟩
      obtain rfl := hy.symm
      rw [HC2.out]
      clear hy
      go_wp2_with fail
      go_at_call 14
      refine (pgWakes x2).mono ?_
      rintro e x3 ⟨rfl, hb⟩
      have B3 : Hid (Below w.heap.size w x3) := B2.out.trans (hb.mono B2.out.size)
      clear hb
      go_wp2_with fail
      go_ret
      exact ⟨rfl, B3.out⟩

set_option maxRecDepth 100000 in
theorem lifted (os : Os) (started : os.Started) (H : Type) (enc : TypeId × Value → H) :
    ReturnsInHanded {} Try.checked os 8 .any (Rows.pageCountsSpec.pre6 enc Try.prog Try.f8 Rows.pageCountsRow.domain false) (Rows.pageCountsSpec.post enc Try.prog Try.f8 false true false false) := by
  refine returnsInHanded_of_change (C := Try.checked) own started (by kernel_rfl) Try.func8
    (ChangeSpec.witness6 (enc := enc) (C := Try.checked) false ⟨#[], #[.int .u16 0], []⟩ 8 (by kernel_rfl) (by kernel_rfl) (by kernel_rfl) (by kernel_rfl)) ?_
  intro W base args ds gs before hval0 hW hcnd _
  have hval : ∀ (j : Nat) t v, Try.f8.params[j]? = some t → args[j]? = some v → Value.okWide Try.prog W .any base t v := hval0
  have hW' := hW
  obtain ⟨p, q, hA0, hV, rfl, hfz, hnd⟩ := hW
  have hA : DataW.TrodAll enc Try.prog W 0 (fun _ => true) true Try.f8.params.toList args.toList ds p := hA0
  rw [Try.params8] at hA hval
  obtain ⟨v0, vs0, d0, ds0, p0, q0, hargs, rfl, rfl, h0, r0⟩ := trodAll_cons hA
  obtain ⟨rfl, rfl, rfl⟩ := trodAll_nil r0
  obtain rfl : args = #[v0] := by cases args; simp_all
  obtain ⟨rfl, rfl⟩ := trodVars_none hV
  have lt0 : ∀ x ∈ p0, x.block < W.heap.size := by obtain ⟨m, hm⟩ := h0; exact DataW.trod_lt m _ _ _ hm
  have a0 := Arg.mk (hval 0 51 v0 rfl rfl) h0
  clear hA0 hval0
  refine (walk v0 W a0).mono fun e W' ⟨he, bel⟩ => ?_
  subst he
  exact ⟨_, rfl, _, _, _, [], _, [], hW', trodAll_mk1 (shut_bool Try.underlying4 _), (trodAll_cons_mk (Below.trod laidOut (by kernel_rfl) (of_decide_eq_true (by kernel_rfl)) h0 bel lt0) trodAll_mk0), rfl, bel.frame _, fun h => by cases h⟩

theorem over : Rows.pageCountsRow.holds Try.pinned (OpenSpec.ofChange Rows.pageCountsSpec) :=
  OpenClaim.holds_of_wide 8 Try.f8 rfl rfl rfl rfl rfl rfl rfl ⟨rfl, rfl, rfl, rfl, rfl⟩ rfl rfl rfl rfl rfl (by kernel_rfl) Try.func8 (by kernel_rfl)
    (of_decide_eq_true (by kernel_rfl)) (by unfold Func.isWrapper; first | (rw [if_pos (by decide +kernel)]; kernel_rfl) | (rw [if_neg (by decide +kernel)]; exact ⟨rfl, rfl⟩))
    (fun os started H enc _ => lifted os started H enc)

theorem proved : Rows.PageCountsSaid := over
#print axioms proved
end Go.Proofs.Ytnngebnnehokdaa.pageCounts
