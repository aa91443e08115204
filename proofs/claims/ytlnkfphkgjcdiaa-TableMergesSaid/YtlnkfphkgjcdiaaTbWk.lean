/- The guard that every statement on tables ends with. -/
import Derived.Test.YtlnkfphkgjcdiaaTbRf3
import Derived.Test.YtlnkfphkgjcdiaaTbRf4
namespace Go.Proofs.Ytlnkfphkgjcdiaa
open Go.RowKit
set_option linter.unusedVariables false
set_option linter.unusedSimpArgs false
attribute [-simp] Try.isAgg29 Try.zeroValue29
attribute [-go_sem] loadVar storeVar
attribute [local go_sem] loadVar_openP storeVar_openP zero_prs build_prs0 build_prs

set_option maxRecDepth 100000 in
theorem slice_prs2 (w : World) (a b c d : Int) : (Instr.buildSlice 22 2 #[(0, .agg #[.int .i64 a, .int .i64 b]), (1, .agg #[.int .i64 c, .int .i64 d])]).run Try.prog w = .ok (.slice (some ⟨w.heap.size, 0, none⟩) 2 2) (w.alloc (.cells #[.int .i64 a, .int .i64 b, .int .i64 c, .int .i64 d] 29)) := by kernel_rfl
theorem lit_two (x : World) (a b c d : Int) (h : Is64s [(a, b), (c, d)]) : Prt (x.alloc (.cells #[.int .i64 a, .int .i64 b, .int .i64 c, .int .i64 d] 29)) (.slice (some ⟨x.heap.size, 0, none⟩) 2 2) [(a, b), (c, d)] :=
  PrO.prt (N := x.heap.size) ⟨World.ownsRow_lit x #[.int .i64 a, .int .i64 b, .int .i64 c, .int .i64 d] 2 (Nat.le_refl _) (by simp [maxLen]) rfl, h⟩
theorem wk_put : tPut [(1, 4), (5, 2)] 3 7 = [(1, 4), (3, 7), (5, 2)] := by decide +kernel
theorem wk_keep : tKeep [(1, 4), (3, 7), (5, 2)] [(1, 4), (3, 7), (5, 2)] [(3, 9), (4, 8)] = [(1, 4), (3, 7), (4, 8), (5, 2)] := by decide +kernel
theorem wk_free : tFree [(1, 4), (3, 7), (5, 2)] [(3, 9), (4, 8)] = [9] := by decide +kernel
theorem wk_at : tAt [(1, 4), (3, 7), (5, 2)] 3 = 7 := by decide +kernel
theorem wk_is : (tFind [(1, 4), (3, 7), (5, 2)] 3).isSome = true := by decide +kernel
theorem wk_g6 : tGood [(1, 4), (3, 7), (4, 8), (5, 2)] 6 9 = true := by decide +kernel
theorem wk_g5 : tGood [(1, 4), (3, 7), (4, 8), (5, 2)] 5 9 = false := by decide +kernel

set_option maxRecDepth 100000 in
set_option maxHeartbeats 4000000 in
theorem tb_wakes (w : World) : Calls Try.prog 7 #[] w fun e w' => e = .returned (.bool true) ∧ Below w.heap.size w w' := by
  obtain ⟨W1, hW1⟩ : ∃ W, w.alloc (.cells #[.int .i64 1, .int .i64 4, .int .i64 5, .int .i64 2] 29) = W := ⟨_, rfl⟩
  have S1 := slice_prs2 w 1 4 5 2
  have b1 := below_new w (.cells #[.int .i64 1, .int .i64 4, .int .i64 5, .int .i64 2] 29)
  have p1 := lit_two w 1 4 5 2 (by intro p hp; simp at hp; rcases hp with rfl | rfl <;> simp [Is64])
  rw [hW1] at S1 b1 p1
  have HB1 := Lib.hid b1
  have HC1 := Lib.hid (tb_put p1 3 7 (by simp [Is64]) (by simp [Is64]) (by simp))
  clear hW1 b1 p1
  go_enter Try.func7, Try.ntmps7
  go_wp2_with (refine gate_build ?_; refine wpList_build_run 22 2 #[(0, .tmp 6), (1, .tmp 7)] rfl rfl [(0, .agg #[.int .i64 1, .int .i64 4]), (1, .agg #[.int .i64 5, .int .i64 2])] _ rfl S1 ?_)
  go_at_call 15
  refine HC1.out.mono ?_
  rintro e W2 ⟨u, rfl, hO, hb⟩
  rw [wk_put] at hO
  obtain ⟨au, cu, rfl⟩ := hO.form
  have HB2 : Hid (Below w.heap.size w W2) := HB1.out.trans (hb.mono HB1.out.size)
  have HP2 := Lib.hid hO.prt
  obtain ⟨W3, hW3⟩ : ∃ W, W2.alloc (.cells #[.int .i64 3, .int .i64 9, .int .i64 4, .int .i64 8] 29) = W := ⟨_, rfl⟩
  have S2 := slice_prs2 W2 3 9 4 8
  have b3 := below_new W2 (.cells #[.int .i64 3, .int .i64 9, .int .i64 4, .int .i64 8] 29)
  have p3 := lit_two W2 3 9 4 8 (by intro p hp; simp at hp; rcases hp with rfl | rfl <;> simp [Is64])
  rw [hW3] at S2 b3 p3
  have HB3 : Hid (Below w.heap.size w W3) := HB2.out.trans (b3.mono HB2.out.size)
  have HP3 := Lib.hid (HP2.out.below b3)
  have HC2 := Lib.hid (tb_merge HP3.out p3 (by simp) (by simp))
  clear hO hb HP2 HB1 HC1 S1 hW3 b3 p3
  go_wp2_with (refine gate_build ?_; refine wpList_build_run 22 2 #[(0, .tmp 12), (1, .tmp 13)] rfl rfl [(0, .agg #[.int .i64 3, .int .i64 9]), (1, .agg #[.int .i64 4, .int .i64 8])] _ rfl S2 ?_)
  go_at_call 10
  refine HC2.out.mono ?_
  rintro e W4 ⟨m, f, rfl, hm, hf, hb⟩
  rw [wk_keep] at hm
  rw [wk_free] at hf
  obtain ⟨am, cm, rfl⟩ := hm.form
  obtain ⟨af, cf, rfl⟩ := hf.form
  have HB4 : Hid (Below w.heap.size w W4) := HB3.out.trans (hb.mono HB3.out.size)
  have HP4 := Lib.hid (HP3.out.below hb)
  have HM4 := Lib.hid hm.prt
  have HF4 := Lib.hid hf.sl
  have HC3 := Lib.hid (tb_find HP4.out 3 (by simp))
  rw [wk_at, wk_is] at HC3
  clear hm hf hb HP3 HB3 HC2 S2 HB2
  go_wp2_with fail
  go_at_call 8
  refine HC3.out.mono ?_
  rintro e W5 ⟨rfl, hb⟩
  have HB5 : Hid (Below w.heap.size w W5) := HB4.out.trans (hb.mono HB4.out.size)
  have HM5 := Lib.hid (HM4.out.below hb)
  have HF5 := Lib.hid (HF4.out.below hb)
  obtain ⟨b1, o1, rfl, -, c1, -⟩ := (HP4.out.below hb).at (k := 1) rfl
  obtain ⟨b2, o2, rfl, -, c2, -⟩ := HM5.out.at (k := 2) rfl
  simp only at c1 c2
  obtain ⟨W6, hW6⟩ : ∃ W, W5.alloc (.cells #[.int .i64 9] 3) = W := ⟨_, rfl⟩
  have S3 := slice_int1 W5 9
  have b6 := below_new W5 (.cells #[.int .i64 9] 3)
  have s6 : Sl .i64 W6 (.slice (some ⟨W5.heap.size, 0, none⟩) 1 1) [9] := by
    rw [← hW6]
    exact sl_own (base := W5.heap.size) (e := 3) (n := 1) (World.ownsRow_lit W5 #[.int .i64 9] 1 (Nat.le_refl _) (by simp [maxLen]) rfl)
  rw [hW6] at S3 b6
  have HB6 : Hid (Below w.heap.size w W6) := HB5.out.trans (b6.mono HB5.out.size)
  have HM6 := Lib.hid (HM5.out.below b6)
  have HC4 := Lib.hid (ints_same _ _ _ W6 (HF5.out.below b6) s6)
  clear hb HP4 HM4 HF4 HB4 HC3 hW6 b6 s6 HM5 HF5 HB5
  go_wp2_with (refine gate_build ?_; refine wpList_build_run 30 1 #[(0, .const (.int .i64 9))] rfl rfl [(0, .int .i64 9)] _ rfl S3 ?_)
  go_at_call 17
  refine HC4.out.mono ?_
  rintro e W7 ⟨rfl, hb⟩
  have HB7 : Hid (Below w.heap.size w W7) := HB6.out.trans (hb.mono HB6.out.size)
  have HM7 := Lib.hid (HM6.out.below hb)
  have HC5 := Lib.hid (tb_good HM7.out 6 9 (by simp))
  rw [wk_g6] at HC5
  clear hb HM6 HB6 HC4 S3 c1 c2
  go_wp2_with fail
  go_at_call 12
  refine HC5.out.mono ?_
  rintro e W8 ⟨rfl, hb⟩
  have HB8 : Hid (Below w.heap.size w W8) := HB7.out.trans (hb.mono HB7.out.size)
  have HC6 := Lib.hid (tb_good (HM7.out.below hb) 5 9 (by simp))
  rw [wk_g5] at HC6
  clear hb HM7 HB7 HC5
  go_wp2_with fail
  go_at_call 12
  refine HC6.out.mono ?_
  rintro e W9 ⟨rfl, hb⟩
  have HB9 : Hid (Below w.heap.size w W9) := HB8.out.trans (hb.mono HB8.out.size)
  clear hb HC6 HB8
  go_wp2_with fail
  go_ret
  exact ⟨rfl, HB9.out⟩
end Go.Proofs.Ytlnkfphkgjcdiaa
