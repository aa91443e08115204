/- Of any pairs: Good, Find, Put and Merge tell what the document tells. -/
import Derived.Test.YtlnkfphkgjcdiaaTbTl
import Derived.Test.YtlnkfphkgjcdiaaArgSl
namespace Go.Proofs.Ytlnkfphkgjcdiaa.tableTells
open Go.ChangeShapes Go.WideShapes Go.ChangeAt Go.RowKit
set_option linter.unusedVariables false
set_option linter.unusedSimpArgs false
attribute [-simp] Try.isAgg29 Try.zeroValue29 Try.isAgg34 Try.zeroValue34
attribute [-go_sem] loadVar storeVar
attribute [local go_sem] loadVar_openB storeVar_openB zero_prs build_prs0 build_prs zero_both build_both

set_option maxRecDepth 100000 in
set_option maxHeartbeats 20000000 in
theorem walk (v0 v1 v2 : Value) (w : World) (w0 : Arg w 22 v0) (w1 : Arg w 22 v1) (w2 : Arg w 23 v2) :
    Calls Try.prog 3 #[v0, v1, v2] w fun e w' => e = .returned (.bool true) ∧ Below w.heap.size w w' := by
  have hmx : Try.prog.follows .mixedOrders = true := by kernel_rfl
  obtain ⟨a, ha⟩ := w0.prt
  obtain ⟨b, hb⟩ := w1.prt
  obtain ⟨n0, n1, rfl, wn0, wn1⟩ := w2.two Try.underlying23 Try.underlying3 (by kernel_rfl) (by kernel_rfl)
  have hn0 : Is64 n0 := bounds_i64 wn0
  have hn1 : Is64 n1 := bounds_i64 wn1
  obtain ⟨W0, hW0⟩ : ∃ W, w.alloc (.cells #[.int .i64 n0, .int .i64 n1] 23) = W := ⟨_, rfl⟩
  have b0 := below_new w (.cells #[.int .i64 n0, .int .i64 n1] 23)
  have r0 : RowC W0 w.heap.size 23 [.int .i64 n0, .int .i64 n1] := by rw [← hW0]; exact RowC.new w _ _
  rw [hW0] at b0
  have HB0 := Lib.hid b0
  have HRN := Lib.hid r0
  have HA := Lib.hid (ha.below b0)
  have HBB := Lib.hid (hb.below b0)
  obtain ⟨pa, ca, rfl, -⟩ := ha
  obtain ⟨pb, cb, rfl, -⟩ := hb
  clear b0 r0 wn0 wn1 w0 w1 w2
  by_cases hla : 80 < a.length
  · have qa : (80 : Int) < (a.length : Int) := by omega
    go_enter Try.func3, Try.ntmps3
    go_wp2_with fail
    refine (tb_wakes _).mono ?_
    rintro e W1 ⟨rfl, hbw⟩
    have HBE : Hid (Below w.heap.size w W1) := HB0.out.trans (hbw.mono HB0.out.size)
    clear hbw
    go_wp2_with fail
    go_ret
    exact ⟨rfl, HBE.out⟩
  by_cases hlb : 80 < b.length
  · have qa : ¬ (80 : Int) < (a.length : Int) := by omega
    have qb : (80 : Int) < (b.length : Int) := by omega
    go_enter Try.func3, Try.ntmps3
    go_wp2_with fail
    refine (tb_wakes _).mono ?_
    rintro e W1 ⟨rfl, hbw⟩
    have HBE : Hid (Below w.heap.size w W1) := HB0.out.trans (hbw.mono HB0.out.size)
    clear hbw
    go_wp2_with fail
    go_ret
    exact ⟨rfl, HBE.out⟩
  have qa : ¬ (80 : Int) < (a.length : Int) := by omega
  have qb : ¬ (80 : Int) < (b.length : Int) := by omega
  -- the copies
  obtain ⟨W1, hW1⟩ : ∃ W, W0.alloc (.cells #[] 29) = W := ⟨_, rfl⟩
  have SB1 := slice_prs0 W0
  have b1 := below_new W0 (.cells #[] 29)
  have s1 := lit_none W0.heap.size W0 (Nat.le_refl _)
  rw [hW1] at SB1 b1 s1
  obtain ⟨ux, W2, hr2, hx2, g2, -⟩ := pr_append s1 (HA.out.below b1) b1.size (by simp; omega)
  rw [List.nil_append] at hx2
  have bb2 : Below W0.heap.size W0 W2 := b1.grown g2 b1.size (fun j e => (s1.base j e).1)
  obtain ⟨W3, hW3⟩ : ∃ W, W2.alloc (.cells #[] 29) = W := ⟨_, rfl⟩
  have SB3 := slice_prs0 W2
  have b3 := below_new W2 (.cells #[] 29)
  have s3 := lit_none W2.heap.size W2 (Nat.le_refl _)
  rw [hW3] at SB3 b3 s3
  obtain ⟨uy, W4, hr4, hy4, g4, -⟩ := pr_append s3 ((HBB.out.below bb2).below b3) b3.size (by simp; omega)
  rw [List.nil_append] at hy4
  have bb4 : Below W2.heap.size W2 W4 := b3.grown g4 b3.size (fun j e => (s3.base j e).1)
  have b04 : Below W0.heap.size W0 W4 := bb2.trans (bb4.mono bb2.size)
  obtain ⟨ax, cx, rfl⟩ := hx2.form
  obtain ⟨ay, cy, rfl⟩ := hy4.form
  have HX4 := Lib.hid (hx2.prt.below bb4)
  have HY4 := Lib.hid hy4.prt
  have HA4 := Lib.hid (HA.out.below b04)
  have HBB4 := Lib.hid (HBB.out.below b04)
  have HRN4 := Lib.hid (HRN.out.below b04)
  have HB4 : Hid (Below w.heap.size w W4) := HB0.out.trans (b04.mono HB0.out.size)
  have HR2 := Lib.hid hr2
  have HR4 := Lib.hid hr4
  have c0 := HRN4.out.cell 0 _ rfl
  clear b1 s1 hx2 g2 bb2 b3 s3 hy4 g4 bb4 b04 hW1 hW3 hr2 hr4 HA HBB HRN HB0
  have HF := Lib.hid (tb_find HX4.out n0 (by omega))
  go_enter Try.func3, Try.ntmps3
  go_wp2_with (first | (refine gate_build ?_; first | refine wpList_build_run 22 0 #[] rfl rfl [] _ rfl SB1 ?_ | refine wpList_build_run 22 0 #[] rfl rfl [] _ rfl SB3 ?_) | (at_builtin; first | refine wpList_append_run (.tmp 24) (.tmp 25) 22 rfl rfl _ _ _ rfl rfl (HR2.out _) ?_ | refine wpList_append_run (.tmp 27) (.tmp 28) 22 rfl rfl _ _ _ rfl rfl (HR4.out _) ?_))
  go_at_call 8
  refine HF.out.mono ?_
  rintro e W5 ⟨rfl, hbw⟩
  have HB5 : Hid (Below w.heap.size w W5) := HB4.out.trans (hbw.mono HB4.out.size)
  have HA5 := Lib.hid (HA4.out.below hbw)
  have HBB5 := Lib.hid (HBB4.out.below hbw)
  have HX3 := Lib.hid (HX4.out.below hbw)
  have HY3 := Lib.hid (HY4.out.below hbw)
  have HRN5 := Lib.hid (HRN4.out.below hbw)
  have c1 := HRN5.out.cell 0 _ rfl
  have HC := Lib.hid (rf_find HA5.out n0 (by omega))
  clear hbw c0 HX4 HY4 HA4 HBB4 HRN4 HB4 HF HR2 HR4 SB1 SB3
  go_wp2_with fail
  go_at_call 9
  refine HC.out.mono ?_
  rintro e y ⟨rfl, hy⟩
  obtain rfl := hy.symm
  clear HC c1
  cases hf : tFind a n0 with
  | some i =>
    have e1 : tAt a n0 = (a[i]?.getD (0, 0)).2 := by unfold tAt; rw [hf]
    have e2 : tIx a n0 = i := by unfold tIx; rw [hf]
    have hi := tFind_lt hf
    obtain ⟨p, hp⟩ : ∃ p, a[i]? = some p := ⟨_, List.getElem?_eq_getElem hi⟩
    obtain ⟨b1, o1, rfl, -, -, c1⟩ := HA5.out.at hp
    obtain ⟨x0, y0⟩ := p
    rw [hp] at e1
    simp only [Option.getD_some] at e1 c1
    rw [e1, e2]
    simp only [Option.isSome_some]
    have q1 : decide ((i : Int) ≥ 0) = true := by simp
    have gi : (i : Int) < (a.length : Int) := by omega
    clear hf e1 e2 hp hi
    skip
    have HM := Lib.hid (tb_merge HX3.out HY3.out (by omega) (by omega))
    go_wp2_with fail
    go_at_call 10
    refine HM.out.mono ?_
    rintro e W6 ⟨vm, vf, rfl, hm, hf, hbw⟩
    obtain ⟨am, cm, rfl⟩ := hm.form
    obtain ⟨af, cf, rfl⟩ := hf.form
    have HB6 : Hid (Below w.heap.size w W6) := HB5.out.trans (hbw.mono HB5.out.size)
    have HA6 := Lib.hid (HA5.out.below hbw)
    have HBB6 := Lib.hid (HBB5.out.below hbw)
    have HX6 := Lib.hid (HX3.out.below hbw)
    have HY6 := Lib.hid (HY3.out.below hbw)
    have HRN6 := Lib.hid (HRN5.out.below hbw)
    have HM6 := Lib.hid hm.prt
    have HF6 := Lib.hid hf.sl
    have HQ := Lib.hid (rf_merge HA6.out HBB6.out (by omega) (by omega))
    clear hm hf hbw HM HX3 HY3 HRN5 HA5 HBB5 HB5
    go_wp2_with fail
    go_at_call 11
    refine HQ.out.mono ?_
    rintro e W7 ⟨vk, vg, rfl, hk, hg, hbw⟩
    obtain ⟨ak, ck, rfl⟩ := hk.form
    obtain ⟨ag, cg, rfl⟩ := hg.form
    obtain ⟨m, hmm⟩ : ∃ m, tKeep a a b = m := ⟨_, rfl⟩
    obtain ⟨zs, hzs⟩ : ∃ zs, tFree a b = zs := ⟨_, rfl⟩
    have hml : m.length ≤ 1000 := by have := tKeep_len a b a; rw [hmm] at this; omega
    have hzl : zs.length ≤ 1000 := by have := tFree_len a b; rw [hzs] at this; omega
    rw [hmm] at hk HM6 ⊢
    rw [hzs] at hg HF6 ⊢
    obtain ⟨W8, hW8⟩ : ∃ W, W7.alloc (.cells #[.slice ak m.length ck, .slice ag zs.length cg] 34) = W := ⟨_, rfl⟩
    have ST : (storeVar 34 ⟨W7.heap.size, 0, none⟩ (.agg #[.slice ak m.length ck, .slice ag zs.length cg])).run Try.prog (W7.alloc (.cells #[.slice none 0 0, .slice none 0 0] 34)) = .ok () W8 := by
      rw [← hW8]
      exact run_storeVar_new W7 _ _ (boL (.slice ak m.length ck) (.slice ag zs.length cg)).toArray size_both rfl (by kernel_rfl)
    have b8 : Below W7.heap.size W7 W8 := by rw [← hW8]; exact below_new W7 _
    have r8 : RowC W8 W7.heap.size 34 (boL (.slice ak m.length ck) (.slice ag zs.length cg)) := by rw [← hW8]; exact RowC.new W7 _ _
    obtain ⟨W9, hW9⟩ : ∃ W, W8.drew = W := ⟨_, rfl⟩
    have b9 : Below W8.heap.size W8 W9 := by rw [← hW9]; exact (Below.refl _ W8).drew
    obtain ⟨B14, hB14⟩ : ∃ B, W7.heap.size = B := ⟨_, rfl⟩
    rw [hB14] at ST
    have HT : Hid (TT W9 w.heap.size B14 n0 n1 (.slice (some ⟨b1, o1, none⟩) a.length ca) (.slice pb b.length cb) (.slice ax a.length cx) (.slice ay b.length cy) (.slice am m.length cm) (.slice af zs.length cf) (.slice ak m.length ck) (.slice ag zs.length cg) a b m zs) := by
      have h := (fun {T : Prop} (h : T) => h) hbw
      have hh : Below W6.heap.size W6 W9 := h.trans ((b8.trans (b9.mono b8.size)).mono h.size)
      have h2 : Below W7.heap.size W7 W9 := b8.trans (b9.mono b8.size)
      exact ⟨HA6.out.below hh, HBB6.out.below hh, HX6.out.below hh, HY6.out.below hh, HM6.out.below hh, hk.prt.below h2, HF6.out.below hh, hg.sl.below h2, HRN6.out.below hh, by rw [← hB14]; exact r8.below b9⟩
    have HB9 : Hid (Below w.heap.size w W9) := HB6.out.trans ((hbw.trans ((b8.trans (b9.mono b8.size)).mono hbw.size)).mono HB6.out.size)
    have K9 : Hid (Below W9.heap.size W9 W9) := Below.refl _ _
    have T9 := HT
    have E0 : ∀ y : Ext W9, y.1.cell? ⟨w.heap.size, 0, none⟩ = some (.int .i64 n0) := fun y => (y.2.cell (p := ⟨w.heap.size, 0, none⟩) HT.out.rn.lt).trans (HT.out.rn.cell 0 _ rfl)
    have E1 : ∀ y : Ext W9, y.1.cell? ⟨w.heap.size, 1, none⟩ = some (.int .i64 n1) := fun y => (y.2.cell (p := ⟨w.heap.size, 1, none⟩) HT.out.rn.lt).trans (HT.out.rn.cell 1 _ rfl)
    have E2 : ∀ y : Ext W9, y.1.cell? ⟨B14, 0, none⟩ = some (.slice ak m.length ck) := fun y => (y.2.cell (p := ⟨B14, 0, none⟩) HT.out.r4.lt).trans (HT.out.r4.cell 0 _ rfl)
    have E3 : ∀ y : Ext W9, y.1.cell? ⟨B14, 1, none⟩ = some (.slice ag zs.length cg) := fun y => (y.2.cell (p := ⟨B14, 1, none⟩) HT.out.r4.lt).trans (HT.out.r4.cell 1 _ rfl)
    obtain ⟨g, hg0⟩ : ∃ g, tGood a n0 n1 = g := ⟨_, rfl⟩
    have HG0 := Lib.hid hg0
    have hpl := tPut_le a n0 n1
    clear hk hg hbw HQ HA6 HBB6 HX6 HY6 HRN6 HM6 HF6 HB6 hW8 b8 r8 b9 hmm hzs HT hg0
    go_wp2_with fail
    clear ST
    refine region_plan (fun x => ∃ y : Ext W9, x = y.1) 53 (.takes [0, 1, 2, 3, 4, 6, 7, 8, 9, 10] (.one 5 (.one 11 (.takes [12, 13, 14, 15, 16, 17, 18, 20, 21, 22, 23, 24] (.one 19 (.one 25 (.one 26 (.takes [27, 28, 29, 30, 31] (.one 32 (.takes [33, 34, 35, 36, 37] (.one 38 (.takes [39, 40, 41, 42] (.one 43 (.takes [44, 45, 46, 47] (.one 48 (.takes [49, 50] (.one 51 (.takes [52] .leaf)))))))))))))))))) hmx (by kernel_rfl) (by intro c x v a w h; cases x <;> exact h) ⟨⟨W9, K9.out⟩, hW9⟩ ?_
    rw [hW9]
    clear hW9 hB14
    repeat (rw [wpPlan_takes_cons]; simp only [nth_zero, nth_succ]; go_big_quiet_step (fail); try (with_reducible refine wpQuiet_nil ?_))
    rw [wpPlan_takes_nil]
    rw [wpPlan_one]
    simp only [nth_zero, nth_succ]
    go_wp2_with fail
    go_at_call 12
    refine (tb_good T9.out.hx n0 n1 (by omega)).mono ?_
    rintro e X1 ⟨rfl, hbw⟩
    rw [HG0.out]
    have KX1 : Hid (Below W9.heap.size W9 X1) := K9.out.trans (hbw.mono K9.out.size)
    have TX1 := Lib.hid (T9.out.below hbw)
    clear hbw
    go_wp2_with fail
    refine planPost_mk ⟨⟨X1, KX1.out⟩, rfl⟩ ?_
    rw [wpPlan_one]
    simp only [nth_zero, nth_succ]
    go_wp2_with fail
    go_at_call 13
    refine (rf_good TX1.out.ha n0 n1 (by omega)).mono ?_
    rintro e X2 ⟨rfl, hbw⟩
    rw [HG0.out]
    have KX2 : Hid (Below W9.heap.size W9 X2) := KX1.out.trans (hbw.mono KX1.out.size)
    have TX2 := Lib.hid (TX1.out.below hbw)
    clear hbw
    go_wp2_with fail
    refine planPost_mk ⟨⟨X2, KX2.out⟩, rfl⟩ ?_
    repeat (rw [wpPlan_takes_cons]; simp only [nth_zero, nth_succ]; go_big_quiet_step (fail); try (with_reducible refine wpQuiet_nil ?_))
    rw [wpPlan_takes_nil]
    rw [wpPlan_one]
    simp only [nth_zero, nth_succ]
    go_wp2_with fail
    go_at_call 15
    refine (tb_put TX2.out.hx n0 n1 hn0 hn1 (by omega)).mono ?_
    rintro e X3 ⟨u1, rfl, hO, hbw⟩
    have KX3 : Hid (Below W9.heap.size W9 X3) := KX2.out.trans (hbw.mono KX2.out.size)
    have TX3 := Lib.hid (TX2.out.below hbw)
    have U3 := Lib.hid hO.prt
    clear hO
    clear hbw
    go_wp2_with fail
    refine planPost_mk ⟨⟨X3, KX3.out⟩, rfl⟩ ?_
    rw [wpPlan_one]
    simp only [nth_zero, nth_succ]
    go_wp2_with fail
    go_at_call 16
    refine (rf_put TX3.out.ha n0 n1 hn0 hn1 (by omega)).mono ?_
    rintro e X4 ⟨u2, rfl, hO, hbw⟩
    have KX4 : Hid (Below W9.heap.size W9 X4) := KX3.out.trans (hbw.mono KX3.out.size)
    have TX4 := Lib.hid (TX3.out.below hbw)
    have U4 := Lib.hid (U3.out.below hbw)
    have V4 := Lib.hid hO.prt
    clear hO
    clear hbw
    go_wp2_with fail
    refine planPost_mk ⟨⟨X4, KX4.out⟩, rfl⟩ ?_
    rw [wpPlan_one]
    simp only [nth_zero, nth_succ]
    go_wp2_with fail
    go_at_call 14
    refine (pairs_same U4.out V4.out (by omega)).mono ?_
    rintro e X5 ⟨rfl, hbw⟩
    have KX5 : Hid (Below W9.heap.size W9 X5) := KX4.out.trans (hbw.mono KX4.out.size)
    have TX5 := Lib.hid (TX4.out.below hbw)
    clear hbw
    go_wp2_with fail
    refine planPost_mk ⟨⟨X5, KX5.out⟩, rfl⟩ ?_
    repeat (rw [wpPlan_takes_cons]; simp only [nth_zero, nth_succ]; go_big_quiet_step (fail); try (with_reducible refine wpQuiet_nil ?_))
    rw [wpPlan_takes_nil]
    rw [wpPlan_one]
    simp only [nth_zero, nth_succ]
    go_wp2_with fail
    go_at_call 14
    refine (pairs_same TX5.out.hm TX5.out.hk (by omega)).mono ?_
    rintro e X6 ⟨rfl, hbw⟩
    have KX6 : Hid (Below W9.heap.size W9 X6) := KX5.out.trans (hbw.mono KX5.out.size)
    have TX6 := Lib.hid (TX5.out.below hbw)
    clear hbw
    go_wp2_with fail
    refine planPost_mk ⟨⟨X6, KX6.out⟩, rfl⟩ ?_
    repeat (rw [wpPlan_takes_cons]; simp only [nth_zero, nth_succ]; go_big_quiet_step (fail); try (with_reducible refine wpQuiet_nil ?_))
    rw [wpPlan_takes_nil]
    rw [wpPlan_one]
    simp only [nth_zero, nth_succ]
    go_wp2_with fail
    go_at_call 17
    refine (ints_same _ _ _ _ TX6.out.hf TX6.out.hg).mono ?_
    rintro e X7 ⟨rfl, hbw⟩
    have KX7 : Hid (Below W9.heap.size W9 X7) := KX6.out.trans (hbw.mono KX6.out.size)
    have TX7 := Lib.hid (TX6.out.below hbw)
    clear hbw
    go_wp2_with fail
    refine planPost_mk ⟨⟨X7, KX7.out⟩, rfl⟩ ?_
    repeat (rw [wpPlan_takes_cons]; simp only [nth_zero, nth_succ]; go_big_quiet_step (fail); try (with_reducible refine wpQuiet_nil ?_))
    rw [wpPlan_takes_nil]
    rw [wpPlan_one]
    simp only [nth_zero, nth_succ]
    go_wp2_with fail
    go_at_call 14
    refine (pairs_same TX7.out.hx TX7.out.ha (by omega)).mono ?_
    rintro e X8 ⟨rfl, hbw⟩
    have KX8 : Hid (Below W9.heap.size W9 X8) := KX7.out.trans (hbw.mono KX7.out.size)
    have TX8 := Lib.hid (TX7.out.below hbw)
    clear hbw
    go_wp2_with fail
    refine planPost_mk ⟨⟨X8, KX8.out⟩, rfl⟩ ?_
    repeat (rw [wpPlan_takes_cons]; simp only [nth_zero, nth_succ]; go_big_quiet_step (fail); try (with_reducible refine wpQuiet_nil ?_))
    rw [wpPlan_takes_nil]
    rw [wpPlan_one]
    simp only [nth_zero, nth_succ]
    go_wp2_with fail
    go_at_call 14
    refine (pairs_same TX8.out.hy TX8.out.hb (by omega)).mono ?_
    rintro e X9 ⟨rfl, hbw⟩
    have KX9 : Hid (Below W9.heap.size W9 X9) := KX8.out.trans (hbw.mono KX8.out.size)
    have TX9 := Lib.hid (TX8.out.below hbw)
    clear hbw
    go_wp2_with fail
    refine planPost_mk ⟨⟨X9, KX9.out⟩, rfl⟩ ?_
    repeat (rw [wpPlan_takes_cons]; simp only [nth_zero, nth_succ]; go_big_quiet_step (fail); try (with_reducible refine wpQuiet_nil ?_))
    rw [wpPlan_takes_nil]
    rw [wpPlan_one]
    simp only [nth_zero, nth_succ]
    go_wp2_with fail
    go_at_call 7
    refine (tb_wakes _).mono ?_
    rintro e X10 ⟨rfl, hbw⟩
    have KX10 : Hid (Below W9.heap.size W9 X10) := KX9.out.trans (hbw.mono KX9.out.size)
    have TX10 := Lib.hid (TX9.out.below hbw)
    clear hbw
    go_wp2_with fail
    refine planPost_mk ⟨⟨X10, KX10.out⟩, rfl⟩ ?_
    repeat (rw [wpPlan_takes_cons]; simp only [nth_zero, nth_succ]; go_big_quiet_step (fail); try (with_reducible refine wpQuiet_nil ?_))
    rw [wpPlan_takes_nil]
    rw [wpPlan_leaf]
    simp only [List.drop_succ_cons, List.drop_zero]
    go_wp2_with fail
    go_ret
    exact ⟨rfl, HB9.out.trans (KX10.out.mono HB9.out.size)⟩
  | none =>
    have e1 : tAt a n0 = 0 := by unfold tAt; rw [hf]
    have e2 : tIx a n0 = -1 := by unfold tIx; rw [hf]
    rw [e1, e2]
    simp only [Option.isSome_none]
    clear hf e1 e2
    skip
    have HM := Lib.hid (tb_merge HX3.out HY3.out (by omega) (by omega))
    go_wp2_with fail
    go_at_call 10
    refine HM.out.mono ?_
    rintro e W6 ⟨vm, vf, rfl, hm, hf, hbw⟩
    obtain ⟨am, cm, rfl⟩ := hm.form
    obtain ⟨af, cf, rfl⟩ := hf.form
    have HB6 : Hid (Below w.heap.size w W6) := HB5.out.trans (hbw.mono HB5.out.size)
    have HA6 := Lib.hid (HA5.out.below hbw)
    have HBB6 := Lib.hid (HBB5.out.below hbw)
    have HX6 := Lib.hid (HX3.out.below hbw)
    have HY6 := Lib.hid (HY3.out.below hbw)
    have HRN6 := Lib.hid (HRN5.out.below hbw)
    have HM6 := Lib.hid hm.prt
    have HF6 := Lib.hid hf.sl
    have HQ := Lib.hid (rf_merge HA6.out HBB6.out (by omega) (by omega))
    clear hm hf hbw HM HX3 HY3 HRN5 HA5 HBB5 HB5
    go_wp2_with fail
    go_at_call 11
    refine HQ.out.mono ?_
    rintro e W7 ⟨vk, vg, rfl, hk, hg, hbw⟩
    obtain ⟨ak, ck, rfl⟩ := hk.form
    obtain ⟨ag, cg, rfl⟩ := hg.form
    obtain ⟨m, hmm⟩ : ∃ m, tKeep a a b = m := ⟨_, rfl⟩
    obtain ⟨zs, hzs⟩ : ∃ zs, tFree a b = zs := ⟨_, rfl⟩
    have hml : m.length ≤ 1000 := by have := tKeep_len a b a; rw [hmm] at this; omega
    have hzl : zs.length ≤ 1000 := by have := tFree_len a b; rw [hzs] at this; omega
    rw [hmm] at hk HM6 ⊢
    rw [hzs] at hg HF6 ⊢
    obtain ⟨W8, hW8⟩ : ∃ W, W7.alloc (.cells #[.slice ak m.length ck, .slice ag zs.length cg] 34) = W := ⟨_, rfl⟩
    have ST : (storeVar 34 ⟨W7.heap.size, 0, none⟩ (.agg #[.slice ak m.length ck, .slice ag zs.length cg])).run Try.prog (W7.alloc (.cells #[.slice none 0 0, .slice none 0 0] 34)) = .ok () W8 := by
      rw [← hW8]
      exact run_storeVar_new W7 _ _ (boL (.slice ak m.length ck) (.slice ag zs.length cg)).toArray size_both rfl (by kernel_rfl)
    have b8 : Below W7.heap.size W7 W8 := by rw [← hW8]; exact below_new W7 _
    have r8 : RowC W8 W7.heap.size 34 (boL (.slice ak m.length ck) (.slice ag zs.length cg)) := by rw [← hW8]; exact RowC.new W7 _ _
    obtain ⟨W9, hW9⟩ : ∃ W, W8.drew = W := ⟨_, rfl⟩
    have b9 : Below W8.heap.size W8 W9 := by rw [← hW9]; exact (Below.refl _ W8).drew
    obtain ⟨B14, hB14⟩ : ∃ B, W7.heap.size = B := ⟨_, rfl⟩
    rw [hB14] at ST
    have HT : Hid (TT W9 w.heap.size B14 n0 n1 (.slice pa a.length ca) (.slice pb b.length cb) (.slice ax a.length cx) (.slice ay b.length cy) (.slice am m.length cm) (.slice af zs.length cf) (.slice ak m.length ck) (.slice ag zs.length cg) a b m zs) := by
      have h := (fun {T : Prop} (h : T) => h) hbw
      have hh : Below W6.heap.size W6 W9 := h.trans ((b8.trans (b9.mono b8.size)).mono h.size)
      have h2 : Below W7.heap.size W7 W9 := b8.trans (b9.mono b8.size)
      exact ⟨HA6.out.below hh, HBB6.out.below hh, HX6.out.below hh, HY6.out.below hh, HM6.out.below hh, hk.prt.below h2, HF6.out.below hh, hg.sl.below h2, HRN6.out.below hh, by rw [← hB14]; exact r8.below b9⟩
    have HB9 : Hid (Below w.heap.size w W9) := HB6.out.trans ((hbw.trans ((b8.trans (b9.mono b8.size)).mono hbw.size)).mono HB6.out.size)
    have K9 : Hid (Below W9.heap.size W9 W9) := Below.refl _ _
    have T9 := HT
    have E0 : ∀ y : Ext W9, y.1.cell? ⟨w.heap.size, 0, none⟩ = some (.int .i64 n0) := fun y => (y.2.cell (p := ⟨w.heap.size, 0, none⟩) HT.out.rn.lt).trans (HT.out.rn.cell 0 _ rfl)
    have E1 : ∀ y : Ext W9, y.1.cell? ⟨w.heap.size, 1, none⟩ = some (.int .i64 n1) := fun y => (y.2.cell (p := ⟨w.heap.size, 1, none⟩) HT.out.rn.lt).trans (HT.out.rn.cell 1 _ rfl)
    have E2 : ∀ y : Ext W9, y.1.cell? ⟨B14, 0, none⟩ = some (.slice ak m.length ck) := fun y => (y.2.cell (p := ⟨B14, 0, none⟩) HT.out.r4.lt).trans (HT.out.r4.cell 0 _ rfl)
    have E3 : ∀ y : Ext W9, y.1.cell? ⟨B14, 1, none⟩ = some (.slice ag zs.length cg) := fun y => (y.2.cell (p := ⟨B14, 1, none⟩) HT.out.r4.lt).trans (HT.out.r4.cell 1 _ rfl)
    obtain ⟨g, hg0⟩ : ∃ g, tGood a n0 n1 = g := ⟨_, rfl⟩
    have HG0 := Lib.hid hg0
    have hpl := tPut_le a n0 n1
    clear hk hg hbw HQ HA6 HBB6 HX6 HY6 HRN6 HM6 HF6 HB6 hW8 b8 r8 b9 hmm hzs HT hg0
    go_wp2_with fail
    clear ST
    refine region_plan (fun x => ∃ y : Ext W9, x = y.1) 53 (.takes [0, 1, 2, 3, 4, 6, 7, 8, 9, 10] (.one 5 (.one 11 (.takes [12, 13, 14, 15, 16, 17, 18, 20, 21, 22, 23, 24] (.one 19 (.one 25 (.one 26 (.takes [27, 28, 29, 30, 31] (.one 32 (.takes [33, 34, 35, 36, 37] (.one 38 (.takes [39, 40, 41, 42] (.one 43 (.takes [44, 45, 46, 47] (.one 48 (.takes [49, 50] (.one 51 (.takes [52] .leaf)))))))))))))))))) hmx (by kernel_rfl) (by intro c x v a w h; cases x <;> exact h) ⟨⟨W9, K9.out⟩, hW9⟩ ?_
    rw [hW9]
    clear hW9 hB14
    repeat (rw [wpPlan_takes_cons]; simp only [nth_zero, nth_succ]; go_big_quiet_step (fail); try (with_reducible refine wpQuiet_nil ?_))
    rw [wpPlan_takes_nil]
    rw [wpPlan_one]
    simp only [nth_zero, nth_succ]
    go_wp2_with fail
    go_at_call 12
    refine (tb_good T9.out.hx n0 n1 (by omega)).mono ?_
    rintro e X1 ⟨rfl, hbw⟩
    rw [HG0.out]
    have KX1 : Hid (Below W9.heap.size W9 X1) := K9.out.trans (hbw.mono K9.out.size)
    have TX1 := Lib.hid (T9.out.below hbw)
    clear hbw
    go_wp2_with fail
    refine planPost_mk ⟨⟨X1, KX1.out⟩, rfl⟩ ?_
    rw [wpPlan_one]
    simp only [nth_zero, nth_succ]
    go_wp2_with fail
    go_at_call 13
    refine (rf_good TX1.out.ha n0 n1 (by omega)).mono ?_
    rintro e X2 ⟨rfl, hbw⟩
    rw [HG0.out]
    have KX2 : Hid (Below W9.heap.size W9 X2) := KX1.out.trans (hbw.mono KX1.out.size)
    have TX2 := Lib.hid (TX1.out.below hbw)
    clear hbw
    go_wp2_with fail
    refine planPost_mk ⟨⟨X2, KX2.out⟩, rfl⟩ ?_
    repeat (rw [wpPlan_takes_cons]; simp only [nth_zero, nth_succ]; go_big_quiet_step (fail); try (with_reducible refine wpQuiet_nil ?_))
    rw [wpPlan_takes_nil]
    rw [wpPlan_one]
    simp only [nth_zero, nth_succ]
    go_wp2_with fail
    go_at_call 15
    refine (tb_put TX2.out.hx n0 n1 hn0 hn1 (by omega)).mono ?_
    rintro e X3 ⟨u1, rfl, hO, hbw⟩
    have KX3 : Hid (Below W9.heap.size W9 X3) := KX2.out.trans (hbw.mono KX2.out.size)
    have TX3 := Lib.hid (TX2.out.below hbw)
    have U3 := Lib.hid hO.prt
    clear hO
    clear hbw
    go_wp2_with fail
    refine planPost_mk ⟨⟨X3, KX3.out⟩, rfl⟩ ?_
    rw [wpPlan_one]
    simp only [nth_zero, nth_succ]
    go_wp2_with fail
    go_at_call 16
    refine (rf_put TX3.out.ha n0 n1 hn0 hn1 (by omega)).mono ?_
    rintro e X4 ⟨u2, rfl, hO, hbw⟩
    have KX4 : Hid (Below W9.heap.size W9 X4) := KX3.out.trans (hbw.mono KX3.out.size)
    have TX4 := Lib.hid (TX3.out.below hbw)
    have U4 := Lib.hid (U3.out.below hbw)
    have V4 := Lib.hid hO.prt
    clear hO
    clear hbw
    go_wp2_with fail
    refine planPost_mk ⟨⟨X4, KX4.out⟩, rfl⟩ ?_
    rw [wpPlan_one]
    simp only [nth_zero, nth_succ]
    go_wp2_with fail
    go_at_call 14
    refine (pairs_same U4.out V4.out (by omega)).mono ?_
    rintro e X5 ⟨rfl, hbw⟩
    have KX5 : Hid (Below W9.heap.size W9 X5) := KX4.out.trans (hbw.mono KX4.out.size)
    have TX5 := Lib.hid (TX4.out.below hbw)
    clear hbw
    go_wp2_with fail
    refine planPost_mk ⟨⟨X5, KX5.out⟩, rfl⟩ ?_
    repeat (rw [wpPlan_takes_cons]; simp only [nth_zero, nth_succ]; go_big_quiet_step (fail); try (with_reducible refine wpQuiet_nil ?_))
    rw [wpPlan_takes_nil]
    rw [wpPlan_one]
    simp only [nth_zero, nth_succ]
    go_wp2_with fail
    go_at_call 14
    refine (pairs_same TX5.out.hm TX5.out.hk (by omega)).mono ?_
    rintro e X6 ⟨rfl, hbw⟩
    have KX6 : Hid (Below W9.heap.size W9 X6) := KX5.out.trans (hbw.mono KX5.out.size)
    have TX6 := Lib.hid (TX5.out.below hbw)
    clear hbw
    go_wp2_with fail
    refine planPost_mk ⟨⟨X6, KX6.out⟩, rfl⟩ ?_
    repeat (rw [wpPlan_takes_cons]; simp only [nth_zero, nth_succ]; go_big_quiet_step (fail); try (with_reducible refine wpQuiet_nil ?_))
    rw [wpPlan_takes_nil]
    rw [wpPlan_one]
    simp only [nth_zero, nth_succ]
    go_wp2_with fail
    go_at_call 17
    refine (ints_same _ _ _ _ TX6.out.hf TX6.out.hg).mono ?_
    rintro e X7 ⟨rfl, hbw⟩
    have KX7 : Hid (Below W9.heap.size W9 X7) := KX6.out.trans (hbw.mono KX6.out.size)
    have TX7 := Lib.hid (TX6.out.below hbw)
    clear hbw
    go_wp2_with fail
    refine planPost_mk ⟨⟨X7, KX7.out⟩, rfl⟩ ?_
    repeat (rw [wpPlan_takes_cons]; simp only [nth_zero, nth_succ]; go_big_quiet_step (fail); try (with_reducible refine wpQuiet_nil ?_))
    rw [wpPlan_takes_nil]
    rw [wpPlan_one]
    simp only [nth_zero, nth_succ]
    go_wp2_with fail
    go_at_call 14
    refine (pairs_same TX7.out.hx TX7.out.ha (by omega)).mono ?_
    rintro e X8 ⟨rfl, hbw⟩
    have KX8 : Hid (Below W9.heap.size W9 X8) := KX7.out.trans (hbw.mono KX7.out.size)
    have TX8 := Lib.hid (TX7.out.below hbw)
    clear hbw
    go_wp2_with fail
    refine planPost_mk ⟨⟨X8, KX8.out⟩, rfl⟩ ?_
    repeat (rw [wpPlan_takes_cons]; simp only [nth_zero, nth_succ]; go_big_quiet_step (fail); try (with_reducible refine wpQuiet_nil ?_))
    rw [wpPlan_takes_nil]
    rw [wpPlan_one]
    simp only [nth_zero, nth_succ]
    go_wp2_with fail
    go_at_call 14
    refine (pairs_same TX8.out.hy TX8.out.hb (by omega)).mono ?_
    rintro e X9 ⟨rfl, hbw⟩
    have KX9 : Hid (Below W9.heap.size W9 X9) := KX8.out.trans (hbw.mono KX8.out.size)
    have TX9 := Lib.hid (TX8.out.below hbw)
    clear hbw
    go_wp2_with fail
    refine planPost_mk ⟨⟨X9, KX9.out⟩, rfl⟩ ?_
    repeat (rw [wpPlan_takes_cons]; simp only [nth_zero, nth_succ]; go_big_quiet_step (fail); try (with_reducible refine wpQuiet_nil ?_))
    rw [wpPlan_takes_nil]
    rw [wpPlan_one]
    simp only [nth_zero, nth_succ]
    go_wp2_with fail
    go_at_call 7
    refine (tb_wakes _).mono ?_
    rintro e X10 ⟨rfl, hbw⟩
    have KX10 : Hid (Below W9.heap.size W9 X10) := KX9.out.trans (hbw.mono KX9.out.size)
    have TX10 := Lib.hid (TX9.out.below hbw)
    clear hbw
    go_wp2_with fail
    refine planPost_mk ⟨⟨X10, KX10.out⟩, rfl⟩ ?_
    repeat (rw [wpPlan_takes_cons]; simp only [nth_zero, nth_succ]; go_big_quiet_step (fail); try (with_reducible refine wpQuiet_nil ?_))
    rw [wpPlan_takes_nil]
    rw [wpPlan_leaf]
    simp only [List.drop_succ_cons, List.drop_zero]
    go_wp2_with fail
    go_ret
    exact ⟨rfl, HB9.out.trans (KX10.out.mono HB9.out.size)⟩

set_option maxRecDepth 100000 in
theorem lifted (os : Os) (started : os.Started) (H : Type) (enc : TypeId × Value → H) :
    ReturnsInHanded {} Try.checked os 3 .any (Rows.tableTellsSpec.pre6 enc Try.prog Try.f3 Rows.tableTellsRow.domain false) (Rows.tableTellsSpec.post enc Try.prog Try.f3 false true false false) := by
  refine returnsInHanded_of_change (C := Try.checked) own started (by kernel_rfl) Try.func3
    (ChangeSpec.witness6 (enc := enc) (C := Try.checked) false ⟨#[], #[.slice none 0 0, .slice none 0 0, .agg #[.int .i64 0, .int .i64 0]], []⟩ 8 (by kernel_rfl) (by kernel_rfl) (by kernel_rfl) (by kernel_rfl)) ?_
  intro W base args ds gs before hval0 hW hcnd _
  have hval : ∀ (j : Nat) t v, Try.f3.params[j]? = some t → args[j]? = some v → Value.okWide Try.prog W .any base t v := hval0
  have hW' := hW
  obtain ⟨p, q, hA0, hV, rfl, hfz, hnd⟩ := hW
  have hA : DataW.TrodAll enc Try.prog W 0 (fun _ => true) true Try.f3.params.toList args.toList ds p := hA0
  rw [Try.params3] at hA hval
  obtain ⟨v0, vs0, d0, ds0, p0, q0, hargs, rfl, rfl, h0, r0⟩ := trodAll_cons hA
  obtain ⟨v1, vs1, d1, ds1, p1, q1, rfl, rfl, rfl, h1, r1⟩ := trodAll_cons r0
  obtain ⟨v2, vs2, d2, ds2, p2, q2, rfl, rfl, rfl, h2, r2⟩ := trodAll_cons r1
  obtain ⟨rfl, rfl, rfl⟩ := trodAll_nil r2
  obtain rfl : args = #[v0, v1, v2] := by cases args; simp_all
  obtain ⟨rfl, rfl⟩ := trodVars_none hV
  have lt0 : ∀ x ∈ p0, x.block < W.heap.size := by obtain ⟨m, hm⟩ := h0; exact DataW.trod_lt m _ _ _ hm
  have a0 := Arg.mk (hval 0 22 v0 rfl rfl) h0
  have lt1 : ∀ x ∈ p1, x.block < W.heap.size := by obtain ⟨m, hm⟩ := h1; exact DataW.trod_lt m _ _ _ hm
  have a1 := Arg.mk (hval 1 22 v1 rfl rfl) h1
  have lt2 : ∀ x ∈ p2, x.block < W.heap.size := by obtain ⟨m, hm⟩ := h2; exact DataW.trod_lt m _ _ _ hm
  have a2 := Arg.mk (hval 2 23 v2 rfl rfl) h2
  clear hA0 hval0
  refine (walk v0 v1 v2 W a0 a1 a2).mono fun e W' ⟨he, bel⟩ => ?_
  subst he
  exact ⟨_, rfl, _, _, _, [], _, [], hW', trodAll_mk1 (shut_bool Try.underlying4 _), (trodAll_cons_mk (Below.trod laidOut (by kernel_rfl) (of_decide_eq_true (by kernel_rfl)) h0 bel lt0) (trodAll_cons_mk (Below.trod laidOut (by kernel_rfl) (of_decide_eq_true (by kernel_rfl)) h1 bel lt1) (trodAll_cons_mk (Below.trod laidOut (by kernel_rfl) (of_decide_eq_true (by kernel_rfl)) h2 bel lt2) trodAll_mk0))), rfl, bel.frame _, fun h => by cases h⟩

set_option maxRecDepth 100000 in
theorem over : Rows.tableTellsRow.holds Try.pinned (OpenSpec.ofChange Rows.tableTellsSpec) :=
  OpenClaim.holds_of_wide 3 Try.f3 rfl rfl rfl rfl rfl rfl rfl ⟨rfl, rfl, rfl, rfl, rfl⟩ rfl rfl rfl rfl rfl (by kernel_rfl) Try.func3 (by kernel_rfl)
    (of_decide_eq_true (by kernel_rfl)) (by unfold Func.isWrapper; first | (rw [if_pos (by decide +kernel)]; kernel_rfl) | (rw [if_neg (by decide +kernel)]; exact ⟨rfl, rfl⟩))
    (fun os started H enc _ => lifted os started H enc)

theorem proved : Rows.TableTellsSaid := over
#print axioms proved
end Go.Proofs.Ytlnkfphkgjcdiaa.tableTells
