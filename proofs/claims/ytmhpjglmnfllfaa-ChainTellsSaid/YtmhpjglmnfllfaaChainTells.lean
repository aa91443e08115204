/- What a chain tells: may it be, who holds, what changed (P11.1). -/
import Derived.Test.YtmhpjglmnfllfaaChWa
import Derived.Test.YtmhpjglmnfllfaaChGd
import Derived.Test.YtmhpjglmnfllfaaChTp
import Derived.Test.YtmhpjglmnfllfaaArgSl
namespace Go.Proofs.Ytmhpjglmnfllfaa.chainTells
open Go.ChangeShapes Go.WideShapes Go.ChangeAt Go.RowKit
set_option linter.unusedVariables false
set_option linter.unusedSimpArgs false
attribute [-simp] Try.isAgg49 Try.zeroValue49 Try.isAgg52 Try.zeroValue52
attribute [-go_sem] loadVar storeVar
attribute [local go_sem] loadVar_openPS storeVar_openPS zero_sn zero_prs build_prs build_sn build_sn2

set_option maxRecDepth 100000 in
set_option maxHeartbeats 8000000 in
theorem walk (v0 v1 : Value) (w : World) (w0 : Arg w 22 v0) (w1 : Arg w 23 v1) :
    Calls Try.prog 3 #[v0, v1] w fun e w' => e = .returned (.bool true) ∧ Below w.heap.size w w' := by
  have hmx : Try.prog.follows .mixedOrders = true := by kernel_rfl
  obtain ⟨l, hl⟩ := w0.snp
  obtain ⟨n0, n1, n2, n3, rfl, wn0, wn1, wn2, wn3⟩ := w1.four Try.underlying23 Try.underlying3 (by kernel_rfl) (by kernel_rfl)
  obtain ⟨W0, hW0⟩ : ∃ W, w.alloc (.cells #[.int .i64 n0, .int .i64 n1, .int .i64 n2, .int .i64 n3] 23) = W := ⟨_, rfl⟩
  have b0 := below_new w (.cells #[.int .i64 n0, .int .i64 n1, .int .i64 n2, .int .i64 n3] 23)
  have r0 : RowC W0 w.heap.size 23 [.int .i64 n0, .int .i64 n1, .int .i64 n2, .int .i64 n3] := by rw [← hW0]; exact RowC.new w _ _
  rw [hW0] at b0
  obtain ⟨B, hB⟩ : ∃ B, w.heap.size = B := ⟨_, rfl⟩
  have HL := Lib.hid (hl.below b0)
  rw [hB] at b0 r0
  have HB0 := Lib.hid b0
  have HRN := Lib.hid r0
  have HI0 : Hid (Is64 n0) := i64_bd wn0
  have HN2 := Lib.hid wn2
  obtain ⟨r, la, lc, rfl, -⟩ := hl
  have HF := Lib.hid (ch_fair HL.out)
  have hBW : Hid (B ≤ W0.heap.size) := by have := HB0.out.size; rw [hB] at this; exact this
  have HSB := Lib.hid hB
  clear b0 r0 wn0 wn1 wn2 wn3 w0 w1
  cases hf : fairL l with
  | false =>
    rw [hf] at HF
    clear hf
    go_enter Try.func3, Try.ntmps3
    go_wp2_with fail
    try rw [hW0]
    go_at_call 9
    refine HF.out.mono ?_
    rintro e w' ⟨rfl, hw'⟩
    obtain rfl := hw'.symm
    clear hW0 HF
    go_wp2_with fail
    refine (ch_wakes _).mono ?_
    rintro e W1 ⟨rfl, hbw⟩
    have HBE : Hid (Below B w W1) := HB0.out.trans (hbw.mono hBW.out)
    clear hbw
    go_wp2_with fail
    go_ret
    rw [HSB.out]
    exact ⟨rfl, HBE.out⟩
  | true =>
    rw [hf] at HF
    obtain ⟨hlens, hl12, hfs⟩ := fair_lens hf
    have HLN := Lib.hid hlens
    have HCL : Hid ((cChg l n0 n1).length ≤ 40) := by
      show (chB _).length ≤ _
      exact chB_len _ fun s hs => (hfs s (List.mem_of_mem_take (List.mem_of_mem_drop hs))).1
    clear hf hfs hlens hl12
    go_enter Try.func3, Try.ntmps3
    go_wp2_with fail
    try rw [hW0]
    go_at_call 9
    refine HF.out.mono ?_
    rintro e w' ⟨rfl, hw'⟩
    obtain rfl := hw'.symm
    clear hW0 HF
    go_wp2_with fail
    go_at_call 11
    refine (keep_copy HL.out HLN.out).mono ?_
    rintro e W1 ⟨vi, rfl, ho, hb⟩
    have I1 := Lib.hid ho.snp
    have L1 := Lib.hid (HL.out.below hb)
    have R1 := Lib.hid (HRN.out.below hb)
    have B1 : Hid (Below B w W1) := HB0.out.trans (hb.mono hBW.out)
    have hBW1 : Hid (B ≤ W1.heap.size) := Nat.le_trans hBW.out hb.size
    obtain ⟨⟨ra, rn, rc⟩, rfl, -⟩ := ho.isSl
    have c0 := R1.out.cell 0 _ rfl
    have c1 := R1.out.cell 1 _ rfl
    obtain ⟨at', hat⟩ : ∃ x, hAt (cHold l n0 n1) = x := ⟨_, rfl⟩
    obtain ⟨ok, hok⟩ : ∃ x, (cHold l n0 n1).isSome = x := ⟨_, rfl⟩
    have HHO := Lib.hid (ch_holder I1.out HLN.out n0 n1)
    rw [hat, hok] at HHO
    simp only [slV] at I1 HHO ⊢
    clear ho hb HL HRN HB0 hBW
    go_wp2_with fail
    go_at_call 12
    refine HHO.out.mono ?_
    rintro e W2 ⟨rfl, hb⟩
    have I2 := Lib.hid (I1.out.below hb)
    have L2 := Lib.hid (L1.out.below hb)
    have R2 := Lib.hid (R1.out.below hb)
    have B2 : Hid (Below B w W2) := B1.out.trans (hb.mono hBW1.out)
    have hBW2 : Hid (B ≤ W2.heap.size) := Nat.le_trans hBW1.out hb.size
    have HHR := Lib.hid (rf_holder L2.out HLN.out n0 n1 HI0.out)
    rw [hat, hok] at HHR
    have c0 := R2.out.cell 0 _ rfl
    have c1 := R2.out.cell 1 _ rfl
    clear hb hat hok I1 L1 R1 B1 hBW1 HHO
    go_wp2_with fail
    go_at_call 13
    refine HHR.out.mono ?_
    rintro e W3 ⟨rfl, hb⟩
    have I3 := Lib.hid (I2.out.below hb)
    have L3 := Lib.hid (L2.out.below hb)
    have R3 := Lib.hid (R2.out.below hb)
    have B3 : Hid (Below B w W3) := B2.out.trans (hb.mono hBW2.out)
    have hBW3 : Hid (B ≤ W3.heap.size) := Nat.le_trans hBW2.out hb.size
    obtain ⟨Y, hY⟩ : ∃ Y, W3.alloc (.cells #[.int .i64 at', .bool ok] 30) = Y := ⟨_, rfl⟩
    have bY : Below W3.heap.size W3 Y := by rw [← hY]; exact below_new _ _
    have rY : RowC Y W3.heap.size 30 [.int .i64 at', .bool ok] := by rw [← hY]; exact RowC.new W3 _ _
    have I4 := Lib.hid (I3.out.below bY)
    have L4 := Lib.hid (L3.out.below bY)
    have R4 := R3.out.below bY
    have B4 : Hid (Below B w Y) := B3.out.trans (bY.mono hBW3.out)
    have hBW4 : Hid (B ≤ Y.heap.size) := Nat.le_trans hBW3.out bY.size
    obtain ⟨C, hC⟩ : ∃ C, W3.heap.size = C := ⟨_, rfl⟩
    rw [hC] at rY
    have c0 : ∀ z : Ext Y, z.1.cell? ⟨B, 0, none⟩ = some (.int .i64 n0) := fun z => (R4.below z.2).cell 0 _ rfl
    have c1 : ∀ z : Ext Y, z.1.cell? ⟨B, 1, none⟩ = some (.int .i64 n1) := fun z => (R4.below z.2).cell 1 _ rfl
    have c2 : ∀ z : Ext Y, z.1.cell? ⟨B, 2, none⟩ = some (.int .i64 n2) := fun z => (R4.below z.2).cell 2 _ rfl
    have c3 : ∀ z : Ext Y, z.1.cell? ⟨B, 3, none⟩ = some (.int .i64 n3) := fun z => (R4.below z.2).cell 3 _ rfl
    have d0 : ∀ z : Ext Y, z.1.cell? ⟨C, 0, none⟩ = some (.int .i64 at') := fun z => (rY.below z.2).cell 0 _ rfl
    have d1 : ∀ z : Ext Y, z.1.cell? ⟨C, 1, none⟩ = some (.bool ok) := fun z => (rY.below z.2).cell 1 _ rfl
    have HGD := Lib.hid (ch_good (w := Y.drew) (I4.out.below (Below.refl _ Y).drew) HLN.out n2 n3)
    clear hb I2 L2 R2 B2 hBW2 HHR I3 L3 R3 B3 hBW3 bY rY R4
    go_wp2_with fail
    try rw [hY]
    clear hY
    refine region_plan (fun x => ∃ y : Ext Y, x = y.1) 59 (.takes [0, 1, 2, 3, 4, 6, 7, 8, 9, 10] (.one 5 (.one 11 (.takes [12, 13, 14, 15, 16, 18, 19, 20] (.one 17 (.one 21 (.takes [22, 23, 24, 25, 26, 27, 28, 29, 30, 31, 32, 33, 34, 35, 36, 37, 38, 39, 40, 41, 43, 44, 45, 46, 47] (.one 42 (.one 48 (.one 49 (.takes [50, 51, 52, 53] (.one 54 (.takes [55, 56] (.one 57 (.takes [58] .leaf))))))))))))))) hmx (by kernel_rfl) (by intro c x v a w h; cases x <;> exact h) ⟨⟨Y.drew, (Below.refl _ Y).drew⟩, rfl⟩ ?_
    repeat (rw [wpPlan_takes_cons]; simp only [nth_zero, nth_succ]; go_big_quiet_step (fail); try (with_reducible refine wpQuiet_nil ?_))
    rw [wpPlan_takes_nil, wpPlan_one]
    simp only [nth_zero, nth_succ]
    go_wp2_with fail
    go_at_call 14
    refine HGD.out.mono ?_
    rintro e y1 ⟨rfl, hb⟩
    have E1 : Hid (Below Y.heap.size Y y1) := (Below.refl _ Y).drew.trans hb
    have HG2 := Lib.hid (rf11_good (L4.out.below E1.out) HLN.out n2 n3 HN2.out)
    clear hb HGD
    go_wp2_with fail
    refine planPost_mk ⟨⟨y1, E1.out⟩, rfl⟩ ?_
    rw [wpPlan_one]
    simp only [nth_zero, nth_succ]
    go_wp2_with fail
    go_at_call 15
    refine HG2.out.mono ?_
    rintro e y2 ⟨rfl, hb⟩
    have E2 : Hid (Below Y.heap.size Y y2) := E1.out.trans (hb.mono E1.out.size)
    have HIX := Lib.hid (ch_index (I4.out.below E2.out) n0)
    clear hb HG2 E1
    go_wp2_with fail
    refine planPost_mk ⟨⟨y2, E2.out⟩, rfl⟩ ?_
    repeat (rw [wpPlan_takes_cons]; simp only [nth_zero, nth_succ]; go_big_quiet_step (fail); try (with_reducible refine wpQuiet_nil ?_))
    rw [wpPlan_takes_nil, wpPlan_one]
    simp only [nth_zero, nth_succ]
    go_wp2_with fail
    go_at_call 16
    refine HIX.out.mono ?_
    rintro e y3 ⟨rfl, hb⟩
    have E3 : Hid (Below Y.heap.size Y y3) := E2.out.trans (hb.mono E2.out.size)
    have HIY := Lib.hid (rf_index (L4.out.below E3.out) n0)
    clear hb HIX E2
    go_wp2_with fail
    refine planPost_mk ⟨⟨y3, E3.out⟩, rfl⟩ ?_
    rw [wpPlan_one]
    simp only [nth_zero, nth_succ]
    go_wp2_with fail
    go_at_call 17
    refine HIY.out.mono ?_
    rintro e y4 ⟨rfl, hw4⟩
    have E4 : Hid (Below Y.heap.size Y y4) := by show Below _ _ _; rw [hw4]; exact E3.out
    have HCH := Lib.hid (ch_changed (I4.out.below E4.out) HLN.out n0 n1)
    clear hw4 HIY E3
    go_wp2_with fail
    refine planPost_mk ⟨⟨y4, E4.out⟩, rfl⟩ ?_
    repeat (rw [wpPlan_takes_cons]; simp only [nth_zero, nth_succ]; go_big_quiet_step (fail); try (with_reducible refine wpQuiet_nil ?_))
    rw [wpPlan_takes_nil, wpPlan_one]
    simp only [nth_zero, nth_succ]
    go_wp2_with fail
    go_at_call 19
    refine HCH.out.mono ?_
    rintro e y5 ⟨u5, rfl, ho5, hb⟩
    have E5 : Hid (Below Y.heap.size Y y5) := E4.out.trans (hb.mono E4.out.size)
    obtain ⟨⟨xa, xn, xc⟩, rfl, -⟩ := own_slV ho5
    have O5 := Lib.hid ho5
    have HCR := Lib.hid (rf_changed (L4.out.below E5.out) HLN.out n0 n1)
    simp only [slV] at O5 ⊢
    clear hb HCH E4 ho5
    go_wp2_with fail
    refine planPost_mk ⟨⟨y5, E5.out⟩, rfl⟩ ?_
    rw [wpPlan_one]
    simp only [nth_zero, nth_succ]
    go_wp2_with fail
    go_at_call 20
    refine HCR.out.mono ?_
    rintro e y6 ⟨u6, rfl, ho6, hb⟩
    have E6 : Hid (Below Y.heap.size Y y6) := E5.out.trans (hb.mono E5.out.size)
    obtain ⟨⟨za, zn, zc⟩, rfl, -⟩ := own_slV ho6
    have S5 := Sl.of_owns (own_belowT O5.out hb)
    have S6 := Sl.of_owns ho6
    have HBY := Lib.hid (bytes_yes _ _ _ y6 S5 S6)
    have HSS := Lib.hid (snaps_same (I4.out.below E6.out) (L4.out.below E6.out) HLN.out)
    simp only [slV] at HBY ⊢
    clear hb HCR E5 ho6 O5 S5 S6
    go_wp2_with fail
    refine planPost_mk ⟨⟨y6, E6.out⟩, rfl⟩ ?_
    rw [wpPlan_one]
    simp only [nth_zero, nth_succ]
    go_wp2_with fail
    go_at_call 18
    refine HBY.out.mono ?_
    rintro e y7 ⟨rfl, hw7⟩
    obtain rfl := hw7.symm
    clear HBY
    go_wp2_with fail
    refine planPost_mk ⟨⟨_, E6.out⟩, rfl⟩ ?_
    repeat (rw [wpPlan_takes_cons]; simp only [nth_zero, nth_succ]; go_big_quiet_step (fail); try (with_reducible refine wpQuiet_nil ?_))
    rw [wpPlan_takes_nil, wpPlan_one]
    simp only [nth_zero, nth_succ]
    go_wp2_with fail
    go_at_call 21
    refine HSS.out.mono ?_
    rintro e y8 ⟨rfl, hb⟩
    have E8 : Hid (Below Y.heap.size Y y8) := E6.out.trans (hb.mono E6.out.size)
    clear hb HSS E6
    go_wp2_with fail
    refine planPost_mk ⟨⟨y8, E8.out⟩, rfl⟩ ?_
    repeat (rw [wpPlan_takes_cons]; simp only [nth_zero, nth_succ]; go_big_quiet_step (fail); try (with_reducible refine wpQuiet_nil ?_))
    rw [wpPlan_takes_nil, wpPlan_one]
    simp only [nth_zero, nth_succ]
    go_wp2_with fail
    refine (ch_wakes _).mono ?_
    rintro e y9 ⟨rfl, hb⟩
    have E9 : Hid (Below Y.heap.size Y y9) := E8.out.trans (hb.mono E8.out.size)
    have HBE : Hid (Below B w y9) := B4.out.trans (E9.out.mono hBW4.out)
    clear hb E8
    go_wp2_with fail
    refine planPost_mk ⟨⟨y9, E9.out⟩, rfl⟩ ?_
    repeat (rw [wpPlan_takes_cons]; simp only [nth_zero, nth_succ]; go_big_quiet_step (fail); try (with_reducible refine wpQuiet_nil ?_))
    rw [wpPlan_takes_nil, wpPlan_leaf]
    simp only [List.drop_succ_cons, List.drop_zero]
    go_wp2_with fail
    go_ret
    rw [HSB.out]
    exact ⟨by first | rfl | simp, HBE.out⟩

set_option maxRecDepth 100000 in
theorem lifted (os : Os) (started : os.Started) (H : Type) (enc : TypeId × Value → H) :
    ReturnsInHanded {} Try.checked os 3 .any (Rows.chainTellsSpec.pre6 enc Try.prog Try.f3 Rows.chainTellsRow.domain false) (Rows.chainTellsSpec.post enc Try.prog Try.f3 false true false false) := by
  refine returnsInHanded_of_change (C := Try.checked) own started (by kernel_rfl) Try.func3
    (ChangeSpec.witness6 (enc := enc) (C := Try.checked) false ⟨#[], #[.slice none 0 0, .agg #[.int .i64 0, .int .i64 0, .int .i64 0, .int .i64 0]], []⟩ 8 (by kernel_rfl) (by kernel_rfl) (by kernel_rfl) (by kernel_rfl)) ?_
  intro W base args ds gs before hval0 hW hcnd _
  have hval : ∀ (j : Nat) t v, Try.f3.params[j]? = some t → args[j]? = some v → Value.okWide Try.prog W .any base t v := hval0
  have hW' := hW
  obtain ⟨p, q, hA0, hV, rfl, hfz, hnd⟩ := hW
  have hA : DataW.TrodAll enc Try.prog W 0 (fun _ => true) true Try.f3.params.toList args.toList ds p := hA0
  rw [Try.params3] at hA hval
  obtain ⟨v0, vs0, d0, ds0, p0, q0, hargs, rfl, rfl, h0, r0⟩ := trodAll_cons hA
  obtain ⟨v1, vs1, d1, ds1, p1, q1, rfl, rfl, rfl, h1, r1⟩ := trodAll_cons r0
  obtain ⟨rfl, rfl, rfl⟩ := trodAll_nil r1
  obtain rfl : args = #[v0, v1] := by cases args; simp_all
  obtain ⟨rfl, rfl⟩ := trodVars_none hV
  have lt0 : ∀ x ∈ p0, x.block < W.heap.size := by obtain ⟨m, hm⟩ := h0; exact DataW.trod_lt m _ _ _ hm
  have a0 := Arg.mk (hval 0 22 v0 rfl rfl) h0
  have lt1 : ∀ x ∈ p1, x.block < W.heap.size := by obtain ⟨m, hm⟩ := h1; exact DataW.trod_lt m _ _ _ hm
  have a1 := Arg.mk (hval 1 23 v1 rfl rfl) h1
  clear hA0 hval0
  refine (walk v0 v1 W a0 a1).mono fun e W' ⟨he, bel⟩ => ?_
  subst he
  exact ⟨_, rfl, _, _, _, [], _, [], hW', trodAll_mk1 (shut_bool Try.underlying4 _), (trodAll_cons_mk (Below.trod laidOut (by kernel_rfl) (of_decide_eq_true (by kernel_rfl)) h0 bel lt0) (trodAll_cons_mk (Below.trod laidOut (by kernel_rfl) (of_decide_eq_true (by kernel_rfl)) h1 bel lt1) trodAll_mk0)), rfl, bel.frame _, fun h => by cases h⟩

set_option maxRecDepth 100000 in
theorem over : Rows.chainTellsRow.holds Try.pinned (OpenSpec.ofChange Rows.chainTellsSpec) :=
  OpenClaim.holds_of_wide 3 Try.f3 rfl rfl rfl rfl rfl rfl rfl ⟨rfl, rfl, rfl, rfl, rfl⟩ rfl rfl rfl rfl rfl (by kernel_rfl) Try.func3 (by kernel_rfl)
    (of_decide_eq_true (by kernel_rfl)) (by unfold Func.isWrapper; first | (rw [if_pos (by decide +kernel)]; kernel_rfl) | (rw [if_neg (by decide +kernel)]; exact ⟨rfl, rfl⟩))
    (fun os started H enc _ => lifted os started H enc)

theorem proved : Rows.ChainTellsSaid := over
#print axioms proved
end Go.Proofs.Ytmhpjglmnfllfaa.chainTells
