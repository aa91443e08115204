/- sentence -/
import Derived.Test.YtlnljanhnodhkaaSmCd
namespace Go.Proofs.Ytlnljanhnodhkaa.streamCodes
open Go.ChangeShapes Go.WideShapes Go.ChangeAt Go.RowKit
set_option linter.unusedVariables false
set_option linter.unusedSimpArgs false
attribute [-simp] Try.isAgg39 Try.zeroValue39 Try.isAgg24 Try.zeroValue24 Try.isAgg41 Try.zeroValue41
attribute [-go_sem] loadVar storeVar
attribute [local go_sem] loadVar_openRSB storeVar_openRSB zero_rc zero_smB zero_blk build_rcZ build_rcD build_sm3 build_sm4 build_sm2

set_option maxRecDepth 100000 in
set_option maxHeartbeats 6000000 in
theorem walk (v0 v1 : Value) (w : World) (w0 : Arg w 24 v0) (w1 : Arg w 25 v1) :
    Calls Try.prog 3 #[v0, v1] w fun e w' => e = .returned (.bool true) ∧ Below w.heap.size w w' := by
  have hmx : Try.prog.follows .mixedOrders = true := by kernel_rfl
  obtain ⟨s, hs0⟩ := w0.stream
  obtain ⟨ba, bn, bc, bs, rfl, hbl, -, hbS, hbB⟩ := w1.bytes Try.underlying25 Try.underlying5 (by kernel_rfl)
  have HS0 := Lib.hid hs0
  have HBS := Lib.hid hbS
  obtain ⟨er, eb, henc, hrenc⟩ := codes_enc s
  obtain ⟨gd, hgd, hrgd⟩ := codes_good s
  have HEB : Hid (IsBytes eb) := (henc _ _ hs0).1
  have HEN : Hid (∀ (x : World) (v : Value), Smi x v s → _) := fun x v k => (henc x v k).2
  have HRE := Lib.hid hrenc
  have HGD := Lib.hid hgd
  have HRG := Lib.hid hrgd
  obtain ⟨r, ⟨⟨⟨xa, xn, xc⟩, rfl, hR⟩, -, -, -⟩⟩ := hs0
  have HWK := Lib.hid sm_wakes
  have HFS : Hid (∀ x : World, Below w.heap.size w x → _) := fun x hx => sm_fair (HS0.out.below hx)
  obtain ⟨BL, hBL⟩ : ∃ b, s.bl = b := ⟨_, rfl⟩
  obtain ⟨BA, hBA⟩ : ∃ b, s.ba = b := ⟨_, rfl⟩
  obtain ⟨ID, hID⟩ : ∃ b, s.id = b := ⟨_, rfl⟩
  have HCP : Hid (∀ x : World, smFair s → Below w.heap.size w x → _) := fun x hf hx => sm_copy (HS0.out.below hx) hf
  rw [hBL, hBA, hID] at HFS HCP HS0 ⊢
  obtain ⟨B, hB⟩ : ∃ B, w.heap.size = B := ⟨_, rfl⟩
  obtain ⟨X, hX⟩ : ∃ X, w.alloc (.cells #[.int .i64 BL, .int .i64 BA, .int .i64 ID, .slice xa xn xc] 24) = X := ⟨_, rfl⟩
  have k1 : RowC X B 24 (smL BL BA ID (xa, xn, xc)) := by rw [← hX, ← hB]; exact RowC.new w _ _
  have hXb : Below w.heap.size w X := by rw [← hX]; exact below_new w _
  have HXB := Lib.hid hXb
  have HSX : Hid (∀ x : World, Below X.heap.size X x → Smi x (smV BL BA ID (xa, xn, xc)) s) := fun x hx => HS0.out.below (HXB.out.trans (hx.mono HXB.out.size))
  have HBX : Hid (∀ x : World, Below X.heap.size X x → Sl .u8 x (.slice ba bn bc) bs) := fun x hx => HBS.out.below (HXB.out.trans (hx.mono HXB.out.size))
  have HLD : Hid (∀ x : World, Below X.heap.size X x → (loadVar 24 ⟨B, 0, none⟩).run Try.prog x = .ok (smV BL BA ID (xa, xn, xc)) x) := fun x hx => load_smC (k1.below hx)
  have l1 := HLD.out X (Below.refl _ _)
  have C1 := Lib.hid (HFS.out X hXb)
  have HBM : Hid (bs.length = bn) := hbl
  clear k1 hXb hR hBL hBA hID w0 w1 hbS hbB henc hrenc hgd hrgd
  simp only [smV, slV] at l1 C1 HLD ⊢
  by_cases hlen : 3000 < bn
  · have g1 : (3000 : Int) < (bn : Int) := by omega
    go_enter Try.func3, Try.ntmps3
    go_wp2_with fail
    refine C1.out.mono ?_
    rintro e y1 ⟨t1, rfl, hfr, hy⟩
    have HFR := Lib.hid hfr
    have KY1 := Lib.hid hy
    have HY1 : Hid (Below w.heap.size w y1) := HXB.out.trans (hy.mono HXB.out.size)
    clear C1 hy l1 hfr
    cases t1 with
    | false =>
      go_wp2_with fail
      refine (HWK.out y1).mono ?_
      rintro e zz ⟨rfl, hzz⟩
      have HFIN : Hid (Below w.heap.size w zz) := HY1.out.trans (hzz.mono HY1.out.size)
      clear hzz
      go_wp2_with fail
      go_ret
      exact ⟨rfl, HFIN.out⟩
    | true =>
      go_wp2_with fail
      refine (HWK.out y1).mono ?_
      rintro e zz ⟨rfl, hzz⟩
      have HFIN : Hid (Below w.heap.size w zz) := HY1.out.trans (hzz.mono HY1.out.size)
      clear hzz
      go_wp2_with fail
      go_ret
      exact ⟨rfl, HFIN.out⟩
  · have g1 : ¬ (3000 : Int) < (bn : Int) := by omega
    go_enter Try.func3, Try.ntmps3
    go_wp2_with fail
    refine C1.out.mono ?_
    rintro e y1 ⟨t1, rfl, hfr, hy⟩
    have HFR := Lib.hid hfr
    have KY1 := Lib.hid hy
    have HY1 : Hid (Below w.heap.size w y1) := HXB.out.trans (hy.mono HXB.out.size)
    clear C1 hy l1 hfr
    cases t1 with
    | false =>
      go_wp2_with fail
      refine (HWK.out y1).mono ?_
      rintro e zz ⟨rfl, hzz⟩
      have HFIN : Hid (Below w.heap.size w zz) := HY1.out.trans (hzz.mono HY1.out.size)
      clear hzz
      go_wp2_with fail
      go_ret
      exact ⟨rfl, HFIN.out⟩
    | true =>
      have l1 := HLD.out y1 KY1.out
      have C2 := Lib.hid (HCP.out y1 (HFR.out rfl) HY1.out)
      simp only [smV, slV] at C2
      go_wp2_with fail
      refine C2.out.mono ?_
      rintro e y2 ⟨⟨ua, un, uc⟩, rfl, hsm, hy⟩
      have KY2 : Hid (Below X.heap.size X y2) := KY1.out.trans (hy.mono KY1.out.size)
      obtain ⟨D, hD⟩ : ∃ D, y2.heap.size = D := ⟨_, rfl⟩
      have ST := new_sm y2 BL BA ID (ua, un, uc)
      obtain ⟨Y, hY⟩ : ∃ V, y2.alloc (.cells (smL BL BA ID (ua, un, uc)).toArray 24) = V := ⟨_, rfl⟩
      rw [hY, hD] at ST
      have bY : Below y2.heap.size y2 Y := by rw [← hY]; exact below_new y2 _
      have rY : RowC Y D 24 (smL BL BA ID (ua, un, uc)) := by rw [← hY, ← hD]; exact RowC.new y2 _ _
      have KY : Hid (Below X.heap.size X Y) := KY2.out.trans (bY.mono KY2.out.size)
      have HSM := Lib.hid hsm
      have BY := Lib.hid bY
      have HSY : Hid (∀ x : World, Below Y.heap.size Y x → Smi x (smV BL BA ID (ua, un, uc)) s) := fun x hx => HSM.out.below (BY.out.trans (hx.mono BY.out.size))
      have HLY : Hid (∀ x : World, Below Y.heap.size Y x → (loadVar 24 ⟨D, 0, none⟩).run Try.prog x = .ok (smV BL BA ID (ua, un, uc)) x) := fun x hx => load_smC (rY.below hx)
      have l2 := HLY.out Y (Below.refl _ _)
      have C3 := Lib.hid (HEN.out Y _ (HSY.out Y (Below.refl _ _)))
      simp only [smV, slV] at ST l2 C3 HLY
      clear C2 hsm hy bY rY l1
      simp only [slV]
      go_wp2_with fail
      refine C3.out.mono ?_
      rintro e y3 ⟨⟨pa, pn, pc⟩, rfl, hp, hy⟩
      have Y3 : Hid (Below Y.heap.size Y y3) := hy
      have KY3 : Hid (Below X.heap.size X y3) := KY.out.trans (Y3.out.mono KY.out.size)
      have HP := Lib.hid hp
      have l1 := HLD.out y3 KY3.out
      have C4 := Lib.hid (HRE.out y3 _ (HSX.out y3 KY3.out))
      simp only [smV, slV] at C4 HP ⊢
      clear C3 hp hy l2 ST hY hD
      go_wp2_with fail
      refine C4.out.mono ?_
      rintro e y4 ⟨⟨qa, qn, qc⟩, rfl, hq, hy⟩
      have Y4 : Hid (Below Y.heap.size Y y4) := Y3.out.trans (hy.mono Y3.out.size)
      have KY4 : Hid (Below X.heap.size X y4) := KY.out.trans (Y4.out.mono KY.out.size)
      have HP4 := Lib.hid (HP.out.below hy)
      have HQ4 := Lib.hid hq
      have L1 : ∀ z : Ext y4, (loadVar 24 ⟨B, 0, none⟩).run Try.prog z.1 = .ok (.agg #[.int .i64 BL, .int .i64 BA, .int .i64 ID, .slice xa xn xc]) z.1 := fun z => HLD.out z.1 (KY4.out.trans (z.2.mono KY4.out.size))
      have L2 : ∀ z : Ext y4, (loadVar 24 ⟨D, 0, none⟩).run Try.prog z.1 = .ok (.agg #[.int .i64 BL, .int .i64 BA, .int .i64 ID, .slice ua un uc]) z.1 := fun z => HLY.out z.1 (Y4.out.trans (z.2.mono Y4.out.size))
      have HG1 : Hid (∀ z : World, Below y4.heap.size y4 z → _) := fun z hz => HGD.out z _ (HSY.out z (Y4.out.trans (hz.mono Y4.out.size)))
      have HG2 : Hid (∀ z : World, Below y4.heap.size y4 z → _) := fun z hz => HRG.out z _ (HSX.out z (KY4.out.trans (hz.mono KY4.out.size)))
      have HBY : Hid (∀ z : World, Below y4.heap.size y4 z → _) := fun z hz => eqk_bytes _ _ _ _ z (HP4.out.below hz) (HQ4.out.below hz) HEB.out HEB.out
      have HSS : Hid (∀ z : World, Below y4.heap.size y4 z → _) := fun z hz => sm_same (HSY.out z (Y4.out.trans (hz.mono Y4.out.size))) (HSX.out z (KY4.out.trans (hz.mono KY4.out.size)))
      have HBZ : Hid (∀ z : World, Below y4.heap.size y4 z → _) := fun z hz => HBX.out z (KY4.out.trans (hz.mono KY4.out.size))
      have qg : (gd == gd) = true := by simp
      have qe : (er == er) = true := by simp
      obtain ⟨az, haz⟩ : ∃ b, allZ bs = b := ⟨_, rfl⟩
      have qz : (az == az) = true := by simp
      have HAZ := Lib.hid haz
      simp only [smV, slV] at HG1 HG2 HBY HSS ⊢
      clear C4 hq hy l1 haz
      go_wp2_with fail
      refine region_plan (fun x => ∃ z : Ext y4, x = z.1) 32 (.takes [0, 2] (.one 1 (.one 3 (.takes [4, 5, 6, 7] (.one 8 (.takes [9, 10, 11, 12, 13, 14, 15, 17, 20] (.one 16 (.one 18 (.one 19 (.one 21 (.takes [22, 23, 24, 25, 26] (.one 27 (.takes [28, 29] (.one 30 (.takes [31] .leaf))))))))))))))) hmx (by kernel_rfl) (by intro c x v a w h; cases x <;> exact h) ⟨⟨y4.drew, (Below.refl _ y4).drew⟩, rfl⟩ ?_
      repeat (rw [wpPlan_takes_cons]; simp only [nth_zero, nth_succ]; go_big_quiet_step (fail); try (with_reducible refine wpQuiet_nil ?_))
      rw [wpPlan_takes_nil]
      obtain ⟨z0, hz0⟩ : ∃ z, y4.drew = z := ⟨_, rfl⟩
      have Z0 : Hid (Below y4.heap.size y4 z0) := by show Below _ _ _; rw [← hz0]; exact (Below.refl _ y4).drew
      rw [hz0]
      clear hz0
      have D1 := Lib.hid (HG1.out z0 Z0.out)
      rw [wpPlan_one]
      simp only [nth_zero, nth_succ]
      go_wp2_with fail
      refine D1.out.mono ?_
      rintro e z1 ⟨rfl, hy⟩
      have Z1 : Hid (Below y4.heap.size y4 z1) := Z0.out.trans (hy.mono Z0.out.size)
      have D2 := Lib.hid (HG2.out z1 Z1.out)
      clear hy D1
      go_wp2_with fail
      refine planPost_mk ⟨⟨z1, Z1.out⟩, rfl⟩ ?_
      rw [wpPlan_one]
      simp only [nth_zero, nth_succ]
      go_wp2_with fail
      refine D2.out.mono ?_
      rintro e z2 ⟨rfl, hy⟩
      have Z2 : Hid (Below y4.heap.size y4 z2) := Z1.out.trans (hy.mono Z1.out.size)
      have D3 : Hid (Calls Try.prog 14 #[.slice pa pn pc, .slice qa qn qc] z2 fun e w' => e = .returned (.bool true) ∧ w' = z2) := (HBY.out z2 Z2.out).mono fun e w' h => ⟨h.1.trans (by simp), h.2⟩
      clear hy D2
      go_wp2_with fail
      refine planPost_mk ⟨⟨z2, Z2.out⟩, rfl⟩ ?_
      repeat (rw [wpPlan_takes_cons]; simp only [nth_zero, nth_succ]; go_big_quiet_step (fail); try (with_reducible refine wpQuiet_nil ?_))
      rw [wpPlan_takes_nil]
      rw [wpPlan_one]
      simp only [nth_zero, nth_succ]
      go_wp2_with fail
      refine D3.out.mono ?_
      rintro e z3 ⟨rfl, rfl⟩
      clear D3
      go_wp2_with fail
      refine planPost_mk ⟨⟨z3, Z2.out⟩, rfl⟩ ?_
      repeat (rw [wpPlan_takes_cons]; simp only [nth_zero, nth_succ]; go_big_quiet_step (fail); try (with_reducible refine wpQuiet_nil ?_))
      rw [wpPlan_takes_nil]
      rw [wpPlan_one]
      simp only [nth_zero, nth_succ]
      obtain ⟨N6, hN6⟩ : ∃ N, z3.heap.size = N := ⟨_, rfl⟩
      obtain ⟨z4, hz4⟩ : ∃ V, z3.alloc (.cells #[] 5) = V := ⟨_, rfl⟩
      have b4 : Below z3.heap.size z3 z4 := by rw [← hz4]; exact below_new z3 _
      have o4 : z4.ownsRow y4.heap.size 5 1 (.slice (some ⟨N6, 0, none⟩) 0 0) ([] : List Int).length (([] : List Int).map (Value.int .u8)) := by rw [← hz4, ← hN6]; exact own_u80S y4.heap.size z3 Z2.out.size
      have Z4 : Hid (Below y4.heap.size y4 z4) := Z2.out.trans (b4.mono Z2.out.size)
      have HBL5 : Hid (([] : List Int).length + bs.length ≤ 140737488355328) := by show _ ≤ _; rw [HBM.out]; simp; omega
      obtain ⟨v5, z5, r5, o5, g5⟩ := run_append_bytes y4.heap.size z4 _ [] o4 _ bs (HBZ.out z4 Z4.out) HBL5.out Z4.out.size
      rw [List.nil_append] at o5
      have Z5 : Hid (Below y4.heap.size y4 z5) := Z4.out.grown g5 Z4.out.size (fun j e => (World.ownsRow.lt o4 j e).1)
      have S5 := Lib.hid (sm_zero (Sl.of_owns o5))
      have S6 := Lib.hid (rf16_zero (HBZ.out z5 Z5.out))
      rw [HAZ.out] at S5 S6
      have R5 := Lib.hid r5
      obtain ⟨⟨va, vn, vc⟩, rfl, -⟩ := own_slV o5
      have D7 : Hid (Calls Try.prog 17 #[.agg #[.int .i64 BL, .int .i64 BA, .int .i64 ID, .slice ua un uc], .agg #[.int .i64 BL, .int .i64 BA, .int .i64 ID, .slice xa xn xc]] z5 fun e w' => e = .returned (.bool true) ∧ Below z5.heap.size z5 w') := (HSS.out z5 Z5.out).mono fun e w' h => ⟨h.1.trans (by simp), h.2⟩
      clear b4 o4 r5 o5 g5
      simp only [slV] at R5 S5 ⊢
      go_wp2_with fail
      try rw [hz4]
      try rw [hN6]
      refine planPost_mk ⟨⟨z4, Z4.out⟩, rfl⟩ ?_
      rw [wpPlan_one]
      simp only [nth_zero, nth_succ]
      refine wpList_append_run (.tmp 47) (.tmp 48) 25 rfl rfl _ _ _ rfl rfl R5.out ?_
      go_wp2_with fail
      refine planPost_mk ⟨⟨z5, Z5.out⟩, rfl⟩ ?_
      rw [wpPlan_one]
      simp only [nth_zero, nth_succ]
      go_wp2_with fail
      refine S5.out.mono ?_
      rintro e z6 ⟨rfl, rfl⟩
      go_wp2_with fail
      refine planPost_mk ⟨⟨z6, Z5.out⟩, rfl⟩ ?_
      rw [wpPlan_one]
      simp only [nth_zero, nth_succ]
      go_wp2_with fail
      refine S6.out.mono ?_
      rintro e z7 ⟨rfl, rfl⟩
      go_wp2_with fail
      refine planPost_mk ⟨⟨z7, Z5.out⟩, rfl⟩ ?_
      repeat (rw [wpPlan_takes_cons]; simp only [nth_zero, nth_succ]; go_big_quiet_step (fail); try (with_reducible refine wpQuiet_nil ?_))
      rw [wpPlan_takes_nil]
      rw [wpPlan_one]
      simp only [nth_zero, nth_succ]
      go_wp2_with fail
      refine D7.out.mono ?_
      rintro e z8 ⟨rfl, hy⟩
      have Z8 : Hid (Below y4.heap.size y4 z8) := Z5.out.trans (hy.mono Z5.out.size)
      clear hy D7
      go_wp2_with fail
      refine planPost_mk ⟨⟨z8, Z8.out⟩, rfl⟩ ?_
      repeat (rw [wpPlan_takes_cons]; simp only [nth_zero, nth_succ]; go_big_quiet_step (fail); try (with_reducible refine wpQuiet_nil ?_))
      rw [wpPlan_takes_nil]
      rw [wpPlan_one]
      simp only [nth_zero, nth_succ]
      go_wp2_with fail
      refine (HWK.out z8).mono ?_
      rintro e z9 ⟨rfl, hy⟩
      have Z9 : Hid (Below y4.heap.size y4 z9) := Z8.out.trans (hy.mono Z8.out.size)
      clear hy
      go_wp2_with fail
      refine planPost_mk ⟨⟨z9, Z9.out⟩, rfl⟩ ?_
      repeat (rw [wpPlan_takes_cons]; simp only [nth_zero, nth_succ]; go_big_quiet_step (fail); try (with_reducible refine wpQuiet_nil ?_))
      rw [wpPlan_takes_nil]
      rw [wpPlan_leaf]
      simp only [List.drop_succ_cons, List.drop_zero]
      have HFIN : Hid (Below w.heap.size w z9) := HXB.out.trans ((KY4.out.trans (Z9.out.mono KY4.out.size)).mono HXB.out.size)
      go_wp2_with fail
      go_ret
      exact ⟨rfl, HFIN.out⟩

set_option maxRecDepth 100000 in
theorem lifted (os : Os) (started : os.Started) (H : Type) (enc : TypeId × Value → H) :
    ReturnsInHanded {} Try.checked os 3 .any (Rows.streamCodesSpec.pre6 enc Try.prog Try.f3 Rows.streamCodesRow.domain false) (Rows.streamCodesSpec.post enc Try.prog Try.f3 false true false false) := by
  refine returnsInHanded_of_change (C := Try.checked) own started (by kernel_rfl) Try.func3
    (ChangeSpec.witness6 (enc := enc) (C := Try.checked) false ⟨#[], #[.agg #[.int .i64 0, .int .i64 0, .int .i64 0, .slice none 0 0], .slice none 0 0], []⟩ 8 (by kernel_rfl) (by kernel_rfl) (by kernel_rfl) (by kernel_rfl)) ?_
  intro W base args ds gs before hval0 hW hcnd _
  have hval : ∀ (j : Nat) t v, Try.f3.params[j]? = some t → args[j]? = some v → Value.okWide Try.prog W .any base t v := hval0
  have hW' := hW
  obtain ⟨p, q, hA0, hV, rfl, hfz, hnd⟩ := hW
  have hA : DataW.TrodAll enc Try.prog W 0 (fun _ => true) true Try.f3.params.toList args.toList ds p := hA0
  rw [Try.params3] at hA hval
  obtain ⟨v0, vs0, d0, ds0, p0, q0, hargs, rfl, rfl, h0, r0⟩ := trodAll_cons hA
  obtain ⟨v1, vs1, d1, ds1, p1, q1, rfl, rfl, rfl, h1, r1⟩ := trodAll_cons r0
  obtain ⟨rfl, rfl, rfl⟩ := trodAll_nil r1
  obtain rfl : args = #[v0, v1] := by cases args; simp_all
  obtain ⟨rfl, rfl⟩ := trodVars_none hV
  have lt0 : ∀ x ∈ p0, x.block < W.heap.size := by obtain ⟨m, hm⟩ := h0; exact DataW.trod_lt m _ _ _ hm
  have a0 := Arg.mk (hval 0 24 v0 rfl rfl) h0
  have lt1 : ∀ x ∈ p1, x.block < W.heap.size := by obtain ⟨m, hm⟩ := h1; exact DataW.trod_lt m _ _ _ hm
  have a1 := Arg.mk (hval 1 25 v1 rfl rfl) h1
  clear hA0 hval0
  refine (walk v0 v1 W a0 a1).mono fun e W' ⟨he, bel⟩ => ?_
  subst he
  exact ⟨_, rfl, _, _, _, [], _, [], hW', trodAll_mk1 (shut_bool Try.underlying4 _), (trodAll_cons_mk (Below.trod laidOut (by kernel_rfl) (of_decide_eq_true (by kernel_rfl)) h0 bel lt0) (trodAll_cons_mk (Below.trod laidOut (by kernel_rfl) (of_decide_eq_true (by kernel_rfl)) h1 bel lt1) trodAll_mk0)), rfl, bel.frame _, fun h => by cases h⟩

set_option maxRecDepth 100000 in
theorem over : Rows.streamCodesRow.holds Try.pinned (OpenSpec.ofChange Rows.streamCodesSpec) :=
  OpenClaim.holds_of_wide 3 Try.f3 rfl rfl rfl rfl rfl rfl rfl ⟨rfl, rfl, rfl, rfl, rfl⟩ rfl rfl rfl rfl rfl (by kernel_rfl) Try.func3 (by kernel_rfl)
    (of_decide_eq_true (by kernel_rfl)) (by unfold Func.isWrapper; first | (rw [if_pos (by decide +kernel)]; kernel_rfl) | (rw [if_neg (by decide +kernel)]; exact ⟨rfl, rfl⟩))
    (fun os started H enc _ => lifted os started H enc)

theorem proved : Rows.StreamCodesSaid := over
#print axioms proved
end Go.Proofs.Ytlnljanhnodhkaa.streamCodes
