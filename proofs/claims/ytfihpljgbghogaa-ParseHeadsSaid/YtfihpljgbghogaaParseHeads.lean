/- Whatever stands behind, a head that is wrong is told as it is wrong: other first bytes, another check, a number of blocks that may not be, numbers that may not be (P17.1). -/
import Derived.Test.YtfihpljgbghogaaPB4
namespace Go.Proofs.Ytfihpljgbghogaa.parseHeads
open Go.ChangeShapes Go.WideShapes Go.ChangeAt Go.RowKit
set_option linter.unusedVariables false
set_option linter.unusedSimpArgs false
attribute [-simp] Try.isAgg49 Try.zeroValue49 Try.isAgg26 Try.zeroValue26 Try.isAgg31 Try.zeroValue31
attribute [-go_sem] loadVar storeVar
attribute [local go_sem] loadVar_openRG storeVar_openRG zero_rcP build_rcP zero_smP build_sm3P zero_gt build_gtE build_gtS

set_option maxRecDepth 100000 in
set_option maxHeartbeats 8000000 in
theorem walk (v0 v1 : Value) (w : World) (w0 : Arg w 43 v0) (w1 : Arg w 22 v1) :
    Calls Try.prog 6 #[v0, v1] w fun e w' => e = .returned (.bool true) ∧ Below w.heap.size w w' := by
  have hmx : Try.prog.follows .mixedOrders = true := by kernel_rfl
  obtain ⟨n0, n1, n2, rfl, wn0, wn1, wn2⟩ := w0.arr3 Try.underlying43 Try.underlying42 (by kernel_rfl) (by kernel_rfl)
  obtain ⟨ra, rn, rc, us, rfl, hrl, -, hrS, hrB⟩ := w1.bytes Try.underlying22 Try.underlying5 (by kernel_rfl)
  obtain ⟨n00, n01⟩ := bounds_u32 wn0
  obtain ⟨n10, n11⟩ := bounds_u32 wn1
  obtain ⟨n20, n21⟩ := bounds_u32 wn2
  have HWK := Lib.hid pa_wakes
  have HUB := Lib.hid hrB
  have HRX : Hid (∀ x : World, Below w.heap.size w x → Sl .u8 x (.slice ra rn rc) us) := fun x hx => hrS.below hx
  have HRL : Hid (us.length = rn) := hrl
  obtain ⟨N, hN⟩ : ∃ N, w.heap.size = N := ⟨_, rfl⟩
  obtain ⟨W, hW⟩ : ∃ W, w.alloc (.cells #[.int .u32 n0, .int .u32 n1, .int .u32 n2] 43) = W := ⟨_, rfl⟩
  have kN : RowC W N 43 [.int .u32 n0, .int .u32 n1, .int .u32 n2] := by rw [← hW, ← hN]; exact RowC.new w _ _
  have hWb : Below w.heap.size w W := by rw [← hW]; exact below_new w _
  have HWB := Lib.hid hWb
  have HKN := Lib.hid kN
  clear hrl hrS hrB wn0 wn1 wn2 w0 w1 kN hWb
  by_cases hlen : 500 < rn
  · have g1 : (500 : Int) < (rn : Int) := by omega
    have g2 : decide ((500 : Int) < (rn : Int)) = true := by simpa using g1
    clear hlen
    go_enter Try.func6, Try.ntmps6
    go_wp2_with fail
    refine (HWK.out _).mono ?_
    rintro e zz ⟨rfl, hzz⟩
    have HFIN : Hid (Below w.heap.size w zz) := HWB.out.trans (hzz.mono HWB.out.size)
    clear hzz
    go_wp2_with fail
    go_ret
    exact ⟨rfl, HFIN.out⟩
  have g1 : ¬ (500 : Int) < (rn : Int) := by omega
  have g2 : decide ((500 : Int) < (rn : Int)) = false := by simpa using g1
  have HRN : Hid (rn ≤ 500) := by show _ ≤ _; omega
  obtain ⟨M, hM⟩ : ∃ M, W.heap.size = M := ⟨_, rfl⟩
  have L1 := slice_4 82 86 83 49 W
  obtain ⟨W1, hW1⟩ : ∃ X, W.alloc (.cells #[.int .u8 82, .int .u8 86, .int .u8 83, .int .u8 49] 5) = X := ⟨_, rfl⟩
  have b1 : Below W.heap.size W W1 := by rw [← hW1]; exact below_new _ _
  have o1 : OwnB W W1 (.slice (some ⟨W.heap.size, 0, none⟩) 4 4) [82, 86, 83, 49] := by
    rw [← hW1]
    exact World.ownsRow_lit (base := W.heap.size) W #[.int .u8 82, .int .u8 86, .int .u8 83, .int .u8 49] 4 (Nat.le_refl _) (by simp [maxLen]) rfl
  have HCN : Hid (∀ x : World, Below W.heap.size W x → RowC x N 43 [.int .u32 n0, .int .u32 n1, .int .u32 n2]) := fun x hx => HKN.out.below hx
  have c0 := (HCN.out W1 b1).cell 0 _ rfl
  rw [hW1] at L1
  rw [hM] at L1 o1
  have HL1 := Lib.hid L1
  have HO1 := Lib.hid o1
  have HB1 := Lib.hid b1
  have HP2 : Hid (∀ (x : World) (n : Int), 0 ≤ n → n < 18446744073709551616 → Calls Try.prog 17 #[.int .u64 n, .int .i64 2] x fun e w' => ∃ a c, e = .returned (.slice a 2 c) ∧ Sl .u8 w' (.slice a 2 c) (putL n 2) ∧ Below x.heap.size x w') := fun x n h3 h4 => rput_sl (x := x) n 2 (by omega) (by omega) h3 h4
  have HP4 : Hid (∀ (x : World) (n : Int), 0 ≤ n → n < 18446744073709551616 → Calls Try.prog 17 #[.int .u64 n, .int .i64 4] x fun e w' => ∃ a c, e = .returned (.slice a 4 c) ∧ Sl .u8 w' (.slice a 4 c) (putL n 4) ∧ Below x.heap.size x w') := fun x n h3 h4 => rput_sl (x := x) n 4 (by omega) (by omega) h3 h4
  have HP8 : Hid (∀ (x : World) (n : Int), 0 ≤ n → n < 18446744073709551616 → Calls Try.prog 17 #[.int .u64 n, .int .i64 8] x fun e w' => ∃ a c, e = .returned (.slice a 8 c) ∧ Sl .u8 w' (.slice a 8 c) (putL n 8) ∧ Below x.heap.size x w') := fun x n h3 h4 => rput_sl (x := x) n 8 (by omega) (by omega) h3 h4
  clear L1 o1 b1 hlen
  go_enter Try.func6, Try.ntmps6
  go_wp2_with ((with_reducible refine gate_build ?_); refine wpList_build_run 22 4 _ rfl rfl [(0, _), (1, _), (2, _), (3, _)] _ rfl HL1.out ?_)
  obtain ⟨bl, hbl⟩ : ∃ b, n0 % 70 = b := ⟨_, rfl⟩
  have HBLD := Lib.hid hbl
  rw [hbl]
  have bl0 : 0 ≤ bl := by omega
  have bl1 : bl < 70 := by omega
  clear hbl
  refine (HP2.out W1 bl bl0 (by omega)).mono ?_
  rintro e y1 ⟨a1, q1, rfl, s1, hb⟩
  have K1 : Hid (Below W.heap.size W y1) := HB1.out.trans (hb.mono HB1.out.size)
  obtain ⟨v2', y2, A2, O2, K2⟩ := OwnB.app (OwnB.below HO1.out hb) K1.out s1 (by simp [putL_length])
  obtain ⟨⟨v2a, v2n, v2c⟩, rfl, -⟩ := own_slV O2.out
  simp only [slV] at A2 O2
  clear s1 hb c0
  go_wp2_with (at_builtin; refine wpList_append_run (.tmp 20) (.tmp 25) 22 rfl rfl _ _ _ rfl rfl A2.out ?_)
  obtain ⟨V, hV⟩ : ∃ V, y2.drew = V := ⟨_, rfl⟩
  have KV : Hid (Below W.heap.size W V) := by show Below _ _ _; rw [← hV]; exact K2.out.drew
  have OV : Hid (OwnB W V (.slice v2a v2n v2c) ([82, 86, 83, 49] ++ putL bl 2)) := by show OwnB _ _ _ _; rw [← hV]; exact OwnB.below O2.out (Below.refl _ _).drew
  have c1 : ∀ z : Ext W, z.1.cell? ⟨N, 1, none⟩ = some (.int .u32 n1) := fun z => (HCN.out z.1 z.2).cell 1 _ rfl
  have c2 : ∀ z : Ext W, z.1.cell? ⟨N, 2, none⟩ = some (.int .u32 n2) := fun z => (HCN.out z.1 z.2).cell 2 _ rfl
  have HVV : Hid (∃ z : Ext W, V = z.1) := ⟨⟨V, KV.out⟩, rfl⟩
  clear A2
  refine region_plan (fun x => ∃ z : Ext W, x = z.1) 11 (.takes [0, 1, 2, 3, 6, 7, 8] (.one 4 (.one 5 (.one 9 (.one 10 .leaf))))) hmx (by kernel_rfl) (by intro c x v a w h; cases x <;> exact h) (by rw [hV]; exact HVV.out) ?_
  rw [hV]
  repeat (rw [wpPlan_takes_cons]; simp only [nth_zero, nth_succ]; go_big_quiet_step (fail); refine wpQuiet_nil ?_)
  rw [wpPlan_takes_nil, wpPlan_one]
  simp only [nth_zero, nth_succ]
  clear c1 c2
  go_wp2_with fail
  refine (HP4.out V n1 n10 (by omega)).mono ?_
  rintro e y3 ⟨a3, q3, rfl, s3, hb⟩
  have K3 : Hid (Below W.heap.size W y3) := KV.out.trans (hb.mono KV.out.size)
  obtain ⟨v4', y4, A4, O4, K4⟩ := OwnB.app (OwnB.below OV.out hb) K3.out s3 (by simp [putL_length])
  obtain ⟨⟨v4a, v4n, v4c⟩, rfl, -⟩ := own_slV O4.out
  simp only [slV] at A4 O4
  clear s3 hb
  go_wp2_with fail
  refine planPost_mk ⟨⟨y3, K3.out⟩, rfl⟩ ?_
  rw [wpPlan_one]
  simp only [nth_zero, nth_succ]
  go_wp2_with (at_builtin; refine wpList_append_run (.tmp 27) (.tmp 31) 22 rfl rfl _ _ _ rfl rfl A4.out ?_)
  refine planPost_mk ⟨⟨y4, K4.out⟩, rfl⟩ ?_
  rw [wpPlan_one]
  simp only [nth_zero, nth_succ]
  go_wp2_with fail
  refine (HP4.out y4 n2 n20 (by omega)).mono ?_
  rintro e y5 ⟨a5, q5, rfl, s5, hb⟩
  have K5 : Hid (Below W.heap.size W y5) := K4.out.trans (hb.mono K4.out.size)
  obtain ⟨v6', y6, A6, O6, K6⟩ := OwnB.app (OwnB.below O4.out hb) K5.out s5 (by simp [putL_length])
  obtain ⟨⟨v6a, v6n, v6c⟩, rfl, -⟩ := own_slV O6.out
  simp only [slV] at A6 O6
  clear s5 hb
  go_wp2_with fail
  refine planPost_mk ⟨⟨y5, K5.out⟩, rfl⟩ ?_
  rw [wpPlan_one]
  simp only [nth_zero, nth_succ]
  go_wp2_with (at_builtin; refine wpList_append_run (.tmp 32) (.tmp 36) 22 rfl rfl _ _ _ rfl rfl A6.out ?_)
  refine planPost_mk ⟨⟨y6, K6.out⟩, rfl⟩ ?_
  rw [wpPlan_leaf]
  simp only [List.drop_succ_cons, List.drop_zero]
  -- one record, the check
  have L7 := slice_2 1 0 y6
  have o7 : Sl .u8 (y6.alloc (.cells #[.int .u8 1, .int .u8 0] 5)) (.slice (some ⟨y6.heap.size, 0, none⟩) 2 2) [1, 0] := sl_lit (xs := [1, 0]) y6 (by simp)
  obtain ⟨x7, hx7⟩ : ∃ X, y6.alloc (.cells #[.int .u8 1, .int .u8 0] 5) = X := ⟨_, rfl⟩
  have b7 : Below y6.heap.size y6 x7 := by rw [← hx7]; exact below_new _ _
  obtain ⟨M7, hM7⟩ : ∃ m, y6.heap.size = m := ⟨_, rfl⟩
  rw [hx7] at L7 o7
  have kx7 : Below W.heap.size W x7 := K6.out.trans (b7.mono K6.out.size)
  obtain ⟨v7', y7, A7, O7, K7⟩ := OwnB.app (OwnB.below O6.out b7) kx7 o7 (by simp [putL_length])
  obtain ⟨⟨v7a, v7n, v7c⟩, rfl, -⟩ := own_slV O7.out
  have hF : [82, 86, 83, 49] ++ putL bl 2 ++ putL n1 4 ++ putL n2 4 ++ [1, 0] = hdF bl n1 n2 1 := by rw [← put_one2]; rfl
  rw [hF] at O7
  have HBF := Lib.hid (isBytes_hdF bl n1 n2 1)
  have HLF := Lib.hid (hdF_length bl n1 n2 1)
  obtain ⟨C, hC⟩ : ∃ C, fnvMore fnvInit (hdF bl n1 n2 1) = C := ⟨_, rfl⟩
  have hu : IsU64 C := by rw [← hC]; exact isU64_more _ isU64_init
  have HCK := Lib.hid (refCheck_any _ _ y7 (OwnB.sl O7.out) HBF.out)
  rw [hC] at HCK
  have HL7 := Lib.hid L7
  rw [hM7] at HL7 A7
  simp only [slV] at A7 O7 HCK
  clear L7 o7 b7 kx7 hF
  go_wp2_with (first | ((with_reducible refine gate_build ?_); refine wpList_build_run 22 2 _ rfl rfl [(0, _), (1, _)] _ rfl HL7.out ?_) | (at_builtin; refine wpList_append_run (.tmp 38) (.tmp 39) 22 rfl rfl _ _ _ rfl rfl A7.out ?_))
  refine HCK.out.mono ?_
  rintro e z ⟨rfl, hz⟩
  subst hz
  go_wp2_with fail
  refine (HP8.out _ C hu.1 hu.2).mono ?_
  rintro e y8 ⟨a8, q8, rfl, s8, hb⟩
  have K8 : Hid (Below W.heap.size W y8) := K7.out.trans (hb.mono K7.out.size)
  obtain ⟨v9', y9, A9, O9, K9⟩ := OwnB.app (OwnB.below O7.out hb) K8.out s8 (by rw [HLF.out, putL_length]; omega)
  obtain ⟨⟨v9a, v9n, v9c⟩, rfl, -⟩ := own_slV O9.out
  have hFs : hdF bl n1 n2 1 ++ putL C 8 = sld (hdF bl n1 n2 1) := by rw [← hC]; rfl
  rw [hFs] at O9
  have hFl : (sld (hdF bl n1 n2 1)).length = 24 := by rw [sld_length, HLF.out]
  have HKK : Hid (Below w.heap.size w y9) := HWB.out.trans (K9.out.mono HWB.out.size)
  have HS9 := Lib.hid (OwnB.sl O9.out)
  have HAC : Hid (∀ x : World, Below y9.heap.size y9 x → _) := fun x hx => app_cat (HS9.out.below hx) (HRX.out x (HKK.out.trans (hx.mono HKK.out.size))) (by rw [hFl, HRL.out]; have := HRN.out; omega) (by omega)
  have hBS : IsBytes (sld (hdF bl n1 n2 1) ++ us) := isBytes_app (isBytes_sld HBF.out) HUB.out
  have hin : HdIn bl n1 n2 1 := ⟨by omega, by omega, by omega, by omega⟩
  have HTW := Lib.hid (hh_two bl n1 n2 1 us)
  have HMG := Lib.hid (hh_magic bl n1 n2 1 us)
  have HCHK : Hid (∀ y : Int, 0 ≤ y ∧ y < 256 → y ≠ (sld (hdF bl n1 n2 1) ++ us)[20]?.getD 0 → paE ((sld (hdF bl n1 n2 1) ++ us).set 20 y) = 22) := fun y h1 h2 => hh_check bl n1 n2 1 us h1 h2
  have HW1 : Hid (bl < 1 ∨ 64 < bl → paE (sld (hdF bl n1 n2 1) ++ us) = 23) := fun h => pa_size hin us h
  have HW2 : Hid (1 ≤ bl ∧ bl ≤ 64 → (n2 < 1 ∨ 1000000 < n2 ∨ n1 - 1 = 0 ∨ n2 ≤ n1 - 1) → paE (sld (hdF bl n1 n2 1) ++ us) = 25) := fun h h2 => pa_range hin us h ((hh_not h n10).2 h2)
  have HW3 : Hid (1 ≤ bl ∧ bl ≤ 64 → ¬ (n2 < 1 ∨ 1000000 < n2 ∨ n1 - 1 = 0 ∨ n2 ≤ n1 - 1) → paE (sld (hdF bl n1 n2 1) ++ us) ≠ 23 ∧ paE (sld (hdF bl n1 n2 1) ++ us) ≠ 20 ∧ (us.length < 5 → paE (sld (hdF bl n1 n2 1) ++ us) = 21)) := fun h h2 => pa_head hin us (by
    by_cases h3 : hdOk bl (n1 - 1) n2
    · exact h3
    · exact absurd ((hh_not h n10).1 h3) h2)
  have hLL : (sld (hdF bl n1 n2 1) ++ us).length = 24 + rn := by rw [List.length_append, hFl, HRL.out]
  obtain ⟨bb, hbb⟩ : ∃ q, sld (hdF bl n1 n2 1) ++ us = q := ⟨_, rfl⟩
  rw [hbb] at hBS HTW HMG HCHK HW1 HW2 HW3 hLL HAC
  obtain ⟨L, hL⟩ : ∃ l, bb.length = l := ⟨_, rfl⟩
  obtain ⟨⟨c1, c2, c3⟩, z1, gb, gc, z2, B1, B2, B3, B4⟩ := HAC.out y9 (Below.refl _ _)
  have HP := Lib.hid (pa_smi (Sl.of_owns B3) hBS)
  have HBS := Lib.hid hBS
  rw [hL] at B2 HP hLL
  have HLL := Lib.hid hLL
  have HLB := Lib.hid hL
  obtain ⟨E1, hE1⟩ : ∃ E, paE bb = E := ⟨_, rfl⟩
  rw [hE1] at HP HW1 HW2 HW3
  obtain ⟨f1, hf1⟩ : ∃ q, (paS bb).bl = q := ⟨_, rfl⟩
  obtain ⟨f2, hf2⟩ : ∃ q, (paS bb).ba = q := ⟨_, rfl⟩
  obtain ⟨f3, hf3⟩ : ∃ q, (paS bb).id = q := ⟨_, rfl⟩
  rw [hf1, hf2, hf3] at HP
  have HB4 := Lib.hid B4
  have KZ : Hid (Below W.heap.size W z2) := K9.out.trans (B4.mono K9.out.size)
  have HA1 := Lib.hid B1
  have HA2 := Lib.hid B2
  simp only [slV] at A9 O9 HA1 HA2 HS9
  simp only [smV, slV] at HP
  clear s8 hb hu hC hFs hFl B1 B2 B3 B4 hE1 hf1 hf2 hf3 HCK HL7 A7 hx7 hM7 hBS hin hLL hbb hL
  go_wp2_with (at_builtin; first | refine wpList_append_run (.tmp 41) (.tmp 44) 22 rfl rfl _ _ _ rfl rfl A9.out ?_ | refine wpList_append_run (.tmp 47) (.tmp 48) 22 rfl rfl _ _ _ rfl rfl HA1.out ?_ | refine wpList_append_run (.tmp 49) (.tmp 50) 22 rfl rfl _ _ _ rfl rfl HA2.out ?_)
  refine HP.out.mono ?_
  rintro e x11 ⟨⟨d1, d2, d3⟩, rfl, -, hb⟩
  obtain ⟨Y11, T11, -, bY11⟩ := new_smx x11 f1 f2 f3 (d1, d2, d3)
  obtain ⟨D11, hD11⟩ : ∃ D, x11.heap.size = D := ⟨_, rfl⟩
  rw [hD11] at T11
  have b11 : Below y9.heap.size y9 Y11 := HB4.out.trans ((hb.trans (bY11.mono hb.size)).mono HB4.out.size)
  have K11 : Hid (Below W.heap.size W Y11) := K9.out.trans (b11.mono K9.out.size)
  have HB11 := Lib.hid b11
  have c0 : ∀ z : Ext Y11, z.1.cell? ⟨N, 0, none⟩ = some (.int .u32 n0) := fun z => (HCN.out z.1 (K11.out.trans (z.2.mono K11.out.size))).cell 0 _ rfl
  have c1' : ∀ z : Ext Y11, z.1.cell? ⟨N, 1, none⟩ = some (.int .u32 n1) := fun z => (HCN.out z.1 (K11.out.trans (z.2.mono K11.out.size))).cell 1 _ rfl
  have c2' : ∀ z : Ext Y11, z.1.cell? ⟨N, 2, none⟩ = some (.int .u32 n2) := fun z => (HCN.out z.1 (K11.out.trans (z.2.mono K11.out.size))).cell 2 _ rfl
  simp only [smV, slV] at T11 ⊢
  clear hb bY11 b11 A9 HP
  go_wp2_with fail
  refine region_ext (by kernel_rfl) (by kernel_rfl) ?_
  repeat (go_big_quiet_step (fail))
  refine wpQuiet_nil ?_
  intro x
  have HXY : Hid (Below y9.heap.size y9 x.1) := HB11.out.trans (x.2.mono HB11.out.size)
  have HXW : Hid (Below w.heap.size w x.1) := HKK.out.trans (HXY.out.mono HKK.out.size)
  obtain ⟨xw, hxw⟩ : ∃ z, x.1 = z := ⟨_, rfl⟩
  rw [hxw] at HXY HXW ⊢
  rw [HBLD.out]
  clear c0 c1' c2' T11 hD11 hxw x
  by_cases hc1 : bl < 1 ∨ 64 < bl
  · have hE := HW1.out hc1
    rw [hE]
    rcases (show bl < 1 ∨ (¬ bl < 1 ∧ 64 < bl) by omega) with h | ⟨h, h'⟩
    · have g5 : decide (bl < 1) = true := by simpa using h
      clear hc1 h hE
      go_wp2_with fail
      refine (HWK.out _).mono ?_
      rintro e zz ⟨rfl, hzz⟩
      have HFIN : Hid (Below w.heap.size w zz) := HXW.out.trans (hzz.mono HXW.out.size)
      clear hzz
      go_wp2_with fail
      go_ret
      exact ⟨rfl, HFIN.out⟩
    · have g5 : decide (bl < 1) = false := by simpa using h
      have g6 : decide (64 < bl) = true := by simpa using h'
      clear hc1 h h' hE
      go_wp2_with fail
      refine (HWK.out _).mono ?_
      rintro e zz ⟨rfl, hzz⟩
      have HFIN : Hid (Below w.heap.size w zz) := HXW.out.trans (hzz.mono HXW.out.size)
      clear hzz
      go_wp2_with fail
      go_ret
      exact ⟨rfl, HFIN.out⟩
  have hbl64 : 1 ≤ bl ∧ bl ≤ 64 := by omega
  have g5 : decide (bl < 1) = false := by simp; omega
  have g6 : decide (64 < bl) = false := by simp; omega
  by_cases hc2 : n2 < 1 ∨ 1000000 < n2 ∨ n1 - 1 = 0 ∨ n2 ≤ n1 - 1
  · have hE := HW2.out hbl64 hc2
    rw [hE]
    rcases (show n2 < 1 ∨ (¬ n2 < 1 ∧ 1000000 < n2) ∨ (¬ n2 < 1 ∧ ¬ 1000000 < n2 ∧ n1 - 1 = 0) ∨ (¬ n2 < 1 ∧ ¬ 1000000 < n2 ∧ ¬ n1 - 1 = 0 ∧ n2 ≤ n1 - 1) by omega) with h | ⟨h, h2⟩ | ⟨h, h2, h3⟩ | ⟨h, h2, h3, h4⟩
    · have g7 : decide (n2 < 1) = true := by simpa using h
      clear hc1 hc2 h hE
      go_wp2_with fail
      refine (HWK.out _).mono ?_
      rintro e zz ⟨rfl, hzz⟩
      have HFIN : Hid (Below w.heap.size w zz) := HXW.out.trans (hzz.mono HXW.out.size)
      clear hzz
      go_wp2_with fail
      go_ret
      exact ⟨rfl, HFIN.out⟩
    · have g7 : decide (n2 < 1) = false := by simpa using h
      have g8 : decide (1000000 < n2) = true := by simpa using h2
      clear hc1 hc2 h h2 hE
      go_wp2_with fail
      refine (HWK.out _).mono ?_
      rintro e zz ⟨rfl, hzz⟩
      have HFIN : Hid (Below w.heap.size w zz) := HXW.out.trans (hzz.mono HXW.out.size)
      clear hzz
      go_wp2_with fail
      go_ret
      exact ⟨rfl, HFIN.out⟩
    · have g7 : decide (n2 < 1) = false := by simpa using h
      have g8 : decide (1000000 < n2) = false := by simpa using h2
      have g9 : (n1 - 1 == 0) = true := by simpa using h3
      clear hc1 hc2 h h2 h3 hE
      go_wp2_with fail
      refine (HWK.out _).mono ?_
      rintro e zz ⟨rfl, hzz⟩
      have HFIN : Hid (Below w.heap.size w zz) := HXW.out.trans (hzz.mono HXW.out.size)
      clear hzz
      go_wp2_with fail
      go_ret
      exact ⟨rfl, HFIN.out⟩
    · have g7 : decide (n2 < 1) = false := by simpa using h
      have g8 : decide (1000000 < n2) = false := by simpa using h2
      have g9 : (n1 - 1 == 0) = false := by simpa using h3
      have g10 : decide (n2 ≤ n1 - 1) = true := by simpa using h4
      clear hc1 hc2 h h2 h3 h4 hE
      go_wp2_with fail
      refine (HWK.out _).mono ?_
      rintro e zz ⟨rfl, hzz⟩
      have HFIN : Hid (Below w.heap.size w zz) := HXW.out.trans (hzz.mono HXW.out.size)
      clear hzz
      go_wp2_with fail
      go_ret
      exact ⟨rfl, HFIN.out⟩
  have g7 : decide (n2 < 1) = false := by simp; omega
  have g8 : decide (1000000 < n2) = false := by simp; omega
  have g9 : (n1 - 1 == 0) = false := by rw [beq_eq_false_iff_ne]; omega
  have g10 : decide (n2 ≤ n1 - 1) = false := by simp; omega
  obtain ⟨hx1, hx2, hx3⟩ := HW3.out hbl64 hc2
  clear hc1 hc2
  obtain ⟨⟨h1, h2, h3⟩, z3, gb2, gc2, z4, B1, B2, B3, B4⟩ := HAC.out xw HXY.out
  rw [HLB.out] at B2
  have hl24 : 24 ≤ bb.length := by rw [HLB.out, HLL.out]; omega
  have HC2 := HTW.out
  have c2 : z4.cell? ⟨gb2, 2, none⟩ = some (.int .u8 83) := by rw [own_cell B3 (by omega), HC2]; rfl
  have f2 : z4.frozen? ⟨gb2, 2, none⟩ = false := B3.frozenAt 2
  have hx83 : bits BinOp.xor IntKind.u8 83 1 = 82 := by decide
  have hx82 : bits BinOp.xor IntKind.u8 82 1 = 83 := by decide
  have HG : Hid (xw.heap.size ≤ gb2) := (B3.lt gb2 rfl).1
  obtain ⟨z5, hz5⟩ : ∃ z, z4.setCell ⟨gb2, 2, none⟩ (.int .u8 82) = z := ⟨_, rfl⟩
  have o5 := own_set B3 2 82
  rw [hz5] at o5
  have b5 : Below xw.heap.size xw z5 := by rw [← hz5]; exact B4.setCell (p := ⟨gb2, 2, none⟩) HG.out _
  have hl5 : (bb.set 2 82).length = L := by rw [List.length_set, HLB.out]
  have hs5 := Sl.of_owns o5
  have HP5 := Lib.hid (pa_smi hs5 (HBS.out.set (by decide)))
  rw [HMG.out, hl5] at HP5
  obtain ⟨a6, ha6⟩ : ∃ q, (paS (bb.set 2 82)).bl = q := ⟨_, rfl⟩
  obtain ⟨b6, hb6⟩ : ∃ q, (paS (bb.set 2 82)).ba = q := ⟨_, rfl⟩
  obtain ⟨c6, hc6⟩ : ∃ q, (paS (bb.set 2 82)).id = q := ⟨_, rfl⟩
  rw [ha6, hb6, hc6] at HP5
  have HO5 := Lib.hid o5
  have HB5 := Lib.hid b5
  have HA3 := Lib.hid B1
  have HA4 := Lib.hid B2
  have HL24 := Lib.hid hl24
  have HE23 := Lib.hid hx1
  have HE20 := Lib.hid hx2
  have HE21 := Lib.hid hx3
  have HL5 := Lib.hid hl5
  have i2 : (2 : Int) < (L : Int) := by have := HLL.out; omega
  have i20 : (20 : Int) < (L : Int) := by have := HLL.out; omega
  have i2n : 2 < L := by omega
  have i20n : 20 < L := by omega
  simp only [slV] at HA3 HA4
  simp only [smV, slV] at HP5
  clear B1 B2 B3 B4 o5 b5 hl5 hs5 ha6 hb6 hc6 hl24 hx1 hx2 hx3 HAC HC2
  go_wp2_with (at_builtin; first | refine wpList_append_run (.tmp 99) (.tmp 100) 22 rfl rfl _ _ _ rfl rfl HA3.out ?_ | refine wpList_append_run (.tmp 101) (.tmp 102) 22 rfl rfl _ _ _ rfl rfl HA4.out ?_)
  refine HP5.out.mono ?_
  rintro e x6 ⟨⟨d1, d2, d3⟩, rfl, -, hb⟩
  obtain ⟨Y6, T6, -, bY6⟩ := new_smx x6 a6 b6 c6 (d1, d2, d3)
  obtain ⟨D6, hD6⟩ : ∃ D, x6.heap.size = D := ⟨_, rfl⟩
  rw [hD6] at T6
  have b56 : Below z5.heap.size z5 Y6 := hb.trans (bY6.mono hb.size)
  have o6 := own_belowT HO5.out b56
  have k2 : Y6.cell? ⟨gb2, 2, none⟩ = some (.int .u8 82) := by
    rw [own_cell o6 (by rw [HL5.out]; exact i2n), List.getElem?_set_self (by have := HL24.out; omega)]
    rfl
  have l2 : Y6.frozen? ⟨gb2, 2, none⟩ = false := o6.frozenAt 2
  obtain ⟨z7, hz7⟩ : ∃ z, Y6.setCell ⟨gb2, 2, none⟩ (.int .u8 83) = z := ⟨_, rfl⟩
  have o7 := own_set o6 2 83
  have e83 : (bb.set 2 82).set 2 83 = bb := by
    rw [List.set_set]
    have hk : 2 < bb.length := by have := HL24.out; omega
    have h83 := HTW.out
    rw [List.getElem?_eq_getElem hk] at h83
    rw [← Option.some.inj h83]
    simp
  rw [hz7, e83] at o7
  obtain ⟨y, hy⟩ : ∃ y, bb[20]?.getD 0 = y := ⟨_, rfl⟩
  have k20 : z7.cell? ⟨gb2, 20, none⟩ = some (.int .u8 y) := by rw [own_cell o7 (by have := HL24.out; omega), hy]
  have l20 : z7.frozen? ⟨gb2, 20, none⟩ = false := o7.frozenAt 20
  obtain ⟨y', hy'⟩ : ∃ y', bits BinOp.xor IntKind.u8 y 1 = y' := ⟨_, rfl⟩
  have hyr : 0 ≤ y ∧ y < 256 := by rw [← hy]; exact HBS.out 20
  have hyb : 0 ≤ y' ∧ y' < 256 := by rw [← hy']; exact u8_xor_bd hyr (by decide)
  have hne : y' ≠ bb[20]?.getD 0 := by
    rw [hy, ← hy']
    intro h
    have := (u8_xor_eq hyr (by decide)).1 h
    cases this
  obtain ⟨z8, hz8⟩ : ∃ z, z7.setCell ⟨gb2, 20, none⟩ (.int .u8 y') = z := ⟨_, rfl⟩
  have o8 := own_set o7 20 y'
  rw [hz8] at o8
  have hl8 : (bb.set 20 y').length = L := by rw [List.length_set, HLB.out]
  have hb67 : Below xw.heap.size xw Y6 := HB5.out.trans (b56.mono HB5.out.size)
  have b8 : Below xw.heap.size xw z8 := by
    rw [← hz8, ← hz7]
    exact (hb67.setCell (p := ⟨gb2, 2, none⟩) HG.out _).setCell (p := ⟨gb2, 20, none⟩) HG.out _
  have K8' : Hid (Below w.heap.size w z8) := HXW.out.trans (b8.mono HXW.out.size)
  have HP8' := Lib.hid (pa_smi (Sl.of_owns o8) (HBS.out.set hyb))
  rw [HCHK.out y' hyb hne, hl8] at HP8'
  obtain ⟨a9, ha9⟩ : ∃ q, (paS (bb.set 20 y')).bl = q := ⟨_, rfl⟩
  obtain ⟨b9, hb9⟩ : ∃ q, (paS (bb.set 20 y')).ba = q := ⟨_, rfl⟩
  obtain ⟨c9, hc9⟩ : ∃ q, (paS (bb.set 20 y')).id = q := ⟨_, rfl⟩
  rw [ha9, hb9, hc9] at HP8'
  simp only [smV, slV] at T6 HP8' ⊢
  clear hb bY6 b56 o6 o7 e83 hy hyr hyb hne o8 hl8 hb67 b8 ha9 hb9 hc9 HP5 c2 f2 hz5 HA3 HA4
  go_wp2_with fail
  refine HP8'.out.mono ?_
  rintro e x10 ⟨⟨m1, m2, m3⟩, rfl, -, hb⟩
  obtain ⟨Y10, T10, -, bY10⟩ := new_smx x10 a9 b9 c9 (m1, m2, m3)
  obtain ⟨D10, hD10⟩ : ∃ D, x10.heap.size = D := ⟨_, rfl⟩
  rw [hD10] at T10
  have KW : Hid (Below w.heap.size w Y10) := K8'.out.trans ((hb.trans (bY10.mono hb.size)).mono K8'.out.size)
  have t1 : (E1 != 23) = true := by have := HE23.out; simpa using this
  have t2 : (E1 != 20) = true := by have := HE20.out; simpa using this
  simp only [smV, slV] at T10 ⊢
  clear hb bY10 HP8' T6 hD6 k2 l2 hz7 k20 l20 hz8 hy'
  by_cases h5 : 5 ≤ rn
  · have t3 : decide ((5 : Int) ≤ (rn : Int)) = true := by simp; omega
    have t3' : decide (5 ≤ rn) = true := by simpa using h5
    clear h5
    go_wp2_with fail
    refine (HWK.out _).mono ?_
    rintro e zz ⟨rfl, hzz⟩
    have HFIN : Hid (Below w.heap.size w zz) := KW.out.trans (hzz.mono KW.out.size)
    clear hzz
    go_wp2_with fail
    go_ret
    exact ⟨rfl, HFIN.out⟩
  · have t3 : decide ((5 : Int) ≤ (rn : Int)) = false := by simp; omega
    have t3' : decide (5 ≤ rn) = false := by simpa using h5
    have t4 := HE21.out (by rw [HRL.out]; omega)
    have t5 : (E1 == 21) = true := by rw [t4]; rfl
    clear h5 t4
    go_wp2_with fail
    refine (HWK.out _).mono ?_
    rintro e zz ⟨rfl, hzz⟩
    have HFIN : Hid (Below w.heap.size w zz) := KW.out.trans (hzz.mono KW.out.size)
    clear hzz
    go_wp2_with fail
    go_ret
    exact ⟨rfl, HFIN.out⟩

set_option maxRecDepth 100000 in
theorem lifted (os : Os) (started : os.Started) (H : Type) (enc : TypeId × Value → H) :
    ReturnsInHanded {} Try.checked os 6 .any (Rows.parseHeadsSpec.pre6 enc Try.prog Try.f6 Rows.parseHeadsRow.domain false) (Rows.parseHeadsSpec.post enc Try.prog Try.f6 false true false false) := by
  refine returnsInHanded_of_change (C := Try.checked) own started (by kernel_rfl) Try.func6
    (ChangeSpec.witness6 (enc := enc) (C := Try.checked) false ⟨#[], #[.agg #[.int .u32 0, .int .u32 0, .int .u32 0], .slice none 0 0], []⟩ 8 (by kernel_rfl) (by kernel_rfl) (by kernel_rfl) (by kernel_rfl)) ?_
  intro W base args ds gs before hval0 hW hcnd _
  have hval : ∀ (j : Nat) t v, Try.f6.params[j]? = some t → args[j]? = some v → Value.okWide Try.prog W .any base t v := hval0
  have hW' := hW
  obtain ⟨p, q, hA0, hV, rfl, hfz, hnd⟩ := hW
  have hA : DataW.TrodAll enc Try.prog W 0 (fun _ => true) true Try.f6.params.toList args.toList ds p := hA0
  rw [Try.params6] at hA hval
  obtain ⟨v0, vs0, d0, ds0, p0, q0, hargs, rfl, rfl, h0, r0⟩ := trodAll_cons hA
  obtain ⟨v1, vs1, d1, ds1, p1, q1, rfl, rfl, rfl, h1, r1⟩ := trodAll_cons r0
  obtain ⟨rfl, rfl, rfl⟩ := trodAll_nil r1
  obtain rfl : args = #[v0, v1] := by cases args; simp_all
  obtain ⟨rfl, rfl⟩ := trodVars_none hV
  have lt0 : ∀ x ∈ p0, x.block < W.heap.size := by obtain ⟨m, hm⟩ := h0; exact DataW.trod_lt m _ _ _ hm
  have a0 := Arg.mk (hval 0 43 v0 rfl rfl) h0
  have lt1 : ∀ x ∈ p1, x.block < W.heap.size := by obtain ⟨m, hm⟩ := h1; exact DataW.trod_lt m _ _ _ hm
  have a1 := Arg.mk (hval 1 22 v1 rfl rfl) h1
  clear hA0 hval0
  refine (walk v0 v1 W a0 a1).mono fun e W' ⟨he, bel⟩ => ?_
  subst he
  exact ⟨_, rfl, _, _, _, [], _, [], hW', trodAll_mk1 (shut_bool Try.underlying4 _), (trodAll_cons_mk (Below.trod laidOut (by kernel_rfl) (of_decide_eq_true (by kernel_rfl)) h0 bel lt0) (trodAll_cons_mk (Below.trod laidOut (by kernel_rfl) (of_decide_eq_true (by kernel_rfl)) h1 bel lt1) trodAll_mk0)), rfl, bel.frame _, fun h => by cases h⟩

set_option maxRecDepth 100000 in
theorem over : Rows.parseHeadsRow.holds Try.pinned (OpenSpec.ofChange Rows.parseHeadsSpec) :=
  OpenClaim.holds_of_wide 6 Try.f6 rfl rfl rfl rfl rfl rfl rfl ⟨rfl, rfl, rfl, rfl, rfl⟩ rfl rfl rfl rfl rfl (by kernel_rfl) Try.func6 (by kernel_rfl)
    (of_decide_eq_true (by kernel_rfl)) (by unfold Func.isWrapper; first | (rw [if_pos (by decide +kernel)]; kernel_rfl) | (rw [if_neg (by decide +kernel)]; exact ⟨rfl, rfl⟩))
    (fun os started H enc _ => lifted os started H enc)

theorem proved : Rows.ParseHeadsSaid := over
#print axioms proved
end Go.Proofs.Ytfihpljgbghogaa.parseHeads
