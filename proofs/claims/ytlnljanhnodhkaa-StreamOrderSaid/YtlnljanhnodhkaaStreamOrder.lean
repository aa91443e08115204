/- sentence -/
import Derived.Test.YtlnljanhnodhkaaK3
namespace Go.Proofs.Ytlnljanhnodhkaa.streamOrder
open Go.ChangeShapes Go.WideShapes Go.ChangeAt Go.RowKit
set_option linter.unusedVariables false
set_option linter.unusedSimpArgs false
attribute [-simp] Try.isAgg39 Try.zeroValue39 Try.isAgg24 Try.zeroValue24 Try.isAgg41 Try.zeroValue41
attribute [-go_sem] loadVar storeVar
attribute [local go_sem] loadVar_openRSB storeVar_openRSB zero_rc zero_smB zero_blk build_rcZ build_rcD build_sm3 build_sm4 build_sm2

set_option maxRecDepth 100000 in
set_option maxHeartbeats 4000000 in
theorem walk (v0 v1 : Value) (w : World) (w0 : Arg w 44 v0) (w1 : Arg w 44 v1) :
    Calls Try.prog 6 #[v0, v1] w fun e w' => e = .returned (.bool true) ∧ Below w.heap.size w w' := by
  obtain ⟨a0, a1, rfl, wa0, wa1⟩ := w0.two Try.underlying44 Try.underlying5 (by kernel_rfl) (by kernel_rfl)
  obtain ⟨b0, b1, rfl, wb0, wb1⟩ := w1.two Try.underlying44 Try.underlying5 (by kernel_rfl) (by kernel_rfl)
  have ha0 := bounds_u8 wa0
  have ha1 := bounds_u8 wa1
  have hb0 := bounds_u8 wb0
  have hb1 := bounds_u8 wb1
  obtain ⟨N, hN⟩ : ∃ N, w.heap.size = N := ⟨_, rfl⟩
  obtain ⟨X, hX⟩ : ∃ X, (w.alloc (.cells #[.int .u8 a0, .int .u8 a1] 44)).alloc (.cells #[.int .u8 b0, .int .u8 b1] 44) = X := ⟨_, rfl⟩
  have k1 : RowC X N 44 [.int .u8 a0, .int .u8 a1] := by rw [← hX, ← hN]; exact (RowC.new w _ _).below (below_new _ _)
  have k2 : RowC X (N + 1) 44 [.int .u8 b0, .int .u8 b1] := by
    rw [← hX, ← hN]
    have := RowC.new (w.alloc (.cells #[.int .u8 a0, .int .u8 a1] 44)) 44 [.int .u8 b0, .int .u8 b1]
    rwa [World.size_alloc] at this
  have hXs : X.heap.size = N + 2 := by rw [← hX, ← hN]; simp
  have hXb : Below w.heap.size w X := by rw [← hX]; exact ((Below.refl _ w).alloc (Nat.le_refl _) _).alloc (by simp) _
  obtain ⟨f, hf⟩ : ∃ f, a0.tmod 40 = f := ⟨_, rfl⟩
  obtain ⟨c, hc⟩ : ∃ f, 1 + a1.tmod 8 = f := ⟨_, rfl⟩
  obtain ⟨g, hg⟩ : ∃ f, b0.tmod 40 = f := ⟨_, rfl⟩
  obtain ⟨d, hd⟩ : ∃ f, 1 + b1.tmod 8 = f := ⟨_, rfl⟩
  have hfb : 0 ≤ f ∧ f ≤ 39 := by rw [← hf, Int.tmod_eq_emod_of_nonneg (by omega)]; omega
  have hcb : 1 ≤ c ∧ c ≤ 8 := by rw [← hc, Int.tmod_eq_emod_of_nonneg (by omega)]; omega
  have hgb : 0 ≤ g ∧ g ≤ 39 := by rw [← hg, Int.tmod_eq_emod_of_nonneg (by omega)]; omega
  have hdb : 1 ≤ d ∧ d ≤ 8 := by rw [← hd, Int.tmod_eq_emod_of_nonneg (by omega)]; omega
  have wc : wrap64 (1 + a1.tmod 8) = c := by rw [hc]; exact IntWalk.wrap64_in _ (by omega)
  have wd : wrap64 (1 + b1.tmod 8) = d := by rw [hd]; exact IntWalk.wrap64_in _ (by omega)
  have hf' : a0 % 40 = f := by rw [← hf, Int.tmod_eq_emod_of_nonneg (by omega)]
  have hc' : 1 + a1 % 8 = c := by rw [← hc, Int.tmod_eq_emod_of_nonneg (by omega)]
  have hg' : b0 % 40 = g := by rw [← hg, Int.tmod_eq_emod_of_nonneg (by omega)]
  have hd' : 1 + b1 % 8 = d := by rw [← hd, Int.tmod_eq_emod_of_nonneg (by omega)]
  -- the two records
  have S1 := new_rc X (orR f c)
  rw [hXs] at S1
  obtain ⟨Y, hY⟩ : ∃ Y, X.alloc (.cells (rvL (orR f c)).toArray 39) = Y := ⟨_, rfl⟩
  rw [hY] at S1
  have bY : Below X.heap.size X Y := by rw [← hY]; exact below_new X _
  have rY : RowC Y (N + 2) 39 (rvL (orR f c)) := by rw [← hY, ← hXs]; exact RowC.new X _ _
  have hYs : Y.heap.size = N + 3 := by rw [← hY]; simp [hXs]
  have S2 := new_rc Y (orR g d)
  rw [hYs] at S2
  obtain ⟨Z, hZ⟩ : ∃ Z, Y.alloc (.cells (rvL (orR g d)).toArray 39) = Z := ⟨_, rfl⟩
  rw [hZ] at S2
  have bZ : Below Y.heap.size Y Z := by rw [← hZ]; exact below_new Y _
  have rZ1 : RowC Z (N + 2) 39 (rvL (orR f c)) := rY.below bZ
  have rZ2 : RowC Z (N + 3) 39 (rvL (orR g d)) := by rw [← hZ, ← hYs]; exact RowC.new Y _ _
  have hZs : Z.heap.size = N + 4 := by rw [← hZ]; simp [hYs]
  have HBZ : Hid (Below w.heap.size w Z) := hXb.trans ((bY.trans (bZ.mono bY.size)).mono hXb.size)
  have B0 := slice_rc2 Z (orR f c) (orR g d)
  rw [hZs] at B0
  obtain ⟨V1, hV1⟩ : ∃ V, Z.alloc (.cells (rvs [orR f c, orR g d]).toArray 39) = V := ⟨_, rfl⟩
  rw [hV1] at B0
  have hV1s : V1.heap.size = N + 5 := by rw [← hV1]; simp [hZs]
  have bV1 : Below Z.heap.size Z V1 := by rw [← hV1]; exact below_new Z _
  have rV1 : RowC V1 (N + 4) 39 (rvs [orR f c, orR g d]) := by rw [← hV1, ← hZs]; exact RowC.new Z _ _
  have T0 := new_sm V1 64 1 2 (some ⟨N + 4, 0, none⟩, 2, 2)
  rw [hV1s] at T0
  obtain ⟨V2, hV2⟩ : ∃ V, V1.alloc (.cells (smL 64 1 2 (some ⟨N + 4, 0, none⟩, 2, 2)).toArray 24) = V := ⟨_, rfl⟩
  rw [hV2] at T0
  have hV2s : V2.heap.size = N + 6 := by rw [← hV2]; simp [hV1s]
  have bV2 : Below V1.heap.size V1 V2 := by rw [← hV2]; exact below_new V1 _
  have rV2 : RowC V2 (N + 5) 24 (smL 64 1 2 (some ⟨N + 4, 0, none⟩, 2, 2)) := by rw [← hV2, ← hV1s]; exact RowC.new V1 _ _
  have m0 := or_sm (b := 64) (W := V2) (by omega) (or_row2 (rV1.below bV2) (orIs (f := f) (c := c) (by omega) (by omega)) (orIs (f := g) (c := d) (by omega) (by omega)))
  have B1 := slice_rc2 V2 (orR g d) (orR f c)
  rw [hV2s] at B1
  obtain ⟨V3, hV3⟩ : ∃ V, V2.alloc (.cells (rvs [orR g d, orR f c]).toArray 39) = V := ⟨_, rfl⟩
  rw [hV3] at B1
  have hV3s : V3.heap.size = N + 7 := by rw [← hV3]; simp [hV2s]
  have bV3 : Below V2.heap.size V2 V3 := by rw [← hV3]; exact below_new V2 _
  have rV3 : RowC V3 (N + 6) 39 (rvs [orR g d, orR f c]) := by rw [← hV3, ← hV2s]; exact RowC.new V2 _ _
  have T1 := new_sm V3 64 1 2 (some ⟨N + 6, 0, none⟩, 2, 2)
  rw [hV3s] at T1
  obtain ⟨V4, hV4⟩ : ∃ V, V3.alloc (.cells (smL 64 1 2 (some ⟨N + 6, 0, none⟩, 2, 2)).toArray 24) = V := ⟨_, rfl⟩
  rw [hV4] at T1
  have hV4s : V4.heap.size = N + 8 := by rw [← hV4]; simp [hV3s]
  have bV4 : Below V3.heap.size V3 V4 := by rw [← hV4]; exact below_new V3 _
  have rV4 : RowC V4 (N + 7) 24 (smL 64 1 2 (some ⟨N + 6, 0, none⟩, 2, 2)) := by rw [← hV4, ← hV3s]; exact RowC.new V3 _ _
  have m1 := or_sm (b := 64) (W := V4) (by omega) (or_row2 (rV3.below bV4) (orIs (f := g) (c := d) (by omega) (by omega)) (orIs (f := f) (c := c) (by omega) (by omega)))
  have B2 := slice_rc2 V4 (orR f c) (orR f c)
  rw [hV4s] at B2
  obtain ⟨V5, hV5⟩ : ∃ V, V4.alloc (.cells (rvs [orR f c, orR f c]).toArray 39) = V := ⟨_, rfl⟩
  rw [hV5] at B2
  have hV5s : V5.heap.size = N + 9 := by rw [← hV5]; simp [hV4s]
  have bV5 : Below V4.heap.size V4 V5 := by rw [← hV5]; exact below_new V4 _
  have rV5 : RowC V5 (N + 8) 39 (rvs [orR f c, orR f c]) := by rw [← hV5, ← hV4s]; exact RowC.new V4 _ _
  have T2 := new_sm V5 64 1 2 (some ⟨N + 8, 0, none⟩, 2, 2)
  rw [hV5s] at T2
  obtain ⟨V6, hV6⟩ : ∃ V, V5.alloc (.cells (smL 64 1 2 (some ⟨N + 8, 0, none⟩, 2, 2)).toArray 24) = V := ⟨_, rfl⟩
  rw [hV6] at T2
  have hV6s : V6.heap.size = N + 10 := by rw [← hV6]; simp [hV5s]
  have bV6 : Below V5.heap.size V5 V6 := by rw [← hV6]; exact below_new V5 _
  have rV6 : RowC V6 (N + 9) 24 (smL 64 1 2 (some ⟨N + 8, 0, none⟩, 2, 2)) := by rw [← hV6, ← hV5s]; exact RowC.new V5 _ _
  have m2 := or_sm (b := 64) (W := V6) (by omega) (or_row2 (rV5.below bV6) (orIs (f := f) (c := c) (by omega) (by omega)) (orIs (f := f) (c := c) (by omega) (by omega)))
  have bZ2 : Below Z.heap.size Z V2 := bV1.trans (bV2.mono bV1.size)
  have bZ4 : Below Z.heap.size Z V4 := bZ2.trans ((bV3.trans (bV4.mono bV3.size)).mono bZ2.size)
  have b24 : Below V2.heap.size V2 V4 := bV3.trans (bV4.mono bV3.size)
  have b46 : Below V4.heap.size V4 V6 := bV5.trans (bV6.mono bV5.size)
  have b26 : Below V2.heap.size V2 V6 := b24.trans (b46.mono b24.size)
  have bZ6 : Below Z.heap.size Z V6 := bZ4.trans (b46.mono bZ4.size)
  have lZ1 := load_rcC rZ1
  have lZ2 := load_rcC rZ2
  have l21 := load_rcC (rZ1.below bZ2)
  have l22 := load_rcC (rZ2.below bZ2)
  have l41 := load_rcC (rZ1.below bZ4)
  have p0 := (rZ1.below bZ2).cell 0 _ rfl
  have p1 := (rZ1.below bZ2).cell 1 _ rfl
  have q0 := (rZ2.below bZ2).cell 0 _ rfl
  have o0 := (rZ1.below bZ4).cell 0 _ rfl
  have s0 := (rZ2.below bZ4).cell 0 _ rfl
  have s1 := (rZ2.below bZ4).cell 1 _ rfl
  have HB6 : Hid (Below w.heap.size w V6) := HBZ.out.trans (bZ6.mono HBZ.out.size)
  have HR1 : Hid (RowC V6 (N + 2) 39 (rvL (orR f c))) := rZ1.below bZ6
  have HLX : Hid (∀ x : World, Below V6.heap.size V6 x → (loadVar 24 ⟨N + 5, 0, none⟩).run Try.prog x = .ok (smV 64 1 2 (some ⟨N + 4, 0, none⟩, 2, 2)) x) := fun x hx => load_smC (rV2.below (b26.trans (hx.mono b26.size)))
  have HLY : Hid (∀ x : World, Below V6.heap.size V6 x → (loadVar 24 ⟨N + 7, 0, none⟩).run Try.prog x = .ok (smV 64 1 2 (some ⟨N + 6, 0, none⟩, 2, 2)) x) := fun x hx => load_smC (rV4.below (b46.trans (hx.mono b46.size)))
  have HLZ : Hid (∀ x : World, Below V6.heap.size V6 x → (loadVar 24 ⟨N + 9, 0, none⟩).run Try.prog x = .ok (smV 64 1 2 (some ⟨N + 8, 0, none⟩, 2, 2)) x) := fun x hx => load_smC (rV6.below hx)
  have HGX : Hid (∀ x : World, Below V6.heap.size V6 x → Calls Try.prog 12 #[smV 64 1 2 (some ⟨N + 4, 0, none⟩, 2, 2)] x fun e w' => e = .returned (.bool (decide (f + c < g))) ∧ Below x.heap.size x w') := fun x hx => (sm_good (m0.below (b26.trans (hx.mono b26.size)))).mono fun e w' h => (by
    obtain ⟨t, rfl, ht, hb⟩ := h
    rw [or_two (by omega) (by omega) (by omega) (by omega)] at ht
    exact ⟨by congr 2; rw [Bool.eq_iff_iff]; simpa using ht, hb⟩)
  have HGY : Hid (∀ x : World, Below V6.heap.size V6 x → Calls Try.prog 12 #[smV 64 1 2 (some ⟨N + 6, 0, none⟩, 2, 2)] x fun e w' => e = .returned (.bool (decide (g + d < f))) ∧ Below x.heap.size x w') := fun x hx => (sm_good (m1.below (b46.trans (hx.mono b46.size)))).mono fun e w' h => (by
    obtain ⟨t, rfl, ht, hb⟩ := h
    rw [or_two (by omega) (by omega) (by omega) (by omega)] at ht
    exact ⟨by congr 2; rw [Bool.eq_iff_iff]; simpa using ht, hb⟩)
  have HGZ : Hid (∀ x : World, Below V6.heap.size V6 x → Calls Try.prog 12 #[smV 64 1 2 (some ⟨N + 8, 0, none⟩, 2, 2)] x fun e w' => e = .returned (.bool false) ∧ Below x.heap.size x w') := fun x hx => calls_no (sm_good (m2.below hx)) (by rw [or_two (by omega) (by omega) (by omega) (by omega)]; omega)
  have HIS : Hid (∀ x : World, RcIs x (orR f c) (orZ f c)) := fun x => orIs (by omega) (by omega)
  have HGD : Hid (sGood ⟨64, 1, 2, [orZ f c]⟩) := (or_one (by omega) (by omega) (by omega)).2 (by omega)
  have wfc : wrap64 (f + c) = f + c := IntWalk.wrap64_in _ (by omega)
  have wgd : wrap64 (g + d) = g + d := IntWalk.wrap64_in _ (by omega)
  have HWK := Lib.hid sm_wakes
  have L0 := HLX.out V6 (Below.refl _ _)
  have C0 := Lib.hid (HGX.out V6 (Below.refl _ _))
  have GB0 := Lib.hid B0
  have GB1 := Lib.hid B1
  have GB2 := Lib.hid B2
  have GD0 := trivial
  have GD1 := trivial
  have GD2 := trivial
  have c0 := k1.cell 0 _ rfl
  have c1 := k1.cell 1 _ rfl
  have d0 := (k2.below bY).cell 0 _ rfl
  have d1 := (k2.below bY).cell 1 _ rfl
  clear k1 k2 rY rZ1 rZ2 bY bZ wa0 wa1 wb0 wb1 w0 w1 hXb bZ2 bZ4 b24 b46 b26 bZ6 m0 m1 m2 rV1 rV2 rV3 rV4 rV5 rV6 bV1 bV2 bV3 bV4 bV5 bV6 B0 B1 B2
  have hbf := hfb.1
  have HFB := Lib.hid hfb
  have HCB := Lib.hid hcb
  have HGB := Lib.hid hgb
  have HDB := Lib.hid hdb
  simp only [rvV, rvL, orR, slV, smV] at S1 S2 GB0 GB1 GB2 T0 T1 T2 lZ1 lZ2 l21 l22 l41 L0 C0 HGX HGY HGZ HLX HLY HLZ
  simp only [rvL, orR] at p0 p1 q0 o0 s0 s1
  go_enter Try.func6, Try.ntmps6
  go_wp2_with ((with_reducible refine gate_build ?_); first | (clear GD0; refine wpList_build_run 22 2 _ rfl rfl [(0, _), (1, _)] _ rfl GB0.out ?_) | (clear GD1; refine wpList_build_run 22 2 _ rfl rfl [(0, _), (1, _)] _ rfl GB1.out ?_) | (clear GD2; refine wpList_build_run 22 2 _ rfl rfl [(0, _), (1, _)] _ rfl GB2.out ?_))
  obtain ⟨o1, ho1⟩ : ∃ o, decide (f + c < g) = o := ⟨_, rfl⟩
  obtain ⟨o2, ho2⟩ : ∃ o, decide (g + d < f) = o := ⟨_, rfl⟩
  rw [ho1] at C0 ⊢
  rw [ho2] at HGY ⊢
  have qa : (o1 == o1) = true := by simp
  have qb : (o2 == o2) = true := by simp
  have HV : Hid (Below V6.heap.size V6 V6) := Below.refl _ _
  refine C0.out.mono ?_
  rintro e y1 ⟨rfl, hy⟩
  have H1 : Hid (Below V6.heap.size V6 y1) := hy
  have L1 := HLY.out y1 H1.out
  have C1 := Lib.hid (HGY.out y1 H1.out)
  clear hy C0 L0 ho1 ho2 GB0 GB1 GB2 S1 S2 T0 T1 T2 c0 c1 d0 d1 p0 p1 q0 o0 s0 s1 lZ1 lZ2 l21 l22 l41
  go_wp2_with fail
  refine C1.out.mono ?_
  rintro e y2 ⟨rfl, hy⟩
  have H2 : Hid (Below V6.heap.size V6 y2) := H1.out.trans (hy.mono H1.out.size)
  have L2 := HLZ.out y2 H2.out
  have C2 := Lib.hid (HGZ.out y2 H2.out)
  clear hy C1 L1
  go_wp2_with fail
  refine C2.out.mono ?_
  rintro e y3 ⟨rfl, hy⟩
  have H3 : Hid (Below V6.heap.size V6 y3) := H2.out.trans (hy.mono H2.out.size)
  have L3 := load_rcC (HR1.out.below H3.out)
  have B3 := slice_rc1 y3 (orR f c)
  obtain ⟨M, hM⟩ : ∃ M, y3.heap.size = M := ⟨_, rfl⟩
  obtain ⟨y4, hy4⟩ : ∃ V, y3.alloc (.cells (rvL (orR f c)).toArray 39) = V := ⟨_, rfl⟩
  rw [hy4, hM] at B3
  have b4 : Below y3.heap.size y3 y4 := by rw [← hy4]; exact below_new y3 _
  have r4 : RowC y4 M 39 (rvs [orR f c]) := by rw [← hy4, ← hM]; exact RowC.new y3 _ _
  have H4 : Hid (Below V6.heap.size V6 y4) := H3.out.trans (b4.mono H3.out.size)
  have C3 := Lib.hid (calls_yes (sm_good (or_sm (b := 64) (by omega) (or_row1 r4 (HIS.out y4)))) HGD.out)
  have GB3 := Lib.hid B3
  have GD3 := trivial
  simp only [rvV, rvL, orR, slV, smV] at L3 GB3 C3
  clear hy C2 L2 b4 r4 B3 hy4
  go_wp2_with ((with_reducible refine gate_build ?_); (clear GD3; refine wpList_build_run 22 1 _ rfl rfl [(0, _)] _ rfl GB3.out ?_))
  refine C3.out.mono ?_
  rintro e y5 ⟨rfl, hy⟩
  have H5 : Hid (Below V6.heap.size V6 y5) := H4.out.trans (hy.mono H4.out.size)
  clear hy C3 L3
  go_wp2_with fail
  refine (HWK.out y5).mono ?_
  rintro e zz ⟨rfl, hy⟩
  have HFIN : Hid (Below w.heap.size w zz) := HB6.out.trans ((H5.out.trans (hy.mono H5.out.size)).mono HB6.out.size)
  clear hy
  go_wp2_with fail
  go_ret
  exact ⟨rfl, HFIN.out⟩

set_option maxRecDepth 100000 in
theorem lifted (os : Os) (started : os.Started) (H : Type) (enc : TypeId × Value → H) :
    ReturnsInHanded {} Try.checked os 6 .any (Rows.streamOrderSpec.pre6 enc Try.prog Try.f6 Rows.streamOrderRow.domain false) (Rows.streamOrderSpec.post enc Try.prog Try.f6 false true false false) := by
  refine returnsInHanded_of_change (C := Try.checked) own started (by kernel_rfl) Try.func6
    (ChangeSpec.witness6 (enc := enc) (C := Try.checked) false ⟨#[], #[.agg #[.int .u8 0, .int .u8 0], .agg #[.int .u8 0, .int .u8 0]], []⟩ 8 (by kernel_rfl) (by kernel_rfl) (by kernel_rfl) (by kernel_rfl)) ?_
  intro W base args ds gs before hval0 hW hcnd _
  have hval : ∀ (j : Nat) t v, Try.f6.params[j]? = some t → args[j]? = some v → Value.okWide Try.prog W .any base t v := hval0
  have hW' := hW
  obtain ⟨p, q, hA0, hV, rfl, hfz, hnd⟩ := hW
  have hA : DataW.TrodAll enc Try.prog W 0 (fun _ => true) true Try.f6.params.toList args.toList ds p := hA0
  rw [Try.params6] at hA hval
  obtain ⟨v0, vs0, d0, ds0, p0, q0, hargs, rfl, rfl, h0, r0⟩ := trodAll_cons hA
  obtain ⟨v1, vs1, d1, ds1, p1, q1, rfl, rfl, rfl, h1, r1⟩ := trodAll_cons r0
  obtain ⟨rfl, rfl, rfl⟩ := trodAll_nil r1
  obtain rfl : args = #[v0, v1] := by cases args; simp_all
  obtain ⟨rfl, rfl⟩ := trodVars_none hV
  have lt0 : ∀ x ∈ p0, x.block < W.heap.size := by obtain ⟨m, hm⟩ := h0; exact DataW.trod_lt m _ _ _ hm
  have a0 := Arg.mk (hval 0 44 v0 rfl rfl) h0
  have lt1 : ∀ x ∈ p1, x.block < W.heap.size := by obtain ⟨m, hm⟩ := h1; exact DataW.trod_lt m _ _ _ hm
  have a1 := Arg.mk (hval 1 44 v1 rfl rfl) h1
  clear hA0 hval0
  refine (walk v0 v1 W a0 a1).mono fun e W' ⟨he, bel⟩ => ?_
  subst he
  exact ⟨_, rfl, _, _, _, [], _, [], hW', trodAll_mk1 (shut_bool Try.underlying4 _), (trodAll_cons_mk (Below.trod laidOut (by kernel_rfl) (of_decide_eq_true (by kernel_rfl)) h0 bel lt0) (trodAll_cons_mk (Below.trod laidOut (by kernel_rfl) (of_decide_eq_true (by kernel_rfl)) h1 bel lt1) trodAll_mk0)), rfl, bel.frame _, fun h => by cases h⟩

set_option maxRecDepth 100000 in
theorem over : Rows.streamOrderRow.holds Try.pinned (OpenSpec.ofChange Rows.streamOrderSpec) :=
  OpenClaim.holds_of_wide 6 Try.f6 rfl rfl rfl rfl rfl rfl rfl ⟨rfl, rfl, rfl, rfl, rfl⟩ rfl rfl rfl rfl rfl (by kernel_rfl) Try.func6 (by kernel_rfl)
    (of_decide_eq_true (by kernel_rfl)) (by unfold Func.isWrapper; first | (rw [if_pos (by decide +kernel)]; kernel_rfl) | (rw [if_neg (by decide +kernel)]; exact ⟨rfl, rfl⟩))
    (fun os started H enc _ => lifted os started H enc)

theorem proved : Rows.StreamOrderSaid := over
#print axioms proved
end Go.Proofs.Ytlnljanhnodhkaa.streamOrder
