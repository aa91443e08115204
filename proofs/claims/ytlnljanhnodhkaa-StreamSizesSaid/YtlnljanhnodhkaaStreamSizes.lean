/- sentence -/
import Derived.Test.YtlnljanhnodhkaaSmSz
namespace Go.Proofs.Ytlnljanhnodhkaa.streamSizes
open Go.ChangeShapes Go.WideShapes Go.ChangeAt Go.RowKit
set_option linter.unusedVariables false
set_option linter.unusedSimpArgs false
attribute [-simp] Try.isAgg39 Try.zeroValue39 Try.isAgg24 Try.zeroValue24 Try.isAgg41 Try.zeroValue41
attribute [-go_sem] loadVar storeVar
attribute [local go_sem] loadVar_openRSB storeVar_openRSB zero_rc zero_smB zero_blk build_rcZ build_rcD build_sm3 build_sm4 build_sm2

set_option maxRecDepth 100000 in
set_option maxHeartbeats 8000000 in
theorem walk (v0 v1 v2 : Value) (w : World) (w0 : Arg w 5 v0) (w1 : Arg w 5 v1) (w2 : Arg w 5 v2) :
    Calls Try.prog 5 #[v0, v1, v2] w fun e w' => e = .returned (.bool true) ∧ Below w.heap.size w w' := by
  obtain ⟨a0, rfl, wa0⟩ := w0.int Try.underlying5
  obtain ⟨a1, rfl, wa1⟩ := w1.int Try.underlying5
  obtain ⟨a2, rfl, wa2⟩ := w2.int Try.underlying5
  have ha0 := bounds_u8 wa0
  have ha1 := bounds_u8 wa1
  have ha2 := bounds_u8 wa2
  obtain ⟨n, hn⟩ : ∃ n, 1 + a0 % 64 = n := ⟨_, rfl⟩
  have hnb : 1 ≤ n ∧ n ≤ 64 := by omega
  obtain ⟨f, hf⟩ : ∃ f, a1 % n = f := ⟨_, rfl⟩
  have hfb : 0 ≤ f ∧ f < n := by rw [← hf]; exact ⟨Int.emod_nonneg _ (by omega), Int.emod_lt_of_pos _ (by omega)⟩
  have hcx : 0 ≤ a2 % (n - f) ∧ a2 % (n - f) < n - f := ⟨Int.emod_nonneg _ (by omega), Int.emod_lt_of_pos _ (by omega)⟩
  obtain ⟨k, hk⟩ : ∃ k : Nat, 1 + a2 % (n - f) = (k : Int) := ⟨(1 + a2 % (n - f)).toNat, by omega⟩
  have hkb : 1 ≤ k ∧ f + k ≤ n := by omega
  have t0 : a0.tmod 64 = a0 % 64 := Int.tmod_eq_emod_of_nonneg (by omega)
  have t1 : a1.tmod n = f := by rw [Int.tmod_eq_emod_of_nonneg (by omega)]; exact hf
  have wnf : wrap64 (n - f) = n - f := IntWalk.wrap64_in _ (by omega)
  have t2 : a2.tmod (n - f) = a2 % (n - f) := Int.tmod_eq_emod_of_nonneg (by omega)
  have wk : wrap64 (1 + a2 % (n - f)) = (k : Int) := by rw [hk]; exact IntWalk.wrap64_in _ (by omega)
  have z1 : ¬ n = 0 := by omega
  have z2 : ¬ n - f = 0 := by omega
  have z3 : (n == 0) = false := by simpa using z1
  have z4 : (n - f == 0) = false := by simpa using z2
  obtain ⟨N, hN⟩ : ∃ N, w.heap.size = N := ⟨_, rfl⟩
  have HNB := Lib.hid hnb
  have HFB := Lib.hid hfb
  have HKB := Lib.hid hkb
  -- the first
  have B0 := slice_rc1 w (orR f k)
  rw [hN] at B0
  obtain ⟨V1, hV1⟩ : ∃ V, w.alloc (.cells (rvL (orR f k)).toArray 39) = V := ⟨_, rfl⟩
  rw [hV1] at B0
  have b1 : Below w.heap.size w V1 := by rw [← hV1]; exact below_new w _
  have r1 : RowC V1 N 39 (rvs [orR f k]) := by rw [← hV1, ← hN]; exact RowC.new w _ _
  have H1 := Lib.hid b1
  have m0 : Smi V1 (smV n 1 2 (some ⟨N, 0, none⟩, 1, 1)) ⟨n, 1, 2, [orZ f k]⟩ := sz_sm (by omega) (by omega) (or_row1 r1 (orIs (by omega) (by omega)))
  have C0 := Lib.hid (sm_encode m0 ((or_one (by omega) (by omega) (by omega)).2 (by omega)))
  have GB0 := Lib.hid B0
  have GD0 := trivial
  simp only [rvV, rvL, orR, slV, smV] at GB0 C0
  have HWK := Lib.hid sm_wakes
  clear wa0 wa1 wa2 w0 w1 w2 b1 r1 m0 hV1 B0 hcx
  go_enter Try.func5, Try.ntmps5
  go_wp2_with ((with_reducible refine gate_build ?_); (clear GD0; refine wpList_build_run 22 1 _ rfl rfl [(0, _)] _ rfl GB0.out ?_))
  refine C0.out.mono ?_
  rintro e y1 ⟨u1, rfl, o1, hy⟩
  obtain ⟨⟨x1, l1, e1⟩, rfl, hl1⟩ := own_slV o1
  rw [sz_len1] at hl1
  simp only at hl1
  subst hl1
  have K1 : Hid (Below w.heap.size w y1) := H1.out.trans (hy.mono H1.out.size)
  have HF := Lib.hid (fill_any 3 y1)
  clear C0 o1 hy GB0
  simp only [slV]
  go_wp2_with fail
  refine HF.out.mono ?_
  rintro e y2 ⟨rfl, hy⟩
  have K2 : Hid (Below w.heap.size w y2) := K1.out.trans (hy.mono K1.out.size)
  obtain ⟨D, hD⟩ : ∃ D, y2.heap.size = D := ⟨_, rfl⟩
  have SF := store_fill y2 3
  obtain ⟨Y, hY⟩ : ∃ Y, y2.alloc (.cells (fillB 3).toArray 41) = Y := ⟨_, rfl⟩
  rw [hY, hD] at SF
  have rY : RowC Y D 41 (fillB 3) := by rw [← hY, ← hD]; exact RowC.new y2 _ _
  have bY : Below y2.heap.size y2 Y := by rw [← hY]; exact below_new y2 _
  have HW : Hid (Below w.heap.size w Y) := K2.out.trans (bY.mono K2.out.size)
  have RY := Lib.hid rY
  have OY : Hid (OwnB Y Y (slV (none, 0, 0)) (List.replicate (64 * 0) 3)) := World.ownsRow_nil _ _ _ _
  clear HF hy rY bY
  go_wp2_with fail
  clear SF hY hD hn hf hk t0 t1 t2 wk z1 z2 z3 z4 ha0 ha1 ha2 wnf
  have hk64 : (k : Int) ≤ 64 := by have := HKB.out; have := HFB.out; have := HNB.out; omega
  have HK64 := Lib.hid hk64
  clear hnb hfb hkb
  go_loopw [13, 14] (fun dv iv wr => ∃ (j : Nat) (u : SlV), j ≤ k ∧ iv = .int .i64 (j : Int) ∧ dv = slV u ∧ Hid (OwnB Y wr (slV u) (List.replicate (64 * j) 3)) ∧ Hid (Below Y.heap.size Y wr)) (fun _ iv _ => k - (intOf iv).toNat)
  case atStart => exact ⟨0, (none, 0, 0), Nat.zero_le _, rfl, rfl, OY, Below.refl _ _⟩
  case round =>
    obtain ⟨j, ⟨da, dn, dc⟩, hj, rfl, rfl, HO, HB⟩ := hrel
    by_cases hlt : j < k
    · have g1 : (j : Int) < (k : Int) := by omega
      have HLT := Lib.hid hlt
      have HW1 : Hid (wrap64 ((j : Int) + 1) = (j : Int) + 1) := IntWalk.wrap64_in _ (by omega)
      obtain ⟨v', x', R, O, HB'⟩ := OwnB.app HO.out HB.out (sl_fill (RY.out.below HB.out)) (by simp; omega)
      rw [rep_app] at O
      obtain ⟨u', rfl, -⟩ := own_slV O.out
      simp only [slV] at R ⊢
      have w1 := HW1.out
      clear hlt HNB HFB HKB HK64
      go_wp2_with (at_builtin; refine wpList_append_run (.tmp 52) (.tmp 53) 25 rfl rfl _ _ _ rfl rfl R.out ?_)
      go_roundw
      case rel => exact ⟨j + 1, u', HLT.out, by first | (simp; done) | (rw [HW1.out]; simp), rfl, O, HB'⟩
      case measure => have := HLT.out; first | (simp [intOf]; omega) | (rw [HW1.out]; simp [intOf]; omega)
    · have g1 : ¬ (j : Int) < (k : Int) := by omega
      obtain rfl : j = k := by omega
      have hdn : dn = 64 * j := by obtain ⟨q, e, e2⟩ := own_slV HO.out; simp only [slV, Value.slice.injEq] at e; simp at e2; omega
      have HDN := Lib.hid hdn
      obtain ⟨gg, rfl⟩ : ∃ gg : Nat, da = some ⟨gg, 0, none⟩ := by
        obtain ⟨ra, c', e', h'⟩ := row_lenT HO.out
        simp only [slV, Value.slice.injEq] at e'
        obtain ⟨gg, e2, -⟩ := h' (by have := HKB.out; simp; omega)
        exact ⟨gg, e'.1.trans e2⟩
      have HSL : Hid (∀ x : World, Below wr.heap.size wr x → Sl .u8 x (slV (some ⟨gg, 0, none⟩, dn, dc)) (List.replicate (64 * j) 3)) := fun x hx => (OwnB.sl HO.out).below hx
      have HBW : Hid (Below w.heap.size w wr) := HW.out.trans (HB.out.mono HW.out.size)
      have hnb := HNB.out
      have hfb := HFB.out
      have hkb := HKB.out
      obtain ⟨M, hM⟩ : ∃ M, wr.heap.size = M := ⟨_, rfl⟩
      have B1 := slice_rc1 wr (f, j, false, (some ⟨gg, 0, none⟩, dn, dc))
      rw [hM] at B1
      obtain ⟨V3, hV3⟩ : ∃ V, wr.alloc (.cells (rvL (f, j, false, (some ⟨gg, 0, none⟩, dn, dc))).toArray 39) = V := ⟨_, rfl⟩
      rw [hV3] at B1
      have b3 : Below wr.heap.size wr V3 := by rw [← hV3]; exact below_new wr _
      have r3 : RowC V3 M 39 (rvs [(f, (j : Int), false, (some ⟨gg, 0, none⟩, dn, dc))]) := by rw [← hV3, ← hM]; exact RowC.new wr _ _
      have G3 := Lib.hid b3
      have m1 : Smi V3 (smV n (-1) 2 (some ⟨M, 0, none⟩, 1, 1)) ⟨n, -1, 2, [szR f j (List.replicate (64 * j) 3)]⟩ := sz_sm (by omega) (by omega) (or_row1 r3 (szIs (by omega) (by omega) (HSL.out V3 b3) (isBytes_rep (by decide))))
      have C1 := Lib.hid (sm_encode m1 (sz_good (by omega) (by omega) (by omega) (by omega)))
      have GB1 := Lib.hid B1
      have GD1 := trivial
      simp only [rvV, rvL, orR, slV, smV] at GB1 C1
      clear hlt hj hnb hfb hkb hdn B1 b3 r3 m1 hV3 hk64
      simp only [slV]
      go_wp2_with ((with_reducible refine gate_build ?_); (clear GD1; refine wpList_build_run 22 1 _ rfl rfl [(0, _)] _ rfl GB1.out ?_))
      refine C1.out.mono ?_
      rintro e y5 ⟨u2, rfl, o2, hy⟩
      obtain ⟨⟨x2, l2, e2⟩, rfl, hl2⟩ := own_slV o2
      rw [sz_len2] at hl2
      simp only at hl2
      have HL2 := Lib.hid hl2
      have G5 : Hid (Below wr.heap.size wr y5) := G3.out.trans (hy.mono G3.out.size)
      have g64 : (64 : Int) ≤ (dn : Int) := by have := HDN.out; have := HKB.out; omega
      clear C1 o2 hy GB1 hl2
      by_cases hdc : dc = 64
      · subst hdc
        obtain ⟨M5, hM5⟩ : ∃ M, y5.heap.size = M := ⟨_, rfl⟩
        have B2 := slice_rc1 y5 (f, j, false, (some ⟨gg, 0, none⟩, dn - 64, 0))
        rw [hM5] at B2
        obtain ⟨V6, hV6⟩ : ∃ V, y5.alloc (.cells (rvL (f, j, false, (some ⟨gg, 0, none⟩, dn - 64, 0))).toArray 39) = V := ⟨_, rfl⟩
        rw [hV6] at B2
        have b6 : Below y5.heap.size y5 V6 := by rw [← hV6]; exact below_new y5 _
        have r6 : RowC V6 M5 39 (rvs [(f, (j : Int), false, (some ⟨gg, 0, none⟩, dn - 64, 0))]) := by rw [← hV6, ← hM5]; exact RowC.new y5 _ _
        have G6 : Hid (Below wr.heap.size wr V6) := G5.out.trans (b6.mono G5.out.size)
        have hnb := HNB.out
        have hfb := HFB.out
        have hkb := HKB.out
        have st : Sl .u8 V6 (slV (some ⟨gg, 0, none⟩, dn - 64, 0)) ((List.replicate (64 * j) 3).drop 64) := sl_tail0 (HSL.out V6 G6.out) (by omega)
        have ib : IsBytes ((List.replicate (64 * j) (3 : Int)).drop 64) := by rw [List.drop_replicate]; exact isBytes_rep (by decide)
        have m2 : Smi V6 (smV n (-1) 2 (some ⟨M5, 0, none⟩, 1, 1)) ⟨n, -1, 2, [szR f j ((List.replicate (64 * j) 3).drop 64)]⟩ := sz_sm (by omega) (by omega) (or_row1 r6 (szIs (by omega) (by omega) st ib))
        have C2 := Lib.hid (sm_encodeN m2 (sz_bad (by rw [List.length_drop, List.length_replicate]; omega)))
        have GB2 := Lib.hid B2
        have hV6' : y5.alloc (.cells #[.int .i64 f, .int .i64 (j : Int), .bool false, .slice (some ⟨gg, 0, none⟩) (dn - 64) 0] 39) = V6 := hV6
        have GD2 := trivial
        simp only [rvV, rvL, orR, slV, smV] at GB2 C2
        clear B2 b6 r6 hV6 hnb hfb hkb st ib m2 GD2 GB2
        simp only [slV]
        go_wp2_with fail
        clear hV6' hM5
        refine C2.out.mono ?_
        rintro e y7 ⟨rfl, hy⟩
        have G7 : Hid (Below wr.heap.size wr y7) := G6.out.trans (hy.mono G6.out.size)
        have hnb := HNB.out
        have hfb := HFB.out
        have hkb := HKB.out
        obtain ⟨c9, hc9⟩ : ∃ c, n - f + 1 = c := ⟨_, rfl⟩
        have v1 : wrap64 (n - f) = n - f := IntWalk.wrap64_in _ (by omega)
        have v2 : wrap64 c9 = c9 := IntWalk.wrap64_in _ (by omega)
        obtain ⟨M7, hM7⟩ : ∃ M, y7.heap.size = M := ⟨_, rfl⟩
        have B3 := slice_rc1 y7 (orR f c9)
        rw [hM7] at B3
        obtain ⟨V8, hV8⟩ : ∃ V, y7.alloc (.cells (rvL (orR f c9)).toArray 39) = V := ⟨_, rfl⟩
        rw [hV8] at B3
        have b8 : Below y7.heap.size y7 V8 := by rw [← hV8]; exact below_new y7 _
        have r8 : RowC V8 M7 39 (rvs [orR f c9]) := by rw [← hV8, ← hM7]; exact RowC.new y7 _ _
        have G8 : Hid (Below wr.heap.size wr V8) := G7.out.trans (b8.mono G7.out.size)
        have m3 : Smi V8 (smV n 1 2 (some ⟨M7, 0, none⟩, 1, 1)) ⟨n, 1, 2, [orZ f c9]⟩ := sz_sm (by omega) (by omega) (or_row1 r8 (orIsL (by omega) (by omega)))
        have C3 := Lib.hid (sm_encodeN m3 (fun h => by have := (or_one (b := n) (f := f) (c := c9) (by omega) (by omega) (by omega)).1 h; omega))
        have GB3 := Lib.hid B3
        have GD3 := trivial
        simp only [rvV, rvL, orR, slV, smV] at GB3 C3
        clear C2 hy B3 b8 r8 hV8 hM7 hnb hfb hkb m3
        go_wp2_with ((with_reducible refine gate_build ?_); (clear GD3; refine wpList_build_run 22 1 _ rfl rfl [(0, _)] _ rfl GB3.out ?_))
        refine C3.out.mono ?_
        rintro e y9 ⟨rfl, hy⟩
        have G9 : Hid (Below wr.heap.size wr y9) := G8.out.trans (hy.mono G8.out.size)
        have HY : Hid (Below w.heap.size w y9) := HBW.out.trans (G9.out.mono HBW.out.size)
        have hj64 : wrap64 ((j : Int) * 64) = (j : Int) * 64 := IntWalk.wrap64_in _ (by have := HKB.out; have := HFB.out; have := HNB.out; omega)
        have hj46 : wrap64 (46 + (j : Int) * 64) = 46 + (j : Int) * 64 := IntWalk.wrap64_in _ (by have := HKB.out; have := HFB.out; have := HNB.out; omega)
        have hq : ((l2 : Int) == 46 + (j : Int) * 64) = true := by have := HL2.out; simp; omega
        clear C3 hy GB3 v1 v2 hc9
        go_wp2_with fail
        refine (HWK.out y9).mono ?_
        rintro e zz ⟨rfl, hzz⟩
        have HFIN : Hid (Below w.heap.size w zz) := HY.out.trans (hzz.mono HY.out.size)
        clear hzz
        go_wp2_with fail
        go_ret
        exact ⟨rfl, HFIN.out⟩
      · obtain ⟨M5, hM5⟩ : ∃ M, y5.heap.size = M := ⟨_, rfl⟩
        have B2 := slice_rc1 y5 (f, j, false, (some ⟨gg, 64, none⟩, dn - 64, dc - 64))
        rw [hM5] at B2
        obtain ⟨V6, hV6⟩ : ∃ V, y5.alloc (.cells (rvL (f, j, false, (some ⟨gg, 64, none⟩, dn - 64, dc - 64))).toArray 39) = V := ⟨_, rfl⟩
        rw [hV6] at B2
        have b6 : Below y5.heap.size y5 V6 := by rw [← hV6]; exact below_new y5 _
        have r6 : RowC V6 M5 39 (rvs [(f, (j : Int), false, (some ⟨gg, 64, none⟩, dn - 64, dc - 64))]) := by rw [← hV6, ← hM5]; exact RowC.new y5 _ _
        have G6 : Hid (Below wr.heap.size wr V6) := G5.out.trans (b6.mono G5.out.size)
        have hnb := HNB.out
        have hfb := HFB.out
        have hkb := HKB.out
        have st : Sl .u8 V6 (slV (some ⟨gg, 64, none⟩, dn - 64, dc - 64)) ((List.replicate (64 * j) 3).drop 64) := sl_tail (HSL.out V6 G6.out) (by omega)
        have ib : IsBytes ((List.replicate (64 * j) (3 : Int)).drop 64) := by rw [List.drop_replicate]; exact isBytes_rep (by decide)
        have m2 : Smi V6 (smV n (-1) 2 (some ⟨M5, 0, none⟩, 1, 1)) ⟨n, -1, 2, [szR f j ((List.replicate (64 * j) 3).drop 64)]⟩ := sz_sm (by omega) (by omega) (or_row1 r6 (szIs (by omega) (by omega) st ib))
        have C2 := Lib.hid (sm_encodeN m2 (sz_bad (by rw [List.length_drop, List.length_replicate]; omega)))
        have GB2 := Lib.hid B2
        have hV6' : y5.alloc (.cells #[.int .i64 f, .int .i64 (j : Int), .bool false, .slice (some ⟨gg, 64, none⟩) (dn - 64) (dc - 64)] 39) = V6 := hV6
        have GD2 := trivial
        simp only [rvV, rvL, orR, slV, smV] at GB2 C2
        clear B2 b6 r6 hV6 hnb hfb hkb st ib m2 GD2 GB2
        simp only [slV]
        go_wp2_with fail
        clear hV6' hM5
        refine C2.out.mono ?_
        rintro e y7 ⟨rfl, hy⟩
        have G7 : Hid (Below wr.heap.size wr y7) := G6.out.trans (hy.mono G6.out.size)
        have hnb := HNB.out
        have hfb := HFB.out
        have hkb := HKB.out
        obtain ⟨c9, hc9⟩ : ∃ c, n - f + 1 = c := ⟨_, rfl⟩
        have v1 : wrap64 (n - f) = n - f := IntWalk.wrap64_in _ (by omega)
        have v2 : wrap64 c9 = c9 := IntWalk.wrap64_in _ (by omega)
        obtain ⟨M7, hM7⟩ : ∃ M, y7.heap.size = M := ⟨_, rfl⟩
        have B3 := slice_rc1 y7 (orR f c9)
        rw [hM7] at B3
        obtain ⟨V8, hV8⟩ : ∃ V, y7.alloc (.cells (rvL (orR f c9)).toArray 39) = V := ⟨_, rfl⟩
        rw [hV8] at B3
        have b8 : Below y7.heap.size y7 V8 := by rw [← hV8]; exact below_new y7 _
        have r8 : RowC V8 M7 39 (rvs [orR f c9]) := by rw [← hV8, ← hM7]; exact RowC.new y7 _ _
        have G8 : Hid (Below wr.heap.size wr V8) := G7.out.trans (b8.mono G7.out.size)
        have m3 : Smi V8 (smV n 1 2 (some ⟨M7, 0, none⟩, 1, 1)) ⟨n, 1, 2, [orZ f c9]⟩ := sz_sm (by omega) (by omega) (or_row1 r8 (orIsL (by omega) (by omega)))
        have C3 := Lib.hid (sm_encodeN m3 (fun h => by have := (or_one (b := n) (f := f) (c := c9) (by omega) (by omega) (by omega)).1 h; omega))
        have GB3 := Lib.hid B3
        have GD3 := trivial
        simp only [rvV, rvL, orR, slV, smV] at GB3 C3
        clear C2 hy B3 b8 r8 hV8 hM7 hnb hfb hkb m3
        go_wp2_with ((with_reducible refine gate_build ?_); (clear GD3; refine wpList_build_run 22 1 _ rfl rfl [(0, _)] _ rfl GB3.out ?_))
        refine C3.out.mono ?_
        rintro e y9 ⟨rfl, hy⟩
        have G9 : Hid (Below wr.heap.size wr y9) := G8.out.trans (hy.mono G8.out.size)
        have HY : Hid (Below w.heap.size w y9) := HBW.out.trans (G9.out.mono HBW.out.size)
        have hj64 : wrap64 ((j : Int) * 64) = (j : Int) * 64 := IntWalk.wrap64_in _ (by have := HKB.out; have := HFB.out; have := HNB.out; omega)
        have hj46 : wrap64 (46 + (j : Int) * 64) = 46 + (j : Int) * 64 := IntWalk.wrap64_in _ (by have := HKB.out; have := HFB.out; have := HNB.out; omega)
        have hq : ((l2 : Int) == 46 + (j : Int) * 64) = true := by have := HL2.out; simp; omega
        clear C3 hy GB3 v1 v2 hc9
        go_wp2_with fail
        refine (HWK.out y9).mono ?_
        rintro e zz ⟨rfl, hzz⟩
        have HFIN : Hid (Below w.heap.size w zz) := HY.out.trans (hzz.mono HY.out.size)
        clear hzz
        go_wp2_with fail
        go_ret
        exact ⟨rfl, HFIN.out⟩

set_option maxRecDepth 100000 in
theorem lifted (os : Os) (started : os.Started) (H : Type) (enc : TypeId × Value → H) :
    ReturnsInHanded {} Try.checked os 5 .any (Rows.streamSizesSpec.pre6 enc Try.prog Try.f5 Rows.streamSizesRow.domain false) (Rows.streamSizesSpec.post enc Try.prog Try.f5 false true false false) := by
  refine returnsInHanded_of_change (C := Try.checked) own started (by kernel_rfl) Try.func5
    (ChangeSpec.witness6 (enc := enc) (C := Try.checked) false ⟨#[], #[.int .u8 0, .int .u8 0, .int .u8 0], []⟩ 8 (by kernel_rfl) (by kernel_rfl) (by kernel_rfl) (by kernel_rfl)) ?_
  intro W base args ds gs before hval0 hW hcnd _
  have hval : ∀ (j : Nat) t v, Try.f5.params[j]? = some t → args[j]? = some v → Value.okWide Try.prog W .any base t v := hval0
  have hW' := hW
  obtain ⟨p, q, hA0, hV, rfl, hfz, hnd⟩ := hW
  have hA : DataW.TrodAll enc Try.prog W 0 (fun _ => true) true Try.f5.params.toList args.toList ds p := hA0
  rw [Try.params5] at hA hval
  obtain ⟨v0, vs0, d0, ds0, p0, q0, hargs, rfl, rfl, h0, r0⟩ := trodAll_cons hA
  obtain ⟨v1, vs1, d1, ds1, p1, q1, rfl, rfl, rfl, h1, r1⟩ := trodAll_cons r0
  obtain ⟨v2, vs2, d2, ds2, p2, q2, rfl, rfl, rfl, h2, r2⟩ := trodAll_cons r1
  obtain ⟨rfl, rfl, rfl⟩ := trodAll_nil r2
  obtain rfl : args = #[v0, v1, v2] := by cases args; simp_all
  obtain ⟨rfl, rfl⟩ := trodVars_none hV
  have lt0 : ∀ x ∈ p0, x.block < W.heap.size := by obtain ⟨m, hm⟩ := h0; exact DataW.trod_lt m _ _ _ hm
  have a0 := Arg.mk (hval 0 5 v0 rfl rfl) h0
  have lt1 : ∀ x ∈ p1, x.block < W.heap.size := by obtain ⟨m, hm⟩ := h1; exact DataW.trod_lt m _ _ _ hm
  have a1 := Arg.mk (hval 1 5 v1 rfl rfl) h1
  have lt2 : ∀ x ∈ p2, x.block < W.heap.size := by obtain ⟨m, hm⟩ := h2; exact DataW.trod_lt m _ _ _ hm
  have a2 := Arg.mk (hval 2 5 v2 rfl rfl) h2
  clear hA0 hval0
  refine (walk v0 v1 v2 W a0 a1 a2).mono fun e W' ⟨he, bel⟩ => ?_
  subst he
  exact ⟨_, rfl, _, _, _, [], _, [], hW', trodAll_mk1 (shut_bool Try.underlying4 _), (trodAll_cons_mk (Below.trod laidOut (by kernel_rfl) (of_decide_eq_true (by kernel_rfl)) h0 bel lt0) (trodAll_cons_mk (Below.trod laidOut (by kernel_rfl) (of_decide_eq_true (by kernel_rfl)) h1 bel lt1) (trodAll_cons_mk (Below.trod laidOut (by kernel_rfl) (of_decide_eq_true (by kernel_rfl)) h2 bel lt2) trodAll_mk0))), rfl, bel.frame _, fun h => by cases h⟩

set_option maxRecDepth 100000 in
theorem over : Rows.streamSizesRow.holds Try.pinned (OpenSpec.ofChange Rows.streamSizesSpec) :=
  OpenClaim.holds_of_wide 5 Try.f5 rfl rfl rfl rfl rfl rfl rfl ⟨rfl, rfl, rfl, rfl, rfl⟩ rfl rfl rfl rfl rfl (by kernel_rfl) Try.func5 (by kernel_rfl)
    (of_decide_eq_true (by kernel_rfl)) (by unfold Func.isWrapper; first | (rw [if_pos (by decide +kernel)]; kernel_rfl) | (rw [if_neg (by decide +kernel)]; exact ⟨rfl, rfl⟩))
    (fun os started H enc _ => lifted os started H enc)

theorem proved : Rows.StreamSizesSaid := over
#print axioms proved
end Go.Proofs.Ytlnljanhnodhkaa.streamSizes
