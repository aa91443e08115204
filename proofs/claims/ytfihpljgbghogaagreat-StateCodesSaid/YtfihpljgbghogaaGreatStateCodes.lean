/- Whether any state may be, its bytes; the state of any bytes, or that there is none; the first one of any geometry (P14.1, P14.2). -/
import Derived.Test.YtfihpljgbghogaaGreatJC6
namespace Go.Proofs.YtfihpljgbghogaaGreat.stateCodes
open Go.ChangeShapes Go.WideShapes Go.ChangeAt Go.RowKit
set_option linter.unusedVariables false
open Go.Shelf Go.Lib Go.Sort
set_option linter.unusedSimpArgs false
attribute [-simp] Tryz.isAgg23 Tryz.zeroValue23 Tryz.isAgg51 Tryz.zeroValue51 Tryz.isAgg54 Tryz.zeroValue54 Tryz.isAgg30 Tryz.zeroValue30
attribute [-go_sem] loadVar storeVar
attribute [local go_sem] loadVar_openW storeVar_openW zero_geoW zero_sn zero_prs zero_st

set_option maxRecDepth 100000 in
set_option maxHeartbeats 12000000 in
theorem walk (v0 v1 v2 : Value) (w : World) (w0 : Arg w 23 v0) (w1 : Arg w 30 v1) (w2 : Arg w 31 v2) :
    Calls Tryz.prog 3 #[v0, v1, v2] w fun e w' => e = .returned (.bool true) ∧ Below w.heap.size w w' := by
  have hmx : Tryz.prog.follows .mixedOrders = true := by kernel_rfl
  obtain ⟨G, hi, rfl⟩ := w0.geo
  obtain ⟨q, d, l, ps, rfl, ha⟩ := w1.stA
  obtain ⟨ba, bn, bc, bs, rfl, hbn, hbm, hbs, hby⟩ := w2.bytes Tryz.underlying31 Tryz.underlying5 (by kernel_rfl)
  obtain ⟨W1, hW1⟩ : ∃ W, w.alloc (.cells G.v 23) = W := ⟨_, rfl⟩
  obtain ⟨W0, hW0⟩ : ∃ W, W1.alloc (.cells (stL q).toArray 30) = W := ⟨_, rfl⟩
  obtain ⟨B, hB⟩ : ∃ B, w.heap.size = B := ⟨_, rfl⟩
  have HSZ := Lib.hid hB
  have s1 : W1.heap.size = B + 1 := by rw [← hW1, ← hB]; simp
  have r0 : RowC W1 B 23 G.cs := by rw [← hW1, ← hB]; exact RowC.new _ _ _
  have r1 : RowC W0 (B + 1) 30 (stL q) := by rw [← hW0, ← s1]; exact RowC.new _ _ _
  have b1 : Below B w W1 := by rw [← hW1, ← hB]; exact below_new _ _
  have b2 : Below W1.heap.size W1 W0 := by rw [← hW0]; exact below_new _ _
  have b0 : Below B w W0 := b1.trans (b2.mono (by omega))
  have KB : Hid (∀ z : World, Below W0.heap.size W0 z → Below B w z) := fun z hz => b0.trans (hz.mono (by rw [← hB]; exact b0.size))
  have KG : Hid (∀ z : World, Below W0.heap.size W0 z → (loadVar 23 ⟨B, 0, none⟩).run Tryz.prog z = .ok (.agg G.v) z) := fun z hz => load_geo ((r0.below b2).below hz)
  have KL : Hid (∀ z : World, Below W0.heap.size W0 z → (loadVar 30 ⟨B + 1, 0, none⟩).run Tryz.prog z = .ok (stV q) z) := fun z hz => load_stC (r1.below hz)
  have HA : Hid (∀ z : World, Below W0.heap.size W0 z → StA z q d l ps) := fun z hz => ha.below (by rw [hB]; exact KB.out z hz)
  have HBS : Hid (∀ z : World, Below W0.heap.size W0 z → Sl .u8 z (.slice ba bn bc) bs) := fun z hz => hbs.below (by rw [hB]; exact KB.out z hz)
  have HBY := Lib.hid hby
  have HBN := Lib.hid hbn
  obtain ⟨f0, hf0⟩ : ∃ f, fairP l d.length ps = f := ⟨_, rfl⟩
  have HF0 : Hid (∀ z : World, Below W0.heap.size W0 z → Calls Tryz.prog 4 #[stV q] z fun e w' => e = .returned (.bool f0) ∧ Below z.heap.size z w') := fun z hz => by rw [← hf0]; exact (HA.out z hz).fair
  have HK0 : Hid (f0 = true → Lens 1000 l ∧ d.length ≤ 1000 ∧ ps.length ≤ 1000) := fun h => fair_k (by rw [hf0]; exact h)
  obtain ⟨s, hs⟩ : ∃ s : ST, (⟨d, l, q.nx, q.kd, q.id, ps⟩ : ST) = s := ⟨_, rfl⟩
  have HH : Hid (f0 = true → ∀ z : World, Below W0.heap.size W0 z → StH z q s) := fun hf z hz => by subst hs; exact ⟨HA.out z hz, rfl, (HK0.out hf).1, (HK0.out hf).2.1, (HK0.out hf).2.2⟩
  obtain ⟨gd, hgd, hrgd⟩ := sth_good G hi s
  obtain ⟨er, eb, hen, hren⟩ := sth_enc G hi s
  obtain ⟨cf, sf, hfi, hrfi⟩ := sth_first G hi
  have HGD := Lib.hid hgd
  have HRGD := Lib.hid hrgd
  have HEN := Lib.hid hen
  have HREN := Lib.hid hren
  have HFI := Lib.hid hfi
  have HRFI := Lib.hid hrfi
  have HIN := Lib.hid hi
  have k0 := KL.out W0 (Below.refl _ _)
  have C1 := Lib.hid (HF0.out W0 (Below.refl _ _))
  obtain ⟨⟨qd, qdn, qdc⟩, ⟨qs, qsn, qsc⟩, nx, kd, id, ⟨qp, qpn, qpc⟩⟩ := q
  simp only [stV, stL, slV] at KL k0 C1
  simp only [stL, slV] at hW0
  clear w0 w1 w2 ha hbs hby hi hs r0 r1 b0 b1 b2 hf0 hbn hgd hrgd hen hren hfi hrfi
  go_enter Tryz.func3, Tryz.ntmps3
  simp only [stV, stL, slV]
  go_wp2_with fail
  refine C1.out.mono ?_
  rintro e X1 ⟨rfl, hb⟩
  have E1 : Hid (Below W0.heap.size W0 X1) := hb
  clear hb hW0 hW1 k0 C1
  cases f0 with
  | false =>
    go_wp2_with fail
    refine (st_wakes _).mono ?_
    rintro e zz ⟨rfl, hb⟩
    have EF := Lib.hid (KB.out _ (E1.out.trans (hb.mono E1.out.size)))
    clear hb
    go_wp2_with fail
    go_ret
    exact ⟨rfl, by rw [HSZ.out]; exact EF.out⟩
  | true =>
    by_cases hlong : 3000 < bn
    · have q2 : (3000 : Int) < (bn : Int) := by omega
      clear hlong
      go_wp2_with fail
      refine (st_wakes _).mono ?_
      rintro e zz ⟨rfl, hb⟩
      have EF := Lib.hid (KB.out _ (E1.out.trans (hb.mono E1.out.size)))
      clear hb
      go_wp2_with fail
      go_ret
      exact ⟨rfl, by rw [HSZ.out]; exact EF.out⟩
    · have q2 : ¬ (3000 : Int) < (bn : Int) := by omega
      have hbl : bs.length ≤ 100000 := by have := HBN.out; omega
      obtain ⟨cd, sd, hde, hrde⟩ := sth_dec G HIN.out bs HBY.out hbl
      have HDE := Lib.hid hde
      have HRDE := Lib.hid hrde
      have HBL := Lib.hid hbl
      have HS := HH.out rfl
      have HST := Lib.hid HS
      have k1 := KL.out X1 E1.out
      have C2 := Lib.hid (sth_keep (HS X1 E1.out))
      simp only [stV, stL, slV] at C2
      clear hlong hde hrde hbl HS
      go_wp2_with fail
      refine C2.out.mono ?_
      rintro e X2 ⟨⟨⟨ud, udn, udc⟩, ⟨us, usn, usc⟩, unx, ukd, uid, ⟨up, upn, upc⟩⟩, rfl, hU, hb⟩
      have E2 : Hid (Below W0.heap.size W0 X2) := E1.out.trans (hb.mono E1.out.size)
      have HU := Lib.hid hU
      obtain ⟨D, hD⟩ : ∃ D, X2.heap.size = D := ⟨_, rfl⟩
      have ST := new_st X2 ⟨(ud, udn, udc), (us, usn, usc), unx, ukd, uid, (up, upn, upc)⟩
      obtain ⟨Y, hY⟩ : ∃ V, X2.alloc (.cells (stL ⟨(ud, udn, udc), (us, usn, usc), unx, ukd, uid, (up, upn, upc)⟩).toArray 30) = V := ⟨_, rfl⟩
      rw [hY, hD] at ST
      have bY : Below X2.heap.size X2 Y := by rw [← hY]; exact below_new _ _
      have rY : RowC Y D 30 (stL ⟨(ud, udn, udc), (us, usn, usc), unx, ukd, uid, (up, upn, upc)⟩) := by rw [← hY, ← hD]; exact RowC.new _ _ _
      have EY : Hid (Below W0.heap.size W0 Y) := E2.out.trans (bY.mono E2.out.size)
      have BY := Lib.hid bY
      have HUY : Hid (∀ z : World, Below Y.heap.size Y z → StH z ⟨(ud, udn, udc), (us, usn, usc), unx, ukd, uid, (up, upn, upc)⟩ s) := fun z hz => HU.out.below (BY.out.trans (hz.mono BY.out.size))
      have KU : Hid (∀ z : World, Below Y.heap.size Y z → (loadVar 30 ⟨D, 0, none⟩).run Tryz.prog z = .ok (stV ⟨(ud, udn, udc), (us, usn, usc), unx, ukd, uid, (up, upn, upc)⟩) z) := fun z hz => load_stC (rY.below hz)
      have g0 := KG.out Y EY.out
      have k2 := KU.out Y (Below.refl _ _)
      have C3 := Lib.hid ((HEN.out Y _ (HUY.out Y (Below.refl _ _))).2)
      have HEB := Lib.hid ((HEN.out Y _ (HUY.out Y (Below.refl _ _))).1)
      simp only [stV, stL, slV] at ST k2 C3 KU ⊢
      clear C2 hU hb bY rY k1 BY
      go_wp2_with fail
      refine C3.out.mono ?_
      rintro e X3 ⟨pa, pn, pc, rfl, hp, hb⟩
      have Y3 : Hid (Below Y.heap.size Y X3) := hb
      have E3 : Hid (Below W0.heap.size W0 X3) := EY.out.trans (Y3.out.mono EY.out.size)
      have HP := Lib.hid hp
      have g1 := KG.out X3 E3.out
      have k1 := KL.out X3 E3.out
      have C4 := Lib.hid (HREN.out X3 _ (HST.out X3 E3.out))
      simp only [stV, stL, slV] at C4
      clear C3 hp hb g0 k2 ST hY hD
      go_wp2_with fail
      refine C4.out.mono ?_
      rintro e X4 ⟨ra, rn, rc, rfl, hq, hb⟩
      have Y4 : Hid (Below Y.heap.size Y X4) := Y3.out.trans (hb.mono Y3.out.size)
      have E4 : Hid (Below W0.heap.size W0 X4) := EY.out.trans (Y4.out.mono EY.out.size)
      have HP4 := Lib.hid (HP.out.below hb)
      have HQ4 := Lib.hid hq
      have g2 : ∀ z : Ext X4, (loadVar 23 ⟨B, 0, none⟩).run Tryz.prog z.1 = .ok (.agg G.v) z.1 := fun z => KG.out z.1 (E4.out.trans (z.2.mono E4.out.size))
      clear C4 hq hb g1 k1
      go_wp2_with fail
      refine region_plan (fun x => ∃ z : Ext X4, x = z.1) 10 (.takes [0, 2] (.two 1 8 (.two 3 8 (.two 4 8 (.takes [5, 6, 7] (.one 8 (.one 9 .leaf))) (.one 4 (.takes [5, 6, 7] (.one 9 .leaf)))) (.one 3 (.one 4 (.takes [5, 6, 7] (.one 9 .leaf))))) (.one 1 (.one 3 (.one 4 (.takes [5, 6, 7] (.one 9 .leaf))))))) hmx (by kernel_rfl) (by intro c x v a w h; cases x <;> exact h) ⟨⟨X4.drew, (Below.refl _ X4).drew⟩, rfl⟩ ?_
      repeat (rw [wpPlan_takes_cons]; simp only [nth_zero, nth_succ]; go_big_quiet_step (fail); try (with_reducible refine wpQuiet_nil ?_))
      rw [wpPlan_takes_nil]
      obtain ⟨X5, hX5⟩ : ∃ z, X4.drew = z := ⟨_, rfl⟩
      have Z0 : Hid (Below X4.heap.size X4 X5) := by show Below _ _ _; rw [← hX5]; exact (Below.refl _ X4).drew
      rw [hX5]
      clear hX5 g2
      refine plan_haveS (ι := Nat × Nat × SlV × PS) .leaf (fun i => { tmps := #[.agg G.v, .agg #[.slice qd qdn qdc, .slice qs qsn qsc, .int .i64 nx, .int .i64 kd, .int .i64 id, .slice qp qpn qpc], .slice ba bn bc, .pointer (some ⟨B, 0, none⟩), .pointer (some ⟨B + 1, 0, none⟩), undef, .bool false, .pointer (some ⟨D, 0, none⟩), .slice pa pn pc, .int .i64 er, .slice ra rn rc, .int .i64 er, .pointer (some ⟨i.2.1, 0, none⟩), undef, undef, undef, undef, undef, undef, undef, .agg #[.slice qd qdn qdc, .slice qs qsn qsc, .int .i64 nx, .int .i64 kd, .int .i64 id, .slice qp qpn qpc], .bool true, .bool false, .bool false, .slice ba bn bc, .int .i64 (bn : Int), .bool (decide (3000 < (bn : Int))), .bool (decide (3000 < (bn : Int))), undef, .agg #[.slice qd qdn qdc, .slice qs qsn qsc, .int .i64 nx, .int .i64 kd, .int .i64 id, .slice qp qpn qpc], .agg #[.slice ud udn udc, .slice us usn usc, .int .i64 unx, .int .i64 ukd, .int .i64 uid, .slice up upn upc], .tuple #[.slice pa pn pc, .int .i64 er], .agg G.v, .agg #[.slice ud udn udc, .slice us usn usc, .int .i64 unx, .int .i64 ukd, .int .i64 uid, .slice up upn upc], .tuple #[.slice pa pn pc, .int .i64 er], .slice pa pn pc, .int .i64 er, .tuple #[.slice ra rn rc, .int .i64 er], .agg G.v, .agg #[.slice qd qdn qdc, .slice qs qsn qsc, .int .i64 nx, .int .i64 kd, .int .i64 id, .slice qp qpn qpc], .tuple #[.slice ra rn rc, .int .i64 er], .slice ra rn rc, .int .i64 er, .tuple #[.agg #[.slice i.2.2.2.d.1 i.2.2.2.d.2.1 i.2.2.2.d.2.2, .slice i.2.2.2.sn.1 i.2.2.2.sn.2.1 i.2.2.2.sn.2.2, .int .i64 i.2.2.2.nx, .int .i64 i.2.2.2.kd, .int .i64 i.2.2.2.id, .slice i.2.2.2.pr.1 i.2.2.2.pr.2.1 i.2.2.2.pr.2.2], .int .i64 cd], .agg G.v, .slice (some ⟨i.1, 0, none⟩) 0 0, .slice ba bn bc, .slice i.2.2.1.1 i.2.2.1.2.1 i.2.2.1.2.2, .tuple #[.agg #[.slice i.2.2.2.d.1 i.2.2.2.d.2.1 i.2.2.2.d.2.2, .slice i.2.2.2.sn.1 i.2.2.2.sn.2.1 i.2.2.2.sn.2.2, .int .i64 i.2.2.2.nx, .int .i64 i.2.2.2.kd, .int .i64 i.2.2.2.id, .slice i.2.2.2.pr.1 i.2.2.2.pr.2.1 i.2.2.2.pr.2.2], .int .i64 cd], .agg #[.slice i.2.2.2.d.1 i.2.2.2.d.2.1 i.2.2.2.d.2.2, .slice i.2.2.2.sn.1 i.2.2.2.sn.2.1 i.2.2.2.sn.2.2, .int .i64 i.2.2.2.nx, .int .i64 i.2.2.2.kd, .int .i64 i.2.2.2.id, .slice i.2.2.2.pr.1 i.2.2.2.pr.2.1 i.2.2.2.pr.2.2], .int .i64 cd, undef, undef, undef, undef, undef, undef, undef, undef, undef, undef, undef, undef, undef, undef, undef, undef, undef, undef, undef, undef, undef, undef, undef, undef, undef, undef, undef, undef, undef, undef, undef, undef, undef, undef, undef, undef, undef, undef, undef, undef, undef, undef, undef, undef, undef, undef, undef, undef, undef, undef, undef, undef, undef, undef, undef, undef, undef, undef, undef, undef, undef, undef, undef, undef, undef, undef, undef], defers := [] }) (fun i x => Hid (Below X4.heap.size X4 x) ∧ Hid (RowC x i.2.1 30 (stL i.2.2.2)) ∧ Hid (StH x i.2.2.2 sd)) ?_ ?_
      · rintro ⟨M, D2, ⟨va, vn, vc⟩, ⟨⟨xd, xdn, xdc⟩, ⟨xs, xsn, xsc⟩, xnx, xkd, xid, ⟨xp, xpn, xpc⟩⟩⟩ X6 ⟨F1, F2, F3⟩
        simp only at F2 F3 ⊢
        rw [wpPlan_leaf]
        simp only [List.drop_succ_cons, List.drop_zero]
        have E6 : Hid (Below W0.heap.size W0 X6) := E4.out.trans (F1.out.mono E4.out.size)
        have T6 : Hid (Below X6.heap.size X6 X6) := Below.refl _ _
        have g6 := KG.out X6 E6.out
        have C6 := Lib.hid (HRDE.out X6 _ (HBS.out X6 E6.out))
        go_wp2_with fail
        refine C6.out.mono ?_
        rintro e X7 ⟨⟨⟨yd, ydn, ydc⟩, ⟨ys, ysn, ysc⟩, ynx, ykd, yid, ⟨yp, ypn, ypc⟩⟩, rfl, shy, hb⟩
        have E7 : Hid (Below W0.heap.size W0 X7) := E6.out.trans (hb.mono E6.out.size)
        have T7 : Hid (Below X6.heap.size X6 X7) := T6.out.trans (hb.mono T6.out.size)
        obtain ⟨D3, hD3⟩ : ∃ D, X7.heap.size = D := ⟨_, rfl⟩
        have ST7 := new_st X7 ⟨(yd, ydn, ydc), (ys, ysn, ysc), ynx, ykd, yid, (yp, ypn, ypc)⟩
        obtain ⟨X8, hX8⟩ : ∃ V, X7.alloc (.cells (stL ⟨(yd, ydn, ydc), (ys, ysn, ysc), ynx, ykd, yid, (yp, ypn, ypc)⟩).toArray 30) = V := ⟨_, rfl⟩
        rw [hX8, hD3] at ST7
        have b8 : Below X7.heap.size X7 X8 := by rw [← hX8]; exact below_new _ _
        have Ry : Hid (RowC X8 D3 30 (stL ⟨(yd, ydn, ydc), (ys, ysn, ysc), ynx, ykd, yid, (yp, ypn, ypc)⟩)) := by show RowC _ _ _ _; rw [← hX8, ← hD3]; exact RowC.new _ _ _
        have SHy := Lib.hid (shy.below b8)
        have E8 : Hid (Below W0.heap.size W0 X8) := E7.out.trans (b8.mono E7.out.size)
        have N6 : Hid (Below X6.heap.size X6 X8) := hb.trans (b8.mono hb.size)
        have T8 : Hid (Below X6.heap.size X6 X8) := T7.out.trans (b8.mono T7.out.size)
        have g8 := KG.out X8 E8.out
        have C8 := Lib.hid (HFI.out X8)
        simp only [stV, stL, slV] at ST7
        clear shy hb b8 g6 C6
        simp only [stV, stL, slV]
        go_wp2_with fail
        refine C8.out.mono ?_
        rintro e X9 ⟨⟨⟨jd, jdn, jdc⟩, ⟨js, jsn, jsc⟩, jnx, jkd, jid, ⟨jp, jpn, jpc⟩⟩, rfl, shj, hb⟩
        have E9 : Hid (Below W0.heap.size W0 X9) := E8.out.trans (hb.mono E8.out.size)
        have T9 : Hid (Below X6.heap.size X6 X9) := T8.out.trans (hb.mono T8.out.size)
        obtain ⟨D4, hD4⟩ : ∃ D, X9.heap.size = D := ⟨_, rfl⟩
        have ST9 := new_st X9 ⟨(jd, jdn, jdc), (js, jsn, jsc), jnx, jkd, jid, (jp, jpn, jpc)⟩
        obtain ⟨X10, hX10⟩ : ∃ V, X9.alloc (.cells (stL ⟨(jd, jdn, jdc), (js, jsn, jsc), jnx, jkd, jid, (jp, jpn, jpc)⟩).toArray 30) = V := ⟨_, rfl⟩
        rw [hX10, hD4] at ST9
        have b10 : Below X9.heap.size X9 X10 := by rw [← hX10]; exact below_new _ _
        have Rj : Hid (RowC X10 D4 30 (stL ⟨(jd, jdn, jdc), (js, jsn, jsc), jnx, jkd, jid, (jp, jpn, jpc)⟩)) := by show RowC _ _ _ _; rw [← hX10, ← hD4]; exact RowC.new _ _ _
        have SHj := Lib.hid (shj.below b10)
        have E10 : Hid (Below W0.heap.size W0 X10) := E9.out.trans (b10.mono E9.out.size)
        have N8 : Hid (Below X8.heap.size X8 X10) := hb.trans (b10.mono hb.size)
        have T10 : Hid (Below X6.heap.size X6 X10) := T9.out.trans (b10.mono T9.out.size)
        have g10 := KG.out X10 E10.out
        have C10 := Lib.hid (HRFI.out X10)
        simp only [stV, stL, slV] at ST9
        clear shj hb b10 g8 C8
        simp only [stV, stL, slV]
        go_wp2_with fail
        refine C10.out.mono ?_
        rintro e X11 ⟨⟨⟨fd, fdn, fdc⟩, ⟨fs, fsn, fsc⟩, fnx, fkd, fid, ⟨fp, fpn, fpc⟩⟩, rfl, shf, hb⟩
        have E11 : Hid (Below W0.heap.size W0 X11) := E10.out.trans (hb.mono E10.out.size)
        have T11 : Hid (Below X6.heap.size X6 X11) := T10.out.trans (hb.mono T10.out.size)
        obtain ⟨D5, hD5⟩ : ∃ D, X11.heap.size = D := ⟨_, rfl⟩
        have ST11 := new_st X11 ⟨(fd, fdn, fdc), (fs, fsn, fsc), fnx, fkd, fid, (fp, fpn, fpc)⟩
        obtain ⟨X12, hX12⟩ : ∃ V, X11.alloc (.cells (stL ⟨(fd, fdn, fdc), (fs, fsn, fsc), fnx, fkd, fid, (fp, fpn, fpc)⟩).toArray 30) = V := ⟨_, rfl⟩
        rw [hX12, hD5] at ST11
        have b12 : Below X11.heap.size X11 X12 := by rw [← hX12]; exact below_new _ _
        have Rf : Hid (RowC X12 D5 30 (stL ⟨(fd, fdn, fdc), (fs, fsn, fsc), fnx, fkd, fid, (fp, fpn, fpc)⟩)) := by show RowC _ _ _ _; rw [← hX12, ← hD5]; exact RowC.new _ _ _
        have SHf := Lib.hid (shf.below b12)
        have E12 : Hid (Below W0.heap.size W0 X12) := E11.out.trans (b12.mono E11.out.size)
        have N10 : Hid (Below X10.heap.size X10 X12) := hb.trans (b12.mono hb.size)
        have T12 : Hid (Below X6.heap.size X6 X12) := T11.out.trans (b12.mono T11.out.size)
        simp only [stV, stL, slV] at ST11
        clear shf hb b12 g10 C10
        simp only [stV, stL, slV]
        have S10 := N10
        have S8 : Hid (Below X8.heap.size X8 X12) := N8.out.trans (N10.out.mono N8.out.size)
        have S6 : Hid (Below X6.heap.size X6 X12) := T12
        have S4 : Hid (Below X4.heap.size X4 X12) := F1.out.trans (T12.out.mono F1.out.size)
        have SY : Hid (Below Y.heap.size Y X12) := Y4.out.trans (S4.out.mono Y4.out.size)
        have l0 : ∀ z : Ext X12, (loadVar 23 ⟨B, 0, none⟩).run Tryz.prog z.1 = .ok (.agg G.v) z.1 := fun z => KG.out z.1 (go_belowH E12 z.2)
        have l1 : ∀ z : Ext X12, (loadVar 30 ⟨B + 1, 0, none⟩).run Tryz.prog z.1 = .ok (.agg #[.slice qd qdn qdc, .slice qs qsn qsc, .int .i64 nx, .int .i64 kd, .int .i64 id, .slice qp qpn qpc]) z.1 := fun z => KL.out z.1 (go_belowH E12 z.2)
        have l2 : ∀ z : Ext X12, (loadVar 30 ⟨D, 0, none⟩).run Tryz.prog z.1 = .ok (.agg #[.slice ud udn udc, .slice us usn usc, .int .i64 unx, .int .i64 ukd, .int .i64 uid, .slice up upn upc]) z.1 := fun z => KU.out z.1 (go_belowH SY z.2)
        have l3 : ∀ z : Ext X12, (loadVar 30 ⟨D2, 0, none⟩).run Tryz.prog z.1 = .ok (.agg #[.slice xd xdn xdc, .slice xs xsn xsc, .int .i64 xnx, .int .i64 xkd, .int .i64 xid, .slice xp xpn xpc]) z.1 := fun z => load_stC (q := ⟨(xd, xdn, xdc), (xs, xsn, xsc), xnx, xkd, xid, (xp, xpn, xpc)⟩) (F2.out.below (go_belowH S6 z.2))
        have l4 : ∀ z : Ext X12, (loadVar 30 ⟨D3, 0, none⟩).run Tryz.prog z.1 = .ok (.agg #[.slice yd ydn ydc, .slice ys ysn ysc, .int .i64 ynx, .int .i64 ykd, .int .i64 yid, .slice yp ypn ypc]) z.1 := fun z => load_stC (q := ⟨(yd, ydn, ydc), (ys, ysn, ysc), ynx, ykd, yid, (yp, ypn, ypc)⟩) (Ry.out.below (go_belowH S8 z.2))
        have l5 : ∀ z : Ext X12, (loadVar 30 ⟨D4, 0, none⟩).run Tryz.prog z.1 = .ok (.agg #[.slice jd jdn jdc, .slice js jsn jsc, .int .i64 jnx, .int .i64 jkd, .int .i64 jid, .slice jp jpn jpc]) z.1 := fun z => load_stC (q := ⟨(jd, jdn, jdc), (js, jsn, jsc), jnx, jkd, jid, (jp, jpn, jpc)⟩) (Rj.out.below (go_belowH S10 z.2))
        have l6 : ∀ z : Ext X12, (loadVar 30 ⟨D5, 0, none⟩).run Tryz.prog z.1 = .ok (.agg #[.slice fd fdn fdc, .slice fs fsn fsc, .int .i64 fnx, .int .i64 fkd, .int .i64 fid, .slice fp fpn fpc]) z.1 := fun z => load_stC (q := ⟨(fd, fdn, fdc), (fs, fsn, fsc), fnx, fkd, fid, (fp, fpn, fpc)⟩) (Rf.out.below z.2)
        have P2 : Hid (∀ z : World, Below X12.heap.size X12 z → _) := fun z hz => HGD.out z _ (HUY.out z (go_belowH SY hz))
        have P5 : Hid (∀ z : World, Below X12.heap.size X12 z → _) := fun z hz => HRGD.out z _ (HST.out z (go_belowH E12 hz))
        have P10 : Hid (∀ z : World, Below X12.heap.size X12 z → _) := fun z hz => eqk_bytes _ _ _ _ z (HP4.out.below (go_belowH S4 hz)) (HQ4.out.below (go_belowH S4 hz)) HEB.out HEB.out
        have P20 : Hid (∀ z : World, Below X12.heap.size X12 z → _) := fun z hz => sth_eq (F3.out.below (go_belowH S6 hz)) (SHy.out.below (go_belowH S8 hz))
        have P30 : Hid (∀ z : World, Below X12.heap.size X12 z → _) := fun z hz => sth_eq (SHj.out.below (go_belowH S10 hz)) (SHf.out.below hz)
        have P39 : Hid (∀ z : World, Below X12.heap.size X12 z → _) := fun z hz => sth_copy (HUY.out z (go_belowH SY hz))
        have P46 : Hid (∀ z : World, Below X12.heap.size X12 z → _) := fun z hz => sth_eq (HUY.out z (go_belowH SY hz)) (HST.out z (go_belowH E12 hz))
        have qg : (gd == gd) = true := by simp
        have qe : (er == er) = true := by simp
        have qd' : (cd == cd) = true := by simp
        have qf : (cf == cf) = true := by simp
        simp only [stV, stL, slV] at P2 P5 P10 P20 P30 P39 P46
        go_wp2_with fail
        refine region_plan (fun x => ∃ z : Ext X12, x = z.1) 51 (.takes [0, 1, 3, 4] (.one 2 (.one 5 (.takes [6, 7, 8, 9] (.one 10 (.takes [11, 12, 13, 14, 15, 16, 17, 18, 19] (.one 20 (.takes [21, 22, 23, 24, 25, 26, 27, 28, 29] (.one 30 (.takes [31, 32, 33, 34, 35, 36, 37, 38, 40] (.one 39 (.one 41 (.takes [42, 43, 44, 45] (.one 46 (.takes [47, 48] (.one 49 (.takes [50] .leaf))))))))))))))))) hmx (by kernel_rfl) (by intro c x v a w h; cases x <;> exact h) ⟨⟨X12.drew, (Below.refl _ X12).drew⟩, rfl⟩ ?_
        repeat (rw [wpPlan_takes_cons]; simp only [nth_zero, nth_succ]; go_big_quiet_step (fail); try (with_reducible refine wpQuiet_nil ?_))
        rw [wpPlan_takes_nil]
        obtain ⟨Q0, hQ0⟩ : ∃ z, X12.drew = z := ⟨_, rfl⟩
        have O0 : Hid (Below X12.heap.size X12 Q0) := by show Below _ _ _; rw [← hQ0]; exact (Below.refl _ X12).drew
        rw [hQ0]
        clear hQ0
        have V2 := Lib.hid (P2.out Q0 O0.out)
        rw [wpPlan_one]
        simp only [nth_zero, nth_succ]
        go_wp2_with fail
        refine V2.out.mono ?_
        rintro e Q1 ⟨rfl, hb⟩
        have O1 : Hid (Below X12.heap.size X12 Q1) := O0.out.trans (hb.mono O0.out.size)
        clear V2 hb
        go_wp2_with fail
        refine planPost_mk ⟨⟨Q1, O1.out⟩, rfl⟩ ?_
        have V5 := Lib.hid (P5.out Q1 O1.out)
        rw [wpPlan_one]
        simp only [nth_zero, nth_succ]
        go_wp2_with fail
        refine V5.out.mono ?_
        rintro e Q2 ⟨rfl, hb⟩
        have O2 : Hid (Below X12.heap.size X12 Q2) := O1.out.trans (hb.mono O1.out.size)
        clear V5 hb
        go_wp2_with fail
        refine planPost_mk ⟨⟨Q2, O2.out⟩, rfl⟩ ?_
        repeat (rw [wpPlan_takes_cons]; simp only [nth_zero, nth_succ]; go_big_quiet_step (fail); try (with_reducible refine wpQuiet_nil ?_))
        rw [wpPlan_takes_nil]
        have V10 : Hid (Calls Tryz.prog 15 #[.slice pa pn pc, .slice ra rn rc] Q2 fun e w' => e = .returned (.bool true) ∧ w' = Q2) := (P10.out Q2 O2.out).mono fun e w' h => ⟨h.1.trans (by simp), h.2⟩
        rw [wpPlan_one]
        simp only [nth_zero, nth_succ]
        go_wp2_with fail
        refine V10.out.mono ?_
        rintro e Q3 ⟨rfl, rfl⟩
        have O3 := O2
        clear V10
        go_wp2_with fail
        refine planPost_mk ⟨⟨Q3, O3.out⟩, rfl⟩ ?_
        repeat (rw [wpPlan_takes_cons]; simp only [nth_zero, nth_succ]; go_big_quiet_step (fail); try (with_reducible refine wpQuiet_nil ?_))
        rw [wpPlan_takes_nil]
        have V20 := Lib.hid (P20.out Q3 O3.out)
        rw [wpPlan_one]
        simp only [nth_zero, nth_succ]
        go_wp2_with fail
        refine V20.out.mono ?_
        rintro e Q4 ⟨rfl, hb⟩
        have O4 : Hid (Below X12.heap.size X12 Q4) := O3.out.trans (hb.mono O3.out.size)
        clear V20 hb
        go_wp2_with fail
        refine planPost_mk ⟨⟨Q4, O4.out⟩, rfl⟩ ?_
        repeat (rw [wpPlan_takes_cons]; simp only [nth_zero, nth_succ]; go_big_quiet_step (fail); try (with_reducible refine wpQuiet_nil ?_))
        rw [wpPlan_takes_nil]
        have V30 := Lib.hid (P30.out Q4 O4.out)
        rw [wpPlan_one]
        simp only [nth_zero, nth_succ]
        go_wp2_with fail
        refine V30.out.mono ?_
        rintro e Q5 ⟨rfl, hb⟩
        have O5 : Hid (Below X12.heap.size X12 Q5) := O4.out.trans (hb.mono O4.out.size)
        clear V30 hb
        go_wp2_with fail
        refine planPost_mk ⟨⟨Q5, O5.out⟩, rfl⟩ ?_
        repeat (rw [wpPlan_takes_cons]; simp only [nth_zero, nth_succ]; go_big_quiet_step (fail); try (with_reducible refine wpQuiet_nil ?_))
        rw [wpPlan_takes_nil]
        have V39 := Lib.hid (P39.out Q5 O5.out)
        rw [wpPlan_one]
        simp only [nth_zero, nth_succ]
        go_wp2_with fail
        refine V39.out.mono ?_
        rintro e Q6 ⟨⟨⟨cxd, cxdn, cxdc⟩, ⟨cxs, cxsn, cxsc⟩, cxnx, cxkd, cxid, ⟨cxp, cxpn, cxpc⟩⟩, rfl, shc, hb⟩
        have O6 : Hid (Below X12.heap.size X12 Q6) := O5.out.trans (hb.mono O5.out.size)
        have PC := Lib.hid (sth_eq shc (HST.out Q6 (go_belowH E12 O6.out)))
        simp only [stV, stL, slV] at PC ⊢
        clear V39 hb shc
        go_wp2_with fail
        refine planPost_mk ⟨⟨Q6, O6.out⟩, rfl⟩ ?_
        have V41 := PC
        rw [wpPlan_one]
        simp only [nth_zero, nth_succ]
        go_wp2_with fail
        refine V41.out.mono ?_
        rintro e Q7 ⟨rfl, hb⟩
        have O7 : Hid (Below X12.heap.size X12 Q7) := O6.out.trans (hb.mono O6.out.size)
        clear V41 hb
        go_wp2_with fail
        refine planPost_mk ⟨⟨Q7, O7.out⟩, rfl⟩ ?_
        repeat (rw [wpPlan_takes_cons]; simp only [nth_zero, nth_succ]; go_big_quiet_step (fail); try (with_reducible refine wpQuiet_nil ?_))
        rw [wpPlan_takes_nil]
        have V46 := Lib.hid (P46.out Q7 O7.out)
        rw [wpPlan_one]
        simp only [nth_zero, nth_succ]
        go_wp2_with fail
        refine V46.out.mono ?_
        rintro e Q8 ⟨rfl, hb⟩
        have O8 : Hid (Below X12.heap.size X12 Q8) := O7.out.trans (hb.mono O7.out.size)
        clear V46 hb
        go_wp2_with fail
        refine planPost_mk ⟨⟨Q8, O8.out⟩, rfl⟩ ?_
        repeat (rw [wpPlan_takes_cons]; simp only [nth_zero, nth_succ]; go_big_quiet_step (fail); try (with_reducible refine wpQuiet_nil ?_))
        rw [wpPlan_takes_nil]
        rw [wpPlan_one]
        simp only [nth_zero, nth_succ]
        go_wp2_with fail
        refine (st_wakes Q8).mono ?_
        rintro e QF ⟨rfl, hb⟩
        have OF : Hid (Below X12.heap.size X12 QF) := O8.out.trans (hb.mono O8.out.size)
        clear hb
        go_wp2_with fail
        refine planPost_mk ⟨⟨QF, OF.out⟩, rfl⟩ ?_
        repeat (rw [wpPlan_takes_cons]; simp only [nth_zero, nth_succ]; go_big_quiet_step (fail); try (with_reducible refine wpQuiet_nil ?_))
        rw [wpPlan_takes_nil]
        rw [wpPlan_leaf]
        simp only [List.drop_succ_cons, List.drop_zero]
        have EF := Lib.hid (KB.out QF (go_belowH E12 OF.out))
        go_wp2_with fail
        go_ret
        exact ⟨rfl, by rw [HSZ.out]; exact EF.out⟩
      intro KEY
      rw [wpPlan_twoS]
      refine ⟨?_, ?_⟩
      · simp only [nth_zero, nth_succ]
        obtain ⟨M, hM⟩ : ∃ M, X5.heap.size = M := ⟨_, rfl⟩
        obtain ⟨A1, hA1⟩ : ∃ V, X5.alloc (.cells #[] 5) = V := ⟨_, rfl⟩
        have b1 : Below X5.heap.size X5 A1 := by rw [← hA1]; exact below_new _ _
        have ow : A1.ownsRow X4.heap.size 5 1 (.slice (some ⟨M, 0, none⟩) 0 0) ([] : List Int).length (([] : List Int).map (Value.int .u8)) := by rw [← hA1, ← hM]; exact own_u80 X4.heap.size X5 Z0.out.size
        have Z1 : Hid (Below X4.heap.size X4 A1) := Z0.out.trans (b1.mono Z0.out.size)
        clear b1
        go_wp2_with fail
        try rw [hA1]
        try rw [hM]
        clear hA1 hM
        refine planPost_mk ⟨⟨A1, Z1.out⟩, rfl⟩ ?_
        rw [wpPlan_twoS]
        refine ⟨?_, ?_⟩
        · simp only [nth_zero, nth_succ]
          obtain ⟨v3, A2, r3, o3, g3⟩ := run_append_bytes X4.heap.size A1 _ [] ow _ bs (HBS.out A1 (E4.out.trans (Z1.out.mono E4.out.size))) (by have := HBL.out; simp; omega) Z1.out.size
          rw [List.nil_append] at o3
          have Z2 : Hid (Below X4.heap.size X4 A2) := Z1.out.grown g3 Z1.out.size (fun j e => (World.ownsRow.lt ow j e).1)
          have sv2 : Sl .u8 A2 v3 bs := Sl.of_owns o3
          obtain ⟨⟨va, vn, vc⟩, rfl, -⟩ := own_slV o3
          have R3 := Lib.hid r3
          simp only [slV] at R3 sv2
          clear o3 g3 r3
          refine wpList_append_run (.tmp 45) (.tmp 46) 31 rfl rfl _ _ _ rfl rfl R3.out ?_
          go_wp2_with fail
          refine planPost_mk ⟨⟨A2, Z2.out⟩, rfl⟩ ?_
          rw [wpPlan_twoS]
          refine ⟨?_, ?_⟩
          · simp only [nth_zero, nth_succ]
            have CD := Lib.hid (HDE.out A2 _ sv2)
            go_wp2_with fail
            refine CD.out.mono ?_
            rintro e A3 ⟨⟨⟨xd, xdn, xdc⟩, ⟨xs, xsn, xsc⟩, xnx, xkd, xid, ⟨xp, xpn, xpc⟩⟩, rfl, sh3, cl3, b3⟩
            have lt3 := Z2.out.size
            have Z3 : Hid (Below X4.heap.size X4 A3) := Z2.out.trans (b3.mono Z2.out.size)
            clear CD b3
            simp only [stV, stL, slV]
            go_wp2_with fail
            refine planPost_mk ⟨⟨A3, Z3.out⟩, rfl⟩ ?_
            repeat (rw [wpPlan_takes_cons]; simp only [nth_zero, nth_succ]; go_big_quiet_step (fail); try (with_reducible refine wpQuiet_nil ?_))
            rw [wpPlan_takes_nil]
            rw [wpPlan_one]
            simp only [nth_zero, nth_succ]
            obtain ⟨D2, hD2⟩ : ∃ M, A3.heap.size = M := ⟨_, rfl⟩
            obtain ⟨A4, hA4⟩ : ∃ V, A3.alloc (.cells #[.slice none 0 0, .slice none 0 0, .int .i64 0, .int .i64 0, .int .i64 0, .slice none 0 0] 30) = V := ⟨_, rfl⟩
            have b4 : Below A3.heap.size A3 A4 := by rw [← hA4]; exact below_new _ _
            have rd4 : RowC A4 D2 30 [.slice none 0 0, .slice none 0 0, .int .i64 0, .int .i64 0, .int .i64 0, .slice none 0 0] := by rw [← hA4, ← hD2]; exact RowC.new _ _ _
            have nd4 : X4.heap.size ≤ D2 := by rw [← hD2]; exact Z3.out.size
            have Z4 : Hid (Below X4.heap.size X4 A4) := Z3.out.trans (b4.mono Z3.out.size)
            have kb4 := b4
            have kn4 : A3.heap.size ≤ D2 := by rw [← hD2]; exact Nat.le_refl _
            clear b4
            go_wp2_with fail
            try rw [hA4]
            try rw [hD2]
            clear hA4 hD2
            refine planPost_mk ⟨⟨A4, Z4.out⟩, rfl⟩ ?_
            rw [wpPlan_one]
            simp only [nth_zero, nth_succ]
            obtain ⟨A5, S9, r9, g9⟩ := store_stC ⟨(xd, xdn, xdc), (xs, xsn, xsc), xnx, xkd, xid, (xp, xpn, xpc)⟩ rd4 rfl
            have Z5 : Hid (Below X4.heap.size X4 A5) := Z4.out.grown g9 Z4.out.size (fun j e => by cases e; exact nd4)
            have SHF := Lib.hid (sh3.below (kb4.grown g9 kb4.size (fun j e => by cases e; exact kn4)))
            simp only [stV, stL, slV] at S9
            go_wp2_with fail
            refine planPost_mk ⟨⟨A5, Z5.out⟩, rfl⟩ ?_
            exact KEY ⟨M, D2, (va, vn, vc), ⟨(xd, xdn, xdc), (xs, xsn, xsc), xnx, xkd, xid, (xp, xpn, xpc)⟩⟩ _ ⟨Z5, Lib.hid r9, SHF⟩
          · simp only [nth_zero, nth_succ]
            obtain ⟨D2, hD2⟩ : ∃ M, A2.heap.size = M := ⟨_, rfl⟩
            obtain ⟨A3, hA3⟩ : ∃ V, A2.alloc (.cells #[.slice none 0 0, .slice none 0 0, .int .i64 0, .int .i64 0, .int .i64 0, .slice none 0 0] 30) = V := ⟨_, rfl⟩
            have b3 : Below A2.heap.size A2 A3 := by rw [← hA3]; exact below_new _ _
            have rd3 : RowC A3 D2 30 [.slice none 0 0, .slice none 0 0, .int .i64 0, .int .i64 0, .int .i64 0, .slice none 0 0] := by rw [← hA3, ← hD2]; exact RowC.new _ _ _
            have nd3 : X4.heap.size ≤ D2 := by rw [← hD2]; exact Z2.out.size
            have Z3 : Hid (Below X4.heap.size X4 A3) := Z2.out.trans (b3.mono Z2.out.size)
            have sv3 := sv2.below b3
            clear b3
            go_wp2_with fail
            try rw [hA3]
            try rw [hD2]
            clear hA3 hD2
            refine planPost_mk ⟨⟨A3, Z3.out⟩, rfl⟩ ?_
            rw [wpPlan_one]
            simp only [nth_zero, nth_succ]
            have CD := Lib.hid (HDE.out A3 _ sv3)
            go_wp2_with fail
            refine CD.out.mono ?_
            rintro e A4 ⟨⟨⟨xd, xdn, xdc⟩, ⟨xs, xsn, xsc⟩, xnx, xkd, xid, ⟨xp, xpn, xpc⟩⟩, rfl, sh4, cl4, b4⟩
            have lt4 := Z3.out.size
            have Z4 : Hid (Below X4.heap.size X4 A4) := Z3.out.trans (b4.mono Z3.out.size)
            have rd4 := rd3.below b4
            clear CD b4
            simp only [stV, stL, slV]
            go_wp2_with fail
            refine planPost_mk ⟨⟨A4, Z4.out⟩, rfl⟩ ?_
            repeat (rw [wpPlan_takes_cons]; simp only [nth_zero, nth_succ]; go_big_quiet_step (fail); try (with_reducible refine wpQuiet_nil ?_))
            rw [wpPlan_takes_nil]
            rw [wpPlan_one]
            simp only [nth_zero, nth_succ]
            obtain ⟨A5, S9, r9, g9⟩ := store_stC ⟨(xd, xdn, xdc), (xs, xsn, xsc), xnx, xkd, xid, (xp, xpn, xpc)⟩ rd4 rfl
            have Z5 : Hid (Below X4.heap.size X4 A5) := Z4.out.grown g9 Z4.out.size (fun j e => by cases e; exact nd3)
            have SHF := Lib.hid (cl4 A5 _ rd3.lt g9)
            simp only [stV, stL, slV] at S9
            go_wp2_with fail
            refine planPost_mk ⟨⟨A5, Z5.out⟩, rfl⟩ ?_
            exact KEY ⟨M, D2, (va, vn, vc), ⟨(xd, xdn, xdc), (xs, xsn, xsc), xnx, xkd, xid, (xp, xpn, xpc)⟩⟩ _ ⟨Z5, Lib.hid r9, SHF⟩
        · simp only [nth_zero, nth_succ]
          obtain ⟨D2, hD2⟩ : ∃ M, A1.heap.size = M := ⟨_, rfl⟩
          obtain ⟨A2, hA2⟩ : ∃ V, A1.alloc (.cells #[.slice none 0 0, .slice none 0 0, .int .i64 0, .int .i64 0, .int .i64 0, .slice none 0 0] 30) = V := ⟨_, rfl⟩
          have b2 : Below A1.heap.size A1 A2 := by rw [← hA2]; exact below_new _ _
          have rd2 : RowC A2 D2 30 [.slice none 0 0, .slice none 0 0, .int .i64 0, .int .i64 0, .int .i64 0, .slice none 0 0] := by rw [← hA2, ← hD2]; exact RowC.new _ _ _
          have nd2 : X4.heap.size ≤ D2 := by rw [← hD2]; exact Z1.out.size
          have Z2 : Hid (Below X4.heap.size X4 A2) := Z1.out.trans (b2.mono Z1.out.size)
          have ow2 := own_belowT ow b2
          clear b2
          go_wp2_with fail
          try rw [hA2]
          try rw [hD2]
          clear hA2 hD2
          refine planPost_mk ⟨⟨A2, Z2.out⟩, rfl⟩ ?_
          rw [wpPlan_one]
          simp only [nth_zero, nth_succ]
          obtain ⟨v3, A3, r3, o3, g3⟩ := run_append_bytes X4.heap.size A2 _ [] ow2 _ bs (HBS.out A2 (E4.out.trans (Z2.out.mono E4.out.size))) (by have := HBL.out; simp; omega) Z2.out.size
          rw [List.nil_append] at o3
          have Z3 : Hid (Below X4.heap.size X4 A3) := Z2.out.grown g3 Z2.out.size (fun j e => (World.ownsRow.lt ow2 j e).1)
          have rd3 := rd2.grown g3 (row_ne ow2 rd2 (by decide))
          have sv3 : Sl .u8 A3 v3 bs := Sl.of_owns o3
          obtain ⟨⟨va, vn, vc⟩, rfl, -⟩ := own_slV o3
          have R3 := Lib.hid r3
          simp only [slV] at R3 sv3
          clear o3 g3 r3
          refine wpList_append_run (.tmp 45) (.tmp 46) 31 rfl rfl _ _ _ rfl rfl R3.out ?_
          go_wp2_with fail
          refine planPost_mk ⟨⟨A3, Z3.out⟩, rfl⟩ ?_
          rw [wpPlan_one]
          simp only [nth_zero, nth_succ]
          have CD := Lib.hid (HDE.out A3 _ sv3)
          go_wp2_with fail
          refine CD.out.mono ?_
          rintro e A4 ⟨⟨⟨xd, xdn, xdc⟩, ⟨xs, xsn, xsc⟩, xnx, xkd, xid, ⟨xp, xpn, xpc⟩⟩, rfl, sh4, cl4, b4⟩
          have lt4 := Z3.out.size
          have Z4 : Hid (Below X4.heap.size X4 A4) := Z3.out.trans (b4.mono Z3.out.size)
          have rd4 := rd3.below b4
          clear CD b4
          simp only [stV, stL, slV]
          go_wp2_with fail
          refine planPost_mk ⟨⟨A4, Z4.out⟩, rfl⟩ ?_
          repeat (rw [wpPlan_takes_cons]; simp only [nth_zero, nth_succ]; go_big_quiet_step (fail); try (with_reducible refine wpQuiet_nil ?_))
          rw [wpPlan_takes_nil]
          rw [wpPlan_one]
          simp only [nth_zero, nth_succ]
          obtain ⟨A5, S9, r9, g9⟩ := store_stC ⟨(xd, xdn, xdc), (xs, xsn, xsc), xnx, xkd, xid, (xp, xpn, xpc)⟩ rd4 rfl
          have Z5 : Hid (Below X4.heap.size X4 A5) := Z4.out.grown g9 Z4.out.size (fun j e => by cases e; exact nd2)
          have SHF := Lib.hid (cl4 A5 _ rd3.lt g9)
          simp only [stV, stL, slV] at S9
          go_wp2_with fail
          refine planPost_mk ⟨⟨A5, Z5.out⟩, rfl⟩ ?_
          exact KEY ⟨M, D2, (va, vn, vc), ⟨(xd, xdn, xdc), (xs, xsn, xsc), xnx, xkd, xid, (xp, xpn, xpc)⟩⟩ _ ⟨Z5, Lib.hid r9, SHF⟩
      · simp only [nth_zero, nth_succ]
        obtain ⟨D2, hD2⟩ : ∃ M, X5.heap.size = M := ⟨_, rfl⟩
        obtain ⟨A1, hA1⟩ : ∃ V, X5.alloc (.cells #[.slice none 0 0, .slice none 0 0, .int .i64 0, .int .i64 0, .int .i64 0, .slice none 0 0] 30) = V := ⟨_, rfl⟩
        have b1 : Below X5.heap.size X5 A1 := by rw [← hA1]; exact below_new _ _
        have rd1 : RowC A1 D2 30 [.slice none 0 0, .slice none 0 0, .int .i64 0, .int .i64 0, .int .i64 0, .slice none 0 0] := by rw [← hA1, ← hD2]; exact RowC.new _ _ _
        have nd1 : X4.heap.size ≤ D2 := by rw [← hD2]; exact Z0.out.size
        have Z1 : Hid (Below X4.heap.size X4 A1) := Z0.out.trans (b1.mono Z0.out.size)
        clear b1
        go_wp2_with fail
        try rw [hA1]
        try rw [hD2]
        clear hA1 hD2
        refine planPost_mk ⟨⟨A1, Z1.out⟩, rfl⟩ ?_
        rw [wpPlan_one]
        simp only [nth_zero, nth_succ]
        obtain ⟨M, hM⟩ : ∃ M, A1.heap.size = M := ⟨_, rfl⟩
        obtain ⟨A2, hA2⟩ : ∃ V, A1.alloc (.cells #[] 5) = V := ⟨_, rfl⟩
        have b2 : Below A1.heap.size A1 A2 := by rw [← hA2]; exact below_new _ _
        have ow : A2.ownsRow X4.heap.size 5 1 (.slice (some ⟨M, 0, none⟩) 0 0) ([] : List Int).length (([] : List Int).map (Value.int .u8)) := by rw [← hA2, ← hM]; exact own_u80 X4.heap.size A1 Z1.out.size
        have Z2 : Hid (Below X4.heap.size X4 A2) := Z1.out.trans (b2.mono Z1.out.size)
        have rd2 := rd1.below b2
        clear b2
        go_wp2_with fail
        try rw [hA2]
        try rw [hM]
        clear hA2 hM
        refine planPost_mk ⟨⟨A2, Z2.out⟩, rfl⟩ ?_
        rw [wpPlan_one]
        simp only [nth_zero, nth_succ]
        obtain ⟨v3, A3, r3, o3, g3⟩ := run_append_bytes X4.heap.size A2 _ [] ow _ bs (HBS.out A2 (E4.out.trans (Z2.out.mono E4.out.size))) (by have := HBL.out; simp; omega) Z2.out.size
        rw [List.nil_append] at o3
        have Z3 : Hid (Below X4.heap.size X4 A3) := Z2.out.grown g3 Z2.out.size (fun j e => (World.ownsRow.lt ow j e).1)
        have rd3 := rd2.grown g3 (row_ne ow rd2 (by decide))
        have sv3 : Sl .u8 A3 v3 bs := Sl.of_owns o3
        obtain ⟨⟨va, vn, vc⟩, rfl, -⟩ := own_slV o3
        have R3 := Lib.hid r3
        simp only [slV] at R3 sv3
        clear o3 g3 r3
        refine wpList_append_run (.tmp 45) (.tmp 46) 31 rfl rfl _ _ _ rfl rfl R3.out ?_
        go_wp2_with fail
        refine planPost_mk ⟨⟨A3, Z3.out⟩, rfl⟩ ?_
        rw [wpPlan_one]
        simp only [nth_zero, nth_succ]
        have CD := Lib.hid (HDE.out A3 _ sv3)
        go_wp2_with fail
        refine CD.out.mono ?_
        rintro e A4 ⟨⟨⟨xd, xdn, xdc⟩, ⟨xs, xsn, xsc⟩, xnx, xkd, xid, ⟨xp, xpn, xpc⟩⟩, rfl, sh4, cl4, b4⟩
        have lt4 := Z3.out.size
        have Z4 : Hid (Below X4.heap.size X4 A4) := Z3.out.trans (b4.mono Z3.out.size)
        have rd4 := rd3.below b4
        clear CD b4
        simp only [stV, stL, slV]
        go_wp2_with fail
        refine planPost_mk ⟨⟨A4, Z4.out⟩, rfl⟩ ?_
        repeat (rw [wpPlan_takes_cons]; simp only [nth_zero, nth_succ]; go_big_quiet_step (fail); try (with_reducible refine wpQuiet_nil ?_))
        rw [wpPlan_takes_nil]
        rw [wpPlan_one]
        simp only [nth_zero, nth_succ]
        obtain ⟨A5, S9, r9, g9⟩ := store_stC ⟨(xd, xdn, xdc), (xs, xsn, xsc), xnx, xkd, xid, (xp, xpn, xpc)⟩ rd4 rfl
        have Z5 : Hid (Below X4.heap.size X4 A5) := Z4.out.grown g9 Z4.out.size (fun j e => by cases e; exact nd1)
        have SHF := Lib.hid (cl4 A5 _ rd3.lt g9)
        simp only [stV, stL, slV] at S9
        go_wp2_with fail
        refine planPost_mk ⟨⟨A5, Z5.out⟩, rfl⟩ ?_
        exact KEY ⟨M, D2, (va, vn, vc), ⟨(xd, xdn, xdc), (xs, xsn, xsc), xnx, xkd, xid, (xp, xpn, xpc)⟩⟩ _ ⟨Z5, Lib.hid r9, SHF⟩

set_option maxRecDepth 100000 in
theorem lifted (os : Os) (started : os.Started) (H : Type) (enc : TypeId × Value → H) :
    ReturnsInHanded {} Tryz.checked os 3 .any (Rows.stateCodesSpec.pre6 enc Tryz.prog Tryz.f3 Rows.stateCodesRow.domain false) (Rows.stateCodesSpec.post enc Tryz.prog Tryz.f3 false true false false) := by
  refine returnsInHanded_of_change (C := Tryz.checked) own started (by kernel_rfl) Tryz.func3
    (ChangeSpec.witness6 (enc := enc) (C := Tryz.checked) false ⟨#[], #[.agg #[.int .i64 0, .int .i64 0, .int .i64 0, .int .i64 0, .int .i64 0], .agg #[.slice none 0 0, .slice none 0 0, .int .i64 0, .int .i64 0, .int .i64 0, .slice none 0 0], .slice none 0 0], []⟩ 8 (by kernel_rfl) (by kernel_rfl) (by kernel_rfl) (by kernel_rfl)) ?_
  intro W base args ds gs before hval0 hW hcnd _
  have hval : ∀ (j : Nat) t v, Tryz.f3.params[j]? = some t → args[j]? = some v → Value.okWide Tryz.prog W .any base t v := hval0
  have hW' := hW
  obtain ⟨p, q, hA0, hV, rfl, hfz, hnd⟩ := hW
  have hA : DataW.TrodAll enc Tryz.prog W 0 (fun _ => true) true Tryz.f3.params.toList args.toList ds p := hA0
  rw [Tryz.params3] at hA hval
  obtain ⟨v0, vs0, d0, ds0, p0, q0, hargs, rfl, rfl, h0, r0⟩ := trodAll_cons hA
  obtain ⟨v1, vs1, d1, ds1, p1, q1, rfl, rfl, rfl, h1, r1⟩ := trodAll_cons r0
  obtain ⟨v2, vs2, d2, ds2, p2, q2, rfl, rfl, rfl, h2, r2⟩ := trodAll_cons r1
  obtain ⟨rfl, rfl, rfl⟩ := trodAll_nil r2
  obtain rfl : args = #[v0, v1, v2] := by cases args; simp_all
  obtain ⟨rfl, rfl⟩ := trodVars_none hV
  have lt0 : ∀ x ∈ p0, x.block < W.heap.size := by obtain ⟨m, hm⟩ := h0; exact DataW.trod_lt m _ _ _ hm
  have a0 := Arg.mk (hval 0 23 v0 rfl rfl) h0
  have lt1 : ∀ x ∈ p1, x.block < W.heap.size := by obtain ⟨m, hm⟩ := h1; exact DataW.trod_lt m _ _ _ hm
  have a1 := Arg.mk (hval 1 30 v1 rfl rfl) h1
  have lt2 : ∀ x ∈ p2, x.block < W.heap.size := by obtain ⟨m, hm⟩ := h2; exact DataW.trod_lt m _ _ _ hm
  have a2 := Arg.mk (hval 2 31 v2 rfl rfl) h2
  clear hA0 hval0
  refine (walk v0 v1 v2 W a0 a1 a2).mono fun e W' ⟨he, bel⟩ => ?_
  subst he
  exact ⟨_, rfl, _, _, _, [], _, [], hW', trodAll_mk1 (shut_bool Tryz.underlying4 _), (trodAll_cons_mk (Below.trod laidOut (by kernel_rfl) (of_decide_eq_true (by kernel_rfl)) h0 bel lt0) (trodAll_cons_mk (Below.trod laidOut (by kernel_rfl) (of_decide_eq_true (by kernel_rfl)) h1 bel lt1) (trodAll_cons_mk (Below.trod laidOut (by kernel_rfl) (of_decide_eq_true (by kernel_rfl)) h2 bel lt2) trodAll_mk0))), rfl, bel.frame _, fun h => by cases h⟩

set_option maxRecDepth 100000 in
theorem over : Rows.stateCodesRow.holds Tryz.pinned (OpenSpec.ofChange Rows.stateCodesSpec) :=
  OpenClaim.holds_of_wide 3 Tryz.f3 rfl rfl rfl rfl rfl rfl rfl ⟨rfl, rfl, rfl, rfl, rfl⟩ rfl rfl rfl rfl rfl (by kernel_rfl) Tryz.func3 (by kernel_rfl)
    (of_decide_eq_true (by kernel_rfl)) (by unfold Func.isWrapper; first | (rw [if_pos (by decide +kernel)]; kernel_rfl) | (rw [if_neg (by decide +kernel)]; exact ⟨rfl, rfl⟩))
    (fun os started H enc _ => lifted os started H enc)

theorem proved : Rows.StateCodesSaid := over
#print axioms proved
end Go.Proofs.YtfihpljgbghogaaGreat.stateCodes
