/- The state of a state's bytes is it; bytes that are a state's are its bytes; two states have the same bytes just if they are alike (P14.1 to P14.3; no word of the document's). -/
import Derived.Test.YtpjikfijhlmljaaGreatJ4
namespace Go.Proofs.YtpjikfijhlmljaaGreat.stateBack
open Go.ChangeShapes Go.WideShapes Go.ChangeAt Go.RowKit
set_option linter.unusedVariables false
open Go.Shelf Go.Lib Go.Sort
set_option linter.unusedSimpArgs false
attribute [-simp] Tryz.isAgg23 Tryz.zeroValue23 Tryz.isAgg55 Tryz.zeroValue55 Tryz.isAgg57 Tryz.zeroValue57 Tryz.isAgg30 Tryz.zeroValue30
attribute [-go_sem] loadVar storeVar
attribute [local go_sem] loadVar_openW storeVar_openW zero_geoW zero_sn zero_prs zero_st

set_option maxRecDepth 100000 in
set_option maxHeartbeats 12000000 in
theorem walk (v0 v1 v2 : Value) (w : World) (w0 : Arg w 23 v0) (w1 : Arg w 50 v1) (w2 : Arg w 31 v2) :
    Calls Tryz.prog 4 #[v0, v1, v2] w fun e w' => e = .returned (.bool true) ∧ Below w.heap.size w w' := by
  have hmx : Tryz.prog.follows .mixedOrders = true := by kernel_rfl
  obtain ⟨G, hi, rfl⟩ := w0.geo
  obtain ⟨q, d, l, ps, q', d', l', ps', rfl, ha, ha'⟩ := w1.twoSt
  obtain ⟨ba, bn, bc, bs, rfl, hbn, hbm, hbs, hby⟩ := w2.bytes Tryz.underlying31 Tryz.underlying5 (by kernel_rfl)
  obtain ⟨s, hs⟩ : ∃ s : ST, (⟨d, l, q.nx, q.kd, q.id, ps⟩ : ST) = s := ⟨_, rfl⟩
  obtain ⟨s', hs'⟩ : ∃ s : ST, (⟨d', l', q'.nx, q'.kd, q'.id, ps'⟩ : ST) = s := ⟨_, rfl⟩
  obtain ⟨W1, hW1⟩ : ∃ W, w.alloc (.cells G.v 23) = W := ⟨_, rfl⟩
  obtain ⟨W0, hW0⟩ : ∃ W, W1.alloc (.cells (stL q ++ stL q').toArray 50) = W := ⟨_, rfl⟩
  obtain ⟨B, hB⟩ : ∃ B, w.heap.size = B := ⟨_, rfl⟩
  have HSZ := Lib.hid hB
  have s1 : W1.heap.size = B + 1 := by rw [← hW1, ← hB]; simp
  have r0 : RowC W1 B 23 G.cs := by rw [← hW1, ← hB]; exact RowC.new _ _ _
  have r1 : RowC W0 (B + 1) 50 (stL q ++ stL q') := by rw [← hW0, ← s1]; exact RowC.new _ _ _
  have b1 : Below B w W1 := by rw [← hW1, ← hB]; exact below_new _ _
  have b2 : Below W1.heap.size W1 W0 := by rw [← hW0]; exact below_new _ _
  have b0 : Below B w W0 := b1.trans (b2.mono (by omega))
  have KB : Hid (∀ z : World, Below W0.heap.size W0 z → Below B w z) := fun z hz => b0.trans (hz.mono (by rw [← hB]; exact b0.size))
  have KG : Hid (∀ z : World, Below W0.heap.size W0 z → (loadVar 23 ⟨B, 0, none⟩).run Tryz.prog z = .ok (.agg G.v) z) := fun z hz => load_geo ((r0.below b2).below hz)
  have KL : Hid (∀ z : World, Below W0.heap.size W0 z → (loadVar 30 ⟨B + 1, 0, none⟩).run Tryz.prog z = .ok (stV q) z ∧ (loadVar 30 ⟨B + 1, 6, none⟩).run Tryz.prog z = .ok (stV q') z) := fun z hz => load_two (r1.below hz)
  have HA : Hid (∀ z : World, Below W0.heap.size W0 z → StA z q d l ps) := fun z hz => ha.below (by rw [hB]; exact KB.out z hz)
  have HA' : Hid (∀ z : World, Below W0.heap.size W0 z → StA z q' d' l' ps') := fun z hz => ha'.below (by rw [hB]; exact KB.out z hz)
  have HBS : Hid (∀ z : World, Below W0.heap.size W0 z → Sl .u8 z (.slice ba bn bc) bs) := fun z hz => hbs.below (by rw [hB]; exact KB.out z hz)
  have HBY := Lib.hid hby
  have HBN := Lib.hid hbn
  obtain ⟨f0, hf0⟩ : ∃ f, fairP l d.length ps = f := ⟨_, rfl⟩
  obtain ⟨f1, hf1⟩ : ∃ f, fairP l' d'.length ps' = f := ⟨_, rfl⟩
  have HF0 : Hid (∀ z : World, Below W0.heap.size W0 z → Calls Tryz.prog 6 #[stV q] z fun e w' => e = .returned (.bool f0) ∧ Below z.heap.size z w') := fun z hz => by rw [← hf0]; exact (HA.out z hz).fair
  have HF1 : Hid (∀ z : World, Below W0.heap.size W0 z → Calls Tryz.prog 6 #[stV q'] z fun e w' => e = .returned (.bool f1) ∧ Below z.heap.size z w') := fun z hz => by rw [← hf1]; exact (HA'.out z hz).fair
  have HK0 : Hid (f0 = true → Lens 1000 l ∧ d.length ≤ 1000 ∧ ps.length ≤ 1000) := fun h => fair_k (by rw [hf0]; exact h)
  have HK1 : Hid (f1 = true → Lens 1000 l' ∧ d'.length ≤ 1000 ∧ ps'.length ≤ 1000) := fun h => fair_k (by rw [hf1]; exact h)
  have HIN := Lib.hid hi
  have HS0 := Lib.hid hs
  have HS1 := Lib.hid hs'
  obtain ⟨⟨qd, qdn, qdc⟩, ⟨qs, qsn, qsc⟩, nx, kd, id, ⟨qp, qpn, qpc⟩⟩ := q
  obtain ⟨⟨rd, rdn, rdc⟩, ⟨rs, rsn, rsc⟩, nx', kd', id', ⟨rp, rpn, rpc⟩⟩ := q'
  simp only [stV, stL, slV] at KL HF0 HF1
  simp only [stL, slV, List.cons_append, List.nil_append] at hW0
  have HE0 : Hid (f0 = true → ∀ z : World, Below W0.heap.size W0 z → Calls Tryz.prog 9 #[.agg G.v, .agg #[.slice qd qdn qdc, .slice qs qsn qsc, .int .i64 nx, .int .i64 kd, .int .i64 id, .slice qp qpn qpc]] z fun e w' => ∃ (x : Option Addr) (n c : Nat) (cd : Int), e = .returned (.tuple #[.slice x n c, .int .i64 cd]) ∧ (gGood G s = true → cd = 0 ∧ (n : Int) = G.oB ∧ Sl .u8 w' (.slice x n c) (sEnc G.sg s)) ∧ (gGood G s = false → cd = 11) ∧ Below z.heap.size z w') := fun hf z hz => by
    have := ge_encodeS G HIN.out (HA.out z hz) (HK0.out hf).1 (HK0.out hf).2.2
    rw [HS0.out] at this
    exact this
  have HE1 : Hid (f1 = true → ∀ z : World, Below W0.heap.size W0 z → Calls Tryz.prog 9 #[.agg G.v, .agg #[.slice rd rdn rdc, .slice rs rsn rsc, .int .i64 nx', .int .i64 kd', .int .i64 id', .slice rp rpn rpc]] z fun e w' => ∃ (x : Option Addr) (n c : Nat) (cd : Int), e = .returned (.tuple #[.slice x n c, .int .i64 cd]) ∧ (gGood G s' = true → cd = 0 ∧ (n : Int) = G.oB ∧ Sl .u8 w' (.slice x n c) (sEnc G.sg s')) ∧ (gGood G s' = false → cd = 11) ∧ Below z.heap.size z w') := fun hf z hz => by
    have := ge_encodeS G HIN.out (HA'.out z hz) (HK1.out hf).1 (HK1.out hf).2.2
    rw [HS1.out] at this
    exact this
  obtain ⟨t, ht⟩ : ∃ t : Bool, t = true ↔ s = s' := by classical exact ⟨decide (s = s'), decide_eq_true_iff⟩
  have HSM : Hid (f0 = true → ∀ z : World, Below W0.heap.size W0 z → Calls Tryz.prog 20 #[.agg #[.slice qd qdn qdc, .slice qs qsn qsc, .int .i64 nx, .int .i64 kd, .int .i64 id, .slice qp qpn qpc], .agg #[.slice rd rdn rdc, .slice rs rsn rsc, .int .i64 nx', .int .i64 kd', .int .i64 id', .slice rp rpn rpc]] z fun e w' => e = .returned (.bool t) ∧ Below z.heap.size z w') := fun hf z hz => by
    have := sg_same (HA.out z hz).dd (HA'.out z hz).dd (HA.out z hz).st (HA'.out z hz).st (HK0.out hf).1 (by have := (HK0.out hf).2.1; omega) (by have := (HK0.out hf).2.2; omega)
    rw [HS0.out, HS1.out] at this
    exact this.mono fun e y ⟨t', h1, h2, h3⟩ => ⟨by rw [h1, Bool.eq_iff_iff.2 (h2.trans ht.symm)], h3⟩
  have HST : Hid (f0 = true → ∀ z : World, Below W0.heap.size W0 z → Calls Tryz.prog 18 #[.agg #[.slice qd qdn qdc, .slice qs qsn qsc, .int .i64 nx, .int .i64 kd, .int .i64 id, .slice qp qpn qpc], .agg #[.slice rd rdn rdc, .slice rs rsn rsc, .int .i64 nx', .int .i64 kd', .int .i64 id', .slice rp rpn rpc]] z fun e w' => e = .returned (.bool t) ∧ Below z.heap.size z w') := fun hf z hz => by
    have := eqk_states (HA.out z hz).dd (HA'.out z hz).dd (HA.out z hz).st (HA'.out z hz).st (HK0.out hf).1 (by have := (HK0.out hf).2.1; omega) (by have := (HK0.out hf).2.2; omega)
    rw [HS0.out, HS1.out] at this
    exact this.mono fun e y ⟨t', h1, h2, h3⟩ => ⟨by rw [h1, Bool.eq_iff_iff.2 (h2.trans ht.symm)], h3⟩
  have HT := Lib.hid ht
  have HOK : Hid (∀ x ∈ s.sn, x.Ok) := by
    have := (HA.out W0 (Below.refl _ _)).st.sn.ok
    rw [← HS0.out]
    exact this
  have HOK' : Hid (∀ x ∈ s'.sn, x.Ok) := by
    have := (HA'.out W0 (Below.refl _ _)).st.sn.ok
    rw [← HS1.out]
    exact this
  have HL0 : Hid (f0 = true → Lens 1000 s.sn ∧ s.d.length ≤ 1000 ∧ s.pr.length ≤ 1000) := fun h => by rw [← HS0.out]; exact HK0.out h
  have HBT : Hid (∀ z : World, Calls Tryz.prog 21 #[.agg G.v] z fun e w' => e = .returned (.int .i64 G.oB) ∧ Below z.heap.size z w') := fun z => gmBytes G HIN.out z
  obtain ⟨k0, k1⟩ := KL.out W0 (Below.refl _ _)
  have g0 := KG.out W0 (Below.refl _ _)
  clear w0 w1 w2 ha ha' hbs hby hbm hi hs hs' r0 r1 b0 b1 b2 hf0 hf1 hbn ht
  go_enter Tryz.func4, Tryz.ntmps4
  simp only [stV, stL, slV, List.cons_append, List.nil_append]
  go_wp2_with fail
  refine (HF0.out W0 (Below.refl _ _)).mono ?_
  rintro e X1 ⟨rfl, hb⟩
  have E1 : Hid (Below W0.heap.size W0 X1) := hb
  clear hb hW0 hW1 k0 k1 g0
  cases f0 with
  | false =>
    go_wp2_with fail
    refine (st_wakes _).mono ?_
    rintro e X2 ⟨rfl, hb⟩
    have E2 := Lib.hid (KB.out _ (E1.out.trans (hb.mono E1.out.size)))
    clear hb
    go_wp2_with fail
    go_ret
    exact ⟨rfl, by rw [HSZ.out]; exact E2.out⟩
  | true =>
    obtain ⟨k0, k1⟩ := KL.out X1 E1.out
    go_wp2_with fail
    refine (HF1.out X1 E1.out).mono ?_
    rintro e X2 ⟨rfl, hb⟩
    have E2 : Hid (Below W0.heap.size W0 X2) := E1.out.trans (hb.mono E1.out.size)
    clear hb k0 k1
    cases f1 with
    | false =>
      go_wp2_with fail
      refine (st_wakes _).mono ?_
      rintro e X3 ⟨rfl, hb⟩
      have E3 := Lib.hid (KB.out _ (E2.out.trans (hb.mono E2.out.size)))
      clear hb
      go_wp2_with fail
      go_ret
      exact ⟨rfl, by rw [HSZ.out]; exact E3.out⟩
    | true =>
      by_cases hlong : 3000 < bn
      · have q1 : decide ((bn : Int) > 3000) = true := by simp; omega
        have q2 : (bn : Int) > 3000 := by omega
        clear hlong
        go_wp2_with fail
        refine (st_wakes _).mono ?_
        rintro e X3 ⟨rfl, hb⟩
        have E3 := Lib.hid (KB.out _ (E2.out.trans (hb.mono E2.out.size)))
        clear hb
        go_wp2_with fail
        go_ret
        exact ⟨rfl, by rw [HSZ.out]; exact E3.out⟩
      · have q1 : decide ((bn : Int) > 3000) = false := by simp; omega
        have q2 : ¬ (bn : Int) > 3000 := by omega
        have HBL : Hid (bs.length ≤ 100000) := by show _ ≤ _; rw [HBN.out]; omega
        obtain ⟨k0, k1⟩ := KL.out X2 E2.out
        have g0 := KG.out X2 E2.out
        clear hlong
        go_wp2_with fail
        refine (HE0.out (by simp) X2 E2.out).mono ?_
        rintro e X3 ⟨x, n, c, cd, rfl, hc, hcn, hb⟩
        have E3 : Hid (Below W0.heap.size W0 X3) := E2.out.trans (hb.mono E2.out.size)
        have HC0 := Lib.hid hc
        have HC0n := Lib.hid hcn
        clear hb hc hcn k0 k1 g0
        obtain ⟨k0, k1⟩ := KL.out X3 E3.out
        have g0 := KG.out X3 E3.out
        go_wp2_with fail
        refine (HE1.out (by simp) X3 E3.out).mono ?_
        rintro e X4 ⟨x', n', c', cd', rfl, hc', hcn', hb⟩
        have E4 : Hid (Below W0.heap.size W0 X4) := E3.out.trans (hb.mono E3.out.size)
        have H34 := Lib.hid hb
        have HC1 := Lib.hid hc'
        have HC1n := Lib.hid hcn'
        clear hb hc' hcn' k0 k1 g0
        go_upto_if 48 with (fail)
        go_cut [70] from 11 to 69 (fun s70 wx => Hid (Below X4.heap.size X4 wx))
        case first =>
          cases hgs : gGood G s with
          | false =>
            obtain rfl := HC0n.out hgs
            go_wp2_with fail
            go_meet
            exact Below.refl _ _
          | true =>
            obtain ⟨rfl, hnb, hx⟩ := HC0.out hgs
            have HNB := Lib.hid hnb
            have HGS := Lib.hid hgs
            have HBE : Hid (IsBytes (sEnc G.sg s)) := gEnc_byt hgs HOK.out
            have hDE := gDec_enc hgs
            have HDC := Lib.hid (ge_decode G HIN.out (hx.below H34.out) HBE.out (by have := (gEnc_len hgs).2; omega))
            have g0 := KG.out X4 E4.out
            clear hx hnb
            go_wp2_with fail
            refine HDC.out.mono ?_
            rintro e X5 ⟨⟨⟨p1, p2, p3⟩, ⟨p4, p5, p6⟩, tn, tk, ti, ⟨p7, p8, p9⟩⟩, c2, rfl, hD, hb⟩
            obtain ⟨rfl, e1, e2, e3, hO⟩ := hD.1 s hDE
            simp only at e1 e2 e3
            subst e1 e2 e3
            have ST5 := new_st X5 ⟨(p1, p2, p3), (p4, p5, p6), s.nx, s.kd, s.id, (p7, p8, p9)⟩
            obtain ⟨Y, hY⟩ : ∃ y, X5.alloc (.cells (stL ⟨(p1, p2, p3), (p4, p5, p6), s.nx, s.kd, s.id, (p7, p8, p9)⟩).toArray 30) = y := ⟨_, rfl⟩
            have rY : RowC Y X5.heap.size 30 (stL ⟨(p1, p2, p3), (p4, p5, p6), s.nx, s.kd, s.id, (p7, p8, p9)⟩) := by rw [← hY]; exact RowC.new _ _ _
            have bY : Below X5.heap.size X5 Y := by rw [← hY]; exact below_new _ _
            obtain ⟨F, hF⟩ : ∃ F, X5.heap.size = F := ⟨_, rfl⟩
            rw [hY, hF] at ST5
            rw [hF] at rY
            have EY : Hid (Below X4.heap.size X4 Y) := hb.trans (bY.mono hb.size)
            have EY0 : Hid (Below W0.heap.size W0 Y) := E4.out.trans (EY.out.mono E4.out.size)
            have hOY := hO.below bY
            have HSX : Hid (Calls Tryz.prog 20 #[.agg #[.slice p1 p2 p3, .slice p4 p5 p6, .int .i64 s.nx, .int .i64 s.kd, .int .i64 s.id, .slice p7 p8 p9], .agg #[.slice qd qdn qdc, .slice qs qsn qsc, .int .i64 nx, .int .i64 kd, .int .i64 id, .slice qp qpn qpc]] Y fun e w' => e = .returned (.bool true) ∧ Below Y.heap.size Y w') := by
              obtain ⟨hk1, hk2, hk3⟩ := HL0.out (by simp)
              have := sg_same (q := ⟨(p1, p2, p3), (p4, p5, p6), s.nx, s.kd, s.id, (p7, p8, p9)⟩) (q' := ⟨(qd, qdn, qdc), (qs, qsn, qsc), nx, kd, id, (qp, qpn, qpc)⟩) hOY.sl (HA.out Y EY0.out).dd hOY.is (HA.out Y EY0.out).st hk1 (by omega) (by omega)
              exact this.mono fun e y ⟨t', h1, h2, h3⟩ => ⟨by rw [h1, h2.2 HS0.out.symm], h3⟩
            have HBN2 : Hid (∀ z : World, Calls Tryz.prog 21 #[.agg G.v] z fun e w' => e = .returned (.int .i64 (n : Int)) ∧ Below z.heap.size z w') := fun z => by rw [HNB.out]; exact HBT.out z
            have k2 := load_stC rY
            have k3 := (KL.out Y EY0.out).1
            have KG2 := KG.out
            simp only [stV, stL, slV] at ST5 k2 ⊢
            clear hb hY bY rY hO hOY hD hDE g0 HDC KG2
            go_wp2_with fail
            refine HSX.out.mono ?_
            rintro e X6 ⟨rfl, hb⟩
            have E6 : Hid (Below X4.heap.size X4 X6) := EY.out.trans (hb.mono EY.out.size)
            have g1 := KG.out X6 (E4.out.trans (E6.out.mono E4.out.size))
            clear hb k2 k3 ST5
            go_wp2_with fail
            refine (HBN2.out _).mono ?_
            rintro e X7 ⟨rfl, hb⟩
            have E7 : Hid (Below X4.heap.size X4 X7) := E6.out.trans (hb.mono E6.out.size)
            clear hb
            go_wp2_with fail
            go_meet
            exact E7
        case rest =>
          have H4w : Hid (Below X4.heap.size X4 wc) := hcut
          have E5 : Hid (Below W0.heap.size W0 wc) := E4.out.trans (H4w.out.mono E4.out.size)
          clear hcut
          go_wp2_with fail
          go_cut [87] from 71 to 86 (fun s87 wx => s87 = .bool false ∧ Hid (Below W0.heap.size W0 wx))
          case first =>
            have KD : Hid (Below wc.heap.size wc wc.drew) := (Below.refl _ wc).drew
            have d0 : ∀ z : Ext wc, (loadVar 30 ⟨B + 1, 0, none⟩).run Tryz.prog z.1 = .ok (.agg #[.slice qd qdn qdc, .slice qs qsn qsc, .int .i64 nx, .int .i64 kd, .int .i64 id, .slice qp qpn qpc]) z.1 := fun z => (KL.out z.1 (E5.out.trans (z.2.mono E5.out.size))).1
            have d1 : ∀ z : Ext wc, (loadVar 30 ⟨B + 1, 6, none⟩).run Tryz.prog z.1 = .ok (.agg #[.slice rd rdn rdc, .slice rs rsn rsc, .int .i64 nx', .int .i64 kd', .int .i64 id', .slice rp rpn rpc]) z.1 := fun z => (KL.out z.1 (E5.out.trans (z.2.mono E5.out.size))).2
            cases hgs : gGood G s with
            | false =>
              obtain rfl := HC0n.out hgs
              refine region_plan (fun x => ∃ z : Ext wc, x = z.1) 16 (.takes [0, 1, 2, 3, 4, 5, 6, 7, 8, 10, 11, 12, 13] (.one 9 (.one 14 (.takes [15] .leaf)))) hmx (by kernel_rfl) (by intro c x v a w h; cases x <;> exact h) ⟨⟨wc.drew, KD.out⟩, rfl⟩ ?_
              repeat (rw [wpPlan_takes_cons]; simp only [nth_zero, nth_succ]; go_big_quiet_step (fail); refine wpQuiet_nil ?_)
              clear d0 d1
              rw [wpPlan_takes_nil, wpPlan_one]
              simp only [nth_zero, nth_succ]
              go_wp2_with fail
              refine planPost_mk ⟨⟨_, KD.out⟩, rfl⟩ ?_
              rw [wpPlan_one]
              simp only [nth_zero, nth_succ]
              go_wp2_with fail
              refine planPost_mk ⟨⟨_, KD.out⟩, rfl⟩ ?_
              repeat (rw [wpPlan_takes_cons]; simp only [nth_zero, nth_succ]; go_big_quiet_step (fail); refine wpQuiet_nil ?_)
              rw [wpPlan_takes_nil, wpPlan_leaf]
              simp only [List.drop_succ_cons, List.drop_zero]
              go_wp2_with fail
              go_meet
              exact ⟨rfl, E5.out.trans (KD.out.mono E5.out.size)⟩
            | true =>
              cases hgs' : gGood G s' with
              | false =>
                obtain ⟨rfl, -, -⟩ := HC0.out hgs
                obtain rfl := HC1n.out hgs'
                refine region_plan (fun x => ∃ z : Ext wc, x = z.1) 16 (.takes [0, 1, 2, 3, 4, 5, 6, 7, 8, 10, 11, 12, 13] (.one 9 (.one 14 (.takes [15] .leaf)))) hmx (by kernel_rfl) (by intro c x v a w h; cases x <;> exact h) ⟨⟨wc.drew, KD.out⟩, rfl⟩ ?_
                repeat (rw [wpPlan_takes_cons]; simp only [nth_zero, nth_succ]; go_big_quiet_step (fail); refine wpQuiet_nil ?_)
                clear d0 d1
                rw [wpPlan_takes_nil, wpPlan_one]
                simp only [nth_zero, nth_succ]
                go_wp2_with fail
                refine planPost_mk ⟨⟨_, KD.out⟩, rfl⟩ ?_
                rw [wpPlan_one]
                simp only [nth_zero, nth_succ]
                go_wp2_with fail
                refine planPost_mk ⟨⟨_, KD.out⟩, rfl⟩ ?_
                repeat (rw [wpPlan_takes_cons]; simp only [nth_zero, nth_succ]; go_big_quiet_step (fail); refine wpQuiet_nil ?_)
                rw [wpPlan_takes_nil, wpPlan_leaf]
                simp only [List.drop_succ_cons, List.drop_zero]
                go_wp2_with fail
                go_meet
                exact ⟨rfl, E5.out.trans (KD.out.mono E5.out.size)⟩
              | true =>
                obtain ⟨rfl, -, hx⟩ := HC0.out hgs
                obtain ⟨rfl, -, hx'⟩ := HC1.out hgs'
                have HBY2 : Hid (∀ z : World, Below wc.heap.size wc z → Calls Tryz.prog 17 #[.slice x n c, .slice x' n' c'] z fun e w' => e = .returned (.bool t) ∧ w' = z) := fun z hz => by
                  have h1 : Below X4.heap.size X4 z := H4w.out.trans (hz.mono H4w.out.size)
                  have := eqk_bytes _ _ _ _ z ((hx.below H34.out).below h1) (hx'.below h1) (gEnc_byt hgs HOK.out) (gEnc_byt hgs' HOK'.out)
                  exact this.mono fun e y hy => ⟨by rw [hy.1, Bool.eq_iff_iff.2 (decide_eq_true_iff.trans ((gEnc_inj hgs hgs').trans HT.out.symm))], hy.2⟩
                clear hx hx'
                refine region_plan (fun x => ∃ z : Ext wc, x = z.1) 16 (.takes [0, 1, 2, 3, 4, 5, 6, 7, 8, 10, 11, 12, 13] (.one 9 (.one 14 (.takes [15] .leaf)))) hmx (by kernel_rfl) (by intro c x v a w h; cases x <;> exact h) ⟨⟨wc.drew, KD.out⟩, rfl⟩ ?_
                repeat (rw [wpPlan_takes_cons]; simp only [nth_zero, nth_succ]; go_big_quiet_step (fail); refine wpQuiet_nil ?_)
                clear d0 d1
                rw [wpPlan_takes_nil, wpPlan_one]
                simp only [nth_zero, nth_succ]
                go_wp2_with fail
                refine (HBY2.out _ KD.out).mono ?_
                rintro e y1 ⟨rfl, rfl⟩
                go_wp2_with fail
                refine planPost_mk ⟨⟨_, KD.out⟩, rfl⟩ ?_
                rw [wpPlan_one]
                simp only [nth_zero, nth_succ]
                go_wp2_with fail
                refine (HSM.out (by simp) _ (E5.out.trans (KD.out.mono E5.out.size))).mono ?_
                rintro e y2 ⟨rfl, hb⟩
                have E6 : Hid (Below wc.heap.size wc y2) := KD.out.trans (hb.mono KD.out.size)
                clear hb
                go_wp2_with fail
                refine planPost_mk ⟨⟨y2, E6.out⟩, rfl⟩ ?_
                repeat (rw [wpPlan_takes_cons]; simp only [nth_zero, nth_succ]; go_big_quiet_step (fail); refine wpQuiet_nil ?_)
                rw [wpPlan_takes_nil, wpPlan_leaf]
                simp only [List.drop_succ_cons, List.drop_zero]
                go_wp2_with fail
                go_meet
                exact ⟨by simp, E5.out.trans (E6.out.mono E5.out.size)⟩
          case rest =>
            clear H4w H34 HC0 HC0n HC1 HC1n E5
            obtain ⟨rfl, E5⟩ := hcut
            have g0 := KG.out wc E5.out
            have HDC := Lib.hid (ge_decode G HIN.out (HBS.out wc E5.out) HBY.out HBL.out)
            go_wp2_with fail
            refine HDC.out.mono ?_
            rintro e X5 ⟨⟨⟨p1, p2, p3⟩, ⟨p4, p5, p6⟩, tn, tk, ti, ⟨p7, p8, p9⟩⟩, c2, rfl, hD, hb⟩
            have ST5 := new_st X5 ⟨(p1, p2, p3), (p4, p5, p6), tn, tk, ti, (p7, p8, p9)⟩
            obtain ⟨Y, hY⟩ : ∃ y, X5.alloc (.cells (stL ⟨(p1, p2, p3), (p4, p5, p6), tn, tk, ti, (p7, p8, p9)⟩).toArray 30) = y := ⟨_, rfl⟩
            have rY : RowC Y X5.heap.size 30 (stL ⟨(p1, p2, p3), (p4, p5, p6), tn, tk, ti, (p7, p8, p9)⟩) := by rw [← hY]; exact RowC.new _ _ _
            have bY : Below X5.heap.size X5 Y := by rw [← hY]; exact below_new _ _
            obtain ⟨F, hF⟩ : ∃ F, X5.heap.size = F := ⟨_, rfl⟩
            rw [hY, hF] at ST5
            rw [hF] at rY
            have E6 : Hid (Below W0.heap.size W0 Y) := E5.out.trans ((hb.trans (bY.mono hb.size)).mono E5.out.size)
            have RY := Lib.hid rY
            have HD1 : Hid (∀ s2, gDec G bs = some s2 → c2 = 0 ∧ tn = s2.nx ∧ tk = s2.kd ∧ ti = s2.id ∧ StO wc.heap.size Y ⟨(p1, p2, p3), (p4, p5, p6), tn, tk, ti, (p7, p8, p9)⟩ s2.d s2.sn s2.pr) := fun s2 h2 => by
              obtain ⟨a1, a2, a3, a4, a5⟩ := hD.1 s2 h2
              exact ⟨a1, a2, a3, a4, a5.below bY⟩
            have HD2 : Hid (gDec G bs = none → c2 ≠ 0) := fun h2 => by
              rw [(hD.2 h2).1]
              split <;> decide
            simp only [stV, stL, slV] at ST5 ⊢
            clear hb hY bY rY hD g0 HDC
            go_upto_if 95 with (fail)
            go_cut [109] from 15 to 108 (fun s109 wx => Hid (Below W0.heap.size W0 wx))
            case first =>
              cases hdd : gDec G bs with
              | none =>
                have hne : (c2 == 0) = false := by simpa using HD2.out hdd
                go_wp2_with fail
                go_meet
                exact E6
              | some s2 =>
                obtain ⟨rfl, rfl, rfl, rfl, hO⟩ := HD1.out s2 hdd
                obtain ⟨hA2, hk1, hk2, hk3⟩ := hO.stA HBY.out hdd
                obtain ⟨hg2, he2⟩ := gDec_some hdd
                have HEN := Lib.hid (ge_encodeS (q := ⟨(p1, p2, p3), (p4, p5, p6), s2.nx, s2.kd, s2.id, (p7, p8, p9)⟩) G HIN.out hA2 hk1 hk2)
                have k2 := load_stC RY.out
                have g1 := KG.out Y E6.out
                have HG2 := Lib.hid hg2
                have HE2 := Lib.hid he2
                simp only [stV, stL, slV] at k2 HEN
                clear hO hA2 hk1 hk2 hk3 hg2 he2
                go_wp2_with fail
                refine HEN.out.mono ?_
                rintro e X6 ⟨x3, n3, c3, cd3, rfl, hc, -, hb⟩
                obtain ⟨rfl, -, hx⟩ := hc HG2.out
                have E7 : Hid (Below W0.heap.size W0 X6) := E6.out.trans (hb.mono E6.out.size)
                have HEQ : Hid (Calls Tryz.prog 17 #[.slice x3 n3 c3, .slice ba bn bc] X6 fun e w' => e = .returned (.bool true) ∧ w' = X6) := by
                  have := eqk_bytes _ _ _ _ X6 hx (HBS.out X6 E7.out) (by show IsBytes (sEnc G.sg s2); rw [HE2.out]; exact HBY.out) HBY.out
                  exact this.mono fun e y hy => ⟨by rw [hy.1]; exact congrArg (fun b => Ending.returned (.bool b)) (decide_eq_true HE2.out), hy.2⟩
                clear hc hx hb k2 g1 HEN
                go_wp2_with fail
                refine HEQ.out.mono ?_
                rintro e X7 ⟨rfl, rfl⟩
                go_wp2_with fail
                go_meet
                exact E7
            case rest =>
              have E7 : Hid (Below W0.heap.size W0 wc) := hcut
              have KD : Hid (Below wc.heap.size wc wc.drew) := (Below.refl _ wc).drew
              have d0 : ∀ z : Ext wc, (loadVar 30 ⟨B + 1, 0, none⟩).run Tryz.prog z.1 = .ok (.agg #[.slice qd qdn qdc, .slice qs qsn qsc, .int .i64 nx, .int .i64 kd, .int .i64 id, .slice qp qpn qpc]) z.1 := fun z => (KL.out z.1 (E7.out.trans (z.2.mono E7.out.size))).1
              have d1 : ∀ z : Ext wc, (loadVar 30 ⟨B + 1, 6, none⟩).run Tryz.prog z.1 = .ok (.agg #[.slice rd rdn rdc, .slice rs rsn rsc, .int .i64 nx', .int .i64 kd', .int .i64 id', .slice rp rpn rpc]) z.1 := fun z => (KL.out z.1 (E7.out.trans (z.2.mono E7.out.size))).2
              clear HD1 HD2 RY E6 ST5 hcut
              go_wp2_with fail
              refine region_plan (fun x => ∃ z : Ext wc, x = z.1) 14 (.takes [0, 1, 2, 3, 5, 6, 7, 8] (.one 4 (.one 9 (.takes [10, 11] (.one 12 (.takes [13] .leaf)))))) hmx (by kernel_rfl) (by intro c x v a w h; cases x <;> exact h) ⟨⟨wc.drew, KD.out⟩, rfl⟩ ?_
              repeat (rw [wpPlan_takes_cons]; simp only [nth_zero, nth_succ]; go_big_quiet_step (fail); refine wpQuiet_nil ?_)
              clear d0 d1
              rw [wpPlan_takes_nil, wpPlan_one]
              simp only [nth_zero, nth_succ]
              go_wp2_with fail
              refine (HSM.out (by simp) _ (E7.out.trans (KD.out.mono E7.out.size))).mono ?_
              rintro e y1 ⟨rfl, hb⟩
              have E8 : Hid (Below wc.heap.size wc y1) := KD.out.trans (hb.mono KD.out.size)
              clear hb
              go_wp2_with fail
              refine planPost_mk ⟨⟨y1, E8.out⟩, rfl⟩ ?_
              rw [wpPlan_one]
              simp only [nth_zero, nth_succ]
              go_wp2_with fail
              refine (HST.out (by simp) _ (E7.out.trans (E8.out.mono E7.out.size))).mono ?_
              rintro e y2 ⟨rfl, hb⟩
              have E9 : Hid (Below wc.heap.size wc y2) := E8.out.trans (hb.mono E8.out.size)
              have qt : (t == t) = true := by simp
              clear hb
              go_wp2_with fail
              refine planPost_mk ⟨⟨y2, E9.out⟩, rfl⟩ ?_
              repeat (rw [wpPlan_takes_cons]; simp only [nth_zero, nth_succ]; go_big_quiet_step (fail); refine wpQuiet_nil ?_)
              rw [wpPlan_takes_nil, wpPlan_one]
              simp only [nth_zero, nth_succ]
              go_wp2_with fail
              refine (st_wakes _).mono ?_
              rintro e y3 ⟨rfl, hb⟩
              have EA : Hid (Below wc.heap.size wc y3) := E9.out.trans (hb.mono E9.out.size)
              have EF := Lib.hid (KB.out _ (E7.out.trans (EA.out.mono E7.out.size)))
              clear hb
              go_wp2_with fail
              refine planPost_mk ⟨⟨y3, EA.out⟩, rfl⟩ ?_
              repeat (rw [wpPlan_takes_cons]; simp only [nth_zero, nth_succ]; go_big_quiet_step (fail); refine wpQuiet_nil ?_)
              rw [wpPlan_takes_nil, wpPlan_leaf]
              simp only [List.drop_succ_cons, List.drop_zero]
              go_wp2_with fail
              go_ret
              exact ⟨rfl, by rw [HSZ.out]; exact EF.out⟩

set_option maxRecDepth 100000 in
theorem lifted (os : Os) (started : os.Started) (H : Type) (enc : TypeId × Value → H) :
    ReturnsInHanded {} Tryz.checked os 4 .any (Rows.stateBackSpec.pre6 enc Tryz.prog Tryz.f4 Rows.stateBackRow.domain false) (Rows.stateBackSpec.post enc Tryz.prog Tryz.f4 false true false false) := by
  refine returnsInHanded_of_change (C := Tryz.checked) own started (by kernel_rfl) Tryz.func4
    (ChangeSpec.witness6 (enc := enc) (C := Tryz.checked) false ⟨#[], #[.agg #[.int .i64 0, .int .i64 0, .int .i64 0, .int .i64 0, .int .i64 0], .agg #[.slice none 0 0, .slice none 0 0, .int .i64 0, .int .i64 0, .int .i64 0, .slice none 0 0, .slice none 0 0, .slice none 0 0, .int .i64 0, .int .i64 0, .int .i64 0, .slice none 0 0], .slice none 0 0], []⟩ 8 (by kernel_rfl) (by kernel_rfl) (by kernel_rfl) (by kernel_rfl)) ?_
  intro W base args ds gs before hval0 hW hcnd _
  have hval : ∀ (j : Nat) t v, Tryz.f4.params[j]? = some t → args[j]? = some v → Value.okWide Tryz.prog W .any base t v := hval0
  have hW' := hW
  obtain ⟨p, q, hA0, hV, rfl, hfz, hnd⟩ := hW
  have hA : DataW.TrodAll enc Tryz.prog W 0 (fun _ => true) true Tryz.f4.params.toList args.toList ds p := hA0
  rw [Tryz.params4] at hA hval
  obtain ⟨v0, vs0, d0, ds0, p0, q0, hargs, rfl, rfl, h0, r0⟩ := trodAll_cons hA
  obtain ⟨v1, vs1, d1, ds1, p1, q1, rfl, rfl, rfl, h1, r1⟩ := trodAll_cons r0
  obtain ⟨v2, vs2, d2, ds2, p2, q2, rfl, rfl, rfl, h2, r2⟩ := trodAll_cons r1
  obtain ⟨rfl, rfl, rfl⟩ := trodAll_nil r2
  obtain rfl : args = #[v0, v1, v2] := by cases args; simp_all
  obtain ⟨rfl, rfl⟩ := trodVars_none hV
  have lt0 : ∀ x ∈ p0, x.block < W.heap.size := by obtain ⟨m, hm⟩ := h0; exact DataW.trod_lt m _ _ _ hm
  have a0 := Arg.mk (hval 0 23 v0 rfl rfl) h0
  have lt1 : ∀ x ∈ p1, x.block < W.heap.size := by obtain ⟨m, hm⟩ := h1; exact DataW.trod_lt m _ _ _ hm
  have a1 := Arg.mk (hval 1 50 v1 rfl rfl) h1
  have lt2 : ∀ x ∈ p2, x.block < W.heap.size := by obtain ⟨m, hm⟩ := h2; exact DataW.trod_lt m _ _ _ hm
  have a2 := Arg.mk (hval 2 31 v2 rfl rfl) h2
  clear hA0 hval0
  refine (walk v0 v1 v2 W a0 a1 a2).mono fun e W' ⟨he, bel⟩ => ?_
  subst he
  exact ⟨_, rfl, _, _, _, [], _, [], hW', trodAll_mk1 (shut_bool Tryz.underlying4 _), (trodAll_cons_mk (Below.trod laidOut (by kernel_rfl) (of_decide_eq_true (by kernel_rfl)) h0 bel lt0) (trodAll_cons_mk (Below.trod laidOut (by kernel_rfl) (of_decide_eq_true (by kernel_rfl)) h1 bel lt1) (trodAll_cons_mk (Below.trod laidOut (by kernel_rfl) (of_decide_eq_true (by kernel_rfl)) h2 bel lt2) trodAll_mk0))), rfl, bel.frame _, fun h => by cases h⟩

set_option maxRecDepth 100000 in
theorem over : Rows.stateBackRow.holds Tryz.pinned (OpenSpec.ofChange Rows.stateBackSpec) :=
  OpenClaim.holds_of_wide 4 Tryz.f4 rfl rfl rfl rfl rfl rfl rfl ⟨rfl, rfl, rfl, rfl, rfl⟩ rfl rfl rfl rfl rfl (by kernel_rfl) Tryz.func4 (by kernel_rfl)
    (of_decide_eq_true (by kernel_rfl)) (by unfold Func.isWrapper; first | (rw [if_pos (by decide +kernel)]; kernel_rfl) | (rw [if_neg (by decide +kernel)]; exact ⟨rfl, rfl⟩))
    (fun os started H enc _ => lifted os started H enc)

theorem proved : Rows.StateBackSaid := over
#print axioms proved
end Go.Proofs.YtpjikfijhlmljaaGreat.stateBack
