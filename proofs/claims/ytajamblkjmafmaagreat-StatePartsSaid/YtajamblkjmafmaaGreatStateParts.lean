/- Of one part of a state turned alone the bytes of that part alone are other ones. -/
import Derived.Test.YtajamblkjmafmaaGreatJP5
namespace Go.Proofs.YtajamblkjmafmaaGreat.stateParts
open Go.ChangeShapes Go.WideShapes Go.ChangeAt Go.RowKit
set_option linter.unusedVariables false
open Go.Shelf Go.Lib Go.Sort
set_option linter.unusedSimpArgs false
attribute [-simp] Tryz.isAgg23 Tryz.zeroValue23 Tryz.isAgg55 Tryz.zeroValue55 Tryz.isAgg57 Tryz.zeroValue57 Tryz.isAgg30 Tryz.zeroValue30
attribute [-go_sem] loadVar storeVar
attribute [local go_sem] loadVar_openW storeVar_openW zero_geoW zero_sn zero_prs zero_st

set_option maxRecDepth 100000 in
set_option maxHeartbeats 12000000 in
theorem walk (v0 v1 v2 : Value) (w : World) (w0 : Arg w 23 v0) (w1 : Arg w 30 v1) (w2 : Arg w 53 v2) :
    Calls Tryz.prog 5 #[v0, v1, v2] w fun e w' => e = .returned (.bool true) ∧ Below w.heap.size w w' := by
  have hmx : Tryz.prog.follows .mixedOrders = true := by kernel_rfl
  obtain ⟨G, hi, rfl⟩ := w0.geo
  obtain ⟨q, d, l, ps, rfl, ha⟩ := w1.stA
  obtain ⟨m0, m1, rfl, wm0, wm1⟩ := w2.two Tryz.underlying53 Tryz.underlying5 (by kernel_rfl) (by kernel_rfl)
  obtain ⟨hm00, hm01⟩ := bounds_u8 wm0
  obtain ⟨hm10, hm11⟩ := bounds_u8 wm1
  obtain ⟨s, hs⟩ : ∃ s : ST, (⟨d, l, q.nx, q.kd, q.id, ps⟩ : ST) = s := ⟨_, rfl⟩
  obtain ⟨W1, hW1⟩ : ∃ W, w.alloc (.cells G.v 23) = W := ⟨_, rfl⟩
  obtain ⟨W2, hW2⟩ : ∃ W, W1.alloc (.cells (stL q).toArray 30) = W := ⟨_, rfl⟩
  obtain ⟨W0, hW0⟩ : ∃ W, W2.alloc (.cells #[.int .u8 m0, .int .u8 m1] 53) = W := ⟨_, rfl⟩
  obtain ⟨B, hB⟩ : ∃ B, w.heap.size = B := ⟨_, rfl⟩
  have HSZ := Lib.hid hB
  have s1 : W1.heap.size = B + 1 := by rw [← hW1, ← hB]; simp
  have s2 : W2.heap.size = B + 2 := by rw [← hW2, World.size_alloc, s1]
  have r0 : RowC W1 B 23 G.cs := by rw [← hW1, ← hB]; exact RowC.new _ _ _
  have r1 : RowC W2 (B + 1) 30 (stL q) := by rw [← hW2, ← s1]; exact RowC.new _ _ _
  have r2 : RowC W0 (B + 2) 53 [.int .u8 m0, .int .u8 m1] := by rw [← hW0, ← s2]; exact RowC.new _ _ _
  have b1 : Below B w W1 := by rw [← hW1, ← hB]; exact below_new _ _
  have b2 : Below W1.heap.size W1 W2 := by rw [← hW2]; exact below_new _ _
  have b3 : Below W2.heap.size W2 W0 := by rw [← hW0]; exact below_new _ _
  have b0 : Below B w W0 := (b1.trans (b2.mono (by omega))).trans (b3.mono (by omega))
  have KB : Hid (∀ z : World, Below W0.heap.size W0 z → Below B w z) := fun z hz => b0.trans (hz.mono (by rw [← hB]; exact b0.size))
  have KG0 : Hid (∀ z : World, Below W0.heap.size W0 z → RowC z B 23 G.cs) := fun z hz => ((r0.below b2).below b3).below hz
  have KG : Hid (∀ z : World, Below W0.heap.size W0 z → (loadVar 23 ⟨B, 0, none⟩).run Tryz.prog z = .ok (.agg G.v) z) := fun z hz => load_geo (KG0.out z hz)
  have KR : Hid (∀ z : World, Below W0.heap.size W0 z → RowC z (B + 1) 30 (stL q)) := fun z hz => (r1.below b3).below hz
  have KL : Hid (∀ z : World, Below W0.heap.size W0 z → (loadVar 30 ⟨B + 1, 0, none⟩).run Tryz.prog z = .ok (stV q) z) := fun z hz => load_stC (KR.out z hz)
  have KN : Hid (∀ z : World, Below W0.heap.size W0 z → z.cell? ⟨B + 2, 0, none⟩ = some (.int .u8 m0) ∧ z.cell? ⟨B + 2, 1, none⟩ = some (.int .u8 m1)) := fun z hz => ⟨(r2.below hz).cell 0 _ rfl, (r2.below hz).cell 1 _ rfl⟩
  have HA : Hid (∀ z : World, Below W0.heap.size W0 z → StA z q d l ps) := fun z hz => ha.below (by rw [hB]; exact KB.out z hz)
  have HWB : Hid (B + 2 < W0.heap.size) := r2.lt
  obtain ⟨f0, hf0⟩ : ∃ f, fairP l d.length ps = f := ⟨_, rfl⟩
  obtain ⟨f1, hf1⟩ : ∃ f, gGood G s = f := ⟨_, rfl⟩
  have HF0 : Hid (∀ z : World, Below W0.heap.size W0 z → Calls Tryz.prog 6 #[stV q] z fun e w' => e = .returned (.bool f0) ∧ Below z.heap.size z w') := fun z hz => by rw [← hf0]; exact (HA.out z hz).fair
  have HK0 : Hid (f0 = true → Lens 1000 l ∧ d.length ≤ 1000 ∧ ps.length ≤ 1000) := fun h => fair_k (by rw [hf0]; exact h)
  have HIN := Lib.hid hi
  have HS0 := Lib.hid hs
  have HF1 : Hid (f0 = true → ∀ z : World, Below W0.heap.size W0 z → Calls Tryz.prog 16 #[.agg G.v, stV q] z fun e w' => e = .returned (.bool f1) ∧ Below z.heap.size z w') := fun hf z hz => by
    have := ge_rgood G (HA.out z hz) (HK0.out hf).1 (HK0.out hf).2.2
    rw [HS0.out, hf1] at this
    exact this
  have HG1 : Hid (f1 = true → gGood G s = true) := fun h => by rw [hf1]; exact h
  have HE0 : Hid (f0 = true → f1 = true → ∀ z : World, Below W0.heap.size W0 z → Calls Tryz.prog 9 #[.agg G.v, stV q] z fun e w' => ∃ (x : Option Addr) (n c : Nat), e = .returned (.tuple #[.slice x n c, .int .i64 0]) ∧ (n : Int) = G.oB ∧ Sl .u8 w' (.slice x n c) (sEnc G.sg s) ∧ Below z.heap.size z w') := fun hf hg z hz => by
    have := ge_encodeS G HIN.out (HA.out z hz) (HK0.out hf).1 (HK0.out hf).2.2
    rw [HS0.out] at this
    refine this.mono fun e y ⟨x, n, c, cd, h1, h2, _, h3⟩ => ?_
    obtain ⟨rfl, h4, h5⟩ := h2 (HG1.out hg)
    exact ⟨x, n, c, h1, h4, h5, h3⟩
  have HCP : Hid (f0 = true → ∀ z : World, Below W0.heap.size W0 z → Calls Tryz.prog 8 #[stV q] z fun e w' => ∃ q' : PS, e = .returned (stV q') ∧ q'.nx = q.nx ∧ q'.kd = q.kd ∧ q'.id = q.id ∧ StO z.heap.size w' q' d l ps ∧ Below z.heap.size z w') := fun hf z hz => keep_state (HA.out z hz).dd (HA.out z hz).st (HK0.out hf).1 (by have := (HK0.out hf).2.1; omega) (by have := (HK0.out hf).2.2; omega)
  have HOK : Hid (∀ x ∈ s.sn, x.Ok) := by
    have := (HA.out W0 (Below.refl _ _)).st.sn.ok
    rw [← HS0.out]
    exact this
  have HBT : Hid (∀ z : World, Calls Tryz.prog 21 #[.agg G.v] z fun e w' => e = .returned (.int .i64 G.oB) ∧ Below z.heap.size z w') := fun z => gmBytes G HIN.out z
  obtain ⟨⟨qd, qdn, qdc⟩, ⟨qs, qsn, qsc⟩, nx, kd, id, ⟨qp, qpn, qpc⟩⟩ := q
  simp only [stV, stL, slV] at KL HF0 HF1 HE0 HCP hW2
  have k0 := KL.out W0 (Below.refl _ _)
  clear w0 w1 w2 ha hi hs r0 r1 r2 b0 b1 b2 b3 hf0 hf1
  go_enter Tryz.func5, Tryz.ntmps5
  simp only [stV, stL, slV]
  go_wp2_with fail
  refine (HF0.out W0 (Below.refl _ _)).mono ?_
  rintro e X1 ⟨rfl, hb⟩
  have E1 : Hid (Below W0.heap.size W0 X1) := hb
  clear hb hW0 hW1 hW2 k0
  cases f0 with
  | false =>
    go_wp2_with fail
    refine (st_wakes _).mono ?_
    rintro e X2 ⟨rfl, hb⟩
    have E2 := Lib.hid (KB.out _ (E1.out.trans (hb.mono E1.out.size)))
    clear hb
    go_wp2_with fail
    go_ret
    exact ⟨rfl, by rw [HSZ.out]; exact E2.out⟩
  | true =>
    have k0 := KL.out X1 E1.out
    have g0 := KG.out X1 E1.out
    go_wp2_with fail
    refine (HF1.out (by simp) X1 E1.out).mono ?_
    rintro e X2 ⟨rfl, hb⟩
    have E2 : Hid (Below W0.heap.size W0 X2) := E1.out.trans (hb.mono E1.out.size)
    clear hb k0 g0
    cases f1 with
    | false =>
      go_wp2_with fail
      refine (st_wakes _).mono ?_
      rintro e X3 ⟨rfl, hb⟩
      have E3 := Lib.hid (KB.out _ (E2.out.trans (hb.mono E2.out.size)))
      clear hb
      go_wp2_with fail
      go_ret
      exact ⟨rfl, by rw [HSZ.out]; exact E3.out⟩
    | true =>
      have k0 := KL.out X2 E2.out
      have g0 := KG.out X2 E2.out
      go_wp2_with fail
      refine (HE0.out (by simp) (by simp) X2 E2.out).mono ?_
      rintro e X3 ⟨x, n, c, rfl, hnb, hx, hb⟩
      have E3 : Hid (Below W0.heap.size W0 X3) := E2.out.trans (hb.mono E2.out.size)
      have HNB := Lib.hid hnb
      have HX := Lib.hid hx
      have HBN2 : Hid (∀ z : World, Calls Tryz.prog 21 #[.agg G.v] z fun e w' => e = .returned (.int .i64 (n : Int)) ∧ Below z.heap.size z w') := fun z => by rw [HNB.out]; exact HBT.out z
      clear hb hnb hx k0 g0
      have g0 := KG.out X3 E3.out
      go_wp2_with fail
      refine (HBN2.out X3).mono ?_
      rintro e X4 ⟨rfl, hb⟩
      have E4 : Hid (Below W0.heap.size W0 X4) := E3.out.trans (hb.mono E3.out.size)
      have H34 := Lib.hid hb
      have k0 := KL.out X4 E4.out
      clear hb g0
      go_wp2_with fail
      refine (HCP.out (by simp) X4 E4.out).mono ?_
      rintro e X5 ⟨⟨⟨p1, p2, p3⟩, ⟨p4, p5, p6⟩, tn, tk, ti, ⟨p7, p8, p9⟩⟩, rfl, e1, e2, e3, hO, hb⟩
      simp only at e1 e2 e3
      subst e1 e2 e3
      have ST5 := new_st X5 ⟨(p1, p2, p3), (p4, p5, p6), tn, tk, ti, (p7, p8, p9)⟩
      obtain ⟨Y, hY⟩ : ∃ y, X5.alloc (.cells (stL ⟨(p1, p2, p3), (p4, p5, p6), tn, tk, ti, (p7, p8, p9)⟩).toArray 30) = y := ⟨_, rfl⟩
      have rY : RowC Y X5.heap.size 30 (stL ⟨(p1, p2, p3), (p4, p5, p6), tn, tk, ti, (p7, p8, p9)⟩) := by rw [← hY]; exact RowC.new _ _ _
      have bY : Below X5.heap.size X5 Y := by rw [← hY]; exact below_new _ _
      obtain ⟨F, hF⟩ : ∃ F, X5.heap.size = F := ⟨_, rfl⟩
      rw [hY, hF] at ST5
      rw [hF] at rY
      have EY : Hid (Below X4.heap.size X4 Y) := hb.trans (bY.mono hb.size)
      have EY0 : Hid (Below W0.heap.size W0 Y) := E4.out.trans (EY.out.mono E4.out.size)
      have HFX : Hid (X4.heap.size ≤ F) := by show _ ≤ _; rw [← hF]; exact hb.size
      have HOY := Lib.hid (hO.below bY)
      have RY := Lib.hid rY
      obtain ⟨n0, -⟩ := KN.out Y EY0.out
      simp only [stV, stL, slV] at ST5 ⊢
      obtain ⟨r3, hr3⟩ : ∃ r, m0 % 3 = r := ⟨_, rfl⟩
      have hrb : r3 = 0 ∨ r3 = 1 ∨ r3 = 2 := by omega
      have HSD : Hid (s.nx = tn ∧ s.kd = tk ∧ s.d = d ∧ s.sn = l) := by show _ ∧ _ ∧ _ ∧ _; rw [← HS0.out]; exact ⟨rfl, rfl, rfl, rfl⟩
      have HGG := Lib.hid (HG1.out (by simp))
      have HGI : Hid (StIn G.sg s ∧ G.sg.Ok ∧ G.sg.geo G.r = G) := by
        obtain ⟨a1, a2⟩ := gGood_iff.1 HGG.out
        obtain ⟨ok, e⟩ := Geo.sg_ok a1
        exact ⟨good_in ok a2, ok, e⟩
      have hnx : 0 ≤ tn ∧ tn ≤ 1000001 := by have h1 := HGI.out.1.nx0; have h2 := HGI.out.1.nx1; rw [HSD.out.1] at h1 h2; exact ⟨h1, h2⟩
      have HK : Hid (Lens 1000 l ∧ ps.length ≤ 1000) := ⟨(HK0.out (by simp)).1, (HK0.out (by simp)).2.2⟩
      have HAY := Lib.hid (HA.out Y EY0.out)
      have HGG2 : Hid (gGood G ⟨d, l, tn, tk, ti, ps⟩ = true) := by show _ = _; rw [HS0.out]; exact HGG.out
      have hRb := KR.out Y EY0.out
      have kc0 := hRb.cell 0 _ rfl
      have kc1 := hRb.cell 1 _ rfl
      have kc2 := hRb.cell 2 _ rfl
      have kc3 := hRb.cell 3 _ rfl
      simp only [slV] at kc0 kc1
      clear hb hY bY rY hO k0 hRb
      go_upto_block 0 with (fail)
      clear ST5 n0
      obtain ⟨-, n1⟩ := KN.out Y EY0.out
      go_cut [10, 11] from 12 to 172 (fun s10 s11 wx => ∃ (fr to_ : Nat) (qt : PS) (st : ST), s10 = .int .i64 (fr : Int) ∧ s11 = .int .i64 (to_ : Int) ∧ Hid (TurnR G s F X4 fr to_ qt st wx))
      case first =>
        rcases hrb with rfl | rfl | rfl
        · skip
          clear kc0 kc1 n1
          by_cases hn : tn > 1000000
          · have q1 : decide (tn > 1000000) = true := by simpa using hn
            clear hnx
            go_wp2_with fail
            refine (st_wakes _).mono ?_
            rintro e X6 ⟨rfl, hb⟩
            have E6 := Lib.hid (KB.out _ (EY0.out.trans (hb.mono EY0.out.size)))
            clear hb
            go_wp2_with fail
            go_ret
            exact ⟨rfl, by rw [HSZ.out]; exact E6.out⟩
          · have q1 : decide (tn > 1000000) = false := by simpa using hn
            by_cases hk : tk = 0
            · have q2 : (tk != 0) = false := by simp [hk]
              have hq2 : (tk == 0) = true := by simp [hk]
              have hw : wrap64 (tn + 1) = tn + 1 := IntWalk.wrap64_in _ (by omega)
              have HT := Lib.hid (turn_next (q := ⟨(p1, p2, p3), (p4, p5, p6), tn, tk, ti, (p7, p8, p9)⟩) HOY.out RY.out EY.out HFX.out HAY.out.i6 HK.out HGG2.out (by show tn ≤ 1000000; omega) hk)
              rw [HS0.out] at HT
              have HW := Lib.hid hw
              have f2 := RY.out.frozen 2
              have e2 := RY.out.cell 2 _ rfl
              clear hnx hw hk
              go_wp2_with fail
              go_meet
              exact ⟨0, 4, _, _, rfl, rfl, by first | exact HT | (rw [HW.out]; exact HT)⟩
            · have q2 : (tk != 0) = true := by simp [hk]
              clear hnx
              go_wp2_with fail
              refine (st_wakes _).mono ?_
              rintro e X6 ⟨rfl, hb⟩
              have E6 := Lib.hid (KB.out _ (EY0.out.trans (hb.mono EY0.out.size)))
              clear hb
              go_wp2_with fail
              go_ret
              exact ⟨rfl, by rw [HSZ.out]; exact E6.out⟩
        · skip
          obtain ⟨hqd, hqm, hdc⟩ := Sl.cellI (show Sl .i64 Y (.slice qd qdn qdc) d from HAY.out.dd)
          have hd1 : 1 ≤ qdn := by
            have h1 := HGI.out.1.dl
            rw [HSD.out.2.2.1] at h1
            have h2 := Nat.mul_le_mul HGI.out.2.1.s1 HGI.out.2.1.y1
            unfold SG.slots at h1
            omega
          have hd2 : qdn ≤ 1000 := by have := (HK0.out (by simp)).2.1; omega
          obtain ⟨b, o, rfl, hcells⟩ := hdc hd1
          obtain ⟨k, hk1⟩ : ∃ k : Nat, m1 % (qdn : Int) = (k : Int) := ⟨(m1 % (qdn : Int)).toNat, by have := Int.emod_nonneg m1 (show (qdn : Int) ≠ 0 by omega); omega⟩
          have hk2 : m1.tmod (qdn : Int) = (k : Int) := by rw [Int.tmod_eq_emod_of_nonneg hm10]; exact hk1
          have hkl : k < qdn := by have := Int.emod_lt_of_pos m1 (show (0 : Int) < qdn by omega); omega
          have qz : ¬ (qdn : Int) = 0 := by omega
          have qz2 : ((qdn : Int) == 0) = false := by simp; omega
          obtain ⟨v, hv⟩ : ∃ v, d[k]?.getD 0 = v := ⟨_, rfl⟩
          have cd := hcells Y (Below.refl _ _) k hkl
          rw [hv] at cd
          obtain ⟨gd, gc, hpd, c1, f1, hO2, hgw, hNg, hne⟩ := HOY.out.setD (k := k) (by omega) (-1)
          rw [← hqd] at hpd
          simp only [Prod.mk.injEq] at hpd
          obtain ⟨rfl, rfl, rfl⟩ := hpd
          have e0 := RY.out.cell 0 _ rfl
          have e0' := RY.out.cell 0 _ rfl
          simp only [slV] at e0
          have HNE : Hid (gd ≠ F) := hne _ _ _ (by decide) RY.out
          have HO2 := Lib.hid hO2
          have HNG := Lib.hid hNg
          have HKL := Lib.hid hkl
          have HQD := Lib.hid hqd
          have HV := Lib.hid hv
          have hkd : k < d.length := by omega
          have kcq : (k : Int) < (p2 : Int) := by omega
          have HKD := Lib.hid hkd
          clear hcells hqm hdc hO2 hgw hNg hne hv e0' kc1 kc2 kc3 hqd hkd
          by_cases hv0 : v < 0
          · have q1 : decide (v < 0) = true := by simpa using hv0
            clear hnx c1 f1 e0
            go_wp2_with fail
            refine (st_wakes _).mono ?_
            rintro e X6 ⟨rfl, hb⟩
            have E6 := Lib.hid (KB.out _ (EY0.out.trans (hb.mono EY0.out.size)))
            clear hb
            go_wp2_with fail
            go_ret
            exact ⟨rfl, by rw [HSZ.out]; exact E6.out⟩
          · have q1 : decide (v < 0) = false := by simpa using hv0
            have HT := Lib.hid (turn_dirt (c := 0) HO2.out RY.out HNE.out EY.out HNG.out HAY.out.i6 HK.out HGG2.out HKD.out (by rw [HV.out]; omega))
            rw [HS0.out] at HT
            clear hnx
            go_wp2_with fail
            go_meet
            exact ⟨10 + k, 11 + k, _, _, by simp, by simp, HT⟩
        · skip
          have kq1 : qsn = l.length := by obtain ⟨r', a', c', e, -⟩ := HAY.out.st.sn; simp only [slV, Value.slice.injEq] at e; exact e.2.1
          have hq9 : qsn ≤ 1000 := by rw [kq1]; exact HK.out.1.1
          have HQL := Lib.hid kq1
          have HQ9 := Lib.hid hq9
          have HM10 := Lib.hid hm10
          clear kc0 kq1 hm00 hm01
          by_cases hz : qsn = 0
          · skip
            obtain ⟨q1, q1'⟩ := pu_eq0 hz
            clear hnx hz
            go_wp2_with fail
            refine (st_wakes _).mono ?_
            rintro e X6 ⟨rfl, hb⟩
            have E6 := Lib.hid (KB.out _ (EY0.out.trans (hb.mono EY0.out.size)))
            clear hb
            go_wp2_with fail
            go_ret
            exact ⟨rfl, by rw [HSZ.out]; exact E6.out⟩
          · obtain ⟨q1, q1'⟩ := pu_ne0 hz
            by_cases hk : tk = 0
            · have q2 : (tk != 0) = false := by rw [hk]; rfl
              have HTK := Lib.hid hk
              obtain ⟨k, hk1, hk2, hkl, kcq⟩ := pu_rem HM10.out hz
              have hw1 := pu_w1 hkl HQ9.out
              have HKL := Lib.hid hkl
              have HHK1 := Lib.hid hk1
              clear hz hk hnx
              by_cases hla : k + 1 < qsn
              · skip
                clear hw1
                go_upto_region 23 with (fail)
                obtain ⟨q3, q3'⟩ := pu_lt hla
                clear hla hk1 hk2 n1 kc2 kc3
                go_wp2_with fail
                refine (st_wakes _).mono ?_
                rintro e X6 ⟨rfl, hb⟩
                have E6 := Lib.hid (KB.out _ (EY0.out.trans (hb.mono EY0.out.size)))
                clear hb
                go_wp2_with fail
                go_ret
                exact ⟨rfl, by rw [HSZ.out]; exact E6.out⟩
              · skip
                clear hw1
                go_upto_region 23 with (fail)
                obtain ⟨q3, q3'⟩ := pu_nlt hla
                have HKE : Hid (k + 1 = l.length) := pu_last hla HKL.out HQL.out
                obtain ⟨sx, hsx⟩ := pu_in HKE.out
                have HSX := Lib.hid hsx
                obtain ⟨rr, hSR⟩ := HAY.out.st.sn
                obtain ⟨sb, so, ⟨vi, ⟨x1, x2, x3⟩, ⟨y1, y2, y3⟩⟩, hqs, -, -, hSI, -, -, e2⟩ := hSR.at hsx
                simp only at hqs
                subst hqs
                simp only [slV] at e2
                have hprt : Prt Y (.slice y1 y2 y3) sx.tb := hSI.tb
                have hy2 := pu_prt hprt
                have HY2 := Lib.hid hy2
                clear hSR hSI hsx hla hk1 hk2 n1 kc2 kc3 hprt hy2
                by_cases hm : y2 = 0
                · skip
                  obtain ⟨q4, q4'⟩ := pu_eq0 hm
                  clear hm
                  go_wp2_with fail
                  refine (st_wakes _).mono ?_
                  rintro e X6 ⟨rfl, hb⟩
                  have E6 := Lib.hid (KB.out _ (EY0.out.trans (hb.mono EY0.out.size)))
                  clear hb
                  go_wp2_with fail
                  go_ret
                  exact ⟨rfl, by rw [HSZ.out]; exact E6.out⟩
                · skip
                  obtain ⟨q4, q4'⟩ := pu_ne0 hm
                  obtain ⟨pp, tt, htb⟩ := pu_cons hm HY2.out
                  have HTB := Lib.hid htb
                  clear hm
                  go_upto_region 25 with (fail)
                  clear q1 q1' q2 q3 q3' q4 q4' e2 kc1
                  have bd : Below Y.heap.size Y Y.drew := (Below.refl _ Y).drew
                  obtain ⟨gd, gc, ty, tm, tc, ty', hpd, hlc, c1, f1, hsl, tm1, tm2, tm3, hd2, hst2, hgw, hNg, hne⟩ := (HOY.out.below bd).cutT HSX.out (pu_one htb)
                  rw [← HQL.out] at hpd
                  simp only [Prod.mk.injEq] at hpd
                  obtain ⟨rfl, rfl, rfl⟩ := hpd
                  have RYd := RY.out.below bd
                  have HNE : Hid (gd ≠ F) := hne _ _ _ (by decide) RYd
                  have HT := Lib.hid (turn_table (c := 0) (V := X4) (F := F) hd2 hst2 RYd HNE.out (EY.out.trans (bd.mono EY.out.size)) hNg HAY.out.i6 HK.out HGG2.out HKE.out HSX.out htb HTK.out)
                  rw [HS0.out] at HT
                  have e1 := RYd.cell 1 _ rfl
                  simp only [slV] at e1
                  obtain ⟨WA, hWA⟩ : ∃ W, Y.drew.setCell ⟨gd, k * 3 + 2, none⟩ (.slice ty' (tm - 1) (tc - 1)) = W := ⟨_, rfl⟩
                  rw [hWA] at HT
                  have hsl2 : ∀ x, x = Y.drew → (Instr.sliceAt 26 (.slice ty tm tc) (some (.int .i64 1)) none none).run Tryz.prog x = .ok (.slice ty' (tm - 1) (tc - 1)) x := fun x _ => hsl x
                  have HSL := Lib.hid hsl2
                  clear htb hd2 hst2 hgw hNg hne RYd bd hsl hsl2
                  refine region_plan (fun x => x = Y.drew) 12 (.takes [0, 1, 2, 3, 4, 5, 6, 7, 8, 9, 10, 11] .leaf) hmx (by kernel_rfl) (by intro c x v a w h; cases x <;> exact h) rfl ?_
                  iterate 9 (rw [wpPlan_takes_cons]; simp only [nth_zero, nth_succ]; go_big_quiet_step (fail); refine wpQuiet_nil ?_)
                  rw [wpPlan_takes_cons]; simp only [nth_zero, nth_succ]; refine wpQuiet_slice_run (.tmp 133) 26 (some (.const (.int .i64 1))) none rfl rfl _ _ _ _ rfl rfl rfl HSL.out ?_; refine wpQuiet_nil ?_; simp only [Act.put, List.setIfInBounds_toArray, List.set_cons_succ, List.set_cons_zero]
                  repeat (rw [wpPlan_takes_cons]; simp only [nth_zero, nth_succ]; go_big_quiet_step (fail); refine wpQuiet_nil ?_)
                  rw [wpPlan_takes_nil, wpPlan_leaf]
                  simp only [List.drop_succ_cons, List.drop_zero]
                  have hWB : (Y.setCell ⟨gd, k * 3 + 2, none⟩ (.slice ty' (tm - 1) (tc - 1))).drew = WA := by rw [← hWA]; rfl
                  go_upto_region 26 with (fail)
                  have EWA : Hid (Below W0.heap.size W0 WA) := E4.out.trans (HT.out.be.mono E4.out.size)
                  have ga := KG0.out WA EWA.out
                  have ga0 := ga.cell 0 _ rfl
                  obtain ⟨S, hS⟩ := pu_from (gGood_iff.1 HGG.out).1 (k := k) (pu_k HKL.out HQ9.out) (pu_rng HGI.out.1 HSD.out.2.2.2 HSX.out HTB.out).1 (pu_rng HGI.out.1 HSD.out.2.2.2 HSX.out HTB.out).2
                  have HSE := Lib.hid hS.eq
                  have HSS := Lib.hid hS.s
                  have HFF := Lib.hid hS.f
                  have HS1 := Lib.hid hS.b8
                  have ga1 := ga.cell 1 _ rfl
                  have ga2 := ga.cell 2 _ rfl
                  have kr1 := (KR.out WA EWA.out).cell 1 _ rfl
                  simp only [slV] at kr1
                  obtain ⟨ss, hSS⟩ := (HA.out WA EWA.out).st.sn
                  obtain ⟨sb', so', ⟨vj, ⟨x1', x2', x3'⟩, ⟨z1, z2, z3⟩⟩, hqs, -, -, hSJ, -, -, e2⟩ := hSS.at HSX.out
                  simp only [Option.some.injEq, Addr.mk.injEq, true_and, and_true] at hqs
                  obtain ⟨rfl, rfl⟩ := hqs
                  simp only [slV] at e2
                  have hprt : Prt WA (.slice z1 z2 z3) sx.tb := hSJ.tb
                  have hz2 := pu_prt hprt
                  obtain ⟨tb, to_, rfl, -, e3, -⟩ := hprt.at (k := 0) (p := pp) (by rw [HTB.out]; rfl)
                  rw [Nat.zero_mul, Nat.add_zero] at e3
                  have hz0 := pu_pos HTB.out hz2
                  clear e1 c1 f1 hS ga hSS hSJ hprt hz2
                  go_upto_region 27 with (fail)
                  rw [HSS.out]
                  refine region_plan (fun x => x = WA.drew) 26 (.takes [0, 1, 2, 3, 4, 5, 6, 7, 8, 9, 10, 11, 12, 13, 14, 15, 16, 17, 18, 19, 20, 21, 22, 23, 24, 25] .leaf) hmx (by kernel_rfl) (by intro c x v a w h; cases x <;> exact h) rfl ?_
                  repeat (rw [wpPlan_takes_cons]; simp only [nth_zero, nth_succ]; go_big_quiet_step (fail); refine wpQuiet_nil ?_)
                  rw [wpPlan_takes_nil, wpPlan_leaf]
                  simp only [List.drop_succ_cons, List.drop_zero]
                  clear ga0 ga1 ga2 kr1 e2 e3 hz0
                  go_upto_region 28 with (fail)
                  rw [HFF.out]
                  rw [← HSE.out] at HT
                  have HTD := Lib.hid (HT.out.below ((Below.refl _ WA).drew))
                  go_wp2_with fail
                  go_meet
                  exact ⟨S, S + 1, _, _, rfl, by rw [HS1.out], HTD⟩
            · skip
              have q2 : (tk != 0) = true := by simpa using hk
              clear hnx hz hk
              go_wp2_with fail
              refine (st_wakes _).mono ?_
              rintro e X6 ⟨rfl, hb⟩
              have E6 := Lib.hid (KB.out _ (EY0.out.trans (hb.mono EY0.out.size)))
              clear hb
              go_wp2_with fail
              go_ret
              exact ⟨rfl, by rw [HSZ.out]; exact E6.out⟩
      case rest =>
        as_aux_lemma =>
          obtain ⟨fr, to_, ⟨⟨t1, t2, t3⟩, ⟨t4, t5, t6⟩, un, uk, ui, ⟨t7, t8, t9⟩⟩, st, rfl, rfl, HT⟩ := hcut
          have EW : Hid (Below W0.heap.size W0 wc) := E4.out.trans (HT.out.be.mono E4.out.size)
          have g0 := KG.out wc EW.out
          have k2 := load_stC HT.out.row
          have HE2 : Hid (Calls Tryz.prog 9 #[.agg G.v, .agg #[.slice t1 t2 t3, .slice t4 t5 t6, .int .i64 un, .int .i64 uk, .int .i64 ui, .slice t7 t8 t9]] wc fun e w' => ∃ (x : Option Addr) (n c : Nat), e = .returned (.tuple #[.slice x n c, .int .i64 0]) ∧ (n : Int) = G.oB ∧ Sl .u8 w' (.slice x n c) (sEnc G.sg st) ∧ Below wc.heap.size wc w') := by
            have := ge_encodeS G HIN.out HT.out.sta HT.out.lens.1 HT.out.lens.2
            rw [HT.out.is] at this
            refine this.mono fun e y ⟨x, n, c, cd, h1, h2, _, h3⟩ => ?_
            obtain ⟨rfl, h4, h5⟩ := h2 HT.out.good
            exact ⟨x, n, c, h1, h4, h5, h3⟩
          simp only [stV, stL, slV] at k2
          clear RY HOY HAY EY0 EY HGG2 hnx hrb hr3 HE0 HCP HF0 HF1
          go_wp2_with fail
          refine HE2.out.mono ?_
          rintro e X6 ⟨x2, n2, c2, rfl, hnb2, hx2, hb⟩
          obtain rfl : n = n2 := by have := HNB.out; omega
          have E6 : Hid (Below wc.heap.size wc X6) := hb
          have HX1 : Hid (Sl .u8 X6 (.slice x n c) (sEnc G.sg s)) := ((HX.out.below H34.out).below HT.out.be).below hb
          have HX2 := Lib.hid hx2
          have HNL : Hid (n ≤ 1000) := by
            show n ≤ 1000
            have h := (gEnc_len HGG.out).2
            obtain ⟨a', c', e, -⟩ := HX1.out
            simp only [Value.slice.injEq] at e
            omega
          clear hb hx2 hnb2 k2 g0 HE2
          have qnn : ((n : Int) != (n : Int)) = false := by simp
          go_wp2_with fail
          go_loopw [17] (fun iv wr => ∃ k : Nat, k ≤ n ∧ iv = .int .i64 (k : Int) ∧ Hid (Below X6.heap.size X6 wr)) (fun iv _ => n - (intOf iv).toNat)
          case atStart => exact ⟨0, Nat.zero_le _, rfl, Below.refl _ _⟩
          case round =>
            obtain ⟨k, hk, rfl, HB⟩ := hrel
            by_cases hlt : k < n
            · have q1 : (k : Int) < (n : Int) := Int.ofNat_lt.2 hlt
              have HLT := Lib.hid hlt
              obtain ⟨-, -, h0⟩ := cellU HX1.out
              obtain ⟨xb, xo, rfl, hc1⟩ := h0 (Nat.lt_of_le_of_lt (Nat.zero_le _) hlt)
              clear h0
              obtain ⟨-, -, h0⟩ := cellU HX2.out
              obtain ⟨yb, yo, rfl, hc2⟩ := h0 (Nat.lt_of_le_of_lt (Nat.zero_le _) hlt)
              clear h0
              have c1 := hc1 wr HB.out k hlt
              have c2' := hc2 wr HB.out k hlt
              have BD : Hid (Below X6.heap.size X6 wr.drew) := HB.out.drew
              have HW1 : Hid (wrap64 ((k : Int) + 1) = (k : Int) + 1) := IntWalk.wrap64_in _ (by have := HNL.out; omega)
              have hnb : n ≤ 1000 := HNL.out
              have hoff := HT.out.off.get (i := k)
              clear hc1 hc2
              by_cases hf : k < fr
              · skip
                have q2 : decide ((k : Int) < (fr : Int)) = true := decide_eq_true (Int.ofNat_lt.2 hf)
                have q2' : (k : Int) < (fr : Int) := Int.ofNat_lt.2 hf
                rw [← hoff (.inl hf)] at c2'
                obtain ⟨vv, hvv⟩ : ∃ v, (sEnc G.sg s)[k]?.getD 0 = v := ⟨_, rfl⟩
                rw [hvv] at c1 c2'
                have qv : (vv != vv) = false := by simp
                clear hoff hf hlt hvv
                go_wp2_with fail
                refine region_plan (fun x => x = wr.drew) 18 (.takes [0, 1, 2, 3, 4, 5, 6, 7, 8, 9, 10, 11, 12, 13, 14, 15, 16, 17] .leaf) hmx (by kernel_rfl) (by intro c x v a w h; cases x <;> exact h) rfl ?_
                repeat (rw [wpPlan_takes_cons]; simp only [nth_zero, nth_succ]; go_big_quiet_step (fail); refine wpQuiet_nil ?_)
                rw [wpPlan_takes_nil, wpPlan_leaf]
                simp only [List.drop_succ_cons, List.drop_zero]
                go_wp2_with fail
                exact ⟨⟨k + 1, HLT.out, by simp, BD⟩, by have := HLT.out; simp [intOf]; omega⟩
              · have q2 : decide ((k : Int) < (fr : Int)) = false := decide_eq_false (fun h => hf (Int.ofNat_lt.1 h))
                have q2' : ¬ (k : Int) < (fr : Int) := fun h => hf (Int.ofNat_lt.1 h)
                by_cases ht : to_ ≤ k
                · skip
                  have q3 : decide ((k : Int) ≥ (to_ : Int)) = true := decide_eq_true (Int.ofNat_le.2 ht)
                  have q3' : (k : Int) ≥ (to_ : Int) := Int.ofNat_le.2 ht
                  have q3'' : (to_ : Int) ≤ (k : Int) := Int.ofNat_le.2 ht
                  rw [← hoff (.inr ht)] at c2'
                  obtain ⟨vv, hvv⟩ : ∃ v, (sEnc G.sg s)[k]?.getD 0 = v := ⟨_, rfl⟩
                  rw [hvv] at c1 c2'
                  have qv : (vv != vv) = false := by simp
                  have q4 : decide (to_ ≤ k) = true := decide_eq_true ht
                  clear hoff hlt hvv
                  go_wp2_with fail
                  refine region_plan (fun x => x = wr.drew) 18 (.takes [0, 1, 2, 3, 4, 5, 6, 7, 8, 9, 10, 11, 12, 13, 14, 15, 16, 17] .leaf) hmx (by kernel_rfl) (by intro c x v a w h; cases x <;> exact h) rfl ?_
                  repeat (rw [wpPlan_takes_cons]; simp only [nth_zero, nth_succ]; go_big_quiet_step (fail); refine wpQuiet_nil ?_)
                  rw [wpPlan_takes_nil, wpPlan_leaf]
                  simp only [List.drop_succ_cons, List.drop_zero]
                  go_wp2_with fail
                  exact ⟨⟨k + 1, HLT.out, by simp, BD⟩, by have := HLT.out; simp [intOf]; omega⟩
                · skip
                  have q3 : decide ((k : Int) ≥ (to_ : Int)) = false := decide_eq_false (fun h => ht (Int.ofNat_le.1 h))
                  have q3' : ¬ (k : Int) ≥ (to_ : Int) := fun h => ht (Int.ofNat_le.1 h)
                  have q3'' : ¬ (to_ : Int) ≤ (k : Int) := fun h => ht (Int.ofNat_le.1 h)
                  have q4 : decide (to_ ≤ k) = false := decide_eq_false ht
                  clear hoff hlt c1 c2'
                  go_wp2_with fail
                  refine region_plan (fun x => x = wr.drew) 18 (.takes [0, 1, 2, 3, 4, 5, 6, 7, 8, 9, 10, 11, 12, 13, 14, 15, 16, 17] .leaf) hmx (by kernel_rfl) (by intro c x v a w h; cases x <;> exact h) rfl ?_
                  repeat (rw [wpPlan_takes_cons]; simp only [nth_zero, nth_succ]; go_big_quiet_step (fail); try (with_reducible refine wpQuiet_nil ?_))
                  rw [wpPlan_takes_nil, wpPlan_leaf]
                  simp only [List.drop_succ_cons, List.drop_zero]
                  go_wp2_with fail
                  exact ⟨⟨k + 1, HLT.out, by simp, BD⟩, by have := HLT.out; simp [intOf]; omega⟩
            · skip
              obtain rfl : k = n := by omega
              have HEQ : Hid (Calls Tryz.prog 17 #[.slice x k c, .slice x2 k c2] wr fun e w' => e = .returned (.bool false) ∧ w' = wr) := by
                have h1 := gEnc_byt HGG.out HOK.out
                have h2 := gEnc_byt HT.out.good (by have := HT.out.sta.st.sn.ok; exact this)
                have := eqk_bytes _ _ _ _ wr (HX1.out.below HB.out) (HX2.out.below HB.out) h1 h2
                exact this.mono fun e y hy => ⟨by rw [hy.1, decide_eq_false (fun e => HT.out.ne ((gEnc_inj HGG.out HT.out.good).1 e))], hy.2⟩
              clear hlt hk
              go_wp2_with fail
              refine HEQ.out.mono ?_
              rintro e X7 ⟨rfl, rfl⟩
              go_wp2_with fail
              refine (st_wakes _).mono ?_
              rintro e X8 ⟨rfl, hb⟩
              have E8 := Lib.hid (KB.out _ (EW.out.trans (((E6.out.trans (HB.out.mono E6.out.size)).trans (hb.mono (Nat.le_trans E6.out.size HB.out.size))).mono EW.out.size)))
              clear hb
              go_wp2_with fail
              go_ret
              exact ⟨rfl, by rw [HSZ.out]; exact E8.out⟩

set_option maxRecDepth 100000 in
theorem lifted (os : Os) (started : os.Started) (H : Type) (enc : TypeId × Value → H) :
    ReturnsInHanded {} Tryz.checked os 5 .any (Rows.statePartsSpec.pre6 enc Tryz.prog Tryz.f5 Rows.statePartsRow.domain false) (Rows.statePartsSpec.post enc Tryz.prog Tryz.f5 false true false false) := by
  refine returnsInHanded_of_change (C := Tryz.checked) own started (by kernel_rfl) Tryz.func5
    (ChangeSpec.witness6 (enc := enc) (C := Tryz.checked) false ⟨#[], #[.agg #[.int .i64 0, .int .i64 0, .int .i64 0, .int .i64 0, .int .i64 0], .agg #[.slice none 0 0, .slice none 0 0, .int .i64 0, .int .i64 0, .int .i64 0, .slice none 0 0], .agg #[.int .u8 0, .int .u8 0]], []⟩ 8 (by kernel_rfl) (by kernel_rfl) (by kernel_rfl) (by kernel_rfl)) ?_
  intro W base args ds gs before hval0 hW hcnd _
  have hval : ∀ (j : Nat) t v, Tryz.f5.params[j]? = some t → args[j]? = some v → Value.okWide Tryz.prog W .any base t v := hval0
  have hW' := hW
  obtain ⟨p, q, hA0, hV, rfl, hfz, hnd⟩ := hW
  have hA : DataW.TrodAll enc Tryz.prog W 0 (fun _ => true) true Tryz.f5.params.toList args.toList ds p := hA0
  rw [Tryz.params5] at hA hval
  obtain ⟨v0, vs0, d0, ds0, p0, q0, hargs, rfl, rfl, h0, r0⟩ := trodAll_cons hA
  obtain ⟨v1, vs1, d1, ds1, p1, q1, rfl, rfl, rfl, h1, r1⟩ := trodAll_cons r0
  obtain ⟨v2, vs2, d2, ds2, p2, q2, rfl, rfl, rfl, h2, r2⟩ := trodAll_cons r1
  obtain ⟨rfl, rfl, rfl⟩ := trodAll_nil r2
  obtain rfl : args = #[v0, v1, v2] := by cases args; simp_all
  obtain ⟨rfl, rfl⟩ := trodVars_none hV
  have lt0 : ∀ x ∈ p0, x.block < W.heap.size := by obtain ⟨m, hm⟩ := h0; exact DataW.trod_lt m _ _ _ hm
  have a0 := Arg.mk (hval 0 23 v0 rfl rfl) h0
  have lt1 : ∀ x ∈ p1, x.block < W.heap.size := by obtain ⟨m, hm⟩ := h1; exact DataW.trod_lt m _ _ _ hm
  have a1 := Arg.mk (hval 1 30 v1 rfl rfl) h1
  have lt2 : ∀ x ∈ p2, x.block < W.heap.size := by obtain ⟨m, hm⟩ := h2; exact DataW.trod_lt m _ _ _ hm
  have a2 := Arg.mk (hval 2 53 v2 rfl rfl) h2
  clear hA0 hval0
  refine (walk v0 v1 v2 W a0 a1 a2).mono fun e W' ⟨he, bel⟩ => ?_
  subst he
  exact ⟨_, rfl, _, _, _, [], _, [], hW', trodAll_mk1 (shut_bool Tryz.underlying4 _), (trodAll_cons_mk (Below.trod laidOut (by kernel_rfl) (of_decide_eq_true (by kernel_rfl)) h0 bel lt0) (trodAll_cons_mk (Below.trod laidOut (by kernel_rfl) (of_decide_eq_true (by kernel_rfl)) h1 bel lt1) (trodAll_cons_mk (Below.trod laidOut (by kernel_rfl) (of_decide_eq_true (by kernel_rfl)) h2 bel lt2) trodAll_mk0))), rfl, bel.frame _, fun h => by cases h⟩

set_option maxRecDepth 100000 in
theorem over : Rows.statePartsRow.holds Tryz.pinned (OpenSpec.ofChange Rows.statePartsSpec) :=
  OpenClaim.holds_of_wide 5 Tryz.f5 rfl rfl rfl rfl rfl rfl rfl ⟨rfl, rfl, rfl, rfl, rfl⟩ rfl rfl rfl rfl rfl (by kernel_rfl) Tryz.func5 (by kernel_rfl)
    (of_decide_eq_true (by kernel_rfl)) (by unfold Func.isWrapper; first | (rw [if_pos (by decide +kernel)]; kernel_rfl) | (rw [if_neg (by decide +kernel)]; exact ⟨rfl, rfl⟩))
    (fun os started H enc _ => lifted os started H enc)

theorem proved : Rows.StatePartsSaid := over
#print axioms proved
end Go.Proofs.YtajamblkjmafmaaGreat.stateParts
