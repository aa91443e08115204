/- The stream of a stream's bytes is it; bytes that are read are just what it is written as (P17.2). -/
import Derived.Test.YtfihpljgbghogaaPB4
namespace Go.Proofs.Ytfihpljgbghogaa.parseBack
open Go.ChangeShapes Go.WideShapes Go.ChangeAt Go.RowKit
set_option linter.unusedVariables false
set_option linter.unusedSimpArgs false
attribute [-simp] Try.isAgg49 Try.zeroValue49 Try.isAgg26 Try.zeroValue26 Try.isAgg31 Try.zeroValue31
attribute [-go_sem] loadVar storeVar
attribute [local go_sem] loadVar_openRG storeVar_openRG zero_rcP build_rcP zero_smP build_sm3P zero_gt build_gtE build_gtS

set_option maxRecDepth 100000 in
set_option maxHeartbeats 8000000 in
theorem walk (v0 v1 : Value) (w : World) (w0 : Arg w 26 v0) (w1 : Arg w 22 v1) :
    Calls Try.prog 4 #[v0, v1] w fun e w' => e = .returned (.bool true) ∧ Below w.heap.size w w' := by
  have hmx : Try.prog.follows .mixedOrders = true := by kernel_rfl
  obtain ⟨s, hs0⟩ := w0.stream
  obtain ⟨ba, bn, bc, bs, rfl, hbl, -, hbS, hbB⟩ := w1.bytes Try.underlying22 Try.underlying5 (by kernel_rfl)
  have HWK := Lib.hid pa_wakes
  have HS0 := Lib.hid hs0
  have HBB := Lib.hid hbB
  have HBX : Hid (∀ x : World, Below w.heap.size w x → Sl .u8 x (.slice ba bn bc) bs) := fun x hx => hbS.below hx
  have HPR : Hid (∀ x : World, Below w.heap.size w x → _) := fun x hx => pa_smi (hbS.below hx) hbB
  obtain ⟨r, ⟨⟨⟨xa, xn, xc⟩, rfl, -⟩, -, -, -⟩⟩ := hs0
  have HSO := Lib.hid HS0.out.ok
  obtain ⟨sl, hsl⟩ : ∃ b, s.bl = b := ⟨_, rfl⟩
  obtain ⟨sb, hsb⟩ : ∃ b, s.ba = b := ⟨_, rfl⟩
  obtain ⟨si, hsi⟩ : ∃ b, s.id = b := ⟨_, rfl⟩
  have HFS : Hid (∀ x : World, Below w.heap.size w x → _) := fun x hx => sm_fair (HS0.out.below hx)
  have HES : Hid (∀ x : World, sGood s → Below w.heap.size w x → _) := fun x hg hx => sm_encode (HS0.out.below hx) hg
  have HEN0 : Hid (∀ x : World, ¬ sGood s → Below w.heap.size w x → _) := fun x hg hx => sm_encodeN (HS0.out.below hx) hg
  have HSX : Hid (∀ x : World, Below w.heap.size w x → Smi x (smV s.bl s.ba s.id (xa, xn, xc)) s) := fun x hx => HS0.out.below hx
  have HSL := Lib.hid hsl
  have HSB := Lib.hid hsb
  have HSI := Lib.hid hsi
  rw [hsl, hsb, hsi] at HFS HES HEN0 HSX ⊢
  obtain ⟨B, hB⟩ : ∃ B, w.heap.size = B := ⟨_, rfl⟩
  obtain ⟨X, hX⟩ : ∃ X, w.alloc (.cells #[.int .i64 sl, .int .i64 sb, .int .i64 si, .slice xa xn xc] 26) = X := ⟨_, rfl⟩
  have k1 : RowC X B 26 (smL sl sb si (xa, xn, xc)) := by rw [← hX, ← hB]; exact RowC.new w _ _
  have hXb : Below w.heap.size w X := by rw [← hX]; exact below_new w _
  have HXB := Lib.hid hXb
  have HLD : Hid (∀ x : World, Below X.heap.size X x → (loadVar 26 ⟨B, 0, none⟩).run Try.prog x = .ok (smV sl sb si (xa, xn, xc)) x) := fun x hx => load_smC (k1.below hx)
  have l1 := HLD.out X (Below.refl _ _)
  have C1 := Lib.hid (HFS.out X hXb)
  simp only [smV, slV] at l1 C1 HFS HES HEN0 HLD HSX ⊢
  clear k1 hXb hsl hsb hsi hbS hbB w0 w1 HFS
  go_enter Try.func4, Try.ntmps4
  go_wp2_with fail
  refine C1.out.mono ?_
  rintro e y1 ⟨t1, rfl, -, hy⟩
  have KY1 := Lib.hid hy
  have HY1 : Hid (Below w.heap.size w y1) := HXB.out.trans (hy.mono HXB.out.size)
  clear C1 hy l1
  cases t1 with
  | false =>
    go_wp2_with fail
    refine (HWK.out _).mono ?_
    rintro e zz ⟨rfl, hzz⟩
    have HFIN : Hid (Below w.heap.size w zz) := HY1.out.trans (hzz.mono HY1.out.size)
    clear hzz
    go_wp2_with fail
    go_ret
    exact ⟨rfl, HFIN.out⟩
  | true =>
    by_cases hlen : 8000 < bn
    · have g1 : (8000 : Int) < (bn : Int) := by omega
      have g2 : decide ((8000 : Int) < (bn : Int)) = true := by simpa using g1
      clear hlen
      go_wp2_with fail
      refine (HWK.out _).mono ?_
      rintro e zz ⟨rfl, hzz⟩
      have HFIN : Hid (Below w.heap.size w zz) := HY1.out.trans (hzz.mono HY1.out.size)
      clear hzz
      go_wp2_with fail
      go_ret
      exact ⟨rfl, HFIN.out⟩
    have g1 : ¬ (8000 : Int) < (bn : Int) := by omega
    have g2 : decide ((8000 : Int) < (bn : Int)) = false := by simpa using g1
    have l1 := HLD.out y1 KY1.out
    clear hlen hbl
    by_cases hg : sGood s
    · have HE1 := Lib.hid (HES.out y1 hg HY1.out)
      have hbe := isBytes_encB HSO.out
      obtain ⟨pf1, pf2⟩ := pa_full hg
      have HBE := Lib.hid hbe
      have HF1 := Lib.hid pf1
      have HF2 := Lib.hid pf2
      clear hbe pf1 pf2 hg HES HEN0
      go_wp2_with fail
      refine HE1.out.mono ?_
      rintro e y2 ⟨u, rfl, ho, hb⟩
      obtain ⟨⟨u1, u2, u3⟩, rfl, -⟩ := own_slV ho
      have KY2 : Hid (Below X.heap.size X y2) := KY1.out.trans (hb.mono KY1.out.size)
      have HP2 := Lib.hid (pa_smi (OwnB.sl ho) HBE.out)
      rw [HF1.out, HF2.out] at HP2
      simp only [slV] at HP2 ⊢
      clear ho hb HE1 l1
      go_wp2_with fail
      refine HP2.out.mono ?_
      rintro e y3 ⟨⟨d1, d2, d3⟩, rfl, hs, hb⟩
      obtain ⟨Y3, T3, rY3, bY3⟩ := new_smx y3 s.bl s.ba s.id (d1, d2, d3)
      obtain ⟨D3, hD3⟩ : ∃ D, y3.heap.size = D := ⟨_, rfl⟩
      rw [hD3] at T3 rY3
      have KY3 : Hid (Below X.heap.size X Y3) := KY2.out.trans ((hb.trans (bY3.mono hb.size)).mono KY2.out.size)
      have HY3 : Hid (Below w.heap.size w Y3) := HXB.out.trans (KY3.out.mono HXB.out.size)
      have hs3 := hs.below bY3
      have hs4 : Smi Y3 (.agg #[.int .i64 sl, .int .i64 sb, .int .i64 si, .slice xa xn xc]) s := HSX.out Y3 HY3.out
      have HSM := Lib.hid (sm_same hs3 hs4)
      rw [show decide (s = s) = true from decide_eq_true rfl] at HSM
      have L3 := load_smC rY3
      have L4 := HLD.out Y3 KY3.out
      rw [HSL.out, HSB.out, HSI.out] at T3 L3 HSM ⊢
      simp only [smV, slV] at T3 L3 L4 HSM ⊢
      clear hs hb bY3 rY3 hs3 hs4 HP2
      go_wp2_with fail
      refine HSM.out.mono ?_
      rintro e y4 ⟨rfl, hb⟩
      have K4 : Hid (Below w.heap.size w y4) := HY3.out.trans (hb.mono HY3.out.size)
      clear hb HSM T3 L3 L4 hD3 HLD
      have HPB := Lib.hid (HPR.out y4 K4.out)
      go_wp2_with fail
      refine HPB.out.mono ?_
      rintro e x5 ⟨⟨q1, q2, q3⟩, rfl, hs, hb⟩
      obtain ⟨Y5, T5, rY5, bY5⟩ := new_smx x5 (paS bs).bl (paS bs).ba (paS bs).id (q1, q2, q3)
      obtain ⟨D5, hD5⟩ : ∃ D, x5.heap.size = D := ⟨_, rfl⟩
      rw [hD5] at T5 rY5
      have K5 : Hid (Below w.heap.size w Y5) := K4.out.trans ((hb.trans (bY5.mono hb.size)).mono K4.out.size)
      have HS5 := Lib.hid (hs.below bY5)
      have HR5 := Lib.hid rY5
      obtain ⟨rr, ⟨⟨⟨ea, en, ec⟩, ev, hR5⟩, -, -, -⟩⟩ := hs
      have eD : q1 = ea ∧ q2 = en ∧ q3 = ec := by
        simp only [smV, slV, Value.agg.injEq, Array.mk.injEq, List.cons.injEq, Value.slice.injEq] at ev
        exact ⟨ev.2.2.2.1.1, ev.2.2.2.1.2.1, ev.2.2.2.1.2.2⟩
      obtain ⟨rfl, rfl, rfl⟩ := eD
      have hl5 : q2 = (paS bs).re.length := by obtain ⟨a', c', e', -, -⟩ := hR5.len; cases e'; rfl
      have HL5 := Lib.hid hl5
      clear hb bY5 ev hR5 rY5 HPB hl5
      by_cases hpe : paE bs = 0
      · have hg := (pa_back HBB.out hpe).1
        have he := (pa_back HBB.out hpe).2
        have L5 := load_smC HR5.out
        have HEN := Lib.hid (sm_encode HS5.out hg)
        obtain ⟨bl, hbl⟩ : ∃ q, (paS bs).bl = q := ⟨_, rfl⟩
        obtain ⟨bb, hba⟩ : ∃ q, (paS bs).ba = q := ⟨_, rfl⟩
        obtain ⟨id, hid⟩ : ∃ q, (paS bs).id = q := ⟨_, rfl⟩
        have HGD : Hid (∀ z : World, Below Y5.heap.size Y5 z → _) := fun z hz => calls_yes (sm_good (HS5.out.below hz)) hg
        rw [hbl, hba, hid] at T5 L5 HEN HR5 HGD ⊢
        rw [he] at HEN
        have HLD : Hid (∀ z : World, Below Y5.heap.size Y5 z → (loadVar 26 ⟨D5, 0, none⟩).run Try.prog z = .ok (smV bl bb id (q1, q2, q3)) z) := fun z hz => load_smC (HR5.out.below hz)
        simp only [smV, slV] at T5 L5 HEN HGD HLD ⊢
        rw [hpe]
        clear hg he hbl hba hid
        go_wp2_with fail
        refine HEN.out.mono ?_
        rintro e x6 ⟨u, rfl, ho, hb⟩
        obtain ⟨⟨u1, u2, u3⟩, rfl, -⟩ := own_slV ho
        have K6 : Hid (Below w.heap.size w x6) := K5.out.trans (hb.mono K5.out.size)
        have HB6 := Lib.hid hb
        have HEB := Lib.hid (eqk_bytes _ _ bs bs x6 (OwnB.sl ho) (HBX.out x6 K6.out) HBB.out HBB.out)
        rw [show decide (bs = bs) = true from decide_eq_true rfl] at HEB
        simp only [slV] at HEB ⊢
        clear ho hb HEN T5 L5 hD5
        go_wp2_with fail
        refine HEB.out.mono ?_
        rintro e x7 ⟨rfl, hz⟩
        subst hz
        have L7 := HLD.out _ HB6.out
        have HG7 := Lib.hid (HGD.out _ HB6.out)
        clear HEB HGD HLD
        go_wp2_with fail
        refine HG7.out.mono ?_
        rintro e x8 ⟨rfl, hb⟩
        have K8 : Hid (Below w.heap.size w x8) := K6.out.trans (hb.mono K6.out.size)
        clear hb L7 HG7
        go_wp2_with fail
        refine (HWK.out _).mono ?_
        rintro e zz ⟨rfl, hzz⟩
        have HFIN : Hid (Below w.heap.size w zz) := K8.out.trans (hzz.mono K8.out.size)
        clear hzz
        go_wp2_with fail
        go_ret
        exact ⟨rfl, HFIN.out⟩
      · have hps : paS bs = smz := by unfold paS; rw [if_neg hpe]
        have c0 := HR5.out.cell 0 _ rfl
        have c3 := HR5.out.cell 3 _ rfl
        have hq := HL5.out
        rw [hps] at c0 hq T5 ⊢
        have hq0 : q2 = 0 := hq
        subst hq0
        have e0 : smz.bl = 0 := rfl
        rw [e0] at c0
        obtain ⟨E, hE⟩ : ∃ E, paE bs = E := ⟨_, rfl⟩
        rw [hE] at hpe ⊢
        have g7 : (E != 0) = true := by simpa using hpe
        simp only [smV, slV] at T5 c3 ⊢
        clear hps hpe hE hq e0 HL5
        go_wp2_with fail
        refine (HWK.out _).mono ?_
        rintro e zz ⟨rfl, hzz⟩
        have HFIN : Hid (Below w.heap.size w zz) := K5.out.trans (hzz.mono K5.out.size)
        clear hzz
        go_wp2_with fail
        go_ret
        exact ⟨rfl, HFIN.out⟩
    · have HE1 := Lib.hid (HEN0.out y1 hg HY1.out)
      clear hg HES HEN0
      go_wp2_with fail
      refine HE1.out.mono ?_
      rintro e y2 ⟨rfl, hb⟩
      have K2 : Hid (Below w.heap.size w y2) := HY1.out.trans (hb.mono HY1.out.size)
      clear hb HE1 l1 HLD
      have HPB := Lib.hid (HPR.out y2 K2.out)
      go_wp2_with fail
      refine HPB.out.mono ?_
      rintro e x5 ⟨⟨q1, q2, q3⟩, rfl, hs, hb⟩
      obtain ⟨Y5, T5, rY5, bY5⟩ := new_smx x5 (paS bs).bl (paS bs).ba (paS bs).id (q1, q2, q3)
      obtain ⟨D5, hD5⟩ : ∃ D, x5.heap.size = D := ⟨_, rfl⟩
      rw [hD5] at T5 rY5
      have K5 : Hid (Below w.heap.size w Y5) := K2.out.trans ((hb.trans (bY5.mono hb.size)).mono K2.out.size)
      have HS5 := Lib.hid (hs.below bY5)
      have HR5 := Lib.hid rY5
      obtain ⟨rr, ⟨⟨⟨ea, en, ec⟩, ev, hR5⟩, -, -, -⟩⟩ := hs
      have eD : q1 = ea ∧ q2 = en ∧ q3 = ec := by
        simp only [smV, slV, Value.agg.injEq, Array.mk.injEq, List.cons.injEq, Value.slice.injEq] at ev
        exact ⟨ev.2.2.2.1.1, ev.2.2.2.1.2.1, ev.2.2.2.1.2.2⟩
      obtain ⟨rfl, rfl, rfl⟩ := eD
      have hl5 : q2 = (paS bs).re.length := by obtain ⟨a', c', e', -, -⟩ := hR5.len; cases e'; rfl
      have HL5 := Lib.hid hl5
      clear hb bY5 ev hR5 rY5 HPB hl5
      by_cases hpe : paE bs = 0
      · have hg := (pa_back HBB.out hpe).1
        have he := (pa_back HBB.out hpe).2
        have L5 := load_smC HR5.out
        have HEN := Lib.hid (sm_encode HS5.out hg)
        obtain ⟨bl, hbl⟩ : ∃ q, (paS bs).bl = q := ⟨_, rfl⟩
        obtain ⟨bb, hba⟩ : ∃ q, (paS bs).ba = q := ⟨_, rfl⟩
        obtain ⟨id, hid⟩ : ∃ q, (paS bs).id = q := ⟨_, rfl⟩
        have HGD : Hid (∀ z : World, Below Y5.heap.size Y5 z → _) := fun z hz => calls_yes (sm_good (HS5.out.below hz)) hg
        rw [hbl, hba, hid] at T5 L5 HEN HR5 HGD ⊢
        rw [he] at HEN
        have HLD : Hid (∀ z : World, Below Y5.heap.size Y5 z → (loadVar 26 ⟨D5, 0, none⟩).run Try.prog z = .ok (smV bl bb id (q1, q2, q3)) z) := fun z hz => load_smC (HR5.out.below hz)
        simp only [smV, slV] at T5 L5 HEN HGD HLD ⊢
        rw [hpe]
        clear hg he hbl hba hid
        go_wp2_with fail
        refine HEN.out.mono ?_
        rintro e x6 ⟨u, rfl, ho, hb⟩
        obtain ⟨⟨u1, u2, u3⟩, rfl, -⟩ := own_slV ho
        have K6 : Hid (Below w.heap.size w x6) := K5.out.trans (hb.mono K5.out.size)
        have HB6 := Lib.hid hb
        have HEB := Lib.hid (eqk_bytes _ _ bs bs x6 (OwnB.sl ho) (HBX.out x6 K6.out) HBB.out HBB.out)
        rw [show decide (bs = bs) = true from decide_eq_true rfl] at HEB
        simp only [slV] at HEB ⊢
        clear ho hb HEN T5 L5 hD5
        go_wp2_with fail
        refine HEB.out.mono ?_
        rintro e x7 ⟨rfl, hz⟩
        subst hz
        have L7 := HLD.out _ HB6.out
        have HG7 := Lib.hid (HGD.out _ HB6.out)
        clear HEB HGD HLD
        go_wp2_with fail
        refine HG7.out.mono ?_
        rintro e x8 ⟨rfl, hb⟩
        have K8 : Hid (Below w.heap.size w x8) := K6.out.trans (hb.mono K6.out.size)
        clear hb L7 HG7
        go_wp2_with fail
        refine (HWK.out _).mono ?_
        rintro e zz ⟨rfl, hzz⟩
        have HFIN : Hid (Below w.heap.size w zz) := K8.out.trans (hzz.mono K8.out.size)
        clear hzz
        go_wp2_with fail
        go_ret
        exact ⟨rfl, HFIN.out⟩
      · have hps : paS bs = smz := by unfold paS; rw [if_neg hpe]
        have c0 := HR5.out.cell 0 _ rfl
        have c3 := HR5.out.cell 3 _ rfl
        have hq := HL5.out
        rw [hps] at c0 hq T5 ⊢
        have hq0 : q2 = 0 := hq
        subst hq0
        have e0 : smz.bl = 0 := rfl
        rw [e0] at c0
        obtain ⟨E, hE⟩ : ∃ E, paE bs = E := ⟨_, rfl⟩
        rw [hE] at hpe ⊢
        have g7 : (E != 0) = true := by simpa using hpe
        simp only [smV, slV] at T5 c3 ⊢
        clear hps hpe hE hq e0 HL5
        go_wp2_with fail
        refine (HWK.out _).mono ?_
        rintro e zz ⟨rfl, hzz⟩
        have HFIN : Hid (Below w.heap.size w zz) := K5.out.trans (hzz.mono K5.out.size)
        clear hzz
        go_wp2_with fail
        go_ret
        exact ⟨rfl, HFIN.out⟩

set_option maxRecDepth 100000 in
theorem lifted (os : Os) (started : os.Started) (H : Type) (enc : TypeId × Value → H) :
    ReturnsInHanded {} Try.checked os 4 .any (Rows.parseBackSpec.pre6 enc Try.prog Try.f4 Rows.parseBackRow.domain false) (Rows.parseBackSpec.post enc Try.prog Try.f4 false true false false) := by
  refine returnsInHanded_of_change (C := Try.checked) own started (by kernel_rfl) Try.func4
    (ChangeSpec.witness6 (enc := enc) (C := Try.checked) false ⟨#[], #[.agg #[.int .i64 0, .int .i64 0, .int .i64 0, .slice none 0 0], .slice none 0 0], []⟩ 8 (by kernel_rfl) (by kernel_rfl) (by kernel_rfl) (by kernel_rfl)) ?_
  intro W base args ds gs before hval0 hW hcnd _
  have hval : ∀ (j : Nat) t v, Try.f4.params[j]? = some t → args[j]? = some v → Value.okWide Try.prog W .any base t v := hval0
  have hW' := hW
  obtain ⟨p, q, hA0, hV, rfl, hfz, hnd⟩ := hW
  have hA : DataW.TrodAll enc Try.prog W 0 (fun _ => true) true Try.f4.params.toList args.toList ds p := hA0
  rw [Try.params4] at hA hval
  obtain ⟨v0, vs0, d0, ds0, p0, q0, hargs, rfl, rfl, h0, r0⟩ := trodAll_cons hA
  obtain ⟨v1, vs1, d1, ds1, p1, q1, rfl, rfl, rfl, h1, r1⟩ := trodAll_cons r0
  obtain ⟨rfl, rfl, rfl⟩ := trodAll_nil r1
  obtain rfl : args = #[v0, v1] := by cases args; simp_all
  obtain ⟨rfl, rfl⟩ := trodVars_none hV
  have lt0 : ∀ x ∈ p0, x.block < W.heap.size := by obtain ⟨m, hm⟩ := h0; exact DataW.trod_lt m _ _ _ hm
  have a0 := Arg.mk (hval 0 26 v0 rfl rfl) h0
  have lt1 : ∀ x ∈ p1, x.block < W.heap.size := by obtain ⟨m, hm⟩ := h1; exact DataW.trod_lt m _ _ _ hm
  have a1 := Arg.mk (hval 1 22 v1 rfl rfl) h1
  clear hA0 hval0
  refine (walk v0 v1 W a0 a1).mono fun e W' ⟨he, bel⟩ => ?_
  subst he
  exact ⟨_, rfl, _, _, _, [], _, [], hW', trodAll_mk1 (shut_bool Try.underlying4 _), (trodAll_cons_mk (Below.trod laidOut (by kernel_rfl) (of_decide_eq_true (by kernel_rfl)) h0 bel lt0) (trodAll_cons_mk (Below.trod laidOut (by kernel_rfl) (of_decide_eq_true (by kernel_rfl)) h1 bel lt1) trodAll_mk0)), rfl, bel.frame _, fun h => by cases h⟩

set_option maxRecDepth 100000 in
theorem over : Rows.parseBackRow.holds Try.pinned (OpenSpec.ofChange Rows.parseBackSpec) :=
  OpenClaim.holds_of_wide 4 Try.f4 rfl rfl rfl rfl rfl rfl rfl ⟨rfl, rfl, rfl, rfl, rfl⟩ rfl rfl rfl rfl rfl (by kernel_rfl) Try.func4 (by kernel_rfl)
    (of_decide_eq_true (by kernel_rfl)) (by unfold Func.isWrapper; first | (rw [if_pos (by decide +kernel)]; kernel_rfl) | (rw [if_neg (by decide +kernel)]; exact ⟨rfl, rfl⟩))
    (fun os started H enc _ => lifted os started H enc)

theorem proved : Rows.ParseBackSaid := over
#print axioms proved
end Go.Proofs.Ytfihpljgbghogaa.parseBack
