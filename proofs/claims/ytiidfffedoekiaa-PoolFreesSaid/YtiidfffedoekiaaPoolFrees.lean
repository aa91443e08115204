/- Behind a drop of a snapshot just those places are free that only it held, and that nobody took over. -/
import Derived.Test.YtiidfffedoekiaaPoM2
import Derived.Test.YtiidfffedoekiaaChDr
import Derived.Test.YtiidfffedoekiaaChHo
import Derived.Test.YtiidfffedoekiaaArgSl
namespace Go.Proofs.Ytiidfffedoekiaa.poolFrees
open Go.ChangeShapes Go.WideShapes Go.ChangeAt Go.RowKit
set_option linter.unusedVariables false
open Go.Shelf Go.Lib Go.Sort
set_option linter.unusedSimpArgs false
attribute [-simp] Try.isAgg39 Try.zeroValue39 Try.isAgg42 Try.zeroValue42 Try.isAgg48 Try.zeroValue48
attribute [-go_sem] loadVar storeVar
attribute [local go_sem] loadVar_openQ storeVar_openQ zero_sn zero_prs zero_st po_build_pair po_build_sn po_build_pl po_build_st po_build_st0 po_build_st1

set_option maxRecDepth 100000 in
set_option maxHeartbeats 1000000 in
theorem walk (v0 v1 : Value) (w : World) (w0 : Arg w 22 v0) (w1 : Arg w 5 v1) :
    Calls Try.prog 7 #[v0, v1] w fun e w' => e = .returned (.bool true) ∧ Below w.heap.size w w' := by
  have hmx : Try.prog.follows .mixedOrders = true := by kernel_rfl
  obtain ⟨l, hl⟩ := w0.snp
  obtain ⟨x, rfl, wx⟩ := w1.int Try.underlying5
  obtain ⟨hx0, hx1⟩ := bounds_u8 wx
  have HL := Lib.hid hl
  have HGD := Lib.hid (rf11_goodL HL.out 10 200 (by decide) (wf_i64 (by omega) (by omega)))
  obtain ⟨r, la, lc, rfl, h1, h2, -⟩ := hl
  obtain ⟨len, hle⟩ : ∃ len, l.length = len := ⟨_, rfl⟩
  have HLE := Lib.hid hle
  rw [hle] at HL HGD h1 ⊢
  have hlm : len ≤ 9223372036854775807 := by unfold maxLen at h2; omega
  clear w0 w1 wx hle h1 h2
  by_cases h0 : len = 0
  · subst h0
    go_enter Try.func7, Try.ntmps7
    go_wp2_with fail
    refine (po_wakes _).mono ?_
    rintro e Ww ⟨rfl, hbw⟩
    have HBE : Hid (Below w.heap.size w Ww) := hbw
    clear hbw
    go_wp2_with fail
    go_ret
    exact ⟨by first | rfl | simp, HBE.out⟩
  · have g0 : ¬ ((len : Int) = 0) := by omega
    have g0b : ((len : Int) == 0) = false := by simp; omega
    by_cases h8 : 8 < len
    · have g8 : (len : Int) > 8 := by omega
      have g8d : decide ((len : Int) > 8) = true := by simp; omega
      go_enter Try.func7, Try.ntmps7
      go_wp2_with fail
      refine (po_wakes _).mono ?_
      rintro e Ww ⟨rfl, hbw⟩
      have HBE : Hid (Below w.heap.size w Ww) := hbw
      clear hbw
      go_wp2_with fail
      go_ret
      exact ⟨by first | rfl | simp, HBE.out⟩
    · have g8 : ¬ (len : Int) > 8 := by omega
      have g8d : decide ((len : Int) > 8) = false := by simp; omega
      cases hg : cGood l 10 200 with
      | false =>
        rw [hg] at HGD
        clear hg
        go_enter Try.func7, Try.ntmps7
        go_wp2_with fail
        go_at_call 10
        refine HGD.out.mono ?_
        rintro e W1 ⟨rfl, hb1⟩
        have E1 := Lib.hid hb1
        clear hb1 HGD
        go_wp2_with fail
        refine (po_wakes _).mono ?_
        rintro e Ww ⟨rfl, hbw⟩
        have HBE : Hid (Below w.heap.size w Ww) := E1.out.trans (hbw.mono E1.out.size)
        clear hbw
        go_wp2_with fail
        go_ret
        exact ⟨by first | rfl | simp, HBE.out⟩
      | true =>
        rw [hg] at HGD
        have HGG := Lib.hid hg
        clear hg
        obtain ⟨k, hk, HT, hkl, g1, gn, gb⟩ := idx_first hx0 h0
        have hkL : k < l.length := by rw [HLE.out]; exact hkl
        have hdi := drop_is hkL
        have HKL := Lib.hid hkL
        have HDG := Lib.hid (drop_good HGG.out hkL)
        have HLN := Lib.hid (good_lens1 HGG.out)
        have HSM : Hid (len ≤ 8) := by show _ ≤ _; omega
        obtain ⟨u, hu⟩ : ∃ u, l[k]? = some u := ⟨_, List.getElem?_eq_getElem hkL⟩
        have HUK := Lib.hid hu
        have hfr : ∃ fr : Nat, (cAts (dropAt l k)).length + fr = (cAts l).length ∧ (∀ x ∈ cAts (dropAt l k), x ∈ cAts l) ∧ (k = 0 → fr = u.tb.length) ∧ (∀ m s, k = m + 1 → l[m]? = some s → fr = (tFree s.tb u.tb).length) := by
          cases hk0 : k with
          | zero =>
            subst hk0
            obtain ⟨f1, f2⟩ := drop_ats_zero (by omega) hu
            exact ⟨_, f1, f2, fun _ => rfl, fun m s e => by omega⟩
          | succ m =>
            subst hk0
            obtain ⟨s, hs⟩ : ∃ s, l[m]? = some s := ⟨_, List.getElem?_eq_getElem (by omega)⟩
            obtain ⟨f1, f2⟩ := drop_ats_succ HGG.out hkL hs hu
            refine ⟨_, f1, f2, fun e => by omega, fun m' s' e hs' => ?_⟩
            obtain rfl : m' = m := by omega
            rw [hs] at hs'
            cases hs'
            rfl
        obtain ⟨fr, fr1, fr2, fr3, fr4⟩ := hfr
        have HFR0 : Hid (k = 0 → fr = u.tb.length) := fr3
        have HFRS : Hid (∀ m s, k = m + 1 → l[m]? = some s → fr = (tFree s.tb u.tb).length) := fr4
        have hwl := fq_len HGG.out
        have hnl := fq_len HDG.out
        have HSUB : Hid (∀ x, x ∈ pUsed (dropAt l k) [] → x ∈ pUsed l []) := fun x hx => fq_sub fr2 hx
        have HWR : Hid ((pUsed l []).Pairwise (· < ·)) := used_rise l []
        have HNR : Hid ((pUsed (dropAt l k) []).Pairwise (· < ·)) := used_rise _ []
        have HFR : Hid ((pFree (pUsed (dropAt l k) []) 200).length + (pUsed (dropAt l k) []).length = 200) := fq_free HDG.out
        obtain ⟨was, hwas⟩ : ∃ was, pUsed l [] = was := ⟨_, rfl⟩
        obtain ⟨now, hnow⟩ : ∃ now, pUsed (dropAt l k) [] = now := ⟨_, rfl⟩
        have HCN : Hid (now.length + fr = was.length) := by show _ = _; rw [← hwas, ← hnow, hwl, hnl]; exact fr1
        rw [hwas] at HSUB HWR
        rw [hnow] at HSUB HNR HFR
        have HWAS := Lib.hid hwas
        have HNOW := Lib.hid hnow
        have HDI := Lib.hid hdi
        have HDN := Lib.hid (st_lens HDG.out)
        have HL2 := Lib.hid (st_lens HGG.out)
        clear hkL hdi hu fr1 fr2 fr3 fr4 hwl hnl hwas hnow
        go_enter Try.func7, Try.ntmps7
        go_wp2_with fail
        go_at_call 10
        refine HGD.out.mono ?_
        rintro e W1 ⟨rfl, hb1⟩
        have E1 := Lib.hid hb1
        clear hb1 HGD
        have HD1 := Lib.hid (ch_drop (HL.out.below E1.out) HLN.out (k : Int))
        go_wp2_with fail
        go_at_call 12
        refine HD1.out.mono ?_
        rintro e W2 ⟨vd, rfl, ho, hb⟩
        rw [HDI.out] at ho
        have E2 := Lib.hid (E1.out.trans (hb.mono E1.out.size))
        have D2 := Lib.hid ho.snp
        obtain ⟨⟨da, dn, dc⟩, rfl, -⟩ := ho.isSl
        have hus := po_used (q := ⟨(none, 0, 0), (la, len, lc), 0, 0, 0, (none, 0, 0)⟩) ⟨HL.out.below E2.out, Prt.nil _⟩ HL2.out (by decide)
        rw [HWAS.out] at hus
        have HU2 : Hid (Calls Try.prog 26 #[.agg #[.slice none 0 0, .slice la len lc, .int .i64 0, .int .i64 0, .int .i64 0, .slice none 0 0]] W2 fun e w' => ∃ u : SlV, e = .returned (slV u) ∧ InO W2.heap.size w' (slV u) was ∧ Below W2.heap.size W2 w') := hus
        simp only [slV] at D2 ⊢
        clear ho hb HD1 E1 hus
        go_wp2_with fail
        go_at_call 26
        refine HU2.out.mono ?_
        rintro e W3 ⟨⟨a0, a1, a2⟩, rfl, hi, hb⟩
        have E3 := Lib.hid (E2.out.trans (hb.mono E2.out.size))
        have D3 := Lib.hid (D2.out.below hb)
        have A3 := Lib.hid hi
        have ha1 : a1 = was.length := po_len hi
        have HA1 := Lib.hid ha1
        have hus := po_used (q := ⟨(none, 0, 0), (da, dn, dc), 0, 0, 0, (none, 0, 0)⟩) ⟨D3.out, Prt.nil _⟩ HDN.out (by decide)
        rw [HNOW.out] at hus
        have HU3 : Hid (Calls Try.prog 26 #[.agg #[.slice none 0 0, .slice da dn dc, .int .i64 0, .int .i64 0, .int .i64 0, .slice none 0 0]] W3 fun e w' => ∃ u : SlV, e = .returned (slV u) ∧ InO W3.heap.size w' (slV u) now ∧ Below W3.heap.size W3 w') := hus
        simp only [slV] at A3 ⊢
        clear hi hb HU2 E2 D2 hus ha1
        go_wp2_with fail
        go_at_call 26
        refine HU3.out.mono ?_
        rintro e W4 ⟨⟨b0, b1, b2⟩, rfl, hi, hb⟩
        have E4 := Lib.hid (E3.out.trans (hb.mono E3.out.size))
        have D4 := Lib.hid (D3.out.below hb)
        have A4 := Lib.hid (A3.out.below hb)
        have B4 := Lib.hid hi
        have hb1 : b1 = now.length := po_len hi
        have HB1 := Lib.hid hb1
        have hnl2 : b1 ≤ 200 := by have := HFR.out; omega
        simp only [slV] at B4 ⊢
        have L4 := HL.out.below E4.out
        obtain ⟨rr, hrr⟩ := L4
        obtain ⟨b, off, q, rfl, hbb, -, hq, e0, e1, e2⟩ := hrr.at HUK.out
        obtain ⟨qi, ⟨qx, qn, qc⟩, ⟨y, tl, tc'⟩⟩ := q
        have HQT : Hid (∀ z : World, Below W4.heap.size W4 z → Prt z (.slice y tl tc') u.tb) := fun z hz => hq.tb.below hz
        have HQC : Hid (∀ z : World, Below W4.heap.size W4 z → z.cell? ⟨b, off + k * 3 + 2, none⟩ = some (.slice y tl tc')) := fun z hz => (hz.cell (p := ⟨b, off + k * 3 + 2, none⟩) hbb).trans e2
        have HTL : Hid (tl = u.tb.length) := by obtain ⟨a', ca', e, -⟩ := hq.tb; simp only [slV, Value.slice.injEq] at e; show _ = _; omega
        have htl : tl ≤ 10 := by rw [HTL.out]; exact ((good_lens HGG.out).2 u (List.mem_of_getElem? HUK.out)).2
        have c4 := HQC.out W4 (Below.refl _ _)
        have gkl : (k : Int) < (len : Int) := by omega
        clear hi hb HU3 E3 D3 A3 hb1 hrr hbb hq e0 e1 e2 h0 hx0 hx1
        go_wp2_with fail
        clear c4
        have HFR9 : Hid (fr ≤ 1000) := by
          show _ ≤ _
          rcases Nat.eq_zero_or_pos k with hk0 | hk0
          · have h2 := HFR0.out hk0
            have h3 := HTL.out
            omega
          · obtain ⟨m, hm⟩ : ∃ m, k = m + 1 := ⟨k - 1, by omega⟩
            obtain ⟨s, hs⟩ : ∃ s, l[m]? = some s := ⟨_, List.getElem?_eq_getElem (by have := HKL.out; omega)⟩
            have h2 := HFRS.out m s hm hs
            have h3 := fqN_all s.tb u.tb
            have h4 := HTL.out
            omega
        go_loopw [9, 10] (fun fv jv V => ∃ (j f : Nat), j ≤ tl ∧ jv = .int .i64 (j : Int) ∧ fv = .int .i64 (f : Int) ∧ Hid (k = 0 → f = tl ∧ j = 0) ∧ Hid (∀ m s, k = m + 1 → l[m]? = some s → f + fqN s.tb u.tb j = tl) ∧ Hid (Below W4.heap.size W4 V)) (fun _ jv _ => tl - (intOf jv).toNat)
        case atStart => exact ⟨0, tl, Nat.zero_le _, rfl, rfl, fun _ => ⟨rfl, rfl⟩, (fun m s _ _ => by simp [fqN]), Below.refl _ _⟩
        case round =>
          obtain ⟨V, hVwr⟩ : ∃ V, V = wr := ⟨_, rfl⟩
          subst hVwr
          obtain ⟨j, f, hj, rfl, rfl, HF0, HFS, HV⟩ := hrel
          have c4 := HQC.out V HV.out
          by_cases hgo : j < tl ∧ 0 < k
          · obtain ⟨hjt, hk0⟩ := hgo
            obtain ⟨m, hm⟩ : ∃ m, k = m + 1 := ⟨k - 1, by omega⟩
            obtain ⟨s, hs⟩ : ∃ s, l[m]? = some s := ⟨_, List.getElem?_eq_getElem (by have := HKL.out; omega)⟩
            obtain ⟨p, hp⟩ : ∃ p, u.tb[j]? = some p := ⟨_, List.getElem?_eq_getElem (by rw [← HTL.out]; exact hjt)⟩
            have hsu := fqN_succ (a := s.tb) hp
            have hfs := HFS.out m s hm hs
            have hfl2 := fqN_le s.tb u.tb j
            obtain ⟨bb, boff, rfl, hbb, t0, t1⟩ := (HQT.out _ HV.out).at hp
            obtain ⟨pb, pa⟩ := p
            simp only at t0 t1 hsu
            have hLV := HL.out.below (E4.out.trans (HV.out.mono E4.out.size))
            have hlc : len ≤ lc := by obtain ⟨r', a', cap', e, q1, -⟩ := hLV; simp only [Value.slice.injEq] at e; have := HLE.out; omega
            obtain ⟨hsl, hone⟩ := snp_one hLV hs HLE.out.symm
            have hkm1 : k - m = 1 := by omega
            have HKM1 := Lib.hid hkm1
            have gk1 : (k : Int) - 1 = (m : Int) := by omega
            have gk2 : wrap64 ((k : Int) - 1) = (m : Int) := by rw [gk1]; exact IntWalk.wrap64_in _ (by omega)
            have gmk : (m : Int) ≤ (k : Int) := by omega
            have gkc : (k : Int) ≤ (lc : Int) := by omega
            have HSL : Hid (∀ W' : World, (Instr.sliceAt 22 (.slice (some ⟨b, off, none⟩) len lc) (some (.int .i64 (m : Int))) (some (.int .i64 (k : Int))) none).run Try.prog W' = .ok (.slice (some ⟨b, off + m * 3, none⟩) 1 (lc - m)) W') := by
              show ∀ W' : World, _
              rw [show (k : Int) = (m : Int) + 1 by omega]
              exact hsl
            have HHO := ch_holder (hone.below (Below.refl _ V).drew) (l := [s]) ⟨by simp, fun t ht => by rw [List.mem_singleton.1 ht]; have := (good_lens HGG.out).2 s (List.mem_of_getElem? hs); omega⟩ 0 pb
            rw [hold_one] at HHO
            obtain ⟨fi, hfi⟩ : ∃ fi, (tFind s.tb pb).isSome = fi := ⟨_, rfl⟩
            obtain ⟨fa, hfa⟩ : ∃ fa, hAt (cHold [s] 0 pb) = fa := ⟨_, rfl⟩
            rw [hfi] at HHO hsu
            rw [hfa] at HHO
            have HHO := Lib.hid HHO
            have HSU := Lib.hid hsu
            have HFM : Hid (∀ f' : Nat, f' + fqN s.tb u.tb (j + 1) = tl → ∀ m' s', k = m' + 1 → l[m']? = some s' → f' + fqN s'.tb u.tb (j + 1) = tl) := fun f' e m' s' e1 e2 => by
              obtain rfl : m' = m := by omega
              rw [hs] at e2
              cases e2
              exact e
            have HF1 : Hid (f + fqN s.tb u.tb j = tl ∧ fqN s.tb u.tb j ≤ j) := ⟨hfs, hfl2⟩
            have g3 : (j : Int) < (tl : Int) := by omega
            have g3d : decide ((j : Int) < (tl : Int)) = true := by simp; omega
            have g4 : (k : Int) > 0 := by omega
            have g4d : decide ((k : Int) > 0) = true := by simp; omega
            have HWJ : Hid (wrap64 ((j : Int) + 1) = (j : Int) + 1) := IntWalk.wrap64_in _ (by omega)
            have HJT := Lib.hid hjt
            have HK0 := Lib.hid hk0
            have hf1 : 1 ≤ f := by omega
            obtain ⟨f', hf'⟩ : ∃ f', f = f' + 1 := ⟨f - 1, by omega⟩
            have HFF := Lib.hid hf'
            have hf10 : f ≤ 10 := by omega
            have d2 : ∀ z : Ext V, z.1.cell? ⟨b, off + k * 3 + 2, none⟩ = some (.slice (some ⟨bb, boff, none⟩) tl tc') := fun z => HQC.out _ (HV.out.trans (z.2.mono HV.out.size))
            have d3 : ∀ z : Ext V, z.1.cell? ⟨bb, boff + j * 2, none⟩ = some (.int .i64 pb) := fun z => (z.2.cell (p := ⟨bb, boff + j * 2, none⟩) hbb).trans t0
            clear hp hbb t0 t1 hjt hk0 hs hsu hfs hfl2 hLV hsl hone hfi hfa hm hf1 hf' hkm1
            go_wp2_with fail
            refine region_plan (fun x => ∃ y : Ext V, x = y.1) 19 (.takes [0, 1, 2, 3, 4, 5, 6, 7, 8, 9, 10, 11, 12, 13] (.one 14 (.takes [15, 16, 17, 18] .leaf))) hmx (by kernel_rfl) (by intro c x v a w h; cases x <;> exact h) ⟨⟨V.drew, (Below.refl _ V).drew⟩, rfl⟩ ?_
            repeat (rw [wpPlan_takes_cons]; simp only [nth_zero, nth_succ]; go_big_quiet_step (fail); try (with_reducible refine wpQuiet_nil ?_))
            rw [wpPlan_takes_nil, wpPlan_one]
            simp only [nth_zero, nth_succ]
            go_wp2_with fail
            rw [HKM1.out]
            go_at_call 15
            refine HHO.out.mono ?_
            rintro e V2 ⟨rfl, hb⟩
            have E9 : Hid (Below V.heap.size V V2) := (Below.refl _ V).drew.trans hb
            have HV2 : Hid (Below W4.heap.size W4 V2) := HV.out.trans (E9.out.mono HV.out.size)
            clear hb HHO d2 d3
            go_wp2_with fail
            refine planPost_mk ⟨⟨V2, E9.out⟩, rfl⟩ ?_
            repeat (rw [wpPlan_takes_cons]; simp only [nth_zero, nth_succ]; go_big_quiet_step (fail); try (with_reducible refine wpQuiet_nil ?_))
            rw [wpPlan_takes_nil, wpPlan_leaf]
            simp only [List.drop_succ_cons, List.drop_zero]
            cases fi with
            | true =>
              have HFS2 := Lib.hid (HFM.out f (by have h1 := HSU.out; simp only [if_true] at h1; have h2 := HF1.out; omega))
              have HF02 : Hid (k = 0 → f = tl ∧ j + 1 = 0) := fun e => by have := HK0.out; omega
              go_wp2_with fail
              exact ⟨⟨j + 1, f, HJT.out, by first | (simp; done) | (simp; exact HWJ.out) | (rw [HWJ.out]; simp), rfl, HF02, HFS2, HV2⟩, by have := HJT.out; first | (simp [intOf]; omega) | (rw [HWJ.out]; simp [intOf]; omega) | (simp [intOf, HWJ.out]; omega)⟩
            | false =>
              have HFS2 := Lib.hid (HFM.out f' (by have h1 := HSU.out; simp only [Bool.false_eq_true, if_false] at h1; have h2 := HF1.out; have h3 := HFF.out; omega))
              have HF02 : Hid (k = 0 → f' = tl ∧ j + 1 = 0) := fun e => by have := HK0.out; omega
              have gf1 : (f : Int) - 1 = (f' : Int) := by have := HFF.out; omega
              have gf2 : wrap64 ((f : Int) - 1) = (f' : Int) := by rw [gf1]; exact IntWalk.wrap64_in _ (by have := HFF.out; omega)
              go_wp2_with fail
              exact ⟨⟨j + 1, f', HJT.out, by first | (simp; done) | (simp; exact HWJ.out) | (rw [HWJ.out]; simp), by first | (simp; done) | (simp; omega) | (rw [gf2]), HF02, HFS2, HV2⟩, by have := HJT.out; first | (simp [intOf]; omega) | (rw [HWJ.out]; simp [intOf]; omega) | (simp [intOf, HWJ.out]; omega)⟩
          · by_cases hjt : j < tl
            · have hk0 : k = 0 := by omega
              have g3 : (j : Int) < (tl : Int) := by omega
              have g3d : decide ((j : Int) < (tl : Int)) = true := by simp; omega
              have g4 : ¬ (k : Int) > 0 := by omega
              have g4d : decide ((k : Int) > 0) = false := by simp; omega
              have hffr : f = fr := by
                rcases Nat.eq_zero_or_pos k with hk0 | hk0
                · have h1 := (HF0.out hk0).1
                  have h2 := HFR0.out hk0
                  have h3 := HTL.out
                  omega
                · obtain ⟨m, hm⟩ : ∃ m, k = m + 1 := ⟨k - 1, by omega⟩
                  obtain ⟨s, hs⟩ : ∃ s, l[m]? = some s := ⟨_, List.getElem?_eq_getElem (by have := HKL.out; omega)⟩
                  have h1 := HFS.out m s hm hs
                  have h2 := HFRS.out m s hm hs
                  have h3 := fqN_all s.tb u.tb
                  exfalso
                  omega
              have gaf : (a1 : Int) - (f : Int) = (b1 : Int) := by have h1 := HCN.out; have h2 := HA1.out; have h3 := HB1.out; omega
              have gaf2 : wrap64 ((a1 : Int) - (f : Int)) = (b1 : Int) := by rw [gaf]; exact IntWalk.wrap64_in _ (by omega)
              have gbb : ((b1 : Int) == (b1 : Int)) = true := by simp
              obtain ⟨fl, hfl⟩ : ∃ fl, (pFree now 200).length = fl := ⟨_, rfl⟩
              have hfb : fl + b1 = 200 := by have h1 := HFR.out; rw [hfl] at h1; have h3 := HB1.out; omega
              have gfl : (200 : Int) - (b1 : Int) = (fl : Int) := by omega
              have gfl2 : wrap64 ((200 : Int) - (b1 : Int)) = (fl : Int) := by rw [gfl]; exact IntWalk.wrap64_in _ (by omega)
              have gff : ((fl : Int) == (fl : Int)) = true := by simp
              have hfree := po_free (q := ⟨(none, 0, 0), (da, dn, dc), 0, 0, 0, (none, 0, 0)⟩) ⟨D4.out.below HV.out, Prt.nil _⟩ HDN.out (by decide) 200 (by decide)
              rw [HNOW.out, hfl] at hfree
              have HFX : Hid (Calls Try.prog 27 #[.agg #[.slice none 0 0, .slice da dn dc, .int .i64 0, .int .i64 0, .int .i64 0, .slice none 0 0], .int .i64 200] V fun e w' => e = .returned (.int .i64 (fl : Int)) ∧ Below V.heap.size V w') := hfree
              clear hfree hfl hgo hj HF0 HFS hffr hfb hjt hk0
              go_wp2_with fail
              go_at_call 27
              refine HFX.out.mono ?_
              rintro e V5 ⟨rfl, hb⟩
              have H5 := Lib.hid (HV.out.trans (hb.mono HV.out.size))
              have E5 : Hid (Below w.heap.size w V5) := E4.out.trans (H5.out.mono E4.out.size)
              have A5 := Lib.hid (A4.out.below H5.out)
              have B5 := Lib.hid (B4.out.below H5.out)
              clear hb HFX gaf gaf2 gbb c4
              go_wp2_with fail
              clear gfl gfl2 gff
              go_loopw [13, 14] (fun tv jv X => ∃ t j2 : Nat, j2 ≤ b1 ∧ jv = .int .i64 (j2 : Int) ∧ tv = .int .i64 (t : Int) ∧ Hid (∀ t0 v, now[j2]? = some v → was[t0]? = some v → t ≤ t0) ∧ Hid (Below V5.heap.size V5 X)) (fun _ jv _ => b1 - (intOf jv).toNat)
              case atStart => exact ⟨0, 0, Nat.zero_le _, rfl, rfl, fun t0 v _ _ => Nat.zero_le _, Below.refl _ _⟩
              case round =>
                obtain ⟨X, hXwr⟩ : ∃ X, X = wr := ⟨_, rfl⟩
                subst hXwr
                obtain ⟨t, j2, hj2, rfl, rfl, HP, HX⟩ := hrel
                by_cases hlt : j2 < b1
                · have g5 : (j2 : Int) < (b1 : Int) := by omega
                  have HWJ : Hid (wrap64 ((j2 : Int) + 1) = (j2 : Int) + 1) := IntWalk.wrap64_in _ (by omega)
                  have HLT := Lib.hid hlt
                  obtain ⟨v, hv⟩ : ∃ v, now[j2]? = some v := ⟨_, List.getElem?_eq_getElem (by rw [← HB1.out]; exact hlt)⟩
                  obtain ⟨t0, ht0⟩ := List.getElem?_of_mem (HSUB.out v (List.mem_of_getElem? hv))
                  have ht0l : t0 < was.length := (List.getElem?_eq_some_iff.1 ht0).1
                  have htt := HP.out t0 v hv ht0
                  obtain ⟨ga, rfl, -, -⟩ := po_at A5.out ht0
                  obtain ⟨gb, rfl, -, -⟩ := po_at B5.out hv
                  have HAC : Hid (∀ z : World, Below V5.heap.size V5 z → ∀ t y, was[t]? = some y → z.cell? ⟨ga, t, none⟩ = some (.int .i64 y)) := fun z hz t y hy => by
                    obtain ⟨g', e', -, c⟩ := po_at (A5.out.below hz) hy
                    cases e'
                    exact c
                  have HBC : Hid (∀ z : World, Below V5.heap.size V5 z → z.cell? ⟨gb, j2, none⟩ = some (.int .i64 v)) := fun z hz => by
                    obtain ⟨g', e', -, c⟩ := po_at (B5.out.below hz) hv
                    cases e'
                    exact c
                  have HV0 := Lib.hid hv
                  have HT0 := Lib.hid ht0
                  have hta : t0 < a1 := by rw [HA1.out]; exact ht0l
                  have ha12 : a1 ≤ 1000000 := by have h1 := HCN.out; have h2 := HA1.out; have h3 := HB1.out; have h4 := HFR9.out; omega
                  have HTA := Lib.hid hta
                  clear hv ht0 ht0l HP hj2 hlt
                  go_wp2_with fail
                  go_loopw [13] (fun tv Y => ∃ t : Nat, t ≤ t0 ∧ tv = .int .i64 (t : Int) ∧ Hid (Below V5.heap.size V5 Y)) (fun tv _ => t0 - (intOf tv).toNat)
                  case atStart => exact ⟨t, htt, rfl, HX⟩
                  case round =>
                    obtain ⟨Y, hYwr⟩ : ∃ Y, Y = wr := ⟨_, rfl⟩
                    subst hYwr
                    obtain ⟨t, ht, rfl, HY⟩ := hrel
                    obtain ⟨y, hy⟩ : ∃ y, was[t]? = some y := ⟨_, List.getElem?_eq_getElem (by rw [← HA1.out]; omega)⟩
                    have d1 : ∀ z : Ext Y, z.1.cell? ⟨ga, t, none⟩ = some (.int .i64 y) := fun z => HAC.out _ (HY.out.trans (z.2.mono HY.out.size)) t y hy
                    have d2 : ∀ z : Ext Y, z.1.cell? ⟨gb, j2, none⟩ = some (.int .i64 v) := fun z => HBC.out _ (HY.out.trans (z.2.mono HY.out.size))
                    have g6 : (t : Int) < (a1 : Int) := by omega
                    have g6d : decide ((t : Int) < (a1 : Int)) = true := by simp; omega
                    have HD5 : Hid (decide (t < a1) = true) := by show _ = _; simp; omega
                    have HWT : Hid (wrap64 ((t : Int) + 1) = (t : Int) + 1) := IntWalk.wrap64_in _ (by omega)
                    by_cases hyv : y < v
                    · have g7 : decide (y < v) = true := by simpa using hyv
                      have hmv := fq_move ht HT0.out hy hyv
                      have HMV := Lib.hid hmv
                      have HTL2 := Lib.hid ht
                      clear hy hyv ht hmv
                      go_wp2_with fail
                      refine region_ext (by kernel_rfl) (by kernel_rfl) ?_
                      repeat (go_big_quiet_step (fail); try rw [HD5.out])
                      try (with_reducible refine wpQuiet_nil ?_)
                      intro z
                      have HBZ : Hid (Below V5.heap.size V5 z.1) := HY.out.trans (z.2.mono HY.out.size)
                      clear d1 d2
                      go_wp2_with fail
                      exact ⟨⟨t + 1, HMV.out, by first | (simp; done) | (simp; exact HWT.out) | (rw [HWT.out]; simp), HBZ⟩, by have := HMV.out; first | (simp [intOf]; omega) | (rw [HWT.out]; simp [intOf]; omega) | (simp [intOf, HWT.out]; omega)⟩
                    · have g7 : decide (y < v) = false := by simpa using hyv
                      have hst := fq_stop HWR.out ht HT0.out hy hyv
                      subst hst
                      have hyv2 : y = v := by have h1 := HT0.out; rw [hy] at h1; exact Option.some.inj h1
                      subst hyv2
                      have HNX : Hid (∀ t0' v', now[j2 + 1]? = some v' → was[t0']? = some v' → t ≤ t0') := fun t0' v' e1 e2 => fq_next HWR.out HNR.out HV0.out e1 hy e2
                      have g8 : ¬ (t : Int) ≥ (a1 : Int) := by omega
                      have g8d : decide ((t : Int) ≥ (a1 : Int)) = false := by simp; omega
                      have HD6 : Hid (decide (a1 ≤ t) = false) := by show _ = _; simp; omega
                      have g9 : (y == y) = true := by simp
                      clear hy hyv ht
                      go_wp2_with fail
                      refine region_ext (by kernel_rfl) (by kernel_rfl) ?_
                      repeat (go_big_quiet_step (fail); try rw [HD5.out])
                      try (with_reducible refine wpQuiet_nil ?_)
                      intro z
                      obtain ⟨Z, hzx⟩ : ∃ x, z.1 = x := ⟨_, rfl⟩
                      have hbx : Below Y.heap.size Y Z := by rw [← hzx]; exact z.2
                      rw [hzx]
                      clear hzx d1 d2
                      have HZ : Hid (Below V5.heap.size V5 Z) := HY.out.trans (hbx.mono HY.out.size)
                      have d1 : ∀ z : Ext Z, z.1.cell? ⟨ga, t, none⟩ = some (.int .i64 y) := fun z => HAC.out _ (HZ.out.trans (z.2.mono HZ.out.size)) t y HT0.out
                      have d2 : ∀ z : Ext Z, z.1.cell? ⟨gb, j2, none⟩ = some (.int .i64 y) := fun z => HBC.out _ (HZ.out.trans (z.2.mono HZ.out.size))
                      clear hbx z HY
                      go_wp2_with fail
                      refine region_ext (by kernel_rfl) (by kernel_rfl) ?_
                      repeat (go_big_quiet_step (fail); try rw [HD6.out])
                      try (with_reducible refine wpQuiet_nil ?_)
                      intro z
                      have HBZ : Hid (Below V5.heap.size V5 z.1) := HZ.out.trans (z.2.mono HZ.out.size)
                      clear d1 d2
                      go_wp2_with fail
                      first
                        | exact ⟨⟨t, j2 + 1, HLT.out, by first | (simp; done) | (simp; exact HWJ.out) | (rw [HWJ.out]; simp), rfl, HNX, HBZ⟩, by have := HLT.out; first | (simp [intOf]; omega) | (rw [HWJ.out]; simp [intOf]; omega) | (simp [intOf, HWJ.out]; omega)⟩
                        | exact ⟨by (repeat apply Exists.intro); refine ⟨?_, rfl⟩; exact ⟨t, j2 + 1, HLT.out, by first | (simp; done) | (simp; exact HWJ.out) | (rw [HWJ.out]; simp), rfl, HNX, HBZ⟩, by have := HLT.out; first | (simp [intOf]; omega) | (rw [HWJ.out]; simp [intOf]; omega) | (simp [intOf, HWJ.out]; omega)⟩
                · have g5 : ¬ (j2 : Int) < (b1 : Int) := by omega
                  have EX : Hid (Below w.heap.size w X) := E5.out.trans (HX.out.mono E5.out.size)
                  clear hj2 hlt HP
                  go_wp2_with fail
                  refine (po_wakes _).mono ?_
                  rintro e Ww ⟨rfl, hbw⟩
                  have HBE : Hid (Below w.heap.size w Ww) := EX.out.trans (hbw.mono EX.out.size)
                  clear hbw
                  go_wp2_with fail
                  go_ret
                  exact ⟨by first | rfl | simp, HBE.out⟩
            · have g3 : ¬ (j : Int) < (tl : Int) := by omega
              have g3d : decide ((j : Int) < (tl : Int)) = false := by simp; omega
              have hffr : f = fr := by
                rcases Nat.eq_zero_or_pos k with hk0 | hk0
                · have h1 := (HF0.out hk0).1
                  have h2 := HFR0.out hk0
                  have h3 := HTL.out
                  omega
                · obtain ⟨m, hm⟩ : ∃ m, k = m + 1 := ⟨k - 1, by omega⟩
                  obtain ⟨s, hs⟩ : ∃ s, l[m]? = some s := ⟨_, List.getElem?_eq_getElem (by have := HKL.out; omega)⟩
                  have h1 := HFS.out m s hm hs
                  have h2 := HFRS.out m s hm hs
                  have h3 := fqN_all s.tb u.tb
                  rw [← HTL.out, show tl = j by omega] at h3
                  omega
              have gaf : (a1 : Int) - (f : Int) = (b1 : Int) := by have h1 := HCN.out; have h2 := HA1.out; have h3 := HB1.out; omega
              have gaf2 : wrap64 ((a1 : Int) - (f : Int)) = (b1 : Int) := by rw [gaf]; exact IntWalk.wrap64_in _ (by omega)
              have gbb : ((b1 : Int) == (b1 : Int)) = true := by simp
              obtain ⟨fl, hfl⟩ : ∃ fl, (pFree now 200).length = fl := ⟨_, rfl⟩
              have hfb : fl + b1 = 200 := by have h1 := HFR.out; rw [hfl] at h1; have h3 := HB1.out; omega
              have gfl : (200 : Int) - (b1 : Int) = (fl : Int) := by omega
              have gfl2 : wrap64 ((200 : Int) - (b1 : Int)) = (fl : Int) := by rw [gfl]; exact IntWalk.wrap64_in _ (by omega)
              have gff : ((fl : Int) == (fl : Int)) = true := by simp
              have hfree := po_free (q := ⟨(none, 0, 0), (da, dn, dc), 0, 0, 0, (none, 0, 0)⟩) ⟨D4.out.below HV.out, Prt.nil _⟩ HDN.out (by decide) 200 (by decide)
              rw [HNOW.out, hfl] at hfree
              have HFX : Hid (Calls Try.prog 27 #[.agg #[.slice none 0 0, .slice da dn dc, .int .i64 0, .int .i64 0, .int .i64 0, .slice none 0 0], .int .i64 200] V fun e w' => e = .returned (.int .i64 (fl : Int)) ∧ Below V.heap.size V w') := hfree
              clear hfree hfl hgo hj HF0 HFS hffr hfb hjt
              go_wp2_with fail
              go_at_call 27
              refine HFX.out.mono ?_
              rintro e V5 ⟨rfl, hb⟩
              have H5 := Lib.hid (HV.out.trans (hb.mono HV.out.size))
              have E5 : Hid (Below w.heap.size w V5) := E4.out.trans (H5.out.mono E4.out.size)
              have A5 := Lib.hid (A4.out.below H5.out)
              have B5 := Lib.hid (B4.out.below H5.out)
              clear hb HFX gaf gaf2 gbb c4
              go_wp2_with fail
              clear gfl gfl2 gff
              go_loopw [13, 14] (fun tv jv X => ∃ t j2 : Nat, j2 ≤ b1 ∧ jv = .int .i64 (j2 : Int) ∧ tv = .int .i64 (t : Int) ∧ Hid (∀ t0 v, now[j2]? = some v → was[t0]? = some v → t ≤ t0) ∧ Hid (Below V5.heap.size V5 X)) (fun _ jv _ => b1 - (intOf jv).toNat)
              case atStart => exact ⟨0, 0, Nat.zero_le _, rfl, rfl, fun t0 v _ _ => Nat.zero_le _, Below.refl _ _⟩
              case round =>
                obtain ⟨X, hXwr⟩ : ∃ X, X = wr := ⟨_, rfl⟩
                subst hXwr
                obtain ⟨t, j2, hj2, rfl, rfl, HP, HX⟩ := hrel
                by_cases hlt : j2 < b1
                · have g5 : (j2 : Int) < (b1 : Int) := by omega
                  have HWJ : Hid (wrap64 ((j2 : Int) + 1) = (j2 : Int) + 1) := IntWalk.wrap64_in _ (by omega)
                  have HLT := Lib.hid hlt
                  obtain ⟨v, hv⟩ : ∃ v, now[j2]? = some v := ⟨_, List.getElem?_eq_getElem (by rw [← HB1.out]; exact hlt)⟩
                  obtain ⟨t0, ht0⟩ := List.getElem?_of_mem (HSUB.out v (List.mem_of_getElem? hv))
                  have ht0l : t0 < was.length := (List.getElem?_eq_some_iff.1 ht0).1
                  have htt := HP.out t0 v hv ht0
                  obtain ⟨ga, rfl, -, -⟩ := po_at A5.out ht0
                  obtain ⟨gb, rfl, -, -⟩ := po_at B5.out hv
                  have HAC : Hid (∀ z : World, Below V5.heap.size V5 z → ∀ t y, was[t]? = some y → z.cell? ⟨ga, t, none⟩ = some (.int .i64 y)) := fun z hz t y hy => by
                    obtain ⟨g', e', -, c⟩ := po_at (A5.out.below hz) hy
                    cases e'
                    exact c
                  have HBC : Hid (∀ z : World, Below V5.heap.size V5 z → z.cell? ⟨gb, j2, none⟩ = some (.int .i64 v)) := fun z hz => by
                    obtain ⟨g', e', -, c⟩ := po_at (B5.out.below hz) hv
                    cases e'
                    exact c
                  have HV0 := Lib.hid hv
                  have HT0 := Lib.hid ht0
                  have hta : t0 < a1 := by rw [HA1.out]; exact ht0l
                  have ha12 : a1 ≤ 1000000 := by have h1 := HCN.out; have h2 := HA1.out; have h3 := HB1.out; have h4 := HFR9.out; omega
                  have HTA := Lib.hid hta
                  clear hv ht0 ht0l HP hj2 hlt
                  go_wp2_with fail
                  go_loopw [13] (fun tv Y => ∃ t : Nat, t ≤ t0 ∧ tv = .int .i64 (t : Int) ∧ Hid (Below V5.heap.size V5 Y)) (fun tv _ => t0 - (intOf tv).toNat)
                  case atStart => exact ⟨t, htt, rfl, HX⟩
                  case round =>
                    obtain ⟨Y, hYwr⟩ : ∃ Y, Y = wr := ⟨_, rfl⟩
                    subst hYwr
                    obtain ⟨t, ht, rfl, HY⟩ := hrel
                    obtain ⟨y, hy⟩ : ∃ y, was[t]? = some y := ⟨_, List.getElem?_eq_getElem (by rw [← HA1.out]; omega)⟩
                    have d1 : ∀ z : Ext Y, z.1.cell? ⟨ga, t, none⟩ = some (.int .i64 y) := fun z => HAC.out _ (HY.out.trans (z.2.mono HY.out.size)) t y hy
                    have d2 : ∀ z : Ext Y, z.1.cell? ⟨gb, j2, none⟩ = some (.int .i64 v) := fun z => HBC.out _ (HY.out.trans (z.2.mono HY.out.size))
                    have g6 : (t : Int) < (a1 : Int) := by omega
                    have g6d : decide ((t : Int) < (a1 : Int)) = true := by simp; omega
                    have HD5 : Hid (decide (t < a1) = true) := by show _ = _; simp; omega
                    have HWT : Hid (wrap64 ((t : Int) + 1) = (t : Int) + 1) := IntWalk.wrap64_in _ (by omega)
                    by_cases hyv : y < v
                    · have g7 : decide (y < v) = true := by simpa using hyv
                      have hmv := fq_move ht HT0.out hy hyv
                      have HMV := Lib.hid hmv
                      have HTL2 := Lib.hid ht
                      clear hy hyv ht hmv
                      go_wp2_with fail
                      refine region_ext (by kernel_rfl) (by kernel_rfl) ?_
                      repeat (go_big_quiet_step (fail); try rw [HD5.out])
                      try (with_reducible refine wpQuiet_nil ?_)
                      intro z
                      have HBZ : Hid (Below V5.heap.size V5 z.1) := HY.out.trans (z.2.mono HY.out.size)
                      clear d1 d2
                      go_wp2_with fail
                      exact ⟨⟨t + 1, HMV.out, by first | (simp; done) | (simp; exact HWT.out) | (rw [HWT.out]; simp), HBZ⟩, by have := HMV.out; first | (simp [intOf]; omega) | (rw [HWT.out]; simp [intOf]; omega) | (simp [intOf, HWT.out]; omega)⟩
                    · have g7 : decide (y < v) = false := by simpa using hyv
                      have hst := fq_stop HWR.out ht HT0.out hy hyv
                      subst hst
                      have hyv2 : y = v := by have h1 := HT0.out; rw [hy] at h1; exact Option.some.inj h1
                      subst hyv2
                      have HNX : Hid (∀ t0' v', now[j2 + 1]? = some v' → was[t0']? = some v' → t ≤ t0') := fun t0' v' e1 e2 => fq_next HWR.out HNR.out HV0.out e1 hy e2
                      have g8 : ¬ (t : Int) ≥ (a1 : Int) := by omega
                      have g8d : decide ((t : Int) ≥ (a1 : Int)) = false := by simp; omega
                      have HD6 : Hid (decide (a1 ≤ t) = false) := by show _ = _; simp; omega
                      have g9 : (y == y) = true := by simp
                      clear hy hyv ht
                      go_wp2_with fail
                      refine region_ext (by kernel_rfl) (by kernel_rfl) ?_
                      repeat (go_big_quiet_step (fail); try rw [HD5.out])
                      try (with_reducible refine wpQuiet_nil ?_)
                      intro z
                      obtain ⟨Z, hzx⟩ : ∃ x, z.1 = x := ⟨_, rfl⟩
                      have hbx : Below Y.heap.size Y Z := by rw [← hzx]; exact z.2
                      rw [hzx]
                      clear hzx d1 d2
                      have HZ : Hid (Below V5.heap.size V5 Z) := HY.out.trans (hbx.mono HY.out.size)
                      have d1 : ∀ z : Ext Z, z.1.cell? ⟨ga, t, none⟩ = some (.int .i64 y) := fun z => HAC.out _ (HZ.out.trans (z.2.mono HZ.out.size)) t y HT0.out
                      have d2 : ∀ z : Ext Z, z.1.cell? ⟨gb, j2, none⟩ = some (.int .i64 y) := fun z => HBC.out _ (HZ.out.trans (z.2.mono HZ.out.size))
                      clear hbx z HY
                      go_wp2_with fail
                      refine region_ext (by kernel_rfl) (by kernel_rfl) ?_
                      repeat (go_big_quiet_step (fail); try rw [HD6.out])
                      try (with_reducible refine wpQuiet_nil ?_)
                      intro z
                      have HBZ : Hid (Below V5.heap.size V5 z.1) := HZ.out.trans (z.2.mono HZ.out.size)
                      clear d1 d2
                      go_wp2_with fail
                      first
                        | exact ⟨⟨t, j2 + 1, HLT.out, by first | (simp; done) | (simp; exact HWJ.out) | (rw [HWJ.out]; simp), rfl, HNX, HBZ⟩, by have := HLT.out; first | (simp [intOf]; omega) | (rw [HWJ.out]; simp [intOf]; omega) | (simp [intOf, HWJ.out]; omega)⟩
                        | exact ⟨by (repeat apply Exists.intro); refine ⟨?_, rfl⟩; exact ⟨t, j2 + 1, HLT.out, by first | (simp; done) | (simp; exact HWJ.out) | (rw [HWJ.out]; simp), rfl, HNX, HBZ⟩, by have := HLT.out; first | (simp [intOf]; omega) | (rw [HWJ.out]; simp [intOf]; omega) | (simp [intOf, HWJ.out]; omega)⟩
                · have g5 : ¬ (j2 : Int) < (b1 : Int) := by omega
                  have EX : Hid (Below w.heap.size w X) := E5.out.trans (HX.out.mono E5.out.size)
                  clear hj2 hlt HP
                  go_wp2_with fail
                  refine (po_wakes _).mono ?_
                  rintro e Ww ⟨rfl, hbw⟩
                  have HBE : Hid (Below w.heap.size w Ww) := EX.out.trans (hbw.mono EX.out.size)
                  clear hbw
                  go_wp2_with fail
                  go_ret
                  exact ⟨by first | rfl | simp, HBE.out⟩

set_option maxRecDepth 100000 in
theorem lifted (os : Os) (started : os.Started) (H : Type) (enc : TypeId × Value → H) :
    ReturnsInHanded {} Try.checked os 7 .any (Rows.poolFreesSpec.pre6 enc Try.prog Try.f7 Rows.poolFreesRow.domain false) (Rows.poolFreesSpec.post enc Try.prog Try.f7 false true false false) := by
  refine returnsInHanded_of_change (C := Try.checked) own started (by kernel_rfl) Try.func7
    (ChangeSpec.witness6 (enc := enc) (C := Try.checked) false ⟨#[], #[.slice none 0 0, .int .u8 0], []⟩ 8 (by kernel_rfl) (by kernel_rfl) (by kernel_rfl) (by kernel_rfl)) ?_
  intro W base args ds gs before hval0 hW hcnd _
  have hval : ∀ (j : Nat) t v, Try.f7.params[j]? = some t → args[j]? = some v → Value.okWide Try.prog W .any base t v := hval0
  have hW' := hW
  obtain ⟨p, q, hA0, hV, rfl, hfz, hnd⟩ := hW
  have hA : DataW.TrodAll enc Try.prog W 0 (fun _ => true) true Try.f7.params.toList args.toList ds p := hA0
  rw [Try.params7] at hA hval
  obtain ⟨v0, vs0, d0, ds0, p0, q0, hargs, rfl, rfl, h0, r0⟩ := trodAll_cons hA
  obtain ⟨v1, vs1, d1, ds1, p1, q1, rfl, rfl, rfl, h1, r1⟩ := trodAll_cons r0
  obtain ⟨rfl, rfl, rfl⟩ := trodAll_nil r1
  obtain rfl : args = #[v0, v1] := by cases args; simp_all
  obtain ⟨rfl, rfl⟩ := trodVars_none hV
  have lt0 : ∀ x ∈ p0, x.block < W.heap.size := by obtain ⟨m, hm⟩ := h0; exact DataW.trod_lt m _ _ _ hm
  have a0 := Arg.mk (hval 0 22 v0 rfl rfl) h0
  have lt1 : ∀ x ∈ p1, x.block < W.heap.size := by obtain ⟨m, hm⟩ := h1; exact DataW.trod_lt m _ _ _ hm
  have a1 := Arg.mk (hval 1 5 v1 rfl rfl) h1
  clear hA0 hval0
  refine (walk v0 v1 W a0 a1).mono fun e W' ⟨he, bel⟩ => ?_
  subst he
  exact ⟨_, rfl, _, _, _, [], _, [], hW', trodAll_mk1 (shut_bool Try.underlying4 _), (trodAll_cons_mk (Below.trod laidOut (by kernel_rfl) (of_decide_eq_true (by kernel_rfl)) h0 bel lt0) (trodAll_cons_mk (Below.trod laidOut (by kernel_rfl) (of_decide_eq_true (by kernel_rfl)) h1 bel lt1) trodAll_mk0)), rfl, bel.frame _, fun h => by cases h⟩

set_option maxRecDepth 100000 in
theorem over : Rows.poolFreesRow.holds Try.pinned (OpenSpec.ofChange Rows.poolFreesSpec) :=
  OpenClaim.holds_of_wide 7 Try.f7 rfl rfl rfl rfl rfl rfl rfl ⟨rfl, rfl, rfl, rfl, rfl⟩ rfl rfl rfl rfl rfl (by kernel_rfl) Try.func7 (by kernel_rfl)
    (of_decide_eq_true (by kernel_rfl)) (by unfold Func.isWrapper; first | (rw [if_pos (by decide +kernel)]; kernel_rfl) | (rw [if_neg (by decide +kernel)]; exact ⟨rfl, rfl⟩))
    (fun os started H enc _ => lifted os started H enc)

theorem proved : Rows.PoolFreesSaid := over
#print axioms proved
end Go.Proofs.Ytiidfffedoekiaa.poolFrees
