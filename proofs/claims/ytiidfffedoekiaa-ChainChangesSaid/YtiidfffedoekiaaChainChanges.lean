/- What changed from one snapshot up to another one is what changed from it to one between and from there on; of a chain that may be all of it, but what changed behind the last one, is held. -/
import Derived.Test.YtiidfffedoekiaaChWa
import Derived.Test.YtiidfffedoekiaaChGd
import Derived.Test.YtiidfffedoekiaaChTp
import Derived.Test.YtiidfffedoekiaaChCh
import Derived.Test.YtiidfffedoekiaaArgSl
namespace Go.Proofs.Ytiidfffedoekiaa.chainChanges
open Go.ChangeShapes Go.WideShapes Go.ChangeAt Go.RowKit
set_option linter.unusedVariables false
set_option linter.unusedSimpArgs false
attribute [-simp] Try.isAgg39 Try.zeroValue39 Try.isAgg42 Try.zeroValue42
attribute [-go_sem] loadVar storeVar
attribute [local go_sem] loadVar_openPS storeVar_openPS zero_sn zero_prs build_prs build_sn build_sn2

set_option maxRecDepth 100000 in
set_option maxHeartbeats 2000000 in
theorem walk (v0 v1 : Value) (w : World) (w0 : Arg w 22 v0) (w1 : Arg w 23 v1) :
    Calls Try.prog 4 #[v0, v1] w fun e w' => e = .returned (.bool true) ∧ Below w.heap.size w w' := by
  have hmx : Try.prog.follows .mixedOrders = true := by kernel_rfl
  obtain ⟨l, hl⟩ := w0.snp
  obtain ⟨n0, n1, n2, rfl, wn0, wn1, wn2⟩ := w1.three Try.underlying23 Try.underlying5 (by kernel_rfl) (by kernel_rfl)
  obtain ⟨ha0, ha1⟩ := bounds_u8 wn0
  obtain ⟨hb0, hb1⟩ := bounds_u8 wn1
  obtain ⟨hc0, hc1⟩ := bounds_u8 wn2
  obtain ⟨W0, hW0⟩ : ∃ W, w.alloc (.cells #[.int .u8 n0, .int .u8 n1, .int .u8 n2] 23) = W := ⟨_, rfl⟩
  have b0 := below_new w (.cells #[.int .u8 n0, .int .u8 n1, .int .u8 n2] 23)
  have r0 : RowC W0 w.heap.size 23 [.int .u8 n0, .int .u8 n1, .int .u8 n2] := by rw [← hW0]; exact RowC.new w _ _
  rw [hW0] at b0
  obtain ⟨B, hB⟩ : ∃ B, w.heap.size = B := ⟨_, rfl⟩
  have HL := Lib.hid (hl.below b0)
  rw [hB] at b0 r0
  have HB0 := Lib.hid b0
  have HRN := Lib.hid r0
  have HOKS := Lib.hid hl.ok
  have HF := Lib.hid (ch_fair HL.out)
  obtain ⟨r, la, lc, rfl, -⟩ := hl
  obtain ⟨len, hle⟩ : ∃ len, l.length = len := ⟨_, rfl⟩
  have HLE := Lib.hid hle
  have hBW : Hid (B ≤ W0.heap.size) := by have := HB0.out.size; rw [hB] at this; exact this
  have HSB := Lib.hid hB
  rw [hle] at HL HF ⊢
  clear b0 r0 wn0 wn1 wn2 w0 w1 hle
  cases hf : fairL l with
  | false =>
    rw [hf] at HF
    clear hf
    go_enter Try.func4, Try.ntmps4
    go_wp2_with fail
    try rw [hW0]
    go_at_call 9
    refine HF.out.mono ?_
    rintro e w' ⟨rfl, hw'⟩
    obtain rfl := hw'.symm
    clear hW0 HF
    go_wp2_with fail
    refine (ch_wakes _).mono ?_
    rintro e Ww ⟨rfl, hbw⟩
    have HBE : Hid (Below B w Ww) := HB0.out.trans ((hbw).mono hBW.out)
    clear hbw
    go_wp2_with fail
    go_ret
    rw [HSB.out]
    exact ⟨by first | rfl | simp, HBE.out⟩
  | true =>
    rw [hf] at HF
    obtain ⟨hlens, hl12, hfs⟩ := fair_lens hf
    rw [HLE.out] at hl12
    have HLN := Lib.hid hlens
    have HFS := Lib.hid hfs
    have HCL : Hid (∀ i j : Int, (cChg l i j).length ≤ 40) := fun i j => chB_len _ fun s hs => (hfs s (List.mem_of_mem_take (List.mem_of_mem_drop hs))).1
    have HCB : Hid (∀ i j : Int, IsBytes (cChg l i j)) := fun i j => chB_bytes _ fun s hs => (HOKS.out s (List.mem_of_mem_take (List.mem_of_mem_drop hs))).ch
    have HGD := Lib.hid (rf11_good HL.out HLN.out 10 200 (wf_i64 (by omega) (by omega)))
    clear hf hfs hlens
    cases hg : cGood l 10 200 with
    | false =>
      rw [hg] at HGD
      clear hg
      go_enter Try.func4, Try.ntmps4
      go_wp2_with fail
      try rw [hW0]
      go_at_call 9
      refine HF.out.mono ?_
      rintro e w' ⟨rfl, hw'⟩
      obtain rfl := hw'.symm
      clear hW0 HF
      go_wp2_with fail
      go_at_call 10
      refine HGD.out.mono ?_
      rintro e W1 ⟨rfl, hb1⟩
      have E1 := Lib.hid hb1
      clear hb1 HGD
      go_wp2_with fail
      refine (ch_wakes _).mono ?_
      rintro e Ww ⟨rfl, hbw⟩
      have HBE : Hid (Below B w Ww) := HB0.out.trans ((E1.out.trans (hbw.mono E1.out.size)).mono hBW.out)
      clear hbw
      go_wp2_with fail
      go_ret
      rw [HSB.out]
      exact ⟨by first | rfl | simp, HBE.out⟩
    | true =>
      rw [hg] at HGD
      have HGG := Lib.hid hg
      clear hg
      by_cases h0 : len = 0
      · subst h0
        go_enter Try.func4, Try.ntmps4
        go_wp2_with fail
        try rw [hW0]
        go_at_call 9
        refine HF.out.mono ?_
        rintro e w' ⟨rfl, hw'⟩
        obtain rfl := hw'.symm
        clear hW0 HF
        go_wp2_with fail
        go_at_call 10
        refine HGD.out.mono ?_
        rintro e W1 ⟨rfl, hb1⟩
        have E1 := Lib.hid hb1
        clear hb1 HGD
        go_wp2_with fail
        refine (ch_wakes _).mono ?_
        rintro e Ww ⟨rfl, hbw⟩
        have HBE : Hid (Below B w Ww) := HB0.out.trans ((E1.out.trans (hbw.mono E1.out.size)).mono hBW.out)
        clear hbw
        go_wp2_with fail
        go_ret
        rw [HSB.out]
        exact ⟨by first | rfl | simp, HBE.out⟩
      · obtain ⟨i, hi, HT, hil, g0, gn, gb⟩ := idx_first ha0 h0
        obtain ⟨d, j1, j, hd, HWD, gdn, gdb, hj1, HTJ, hj, HWJ, hij, hjl⟩ := idx_step hb0 hil hl12
        obtain ⟨f, k1, k, hf, HWF, gfn, gfb, hk1, HTK, hk, HWK, hjk, hkl⟩ := idx_step hc0 hjl hl12
        have HKL : Hid (i ≤ j ∧ j ≤ k ∧ k < l.length ∧ i < l.length) := ⟨hij, hjk, by rw [HLE.out]; exact hkl, by rw [HLE.out]; exact hil⟩
        have HSM : Hid (len ≤ 12 ∧ k < len) := ⟨hl12, hkl⟩
        have K3 : Hid ((0 ≤ n0 ∧ n0 ≤ 255) ∧ n0.tmod (len : Int) = (i : Int) ∧ n0 % (len : Int) = (i : Int) ∧ ¬ ((len : Int) = 0) ∧ ((len : Int) == 0) = false) := ⟨⟨ha0, ha1⟩, HT, hi, gn, gb⟩
        have K4 : Hid ((0 ≤ n1 ∧ n1 ≤ 255) ∧ (len : Int) - (i : Int) = (d : Int) ∧ wrap64 ((len : Int) - (i : Int)) = (d : Int) ∧ ¬ ((d : Int) = 0) ∧ ((d : Int) == 0) = false ∧ n1 % (d : Int) = (j1 : Int) ∧ n1.tmod (d : Int) = (j1 : Int) ∧ (i : Int) + (j1 : Int) = (j : Int) ∧ wrap64 ((i : Int) + (j1 : Int)) = (j : Int)) := ⟨⟨hb0, hb1⟩, hd, HWD, gdn, gdb, hj1, HTJ, hj, HWJ⟩
        have K5 : Hid ((0 ≤ n2 ∧ n2 ≤ 255) ∧ (len : Int) - (j : Int) = (f : Int) ∧ wrap64 ((len : Int) - (j : Int)) = (f : Int) ∧ ¬ ((f : Int) = 0) ∧ ((f : Int) == 0) = false ∧ n2 % (f : Int) = (k1 : Int) ∧ n2.tmod (f : Int) = (k1 : Int) ∧ (j : Int) + (k1 : Int) = (k : Int) ∧ wrap64 ((j : Int) + (k1 : Int)) = (k : Int)) := ⟨⟨hc0, hc1⟩, hf, HWF, gfn, gfb, hk1, HTK, hk, HWK⟩
        clear ha0 ha1 hb0 hb1 hc0 hc1 HT hi gn gb g0 hd HWD gdn gdb hj1 HTJ hj HWJ hf HWF gfn gfb hk1 HTK hk HWK
        have gl0 : ¬ ((len : Int) = 0) := by omega
        have gl1 : ((len : Int) == 0) = false := by simp; omega
        clear hij hjk h0 hil hjl hkl hl12
        go_enter Try.func4, Try.ntmps4
        go_wp2_with fail
        try rw [hW0]
        go_at_call 9
        refine HF.out.mono ?_
        rintro e w' ⟨rfl, hw'⟩
        obtain rfl := hw'.symm
        clear hW0 HF
        go_wp2_with fail
        go_at_call 10
        refine HGD.out.mono ?_
        rintro e W1 ⟨rfl, hb1⟩
        have E1 := Lib.hid hb1
        have c0 := (HRN.out.below E1.out).cell 0 _ rfl
        have c1 := (HRN.out.below E1.out).cell 1 _ rfl
        have c2 := (HRN.out.below E1.out).cell 2 _ rfl
        have HC1 := Lib.hid (ch_changed (HL.out.below E1.out) HLN.out (i : Int) (j : Int))
        have HR1 := Lib.hid c1
        have HR2 := Lib.hid c2
        clear hb1 HGD c1 c2
        obtain ⟨⟨ha0, ha1⟩, HT, hi, -, -⟩ := K3.out
        go_upto_region 4 with fail
        clear ha0 ha1 HT hi gl0 gl1 c0
        have gz : ¬ (wrap64 ((len : Int) - (i : Int)) = 0) := by rw [K4.out.2.2.1]; exact K4.out.2.2.2.1
        have HE4 : Hid (wrap64 ((i : Int) + n1 % wrap64 ((len : Int) - (i : Int))) = (j : Int)) := by
          obtain ⟨-, hd, HWD, gdn, gdb, hj1, HTJ, hj, HWJ⟩ := K4.out
          show _ = _
          rw [HWD, hj1, HWJ]
        have HE5 : Hid (wrap64 ((j : Int) + n2 % wrap64 ((len : Int) - (j : Int))) = (k : Int)) := by
          obtain ⟨-, hd, HWD, gdn, gdb, hj1, HTJ, hj, HWJ⟩ := K5.out
          show _ = _
          rw [HWD, hj1, HWJ]
        obtain ⟨hb0, hb1⟩ := K4.out.1
        have c1 := HR1.out
        go_upto_region 5 with fail
        rw [HE4.out]
        clear gz hb0 hb1 c1
        have gz : ¬ (wrap64 ((len : Int) - (j : Int)) = 0) := by rw [K5.out.2.2.1]; exact K5.out.2.2.2.1
        obtain ⟨hc0, hc1⟩ := K5.out.1
        have c2 := HR2.out
        go_upto_region 6 with fail
        rw [HE5.out]
        clear gz hc0 hc1 c2 K3 K4 K5 HE4 HE5 HR1 HR2
        go_wp2_with fail
        go_at_call 17
        refine HC1.out.mono ?_
        rintro e W2 ⟨u2, rfl, ho, hb⟩
        have E2 := Lib.hid (E1.out.trans (hb.mono E1.out.size))
        have S2 := Lib.hid (Sl.of_owns ho)
        obtain ⟨⟨xa, xn, xc⟩, rfl, -⟩ := own_slV ho
        have HC2 := Lib.hid (ch_changed (HL.out.below E2.out) HLN.out (j : Int) (k : Int))
        simp only [slV] at S2 ⊢
        clear ho hb HC1 E1
        go_wp2_with fail
        go_at_call 17
        refine HC2.out.mono ?_
        rintro e W3 ⟨u3, rfl, ho, hb⟩
        have E3 := Lib.hid (E2.out.trans (hb.mono E2.out.size))
        have S3 := Lib.hid (S2.out.below hb)
        have T3 := Lib.hid (Sl.of_owns ho)
        obtain ⟨⟨ya, yn, yc⟩, rfl, -⟩ := own_slV ho
        have HOR := bi_orO _ _ _ _ W3 S3.out T3.out (HCB.out _ _) (HCB.out _ _) (by have := HCL.out (i : Int) (j : Int); omega) (by have := HCL.out (j : Int) (k : Int); omega)
        rw [chg_both (fun s hs => (HOKS.out s hs).ch) HKL.out.1 HKL.out.2.1 HKL.out.2.2.1] at HOR
        have HOR := Lib.hid HOR
        simp only [slV] at HOR ⊢
        clear ho hb HC2 E2 S2 T3 S3
        go_wp2_with fail
        go_at_call 16
        refine HOR.out.mono ?_
        rintro e W4 ⟨u4, rfl, ho, hb⟩
        have E4 := Lib.hid (E3.out.trans (hb.mono E3.out.size))
        have S4 := Sl.of_owns ho
        obtain ⟨⟨za, zn, zc⟩, rfl, -⟩ := own_slV ho
        have HA4 := Lib.hid (bi_all _ _ W4 S4 (HCB.out _ _) (by have := HCL.out (i : Int) (k : Int); omega))
        simp only [slV] at HA4 ⊢
        clear ho hb HOR E3 S4
        go_wp2_with fail
        go_at_call 19
        refine HA4.out.mono ?_
        rintro e W5 ⟨u5, rfl, ho, hb⟩
        have E5 := Lib.hid (E4.out.trans (hb.mono E4.out.size))
        have S5 := Lib.hid (sl_nat ho)
        obtain ⟨⟨pa, pn, pc⟩, rfl, -⟩ := own_slV ho
        have HC5 := Lib.hid (ch_changed (HL.out.below E5.out) HLN.out (i : Int) (k : Int))
        simp only [slV] at S5 ⊢
        clear ho hb HA4 E4
        go_wp2_with fail
        go_at_call 17
        refine HC5.out.mono ?_
        rintro e W6 ⟨u6, rfl, ho, hb⟩
        have E6 := Lib.hid (E5.out.trans (hb.mono E5.out.size))
        have S6 := Lib.hid (S5.out.below hb)
        have T6 := Sl.of_owns ho
        obtain ⟨⟨qa, qn, qc⟩, rfl, -⟩ := own_slV ho
        have HA6 := Lib.hid (bi_all _ _ W6 T6 (HCB.out _ _) (by have := HCL.out (i : Int) (k : Int); omega))
        simp only [slV] at HA6 ⊢
        clear ho hb HC5 E5 S5 T6
        go_wp2_with fail
        go_at_call 19
        refine HA6.out.mono ?_
        rintro e W7 ⟨u7, rfl, ho, hb⟩
        have E7 := Lib.hid (E6.out.trans (hb.mono E6.out.size))
        have S7 := S6.out.below hb
        have T7 := sl_nat ho
        obtain ⟨⟨sa, sn, sc⟩, rfl, -⟩ := own_slV ho
        have HIS := Lib.hid (ints_same _ _ _ W7 S7 T7)
        simp only [slV] at HIS ⊢
        clear ho hb HA6 E6 S6 S7 T7
        go_wp2_with fail
        go_at_call 18
        refine HIS.out.mono ?_
        rintro e W8 ⟨rfl, hb⟩
        have E8 := Lib.hid (E7.out.trans (hb.mono E7.out.size))
        have HC8 := Lib.hid (rf_changed (HL.out.below E8.out) HLN.out (i : Int) (k : Int))
        clear hb HIS E7
        go_wp2_with fail
        go_at_call 21
        refine HC8.out.mono ?_
        rintro e W9 ⟨u9, rfl, ho, hb⟩
        have E9 := Lib.hid (E8.out.trans (hb.mono E8.out.size))
        have T9 := Sl.of_owns ho
        obtain ⟨⟨ta, tn, tc⟩, rfl, -⟩ := own_slV ho
        have HA9 := Lib.hid (rf_all _ _ W9 T9 (HCB.out _ _) (by have := HCL.out (i : Int) (k : Int); omega))
        simp only [slV] at HA9 ⊢
        clear ho hb HC8 E8 T9
        go_wp2_with fail
        go_at_call 20
        refine HA9.out.mono ?_
        rintro e X6 ⟨cv, rfl, ho, hb6⟩
        have E10 := Lib.hid (E9.out.trans (hb6.mono E9.out.size))
        have HC0 : InO W9.heap.size X6 cv ((allB (cChg l (i : Int) (k : Int))).map fun k : Nat => (k : Int)) := by unfold InO; rw [List.length_map, ← natV_ints]; exact ho
        obtain ⟨⟨ca, cn, cc⟩, rfl⟩ := HC0.isSl
        have HCN : Hid (cn = ((allB (cChg l (i : Int) (k : Int))).map fun k : Nat => (k : Int)).length) := InO.len (a := ca) (c := cc) HC0
        obtain ⟨cl, hcl⟩ : ∃ cl, ((allB (cChg l (i : Int) (k : Int))).map fun k : Nat => (k : Int)) = cl := ⟨_, rfl⟩
        have HCLN : Hid (cl.length ≤ 8000) := by show _ ≤ _; rw [← hcl, List.length_map]; have := all_len (cChg l (i : Int) (k : Int)); have := HCL.out (i : Int) (k : Int); omega
        have HHD : Hid (∀ z ∈ cl, (cHold l (i : Int) z).isSome = true) := fun z hz => by
          rw [← hcl] at hz
          obtain ⟨t, ht, rfl⟩ := List.mem_map.1 hz
          exact held HGG.out HKL.out.2.2.1 ht
        rw [hcl] at HC0 HCN
        have HCV := Lib.hid HC0
        simp only [slV] at HCV ⊢
        clear ho hb6 HC0 hcl HA9 E9
        go_wp2_with fail
        go_loopw [10] (fun mv V => ∃ m : Nat, m ≤ cn ∧ mv = .int .i64 (m : Int) ∧ Hid (Below X6.heap.size X6 V)) (fun mv _ => cn - (intOf mv).toNat)
        case atStart => exact ⟨0, Nat.zero_le _, rfl, Below.refl _ _⟩
        case round =>
          obtain ⟨V, hVwr⟩ : ∃ V, V = wr := ⟨_, rfl⟩
          subst hVwr
          obtain ⟨m, hm, rfl, HV⟩ := hrel
          have EV := Lib.hid (E10.out.trans (HV.out.mono E10.out.size))
          by_cases hmc : m < cn
          · obtain ⟨z0, hz0⟩ : ∃ z0, cl[m]? = some z0 := ⟨_, List.getElem?_eq_getElem (by rw [← HCN.out]; exact hmc)⟩
            obtain ⟨g, rfl, hgs, u0⟩ := (HCV.out.below HV.out).at hz0
            have HHO := ch_holder (HL.out.below EV.out) HLN.out (i : Int) z0
            rw [HHD.out z0 (List.mem_of_getElem? hz0)] at HHO
            have HHO := Lib.hid HHO
            have g3 : (m : Int) < (cn : Int) := by omega
            have HWM : Hid (wrap64 ((m : Int) + 1) = (m : Int) + 1) := IntWalk.wrap64_in _ (by have := HCN.out; have := HCLN.out; omega)
            have HMC := Lib.hid hmc
            clear hz0 hgs hmc
            go_wp2_with fail
            go_at_call 15
            refine HHO.out.mono ?_
            rintro e V2 ⟨rfl, hb⟩
            have HV2 : Hid (Below X6.heap.size X6 V2) := HV.out.trans (hb.mono HV.out.size)
            clear hb HHO u0
            go_wp2_with fail
            exact ⟨⟨m + 1, HMC.out, by first | (simp; done) | (simp; exact HWM.out) | (rw [HWM.out]; simp), HV2⟩, by have := HMC.out; first | (simp [intOf]; omega) | (rw [HWM.out]; simp [intOf]; omega) | (simp [intOf, HWM.out]; omega)⟩
          · have g3 : ¬ ((m : Int) < (cn : Int)) := by omega
            have g3' : decide ((m : Int) < (cn : Int)) = false := decide_eq_false g3
            obtain ⟨s, hs⟩ : ∃ s, l[i]? = some s := ⟨_, List.getElem?_eq_getElem HKL.out.2.2.2⟩
            obtain ⟨rr, hrr⟩ := HL.out
            obtain ⟨b, off, q, rfl, hbb, -, hq, e0, e1, e2⟩ := hrr.at hs
            obtain ⟨qi, ⟨x, n, c⟩, ⟨y, tl, tc'⟩⟩ := q
            have HQT : Hid (∀ z : World, Below W0.heap.size W0 z → Prt z (.slice y tl tc') s.tb) := fun z hz => hq.tb.below hz
            have HQC : Hid (∀ z : World, Below W0.heap.size W0 z → z.cell? ⟨b, off + i * 3 + 2, none⟩ = some (.slice y tl tc')) := fun z hz => (hz.cell (p := ⟨b, off + i * 3 + 2, none⟩) hbb).trans e2
            have HTL : Hid (tl = s.tb.length) := by obtain ⟨a', ca', e, -⟩ := hq.tb; simp only [slV, Value.slice.injEq] at e; show _ = _; omega
            have htl : s.tb.length ≤ 80 := (HFS.out s (List.mem_of_getElem? hs)).2
            have HTB := Lib.hid htl
            have HGT : Hid (∀ p ∈ s.tb, (tFind s.tb p.1).isSome = true ∧ tAt s.tb p.1 = p.2) := fun p hp => good_table HGG.out hs hp
            have gil : (i : Int) < (len : Int) := by have h1 := HKL.out; have h2 := HLE.out; omega
            clear hs hrr hbb hq e0 e1 e2 hmc hm htl HV
            go_wp2_with fail
            go_loopw [13] (fun mv V2 => ∃ m2 : Nat, m2 ≤ tl ∧ mv = .int .i64 (m2 : Int) ∧ Hid (Below W0.heap.size W0 V2)) (fun mv _ => tl - (intOf mv).toNat)
            case atStart => exact ⟨0, Nat.zero_le _, rfl, EV⟩
            case round =>
              obtain ⟨V2, hVwr⟩ : ∃ V2, V2 = wr := ⟨_, rfl⟩
              subst hVwr
              obtain ⟨m2, hm2, rfl, EV2⟩ := hrel
              have cc2 := HQC.out _ EV2.out
              by_cases hmt : m2 < tl
              · obtain ⟨p, hp⟩ : ∃ p, s.tb[m2]? = some p := ⟨_, List.getElem?_eq_getElem (by rw [← HTL.out]; exact hmt)⟩
                obtain ⟨bb, boff, rfl, hbb, t0, t1⟩ := (HQT.out _ EV2.out).at hp
                obtain ⟨gt1, gt2⟩ := HGT.out p (List.mem_of_getElem? hp)
                have HFI := tb_find ((HQT.out _ EV2.out).below (Below.refl _ V2).drew) p.1 (by have := HTB.out; omega)
                rw [gt1, gt2] at HFI
                obtain ⟨pb, pa'⟩ := p
                simp only at t0 t1 HFI
                have HFI := Lib.hid HFI
                have g3 : (m2 : Int) < (tl : Int) := by omega
                have HWM : Hid (wrap64 ((m2 : Int) + 1) = (m2 : Int) + 1) := IntWalk.wrap64_in _ (by have := HTL.out; have := HTB.out; omega)
                have HMC := Lib.hid hmt
                have d2 : ∀ z : Ext V2, z.1.cell? ⟨b, off + i * 3 + 2, none⟩ = some (.slice (some ⟨bb, boff, none⟩) tl tc') := fun z => HQC.out _ (EV2.out.trans (z.2.mono EV2.out.size))
                have d3 : ∀ z : Ext V2, z.1.cell? ⟨bb, boff + m2 * 2, none⟩ = some (.int .i64 pb) := fun z => (z.2.cell (p := ⟨bb, boff + m2 * 2, none⟩) hbb).trans t0
                have HD4 : Hid (∀ z : World, Below V2.heap.size V2 z → z.cell? ⟨bb, boff + m2 * 2 + 1, none⟩ = some (.int .i64 pa')) := fun z hz => (hz.cell (p := ⟨bb, boff + m2 * 2 + 1, none⟩) hbb).trans t1
                clear hp hbb t0 t1 gt1 gt2 hmt
                go_wp2_with fail
                refine region_plan (fun x => ∃ y : Ext V2, x = y.1) 19 (.takes [0, 1, 2, 3, 4, 5, 6, 7, 8, 9, 10, 11, 12, 13] (.one 14 (.takes [15, 16, 17, 18] .leaf))) hmx (by kernel_rfl) (by intro c x v a w h; cases x <;> exact h) ⟨⟨V2.drew, (Below.refl _ V2).drew⟩, rfl⟩ ?_
                repeat (rw [wpPlan_takes_cons]; simp only [nth_zero, nth_succ]; go_big_quiet_step (fail); try (with_reducible refine wpQuiet_nil ?_))
                rw [wpPlan_takes_nil, wpPlan_one]
                simp only [nth_zero, nth_succ]
                go_wp2_with fail
                go_at_call 22
                refine HFI.out.mono ?_
                rintro e V3 ⟨rfl, hb⟩
                have E3 : Hid (Below V2.heap.size V2 V3) := (Below.refl _ V2).drew.trans hb
                have d2 := HQC.out _ (EV2.out.trans (E3.out.mono EV2.out.size))
                have d4 := HD4.out _ E3.out
                have EV3 := Lib.hid (EV2.out.trans (E3.out.mono EV2.out.size))
                clear hb HFI
                go_wp2_with fail
                refine planPost_mk ⟨⟨V3, E3.out⟩, rfl⟩ ?_
                repeat (rw [wpPlan_takes_cons]; simp only [nth_zero, nth_succ]; go_big_quiet_step (fail); try (with_reducible refine wpQuiet_nil ?_))
                rw [wpPlan_takes_nil, wpPlan_leaf]
                simp only [List.drop_succ_cons, List.drop_zero]
                go_wp2_with fail
                exact ⟨⟨m2 + 1, HMC.out, by first | (simp; done) | (simp; exact HWM.out) | (rw [HWM.out]; simp), EV3⟩, by have := HMC.out; first | (simp [intOf]; omega) | (rw [HWM.out]; simp [intOf]; omega) | (simp [intOf, HWM.out]; omega)⟩
              · have g3 : ¬ ((m2 : Int) < (tl : Int)) := by omega
                have g3' : decide ((m2 : Int) < (tl : Int)) = false := decide_eq_false g3
                clear hmt
                go_wp2_with fail
                refine (ch_wakes _).mono ?_
                rintro e Ww ⟨rfl, hbw⟩
                have HBE : Hid (Below B w Ww) := HB0.out.trans ((EV2.out.trans (hbw.mono EV2.out.size)).mono hBW.out)
                clear hbw
                go_wp2_with fail
                go_ret
                rw [HSB.out]
                exact ⟨by first | rfl | simp, HBE.out⟩

set_option maxRecDepth 100000 in
theorem lifted (os : Os) (started : os.Started) (H : Type) (enc : TypeId × Value → H) :
    ReturnsInHanded {} Try.checked os 4 .any (Rows.chainChangesSpec.pre6 enc Try.prog Try.f4 Rows.chainChangesRow.domain false) (Rows.chainChangesSpec.post enc Try.prog Try.f4 false true false false) := by
  refine returnsInHanded_of_change (C := Try.checked) own started (by kernel_rfl) Try.func4
    (ChangeSpec.witness6 (enc := enc) (C := Try.checked) false ⟨#[], #[.slice none 0 0, .agg #[.int .u8 0, .int .u8 0, .int .u8 0]], []⟩ 8 (by kernel_rfl) (by kernel_rfl) (by kernel_rfl) (by kernel_rfl)) ?_
  intro W base args ds gs before hval0 hW hcnd _
  have hval : ∀ (j : Nat) t v, Try.f4.params[j]? = some t → args[j]? = some v → Value.okWide Try.prog W .any base t v := hval0
  have hW' := hW
  obtain ⟨p, q, hA0, hV, rfl, hfz, hnd⟩ := hW
  have hA : DataW.TrodAll enc Try.prog W 0 (fun _ => true) true Try.f4.params.toList args.toList ds p := hA0
  rw [Try.params4] at hA hval
  obtain ⟨v0, vs0, d0, ds0, p0, q0, hargs, rfl, rfl, h0, r0⟩ := trodAll_cons hA
  obtain ⟨v1, vs1, d1, ds1, p1, q1, rfl, rfl, rfl, h1, r1⟩ := trodAll_cons r0
  obtain ⟨rfl, rfl, rfl⟩ := trodAll_nil r1
  obtain rfl : args = #[v0, v1] := by cases args; simp_all
  obtain ⟨rfl, rfl⟩ := trodVars_none hV
  have lt0 : ∀ x ∈ p0, x.block < W.heap.size := by obtain ⟨m, hm⟩ := h0; exact DataW.trod_lt m _ _ _ hm
  have a0 := Arg.mk (hval 0 22 v0 rfl rfl) h0
  have lt1 : ∀ x ∈ p1, x.block < W.heap.size := by obtain ⟨m, hm⟩ := h1; exact DataW.trod_lt m _ _ _ hm
  have a1 := Arg.mk (hval 1 23 v1 rfl rfl) h1
  clear hA0 hval0
  refine (walk v0 v1 W a0 a1).mono fun e W' ⟨he, bel⟩ => ?_
  subst he
  exact ⟨_, rfl, _, _, _, [], _, [], hW', trodAll_mk1 (shut_bool Try.underlying4 _), (trodAll_cons_mk (Below.trod laidOut (by kernel_rfl) (of_decide_eq_true (by kernel_rfl)) h0 bel lt0) (trodAll_cons_mk (Below.trod laidOut (by kernel_rfl) (of_decide_eq_true (by kernel_rfl)) h1 bel lt1) trodAll_mk0)), rfl, bel.frame _, fun h => by cases h⟩

set_option maxRecDepth 100000 in
theorem over : Rows.chainChangesRow.holds Try.pinned (OpenSpec.ofChange Rows.chainChangesSpec) :=
  OpenClaim.holds_of_wide 4 Try.f4 rfl rfl rfl rfl rfl rfl rfl ⟨rfl, rfl, rfl, rfl, rfl⟩ rfl rfl rfl rfl rfl (by kernel_rfl) Try.func4 (by kernel_rfl)
    (of_decide_eq_true (by kernel_rfl)) (by unfold Func.isWrapper; first | (rw [if_pos (by decide +kernel)]; kernel_rfl) | (rw [if_neg (by decide +kernel)]; exact ⟨rfl, rfl⟩))
    (fun os started H enc _ => lifted os started H enc)

theorem proved : Rows.ChainChangesSaid := over
#print axioms proved
end Go.Proofs.Ytiidfffedoekiaa.chainChanges
