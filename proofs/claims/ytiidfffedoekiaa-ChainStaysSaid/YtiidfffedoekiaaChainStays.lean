/- Of a chain that may be what is dropped, and what is cut, may be; who holds a block of another snapshot does so behind a drop. -/
import Derived.Test.YtiidfffedoekiaaChWa
import Derived.Test.YtiidfffedoekiaaChGd
import Derived.Test.YtiidfffedoekiaaChTp
import Derived.Test.YtiidfffedoekiaaChDq
import Derived.Test.YtiidfffedoekiaaArgSl
namespace Go.Proofs.Ytiidfffedoekiaa.chainStays
open Go.ChangeShapes Go.WideShapes Go.ChangeAt Go.RowKit
set_option linter.unusedVariables false
set_option linter.unusedSimpArgs false
attribute [-simp] Try.isAgg39 Try.zeroValue39 Try.isAgg42 Try.zeroValue42
attribute [-go_sem] loadVar storeVar
attribute [local go_sem] loadVar_openPS storeVar_openPS zero_sn zero_prs build_prs build_sn build_sn2

set_option maxRecDepth 100000 in
set_option maxHeartbeats 2000000 in
theorem walk (v0 v1 : Value) (w : World) (w0 : Arg w 22 v0) (w1 : Arg w 23 v1) :
    Calls Try.prog 3 #[v0, v1] w fun e w' => e = .returned (.bool true) ∧ Below w.heap.size w w' := by
  have hmx : Try.prog.follows .mixedOrders = true := by kernel_rfl
  obtain ⟨l, hl⟩ := w0.snp
  obtain ⟨n0, n1, n2, rfl, wn0, wn1, wn2⟩ := w1.three Try.underlying23 Try.underlying5 (by kernel_rfl) (by kernel_rfl)
  obtain ⟨ha0, ha1⟩ := bounds_u8 wn0
  obtain ⟨hb0, hb1⟩ := bounds_u8 wn1
  obtain ⟨hc0, hc1⟩ := bounds_u8 wn2
  obtain ⟨W0, hW0⟩ : ∃ W, w.alloc (.cells #[.int .u8 n0, .int .u8 n1, .int .u8 n2] 23) = W := ⟨_, rfl⟩
  have b0 := below_new w (.cells #[.int .u8 n0, .int .u8 n1, .int .u8 n2] 23)
  have r0 : RowC W0 w.heap.size 23 [.int .u8 n0, .int .u8 n1, .int .u8 n2] := by rw [← hW0]; exact RowC.new w _ _
  rw [hW0] at b0
  obtain ⟨B, hB⟩ : ∃ B, w.heap.size = B := ⟨_, rfl⟩
  have HL := Lib.hid (hl.below b0)
  rw [hB] at b0 r0
  have HB0 := Lib.hid b0
  have HRN := Lib.hid r0
  have HOKS := Lib.hid hl.ok
  have HF := Lib.hid (ch_fair HL.out)
  obtain ⟨r, la, lc, rfl, -⟩ := hl
  obtain ⟨len, hle⟩ : ∃ len, l.length = len := ⟨_, rfl⟩
  have HLE := Lib.hid hle
  have hBW : Hid (B ≤ W0.heap.size) := by have := HB0.out.size; rw [hB] at this; exact this
  have HSB := Lib.hid hB
  rw [hle] at HL HF ⊢
  clear b0 r0 wn0 wn1 wn2 w0 w1 hle
  cases hf : fairL l with
  | false =>
    rw [hf] at HF
    clear hf
    go_enter Try.func3, Try.ntmps3
    go_wp2_with fail
    try rw [hW0]
    go_at_call 9
    refine HF.out.mono ?_
    rintro e w' ⟨rfl, hw'⟩
    obtain rfl := hw'.symm
    clear hW0 HF
    go_wp2_with fail
    refine (ch_wakes _).mono ?_
    rintro e Ww ⟨rfl, hbw⟩
    have HBE : Hid (Below B w Ww) := HB0.out.trans ((hbw).mono hBW.out)
    clear hbw
    go_wp2_with fail
    go_ret
    rw [HSB.out]
    exact ⟨by first | rfl | simp, HBE.out⟩
  | true =>
    rw [hf] at HF
    obtain ⟨hlens, hl12, hfs⟩ := fair_lens hf
    rw [HLE.out] at hl12
    have HLN := Lib.hid hlens
    have HFS := Lib.hid hfs
    have HCL : Hid (∀ i j : Int, (cChg l i j).length ≤ 40) := fun i j => chB_len _ fun s hs => (hfs s (List.mem_of_mem_take (List.mem_of_mem_drop hs))).1
    have HCB : Hid (∀ i j : Int, IsBytes (cChg l i j)) := fun i j => chB_bytes _ fun s hs => (HOKS.out s (List.mem_of_mem_take (List.mem_of_mem_drop hs))).ch
    have HGD := Lib.hid (rf11_good HL.out HLN.out 10 200 (wf_i64 (by omega) (by omega)))
    clear hf hfs hlens
    cases hg : cGood l 10 200 with
    | false =>
      rw [hg] at HGD
      clear hg
      go_enter Try.func3, Try.ntmps3
      go_wp2_with fail
      try rw [hW0]
      go_at_call 9
      refine HF.out.mono ?_
      rintro e w' ⟨rfl, hw'⟩
      obtain rfl := hw'.symm
      clear hW0 HF
      go_wp2_with fail
      go_at_call 10
      refine HGD.out.mono ?_
      rintro e W1 ⟨rfl, hb1⟩
      have E1 := Lib.hid hb1
      clear hb1 HGD
      go_wp2_with fail
      refine (ch_wakes _).mono ?_
      rintro e Ww ⟨rfl, hbw⟩
      have HBE : Hid (Below B w Ww) := HB0.out.trans ((E1.out.trans (hbw.mono E1.out.size)).mono hBW.out)
      clear hbw
      go_wp2_with fail
      go_ret
      rw [HSB.out]
      exact ⟨by first | rfl | simp, HBE.out⟩
    | true =>
      rw [hg] at HGD
      have HGG := Lib.hid hg
      clear hg
      by_cases h0 : len = 0
      · subst h0
        go_enter Try.func3, Try.ntmps3
        go_wp2_with fail
        try rw [hW0]
        go_at_call 9
        refine HF.out.mono ?_
        rintro e w' ⟨rfl, hw'⟩
        obtain rfl := hw'.symm
        clear hW0 HF
        go_wp2_with fail
        go_at_call 10
        refine HGD.out.mono ?_
        rintro e W1 ⟨rfl, hb1⟩
        have E1 := Lib.hid hb1
        clear hb1 HGD
        go_wp2_with fail
        refine (ch_wakes _).mono ?_
        rintro e Ww ⟨rfl, hbw⟩
        have HBE : Hid (Below B w Ww) := HB0.out.trans ((E1.out.trans (hbw.mono E1.out.size)).mono hBW.out)
        clear hbw
        go_wp2_with fail
        go_ret
        rw [HSB.out]
        exact ⟨by first | rfl | simp, HBE.out⟩
      · obtain ⟨i, hi, HT, hil, g0, gn, gb⟩ := idx_first ha0 h0
        obtain ⟨k, hk, HTK, hkl, -, -, -⟩ := idx_first hb0 h0
        obtain ⟨b, hbm, HTB, hb10⟩ := idx_ten hc0
        have hil2 : i < l.length := by rw [HLE.out]; exact hil
        have hkl2 : k < l.length := by rw [HLE.out]; exact hkl
        have hdi := drop_is hil2
        have HGG2 := HGG.out
        have HDG : Hid (cGood (dropAt l i) 10 200 = true) := drop_good HGG2 hil2
        have HDL : Hid ((dropAt l i).length + 1 = len) := by show _ = _; rw [← HLE.out]; exact drop_len hil2
        obtain ⟨cg1, cg2⟩ := cut_good HGG2 hil2
        have HCG := Lib.hid cg1
        have HCGL := Lib.hid cg2
        have HDN : Hid (Lens 1000 (dropAt l i)) := by
          have := drop_lens (by rw [HLE.out]; exact hl12) HFS.out (i : Int)
          rw [hdi] at this
          exact this
        have HCN : Hid (Lens 1000 (cCut l (i : Int))) := cut_lens (by rw [HLE.out]; exact hl12) HFS.out (i : Int)
        have HDI := Lib.hid hdi
        have HKL : Hid (i < l.length ∧ k < l.length) := ⟨hil2, hkl2⟩
        have HSM : Hid (len ≤ 12 ∧ i < len ∧ k < len) := ⟨hl12, hil, hkl⟩
        obtain ⟨dl, hdl⟩ : ∃ dl, (dropAt l i).length = dl := ⟨_, rfl⟩
        have HDLE := Lib.hid hdl
        have hdlen : dl + 1 = len := by rw [← hdl]; exact HDL.out
        clear hil2 hkl2 hdi HGG2 cg1 cg2 hdl h0
        go_enter Try.func3, Try.ntmps3
        go_wp2_with fail
        try rw [hW0]
        go_at_call 9
        refine HF.out.mono ?_
        rintro e w' ⟨rfl, hw'⟩
        obtain rfl := hw'.symm
        clear hW0 HF
        go_wp2_with fail
        go_at_call 10
        refine HGD.out.mono ?_
        rintro e W1 ⟨rfl, hb1⟩
        have E1 := Lib.hid hb1
        have c0 := (HRN.out.below E1.out).cell 0 _ rfl
        have HD1 := Lib.hid (ch_drop (HL.out.below E1.out) HLN.out (i : Int))
        clear hb1 HGD
        go_wp2_with fail
        go_at_call 12
        refine HD1.out.mono ?_
        rintro e W2 ⟨vd, rfl, ho, hb⟩
        rw [HDI.out] at ho
        have E2 := Lib.hid (E1.out.trans (hb.mono E1.out.size))
        have D2 := Lib.hid ho.snp
        obtain ⟨⟨da, dn, dc⟩, rfl, -⟩ := ho.isSl
        have hdn : dn = dl := by have := D2.out; obtain ⟨r', a', cap', e, -⟩ := this; simp only [slV, Value.slice.injEq] at e; rw [← HDLE.out]; exact e.2.1
        have HC2 := Lib.hid (ch_cut (HL.out.below E2.out) HLN.out (i : Int))
        simp only [slV, hdn] at D2 ⊢
        clear ho hb c0 HD1 E1 hdn
        go_wp2_with fail
        go_at_call 13
        refine HC2.out.mono ?_
        rintro e W3 ⟨vc, rfl, ho, hb⟩
        have E3 := Lib.hid (E2.out.trans (hb.mono E2.out.size))
        have D3 := Lib.hid (D2.out.below hb)
        have C3 := Lib.hid ho.snp
        obtain ⟨⟨ca, cn, cc⟩, rfl, -⟩ := ho.isSl
        have hcn : cn = i + 1 := by have := C3.out; obtain ⟨r', a', cap', e, -⟩ := this; simp only [slV, Value.slice.injEq] at e; rw [← HCGL.out]; exact e.2.1
        have HG3 := ch_good D3.out HDN.out 10 200
        rw [HDG.out] at HG3
        have HG3 := Lib.hid HG3
        simp only [slV, hcn] at C3 ⊢
        clear ho hb HC2 E2 D2 hcn
        go_wp2_with fail
        go_at_call 14
        refine HG3.out.mono ?_
        rintro e W4 ⟨rfl, hb⟩
        have E4 := Lib.hid (E3.out.trans (hb.mono E3.out.size))
        have D4 := Lib.hid (D3.out.below hb)
        have HG4 := ch_good (C3.out.below hb) HCN.out 10 200
        rw [HCG.out] at HG4
        have HG4 := Lib.hid HG4
        clear hb HG3 E3 D3 C3
        go_wp2_with fail
        go_at_call 14
        refine HG4.out.mono ?_
        rintro e W5 ⟨rfl, hb⟩
        have E5 := Lib.hid (E4.out.trans (hb.mono E4.out.size))
        have D5 := Lib.hid (D4.out.below hb)
        have HW1 : Hid (wrap64 ((len : Int) - 1) = (dl : Int)) := by
          show _ = _
          rw [show (len : Int) - 1 = (dl : Int) by omega]
          exact IntWalk.wrap64_in _ (by omega)
        have gl1 : (len : Int) - 1 = (dl : Int) := by omega
        have gl2 := HW1.out
        have q1 : ((dl : Int) == (dl : Int)) = true := by simp
        have HW2 : Hid (wrap64 ((i : Int) + 1) = (i : Int) + 1) := IntWalk.wrap64_in _ (by omega)
        have gi2 := HW2.out
        have q2 : (((i : Int) + 1) == ((i : Int) + 1)) = true := by simp
        have c1 : ∀ z : Ext W5, z.1.cell? ⟨B, 1, none⟩ = some (.int .u8 n1) := fun z => (HRN.out.below (E5.out.trans (z.2.mono E5.out.size))).cell 1 _ rfl
        have c2 : ∀ z : Ext W5, z.1.cell? ⟨B, 2, none⟩ = some (.int .u8 n2) := fun z => (HRN.out.below (E5.out.trans (z.2.mono E5.out.size))).cell 2 _ rfl
        clear hb HG4 E4 D4
        go_wp2_with fail
        refine region_ext (by kernel_rfl) (by kernel_rfl) ?_
        repeat (go_big_quiet_step (fail))
        try (with_reducible refine wpQuiet_nil ?_)
        intro z
        obtain ⟨W6, hzx⟩ : ∃ x, z.1 = x := ⟨_, rfl⟩
        have hbx : Below W5.heap.size W5 W6 := by rw [← hzx]; exact z.2
        rw [hzx]
        clear hzx c1 c2
        have E6 := Lib.hid (E5.out.trans (hbx.mono E5.out.size))
        have D6 := Lib.hid (D5.out.below hbx)
        clear hbx E5 D5 z gl1 gl2 gi2 q1 q2 HW1 HW2
        by_cases hki : k = i
        · subst hki
          have q3 : ((k : Int) == (k : Int)) = true := by simp
          go_wp2_with fail
          refine (ch_wakes _).mono ?_
          rintro e Ww ⟨rfl, hbw⟩
          have HBE : Hid (Below B w Ww) := HB0.out.trans ((E6.out.trans (hbw.mono E6.out.size)).mono hBW.out)
          clear hbw
          go_wp2_with fail
          go_ret
          rw [HSB.out]
          exact ⟨by first | rfl | simp, HBE.out⟩
        · have q3 : ((k : Int) == (i : Int)) = false := by simp; omega
          have HH1 := ch_holder (HL.out.below E6.out) HLN.out (k : Int) (b : Int)
          obtain ⟨x0, hx0⟩ : ∃ x0, hAt (cHold l (k : Int) (b : Int)) = x0 := ⟨_, rfl⟩
          obtain ⟨tb, htb⟩ : ∃ tb, (cHold l (k : Int) (b : Int)).isSome = tb := ⟨_, rfl⟩
          rw [hx0, htb] at HH1
          have HH1 := Lib.hid HH1
          have HX0 := Lib.hid hx0
          have HT0 := Lib.hid htb
          have q4 : (x0 == x0) = true := by simp
          have q5 : (tb == tb) = true := by simp
          have q6 : decide (tb = tb) = true := by simp
          clear hx0 htb
          go_wp2_with fail
          go_at_call 15
          refine HH1.out.mono ?_
          rintro e W7 ⟨rfl, hb⟩
          have E7 := Lib.hid (E6.out.trans (hb.mono E6.out.size))
          have D7 := Lib.hid (D6.out.below hb)
          clear hb HH1 E6 D6
          by_cases hik : i < k
          · have g7 : (k : Int) > (i : Int) := by omega
            have g7d : decide ((k : Int) > (i : Int)) = true := by simp; omega
            have HWK : Hid (wrap64 ((k : Int) - 1) = ((k - 1 : Nat) : Int)) := by
              show _ = _
              rw [show (k : Int) - 1 = ((k - 1 : Nat) : Int) by omega]
              exact IntWalk.wrap64_in _ (by omega)
            obtain ⟨k', hk'⟩ : ∃ k', k - 1 = k' := ⟨_, rfl⟩
            have gk1 : (k : Int) - 1 = (k' : Int) := by omega
            have gk2 : wrap64 ((k : Int) - 1) = (k' : Int) := by rw [← hk']; exact HWK.out
            have HKA := Lib.hid (hold_after HKL.out.2 hik (b : Int))
            rw [hk'] at HKA
            clear hk' HWK
            have HH2 := Lib.hid (ch_holder D7.out HDN.out ((k' : Nat) : Int) (b : Int))
            rw [HKA.out, HX0.out, HT0.out] at HH2
            clear hki
            go_wp2_with fail
            go_at_call 15
            refine HH2.out.mono ?_
            rintro e W8 ⟨rfl, hb⟩
            have E8 := Lib.hid (E7.out.trans (hb.mono E7.out.size))
            clear hb HH2
            go_wp2_with fail
            refine (ch_wakes _).mono ?_
            rintro e Ww ⟨rfl, hbw⟩
            have HBE : Hid (Below B w Ww) := HB0.out.trans ((E8.out.trans (hbw.mono E8.out.size)).mono hBW.out)
            clear hbw
            go_wp2_with fail
            go_ret
            rw [HSB.out]
            exact ⟨by first | rfl | simp, HBE.out⟩
          · have g7 : ¬ (k : Int) > (i : Int) := by omega
            have g7d : decide ((k : Int) > (i : Int)) = false := by simp; omega
            have HKA := Lib.hid (hold_before HGG.out HKL.out.1 (show k < i by omega) (b : Int))
            have HH2 := Lib.hid (ch_holder D7.out HDN.out ((k : Nat) : Int) (b : Int))
            rw [HKA.out, HX0.out, HT0.out] at HH2
            clear hki
            go_wp2_with fail
            go_at_call 15
            refine HH2.out.mono ?_
            rintro e W8 ⟨rfl, hb⟩
            have E8 := Lib.hid (E7.out.trans (hb.mono E7.out.size))
            clear hb HH2
            go_wp2_with fail
            refine (ch_wakes _).mono ?_
            rintro e Ww ⟨rfl, hbw⟩
            have HBE : Hid (Below B w Ww) := HB0.out.trans ((E8.out.trans (hbw.mono E8.out.size)).mono hBW.out)
            clear hbw
            go_wp2_with fail
            go_ret
            rw [HSB.out]
            exact ⟨by first | rfl | simp, HBE.out⟩

set_option maxRecDepth 100000 in
theorem lifted (os : Os) (started : os.Started) (H : Type) (enc : TypeId × Value → H) :
    ReturnsInHanded {} Try.checked os 3 .any (Rows.chainStaysSpec.pre6 enc Try.prog Try.f3 Rows.chainStaysRow.domain false) (Rows.chainStaysSpec.post enc Try.prog Try.f3 false true false false) := by
  refine returnsInHanded_of_change (C := Try.checked) own started (by kernel_rfl) Try.func3
    (ChangeSpec.witness6 (enc := enc) (C := Try.checked) false ⟨#[], #[.slice none 0 0, .agg #[.int .u8 0, .int .u8 0, .int .u8 0]], []⟩ 8 (by kernel_rfl) (by kernel_rfl) (by kernel_rfl) (by kernel_rfl)) ?_
  intro W base args ds gs before hval0 hW hcnd _
  have hval : ∀ (j : Nat) t v, Try.f3.params[j]? = some t → args[j]? = some v → Value.okWide Try.prog W .any base t v := hval0
  have hW' := hW
  obtain ⟨p, q, hA0, hV, rfl, hfz, hnd⟩ := hW
  have hA : DataW.TrodAll enc Try.prog W 0 (fun _ => true) true Try.f3.params.toList args.toList ds p := hA0
  rw [Try.params3] at hA hval
  obtain ⟨v0, vs0, d0, ds0, p0, q0, hargs, rfl, rfl, h0, r0⟩ := trodAll_cons hA
  obtain ⟨v1, vs1, d1, ds1, p1, q1, rfl, rfl, rfl, h1, r1⟩ := trodAll_cons r0
  obtain ⟨rfl, rfl, rfl⟩ := trodAll_nil r1
  obtain rfl : args = #[v0, v1] := by cases args; simp_all
  obtain ⟨rfl, rfl⟩ := trodVars_none hV
  have lt0 : ∀ x ∈ p0, x.block < W.heap.size := by obtain ⟨m, hm⟩ := h0; exact DataW.trod_lt m _ _ _ hm
  have a0 := Arg.mk (hval 0 22 v0 rfl rfl) h0
  have lt1 : ∀ x ∈ p1, x.block < W.heap.size := by obtain ⟨m, hm⟩ := h1; exact DataW.trod_lt m _ _ _ hm
  have a1 := Arg.mk (hval 1 23 v1 rfl rfl) h1
  clear hA0 hval0
  refine (walk v0 v1 W a0 a1).mono fun e W' ⟨he, bel⟩ => ?_
  subst he
  exact ⟨_, rfl, _, _, _, [], _, [], hW', trodAll_mk1 (shut_bool Try.underlying4 _), (trodAll_cons_mk (Below.trod laidOut (by kernel_rfl) (of_decide_eq_true (by kernel_rfl)) h0 bel lt0) (trodAll_cons_mk (Below.trod laidOut (by kernel_rfl) (of_decide_eq_true (by kernel_rfl)) h1 bel lt1) trodAll_mk0)), rfl, bel.frame _, fun h => by cases h⟩

set_option maxRecDepth 100000 in
theorem over : Rows.chainStaysRow.holds Try.pinned (OpenSpec.ofChange Rows.chainStaysSpec) :=
  OpenClaim.holds_of_wide 3 Try.f3 rfl rfl rfl rfl rfl rfl rfl ⟨rfl, rfl, rfl, rfl, rfl⟩ rfl rfl rfl rfl rfl (by kernel_rfl) Try.func3 (by kernel_rfl)
    (of_decide_eq_true (by kernel_rfl)) (by unfold Func.isWrapper; first | (rw [if_pos (by decide +kernel)]; kernel_rfl) | (rw [if_neg (by decide +kernel)]; exact ⟨rfl, rfl⟩))
    (fun os started H enc _ => lifted os started H enc)

theorem proved : Rows.ChainStaysSaid := over
#print axioms proved
end Go.Proofs.Ytiidfffedoekiaa.chainStays
