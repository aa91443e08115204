/- Who holds a block of a snapshot is the first from it on whose table has it. -/
import Derived.Test.YtmhpjglmnfllfaaChWa
import Derived.Test.YtmhpjglmnfllfaaArgSl
namespace Go.Proofs.Ytmhpjglmnfllfaa.chainHolds
open Go.ChangeShapes Go.WideShapes Go.ChangeAt Go.RowKit
set_option linter.unusedVariables false
set_option linter.unusedSimpArgs false
attribute [-simp] Try.isAgg49 Try.zeroValue49 Try.isAgg52 Try.zeroValue52
attribute [-go_sem] loadVar storeVar
attribute [local go_sem] loadVar_openPS storeVar_openPS zero_sn zero_prs build_prs build_sn build_sn2

set_option maxRecDepth 100000 in
set_option maxHeartbeats 4000000 in
theorem walk (v0 v1 : Value) (w : World) (w0 : Arg w 22 v0) (w1 : Arg w 54 v1) :
    Calls Try.prog 8 #[v0, v1] w fun e w' => e = .returned (.bool true) ∧ Below w.heap.size w w' := by
  have hmx : Try.prog.follows .mixedOrders = true := by kernel_rfl
  obtain ⟨l, hl⟩ := w0.snp
  obtain ⟨n0, n1, rfl, wn0, wn1⟩ := w1.two Try.underlying54 Try.underlying5 (by kernel_rfl) (by kernel_rfl)
  obtain ⟨ha0, ha1⟩ := bounds_u8 wn0
  obtain ⟨hb0, hb1⟩ := bounds_u8 wn1
  obtain ⟨W0, hW0⟩ : ∃ W, w.alloc (.cells #[.int .u8 n0, .int .u8 n1] 54) = W := ⟨_, rfl⟩
  have b0 := below_new w (.cells #[.int .u8 n0, .int .u8 n1] 54)
  have r0 : RowC W0 w.heap.size 54 [.int .u8 n0, .int .u8 n1] := by rw [← hW0]; exact RowC.new w _ _
  rw [hW0] at b0
  have HB0 := Lib.hid b0
  have HRN := Lib.hid r0
  have HL := Lib.hid (hl.below b0)
  obtain ⟨B, hB⟩ : ∃ B, w.heap.size = B := ⟨_, rfl⟩
  rw [hB] at HB0 HRN
  obtain ⟨r, a, cap, rfl, hlc, hcm, -⟩ := hl
  obtain ⟨len, hle⟩ : ∃ len, l.length = len := ⟨_, rfl⟩
  have HLE := Lib.hid hle
  rw [hle] at HL hlc ⊢
  have HF := Lib.hid (ch_fair HL.out)
  have hBW : Hid (B ≤ W0.heap.size) := by have := HB0.out.size; rw [hB] at this; exact this
  have HSB := Lib.hid hB
  clear b0 r0 wn0 wn1 w0 w1 hlc hle
  cases hf : fairL l with
  | false =>
    rw [hf] at HF
    clear hf
    go_enter Try.func8, Try.ntmps8
    go_wp2_with fail
    try rw [hW0]
    go_at_call 9
    refine HF.out.mono ?_
    rintro e w' ⟨rfl, hw'⟩
    obtain rfl := hw'.symm
    clear hW0 HF
    go_wp2_with fail
    refine (ch_wakes _).mono ?_
    rintro e W1 ⟨rfl, hbw⟩
    have HBE : Hid (Below B w W1) := HB0.out.trans (hbw.mono hBW.out)
    clear hbw
    go_wp2_with fail
    go_ret
    rw [HSB.out]
    exact ⟨rfl, HBE.out⟩
  | true =>
    rw [hf] at HF
    obtain ⟨hlens, hl12, hfs⟩ := fair_lens hf
    rw [HLE.out] at hl12
    have HFS := Lib.hid hfs
    have HLN := Lib.hid hlens
    clear hf hfs hlens
    by_cases h0 : len = 0
    · subst h0
      go_enter Try.func8, Try.ntmps8
      go_wp2_with fail
      try rw [hW0]
      go_at_call 9
      refine HF.out.mono ?_
      rintro e w' ⟨rfl, hw'⟩
      obtain rfl := hw'.symm
      clear hW0 HF
      go_wp2_with fail
      refine (ch_wakes _).mono ?_
      rintro e W1 ⟨rfl, hbw⟩
      have HBE : Hid (Below B w W1) := HB0.out.trans (hbw.mono hBW.out)
      clear hbw
      go_wp2_with fail
      go_ret
      rw [HSB.out]
      exact ⟨rfl, HBE.out⟩
    · have g0 : (0 : Int) < (len : Int) := by omega
      have gn : ¬ ((len : Int) = 0) := by omega
      have gb : ((len : Int) == 0) = false := by simp; omega
      obtain ⟨i, hi⟩ : ∃ i : Nat, n0 % (len : Int) = (i : Int) := ⟨(n0 % (len : Int)).toNat, by have := Int.emod_nonneg n0 gn; omega⟩
      have hil : i < len := by have := Int.emod_lt_of_pos n0 g0; omega
      have HI : Hid (n0 % (len : Int) = (i : Int)) := hi
      have HT : Hid (n0.tmod (len : Int) = (i : Int)) := by show _ = _; rw [Int.tmod_eq_emod_of_nonneg ha0]; exact hi
      obtain ⟨bb, hbb⟩ : ∃ bb : Int, n1 % 12 = bb := ⟨_, rfl⟩
      have HT2 : Hid (n1.tmod 12 = bb) := by show _ = _; rw [Int.tmod_eq_emod_of_nonneg hb0]; exact hbb
      have HI2 := Lib.hid hbb
      have C0 : ∀ z : Ext W0, z.1.cell? ⟨B, 0, none⟩ = some (.int .u8 n0) := fun z => (HRN.out.below z.2).cell 0 _ rfl
      have C1 : ∀ z : Ext W0, z.1.cell? ⟨B, 1, none⟩ = some (.int .u8 n1) := fun z => (HRN.out.below z.2).cell 1 _ rfl
      have HHO := Lib.hid (ch_holder (w := W0.drew) (HL.out.below (Below.refl _ W0).drew) HLN.out (i : Int) bb)
      obtain ⟨at', hat⟩ : ∃ x, hAt (cHold l (i : Int) bb) = x := ⟨_, rfl⟩
      obtain ⟨ok, hok⟩ : ∃ x, (cHold l (i : Int) bb).isSome = x := ⟨_, rfl⟩
      rw [hat, hok] at HHO
      have HAT := Lib.hid hat
      have HOK := Lib.hid hok
      have hs0 : cHold l (i : Int) bb = firstT (l.drop i) bb := by unfold cHold; rw [if_neg (by omega), Int.toNat_natCast]
      have HS0 := Lib.hid hs0
      clear hi hbb hat hok hs0
      go_enter Try.func8, Try.ntmps8
      go_wp2_with fail
      try rw [hW0]
      go_at_call 9
      refine HF.out.mono ?_
      rintro e w' ⟨rfl, hw'⟩
      obtain rfl := hw'.symm
      clear hW0 HF
      go_wp2_with fail
      refine region_plan (fun x => ∃ y : Ext W0, x = y.1) 11 (.takes [0, 1, 2, 3, 4, 5, 6, 7, 8, 9, 10] .leaf) hmx (by kernel_rfl) (by intro c x v a w h; cases x <;> exact h) ⟨⟨W0.drew, (Below.refl _ W0).drew⟩, rfl⟩ ?_
      repeat (rw [wpPlan_takes_cons]; simp only [nth_zero, nth_succ]; go_big_quiet_step (fail); try (with_reducible refine wpQuiet_nil ?_))
      rw [wpPlan_takes_nil, wpPlan_leaf]
      simp only [List.drop_succ_cons, List.drop_zero]
      clear C0 C1
      try rw [HI.out]
      try rw [HT.out]
      try rw [HI2.out]
      try rw [HT2.out]
      go_wp2_with fail
      try go_at_call 12
      refine HHO.out.mono ?_
      rintro e W1 ⟨rfl, hb1⟩
      have B1 : Hid (Below B w W1) := (HB0.out.trans (((Below.refl _ W0).drew).mono hBW.out)).trans (hb1.mono (by have := hBW.out; simp; exact this))
      have L1 := Lib.hid (HL.out.below ((Below.refl _ W0).drew.trans hb1))
      have S1 : Hid (B ≤ W1.heap.size) := by have := hBW.out; have := hb1.size; simp at this; show _ ≤ _; omega
      clear hb1 HHO HL HRN HB0
      go_wp2_with fail
      go_loopw [9] (fun iv wr => ∃ k : Nat, k ≤ len ∧ iv = .int .i64 (k : Int) ∧ Hid (cHold l (i : Int) bb = firstT (l.drop k) bb) ∧ Hid (Below W1.heap.size W1 wr)) (fun iv _ => len - (intOf iv).toNat)
      case atStart => exact ⟨i, Nat.le_of_lt hil, rfl, HS0, Below.refl _ _⟩
      case round =>
        obtain ⟨k, hk, rfl, HR, HB⟩ := hrel
        by_cases hlt : k < len
        · obtain ⟨s, hs⟩ : ∃ s, l[k]? = some s := ⟨_, List.getElem?_eq_getElem (by rw [HLE.out]; exact hlt)⟩
          have hst := firstT_at (b := bb) hs
          rw [← HR.out] at hst
          obtain ⟨r2, hr2⟩ := L1.out.below HB.out
          obtain ⟨b, off, q, rfl, hbl, -, hq, d0, d1, d2⟩ := hr2.at hs
          obtain ⟨qi, ⟨x, n, c⟩, ⟨y, m, d⟩⟩ := q
          simp only [slV] at d0 d1 d2
          have hts := hq.tb
          simp only [slV] at hts
          have htl : s.tb.length ≤ 1000000 := by have := HFS.out s (List.mem_of_getElem? hs); omega
          have HFI := Lib.hid (tb_find hts bb htl)
          have g1 : (k : Int) < (len : Int) := by omega
          have HW : Hid (wrap64 ((k : Int) + 1) = (k : Int) + 1) := IntWalk.wrap64_in _ (by omega)
          have HLT := Lib.hid hlt
          obtain ⟨T, hT⟩ : ∃ T, s.tb = T := ⟨_, rfl⟩
          rw [hT] at HFI hst
          cases hc : (tFind T bb).isSome with
          | true =>
            rw [hc] at HFI hst
            rw [if_pos rfl] at hst
            have HA1 : Hid (at' = tAt T bb) := by show _ = _; rw [← HAT.out, hst]; rfl
            have HO1 : Hid (ok = true) := by show _ = _; rw [← HOK.out, hst]; rfl
            obtain ⟨ta, hta⟩ : ∃ ta, tAt T bb = ta := ⟨_, rfl⟩
            rw [hta] at HFI HA1
            clear hs hst hr2 hbl hq d0 d1 hts htl hT hc hta HR hlt
            go_wp2_with fail
            refine HFI.out.mono ?_
            rintro e W2 ⟨rfl, hb2⟩
            have B2 : Hid (Below B w W2) := B1.out.trans ((HB.out.trans (hb2.mono HB.out.size)).mono S1.out)
            have hS2 : Hid (B ≤ W2.heap.size) := by have := S1.out; have := HB.out.size; have := hb2.size; show _ ≤ _; omega
            clear hb2 HFI d2
            have hO1 := HO1.out
            have hA1 := HA1.out
            subst hO1 hA1
            go_wp2_with fail
            refine (ch_wakes _).mono ?_
            rintro e W3 ⟨rfl, hbw⟩
            have HBE : Hid (Below B w W3) := B2.out.trans (hbw.mono hS2.out)
            clear hbw
            go_wp2_with fail
            refine bodyPost_ret (results_tmp rfl _ _ _) rfl ?_
            rw [HSB.out]
            exact ⟨by first | rfl | simp, HBE.out⟩
          | false =>
            rw [hc] at HFI hst
            rw [if_neg (by decide)] at hst
            have HST := Lib.hid hst
            clear hs hst hr2 hbl hq d0 d1 hts htl hT hc HR hlt
            go_wp2_with fail
            refine HFI.out.mono ?_
            rintro e W2 ⟨rfl, hb2⟩
            have B2 : Hid (Below W1.heap.size W1 W2) := HB.out.trans (hb2.mono HB.out.size)
            clear hb2 HFI d2
            go_wp2_with fail
            exact ⟨⟨k + 1, HLT.out, by first | simp | (rw [HW.out]; simp), HST, B2⟩, by have := HLT.out; first | (simp [intOf]; omega) | (rw [HW.out]; simp [intOf]; omega)⟩
        · obtain rfl : k = len := by omega
          have hst := HR.out
          rw [firstT_end (by rw [HLE.out]; exact Nat.le_refl _)] at hst
          have HA1 : at' = 0 := by rw [← HAT.out, hst]; rfl
          have HO1 : ok = false := by rw [← HOK.out, hst]; rfl
          have B2 : Hid (Below B w wr) := B1.out.trans (HB.out.mono S1.out)
          have hS2 : Hid (B ≤ wr.heap.size) := by have := S1.out; have := HB.out.size; show _ ≤ _; omega
          subst HA1 HO1
          clear hst HR HB
          go_wp2_with fail
          refine (ch_wakes _).mono ?_
          rintro e W3 ⟨rfl, hbw⟩
          have HBE : Hid (Below B w W3) := B2.out.trans (hbw.mono hS2.out)
          clear hbw
          go_wp2_with fail
          refine bodyPost_ret (results_tmp rfl _ _ _) rfl ?_
          rw [HSB.out]
          exact ⟨by first | rfl | simp, HBE.out⟩

set_option maxRecDepth 100000 in
theorem lifted (os : Os) (started : os.Started) (H : Type) (enc : TypeId × Value → H) :
    ReturnsInHanded {} Try.checked os 8 .any (Rows.chainHoldsSpec.pre6 enc Try.prog Try.f8 Rows.chainHoldsRow.domain false) (Rows.chainHoldsSpec.post enc Try.prog Try.f8 false true false false) := by
  refine returnsInHanded_of_change (C := Try.checked) own started (by kernel_rfl) Try.func8
    (ChangeSpec.witness6 (enc := enc) (C := Try.checked) false ⟨#[], #[.slice none 0 0, .agg #[.int .u8 0, .int .u8 0]], []⟩ 8 (by kernel_rfl) (by kernel_rfl) (by kernel_rfl) (by kernel_rfl)) ?_
  intro W base args ds gs before hval0 hW hcnd _
  have hval : ∀ (j : Nat) t v, Try.f8.params[j]? = some t → args[j]? = some v → Value.okWide Try.prog W .any base t v := hval0
  have hW' := hW
  obtain ⟨p, q, hA0, hV, rfl, hfz, hnd⟩ := hW
  have hA : DataW.TrodAll enc Try.prog W 0 (fun _ => true) true Try.f8.params.toList args.toList ds p := hA0
  rw [Try.params8] at hA hval
  obtain ⟨v0, vs0, d0, ds0, p0, q0, hargs, rfl, rfl, h0, r0⟩ := trodAll_cons hA
  obtain ⟨v1, vs1, d1, ds1, p1, q1, rfl, rfl, rfl, h1, r1⟩ := trodAll_cons r0
  obtain ⟨rfl, rfl, rfl⟩ := trodAll_nil r1
  obtain rfl : args = #[v0, v1] := by cases args; simp_all
  obtain ⟨rfl, rfl⟩ := trodVars_none hV
  have lt0 : ∀ x ∈ p0, x.block < W.heap.size := by obtain ⟨m, hm⟩ := h0; exact DataW.trod_lt m _ _ _ hm
  have a0 := Arg.mk (hval 0 22 v0 rfl rfl) h0
  have lt1 : ∀ x ∈ p1, x.block < W.heap.size := by obtain ⟨m, hm⟩ := h1; exact DataW.trod_lt m _ _ _ hm
  have a1 := Arg.mk (hval 1 54 v1 rfl rfl) h1
  clear hA0 hval0
  refine (walk v0 v1 W a0 a1).mono fun e W' ⟨he, bel⟩ => ?_
  subst he
  exact ⟨_, rfl, _, _, _, [], _, [], hW', trodAll_mk1 (shut_bool Try.underlying4 _), (trodAll_cons_mk (Below.trod laidOut (by kernel_rfl) (of_decide_eq_true (by kernel_rfl)) h0 bel lt0) (trodAll_cons_mk (Below.trod laidOut (by kernel_rfl) (of_decide_eq_true (by kernel_rfl)) h1 bel lt1) trodAll_mk0)), rfl, bel.frame _, fun h => by cases h⟩

set_option maxRecDepth 100000 in
theorem over : Rows.chainHoldsRow.holds Try.pinned (OpenSpec.ofChange Rows.chainHoldsSpec) :=
  OpenClaim.holds_of_wide 8 Try.f8 rfl rfl rfl rfl rfl rfl rfl ⟨rfl, rfl, rfl, rfl, rfl⟩ rfl rfl rfl rfl rfl (by kernel_rfl) Try.func8 (by kernel_rfl)
    (of_decide_eq_true (by kernel_rfl)) (by unfold Func.isWrapper; first | (rw [if_pos (by decide +kernel)]; kernel_rfl) | (rw [if_neg (by decide +kernel)]; exact ⟨rfl, rfl⟩))
    (fun os started H enc _ => lifted os started H enc)

theorem proved : Rows.ChainHoldsSaid := over
#print axioms proved
end Go.Proofs.Ytmhpjglmnfllfaa.chainHolds
