/- Each pair is found; put one by one, in whatever order, they are the same table. -/
import Derived.Test.YtlnkfphkgjcdiaaTbTl
import Derived.Test.YtlnkfphkgjcdiaaTbPure
import Derived.Test.YtlnkfphkgjcdiaaArgSl
namespace Go.Proofs.Ytlnkfphkgjcdiaa.tableFinds
open Go.ChangeShapes Go.WideShapes Go.ChangeAt Go.RowKit
set_option linter.unusedVariables false
set_option linter.unusedSimpArgs false
attribute [-simp] Try.isAgg29 Try.zeroValue29 Try.isAgg34 Try.zeroValue34
attribute [-go_sem] loadVar storeVar
attribute [local go_sem] loadVar_openB storeVar_openB zero_prs build_prs0 build_prs zero_both build_both

set_option maxRecDepth 100000 in
set_option maxHeartbeats 20000000 in
theorem walk (v0 v1 : Value) (w : World) (w0 : Arg w 22 v0) (w1 : Arg w 5 v1) :
    Calls Try.prog 6 #[v0, v1] w fun e w' => e = .returned (.bool true) ∧ Below w.heap.size w w' := by
  have hmx : Try.prog.follows .mixedOrders = true := by kernel_rfl
  obtain ⟨l, hl⟩ := w0.prt
  obtain ⟨s, rfl, ws⟩ := w1.int Try.underlying5
  obtain ⟨hs0, hs1⟩ := bounds_u8 ws
  have HL := Lib.hid hl
  obtain ⟨pl, cl, rfl, -⟩ := hl
  clear ws w0 w1
  by_cases hll : 40 < l.length
  · have qa : (40 : Int) < (l.length : Int) := by omega
    go_enter Try.func6, Try.ntmps6
    go_wp2_with fail
    refine (tb_wakes _).mono ?_
    rintro e W1 ⟨rfl, hbw⟩
    have HBE := Lib.hid hbw
    clear hbw
    go_wp2_with fail
    go_ret
    exact ⟨rfl, HBE.out⟩
  have qa : ¬ (40 : Int) < (l.length : Int) := by omega
  have HG := Lib.hid (rf_good HL.out 64 200 (by omega))
  cases hg : tGood l 64 200 with
  | false =>
    rw [hg] at HG
    clear hg
    go_enter Try.func6, Try.ntmps6
    go_wp2_with fail
    go_at_call 13
    refine HG.out.mono ?_
    rintro e W1 ⟨rfl, hx1⟩
    have HB1 := Lib.hid hx1
    clear hx1
    go_wp2_with fail
    refine (tb_wakes _).mono ?_
    rintro e W2 ⟨rfl, hbw⟩
    have HBE : Hid (Below w.heap.size w W2) := HB1.out.trans (hbw.mono HB1.out.size)
    clear hbw
    go_wp2_with fail
    go_ret
    exact ⟨rfl, HBE.out⟩
  | true =>
    rw [hg] at HG
    have HGD := Lib.hid hg
    clear hg
    go_enter Try.func6, Try.ntmps6
    go_wp2_with fail
    go_at_call 13
    refine HG.out.mono ?_
    rintro e W1 ⟨rfl, hx1⟩
    have HB1 := Lib.hid hx1
    have HL1 := Lib.hid (HL.out.below hx1)
    clear hx1 HG HL
    obtain ⟨n, hn⟩ : ∃ n, l.length = n := ⟨_, rfl⟩
    have HN := Lib.hid hn
    rw [hn] at HL1 hll qa ⊢
    clear hn
    go_wp2_with fail
    go_loopw [5] (fun iv wr => ∃ b : Int, -1 ≤ b ∧ b ≤ 65 ∧ iv = .int .i64 b ∧ Hid (Below W1.heap.size W1 wr)) (fun iv _ => (65 - intOf iv).toNat)
    case atStart => exact ⟨-1, by omega, by omega, rfl, Below.refl _ _⟩
    case round =>
      obtain ⟨b, hb0, hb1, rfl, HBR⟩ := hrel
      by_cases hlt : b ≤ 64
      · have HF := Lib.hid (tb_find (HL1.out.below HBR.out) b (by rw [HN.out]; omega))
        have HW : Hid (wrap64 (b + 1) = b + 1) := IntWalk.wrap64_in _ (by omega)
        go_wp2_with fail
        go_at_call 8
        refine HF.out.mono ?_
        rintro e z ⟨rfl, hbz⟩
        have HBZ : Hid (Below W1.heap.size W1 z) := HBR.out.trans (hbz.mono HBR.out.size)
        have HLZ := Lib.hid (HL1.out.below HBZ.out)
        have HC := Lib.hid (rf_find HLZ.out b (by rw [HN.out]; omega))
        clear hbz HF
        go_wp2_with fail
        go_at_call 9
        refine HC.out.mono ?_
        rintro e y ⟨rfl, hy⟩
        obtain rfl := hy.symm
        clear HC
        cases hf : tFind l b with
        | some i =>
          have e1 : tAt l b = (l[i]?.getD (0, 0)).2 := by unfold tAt; rw [hf]
          have e2 : tIx l b = i := by unfold tIx; rw [hf]
          have hi := tFind_lt hf
          obtain ⟨p, hp⟩ : ∃ p, l[i]? = some p := ⟨_, List.getElem?_eq_getElem hi⟩
          obtain ⟨b1, o1, rfl, -, -, c1⟩ := HLZ.out.at hp
          obtain ⟨x0, y0⟩ := p
          rw [hp] at e1
          simp only [Option.getD_some] at e1 c1
          rw [e1, e2]
          simp only [Option.isSome_some]
          have q1 : decide ((i : Int) ≥ 0) = true := by simp
          have gi : (i : Int) < (n : Int) := by rw [HN.out] at hi; omega
          clear hf e1 e2 hp hi
          go_wp2_with fail
          exact ⟨⟨b + 1, by omega, by omega, rfl, HBZ⟩, by simp only [intOf]; omega⟩
        | none =>
          have e1 : tAt l b = 0 := by unfold tAt; rw [hf]
          have e2 : tIx l b = -1 := by unfold tIx; rw [hf]
          rw [e1, e2]
          simp only [Option.isSome_none]
          clear hf e1 e2
          go_wp2_with fail
          exact ⟨⟨b + 1, by omega, by omega, rfl, HBZ⟩, by simp only [intOf]; omega⟩
      · obtain rfl : b = 65 := by omega
        have HL2 := Lib.hid (HL1.out.below HBR.out)
        have HB2 : Hid (Below w.heap.size w wr) := HB1.out.trans (HBR.out.mono HB1.out.size)
        obtain ⟨V, hV⟩ : ∃ V, wr = V := ⟨_, rfl⟩
        rw [hV] at HL2 HB2 ⊢
        clear HBR HL1 HB1 hlt hb0 hb1
        obtain ⟨V1, hV1⟩ : ∃ W, V.alloc (.cells #[] 29) = W := ⟨_, rfl⟩
        have SB1 := slice_prs0 V
        have b1 := below_new V (.cells #[] 29)
        have s1 := lit_none V.heap.size V (Nat.le_refl _)
        rw [hV1] at SB1 b1 s1
        obtain ⟨ux, V2, hr2, hx2, g2, -⟩ := pr_append s1 (HL2.out.below b1) b1.size (by rw [HN.out]; simp; omega)
        rw [List.nil_append] at hx2
        have bb2 : Below V.heap.size V V2 := b1.grown g2 b1.size (fun j e => (s1.base j e).1)
        have HL3 := Lib.hid (HL2.out.below bb2)
        have HX3 := Lib.hid hx2.prt
        have HB3 : Hid (Below w.heap.size w V2) := HB2.out.trans (bb2.mono HB2.out.size)
        have HR2 := Lib.hid hr2
        clear hV1 hV b1 s1 hr2 hx2 g2 bb2 HL2 HB2
        go_wp2_with (first | (refine gate_build ?_; refine wpList_build_run 22 0 #[] rfl rfl [] _ rfl SB1 ?_) | (at_builtin; refine wpList_append_run (.tmp 50) (.tmp 51) 22 rfl rfl _ _ _ rfl rfl (HR2.out _) ?_))
        clear SB1 HR2
        go_loopw [9, 10] (fun mv fv wr => ∃ (m lf : List (Int × Int)), lf.length ≤ n ∧ lenOf10 fv = lf.length ∧ Hid (Asc m) ∧ Hid ((m ++ lf).Perm l) ∧ Hid (Prt wr mv m) ∧ Hid (Prt wr fv lf) ∧ Hid (Below V2.heap.size V2 wr)) (fun _ fv _ => lenOf10 fv)
        case atStart => exact ⟨[], l, by rw [HN.out]; exact Nat.le_refl _, len_prt HX3.out, List.Pairwise.nil, List.Perm.refl _, Prt.nil _, HX3, Below.refl _ _⟩
        case round =>
          obtain ⟨m, lf, hlf, hlv, HAS, HPM, HM, HX, HBR⟩ := hrel
          obtain ⟨kk, hkk⟩ : ∃ kk, lf.length = kk := ⟨_, rfl⟩
          have HKK := Lib.hid hkk
          obtain ⟨am, cm, rfl, -⟩ := id HM.out
          obtain ⟨af, cf, rfl, hfc, hfm, -⟩ := id HX.out
          have h63 : cf ≤ 9223372036854775807 := by unfold maxLen at hfm; omega
          have hml : m.length + kk = n := by
            have := HPM.out.length_eq
            rw [List.length_append, HN.out] at this
            omega
          rw [hkk] at hlf hfc HX ⊢
          clear hlv hkk hfm
          by_cases h0 : 0 < kk
          · have g0 : (0 : Int) < (kk : Int) := by omega
            have gn : ¬ ((kk : Int) = 0) := by omega
            obtain ⟨i, hi⟩ : ∃ i : Nat, s % (kk : Int) = (i : Int) := ⟨(s % (kk : Int)).toNat, by have := Int.emod_nonneg s gn; omega⟩
            have hik : i < kk := by have := Int.emod_lt_of_pos s g0; omega
            have HI : Hid (s % (kk : Int) = (i : Int)) := hi
            have HT : Hid (s.tmod (kk : Int) = (i : Int)) := by show _ = _; rw [Int.tmod_eq_emod_of_nonneg hs0]; exact hi
            obtain ⟨p, hp⟩ : ∃ p, lf[i]? = some p := ⟨_, List.getElem?_eq_getElem (by rw [HKK.out]; exact hik)⟩
            obtain ⟨k1, k2⟩ := finds_step (((tGood_iff _ _ _).1 HGD.out).2.1) HAS.out HPM.out hp
            have hp64 := HX.out.is p (List.mem_of_getElem? hp)
            have HK1 := Lib.hid k1
            have HK2 := Lib.hid k2
            obtain ⟨bf, of, rfl, hbf, c1, c2⟩ := HX.out.at hp
            obtain ⟨x0, y0⟩ := p
            simp only at c1 c2 hp64
            have HP64 := Lib.hid hp64
            obtain ⟨W, hW⟩ : ∃ W, wr.drew = W := ⟨_, rfl⟩
            have bd : Below wr.heap.size wr W := by rw [← hW]; exact (Below.refl _ wr).drew
            have d1 : W.cell? ⟨bf, of + i * 2, none⟩ = some (.int .i64 x0) := by rw [← hW]; exact c1
            have d2 : W.cell? ⟨bf, of + i * 2 + 1, none⟩ = some (.int .i64 y0) := by rw [← hW]; exact c2
            have gik : (i : Int) < (kk : Int) := by omega
            have HXW := Lib.hid (HX.out.below bd)
            have HMW := Lib.hid (HM.out.below bd)
            have HBW : Hid (Below V2.heap.size V2 W) := HBR.out.trans (bd.mono HBR.out.size)
            have HPU := Lib.hid (tb_put HMW.out x0 y0 HP64.out.1 HP64.out.2 (by omega))
            clear hp k1 k2 hp64 hbf c1 c2 bd hi HX HM HBR
            go_wp2_with fail
            rw [HI.out]
            refine region_plan (fun x => x = W) 11 (.takes [0, 1, 2, 3, 4, 5, 6, 7, 8, 9, 10] .leaf) hmx (by kernel_rfl) (by intro c x v a w h; cases x <;> exact h) hW ?_
            rw [hW]
            clear hW
            repeat (rw [wpPlan_takes_cons]; simp only [nth_zero, nth_succ]; go_big_quiet_step (fail); try (with_reducible refine wpQuiet_nil ?_))
            rw [wpPlan_takes_nil, wpPlan_leaf]
            simp only [List.drop_succ_cons, List.drop_zero]
            clear d1 d2
            go_wp2_with fail
            go_at_call 15
            refine HPU.out.mono ?_
            rintro e X ⟨um, rfl, hO, hbx⟩
            obtain ⟨M, hM⟩ : ∃ M, tPut m x0 y0 = M := ⟨_, rfl⟩
            simp only [hM] at hO HK1 HK2
            obtain ⟨V, hV⟩ : ∃ V, X.drew = V := ⟨_, rfl⟩
            have bV : Below X.heap.size X V := by rw [← hV]; exact (Below.refl _ X).drew
            have hWV : Below W.heap.size W V := hbx.trans (bV.mono hbx.size)
            have HMV := Lib.hid (hO.prt.below bV)
            have HXV := Lib.hid (HXW.out.below hWV)
            have HBV : Hid (Below V2.heap.size V2 V) := HBW.out.trans (hWV.mono HBW.out.size)
            obtain ⟨au, cu, rfl⟩ := hO.form
            obtain ⟨r1, v1⟩ := pr_hi HXV.out (Nat.le_of_lt hik)
            obtain ⟨ra, r3, v3⟩ := pr_lo (K := i + 1) HXV.out hik
            rw [show ((i + 1 : Nat) : Int) = (i : Int) + 1 by simp] at r3
            have HR1 := Lib.hid r1
            have HR3 := Lib.hid r3
            have HV1 := Lib.hid (v1 V HXV.out)
            have HV3 := Lib.hid (v3 V HXV.out)
            have HWI : Hid (wrap64 ((i : Int) + 1) = (i : Int) + 1) := IntWalk.wrap64_in _ (by omega)
            obtain ⟨X1, hX1⟩ : ∃ X1, V.alloc (.cells #[] 29) = X1 := ⟨_, rfl⟩
            have SB1 := slice_prs0 V
            have b1 := below_new V (.cells #[] 29)
            have s1 := lit_none V.heap.size V (Nat.le_refl _)
            rw [hX1] at SB1 b1 s1
            obtain ⟨u2, X2, hr2, hu2, g2, -⟩ := pr_append s1 (HV1.out.below b1) b1.size (by rw [List.length_take, HKK.out]; simp; omega)
            rw [List.nil_append] at hu2
            have k2 : Below V.heap.size V X2 := b1.grown g2 b1.size (fun j e => (s1.base j e).1)
            obtain ⟨u3, X3, hr3, hu3, g3, -⟩ := pr_append hu2 (HV3.out.below k2) k2.size (by rw [List.length_take, List.length_drop, HKK.out]; omega)
            have k3 : Below V.heap.size V X3 := k2.grown g3 k2.size (fun j e => (hu2.base j e).1)
            have HA2 := Lib.hid hr2
            have HA3 := Lib.hid hr3
            have KV : Hid (Below V.heap.size V V) := Below.refl _ _
            have K1 := Lib.hid b1
            have K2 := Lib.hid k2
            have HM3 := Lib.hid (HMV.out.below k3)
            have HX3 := Lib.hid hu3.prt
            have HB3 : Hid (Below V2.heap.size V2 X3) := HBV.out.trans (k3.mono HBV.out.size)
            have HLL : Hid ((lf.take i ++ lf.drop (i + 1)).length = kk - 1) := by show _ = _; rw [List.length_append, List.length_take, List.length_drop, HKK.out]; omega
            have HLV := Lib.hid (len_prt HX3.out)
            clear hX1 b1 s1 hr2 hu2 g2 k2 hr3 hu3 g3 k3 r1 v1 r3 v3 hO hbx hWV bV HPU HMW HXW HBW hM
            go_wp2_with fail
            refine region_plan (fun x => ∃ y : Ext V, x = y.1) 9 (.takes [1, 2, 3, 5, 6, 7, 8] (.one 0 (.one 4 .leaf))) hmx (by kernel_rfl) (by intro c x v a w h; cases x <;> exact h) ⟨⟨V, KV.out⟩, hV⟩ ?_
            rw [hV]
            clear hV
            rw [wpPlan_takes_cons]; simp only [nth_zero, nth_succ]; go_big_quiet_step (fail); refine wpQuiet_nil ?_
            rw [wpPlan_takes_cons]; simp only [nth_zero, nth_succ]; go_big_quiet_step (fail); refine wpQuiet_nil ?_
            rw [wpPlan_takes_cons]; simp only [nth_zero, nth_succ]; refine wpQuiet_slice_run (.tmp 74) 22 none (some (.tmp 75)) rfl rfl _ _ _ _ rfl rfl rfl (fun x _ => HR1.out x) ?_; refine wpQuiet_nil ?_; simp only [Act.put, List.setIfInBounds_toArray, List.set_cons_succ, List.set_cons_zero]
            rw [wpPlan_takes_cons]; simp only [nth_zero, nth_succ]; go_big_quiet_step (fail); refine wpQuiet_nil ?_
            rw [wpPlan_takes_cons]; simp only [nth_zero, nth_succ]; go_big_quiet_step (fail); refine wpQuiet_nil ?_
            rw [wpPlan_takes_cons]; simp only [nth_zero, nth_succ]; go_big_quiet_step (fail); refine wpQuiet_nil ?_
            try rw [HWI.out]
            rw [wpPlan_takes_cons]; simp only [nth_zero, nth_succ]; refine wpQuiet_slice_run (.tmp 78) 22 (some (.tmp 80)) none rfl rfl _ _ _ _ rfl rfl rfl (fun x _ => HR3.out x) ?_; refine wpQuiet_nil ?_; simp only [Act.put, List.setIfInBounds_toArray, List.set_cons_succ, List.set_cons_zero]
            rw [wpPlan_takes_nil, wpPlan_one]
            simp only [nth_zero, nth_succ]
            go_wp2_with (refine gate_build ?_; refine wpList_build_run 22 0 #[] rfl rfl [] _ rfl SB1 ?_)
            refine planPost_mk ⟨⟨X1, K1.out⟩, rfl⟩ ?_
            clear SB1
            rw [wpPlan_one]
            simp only [nth_zero, nth_succ]
            go_wp2_with (at_builtin; refine wpList_append_run (.tmp 73) (.tmp 76) 22 rfl rfl _ _ _ rfl rfl (HA2.out _) ?_)
            refine planPost_mk ⟨⟨X2, K2.out⟩, rfl⟩ ?_
            clear HA2
            rw [wpPlan_leaf]
            simp only [List.drop_succ_cons, List.drop_zero]
            go_wp2_with (at_builtin; refine wpList_append_run (.tmp 77) (.tmp 81) 22 rfl rfl _ _ _ rfl rfl (HA3.out _) ?_)
            exact ⟨⟨M, lf.take i ++ lf.drop (i + 1), by rw [HLL.out]; omega, HLV.out, HK1, HK2, HM3, HX3, HB3⟩, by rw [HLV.out, HLL.out]; show kk - 1 < kk; omega⟩
          · obtain rfl : kk = 0 := by omega
            have hlf0 : lf = [] := List.eq_nil_of_length_eq_zero HKK.out
            subst hlf0
            have hme : m = l := finds_end (((tGood_iff _ _ _).1 HGD.out).2.1) HAS.out HPM.out
            subst hme
            have HLR := Lib.hid (HL3.out.below HBR.out)
            have HC1 := Lib.hid (pairs_same HM.out HLR.out (by rw [HN.out]; omega))
            have HBE : Hid (Below w.heap.size w wr) := HB3.out.trans (HBR.out.mono HB3.out.size)
            clear HKK hml HX HAS HPM hfc h0
            go_wp2_with fail
            go_at_call 14
            refine HC1.out.mono ?_
            rintro e X ⟨rfl, hbx⟩
            have HBX : Hid (Below w.heap.size w X) := HBE.out.trans (hbx.mono HBE.out.size)
            have HC2 := Lib.hid (tb_good (HM.out.below hbx) 64 200 (by rw [HN.out]; omega))
            rw [HGD.out] at HC2
            clear hbx HC1 HBE
            go_wp2_with fail
            go_at_call 12
            refine HC2.out.mono ?_
            rintro e Y ⟨rfl, hby⟩
            have HBY : Hid (Below w.heap.size w Y) := HBX.out.trans (hby.mono HBX.out.size)
            clear hby HC2 HBX
            go_wp2_with fail
            refine (tb_wakes _).mono ?_
            rintro e W9 ⟨rfl, hbw⟩
            have HBF : Hid (Below w.heap.size w W9) := HBY.out.trans (hbw.mono HBY.out.size)
            clear hbw
            go_wp2_with fail
            go_ret
            exact ⟨rfl, HBF.out⟩

set_option maxRecDepth 100000 in
theorem lifted (os : Os) (started : os.Started) (H : Type) (enc : TypeId × Value → H) :
    ReturnsInHanded {} Try.checked os 6 .any (Rows.tableFindsSpec.pre6 enc Try.prog Try.f6 Rows.tableFindsRow.domain false) (Rows.tableFindsSpec.post enc Try.prog Try.f6 false true false false) := by
  refine returnsInHanded_of_change (C := Try.checked) own started (by kernel_rfl) Try.func6
    (ChangeSpec.witness6 (enc := enc) (C := Try.checked) false ⟨#[], #[.slice none 0 0, .int .u8 0], []⟩ 8 (by kernel_rfl) (by kernel_rfl) (by kernel_rfl) (by kernel_rfl)) ?_
  intro W base args ds gs before hval0 hW hcnd _
  have hval : ∀ (j : Nat) t v, Try.f6.params[j]? = some t → args[j]? = some v → Value.okWide Try.prog W .any base t v := hval0
  have hW' := hW
  obtain ⟨p, q, hA0, hV, rfl, hfz, hnd⟩ := hW
  have hA : DataW.TrodAll enc Try.prog W 0 (fun _ => true) true Try.f6.params.toList args.toList ds p := hA0
  rw [Try.params6] at hA hval
  obtain ⟨v0, vs0, d0, ds0, p0, q0, hargs, rfl, rfl, h0, r0⟩ := trodAll_cons hA
  obtain ⟨v1, vs1, d1, ds1, p1, q1, rfl, rfl, rfl, h1, r1⟩ := trodAll_cons r0
  obtain ⟨rfl, rfl, rfl⟩ := trodAll_nil r1
  obtain rfl : args = #[v0, v1] := by cases args; simp_all
  obtain ⟨rfl, rfl⟩ := trodVars_none hV
  have lt0 : ∀ x ∈ p0, x.block < W.heap.size := by obtain ⟨m, hm⟩ := h0; exact DataW.trod_lt m _ _ _ hm
  have a0 := Arg.mk (hval 0 22 v0 rfl rfl) h0
  have lt1 : ∀ x ∈ p1, x.block < W.heap.size := by obtain ⟨m, hm⟩ := h1; exact DataW.trod_lt m _ _ _ hm
  have a1 := Arg.mk (hval 1 5 v1 rfl rfl) h1
  clear hA0 hval0
  refine (walk v0 v1 W a0 a1).mono fun e W' ⟨he, bel⟩ => ?_
  subst he
  exact ⟨_, rfl, _, _, _, [], _, [], hW', trodAll_mk1 (shut_bool Try.underlying4 _), (trodAll_cons_mk (Below.trod laidOut (by kernel_rfl) (of_decide_eq_true (by kernel_rfl)) h0 bel lt0) (trodAll_cons_mk (Below.trod laidOut (by kernel_rfl) (of_decide_eq_true (by kernel_rfl)) h1 bel lt1) trodAll_mk0)), rfl, bel.frame _, fun h => by cases h⟩

set_option maxRecDepth 100000 in
theorem over : Rows.tableFindsRow.holds Try.pinned (OpenSpec.ofChange Rows.tableFindsSpec) :=
  OpenClaim.holds_of_wide 6 Try.f6 rfl rfl rfl rfl rfl rfl rfl ⟨rfl, rfl, rfl, rfl, rfl⟩ rfl rfl rfl rfl rfl (by kernel_rfl) Try.func6 (by kernel_rfl)
    (of_decide_eq_true (by kernel_rfl)) (by unfold Func.isWrapper; first | (rw [if_pos (by decide +kernel)]; kernel_rfl) | (rw [if_neg (by decide +kernel)]; exact ⟨rfl, rfl⟩))
    (fun os started H enc _ => lifted os started H enc)

theorem proved : Rows.TableFindsSaid := over
#print axioms proved
end Go.Proofs.Ytlnkfphkgjcdiaa.tableFinds
