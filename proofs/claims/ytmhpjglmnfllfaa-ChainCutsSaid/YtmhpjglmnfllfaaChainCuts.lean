/- What is left without any one, and up to any one (P11.2). -/
import Derived.Test.YtmhpjglmnfllfaaChWa
import Derived.Test.YtmhpjglmnfllfaaChRc
import Derived.Test.YtmhpjglmnfllfaaChPu
import Derived.Test.YtmhpjglmnfllfaaArgSl
namespace Go.Proofs.Ytmhpjglmnfllfaa.chainCuts
open Go.ChangeShapes Go.WideShapes Go.ChangeAt Go.RowKit
set_option linter.unusedVariables false
set_option linter.unusedSimpArgs false
attribute [-simp] Try.isAgg49 Try.zeroValue49 Try.isAgg52 Try.zeroValue52
attribute [-go_sem] loadVar storeVar
attribute [local go_sem] loadVar_openPS storeVar_openPS zero_sn zero_prs build_prs build_sn build_sn2

set_option maxRecDepth 100000 in
set_option maxHeartbeats 4000000 in
theorem walk (v0 v1 : Value) (w : World) (w0 : Arg w 22 v0) (w1 : Arg w 3 v1) :
    Calls Try.prog 4 #[v0, v1] w fun e w' => e = .returned (.bool true) ∧ Below w.heap.size w w' := by
  have hmx : Try.prog.follows .mixedOrders = true := by kernel_rfl
  obtain ⟨l, hl⟩ := w0.snp
  obtain ⟨i, rfl, wi⟩ := w1.int Try.underlying3
  clear wi w0 w1
  have HF := Lib.hid (ch_fair hl)
  have HL := Lib.hid hl
  obtain ⟨r, la, lc, rfl, -⟩ := hl
  cases hf : fairL l with
  | false =>
    rw [hf] at HF
    clear hf
    go_enter Try.func4, Try.ntmps4
    go_wp2_with fail
    go_at_call 9
    refine HF.out.mono ?_
    rintro e w' ⟨rfl, hw'⟩
    obtain rfl := hw'.symm
    clear HF
    go_wp2_with fail
    refine (ch_wakes _).mono ?_
    rintro e W1 ⟨rfl, hbw⟩
    have HBE := Lib.hid hbw
    clear hbw
    go_wp2_with fail
    go_ret
    exact ⟨rfl, HBE.out⟩
  | true =>
    rw [hf] at HF
    obtain ⟨hlens, hl12, hfs⟩ := fair_lens hf
    have HLD := Lib.hid (drop_lens hl12 hfs i)
    have HLC := Lib.hid (cut_lens hl12 hfs i)
    have HLN := Lib.hid hlens
    clear hf hfs hlens hl12
    go_enter Try.func4, Try.ntmps4
    go_wp2_with fail
    go_at_call 9
    refine HF.out.mono ?_
    rintro e w' ⟨rfl, hw'⟩
    obtain rfl := hw'.symm
    clear HF
    go_wp2_with fail
    go_at_call 11
    refine (keep_copy HL.out HLN.out).mono ?_
    rintro e W1 ⟨vi, rfl, ho, hb⟩
    have I1 := Lib.hid ho.snp
    have L1 := Lib.hid (HL.out.below hb)
    have B1 := Lib.hid hb
    obtain ⟨⟨ra, rn, rc⟩, rfl, -⟩ := ho.isSl
    simp only [slV] at I1 ⊢
    clear ho hb HL
    go_wp2_with fail
    go_at_call 22
    refine (ch_drop I1.out HLN.out i).mono ?_
    rintro e W2 ⟨vd, rfl, ho, hb⟩
    have I2 := Lib.hid (I1.out.below hb)
    have L2 := Lib.hid (L1.out.below hb)
    have D2 := Lib.hid ho.snp
    have B2 := Lib.hid (B1.out.trans (hb.mono B1.out.size))
    obtain ⟨⟨da, dn, dc⟩, rfl, -⟩ := ho.isSl
    simp only [slV] at D2 ⊢
    clear ho hb I1 L1 B1
    go_wp2_with fail
    go_at_call 23
    refine (rf_drop L2.out HLN.out i).mono ?_
    rintro e W3 ⟨vd', rfl, ho, hb⟩
    have I3 := Lib.hid (I2.out.below hb)
    have L3 := Lib.hid (L2.out.below hb)
    have D3 := Lib.hid (D2.out.below hb)
    have E3 := Lib.hid ho.snp
    have B3 := Lib.hid (B2.out.trans (hb.mono B2.out.size))
    obtain ⟨⟨ea, en, ec⟩, rfl, -⟩ := ho.isSl
    simp only [slV] at E3 ⊢
    clear ho hb I2 L2 B2 D2
    go_wp2_with fail
    go_at_call 21
    refine (snaps_same D3.out E3.out HLD.out).mono ?_
    rintro e W4 ⟨rfl, hb⟩
    have I4 := Lib.hid (I3.out.below hb)
    have L4 := Lib.hid (L3.out.below hb)
    have B4 := Lib.hid (B3.out.trans (hb.mono B3.out.size))
    clear hb I3 L3 B3 D3 E3 HLD
    go_wp2_with fail
    go_at_call 24
    refine (ch_cut I4.out HLN.out i).mono ?_
    rintro e W5 ⟨vc, rfl, ho, hb⟩
    have I5 := Lib.hid (I4.out.below hb)
    have L5 := Lib.hid (L4.out.below hb)
    have D5 := Lib.hid ho.snp
    have B5 := Lib.hid (B4.out.trans (hb.mono B4.out.size))
    obtain ⟨⟨fa, fn, fc⟩, rfl, -⟩ := ho.isSl
    simp only [slV] at D5 ⊢
    clear ho hb I4 L4 B4
    go_wp2_with fail
    go_at_call 25
    refine (rf_cut L5.out HLN.out i).mono ?_
    rintro e W6 ⟨vc', rfl, ho, hb⟩
    have I6 := Lib.hid (I5.out.below hb)
    have L6 := Lib.hid (L5.out.below hb)
    have D6 := Lib.hid (D5.out.below hb)
    have E6 := Lib.hid ho.snp
    have B6 := Lib.hid (B5.out.trans (hb.mono B5.out.size))
    obtain ⟨⟨ga, gn, gc⟩, rfl, -⟩ := ho.isSl
    simp only [slV] at E6 ⊢
    clear ho hb I5 L5 B5 D5
    go_wp2_with fail
    go_at_call 21
    refine (snaps_same D6.out E6.out HLC.out).mono ?_
    rintro e W7 ⟨rfl, hb⟩
    have I7 := Lib.hid (I6.out.below hb)
    have L7 := Lib.hid (L6.out.below hb)
    have B7 := Lib.hid (B6.out.trans (hb.mono B6.out.size))
    clear hb I6 L6 B6 D6 E6 HLC
    go_wp2_with fail
    go_at_call 21
    refine (snaps_same I7.out L7.out HLN.out).mono ?_
    rintro e W8 ⟨rfl, hb⟩
    have B8 := Lib.hid (B7.out.trans (hb.mono B7.out.size))
    clear hb I7 L7 B7 HLN
    go_wp2_with fail
    refine (ch_wakes _).mono ?_
    rintro e W9 ⟨rfl, hb⟩
    have B9 := Lib.hid (B8.out.trans (hb.mono B8.out.size))
    clear hb B8
    go_wp2_with fail
    go_ret
    exact ⟨rfl, B9.out⟩

set_option maxRecDepth 100000 in
theorem lifted (os : Os) (started : os.Started) (H : Type) (enc : TypeId × Value → H) :
    ReturnsInHanded {} Try.checked os 4 .any (Rows.chainCutsSpec.pre6 enc Try.prog Try.f4 Rows.chainCutsRow.domain false) (Rows.chainCutsSpec.post enc Try.prog Try.f4 false true false false) := by
  refine returnsInHanded_of_change (C := Try.checked) own started (by kernel_rfl) Try.func4
    (ChangeSpec.witness6 (enc := enc) (C := Try.checked) false ⟨#[], #[.slice none 0 0, .int .i64 0], []⟩ 8 (by kernel_rfl) (by kernel_rfl) (by kernel_rfl) (by kernel_rfl)) ?_
  intro W base args ds gs before hval0 hW hcnd _
  have hval : ∀ (j : Nat) t v, Try.f4.params[j]? = some t → args[j]? = some v → Value.okWide Try.prog W .any base t v := hval0
  have hW' := hW
  obtain ⟨p, q, hA0, hV, rfl, hfz, hnd⟩ := hW
  have hA : DataW.TrodAll enc Try.prog W 0 (fun _ => true) true Try.f4.params.toList args.toList ds p := hA0
  rw [Try.params4] at hA hval
  obtain ⟨v0, vs0, d0, ds0, p0, q0, hargs, rfl, rfl, h0, r0⟩ := trodAll_cons hA
  obtain ⟨v1, vs1, d1, ds1, p1, q1, rfl, rfl, rfl, h1, r1⟩ := trodAll_cons r0
  obtain ⟨rfl, rfl, rfl⟩ := trodAll_nil r1
  obtain rfl : args = #[v0, v1] := by cases args; simp_all
  obtain ⟨rfl, rfl⟩ := trodVars_none hV
  have lt0 : ∀ x ∈ p0, x.block < W.heap.size := by obtain ⟨m, hm⟩ := h0; exact DataW.trod_lt m _ _ _ hm
  have a0 := Arg.mk (hval 0 22 v0 rfl rfl) h0
  have lt1 : ∀ x ∈ p1, x.block < W.heap.size := by obtain ⟨m, hm⟩ := h1; exact DataW.trod_lt m _ _ _ hm
  have a1 := Arg.mk (hval 1 3 v1 rfl rfl) h1
  clear hA0 hval0
  refine (walk v0 v1 W a0 a1).mono fun e W' ⟨he, bel⟩ => ?_
  subst he
  exact ⟨_, rfl, _, _, _, [], _, [], hW', trodAll_mk1 (shut_bool Try.underlying4 _), (trodAll_cons_mk (Below.trod laidOut (by kernel_rfl) (of_decide_eq_true (by kernel_rfl)) h0 bel lt0) (trodAll_cons_mk (Below.trod laidOut (by kernel_rfl) (of_decide_eq_true (by kernel_rfl)) h1 bel lt1) trodAll_mk0)), rfl, bel.frame _, fun h => by cases h⟩

set_option maxRecDepth 100000 in
theorem over : Rows.chainCutsRow.holds Try.pinned (OpenSpec.ofChange Rows.chainCutsSpec) :=
  OpenClaim.holds_of_wide 4 Try.f4 rfl rfl rfl rfl rfl rfl rfl ⟨rfl, rfl, rfl, rfl, rfl⟩ rfl rfl rfl rfl rfl (by kernel_rfl) Try.func4 (by kernel_rfl)
    (of_decide_eq_true (by kernel_rfl)) (by unfold Func.isWrapper; first | (rw [if_pos (by decide +kernel)]; kernel_rfl) | (rw [if_neg (by decide +kernel)]; exact ⟨rfl, rfl⟩))
    (fun os started H enc _ => lifted os started H enc)

theorem proved : Rows.ChainCutsSaid := over
#print axioms proved
end Go.Proofs.Ytmhpjglmnfllfaa.chainCuts
