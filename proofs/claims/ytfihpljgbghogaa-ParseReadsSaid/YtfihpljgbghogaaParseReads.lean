/- The stream of any bytes, or the first thing that is wrong (P17.1). -/
import Derived.Test.YtfihpljgbghogaaPB4
namespace Go.Proofs.Ytfihpljgbghogaa.parseReads
open Go.ChangeShapes Go.WideShapes Go.ChangeAt Go.RowKit
set_option linter.unusedVariables false
set_option linter.unusedSimpArgs false
attribute [-simp] Try.isAgg49 Try.zeroValue49 Try.isAgg26 Try.zeroValue26 Try.isAgg31 Try.zeroValue31
attribute [-go_sem] loadVar storeVar
attribute [local go_sem] loadVar_openRG storeVar_openRG zero_rcP build_rcP zero_smP build_sm3P zero_gt build_gtE build_gtS

set_option maxRecDepth 100000 in
set_option maxHeartbeats 8000000 in
theorem walk (v0 : Value) (w : World) (w0 : Arg w 22 v0) :
    Calls Try.prog 3 #[v0] w fun e w' => e = .returned (.bool true) ∧ Below w.heap.size w w' := by
  obtain ⟨ba, bn, bc, bs, rfl, hbl, -, hbS, hbB⟩ := w0.bytes Try.underlying22 Try.underlying5 (by kernel_rfl)
  have HWK := Lib.hid pa_wakes
  have HBS := Lib.hid hbS
  have HBB := Lib.hid hbB
  have HBL : Hid (bs.length = bn) := hbl
  by_cases hlen : 8000 < bn
  · have g1 : (8000 : Int) < (bn : Int) := by omega
    have g2 : decide ((8000 : Int) < (bn : Int)) = true := by simpa using g1
    clear hbl hbS hbB hlen w0
    go_enter Try.func3, Try.ntmps3
    go_wp2_with fail
    refine (HWK.out w).mono ?_
    rintro e zz ⟨rfl, hzz⟩
    have HFIN : Hid (Below w.heap.size w zz) := hzz
    clear hzz
    go_wp2_with fail
    go_ret
    exact ⟨rfl, HFIN.out⟩
  have g1 : ¬ (8000 : Int) < (bn : Int) := by omega
  have g2 : decide ((8000 : Int) < (bn : Int)) = false := by simpa using g1
  obtain ⟨v', w1, hA, hO, hB1⟩ := copy_lit w _ bs hbS (by rw [hbl]; omega)
  obtain ⟨⟨c1, c2, c3⟩, rfl, -⟩ := own_slV hO.out
  have HP := Lib.hid (pa_smi (Sl.of_owns hO.out) hbB)
  obtain ⟨bl, hbl'⟩ : ∃ q, (paS bs).bl = q := ⟨_, rfl⟩
  obtain ⟨bb, hba'⟩ : ∃ q, (paS bs).ba = q := ⟨_, rfl⟩
  obtain ⟨id, hid'⟩ : ∃ q, (paS bs).id = q := ⟨_, rfl⟩
  obtain ⟨E, hE'⟩ : ∃ q, paE bs = q := ⟨_, rfl⟩
  have HRF : Hid (∀ x : World, Below w.heap.size w x → _) := fun x hx => rf_smi (hbS.below hx) hbB
  rw [hbl', hba', hid', hE'] at HP HRF
  have HEQ : (E == E) = true := by simp
  simp only [smV, gtV, slV] at HP HRF hA
  clear hO hbl hbS hbB hlen w0
  go_enter Try.func3, Try.ntmps3
  go_wp2_with (at_builtin; refine wpList_append_run (.tmp 11) (.tmp 12) 22 rfl rfl _ _ _ rfl rfl hA.out ?_)
  refine HP.out.mono ?_
  rintro e x2 ⟨⟨d1, d2, d3⟩, rfl, hs, hb⟩
  obtain ⟨Y2, T2, rY2, bY2⟩ := new_smx x2 bl bb id (d1, d2, d3)
  obtain ⟨D2, hD2⟩ : ∃ D, x2.heap.size = D := ⟨_, rfl⟩
  rw [hD2] at T2 rY2
  have K2 : Hid (Below w.heap.size w Y2) := hB1.out.trans ((hb.trans (bY2.mono hb.size)).mono hB1.out.size)
  have HS2 := Lib.hid (hs.below bY2)
  have HR2 := Lib.hid rY2
  have HRC := Lib.hid (HRF.out Y2 K2.out)
  simp only [smV, slV] at T2 HS2 ⊢
  clear hs hb rY2 bY2 HP hA hB1 HRF
  go_wp2_with fail
  refine HRC.out.mono ?_
  rintro e x3 ⟨⟨e1, e2, e3⟩, rfl, hs, hb⟩
  obtain ⟨Y3, T3, rY3, bY3⟩ := new_gtx x3 bl bb id (e1, e2, e3) E
  obtain ⟨D3, hD3⟩ : ∃ D, x3.heap.size = D := ⟨_, rfl⟩
  rw [hD3] at T3 rY3
  have b23 : Below Y2.heap.size Y2 Y3 := hb.trans (bY3.mono hb.size)
  have K3 : Hid (Below w.heap.size w Y3) := K2.out.trans (b23.mono K2.out.size)
  have hs3 := hs.below bY3
  have HSM := Lib.hid (sm_same (HS2.out.below b23) hs3)
  rw [show decide (paS bs = paS bs) = true from decide_eq_true rfl] at HSM
  have L2 := load_smC (HR2.out.below b23)
  have L3 := load_gtS rY3
  have HR3 := Lib.hid rY3
  have c4 := rY3.cell 4 _ rfl
  simp only [smV, gtV, slV] at T3 L2 L3 HSM ⊢
  clear hs hb bY3 b23 hs3 rY3 HRC T2 hD2
  go_wp2_with fail
  refine HSM.out.mono ?_
  rintro e x4 ⟨rfl, hb⟩
  have K4 : Hid (Below w.heap.size w x4) := K3.out.trans (hb.mono K3.out.size)
  have c44 := (HR3.out.below hb).cell 4 _ rfl
  clear hb c4 L2 L3 T3 hD3 HSM
  go_wp2_with fail
  refine (HWK.out x4).mono ?_
  rintro e zz ⟨rfl, hzz⟩
  have HFIN : Hid (Below w.heap.size w zz) := K4.out.trans (hzz.mono K4.out.size)
  clear hzz
  go_wp2_with fail
  go_ret
  exact ⟨rfl, HFIN.out⟩

set_option maxRecDepth 100000 in
theorem lifted (os : Os) (started : os.Started) (H : Type) (enc : TypeId × Value → H) :
    ReturnsInHanded {} Try.checked os 3 .any (Rows.parseReadsSpec.pre6 enc Try.prog Try.f3 Rows.parseReadsRow.domain false) (Rows.parseReadsSpec.post enc Try.prog Try.f3 false true false false) := by
  refine returnsInHanded_of_change (C := Try.checked) own started (by kernel_rfl) Try.func3
    (ChangeSpec.witness6 (enc := enc) (C := Try.checked) false ⟨#[], #[.slice none 0 0], []⟩ 8 (by kernel_rfl) (by kernel_rfl) (by kernel_rfl) (by kernel_rfl)) ?_
  intro W base args ds gs before hval0 hW hcnd _
  have hval : ∀ (j : Nat) t v, Try.f3.params[j]? = some t → args[j]? = some v → Value.okWide Try.prog W .any base t v := hval0
  have hW' := hW
  obtain ⟨p, q, hA0, hV, rfl, hfz, hnd⟩ := hW
  have hA : DataW.TrodAll enc Try.prog W 0 (fun _ => true) true Try.f3.params.toList args.toList ds p := hA0
  rw [Try.params3] at hA hval
  obtain ⟨v0, vs0, d0, ds0, p0, q0, hargs, rfl, rfl, h0, r0⟩ := trodAll_cons hA
  obtain ⟨rfl, rfl, rfl⟩ := trodAll_nil r0
  obtain rfl : args = #[v0] := by cases args; simp_all
  obtain ⟨rfl, rfl⟩ := trodVars_none hV
  have lt0 : ∀ x ∈ p0, x.block < W.heap.size := by obtain ⟨m, hm⟩ := h0; exact DataW.trod_lt m _ _ _ hm
  have a0 := Arg.mk (hval 0 22 v0 rfl rfl) h0
  clear hA0 hval0
  refine (walk v0 W a0).mono fun e W' ⟨he, bel⟩ => ?_
  subst he
  exact ⟨_, rfl, _, _, _, [], _, [], hW', trodAll_mk1 (shut_bool Try.underlying4 _), (trodAll_cons_mk (Below.trod laidOut (by kernel_rfl) (of_decide_eq_true (by kernel_rfl)) h0 bel lt0) trodAll_mk0), rfl, bel.frame _, fun h => by cases h⟩

set_option maxRecDepth 100000 in
theorem over : Rows.parseReadsRow.holds Try.pinned (OpenSpec.ofChange Rows.parseReadsSpec) :=
  OpenClaim.holds_of_wide 3 Try.f3 rfl rfl rfl rfl rfl rfl rfl ⟨rfl, rfl, rfl, rfl, rfl⟩ rfl rfl rfl rfl rfl (by kernel_rfl) Try.func3 (by kernel_rfl)
    (of_decide_eq_true (by kernel_rfl)) (by unfold Func.isWrapper; first | (rw [if_pos (by decide +kernel)]; kernel_rfl) | (rw [if_neg (by decide +kernel)]; exact ⟨rfl, rfl⟩))
    (fun os started H enc _ => lifted os started H enc)

theorem proved : Rows.ParseReadsSaid := over
#print axioms proved
end Go.Proofs.Ytfihpljgbghogaa.parseReads
