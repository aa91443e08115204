/- No rig, no superblock, no room, no valid geometry: no Meta, and its methods tell nothing (P8.1, P8.2). -/
import Derived.Test.YtbdfllamhcodjaaGreatH7
namespace Go.Proofs.YtbdfllamhcodjaaGreat.metaNone
open Go.ChangeShapes Go.WideShapes Go.ChangeAt Go.RowKit
set_option linter.unusedVariables false
attribute [-simp] Tryz.isAgg23 Tryz.zeroValue23 Tryz.isAgg60 Tryz.zeroValue60 Tryz.isAgg39 Tryz.zeroValue39
attribute [-go_sem] loadVar storeVar run_equalIn_agg
attribute [local go_sem] loadVar_openM storeVar_openM zero_geo build_geo0 zero_szs zero_blk build_blk

set_option maxRecDepth 100000 in
set_option maxHeartbeats 20000000 in
theorem walk (v0 v1 : Value) (w : World) (w0 : Arg w 23 v0) (w1 : Arg w 37 v1) :
    Calls Tryz.prog 6 #[v0, v1] w fun e w' => e = .returned (.bool true) ∧ Below w.heap.size w w' := by
  obtain ⟨g, hin, rfl⟩ := w0.geo
  obtain ⟨a, len, cap, xs, rfl, hlen, hmx, hs, hb⟩ := w1.bytes Tryz.underlying37 Tryz.underlying5 (by kernel_rfl)
  have HK := Lib.hid metaOk
  have HW := Lib.hid (metaWakes metaOk)
  have HS := Lib.hid hs
  have HIN := Lib.hid hin
  obtain ⟨W, hW⟩ : ∃ W, w.alloc (.cells g.v 23) = W := ⟨_, rfl⟩
  have r0 : RowC W w.heap.size 23 g.cs := by rw [← hW]; exact RowC.new w _ _
  have HB0 : Hid (Below w.heap.size w W) := by show Below _ _ _; rw [← hW]; exact below_new w _
  obtain ⟨B, hB⟩ : ∃ b, w.heap.size = b := ⟨_, rfl⟩
  rw [hB] at r0
  have HR0 := Lib.hid r0
  have LG0 : (loadVar 23 ⟨B, 0, none⟩).run Tryz.prog W = .ok (.agg g.v) W := load_geo r0
  have HHB := Lib.hid hB
  clear w0 w1 r0 hs hin
  by_cases hl : 2000 < len
  · have g1 : decide ((2000 : Int) < (len : Int)) = true := by simp; omega
    clear hl
    go_enter Tryz.func6, Tryz.ntmps6
    go_wp2_with fail
    refine (HW.out _).mono ?_
    rintro e x ⟨rfl, hx⟩
    have HX : Hid (Below w.heap.size w x) := HB0.out.trans (hx.mono HB0.out.size)
    clear hx
    go_wp2_with fail
    go_ret
    first | exact ⟨rfl, HX.out⟩ | exact ⟨rfl, by rw [← hB]; exact HX.out⟩
  · have g1 : decide ((2000 : Int) < (len : Int)) = false := by simp; omega
    clear hl
    by_cases hg : g.light
    · have hlt := lawLight g W
      rw [decide_eq_true hg] at hlt
      go_enter Tryz.func6, Tryz.ntmps6
      go_wp2_with fail
      refine hlt.mono ?_
      rintro e x ⟨rfl, hx⟩
      have HX : Hid (Below W.heap.size W x) := hx
      clear hx hlt hg LG0
      go_wp2_with fail
      refine (HK.out.open_nil x).mono ?_
      rintro e x1 ⟨rfl, hx⟩
      have HX1 : Hid (Below W.heap.size W x1) := HX.out.trans (hx.mono HX.out.size)
      clear hx
      go_wp2_with fail
      have hnew := RAt.new 8 9 w x1 (HB0.out.trans (HX1.out.mono HB0.out.size)) (by decide) (by decide) (by decide) (by decide) (fun _ => False) (fun k hk => hk.elim)
      refine hnew.mono ?_
      rintro e x2 ⟨rb, p0, p1, rfl, hR2, hx⟩
      have HX2 : Hid (Below W.heap.size W x2) := HX1.out.trans (hx.mono HX1.out.size)
      have HR2 := Lib.hid hR2
      clear hnew hR2 hx
      go_wp2_with fail
      obtain ⟨f2, hf2, -⟩ := HR2.out
      refine (HK.out.open_no hf2 (newS_rdy (by decide) (by decide)) (newS_up _ _) (by show 2 ≤ 8; omega) (newS_opn _ _)).mono ?_
      rintro e x3 ⟨rfl, hx⟩
      have HX3 : Hid (Below W.heap.size W x3) := HX2.out.trans (hx.mono HX2.out.size)
      have HR3 : Hid (RAt w x3 rb p0 p1 (newS 8 9) (fun _ => False)) := RAt.beside HR2.out hx
      have L3 := load_geo (HR0.out.below HX3.out)
      clear hx hf2
      go_wp2_with fail
      obtain ⟨f3, hf3, -⟩ := HR3.out
      have hsl := (HS.out.below (HB0.out.trans (HX3.out.mono HB0.out.size)))
      refine (HK.out.format_no hf3 (newS_rdy (by decide) (by decide)) HIN.out hsl (fun h => by have := h.2.1; have := Geo.least h.1; have e : ((newS 8 9).n0 : Int) = 8 := rfl; omega)).mono ?_
      rintro e x4 ⟨rfl, hx⟩
      have HX4 : Hid (Below W.heap.size W x4) := HX3.out.trans (hx.mono HX3.out.size)
      clear hx hf3 hsl L3
      go_wp2_with fail
      have hsl := (HS.out.below (HB0.out.trans (HX4.out.mono HB0.out.size)))
      refine (HK.out.commit_nil x4 hsl).mono ?_
      rintro e x5 ⟨rfl, hx⟩
      have HX5 : Hid (Below W.heap.size W x5) := HX4.out.trans (hx.mono HX4.out.size)
      clear hx hsl
      go_wp2_with fail
      refine (HK.out.bytes_nil x5).mono ?_
      rintro e x6 ⟨v, rfl, ⟨a6, c6, rfl, -⟩, hx⟩
      have HX6 : Hid (Below W.heap.size W x6) := HX5.out.trans (hx.mono HX5.out.size)
      clear hx
      go_wp2_with fail
      refine (HK.out.room_nil x6).mono ?_
      rintro e x7 ⟨rfl, hx⟩
      have HX7 : Hid (Below W.heap.size W x7) := HX6.out.trans (hx.mono HX6.out.size)
      clear hx
      go_wp2_with fail
      refine (HK.out.geom_nil x7).mono ?_
      rintro e x8 ⟨rfl, hx⟩
      have HX8 : Hid (Below W.heap.size W x8) := HX7.out.trans (hx.mono HX7.out.size)
      have EQ := eq_geo ⟨0, 0, 0, 0, 0⟩ x8
      clear hx
      go_wp2_with fail
      refine (HW.out _).mono ?_
      rintro e x9 ⟨rfl, hx⟩
      have HX9 : Hid (Below w.heap.size w x9) := HB0.out.trans ((HX8.out.trans (hx.mono HX8.out.size)).mono HB0.out.size)
      clear hx EQ
      go_wp2_with fail
      go_ret
      first | exact ⟨rfl, HX9.out⟩ | exact ⟨rfl, by rw [← hB]; exact HX9.out⟩
    · have hlt := lawLight g W
      rw [decide_eq_false hg] at hlt
      go_enter Tryz.func6, Tryz.ntmps6
      go_wp2_with fail
      refine hlt.mono ?_
      rintro e x ⟨rfl, hx⟩
      have HX : Hid (Below W.heap.size W x) := hx
      clear hx hlt hg LG0
      go_wp2_with fail
      refine (HW.out _).mono ?_
      rintro e x ⟨rfl, hx⟩
      have HX1 : Hid (Below w.heap.size w x) := HB0.out.trans ((HX.out.trans (hx.mono HX.out.size)).mono HB0.out.size)
      clear hx
      go_wp2_with fail
      go_ret
      first | exact ⟨rfl, HX1.out⟩ | exact ⟨rfl, by rw [← hB]; exact HX1.out⟩

set_option maxRecDepth 100000 in
theorem lifted (os : Os) (started : os.Started) (H : Type) (enc : TypeId × Value → H) :
    ReturnsInHanded {} Tryz.checked os 6 .any (Rows.metaNoneSpec.pre6 enc Tryz.prog Tryz.f6 Rows.metaNoneRow.domain false) (Rows.metaNoneSpec.post enc Tryz.prog Tryz.f6 false true false false) := by
  refine returnsInHanded_of_change (C := Tryz.checked) own started (by kernel_rfl) Tryz.func6
    (ChangeSpec.witness6 (enc := enc) (C := Tryz.checked) false ⟨#[], #[.agg #[.int .i64 0, .int .i64 0, .int .i64 0, .int .i64 0, .int .i64 0], .slice none 0 0], []⟩ 8 (by kernel_rfl) (by kernel_rfl) (by kernel_rfl) (by kernel_rfl)) ?_
  intro W base args ds gs before hval0 hW hcnd _
  have hval : ∀ (j : Nat) t v, Tryz.f6.params[j]? = some t → args[j]? = some v → Value.okWide Tryz.prog W .any base t v := hval0
  have hW' := hW
  obtain ⟨p, q, hA0, hV, rfl, hfz, hnd⟩ := hW
  have hA : DataW.TrodAll enc Tryz.prog W 0 (fun _ => true) true Tryz.f6.params.toList args.toList ds p := hA0
  rw [Tryz.params6] at hA hval
  obtain ⟨v0, vs0, d0, ds0, p0, q0, hargs, rfl, rfl, h0, r0⟩ := trodAll_cons hA
  obtain ⟨v1, vs1, d1, ds1, p1, q1, rfl, rfl, rfl, h1, r1⟩ := trodAll_cons r0
  obtain ⟨rfl, rfl, rfl⟩ := trodAll_nil r1
  obtain rfl : args = #[v0, v1] := by cases args; simp_all
  obtain ⟨rfl, rfl⟩ := trodVars_none hV
  have lt0 : ∀ x ∈ p0, x.block < W.heap.size := by obtain ⟨m, hm⟩ := h0; exact DataW.trod_lt m _ _ _ hm
  have a0 := Arg.mk (hval 0 23 v0 rfl rfl) h0
  have lt1 : ∀ x ∈ p1, x.block < W.heap.size := by obtain ⟨m, hm⟩ := h1; exact DataW.trod_lt m _ _ _ hm
  have a1 := Arg.mk (hval 1 37 v1 rfl rfl) h1
  clear hA0 hval0
  refine (walk v0 v1 W a0 a1).mono fun e W' ⟨he, bel⟩ => ?_
  subst he
  exact ⟨_, rfl, _, _, _, [], _, [], hW', trodAll_mk1 (shut_bool Tryz.underlying4 _), (trodAll_cons_mk (Below.trod laidOut (by kernel_rfl) (of_decide_eq_true (by kernel_rfl)) h0 bel lt0) (trodAll_cons_mk (Below.trod laidOut (by kernel_rfl) (of_decide_eq_true (by kernel_rfl)) h1 bel lt1) trodAll_mk0)), rfl, bel.frame _, fun h => by cases h⟩

set_option maxRecDepth 100000 in
theorem over : Rows.metaNoneRow.holds Tryz.pinned (OpenSpec.ofChange Rows.metaNoneSpec) :=
  OpenClaim.holds_of_wide 6 Tryz.f6 rfl rfl rfl rfl rfl rfl rfl ⟨rfl, rfl, rfl, rfl, rfl⟩ rfl rfl rfl rfl rfl (by kernel_rfl) Tryz.func6 (by kernel_rfl)
    (of_decide_eq_true (by kernel_rfl)) (by unfold Func.isWrapper; first | (rw [if_pos (by decide +kernel)]; kernel_rfl) | (rw [if_neg (by decide +kernel)]; exact ⟨rfl, rfl⟩))
    (fun os started H enc _ => lifted os started H enc)

theorem proved : Rows.MetaNoneSaid := over
#print axioms proved
end Go.Proofs.YtbdfllamhcodjaaGreat.metaNone
