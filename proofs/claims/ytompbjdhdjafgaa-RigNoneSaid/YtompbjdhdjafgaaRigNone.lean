/- Whatever the step, RigNone returns true and leaves its argument as it was; no conditions. -/
import Derived.Test.YtompbjdhdjafgaaRigNil
import Derived.Test.YtompbjdhdjafgaaSteps04
import Derived.Test.YtompbjdhdjafgaaRWakes
import Derived.Test.YtompbjdhdjafgaaQuiet
namespace Go.Proofs.Ytompbjdhdjafgaa.rigNone
open Go.ChangeShapes Go.WideShapes Go.ChangeAt Go.RowKit
set_option linter.unusedVariables false
attribute [-simp] Try.isAgg38 Try.zeroValue38
attribute [-go_sem] loadVar storeVar
attribute [local go_sem] zero_blk build_blk loadVar_open storeVar_open store_fill eq_fill eq_fill_z

set_option maxRecDepth 100000 in
set_option maxHeartbeats 4000000 in
theorem walk (v0 : Value) (w : World) (w0 : Arg w 35 v0) :
    Calls Try.prog 5 #[v0] w fun e w' => e = .returned (.bool true) ∧ Below w.heap.size w w' := by
  obtain ⟨s, hs, rfl⟩ := w0.step
  have HW := Lib.hid (wakes_any)
  have HS := Lib.hid hs
  clear hs w0
  obtain ⟨kind, dev, i, v, p, cap, bs, p', cap', bs'⟩ := s
  obtain ⟨L, hL⟩ : ∃ L, bs.length = L := ⟨_, rfl⟩
  obtain ⟨L', hL'⟩ : ∃ L, bs'.length = L := ⟨_, rfl⟩
  have HL := Lib.hid hL
  have HL' := Lib.hid hL'
  simp only [St.pick0, St.pick1, hL, hL']
  clear hL hL'
  -- the variable x, and the slice of it
  obtain ⟨cs, hcs⟩ : ∃ cs, #[Value.int .i64 kind, .int .i64 dev, .int .i64 i, .int .u8 v, .slice p L cap, .slice p' L' cap'] = cs := ⟨_, rfl⟩
  obtain ⟨W, hW⟩ : ∃ W, w.alloc (.cells #[.int .i64 kind, .int .i64 dev, .int .i64 i, .int .u8 v, .slice p L cap, .slice p' L' cap'] 35) = W := ⟨_, rfl⟩
  have hB : Below w.heap.size w W := by rw [← hW]; exact (Below.refl _ w).alloc (Nat.le_refl _) _
  have hc : ∀ x : World, Below W.heap.size W x → ∀ j, x.cell? ⟨w.heap.size, j, none⟩ = #[Value.int .i64 kind, .int .i64 dev, .int .i64 i, .int .u8 v, .slice p L cap, .slice p' L' cap'][j]? := by
    intro x hx j
    have hb : x.heap[w.heap.size]? = some (.cells #[.int .i64 kind, .int .i64 dev, .int .i64 i, .int .u8 v, .slice p L cap, .slice p' L' cap'] 35 (0, 0)) := (hx.block _ (by rw [← hW]; simp)).trans (by rw [← hW]; exact heap_alloc_new w _)
    exact cell_of_row x _ j _ _ _ hb
  obtain ⟨W2, hW2⟩ : ∃ W2, W.alloc (.cells #[.int .i64 kind, .int .i64 dev, .int .i64 i, .int .u8 v, .slice p L cap, .slice p' L' cap'] 35) = W2 := ⟨_, rfl⟩
  have hB2 : Below W.heap.size W W2 := by rw [← hW2]; exact (Below.refl _ W).alloc (Nat.le_refl _) _
  have hst : Steps W2 (.slice (some ⟨W.heap.size, 0, none⟩) 1 1) [⟨kind, dev, i, v, p, cap, bs, p', cap', bs'⟩] := by
    refine ⟨_, 1, rfl, Nat.le_refl _, by simp [maxLen], fun s hs => ?_, .inr ⟨W.heap.size, 0, rfl, by rw [← hW2]; simp, fun j s hj => ?_⟩⟩
    · rw [List.mem_singleton.1 hs]; exact (HS.out.below hB).below hB2
    · match j, hj with
      | 0, hj =>
        cases hj
        have hb : W2.heap[W.heap.size]? = some (.cells #[.int .i64 kind, .int .i64 dev, .int .i64 i, .int .u8 v, .slice p L cap, .slice p' L' cap'] 35 (0, 0)) := by rw [← hW2]; exact heap_alloc_new W _
        refine ⟨cell_of_row W2 _ 0 _ _ _ hb, cell_of_row W2 _ 1 _ _ _ hb, cell_of_row W2 _ 2 _ _ _ hb, cell_of_row W2 _ 3 _ _ _ hb, ?_, ?_⟩
        · rw [show (⟨kind, dev, i, v, p, cap, bs, p', cap', bs'⟩ : St).pick0 = .slice p L cap by show Value.slice p bs.length cap = _; rw [HL.out]]
          exact cell_of_row W2 _ 4 _ _ _ hb
        · rw [show (⟨kind, dev, i, v, p, cap, bs, p', cap', bs'⟩ : St).pick1 = .slice p' L' cap' by show Value.slice p' bs'.length cap' = _; rw [HL'.out]]
          exact cell_of_row W2 _ 5 _ _ _ hb
      | j + 1, hj => simp at hj
  have HF := Lib.hid (fair_any _ _ W2 hst)
  obtain ⟨b, hb⟩ : ∃ b, fairB [⟨kind, dev, i, v, p, cap, bs, p', cap', bs'⟩] = b := ⟨_, rfl⟩
  rw [hb] at HF
  have HB := Lib.hid hB
  have HB2 := Lib.hid hB2
  have d0 : W.cell? ⟨w.heap.size, 0, none⟩ = some (.int .i64 kind) := hc W (Below.refl _ _) 0
  have d1 : W.cell? ⟨w.heap.size, 1, none⟩ = some (.int .i64 dev) := hc W (Below.refl _ _) 1
  have d2 : W.cell? ⟨w.heap.size, 2, none⟩ = some (.int .i64 i) := hc W (Below.refl _ _) 2
  have d3 : W.cell? ⟨w.heap.size, 3, none⟩ = some (.int .u8 v) := hc W (Below.refl _ _) 3
  have d4 : W.cell? ⟨w.heap.size, 4, none⟩ = some (.slice p L cap) := hc W (Below.refl _ _) 4
  have d5 : W.cell? ⟨w.heap.size, 5, none⟩ = some (.slice p' L' cap') := hc W (Below.refl _ _) 5
  have e1 : W2.cell? ⟨w.heap.size, 1, none⟩ = some (.int .i64 dev) := hc W2 hB2 1
  have e2 : W2.cell? ⟨w.heap.size, 2, none⟩ = some (.int .i64 i) := hc W2 hB2 2
  have e4 : W2.cell? ⟨w.heap.size, 4, none⟩ = some (.slice p L cap) := hc W2 hB2 4
  have e5 : W2.cell? ⟨w.heap.size, 5, none⟩ = some (.slice p' L' cap') := hc W2 hB2 5
  have HC := Lib.hid hc
  clear hst hb hB hB2 hc hcs
  go_enter Try.func5, Try.ntmps5
  go_wp2_with fail
  refine HF.out.mono ?_
  rintro e w' ⟨rfl, hx⟩
  obtain rfl := hx.symm
  clear hx HF hW hW2
  cases b with
  | false =>
    go_wp2_with fail
    refine (HW.out _).mono ?_
    rintro e w' ⟨rfl, hB⟩
    have HB3 := Lib.hid hB
    clear hB
    go_wp2_with fail
    go_ret
    exact ⟨rfl, (HB.out.trans (HB2.out.mono HB.out.size)).trans (HB3.out.mono (HB.out.trans (HB2.out.mono HB.out.size)).size)⟩
  | true =>
    go_wp2_with fail
    refine (nil_arm i W2).mono ?_
    rintro e w' ⟨rfl, hx⟩
    obtain rfl := hx.symm
    clear hx
    go_wp2_with fail
    refine (nil_crash (.slice p L cap) (.slice p' L' cap') W2).mono ?_
    rintro e w' ⟨rfl, hx⟩
    obtain rfl := hx.symm
    clear hx
    go_wp2_with fail
    refine (nil_read dev i W2).mono ?_
    rintro e w4 ⟨rfl, hb⟩
    have HB4 : Hid (Below W.heap.size W w4) := HB2.out.trans (hb.mono HB2.out.size)
    clear hb d0 d1 d2 d3 d4 d5 e1 e2 e4 e5
    go_wp2_with fail
    obtain ⟨X, hX⟩ : ∃ X, w4.alloc (.cells (fillB 0).toArray 38) = X := ⟨_, rfl⟩
    have HBX : Hid (Below W.heap.size W X) := by rw [← hX]; exact HB4.out.alloc HB4.out.size _
    have kX : X.heap[w4.heap.size]? = some (.cells (fillB 0).toArray 38 (0, 0)) := by rw [← hX]; exact heap_alloc_new w4 _
    rw [hX]
    have r1 : ∀ x : Ext X, x.1.cell? ⟨w.heap.size, 1, none⟩ = some (.int .i64 dev) := fun x => HC.out x.1 (HBX.out.trans (x.2.mono HBX.out.size)) 1
    have r2 : ∀ x : Ext X, x.1.cell? ⟨w.heap.size, 2, none⟩ = some (.int .i64 i) := fun x => HC.out x.1 (HBX.out.trans (x.2.mono HBX.out.size)) 2
    have r3 : ∀ x : Ext X, x.1.cell? ⟨w.heap.size, 3, none⟩ = some (.int .u8 v) := fun x => HC.out x.1 (HBX.out.trans (x.2.mono HBX.out.size)) 3
    have r4 : ∀ x : Ext X, (loadVar 38 ⟨w4.heap.size, 0, none⟩).run Try.prog x.1 = .ok (.agg (fillB 0).toArray) x.1 := fun x => load_at ((x.2.block _ (Array.getElem?_eq_some_iff.1 kX).1).trans kX) (isBlk_fill 0)
    have Q1 : Hid (∀ x : Ext X, Calls Try.prog 13 #[.int .u8 v] x.1 fun e w'' => e = .returned (.agg (fillB v).toArray) ∧ ∃ y : Ext X, w'' = y.1) := fun x => calls_ext x (fill_any v _)
    have Q2 : Hid (∀ x : Ext X, Calls Try.prog 12 #[.pointer none, .int .i64 dev, .int .i64 i, .agg (fillB v).toArray] x.1 fun e w'' => e = .returned (.int .i64 1) ∧ ∃ y : Ext X, w'' = y.1) := fun x => calls_ext x (nil_write dev i (fillB v) x.1)
    have Q3 : Hid (∀ x : Ext X, Calls Try.prog 17 #[.pointer none, .int .i64 dev] x.1 fun e w'' => e = .returned (.int .i64 1) ∧ ∃ y : Ext X, w'' = y.1) := fun x => calls_ext x (nil_flush dev x.1)
    have Q4 : Hid (∀ x : Ext X, Calls Try.prog 22 #[.pointer none] x.1 fun e w'' => e = .returned (.bool false) ∧ ∃ y : Ext X, w'' = y.1) := fun x => (nil_down x.1).mono fun e w' ⟨h1, h2⟩ => ⟨h1, x, h2⟩
    have Q5 : Hid (∀ x : Ext X, Calls Try.prog 24 #[.pointer none, .int .i64 dev] x.1 fun e w'' => e = .returned (.int .i64 0) ∧ ∃ y : Ext X, w'' = y.1) := fun x => calls_ext x (nil_len dev x.1)
    have Q6 : Hid (∀ x : Ext X, Calls Try.prog 23 #[.pointer none] x.1 fun e w'' => e = .returned (.int .i64 0) ∧ ∃ y : Ext X, w'' = y.1) := fun x => (nil_done x.1).mono fun e w' ⟨h1, h2⟩ => ⟨h1, x, h2⟩
    have Q7 : Hid (∀ x : Ext X, Calls Try.prog 9 #[] x.1 fun e w'' => e = .returned (.bool true) ∧ ∃ y : Ext X, w'' = y.1) := fun x => calls_ext x (HW.out _)
    clear hX kX HB4
    refine region_ext (by kernel_rfl) (by kernel_rfl) ?_
    repeat (go_big_quiet_step (with_reducible (first | exact Q1.out _ | exact Q2.out _ | exact Q3.out _ | exact Q4.out _ | exact Q5.out _ | exact Q6.out _ | exact Q7.out _)))
    refine wpQuiet_nil ?_
    intro x
    go_wp2_with fail
    go_ret
    exact ⟨rfl, HB.out.trans ((HBX.out.trans (x.2.mono HBX.out.size)).mono HB.out.size)⟩

set_option maxRecDepth 100000 in
theorem lifted (os : Os) (started : os.Started) (H : Type) (enc : TypeId × Value → H) :
    ReturnsInHanded {} Try.checked os 5 .any (Rows.rigNoneSpec.pre6 enc Try.prog Try.f5 Rows.rigNoneRow.domain false) (Rows.rigNoneSpec.post enc Try.prog Try.f5 false true false false) := by
  refine returnsInHanded_of_change (C := Try.checked) own started (by kernel_rfl) Try.func5
    (ChangeSpec.witness6 (enc := enc) (C := Try.checked) false ⟨#[], #[.agg #[.int .i64 0, .int .i64 0, .int .i64 0, .int .u8 0, .slice none 0 0, .slice none 0 0]], []⟩ 8 (by kernel_rfl) (by kernel_rfl) (by kernel_rfl) (by kernel_rfl)) ?_
  intro W base args ds gs before hval0 hW hcnd _
  have hval : ∀ (j : Nat) t v, Try.f5.params[j]? = some t → args[j]? = some v → Value.okWide Try.prog W .any base t v := hval0
  have hW' := hW
  obtain ⟨p, q, hA0, hV, rfl, hfz, hnd⟩ := hW
  have hA : DataW.TrodAll enc Try.prog W 0 (fun _ => true) true Try.f5.params.toList args.toList ds p := hA0
  rw [Try.params5] at hA hval
  obtain ⟨v0, vs0, d0, ds0, p0, q0, hargs, rfl, rfl, h0, r0⟩ := trodAll_cons hA
  obtain ⟨rfl, rfl, rfl⟩ := trodAll_nil r0
  obtain rfl : args = #[v0] := by cases args; simp_all
  obtain ⟨rfl, rfl⟩ := trodVars_none hV
  have lt0 : ∀ x ∈ p0, x.block < W.heap.size := by obtain ⟨m, hm⟩ := h0; exact DataW.trod_lt m _ _ _ hm
  have a0 := Arg.mk (hval 0 35 v0 rfl rfl) h0
  clear hA0 hval0
  refine (walk v0 W a0).mono fun e W' ⟨he, bel⟩ => ?_
  subst he
  exact ⟨_, rfl, _, _, _, [], _, [], hW', trodAll_mk1 (shut_bool Try.underlying4 _), (trodAll_cons_mk (Below.trod laidOut (by kernel_rfl) (of_decide_eq_true (by kernel_rfl)) h0 bel lt0) trodAll_mk0), rfl, bel.frame _, fun h => by cases h⟩

theorem over : Rows.rigNoneRow.holds Try.pinned (OpenSpec.ofChange Rows.rigNoneSpec) :=
  OpenClaim.holds_of_wide 5 Try.f5 rfl rfl rfl rfl rfl rfl rfl ⟨rfl, rfl, rfl, rfl, rfl⟩ rfl rfl rfl rfl rfl (by kernel_rfl) Try.func5 (by kernel_rfl)
    (of_decide_eq_true (by kernel_rfl)) (by unfold Func.isWrapper; first | (rw [if_pos (by decide +kernel)]; kernel_rfl) | (rw [if_neg (by decide +kernel)]; exact ⟨rfl, rfl⟩))
    (fun os started H enc _ => lifted os started H enc)

theorem proved : Rows.RigNoneSaid := over
#print axioms proved
end Go.Proofs.Ytompbjdhdjafgaa.rigNone
