/- A map of blocks in slots that nobody made has nothing, for every step; no condition. -/
import Derived.Test.YtlpmikbplngmnaaWdW
import Derived.Test.YtlpmikbplngmnaaWdS
import Derived.Test.YtlpmikbplngmnaaMod
namespace Go.Proofs.Ytlpmikbplngmnaa.waysNone
open Go.ChangeShapes Go.WideShapes Go.ChangeAt Go.RowKit
set_option linter.unusedVariables false
open Go.Shelf Go.Lib
set_option linter.unusedSimpArgs false

set_option maxRecDepth 100000 in
set_option maxHeartbeats 2000000 in
theorem walk (v0 : Value) (w : World) (w0 : Arg w 33 v0) :
    Calls Try.prog 5 #[v0] w fun e w' => e = .returned (.bool true) ∧ Below w.heap.size w w' := by
  obtain ⟨s, hs, rfl⟩ := w0.wt
  obtain ⟨kd, b, sl, d⟩ := s
  obtain ⟨B, hB⟩ : ∃ B, w.heap.size = B := ⟨_, rfl⟩
  obtain ⟨W, hW⟩ : ∃ W, w.alloc (.cells #[.int .i64 kd, .int .i64 b, .int .i64 sl, .bool d] 33) = W := ⟨_, rfl⟩
  have r : RowC W B 33 [.int .i64 kd, .int .i64 b, .int .i64 sl, .bool d] := by rw [← hW, ← hB]; exact RowC.new _ _ _
  have HB : Hid (Below B w W) := by show Below B w W; rw [← hW, ← hB]; exact below_new _ _
  have HSZ := Lib.hid hB
  have c1 := r.cell 1 _ rfl
  have c2 := r.cell 2 _ rfl
  have c3 := r.cell 3 _ rfl
  have H1 := Lib.hid (nil_put (w := W) sl b d)
  have H2 := Lib.hid (nil_clean (w := W) sl)
  have H3 := Lib.hid (nil_drop (w := W) sl)
  have H4 := Lib.hid (nil_touch (w := W) sl)
  have H5 := Lib.hid (nil_find (w := W) b)
  have H6 := Lib.hid (nil_room (w := W) b)
  have H7 := Lib.hid (nil_dirtiest (w := W) b)
  have H8 := Lib.hid (nil_block (w := W) sl)
  have H9 := Lib.hid (nil_dirty (w := W))
  have HW := Lib.hid (ways_wakes W)
  have HZ : Hid (B ≤ W.heap.size) := by show B ≤ W.heap.size; have := HB.out.size; omega
  clear w0 hs r
  go_enter Try.func5, Try.ntmps5
  go_wp2_with fail
  refine H1.out.mono ?_
  rintro e x ⟨rfl, rfl⟩
  go_wp2_with fail
  refine H2.out.mono ?_
  rintro e x ⟨rfl, rfl⟩
  go_wp2_with fail
  refine H3.out.mono ?_
  rintro e x ⟨rfl, rfl⟩
  go_wp2_with fail
  refine H4.out.mono ?_
  rintro e x ⟨rfl, rfl⟩
  go_wp2_with fail
  refine H5.out.mono ?_
  rintro e x ⟨rfl, rfl⟩
  go_wp2_with fail
  refine H6.out.mono ?_
  rintro e x ⟨rfl, rfl⟩
  go_wp2_with fail
  refine H7.out.mono ?_
  rintro e x ⟨rfl, rfl⟩
  go_wp2_with fail
  refine H8.out.mono ?_
  rintro e x ⟨rfl, rfl⟩
  go_wp2_with fail
  refine H9.out.mono ?_
  rintro e x ⟨rfl, rfl⟩
  go_wp2_with fail
  refine HW.out.mono ?_
  rintro e z ⟨rfl, hz⟩
  have B2 := Lib.hid (HB.out.trans (hz.mono HZ.out))
  clear hz
  go_wp2_with fail
  go_ret
  exact ⟨rfl, by rw [HSZ.out]; exact B2.out⟩

set_option maxRecDepth 100000 in
theorem lifted (os : Os) (started : os.Started) (H : Type) (enc : TypeId × Value → H) :
    ReturnsInHanded {} Try.checked os 5 .any (Rows.waysNoneSpec.pre6 enc Try.prog Try.f5 Rows.waysNoneRow.domain false) (Rows.waysNoneSpec.post enc Try.prog Try.f5 false true false false) := by
  refine returnsInHanded_of_change (C := Try.checked) own started (by kernel_rfl) Try.func5
    (ChangeSpec.witness6 (enc := enc) (C := Try.checked) false ⟨#[], #[.agg #[.int .i64 0, .int .i64 0, .int .i64 0, .bool false]], []⟩ 8 (by kernel_rfl) (by kernel_rfl) (by kernel_rfl) (by kernel_rfl)) ?_
  intro W base args ds gs before hval0 hW hcnd _
  have hval : ∀ (j : Nat) t v, Try.f5.params[j]? = some t → args[j]? = some v → Value.okWide Try.prog W .any base t v := hval0
  have hW' := hW
  obtain ⟨p, q, hA0, hV, rfl, hfz, hnd⟩ := hW
  have hA : DataW.TrodAll enc Try.prog W 0 (fun _ => true) true Try.f5.params.toList args.toList ds p := hA0
  rw [Try.params5] at hA hval
  obtain ⟨v0, vs0, d0, ds0, p0, q0, hargs, rfl, rfl, h0, r0⟩ := trodAll_cons hA
  obtain ⟨rfl, rfl, rfl⟩ := trodAll_nil r0
  obtain rfl : args = #[v0] := by cases args; simp_all
  obtain ⟨rfl, rfl⟩ := trodVars_none hV
  have lt0 : ∀ x ∈ p0, x.block < W.heap.size := by obtain ⟨m, hm⟩ := h0; exact DataW.trod_lt m _ _ _ hm
  have a0 := Arg.mk (hval 0 33 v0 rfl rfl) h0
  clear hA0 hval0
  refine (walk v0 W a0).mono fun e W' ⟨he, bel⟩ => ?_
  subst he
  exact ⟨_, rfl, _, _, _, [], _, [], hW', trodAll_mk1 (shut_bool Try.underlying4 _), (trodAll_cons_mk (Below.trod laidOut (by kernel_rfl) (of_decide_eq_true (by kernel_rfl)) h0 bel lt0) trodAll_mk0), rfl, bel.frame _, fun h => by cases h⟩

set_option maxRecDepth 100000 in
theorem over : Rows.waysNoneRow.holds Try.pinned (OpenSpec.ofChange Rows.waysNoneSpec) :=
  OpenClaim.holds_of_wide 5 Try.f5 rfl rfl rfl rfl rfl rfl rfl ⟨rfl, rfl, rfl, rfl, rfl⟩ rfl rfl rfl rfl rfl (by kernel_rfl) Try.func5 (by kernel_rfl)
    (of_decide_eq_true (by kernel_rfl)) (by unfold Func.isWrapper; first | (rw [if_pos (by decide +kernel)]; kernel_rfl) | (rw [if_neg (by decide +kernel)]; exact ⟨rfl, rfl⟩))
    (fun os started H enc _ => lifted os started H enc)

theorem proved : Rows.WaysNoneSaid := over
#print axioms proved
end Go.Proofs.Ytlpmikbplngmnaa.waysNone
