/- A nil rig. -/
import Derived.Test.YtompbjdhdjafgaaRigRd
namespace Go.Proofs.Ytompbjdhdjafgaa
open Go.RowKit Go.Shelf
set_option linter.unusedVariables false
attribute [-simp] Try.isAgg38 Try.zeroValue38
attribute [-go_sem] loadVar storeVar
attribute [local go_sem] zero_blk build_blk loadVar_open storeVar_open

set_option maxRecDepth 100000 in
set_option maxHeartbeats 1000000 in
theorem nil_arm (n : Int) (w : World) : Calls Try.prog 21 #[.pointer none, .int .i64 n] w fun e w' => e = .returned (.tuple #[]) ∧ w' = w := by
  go_enter Try.func21, Try.ntmps21
  go_wp2
  go_end0
  exact ⟨rfl, rfl⟩

set_option maxRecDepth 100000 in
set_option maxHeartbeats 1000000 in
theorem nil_down (w : World) : Calls Try.prog 22 #[.pointer none] w fun e w' => e = .returned (.bool false) ∧ w' = w := by
  go_enter Try.func22, Try.ntmps22
  go_wp2
  go_ret
  exact ⟨rfl, rfl⟩

set_option maxRecDepth 100000 in
set_option maxHeartbeats 1000000 in
theorem nil_done (w : World) : Calls Try.prog 23 #[.pointer none] w fun e w' => e = .returned (.int .i64 0) ∧ w' = w := by
  go_enter Try.func23, Try.ntmps23
  go_wp2
  go_ret
  exact ⟨rfl, rfl⟩

set_option maxRecDepth 100000 in
set_option maxHeartbeats 1000000 in
theorem nil_crash (v0 v1 : Value) (w : World) : Calls Try.prog 19 #[.pointer none, v0, v1] w fun e w' => e = .returned (.tuple #[]) ∧ w' = w := by
  go_enter Try.func19, Try.ntmps19
  go_wp2
  refine bodyPost_ret (results_none rfl _ _ _) rfl ?_
  exact ⟨rfl, rfl⟩

set_option maxRecDepth 100000 in
set_option maxHeartbeats 1000000 in
theorem nil_len (dev : Int) (w : World) : Calls Try.prog 24 #[.pointer none, .int .i64 dev] w fun e w' => e = .returned (.int .i64 0) ∧ Below w.heap.size w w' := by
  have H1 := Lib.hid (disk_nil dev w)
  go_enter Try.func24, Try.ntmps24
  go_wp2_with fail
  refine H1.out.mono ?_
  rintro e x1 ⟨rfl, hb⟩
  have HB := Lib.hid hb
  clear hb
  go_wp2_with fail
  refine (len_nil x1).mono ?_
  rintro e w' ⟨rfl, rfl⟩
  go_wp2_with fail
  go_ret
  exact ⟨rfl, HB.out⟩

set_option maxRecDepth 100000 in
set_option maxHeartbeats 1000000 in
theorem nil_flush (dev : Int) (w : World) : Calls Try.prog 17 #[.pointer none, .int .i64 dev] w fun e w' => e = .returned (.int .i64 1) ∧ Below w.heap.size w w' := by
  have H1 := Lib.hid (disk_nil dev w)
  go_enter Try.func17, Try.ntmps17
  go_wp2_with fail
  refine H1.out.mono ?_
  rintro e x1 ⟨rfl, hb⟩
  have HB := Lib.hid hb
  clear hb
  go_wp2_with fail
  go_ret
  exact ⟨rfl, HB.out⟩

theorem nil_has (i : Int) (w : World) : Calls Try.prog 29 #[.pointer none, .int .i64 i] w fun e w' => e = .returned (.bool false) ∧ w' = w := by
  have := has_rig none 0 i w (len_nil w)
  rwa [show decide (0 ≤ i ∧ i < ((0 : Nat) : Int)) = false by simp] at this

set_option maxRecDepth 100000 in
set_option maxHeartbeats 1000000 in
theorem nil_write (dev i : Int) (b : List Value) (w : World) : Calls Try.prog 12 #[.pointer none, .int .i64 dev, .int .i64 i, .agg b.toArray] w fun e w' => e = .returned (.int .i64 1) ∧ Below w.heap.size w w' := by
  obtain ⟨W, hW⟩ : ∃ W, w.alloc (.cells b.toArray 38) = W := ⟨_, rfl⟩
  have HB0 : Hid (Below w.heap.size w W) := by rw [← hW]; exact (Below.refl _ w).alloc (Nat.le_refl _) _
  have H1 := Lib.hid (disk_nil dev W)
  go_enter Try.func12, Try.ntmps12
  go_wp2_with (with_reducible (rw [hW]; clear hW))
  refine H1.out.mono ?_
  rintro e x1 ⟨rfl, hb⟩
  have HB := Lib.hid hb
  clear hb
  go_wp2_with fail
  refine (nil_has i x1).mono ?_
  rintro e w' ⟨rfl, hx⟩
  obtain rfl := hx.symm
  clear hx
  go_wp2_with fail
  go_ret
  exact ⟨rfl, HB0.out.trans (HB.out.mono HB0.out.size)⟩

set_option maxRecDepth 100000 in
set_option maxHeartbeats 1000000 in
theorem nil_read (dev i : Int) (w : World) : Calls Try.prog 15 #[.pointer none, .int .i64 dev, .int .i64 i] w fun e w' => e = .returned (.tuple #[.agg (fillB 0).toArray, .int .i64 1]) ∧ Below w.heap.size w w' := by
  obtain ⟨W, hW⟩ : ∃ W, w.alloc (.cells zarr 38) = W := ⟨_, rfl⟩
  have HB0 : Hid (Below w.heap.size w W) := by rw [← hW]; exact (Below.refl _ w).alloc (Nat.le_refl _) _
  have K : Hid (W.heap[w.heap.size]? = some (.cells zarr 38 (0, 0)) ∧ w.heap.size < W.heap.size) := by rw [← hW]; exact ⟨heap_alloc_new w _, by simp⟩
  have H1 := Lib.hid (disk_nil dev W)
  go_enter Try.func15, Try.ntmps15
  go_wp2_with (with_reducible (rw [hW]; clear hW))
  refine H1.out.mono ?_
  rintro e x1 ⟨rfl, hb⟩
  have HB := Lib.hid hb
  clear hb
  go_wp2_with fail
  refine (nil_has i x1).mono ?_
  rintro e w' ⟨rfl, hx⟩
  obtain rfl := hx.symm
  clear hx
  obtain ⟨x2, st, ld, hb2⟩ := own_cell ((HB.out.block _ K.out.2).trans K.out.1) zarr_size (HB0.out.trans (HB.out.mono HB0.out.size)) (isBlk_fill 0)
  have st' : (storeVar 38 ⟨w.heap.size, 0, none⟩ (.agg zarr)).run Try.prog x1 = .ok () x2 := st
  have HB2 := Lib.hid hb2
  clear st hb2
  go_wp2_with fail
  exact bodyPost_ret (results_cell2 rfl rfl ld) rfl ⟨rfl, HB2.out⟩
end Go.Proofs.Ytompbjdhdjafgaa
