/- What the developers' geometry promises, all of it. -/
import Derived.Test.YtnffaekbldcphaaGmFs
namespace Go.Proofs.Ytnffaekbldcphaa
open Go.RowKit Go.Shelf
set_option linter.unusedVariables false
attribute [-simp] Try.isAgg36 Try.zeroValue36
attribute [-go_sem] loadVar storeVar
attribute [local go_sem] loadVar_open7 storeVar_open7
set_option maxRecDepth 100000 in
theorem field_first (f c : Int) (w : World) : (Instr.field 36 (.agg #[.int .i64 f, .int .i64 c]) 0).run Try.prog w = .ok (.int .i64 f) w := by kernel_rfl
attribute [local go_sem] field_first

theorem Geo.fcs_ring (g : Geo) : spF g.fcs 1 = g.oR := by
  unfold Geo.fcs Geo.oR
  by_cases hg : g.good
  · rw [if_pos hg, if_pos hg]; simp [spF, sumTo]
  · rw [if_neg hg, if_neg hg]; rfl
theorem Geo.fcs_home (g : Geo) : spF g.fcs 2 = g.oH := by
  unfold Geo.fcs Geo.oH
  by_cases hg : g.good
  · rw [if_pos hg, if_pos hg]; simp [spF, sumTo]
  · rw [if_neg hg, if_neg hg]; rfl
theorem Geo.fcs_slot (g : Geo) (i : Int) : (if 0 ≤ i ∧ i < spC g.fcs 3 then spF g.fcs 3 + i else 0) = g.oS i := by
  unfold Geo.fcs Geo.oS
  by_cases hg : g.good
  · rw [if_pos hg]
    have e1 : spF [2, g.r, g.pgs, g.slots] 3 = 2 + g.r + g.pgs := by simp [spF, sumTo]; omega
    have e2 : spC [2, g.r, g.pgs, g.slots] 3 = g.slots := by simp [spC, ctAt]
    rw [e1, e2]
    simp only [hg, true_and]
  · have e2 : spC [] 3 = 0 := rfl
    rw [if_neg hg, e2, if_neg (by omega), if_neg (fun h => hg h.1)]
theorem Geo.wcs_area (g : Geo) (i : Int) : (if 0 ≤ i ∧ i < spC g.wcs 1 then spF g.wcs 1 + i else 0) = g.oA i := by
  unfold Geo.wcs Geo.oA
  by_cases hg : g.good
  · rw [if_pos hg]
    have e1 : spF [g.b, g.a] 1 = g.b := by simp [spF, sumTo]
    have e2 : spC [g.b, g.a] 1 = g.a := by simp [spC, ctAt]
    rw [e1, e2]
    simp only [hg, true_and]
  · have e2 : spC [] 1 = 0 := rfl
    rw [if_neg hg, e2, if_neg (by omega), if_neg (fun h => hg h.1)]
theorem Geo.fcs_all (g : Geo) : sumTo g.fcs g.fcs.length = g.oF := by
  unfold Geo.fcs Geo.oF
  by_cases hg : g.good
  · rw [if_pos hg, if_pos hg]; simp [sumTo]; omega
  · rw [if_neg hg, if_neg hg]; rfl
theorem Geo.wcs_all (g : Geo) : sumTo g.wcs g.wcs.length = g.oW := by
  unfold Geo.wcs Geo.oW
  by_cases hg : g.good
  · rw [if_pos hg, if_pos hg]; simp [sumTo]
  · rw [if_neg hg, if_neg hg]; rfl
theorem sp_bd {cs : List Int} (h : Cnts cs) (p : Nat) (hp : p ≤ 4) : (0 ≤ spF cs p ∧ spF cs p ≤ 4000) ∧ (0 ≤ spC cs p ∧ spC cs p ≤ 1000) := by
  have := sumTo_bd cs h.bd p
  have := h.bd p
  constructor
  · unfold spF; split <;> omega
  · unfold spC; split <;> omega

section
set_option maxRecDepth 100000
set_option maxHeartbeats 4000000
set_option maxRecDepth 100000 in
theorem gmRing (g : Geo) (hi : g.In) (w : World) : Calls Try.prog 11 #[.agg g.v] w fun e w' => e = .returned (.int .i64 g.oR) ∧ Below w.heap.size w w' := by
  obtain ⟨W, hW⟩ : ∃ W, w.alloc (.cells g.v 23) = W := ⟨_, rfl⟩
  have r : RowC W w.heap.size 23 g.cs := by rw [← hW]; exact RowC.new w _ _
  have HB : Hid (Below w.heap.size w W) := by show Below _ _ _; rw [← hW]; exact below_new w _
  obtain ⟨B, hB⟩ : ∃ b, w.heap.size = b := ⟨_, rfl⟩
  rw [hB] at r
  have HSZ := Lib.hid hB
  have L0 := load_geo r
  have HP := Lib.hid (gmFastP g hi W)
  have HO := Lib.hid g.fcs_ok
  have HV := Lib.hid (g.fcs_ring)
  clear r hi
  go_enter Try.func11, Try.ntmps11
  go_wp2_with fail
  refine HP.out.mono ?_
  rintro e x ⟨Bs, a, b, rfl, hL, hb⟩
  have HBX : Hid (Below w.heap.size w x) := HB.out.trans (hb.mono HB.out.size)
  have HL := Lib.hid hL
  clear hb hL L0
  go_wp2_with fail
  refine (gmFind _ HO.out _ _ 1 _ _ HL.out).mono ?_
  rintro e y ⟨rfl, hb⟩
  have HBY : Hid (Below w.heap.size w y) := HBX.out.trans (hb.mono HBX.out.size)
  clear hb
  go_wp2_with fail
  go_ret
  rw [HV.out]
  first | exact ⟨rfl, HBY.out⟩ | exact ⟨rfl, by rw [← hB]; exact HBY.out⟩
set_option maxRecDepth 100000 in
theorem gmHome (g : Geo) (hi : g.In) (w : World) : Calls Try.prog 12 #[.agg g.v] w fun e w' => e = .returned (.int .i64 g.oH) ∧ Below w.heap.size w w' := by
  obtain ⟨W, hW⟩ : ∃ W, w.alloc (.cells g.v 23) = W := ⟨_, rfl⟩
  have r : RowC W w.heap.size 23 g.cs := by rw [← hW]; exact RowC.new w _ _
  have HB : Hid (Below w.heap.size w W) := by show Below _ _ _; rw [← hW]; exact below_new w _
  obtain ⟨B, hB⟩ : ∃ b, w.heap.size = b := ⟨_, rfl⟩
  rw [hB] at r
  have HSZ := Lib.hid hB
  have L0 := load_geo r
  have HP := Lib.hid (gmFastP g hi W)
  have HO := Lib.hid g.fcs_ok
  have HV := Lib.hid (g.fcs_home)
  clear r hi
  go_enter Try.func12, Try.ntmps12
  go_wp2_with fail
  refine HP.out.mono ?_
  rintro e x ⟨Bs, a, b, rfl, hL, hb⟩
  have HBX : Hid (Below w.heap.size w x) := HB.out.trans (hb.mono HB.out.size)
  have HL := Lib.hid hL
  clear hb hL L0
  go_wp2_with fail
  refine (gmFind _ HO.out _ _ 2 _ _ HL.out).mono ?_
  rintro e y ⟨rfl, hb⟩
  have HBY : Hid (Below w.heap.size w y) := HBX.out.trans (hb.mono HBX.out.size)
  clear hb
  go_wp2_with fail
  go_ret
  rw [HV.out]
  first | exact ⟨rfl, HBY.out⟩ | exact ⟨rfl, by rw [← hB]; exact HBY.out⟩
set_option maxRecDepth 100000 in
theorem gmSlot (g : Geo) (hi : g.In) (i : Int) (w : World) : Calls Try.prog 15 #[.agg g.v, .int .i64 i] w fun e w' => e = .returned (.int .i64 (g.oS i)) ∧ Below w.heap.size w w' := by
  obtain ⟨W, hW⟩ : ∃ W, w.alloc (.cells g.v 23) = W := ⟨_, rfl⟩
  have r : RowC W w.heap.size 23 g.cs := by rw [← hW]; exact RowC.new w _ _
  have HB : Hid (Below w.heap.size w W) := by show Below _ _ _; rw [← hW]; exact below_new w _
  obtain ⟨B, hB⟩ : ∃ b, w.heap.size = b := ⟨_, rfl⟩
  rw [hB] at r
  have HSZ := Lib.hid hB
  have L0 := load_geo r
  have HP := Lib.hid (gmFastP g hi W)
  have HO := Lib.hid g.fcs_ok
  have HV := Lib.hid (g.fcs_slot i)
  clear r hi
  go_enter Try.func15, Try.ntmps15
  go_wp2_with fail
  refine HP.out.mono ?_
  rintro e x ⟨Bs, a, b, rfl, hL, hb⟩
  have HBX : Hid (Below w.heap.size w x) := HB.out.trans (hb.mono HB.out.size)
  have HL := Lib.hid hL
  clear hb hL L0
  go_wp2_with fail
  refine (gmFind _ HO.out _ _ 3 _ _ HL.out).mono ?_
  rintro e y ⟨rfl, hb⟩
  have HBY : Hid (Below w.heap.size w y) := HBX.out.trans (hb.mono HBX.out.size)
  clear hb
  go_wp2_with fail
  have hbd := sp_bd HO.out 3 (by decide)
  refine (gmSector _ _ i hbd.1 hbd.2 _).mono ?_
  rintro e z ⟨rfl, hb⟩
  have HBZ : Hid (Below w.heap.size w z) := HBY.out.trans (hb.mono HBY.out.size)
  rw [HV.out]
  clear hb hbd
  go_wp2_with fail
  go_ret
  first | exact ⟨rfl, HBZ.out⟩ | exact ⟨rfl, by rw [← hB]; exact HBZ.out⟩
set_option maxRecDepth 100000 in
theorem gmArea (g : Geo) (hi : g.In) (i : Int) (w : World) : Calls Try.prog 17 #[.agg g.v, .int .i64 i] w fun e w' => e = .returned (.int .i64 (g.oA i)) ∧ Below w.heap.size w w' := by
  obtain ⟨W, hW⟩ : ∃ W, w.alloc (.cells g.v 23) = W := ⟨_, rfl⟩
  have r : RowC W w.heap.size 23 g.cs := by rw [← hW]; exact RowC.new w _ _
  have HB : Hid (Below w.heap.size w W) := by show Below _ _ _; rw [← hW]; exact below_new w _
  obtain ⟨B, hB⟩ : ∃ b, w.heap.size = b := ⟨_, rfl⟩
  rw [hB] at r
  have HSZ := Lib.hid hB
  have L0 := load_geo r
  have HP := Lib.hid (gmSlowP g hi W)
  have HO := Lib.hid g.wcs_ok
  have HV := Lib.hid (g.wcs_area i)
  clear r hi
  go_enter Try.func17, Try.ntmps17
  go_wp2_with fail
  refine HP.out.mono ?_
  rintro e x ⟨Bs, a, b, rfl, hL, hb⟩
  have HBX : Hid (Below w.heap.size w x) := HB.out.trans (hb.mono HB.out.size)
  have HL := Lib.hid hL
  clear hb hL L0
  go_wp2_with fail
  refine (gmFind _ HO.out _ _ 1 _ _ HL.out).mono ?_
  rintro e y ⟨rfl, hb⟩
  have HBY : Hid (Below w.heap.size w y) := HBX.out.trans (hb.mono HBX.out.size)
  clear hb
  go_wp2_with fail
  have hbd := sp_bd HO.out 1 (by decide)
  refine (gmSector _ _ i hbd.1 hbd.2 _).mono ?_
  rintro e z ⟨rfl, hb⟩
  have HBZ : Hid (Below w.heap.size w z) := HBY.out.trans (hb.mono HBY.out.size)
  rw [HV.out]
  clear hb hbd
  go_wp2_with fail
  go_ret
  first | exact ⟨rfl, HBZ.out⟩ | exact ⟨rfl, by rw [← hB]; exact HBZ.out⟩
set_option maxRecDepth 100000 in
theorem gmFast (g : Geo) (hi : g.In) (w : World) : Calls Try.prog 13 #[.agg g.v] w fun e w' => e = .returned (.int .i64 g.oF) ∧ Below w.heap.size w w' := by
  obtain ⟨W, hW⟩ : ∃ W, w.alloc (.cells g.v 23) = W := ⟨_, rfl⟩
  have r : RowC W w.heap.size 23 g.cs := by rw [← hW]; exact RowC.new w _ _
  have HB : Hid (Below w.heap.size w W) := by show Below _ _ _; rw [← hW]; exact below_new w _
  obtain ⟨B, hB⟩ : ∃ b, w.heap.size = b := ⟨_, rfl⟩
  rw [hB] at r
  have HSZ := Lib.hid hB
  have L0 := load_geo r
  have HP := Lib.hid (gmFastP g hi W)
  have HO := Lib.hid g.fcs_ok
  have HV := Lib.hid (g.fcs_all)
  clear r hi
  go_enter Try.func13, Try.ntmps13
  go_wp2_with fail
  refine HP.out.mono ?_
  rintro e x ⟨Bs, a, b, rfl, hL, hb⟩
  have HBX : Hid (Below w.heap.size w x) := HB.out.trans (hb.mono HB.out.size)
  have HL := Lib.hid hL
  clear hb hL L0
  go_wp2_with fail
  refine (gmUsed _ HO.out _ _ _ _ HL.out).mono ?_
  rintro e y ⟨rfl, hb⟩
  have HBY : Hid (Below w.heap.size w y) := HBX.out.trans (hb.mono HBX.out.size)
  clear hb
  go_wp2_with fail
  go_ret
  rw [HV.out]
  first | exact ⟨rfl, HBY.out⟩ | exact ⟨rfl, by rw [← hB]; exact HBY.out⟩
set_option maxRecDepth 100000 in
theorem gmSlow (g : Geo) (hi : g.In) (w : World) : Calls Try.prog 14 #[.agg g.v] w fun e w' => e = .returned (.int .i64 g.oW) ∧ Below w.heap.size w w' := by
  obtain ⟨W, hW⟩ : ∃ W, w.alloc (.cells g.v 23) = W := ⟨_, rfl⟩
  have r : RowC W w.heap.size 23 g.cs := by rw [← hW]; exact RowC.new w _ _
  have HB : Hid (Below w.heap.size w W) := by show Below _ _ _; rw [← hW]; exact below_new w _
  obtain ⟨B, hB⟩ : ∃ b, w.heap.size = b := ⟨_, rfl⟩
  rw [hB] at r
  have HSZ := Lib.hid hB
  have L0 := load_geo r
  have HP := Lib.hid (gmSlowP g hi W)
  have HO := Lib.hid g.wcs_ok
  have HV := Lib.hid (g.wcs_all)
  clear r hi
  go_enter Try.func14, Try.ntmps14
  go_wp2_with fail
  refine HP.out.mono ?_
  rintro e x ⟨Bs, a, b, rfl, hL, hb⟩
  have HBX : Hid (Below w.heap.size w x) := HB.out.trans (hb.mono HB.out.size)
  have HL := Lib.hid hL
  clear hb hL L0
  go_wp2_with fail
  refine (gmUsed _ HO.out _ _ _ _ HL.out).mono ?_
  rintro e y ⟨rfl, hb⟩
  have HBY : Hid (Below w.heap.size w y) := HBX.out.trans (hb.mono HBX.out.size)
  clear hb
  go_wp2_with fail
  go_ret
  rw [HV.out]
  first | exact ⟨rfl, HBY.out⟩ | exact ⟨rfl, by rw [← hB]; exact HBY.out⟩
end
theorem geomOk : GeomOk := ⟨gmGood, gmBytes, gmPages, gmRing, gmHome, fun g hi i _ _ w => gmSlot g hi i w, fun g hi i _ _ w => gmArea g hi i w, gmFast, gmSlow⟩
end Go.Proofs.Ytnffaekbldcphaa
