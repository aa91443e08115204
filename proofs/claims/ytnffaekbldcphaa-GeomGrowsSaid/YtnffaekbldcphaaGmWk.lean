/- The trial of layer 7 comes to true. -/
import Derived.Test.YtnffaekbldcphaaGmSl
namespace Go.Proofs.Ytnffaekbldcphaa
open Go.RowKit Go.Shelf
set_option linter.unusedVariables false
attribute [-simp] Try.isAgg25 Try.zeroValue25 Try.isAgg23 Try.zeroValue23
attribute [-go_sem] loadVar storeVar
set_option maxRecDepth 100000 in
theorem zero_geo (w : World) : (zeroValue 23).run Try.prog w = .ok (.agg (Geo.mk 0 0 0 0 0).v) w := by kernel_rfl
def gS : Geo := ⟨8, 2, 2, 4, 12⟩
def gN : Geo := ⟨8, 2, 2, 4, 4⟩
set_option maxRecDepth 100000 in
theorem build_gS (w : World) : (Instr.build 23 #[(0, .int .i64 8), (1, .int .i64 2), (2, .int .i64 2), (3, .int .i64 4), (4, .int .i64 12)]).run Try.prog w = .ok (.agg gS.v) w := by kernel_rfl
set_option maxRecDepth 100000 in
theorem build_gN (w : World) : (Instr.build 23 #[(0, .int .i64 8), (1, .int .i64 2), (2, .int .i64 2), (3, .int .i64 4), (4, .int .i64 4)]).run Try.prog w = .ok (.agg gN.v) w := by kernel_rfl
theorem setS : ((((((Geo.mk 0 0 0 0 0).v.setIfInBounds 0 (.int .i64 8)).setIfInBounds 1 (.int .i64 2)).setIfInBounds 2 (.int .i64 2)).setIfInBounds 3 (.int .i64 4)).setIfInBounds 4 (.int .i64 12)) = gS.v := rfl
theorem setN : ((((((Geo.mk 0 0 0 0 0).v.setIfInBounds 0 (.int .i64 8)).setIfInBounds 1 (.int .i64 2)).setIfInBounds 2 (.int .i64 2)).setIfInBounds 3 (.int .i64 4)).setIfInBounds 4 (.int .i64 4)) = gN.v := rfl
set_option maxRecDepth 100000 in
theorem size_geo : (Try.prog.info? 23).map (·.size) = some 5 := by kernel_rfl
set_option maxRecDepth 100000 in
theorem new_geo (x : World) (g : Geo) : ∃ y, (storeVar 23 ⟨x.heap.size, 0, none⟩ (.agg g.v)).run Try.prog (x.alloc (.cells (Geo.mk 0 0 0 0 0).v 23)) = .ok () y ∧ RowC y x.heap.size 23 g.cs ∧ Below x.heap.size x y :=
  ⟨_, run_storeVar_new x _ _ g.v size_geo rfl (by kernel_rfl), RowC.new x _ _, below_new x _⟩
attribute [local go_sem] loadVar_openG storeVar_openG zero_geo build_gS build_gN
theorem gS_in : gS.In := by intro n hn; simp only [gS, List.mem_cons, List.mem_nil_iff, or_false] at hn; omega
theorem gN_in : gN.In := by intro n hn; simp only [gN, List.mem_cons, List.mem_nil_iff, or_false] at hn; omega
section
set_option maxRecDepth 100000
set_option maxHeartbeats 4000000
set_option maxRecDepth 100000 in
theorem lawSmall (w : World) : Calls Try.prog 31 #[] w fun e w' => e = .returned (.agg gS.v) ∧ Below w.heap.size w w' := by
  obtain ⟨y, ST, hr, hb⟩ := new_geo w gS
  rw [← setS] at ST
  have L0 := load_geo hr
  go_enter Try.func31, Try.ntmps31
  go_wp2_with fail
  exact bodyPost_ret (results_cell rfl rfl L0) rfl ⟨rfl, hb⟩
set_option maxRecDepth 100000 in
theorem geoWakes (HK : GeomOk) (w : World) : Calls Try.prog 19 #[] w fun e w' => e = .returned (.bool true) ∧ Below w.heap.size w w' := by
  have H0 := Lib.hid (HK.good gS gS_in)
  have H1 := Lib.hid (HK.bytes gS gS_in)
  have H2 := Lib.hid (HK.pages gS gS_in)
  have H3 := Lib.hid (HK.ring gS gS_in)
  have H4 := Lib.hid (HK.home gS gS_in)
  have H5 := Lib.hid (HK.slot gS gS_in 1 (by decide) (by decide))
  have H6 := Lib.hid (HK.area gS gS_in 3 (by decide) (by decide))
  have H7 := Lib.hid (HK.fast gS gS_in)
  have H8 := Lib.hid (HK.slow gS gS_in)
  have H9 := Lib.hid (HK.good gN gN_in)
  rw [show decide gS.good = true by decide] at H0
  rw [show gS.oB = 126 by decide] at H1
  rw [show gS.oP = 3 by decide] at H2
  rw [show gS.oR = 2 by decide] at H3
  rw [show gS.oH = 14 by decide] at H4
  rw [show gS.oS 1 = 18 by decide] at H5
  rw [show gS.oA 3 = 11 by decide] at H6
  rw [show gS.oF = 21 by decide] at H7
  rw [show gS.oW = 12 by decide] at H8
  rw [show decide gN.good = false by decide] at H9
  clear HK
  go_enter Try.func19, Try.ntmps19
  go_wp2_with fail
  refine (lawSmall w).mono ?_
  rintro e x ⟨rfl, hb⟩
  obtain ⟨y, ST, hr, hby⟩ := new_geo x gS
  obtain ⟨B, hB⟩ : ∃ b, x.heap.size = b := ⟨_, rfl⟩
  have HBY : Hid (Below w.heap.size w y) := hb.trans (hby.mono hb.size)
  rw [hB] at hr ST
  have HL : Hid (∀ z, Below y.heap.size y z → (loadVar 23 ⟨B, 0, none⟩).run Try.prog z = .ok (.agg gS.v) z) := fun z hz => load_geo (hr.below hz)
  have L0 := load_geo hr
  clear hb hr hby
  go_wp2_with fail
  refine (H0.out _).mono ?_
  rintro e z1 ⟨rfl, hb1⟩
  have L1 := HL.out _ hb1
  have HB1 := Lib.hid hb1
  clear hb1 L0
  go_wp2_with fail
  refine (H1.out _).mono ?_
  rintro e z2 ⟨rfl, hb2⟩
  have HB2 := Lib.hid (HB1.out.trans (hb2.mono HB1.out.size))
  have L2 := HL.out _ HB2.out
  clear hb2 L1
  go_wp2_with fail
  refine (H2.out _).mono ?_
  rintro e z3 ⟨rfl, hb3⟩
  have HB3 := Lib.hid (HB2.out.trans (hb3.mono HB2.out.size))
  have L3 := HL.out _ HB3.out
  clear hb3 L2
  go_wp2_with fail
  refine (H3.out _).mono ?_
  rintro e z4 ⟨rfl, hb4⟩
  have HB4 := Lib.hid (HB3.out.trans (hb4.mono HB3.out.size))
  have L4 := HL.out _ HB4.out
  clear hb4 L3
  go_wp2_with fail
  refine (H4.out _).mono ?_
  rintro e z5 ⟨rfl, hb5⟩
  have HB5 := Lib.hid (HB4.out.trans (hb5.mono HB4.out.size))
  have L5 := HL.out _ HB5.out
  clear hb5 L4
  go_wp2_with fail
  refine (H5.out _).mono ?_
  rintro e z6 ⟨rfl, hb6⟩
  have HB6 := Lib.hid (HB5.out.trans (hb6.mono HB5.out.size))
  have L6 := HL.out _ HB6.out
  clear hb6 L5
  go_wp2_with fail
  refine (H6.out _).mono ?_
  rintro e z7 ⟨rfl, hb7⟩
  have HB7 := Lib.hid (HB6.out.trans (hb7.mono HB6.out.size))
  have L7 := HL.out _ HB7.out
  clear hb7 L6
  go_wp2_with fail
  refine (H7.out _).mono ?_
  rintro e z8 ⟨rfl, hb8⟩
  have HB8 := Lib.hid (HB7.out.trans (hb8.mono HB7.out.size))
  have L8 := HL.out _ HB8.out
  clear hb8 L7
  go_wp2_with fail
  refine (H8.out _).mono ?_
  rintro e z9 ⟨rfl, hb9⟩
  have HB9 := Lib.hid (HB8.out.trans (hb9.mono HB8.out.size))
  clear hb9 L8
  go_wp2_with fail
  refine (H9.out _).mono ?_
  rintro e z10 ⟨rfl, hb10⟩
  have HB10 := Lib.hid (HB9.out.trans (hb10.mono HB9.out.size))
  clear hb10
  go_wp2_with fail
  go_ret
  exact ⟨rfl, HBY.out.trans (HB10.out.mono HBY.out.size)⟩
end
end Go.Proofs.Ytnffaekbldcphaa
