/- The guard that every statement on runs ends with. -/
import Derived.Test.YtajamblkjmafmaaRuOf
import Derived.Test.YtajamblkjmafmaaRuBl
import Derived.Test.YtajamblkjmafmaaInts
namespace Go.Proofs.Ytajamblkjmafmaa
open Go.RowKit
set_option linter.unusedVariables false
set_option linter.unusedSimpArgs false
attribute [-simp] Try.isAgg36 Try.zeroValue36
attribute [-go_sem] loadVar storeVar
attribute [local go_sem] loadVar_openR storeVar_openR zero_rns build_rns0 build_rns
set_option maxRecDepth 100000 in
theorem slice_i4R (w : World) : (Instr.buildSlice 22 4 #[(0, .int .i64 3), (1, .int .i64 4), (2, .int .i64 5), (3, .int .i64 9)]).run Try.prog w = .ok (.slice (some ⟨w.heap.size, 0, none⟩) 4 4) (w.alloc (.cells #[.int .i64 3, .int .i64 4, .int .i64 5, .int .i64 9] 3)) := by kernel_rfl
theorem sl_i4R (w : World) : Sl .i64 (w.alloc (.cells #[.int .i64 3, .int .i64 4, .int .i64 5, .int .i64 9] 3)) (.slice (some ⟨w.heap.size, 0, none⟩) 4 4) [3, 4, 5, 9] :=
  sl_own (base := 0) (n := 4) (World.ownsRow_lit w #[.int .i64 3, .int .i64 4, .int .i64 5, .int .i64 9] 4 (Nat.zero_le _) (by simp [maxLen]) rfl)

set_option maxRecDepth 100000 in
set_option maxHeartbeats 4000000 in
/-- **The guard.** -/
theorem ru_wakes (w : World) : Calls Try.prog 6 #[] w fun e w' => e = .returned (.bool true) ∧ Below w.heap.size w w' := by
  have S1 := slice_i4R w
  have hs := sl_i4R w
  have hb := below_new w (.cells #[.int .i64 3, .int .i64 4, .int .i64 5, .int .i64 9] 3)
  obtain ⟨W1, hW1⟩ : ∃ W, w.alloc (.cells #[.int .i64 3, .int .i64 4, .int .i64 5, .int .i64 9] 3) = W := ⟨_, rfl⟩
  rw [hW1] at S1 hs hb
  have HO := Lib.hid (ru_of hs (by simp [Is64]) (by simp))
  have HB := Lib.hid hb
  clear hW1 hs hb
  go_enter Try.func6, Try.ntmps6
  go_wp2_with (refine gate_build ?_; refine wpList_build_run 22 4 _ rfl rfl [(0, _), (1, _), (2, _), (3, _)] _ rfl S1 ?_)
  refine HO.out.mono ?_
  rintro e x ⟨u, rfl, ho, hbx⟩
  have e0 : rnOf [3, 4, 5, 9] = [(3, 3), (9, 1)] := by decide
  rw [e0] at ho
  obtain ⟨g, cap, cur, rfl, hg⟩ := ho.open (by simp)
  have HBX : Hid (Below w.heap.size w x) := HB.out.trans (hbx.mono HB.out.size)
  have hc := ho.1.cells (g := g) rfl
  have c0 : x.cell? ⟨g, 0, none⟩ = some (.int .i64 3) := by have := hc 0 _ rfl; rwa [Addr.add_mid] at this
  have c1 : x.cell? ⟨g, 1, none⟩ = some (.int .i64 3) := by have := hc 1 _ rfl; rwa [Addr.add_mid] at this
  have c2 : x.cell? ⟨g, 2, none⟩ = some (.int .i64 9) := by have := hc 2 _ rfl; rwa [Addr.add_mid] at this
  have c3 : x.cell? ⟨g, 3, none⟩ = some (.int .i64 1) := by have := hc 3 _ rfl; rwa [Addr.add_mid] at this
  have L1 := load_rns c0 c1
  have L2 := load_rns c2 c3
  have hp := ho.prt
  have HK := Lib.hid (ru_blocks hp (by simp))
  have e1 : rnBlocks [(3, 3), (9, 1)] = [3, 4, 5, 9] := by decide
  rw [e1] at HK
  have HP := Lib.hid hp
  simp only [List.length_cons, List.length_nil, Nat.zero_add, Nat.reduceAdd] at HK HP ⊢
  clear hc ho hg e0 e1 hp c0 c1 c2 c3 hbx HO S1 HB
  go_wp2_with fail
  refine HK.out.mono ?_
  rintro e y ⟨ub, rfl, hi, hby⟩
  have HBY : Hid (Below w.heap.size w y) := HBX.out.trans (hby.mono HBX.out.size)
  have HPY := Lib.hid (HP.out.below hby)
  have S2 := slice_i4R y
  have hs2 := sl_i4R y
  have hb2 := below_new y (.cells #[.int .i64 3, .int .i64 4, .int .i64 5, .int .i64 9] 3)
  obtain ⟨W2, hW2⟩ : ∃ W, y.alloc (.cells #[.int .i64 3, .int .i64 4, .int .i64 5, .int .i64 9] 3) = W := ⟨_, rfl⟩
  rw [hW2] at S2 hs2 hb2
  have HI := Lib.hid (ints_same _ _ _ W2 (sl_own (hi.below hb2)) hs2)
  have HB2 : Hid (Below w.heap.size w W2) := HBY.out.trans (hb2.mono HBY.out.size)
  have HP2 := Lib.hid (HPY.out.below hb2)
  clear hW2 hi hb2 hs2 hby HK L1 L2 HP HPY HBX HBY
  go_wp2_with (refine gate_build ?_; refine wpList_build_run 22 4 _ rfl rfl [(0, _), (1, _), (2, _), (3, _)] _ rfl S2 ?_)
  refine HI.out.mono ?_
  rintro e z ⟨rfl, hbz⟩
  have HB3 : Hid (Below w.heap.size w z) := HB2.out.trans (hbz.mono HB2.out.size)
  have HP3 := Lib.hid (HP2.out.below hbz)
  have HG := Lib.hid (ru_good HP3.out 10 (by simp [Is64]) (by simp))
  have e2 : rnGood [(3, 3), (9, 1)] 10 = true := by decide
  rw [e2] at HG
  clear e2 hbz HP2 HB2 S2 HI
  go_wp2_with fail
  refine HG.out.mono ?_
  rintro e z2 ⟨rfl, hbz⟩
  have HB4 : Hid (Below w.heap.size w z2) := HB3.out.trans (hbz.mono HB3.out.size)
  have HP4 := Lib.hid (HP3.out.below hbz)
  have HG9 := Lib.hid (ru_good HP4.out 9 (by simp [Is64]) (by simp))
  have e2 : rnGood [(3, 3), (9, 1)] 9 = false := by decide
  rw [e2] at HG9
  clear e2 hbz HP3 HB3 HG
  go_wp2_with fail
  refine HG9.out.mono ?_
  rintro e z3 ⟨rfl, hbz⟩
  have HB5 : Hid (Below w.heap.size w z3) := HB4.out.trans (hbz.mono HB4.out.size)
  clear hbz HP4 HB4 HG9
  go_wp2_with fail
  go_ret
  exact ⟨rfl, HB5.out⟩
end Go.Proofs.Ytajamblkjmafmaa
