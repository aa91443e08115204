/- The ground of the proofs, part 5. -/
import Derived.Test.YtbdfllamhcodjaaGreatH4
/- What the developers' geometry promises, all of it. -/
namespace Go.Proofs.YtbdfllamhcodjaaGreat
open Go.RowKit Go.Shelf
set_option linter.unusedVariables false
attribute [-simp] Tryz.isAgg186 Tryz.zeroValue186
attribute [-go_sem] loadVar storeVar
attribute [local go_sem] loadVar_open7 storeVar_open7
set_option maxRecDepth 100000 in
theorem field_first (f c : Int) (w : World) : (Instr.field 186 (.agg #[.int .i64 f, .int .i64 c]) 0).run Tryz.prog w = .ok (.int .i64 f) w := by kernel_rfl
attribute [local go_sem] field_first

theorem Geo.fcs_ring (g : Geo) : spF g.fcs 1 = g.oR := by
  unfold Geo.fcs Geo.oR
  by_cases hg : g.good
  · rw [if_pos hg, if_pos hg]; simp [spF, sumTo]
  · rw [if_neg hg, if_neg hg]; rfl
theorem Geo.fcs_home (g : Geo) : spF g.fcs 2 = g.oH := by
  unfold Geo.fcs Geo.oH
  by_cases hg : g.good
  · rw [if_pos hg, if_pos hg]; simp [spF, sumTo]
  · rw [if_neg hg, if_neg hg]; rfl
theorem Geo.fcs_all (g : Geo) : sumTo g.fcs g.fcs.length = g.oF := by
  unfold Geo.fcs Geo.oF
  by_cases hg : g.good
  · rw [if_pos hg, if_pos hg]; simp [sumTo]; omega
  · rw [if_neg hg, if_neg hg]; rfl
theorem Geo.wcs_all (g : Geo) : sumTo g.wcs g.wcs.length = g.oW := by
  unfold Geo.wcs Geo.oW
  by_cases hg : g.good
  · rw [if_pos hg, if_pos hg]; simp [sumTo]
  · rw [if_neg hg, if_neg hg]; rfl
section
set_option maxRecDepth 100000
set_option maxHeartbeats 4000000
set_option maxRecDepth 100000 in
theorem gmRing (g : Geo) (hi : g.In) (w : World) : Calls Tryz.prog 50 #[.agg g.v] w fun e w' => e = .returned (.int .i64 g.oR) ∧ Below w.heap.size w w' := by
  obtain ⟨W, hW⟩ : ∃ W, w.alloc (.cells g.v 23) = W := ⟨_, rfl⟩
  have r : RowC W w.heap.size 23 g.cs := by rw [← hW]; exact RowC.new w _ _
  have HB : Hid (Below w.heap.size w W) := by show Below _ _ _; rw [← hW]; exact below_new w _
  obtain ⟨B, hB⟩ : ∃ b, w.heap.size = b := ⟨_, rfl⟩
  rw [hB] at r
  have HSZ := Lib.hid hB
  have L0 := load_geo r
  have HP := Lib.hid (gmFastP g hi W)
  have HO := Lib.hid g.fcs_ok
  have HV := Lib.hid (g.fcs_ring)
  clear r hi
  go_enter Tryz.func50, Tryz.ntmps50
  go_wp2_with fail
  refine HP.out.mono ?_
  rintro e x ⟨Bs, a, b, rfl, hL, hb⟩
  have HBX : Hid (Below w.heap.size w x) := HB.out.trans (hb.mono HB.out.size)
  have HL := Lib.hid hL
  clear hb hL L0
  go_wp2_with fail
  refine (gmFind _ HO.out _ _ 1 _ _ HL.out).mono ?_
  rintro e y ⟨rfl, hb⟩
  have HBY : Hid (Below w.heap.size w y) := HBX.out.trans (hb.mono HBX.out.size)
  clear hb
  go_wp2_with fail
  go_ret
  rw [HV.out]
  first | exact ⟨rfl, HBY.out⟩ | exact ⟨rfl, by rw [← hB]; exact HBY.out⟩
set_option maxRecDepth 100000 in
theorem gmHome (g : Geo) (hi : g.In) (w : World) : Calls Tryz.prog 98 #[.agg g.v] w fun e w' => e = .returned (.int .i64 g.oH) ∧ Below w.heap.size w w' := by
  obtain ⟨W, hW⟩ : ∃ W, w.alloc (.cells g.v 23) = W := ⟨_, rfl⟩
  have r : RowC W w.heap.size 23 g.cs := by rw [← hW]; exact RowC.new w _ _
  have HB : Hid (Below w.heap.size w W) := by show Below _ _ _; rw [← hW]; exact below_new w _
  obtain ⟨B, hB⟩ : ∃ b, w.heap.size = b := ⟨_, rfl⟩
  rw [hB] at r
  have HSZ := Lib.hid hB
  have L0 := load_geo r
  have HP := Lib.hid (gmFastP g hi W)
  have HO := Lib.hid g.fcs_ok
  have HV := Lib.hid (g.fcs_home)
  clear r hi
  go_enter Tryz.func98, Tryz.ntmps98
  go_wp2_with fail
  refine HP.out.mono ?_
  rintro e x ⟨Bs, a, b, rfl, hL, hb⟩
  have HBX : Hid (Below w.heap.size w x) := HB.out.trans (hb.mono HB.out.size)
  have HL := Lib.hid hL
  clear hb hL L0
  go_wp2_with fail
  refine (gmFind _ HO.out _ _ 2 _ _ HL.out).mono ?_
  rintro e y ⟨rfl, hb⟩
  have HBY : Hid (Below w.heap.size w y) := HBX.out.trans (hb.mono HBX.out.size)
  clear hb
  go_wp2_with fail
  go_ret
  rw [HV.out]
  first | exact ⟨rfl, HBY.out⟩ | exact ⟨rfl, by rw [← hB]; exact HBY.out⟩
set_option maxRecDepth 100000 in
theorem gmFast (g : Geo) (hi : g.In) (w : World) : Calls Tryz.prog 37 #[.agg g.v] w fun e w' => e = .returned (.int .i64 g.oF) ∧ Below w.heap.size w w' := by
  obtain ⟨W, hW⟩ : ∃ W, w.alloc (.cells g.v 23) = W := ⟨_, rfl⟩
  have r : RowC W w.heap.size 23 g.cs := by rw [← hW]; exact RowC.new w _ _
  have HB : Hid (Below w.heap.size w W) := by show Below _ _ _; rw [← hW]; exact below_new w _
  obtain ⟨B, hB⟩ : ∃ b, w.heap.size = b := ⟨_, rfl⟩
  rw [hB] at r
  have HSZ := Lib.hid hB
  have L0 := load_geo r
  have HP := Lib.hid (gmFastP g hi W)
  have HO := Lib.hid g.fcs_ok
  have HV := Lib.hid (g.fcs_all)
  clear r hi
  go_enter Tryz.func37, Tryz.ntmps37
  go_wp2_with fail
  refine HP.out.mono ?_
  rintro e x ⟨Bs, a, b, rfl, hL, hb⟩
  have HBX : Hid (Below w.heap.size w x) := HB.out.trans (hb.mono HB.out.size)
  have HL := Lib.hid hL
  clear hb hL L0
  go_wp2_with fail
  refine (gmUsed _ HO.out _ _ _ _ HL.out).mono ?_
  rintro e y ⟨rfl, hb⟩
  have HBY : Hid (Below w.heap.size w y) := HBX.out.trans (hb.mono HBX.out.size)
  clear hb
  go_wp2_with fail
  go_ret
  rw [HV.out]
  first | exact ⟨rfl, HBY.out⟩ | exact ⟨rfl, by rw [← hB]; exact HBY.out⟩
set_option maxRecDepth 100000 in
theorem gmSlow (g : Geo) (hi : g.In) (w : World) : Calls Tryz.prog 38 #[.agg g.v] w fun e w' => e = .returned (.int .i64 g.oW) ∧ Below w.heap.size w w' := by
  obtain ⟨W, hW⟩ : ∃ W, w.alloc (.cells g.v 23) = W := ⟨_, rfl⟩
  have r : RowC W w.heap.size 23 g.cs := by rw [← hW]; exact RowC.new w _ _
  have HB : Hid (Below w.heap.size w W) := by show Below _ _ _; rw [← hW]; exact below_new w _
  obtain ⟨B, hB⟩ : ∃ b, w.heap.size = b := ⟨_, rfl⟩
  rw [hB] at r
  have HSZ := Lib.hid hB
  have L0 := load_geo r
  have HP := Lib.hid (gmSlowP g hi W)
  have HO := Lib.hid g.wcs_ok
  have HV := Lib.hid (g.wcs_all)
  clear r hi
  go_enter Tryz.func38, Tryz.ntmps38
  go_wp2_with fail
  refine HP.out.mono ?_
  rintro e x ⟨Bs, a, b, rfl, hL, hb⟩
  have HBX : Hid (Below w.heap.size w x) := HB.out.trans (hb.mono HB.out.size)
  have HL := Lib.hid hL
  clear hb hL L0
  go_wp2_with fail
  refine (gmUsed _ HO.out _ _ _ _ HL.out).mono ?_
  rintro e y ⟨rfl, hb⟩
  have HBY : Hid (Below w.heap.size w y) := HBX.out.trans (hb.mono HBX.out.size)
  clear hb
  go_wp2_with fail
  go_ret
  rw [HV.out]
  first | exact ⟨rfl, HBY.out⟩ | exact ⟨rfl, by rw [← hB]; exact HBY.out⟩
end
end Go.Proofs.YtbdfllamhcodjaaGreat

/- The developers' superWrite, fits, correct. -/
namespace Go.Proofs.YtbdfllamhcodjaaGreat
open Go.RowKit Go.Shelf
set_option linter.unusedVariables false
attribute [-simp] Tryz.isAgg60 Tryz.zeroValue60 Tryz.isAgg112 Tryz.zeroValue112 Tryz.isAgg189 Tryz.zeroValue189 Tryz.isAgg133 Tryz.zeroValue133 Tryz.isAgg114 Tryz.zeroValue114 Tryz.isAgg105 Tryz.zeroValue105
attribute [-go_sem] loadVar storeVar run_equalIn_agg
attribute [local go_sem] zero_blk build_blk zero_bod zero_pg build_pg build_pg0 build_pg2 zero_imgD zero_wr zero_sup loadVar_openV storeVar_openV

theorem supSctI_ok {gen : Int} (hn : IsSeq gen) (g : Geo) (a q : Int) : (supSctI gen g a q).Ok :=
  ⟨by show (0 : Int) ≤ 83 ∧ (83 : Int) < 256; omega, hn, supSctI_len gen g a q, (IsBytes.app (by intro j; match j with | 0 => decide | 1 => decide | 2 => decide | 3 => decide | j + 4 => simp) ((putL_bytes _ _).app ((putL_bytes _ _).app ((putL_bytes _ _).app ((putL_bytes _ _).app ((putL_bytes _ _).app ((putL_bytes _ _).app (putL_bytes _ _)))))))).app (zeros_bytes 30)⟩
theorem supSctI_fits (gen : Int) (g : Geo) (a q : Int) : (supSctI gen g a q).fits = true := decide_eq_true ⟨by show (83 : Int) ≠ 0; omega, by show (0 : Int) ≤ 0 ∧ (0 : Int) ≤ 65535; omega⟩
set_option maxRecDepth 100000 in
/-- A write that is a result's own cell. -/
theorem wr_cell {w x : World} {B : Nat} {u : List Value} {z : Array Value} (hw : x.heap[B]? = some (.cells z 114 (0, 0))) (hz : z.size = 65) (hB : w.heap.size ≤ B) (hb : Below w.heap.size w x) (hu : u.length = 65) (h1 : ∀ v ∈ u, v.oneCell' = true) :
    ∃ x', (storeVar 114 ⟨B, 0, none⟩ (.agg u.toArray)).run Tryz.prog x = .ok () x' ∧ (loadVar 114 ⟨B, 0, none⟩).run Tryz.prog x' = .ok (.agg u.toArray) x' ∧ Below w.heap.size w x' := by
  have ht : x.there B 0 65 := row_there hw 0 65 (by rw [hz]; exact Nat.le_refl _)
  have hs : (storeVar 114 ⟨B, 0, none⟩ (.agg u.toArray)).run Tryz.prog x = .ok () (x.setCells B 0 u) := by
    have := run_storeVar_mid (P := Tryz.prog) x B 0 114 u.toArray (by simpa [hu] using ht) (by simpa [hu] using size_wr) (all_oneCell_toArray h1)
    simpa using this
  exact ⟨_, hs, load_wr (World.rangeAt_setCells_same x _ 0 u (by rw [hu]; exact ht)) hu, hb.trans (below_cells hB _ _ _)⟩
section
set_option maxRecDepth 100000
set_option maxHeartbeats 4000000
set_option maxRecDepth 100000 in
/-- **superWrite**. -/
theorem mvSuperWrite (i : Nat) {gen : Int} {g : Geo} {a q : Int} (hI : SupIn gen g a q) (w : World) :
    Calls Tryz.prog 53 #[.int .i64 (i : Int), .agg (supC gen g a q).toArray] w fun e w' => e = .returned (.agg (wrC (i, u8s (supSctI gen g a q).bytes)).toArray) ∧ Below w.heap.size w w' := by
  obtain ⟨W1, hW1⟩ : ∃ W1, w.alloc (.cells (supC gen g a q).toArray 105) = W1 := ⟨_, rfl⟩
  have r1 : RowC W1 w.heap.size 105 (supC gen g a q) := by rw [← hW1]; exact RowC.new w _ _
  have b1 : Below w.heap.size w W1 := by rw [← hW1]; exact below_new w _
  obtain ⟨W, hW⟩ : ∃ W, W1.alloc (.cells zwr.toArray 114) = W := ⟨_, rfl⟩
  have b2 : Below W1.heap.size W1 W := by rw [← hW]; exact below_new W1 _
  have r2 : Hid (RowC W W1.heap.size 114 zwr) := by show RowC _ _ _ _; rw [← hW]; exact RowC.new W1 _ _
  have L0 := (r1.below b2).sup
  have HB : Hid (Below w.heap.size w W) := b1.trans (b2.mono b1.size)
  have HZ : Hid (w.heap.size ≤ W1.heap.size) := b1.size
  have HS := Lib.hid (mvSector hI)
  have HO := Lib.hid (supSctI_ok hI.gen g a q)
  have HF := Lib.hid (supSctI_fits gen g a q)
  clear r1 b1 b2 hI
  obtain ⟨P, hP⟩ : ∃ P, supSctI gen g a q = P := ⟨_, rfl⟩
  rw [hP] at HS HO HF ⊢
  obtain ⟨sc, hsc⟩ : ∃ c, (supC gen g a q).toArray = c := ⟨_, rfl⟩
  rw [hsc] at L0 HS hW1
  rw [hsc]
  clear hP hsc
  go_enter Tryz.func53, Tryz.ntmps53
  go_wp2_with fail
  go_at_call 102
  refine (HS.out W).mono ?_
  rintro e x1 ⟨rfl, hb⟩
  have K1 := Lib.hid hb
  clear hb L0
  go_wp2_with fail
  go_at_call 99
  refine (mvEncoded P HO.out HF.out x1).mono ?_
  rintro e x2 ⟨rfl, hb⟩
  have K2 : Hid (Below W.heap.size W x2) := K1.out.trans (hb.mono K1.out.size)
  have hbk : IsBlk (u8s P.bytes) := isBlk_u8s (Sct.bytes_length HO.out)
  have BI := build_wr (i : Int) (u8s P.bytes) hbk.length x2
  obtain ⟨y7, ST7, LD7, hb7⟩ := wr_cell (w := w) (x := x2) (B := W1.heap.size) (u := wrC (i, u8s P.bytes)) ((K2.out.block _ r2.out.lt).trans r2.out) zwr_size HZ.out (HB.out.trans (K2.out.mono HB.out.size)) (wrC_length (x := (i, u8s P.bytes)) hbk.length) (wrC_one (x := (i, u8s P.bytes)) hbk)
  have HL7 := Lib.hid LD7
  have HB7 := Lib.hid hb7
  have BI : Hid ((Instr.build 114 #[(0, .int .i64 (i : Int)), (1, .agg (u8s P.bytes).toArray)]).run Tryz.prog x2 = .ok (.agg (wrC (i, u8s P.bytes)).toArray) x2) := BI
  clear hb hbk LD7 hb7
  go_wp2_with (first | ((with_reducible refine gate_struct 114 ?_); refine wpList_struct_run _ _ rfl rfl [(0, .int .i64 (i : Int)), (1, .agg (u8s P.bytes).toArray)] _ rfl BI.out ?_))
  exact bodyPost_ret (results_cell rfl rfl HL7.out) rfl ⟨rfl, HB7.out⟩
/-- What fits. -/
def Geo.fitsR (g : Geo) (n0 n1 : Nat) : Prop := g.good ∧ g.oF ≤ n0 ∧ g.oW ≤ n1
noncomputable instance (g : Geo) (n0 n1 : Nat) : Decidable (g.fitsR n0 n1) := by unfold Geo.fitsR; infer_instance
set_option maxRecDepth 100000 in
/-- **fits**, of whatever has so many sectors. -/
theorem mvFits {v : Value} {n0 n1 : Nat} (g : Geo) (hg : g.In) (w : World)
    (H0 : ∀ x, Below w.heap.size w x → Calls Tryz.prog 94 #[v, .int .i64 0] x fun e w' => e = .returned (.int .i64 (n0 : Int)) ∧ Below x.heap.size x w')
    (H1 : ∀ x, Below w.heap.size w x → Calls Tryz.prog 94 #[v, .int .i64 1] x fun e w' => e = .returned (.int .i64 (n1 : Int)) ∧ Below x.heap.size x w') :
    Calls Tryz.prog 46 #[v, .agg g.v] w fun e w' => e = .returned (.bool (decide (g.fitsR n0 n1))) ∧ Below w.heap.size w w' := by
  obtain ⟨W, hW⟩ : ∃ W, w.alloc (.cells g.v 23) = W := ⟨_, rfl⟩
  have r1 : RowC W w.heap.size 23 g.cs := by rw [← hW]; exact RowC.new w _ _
  have b1 : Below w.heap.size w W := by rw [← hW]; exact below_new w _
  have HBW := Lib.hid b1
  have HR := Lib.hid r1
  have L0 := load_geo r1
  have HG := Lib.hid hg
  have HH0 := Lib.hid H0
  have HH1 := Lib.hid H1
  have HD : Hid (g.fitsR n0 n1 ↔ (g.good ∧ g.oF ≤ n0 ∧ g.oW ≤ n1)) := Iff.rfl
  obtain ⟨B, hB⟩ : ∃ B, w.heap.size = B := ⟨_, rfl⟩
  have HBB := Lib.hid hB
  rw [hB] at L0 HR
  clear r1 b1 hg H0 H1
  by_cases h1 : g.good
  · have hd1 : decide g.good = true := decide_eq_true h1
    by_cases h2 : g.oF ≤ n0
    · have hd2 : decide (g.oF ≤ (n0 : Int)) = true := decide_eq_true h2
      have HV : Hid (decide (g.fitsR n0 n1) = decide (g.oW ≤ (n1 : Int))) := by
        refine decide_eq_decide.2 ?_
        rw [HD.out]
        exact ⟨fun h => h.2.2, fun h => ⟨h1, h2, h⟩⟩
      rw [HV.out]
      clear h1 h2
      go_enter Tryz.func46, Tryz.ntmps46
      go_wp2_with fail
      go_at_call 93
      refine (gmGood g HG.out W).mono ?_
      rintro e x1 ⟨rfl, hb⟩
      rw [hd1]
      have L1 := load_geo (HR.out.below hb)
      have K1 : Hid (Below w.heap.size w x1) := HBW.out.trans (hb.mono HBW.out.size)
      have R1 := Lib.hid (HR.out.below hb)
      clear hb L0
      go_wp2_with fail
      go_at_call 37
      refine (gmFast g HG.out x1).mono ?_
      rintro e x2 ⟨rfl, hb⟩
      have K2 : Hid (Below w.heap.size w x2) := K1.out.trans (hb.mono K1.out.size)
      have R2 := Lib.hid (R1.out.below hb)
      clear hb L1 R1
      go_wp2_with fail
      go_at_call 94
      refine (HH0.out x2 K2.out).mono ?_
      rintro e x3 ⟨rfl, hb⟩
      have K3 : Hid (Below w.heap.size w x3) := K2.out.trans (hb.mono K2.out.size)
      have R3 := Lib.hid (R2.out.below hb)
      have L3 := load_geo R3.out
      clear hb R2
      go_wp2_with fail
      go_at_call 38
      refine (gmSlow g HG.out x3).mono ?_
      rintro e x4 ⟨rfl, hb⟩
      have K4 : Hid (Below w.heap.size w x4) := K3.out.trans (hb.mono K3.out.size)
      clear hb L3
      go_wp2_with fail
      go_at_call 94
      refine (HH1.out x4 K4.out).mono ?_
      rintro e x5 ⟨rfl, hb⟩
      have K5 : Hid (Below w.heap.size w x5) := K4.out.trans (hb.mono K4.out.size)
      clear hb
      go_wp2_with fail
      go_ret
      exact ⟨rfl, K5.out⟩
    · have hd2 : decide (g.oF ≤ (n0 : Int)) = false := decide_eq_false h2
      have HV : Hid (decide (g.fitsR n0 n1) = false) := decide_eq_false fun h => h2 (HD.out.1 h).2.1
      rw [HV.out]
      clear h1 h2
      go_enter Tryz.func46, Tryz.ntmps46
      go_wp2_with fail
      go_at_call 93
      refine (gmGood g HG.out W).mono ?_
      rintro e x1 ⟨rfl, hb⟩
      rw [hd1]
      have L1 := load_geo (HR.out.below hb)
      have K1 : Hid (Below w.heap.size w x1) := HBW.out.trans (hb.mono HBW.out.size)
      clear hb L0
      go_wp2_with fail
      go_at_call 37
      refine (gmFast g HG.out x1).mono ?_
      rintro e x2 ⟨rfl, hb⟩
      have K2 : Hid (Below w.heap.size w x2) := K1.out.trans (hb.mono K1.out.size)
      clear hb L1
      go_wp2_with fail
      go_at_call 94
      refine (HH0.out x2 K2.out).mono ?_
      rintro e x3 ⟨rfl, hb⟩
      have K3 : Hid (Below w.heap.size w x3) := K2.out.trans (hb.mono K2.out.size)
      clear hb
      go_wp2_with fail
      go_ret
      exact ⟨rfl, K3.out⟩
  · have hd1 : decide g.good = false := decide_eq_false h1
    have HV : Hid (decide (g.fitsR n0 n1) = false) := decide_eq_false fun h => h1 (HD.out.1 h).1
    rw [HV.out]
    clear h1
    go_enter Tryz.func46, Tryz.ntmps46
    go_wp2_with fail
    go_at_call 93
    refine (gmGood g HG.out W).mono ?_
    rintro e x1 ⟨rfl, hb⟩
    rw [hd1]
    have K1 : Hid (Below w.heap.size w x1) := HBW.out.trans (hb.mono HBW.out.size)
    clear hb L0
    go_wp2_with fail
    go_ret
    exact ⟨rfl, K1.out⟩
end
end Go.Proofs.YtbdfllamhcodjaaGreat

/- The developers' fields: what stands where a superblock has its numbers. -/
namespace Go.Proofs.YtbdfllamhcodjaaGreat
open Go.RowKit Go.Shelf
set_option linter.unusedVariables false
attribute [-simp] Tryz.isAgg60 Tryz.zeroValue60 Tryz.isAgg112 Tryz.zeroValue112 Tryz.isAgg189 Tryz.zeroValue189 Tryz.isAgg133 Tryz.zeroValue133 Tryz.isAgg114 Tryz.zeroValue114 Tryz.isAgg105 Tryz.zeroValue105
attribute [-go_sem] loadVar storeVar run_equalIn_agg
attribute [local go_sem] zero_blk build_blk zero_bod zero_pg build_pg build_pg0 build_pg2 zero_imgD zero_wr zero_sup loadVar_openV storeVar_openV

theorem getL_b (bs : List Int) (h : IsBytes bs) {k : Nat} (hl : bs.length = k) (hk : k ≤ 4) : 0 ≤ getL bs ∧ getL bs < 2 ^ (8 * k) := by
  have e : nPlaces (bs.length : Int) = k := by rw [hl]; unfold nPlaces; rw [if_pos (by omega)]; omega
  unfold getL
  rw [e]
  exact getN_bd bs h k
theorem getL_cut (x : List Int) (hx : IsBytes x) (hl : x.length = 48) (o k : Nat) (ho : o + k ≤ 48) (hk : k ≤ 4) : 0 ≤ getL ((x.drop o).take k) ∧ getL ((x.drop o).take k) < 2 ^ (8 * k) :=
  getL_b _ ((hx.drop o).take k) (by rw [List.length_take, List.length_drop]; omega) hk
theorem getL_at (x : List Int) (o : Nat) (ho : o < x.length) : getL ((x.drop o).take 1) = x[o]?.getD 0 := by
  rw [take_one (by rw [List.length_drop]; omega), getL_one, List.getElem?_drop]
  rfl
set_option maxRecDepth 100000 in
set_option maxHeartbeats 4000000 in
/-- A number out of the reader that is boxed. -/
theorem mvNum {N : Nat} (C rb : Nat) (bs : List Int) (k : Nat) (w : World) (hC : w.cell? ⟨C, 0, none⟩ = some (.pointer (some ⟨rb, 0, none⟩))) (hr : Rdr w N rb bs) (hB : IsBytes bs) (hk : k ≤ bs.length) (hk4 : k ≤ 4) :
    Calls Tryz.prog 152 #[.int .i64 (k : Int), .pointer (some ⟨C, 0, none⟩)] w fun e w' => e = .returned (.int .i64 (getL (bs.take k))) ∧ Rdr w' N rb (bs.drop k) ∧ w.grownBy w' (some rb) := by
  have H := Lib.hid (num_yes rb bs k w hr hB hk)
  obtain ⟨q1, q2⟩ := getL_b (bs.take k) (hB.take k) (k := k) (by rw [List.length_take]; omega) hk4
  have q3 : getL (bs.take k) < 4294967296 := Int.lt_of_lt_of_le q2 (by
    have : (2 : Int) ^ (8 * k) ≤ 2 ^ 32 := by
      match k, hk4 with
      | 0, _ => decide
      | 1, _ => decide
      | 2, _ => decide
      | 3, _ => decide
      | 4, _ => decide
    simpa using this)
  obtain ⟨n, hn⟩ : ∃ n, getL (bs.take k) = n := ⟨_, rfl⟩
  rw [hn] at H q1 q3 ⊢
  clear hr hB hk q2 hn
  go_enter Tryz.func152, Tryz.ntmps152
  go_wp2_with fail
  go_at_call 153
  refine H.out.mono ?_
  rintro e w' ⟨rfl, hR, hg⟩
  have R1 := Lib.hid hR
  have G1 := Lib.hid hg
  clear hR hg
  go_wp2_with fail
  go_ret
  exact ⟨rfl, R1.out, G1.out⟩

/- MARK -/
set_option maxRecDepth 100000 in
/-- A superblock that is a result's own cell. -/
theorem sup_cell {w x : World} {B : Nat} {u : List Value} {z : Array Value} (hw : x.heap[B]? = some (.cells z 105 (0, 0))) (hz : z.size = 8) (hB : w.heap.size ≤ B) (hb : Below w.heap.size w x) (hu : u.length = 8) (h1 : ∀ v ∈ u, v.oneCell' = true) :
    ∃ x', (storeVar 105 ⟨B, 0, none⟩ (.agg u.toArray)).run Tryz.prog x = .ok () x' ∧ (loadVar 105 ⟨B, 0, none⟩).run Tryz.prog x' = .ok (.agg u.toArray) x' ∧ Below w.heap.size w x' := by
  have ht : x.there B 0 8 := row_there hw 0 8 (by rw [hz]; exact Nat.le_refl _)
  exact ⟨_, store_sup ht hu h1, load_sup (World.rangeAt_setCells_same x _ 0 u (by rw [hu]; exact ht)) hu, hb.trans (below_cells hB _ _ _)⟩
set_option maxRecDepth 100000 in
theorem new_sup1 (x : World) (gen : Int) : ∃ y, (storeVar 105 ⟨x.heap.size, 0, none⟩ (.agg (supC gen ⟨0, 0, 0, 0, 0⟩ 0 0).toArray)).run Tryz.prog (x.alloc (.cells zsup.toArray 105)) = .ok () y ∧ RowC y x.heap.size 105 (supC gen ⟨0, 0, 0, 0, 0⟩ 0 0) ∧ Below x.heap.size x y :=
  ⟨_, store_new_sup rfl rfl (supC_one _ _ _ _), RowC.new x _ _, below_new x _⟩
theorem grownBy_cellS (w : World) (B j : Nat) (v : Value) : w.grownBy (w.setCell ⟨B, j, none⟩ v) (some B) :=
  ⟨rfl, rfl, rfl, by rw [size_setCell]; exact Nat.le_refl _, fun k _ hk => Below.heap_setCell _ _ _ k (fun e => hk (by rw [e]))⟩
set_option maxRecDepth 100000 in
set_option maxHeartbeats 8000000 in
/-- **fields**. -/
theorem mvFields (p : Sct) (hp : p.Ok) (w : World) :
    Calls Tryz.prog 142 #[.agg p.cells.toArray] w fun e w' => e = .returned (.agg (supC p.seq (bodyG p.body) (bodyA p.body) (bodyQ p.body)).toArray) ∧ Below w.heap.size w w' := by
  obtain ⟨W1, hW1⟩ : ∃ W1, w.alloc (.cells p.cells.toArray 189) = W1 := ⟨_, rfl⟩
  have r1 : RowC W1 w.heap.size 189 p.cells := by rw [← hW1]; exact RowC.new w _ _
  have b1 : Below w.heap.size w W1 := by rw [← hW1]; exact below_new w _
  obtain ⟨W, hW⟩ : ∃ W, W1.alloc (.cells zsup.toArray 105) = W := ⟨_, rfl⟩
  have b2 : Below W1.heap.size W1 W := by rw [← hW]; exact below_new W1 _
  have r2 : Hid (RowC W W1.heap.size 105 zsup) := by show RowC _ _ _ _; rw [← hW]; exact RowC.new W1 _ _
  have HB : Hid (Below w.heap.size w W) := b1.trans (b2.mono b1.size)
  have HZ : Hid (w.heap.size ≤ W1.heap.size) := b1.size
  have rP := r1.below b2
  have RP := Lib.hid rP
  have HS : Hid (Sl .u8 W (.slice (some ⟨w.heap.size, 3, none⟩) 48 48) p.body) := by
    have := sl_range (bs := p.body) (row_part (a := [.int .u8 p.mark, .int .u32 p.seq, .int .i64 p.index]) (b := u8s p.body) rP) rP.lt (by rw [hp.len]; simp [maxLen])
    rw [hp.len] at this
    exact this
  obtain ⟨x, hx⟩ : ∃ x, p.body = x := ⟨_, rfl⟩
  rw [hx] at HS ⊢
  have hxb : IsBytes x := by rw [← hx]; exact hp.bytes
  have hxl : x.length = 48 := by rw [← hx]; exact hp.len
  have HXB := Lib.hid hxb
  have HXL := Lib.hid hxl
  obtain ⟨gb, hgb⟩ : ∃ n, getL ((x.drop 4).take 2) = n := ⟨_, rfl⟩
  have Egb := Lib.hid hgb
  obtain ⟨gs, hgs⟩ : ∃ n, getL ((x.drop 6).take 1) = n := ⟨_, rfl⟩
  have Egs := Lib.hid hgs
  obtain ⟨gy, hgy⟩ : ∃ n, getL ((x.drop 7).take 1) = n := ⟨_, rfl⟩
  have Egy := Lib.hid hgy
  obtain ⟨ga, hga⟩ : ∃ n, getL ((x.drop 8).take 2) = n := ⟨_, rfl⟩
  have Ega := Lib.hid hga
  obtain ⟨gr, hgr⟩ : ∃ n, getL ((x.drop 10).take 2) = n := ⟨_, rfl⟩
  have Egr := Lib.hid hgr
  obtain ⟨na, hna⟩ : ∃ n, getL ((x.drop 12).take 2) = n := ⟨_, rfl⟩
  have Ena := Lib.hid hna
  obtain ⟨nq, hnq⟩ : ∃ n, getL ((x.drop 14).take 4) = n := ⟨_, rfl⟩
  have Enq := Lib.hid hnq
  have q0 : 0 ≤ nq := by rw [← hnq]; exact (getL_cut x hxb hxl 14 4 (by omega) (by omega)).1
  have q1 : nq < 4294967296 := by rw [← hnq]; have := (getL_cut x hxb hxl 14 4 (by omega) (by omega)).2; simpa using this
  have EV : Hid (bodyG x = ⟨gb, gs, gy, ga, gr⟩ ∧ bodyA x = na ∧ bodyQ x = nq) := by
    refine ⟨?_, hna, hnq⟩
    rw [← hgb, ← hgs, ← hgy, ← hga, ← hgr, getL_at x 6 (by omega), getL_at x 7 (by omega)]
    rfl
  rw [EV.out.1, EV.out.2.1, EV.out.2.2]
  obtain ⟨gen, hgen⟩ : ∃ n, p.seq = n := ⟨_, rfl⟩
  have c1 : W.cell? ⟨w.heap.size, 1, none⟩ = some (.int .u32 gen) := by rw [← hgen]; exact rP.cell 1 _ rfl
  have C1 := Lib.hid c1
  have HPB : Hid (w.heap.size < W.heap.size) := rP.lt
  rw [hgen]
  clear r1 b1 b2 rP hp hx hxb hxl hgen c1 hgb hgs hgy hga hgr hna hnq
  obtain ⟨B0, hB0⟩ : ∃ b, w.heap.size = b := ⟨_, rfl⟩
  rw [hB0] at HS C1 HPB
  go_enter Tryz.func142, Tryz.ntmps142
  go_wp2_with fail
  go_at_call 150
  refine (newReader_any _ x W HS.out (by rw [HXL.out]; omega)).mono ?_
  rintro e x1 ⟨rb, rfl, hrb, hR, hb⟩
  obtain ⟨N, hN⟩ : ∃ N, x1.heap.size = N := ⟨_, rfl⟩
  obtain ⟨x2, hx2⟩ : ∃ y, x1.alloc (.cells #[.pointer (some ⟨rb, 0, none⟩)] 244) = y := ⟨_, rfl⟩
  have b2 : Below x1.heap.size x1 x2 := by rw [← hx2]; exact below_new x1 _
  have hC : RowC x2 x1.heap.size 244 [.pointer (some ⟨rb, 0, none⟩)] := by rw [← hx2]; exact RowC.new x1 _ _
  rw [hN] at hR hC
  have K2 : Hid (Below W.heap.size W x2) := hb.trans (b2.mono hb.size)
  have HW : Hid (W.heap.size ≤ rb) := Nat.le_of_lt hrb
  have R2 := Lib.hid (hR.below (grown_below b2 none))
  have cc : x2.cell? ⟨N, 0, none⟩ = some (.pointer (some ⟨rb, 0, none⟩)) := hC.cell 0 _ rfl
  have HC2 := Lib.hid hC
  have HrbN : Hid (rb < N ∧ N < x2.heap.size) := by
    obtain ⟨b, off, cap, h0, h1, h2, h3, h4, h5⟩ := hR
    exact ⟨h5.1, hC.lt⟩
  have hrx : rb < x1.heap.size := by rw [hN]; exact HrbN.out.1
  clear hR hb hrb b2
  go_wp2_with fail
  go_at_call 151
  refine (take_yes rb x 4 x2 R2.out (by rw [HXL.out]; omega) (by rw [HXL.out]; omega)).mono ?_
  rintro e x3 ⟨g, rfl, -, hrow, hR, hg⟩
  have K3 : Hid (Below W.heap.size W x3) := K2.out.grown hg K2.out.size (fun k e => by cases e; exact HW.out)
  have hC3 := HC2.out.grown hg (fun e => by cases e; exact Nat.lt_irrefl _ HrbN.out.1)
  have c1 : x3.cell? ⟨B0, 1, none⟩ = some (.int .u32 gen) := (K3.out.cell (p := ⟨B0, 1, none⟩) HPB.out).trans C1.out
  obtain ⟨y0, ST0, hD, hb⟩ := new_sup1 x3 gen
  have ST : (storeVar 105 ⟨x3.heap.size, 0, none⟩ (.agg (zsup.set 0 (.int .u32 gen)).toArray)).run Tryz.prog (x3.alloc (.cells zsup.toArray 105)) = .ok () y0 := ST0
  obtain ⟨D, hDD⟩ : ∃ d, x3.heap.size = d := ⟨_, rfl⟩
  have HND : Hid (N < D) := by show _ < _; rw [← hDD]; exact hC3.lt
  rw [hDD] at ST hD
  have HWD : Hid (W.heap.size ≤ D) := by show _ ≤ _; rw [← hDD]; exact K3.out.size
  have KY0 : Hid (Below W.heap.size W y0) := K3.out.trans (hb.mono K3.out.size)
  have CY0 := Lib.hid (hC3.below hb)
  have RY0 : Hid (Rdr y0 N rb (x.drop 4)) := hR.below (grown_below hb none)
  have DY0 := Lib.hid hD
  have cc : y0.cell? ⟨N, 0, none⟩ = some (.pointer (some ⟨rb, 0, none⟩)) := CY0.out.cell 0 _ rfl
  clear hrow hR hg hC3 hb hD ST0
  go_wp2_with fail
  clear ST c1
  go_at_call 152
  refine (mvNum N rb (x.drop 4) 2 y0 cc RY0.out (HXB.out.drop 4) (by rw [List.length_drop, HXL.out]; omega) (by omega)).mono ?_
  rintro e z1 ⟨rfl, hR, hg⟩
  rw [Egb.out]
  rw [List.drop_drop] at hR
  have hD := DY0.out.grown hg (fun e => by cases e; exact absurd HND.out (by have := HrbN.out.1; omega))
  have hC := CY0.out.grown hg (fun e => by cases e; exact Nat.lt_irrefl _ HrbN.out.1)
  have KZ := KY0.out.grown hg KY0.out.size (fun k e => by cases e; exact HW.out)
  obtain ⟨y1, hy⟩ : ∃ y, z1.setCell ⟨D, 1, none⟩ (.int .i64 gb) = y := ⟨_, rfl⟩
  have hgs : z1.grownBy y1 (some D) := by rw [← hy]; exact grownBy_cellS z1 D 1 _
  have DY1 := Lib.hid (show RowC y1 D _ _ from by rw [← hy]; exact hD.set 1 (.int .i64 gb))
  have CY1 := Lib.hid (hC.grown hgs (fun e => by cases e; exact Nat.lt_irrefl _ HND.out))
  have RY1 : Hid (Rdr y1 N rb (x.drop 6)) := hR.kept hgs (fun r e => by cases e; exact Nat.le_of_lt HND.out)
  have KY1 : Hid (Below W.heap.size W y1) := KZ.grown hgs KZ.size (fun k e => by cases e; exact HWD.out)
  have d0 : z1.cell? ⟨D, 1, none⟩ = some (.int .i64 0) := hD.cell 1 _ rfl
  have d0' := hD.frozen 1
  have cc : y1.cell? ⟨N, 0, none⟩ = some (.pointer (some ⟨rb, 0, none⟩)) := CY1.out.cell 0 _ rfl
  clear hR hg hD hC KZ hgs
  go_wp2_with fail
  clear d0 d0' hy
  go_at_call 152
  refine (mvNum N rb (x.drop 6) 1 y1 cc RY1.out (HXB.out.drop 6) (by rw [List.length_drop, HXL.out]; omega) (by omega)).mono ?_
  rintro e z2 ⟨rfl, hR, hg⟩
  rw [Egs.out]
  rw [List.drop_drop] at hR
  have hD := DY1.out.grown hg (fun e => by cases e; exact absurd HND.out (by have := HrbN.out.1; omega))
  have hC := CY1.out.grown hg (fun e => by cases e; exact Nat.lt_irrefl _ HrbN.out.1)
  have KZ := KY1.out.grown hg KY1.out.size (fun k e => by cases e; exact HW.out)
  obtain ⟨y2, hy⟩ : ∃ y, z2.setCell ⟨D, 2, none⟩ (.int .i64 gs) = y := ⟨_, rfl⟩
  have hgs : z2.grownBy y2 (some D) := by rw [← hy]; exact grownBy_cellS z2 D 2 _
  have DY2 := Lib.hid (show RowC y2 D _ _ from by rw [← hy]; exact hD.set 2 (.int .i64 gs))
  have CY2 := Lib.hid (hC.grown hgs (fun e => by cases e; exact Nat.lt_irrefl _ HND.out))
  have RY2 : Hid (Rdr y2 N rb (x.drop 7)) := hR.kept hgs (fun r e => by cases e; exact Nat.le_of_lt HND.out)
  have KY2 : Hid (Below W.heap.size W y2) := KZ.grown hgs KZ.size (fun k e => by cases e; exact HWD.out)
  have d0 : z2.cell? ⟨D, 2, none⟩ = some (.int .i64 0) := hD.cell 2 _ rfl
  have d0' := hD.frozen 2
  have cc : y2.cell? ⟨N, 0, none⟩ = some (.pointer (some ⟨rb, 0, none⟩)) := CY2.out.cell 0 _ rfl
  clear hR hg hD hC KZ hgs
  go_wp2_with fail
  clear d0 d0' hy
  go_at_call 152
  refine (mvNum N rb (x.drop 7) 1 y2 cc RY2.out (HXB.out.drop 7) (by rw [List.length_drop, HXL.out]; omega) (by omega)).mono ?_
  rintro e z3 ⟨rfl, hR, hg⟩
  rw [Egy.out]
  rw [List.drop_drop] at hR
  have hD := DY2.out.grown hg (fun e => by cases e; exact absurd HND.out (by have := HrbN.out.1; omega))
  have hC := CY2.out.grown hg (fun e => by cases e; exact Nat.lt_irrefl _ HrbN.out.1)
  have KZ := KY2.out.grown hg KY2.out.size (fun k e => by cases e; exact HW.out)
  obtain ⟨y3, hy⟩ : ∃ y, z3.setCell ⟨D, 3, none⟩ (.int .i64 gy) = y := ⟨_, rfl⟩
  have hgs : z3.grownBy y3 (some D) := by rw [← hy]; exact grownBy_cellS z3 D 3 _
  have DY3 := Lib.hid (show RowC y3 D _ _ from by rw [← hy]; exact hD.set 3 (.int .i64 gy))
  have CY3 := Lib.hid (hC.grown hgs (fun e => by cases e; exact Nat.lt_irrefl _ HND.out))
  have RY3 : Hid (Rdr y3 N rb (x.drop 8)) := hR.kept hgs (fun r e => by cases e; exact Nat.le_of_lt HND.out)
  have KY3 : Hid (Below W.heap.size W y3) := KZ.grown hgs KZ.size (fun k e => by cases e; exact HWD.out)
  have d0 : z3.cell? ⟨D, 3, none⟩ = some (.int .i64 0) := hD.cell 3 _ rfl
  have d0' := hD.frozen 3
  have cc : y3.cell? ⟨N, 0, none⟩ = some (.pointer (some ⟨rb, 0, none⟩)) := CY3.out.cell 0 _ rfl
  clear hR hg hD hC KZ hgs
  go_wp2_with fail
  clear d0 d0' hy
  go_at_call 152
  refine (mvNum N rb (x.drop 8) 2 y3 cc RY3.out (HXB.out.drop 8) (by rw [List.length_drop, HXL.out]; omega) (by omega)).mono ?_
  rintro e z4 ⟨rfl, hR, hg⟩
  rw [Ega.out]
  rw [List.drop_drop] at hR
  have hD := DY3.out.grown hg (fun e => by cases e; exact absurd HND.out (by have := HrbN.out.1; omega))
  have hC := CY3.out.grown hg (fun e => by cases e; exact Nat.lt_irrefl _ HrbN.out.1)
  have KZ := KY3.out.grown hg KY3.out.size (fun k e => by cases e; exact HW.out)
  obtain ⟨y4, hy⟩ : ∃ y, z4.setCell ⟨D, 4, none⟩ (.int .i64 ga) = y := ⟨_, rfl⟩
  have hgs : z4.grownBy y4 (some D) := by rw [← hy]; exact grownBy_cellS z4 D 4 _
  have DY4 := Lib.hid (show RowC y4 D _ _ from by rw [← hy]; exact hD.set 4 (.int .i64 ga))
  have CY4 := Lib.hid (hC.grown hgs (fun e => by cases e; exact Nat.lt_irrefl _ HND.out))
  have RY4 : Hid (Rdr y4 N rb (x.drop 10)) := hR.kept hgs (fun r e => by cases e; exact Nat.le_of_lt HND.out)
  have KY4 : Hid (Below W.heap.size W y4) := KZ.grown hgs KZ.size (fun k e => by cases e; exact HWD.out)
  have d0 : z4.cell? ⟨D, 4, none⟩ = some (.int .i64 0) := hD.cell 4 _ rfl
  have d0' := hD.frozen 4
  have cc : y4.cell? ⟨N, 0, none⟩ = some (.pointer (some ⟨rb, 0, none⟩)) := CY4.out.cell 0 _ rfl
  clear hR hg hD hC KZ hgs
  go_wp2_with fail
  clear d0 d0' hy
  go_at_call 152
  refine (mvNum N rb (x.drop 10) 2 y4 cc RY4.out (HXB.out.drop 10) (by rw [List.length_drop, HXL.out]; omega) (by omega)).mono ?_
  rintro e z5 ⟨rfl, hR, hg⟩
  rw [Egr.out]
  rw [List.drop_drop] at hR
  have hD := DY4.out.grown hg (fun e => by cases e; exact absurd HND.out (by have := HrbN.out.1; omega))
  have hC := CY4.out.grown hg (fun e => by cases e; exact Nat.lt_irrefl _ HrbN.out.1)
  have KZ := KY4.out.grown hg KY4.out.size (fun k e => by cases e; exact HW.out)
  obtain ⟨y5, hy⟩ : ∃ y, z5.setCell ⟨D, 5, none⟩ (.int .i64 gr) = y := ⟨_, rfl⟩
  have hgs : z5.grownBy y5 (some D) := by rw [← hy]; exact grownBy_cellS z5 D 5 _
  have DY5 := Lib.hid (show RowC y5 D _ _ from by rw [← hy]; exact hD.set 5 (.int .i64 gr))
  have CY5 := Lib.hid (hC.grown hgs (fun e => by cases e; exact Nat.lt_irrefl _ HND.out))
  have RY5 : Hid (Rdr y5 N rb (x.drop 12)) := hR.kept hgs (fun r e => by cases e; exact Nat.le_of_lt HND.out)
  have KY5 : Hid (Below W.heap.size W y5) := KZ.grown hgs KZ.size (fun k e => by cases e; exact HWD.out)
  have d0 : z5.cell? ⟨D, 5, none⟩ = some (.int .i64 0) := hD.cell 5 _ rfl
  have d0' := hD.frozen 5
  have cc : y5.cell? ⟨N, 0, none⟩ = some (.pointer (some ⟨rb, 0, none⟩)) := CY5.out.cell 0 _ rfl
  clear hR hg hD hC KZ hgs
  go_wp2_with fail
  clear d0 d0' hy
  go_at_call 152
  refine (mvNum N rb (x.drop 12) 2 y5 cc RY5.out (HXB.out.drop 12) (by rw [List.length_drop, HXL.out]; omega) (by omega)).mono ?_
  rintro e z6 ⟨rfl, hR, hg⟩
  rw [Ena.out]
  rw [List.drop_drop] at hR
  have hD := DY5.out.grown hg (fun e => by cases e; exact absurd HND.out (by have := HrbN.out.1; omega))
  have hC := CY5.out.grown hg (fun e => by cases e; exact Nat.lt_irrefl _ HrbN.out.1)
  have KZ := KY5.out.grown hg KY5.out.size (fun k e => by cases e; exact HW.out)
  obtain ⟨y6, hy⟩ : ∃ y, z6.setCell ⟨D, 6, none⟩ (.int .i64 na) = y := ⟨_, rfl⟩
  have hgs : z6.grownBy y6 (some D) := by rw [← hy]; exact grownBy_cellS z6 D 6 _
  have DY6 := Lib.hid (show RowC y6 D _ _ from by rw [← hy]; exact hD.set 6 (.int .i64 na))
  have CY6 := Lib.hid (hC.grown hgs (fun e => by cases e; exact Nat.lt_irrefl _ HND.out))
  have RY6 : Hid (Rdr y6 N rb (x.drop 14)) := hR.kept hgs (fun r e => by cases e; exact Nat.le_of_lt HND.out)
  have KY6 : Hid (Below W.heap.size W y6) := KZ.grown hgs KZ.size (fun k e => by cases e; exact HWD.out)
  have d0 : z6.cell? ⟨D, 6, none⟩ = some (.int .i64 0) := hD.cell 6 _ rfl
  have d0' := hD.frozen 6
  have cc : y6.cell? ⟨N, 0, none⟩ = some (.pointer (some ⟨rb, 0, none⟩)) := CY6.out.cell 0 _ rfl
  clear hR hg hD hC KZ hgs
  go_wp2_with fail
  clear d0 d0' hy
  go_at_call 152
  refine (mvNum N rb (x.drop 14) 4 y6 cc RY6.out (HXB.out.drop 14) (by rw [List.length_drop, HXL.out]; omega) (by omega)).mono ?_
  rintro e z7 ⟨rfl, hR, hg⟩
  rw [Enq.out]
  rw [List.drop_drop] at hR
  have hD := DY6.out.grown hg (fun e => by cases e; exact absurd HND.out (by have := HrbN.out.1; omega))
  have hC := CY6.out.grown hg (fun e => by cases e; exact Nat.lt_irrefl _ HrbN.out.1)
  have KZ := KY6.out.grown hg KY6.out.size (fun k e => by cases e; exact HW.out)
  obtain ⟨y7, hy⟩ : ∃ y, z7.setCell ⟨D, 7, none⟩ (.int .u32 nq) = y := ⟨_, rfl⟩
  have hgs : z7.grownBy y7 (some D) := by rw [← hy]; exact grownBy_cellS z7 D 7 _
  have DY7 := Lib.hid (show RowC y7 D _ _ from by rw [← hy]; exact hD.set 7 (.int .u32 nq))
  have CY7 := Lib.hid (hC.grown hgs (fun e => by cases e; exact Nat.lt_irrefl _ HND.out))
  have RY7 : Hid (Rdr y7 N rb (x.drop 18)) := hR.kept hgs (fun r e => by cases e; exact Nat.le_of_lt HND.out)
  have KY7 : Hid (Below W.heap.size W y7) := KZ.grown hgs KZ.size (fun k e => by cases e; exact HWD.out)
  have d0 : z7.cell? ⟨D, 7, none⟩ = some (.int .u32 0) := hD.cell 7 _ rfl
  have d0' := hD.frozen 7
  have cc : y7.cell? ⟨N, 0, none⟩ = some (.pointer (some ⟨rb, 0, none⟩)) := CY7.out.cell 0 _ rfl
  have DF : RowC y7 D 105 (supC gen ⟨gb, gs, gy, ga, gr⟩ na nq) := DY7.out
  have LD := DF.sup
  obtain ⟨y8, ST8, LD8, hb8⟩ := sup_cell (w := w) (x := y7) (B := W1.heap.size) (u := supC gen ⟨gb, gs, gy, ga, gr⟩ na nq) ((KY7.out.block _ r2.out.lt).trans r2.out) rfl HZ.out (HB.out.trans (KY7.out.mono HB.out.size)) rfl (supC_one _ _ _ _)
  have HL8 := Lib.hid LD8
  have HB8 := Lib.hid hb8
  clear LD8 hb8 DF
  clear hR hg hD hC KZ hgs
  go_wp2_with fail
  exact bodyPost_ret (results_cell rfl rfl HL8.out) rfl ⟨rfl, HB8.out⟩
end Go.Proofs.YtbdfllamhcodjaaGreat

/- The developers' superOf. -/
namespace Go.Proofs.YtbdfllamhcodjaaGreat
open Go.RowKit Go.Shelf
set_option linter.unusedVariables false
attribute [-simp] Tryz.isAgg60 Tryz.zeroValue60 Tryz.isAgg112 Tryz.zeroValue112 Tryz.isAgg189 Tryz.zeroValue189 Tryz.isAgg133 Tryz.zeroValue133 Tryz.isAgg114 Tryz.zeroValue114 Tryz.isAgg105 Tryz.zeroValue105
attribute [-go_sem] loadVar storeVar run_equalIn_agg
attribute [local go_sem] zero_blk build_blk zero_bod zero_pg build_pg build_pg0 build_pg2 zero_imgD zero_wr zero_sup loadVar_openV storeVar_openV

theorem supIn_body {gen : Int} (hs : IsSeq gen) {x : List Int} (hx : IsBytes x) (hl : x.length = 48) : SupIn gen (bodyG x) (bodyA x) (bodyQ x) := by
  have b2 : ∀ o, o + 2 ≤ 48 → 0 ≤ getL ((x.drop o).take 2) ∧ getL ((x.drop o).take 2) < 65536 := fun o ho => by simpa using getL_cut x hx hl o 2 ho (by omega)
  have e6 := hx 6
  have e7 := hx 7
  have q : 0 ≤ getL ((x.drop 14).take 4) ∧ getL ((x.drop 14).take 4) < 4294967296 := by simpa using getL_cut x hx hl 14 4 (by omega) (by omega)
  exact ⟨hs, b2 4 (by omega), e6, e7, b2 8 (by omega), b2 10 (by omega), b2 12 (by omega), q⟩
/-- A superblock as a block tells it; is it one? -/
def supVal (bs : List Int) : List Value := if decOk bs = true then supC (Sct.of bs).seq (bodyG (Sct.of bs).body) (bodyA (Sct.of bs).body) (bodyQ (Sct.of bs).body) else zsup
noncomputable def supTrue (bs : List Int) : Bool := if decOk bs = true then sameS (supSctI (Sct.of bs).seq (bodyG (Sct.of bs).body) (bodyA (Sct.of bs).body) (bodyQ (Sct.of bs).body)) (Sct.of bs) else false
set_option maxRecDepth 100000 in
theorem store_rowSup {x : World} {B : Nat} {old C : List Value} (h : RowC x B 105 old) (ho : old.length = 8) (hC : C.length = 8) (h1 : ∀ v ∈ C, v.oneCell' = true) :
    ∃ y, (storeVar 105 ⟨B, 0, none⟩ (.agg C.toArray)).run Tryz.prog x = .ok () y ∧ RowC y B 105 C ∧ x.grownBy y (some B) := by
  refine ⟨_, run_storeVar_row x B _ _ old.toArray C.toArray h (by simpa [hC] using size_sup) (by simp [ho, hC]) (all_oneCell_toArray h1), setRow_heap x B _ _ _ _ h, ?_⟩
  exact ⟨rfl, rfl, rfl, by rw [setRow_size]; exact Nat.le_refl _, fun k _ hk => setRow_other x B k _ (fun e => hk (by rw [e]))⟩
set_option maxRecDepth 100000 in
set_option maxHeartbeats 8000000 in
/-- **superOf**. -/
theorem mvSuperOf (bs : List Int) (hb : IsBytes bs) (hl : bs.length = 64) (w : World) :
    Calls Tryz.prog 120 #[.agg (u8s bs).toArray] w fun e w' => e = .returned (.tuple #[.agg (supVal bs).toArray, .bool (supTrue bs)]) ∧ Below w.heap.size w w' := by
  obtain ⟨W1, hW1⟩ : ∃ W1, w.alloc (.cells (u8s bs).toArray 60) = W1 := ⟨_, rfl⟩
  have r1 : RowC W1 w.heap.size 60 (u8s bs) := by rw [← hW1]; exact RowC.new w _ _
  have b1 : Below w.heap.size w W1 := by rw [← hW1]; exact below_new w _
  obtain ⟨W, hW⟩ : ∃ W, W1.alloc (.cells zsup.toArray 105) = W := ⟨_, rfl⟩
  have b2 : Below W1.heap.size W1 W := by rw [← hW]; exact below_new W1 _
  have r2 : RowC W W1.heap.size 105 zsup := by rw [← hW]; exact RowC.new W1 _ _
  have HB : Hid (Below w.heap.size w W) := b1.trans (b2.mono b1.size)
  have HZ : Hid (w.heap.size ≤ W1.heap.size) := b1.size
  have L0 := (r1.below b2).blk (by rw [u8s_length]; exact hl)
  have HDE := Lib.hid (pgDecode bs hb hl W)
  have HPO := Lib.hid (decS_ok hb hl)
  obtain ⟨B1, hB1⟩ : ∃ b, W1.heap.size = b := ⟨_, rfl⟩
  rw [hB1] at r2 HZ
  have R2 := Lib.hid r2
  clear r1 b1 b2 r2 hb hl
  by_cases hd : decOk bs = true
  · have e1 : decE bs = 0 := by unfold decE; rw [if_pos hd]
    have e2 : decS bs = Sct.of bs := by unfold decS; rw [if_pos hd]
    rw [e1, e2] at HDE
    rw [e2] at HPO
    have e3 : supVal bs = supC (Sct.of bs).seq (bodyG (Sct.of bs).body) (bodyA (Sct.of bs).body) (bodyQ (Sct.of bs).body) := by unfold supVal; rw [if_pos hd]
    have e4 : supTrue bs = sameS (supSctI (Sct.of bs).seq (bodyG (Sct.of bs).body) (bodyA (Sct.of bs).body) (bodyQ (Sct.of bs).body)) (Sct.of bs) := by unfold supTrue; rw [if_pos hd]
    rw [e3, e4]
    obtain ⟨p, hp⟩ : ∃ p, Sct.of bs = p := ⟨_, rfl⟩
    rw [hp] at HDE HPO ⊢
    clear e1 e2 e3 e4 hd hp
    have HIN := Lib.hid (supIn_body HPO.out.seq HPO.out.bytes HPO.out.len)
    have HFD := Lib.hid (mvFields p HPO.out)
    obtain ⟨C, hC⟩ : ∃ C, supC p.seq (bodyG p.body) (bodyA p.body) (bodyQ p.body) = C := ⟨_, rfl⟩
    obtain ⟨q, hq⟩ : ∃ q, supSctI p.seq (bodyG p.body) (bodyA p.body) (bodyQ p.body) = q := ⟨_, rfl⟩
    have HSE : Hid (∀ x, Calls Tryz.prog 102 #[.agg C.toArray] x fun e w' => e = .returned (.agg q.cells.toArray) ∧ Below x.heap.size x w') := fun x => by
      have := mvSector HIN.out x
      rw [hC, hq] at this
      exact this
    have hCl : C.length = 8 := by rw [← hC]; rfl
    have hC1 : ∀ v ∈ C, v.oneCell' = true := by rw [← hC]; exact supC_one _ _ _ _
    have hql : q.body.length = 48 := by rw [← hq]; exact supSctI_len _ _ _ _
    rw [hC] at HFD
    rw [hC, hq]
    have HCL := Lib.hid hCl
    have HC1 := Lib.hid hC1
    have EQ : Hid (∀ z : World, (Op.equalIn 10000 189 (.agg q.cells.toArray) (.agg p.cells.toArray)).run Tryz.prog z = .ok (sameS q p) z) := fun z => eq_sec hql HPO.out.len z
    obtain ⟨ok, hok⟩ : ∃ b, sameS q p = b := ⟨_, rfl⟩
    rw [hok] at EQ ⊢
    have hmx : Tryz.prog.follows .mixedOrders = true := by kernel_rfl
    clear hC hq hCl hC1 hql HIN hok
    go_enter Tryz.func120, Tryz.ntmps120
    go_wp2_with fail
    go_at_call 122
    refine HDE.out.mono ?_
    rintro e x1 ⟨rfl, hb⟩
    obtain ⟨x2, ST2, r2, hb2⟩ := new_pg x1 p HPO.out.len
    have K2 : Hid (Below W.heap.size W x2) := hb.trans (hb2.mono hb.size)
    have L2 := r2.pg HPO.out.len
    obtain ⟨Bp, hBp⟩ : ∃ b, x1.heap.size = b := ⟨_, rfl⟩
    rw [hBp] at ST2 r2 L2
    have RP2 := Lib.hid r2
    clear hb hb2 r2 L0
    go_wp2_with fail
    clear ST2 hBp
    go_at_call 142
    refine (HFD.out x2).mono ?_
    rintro e x3 ⟨rfl, hb⟩
    have K3 := K2.out.trans (hb.mono K2.out.size)
    have r3 := RP2.out.below hb
    obtain ⟨x4, ST4, r4, g4⟩ := store_rowSup (C := C) ((R2.out.below K3)) rfl HCL.out HC1.out
    have hpb : Bp ≠ B1 := fun e => by
      have h1 : RowC x3 Bp _ _ := r3
      have h2 := R2.out.below K3
      rw [e] at h1
      have := h1.symm.trans h2
      simp at this
    have RP4 := Lib.hid (r3.grown g4 (fun e => hpb (by cases e; rfl)))
    have RS4 := Lib.hid r4
    have K4 : Hid (Below w.heap.size w x4) := (HB.out.trans (K3.mono HB.out.size)).grown g4 (HB.out.trans (K3.mono HB.out.size)).size (fun k e => by cases e; exact HZ.out)
    clear hb K3 r3 r4 g4 hpb L2
    go_wp2_with fail
    clear ST4
    have LSz : ∀ z : Ext x4, (loadVar 105 ⟨B1, 0, none⟩).run Tryz.prog z.1 = .ok (.agg C.toArray) z.1 := fun z => load_sup (RS4.out.below z.2).range HCL.out
    have LPz : ∀ z : Ext x4, (loadVar 189 ⟨Bp, 0, none⟩).run Tryz.prog z.1 = .ok (.agg p.cells.toArray) z.1 := fun z => (RP4.out.below z.2).pg HPO.out.len
    refine region_plan (fun x => ∃ y : Ext x4, x = y.1) 6 (.takes [0, 1, 3] (.one 2 (.take 4 (.one 5 .leaf)))) hmx (by kernel_rfl) (by intro c x v a w h; cases x <;> exact h) ⟨⟨x4.drew, (Below.refl _ x4).drew⟩, rfl⟩ ?_
    repeat (rw [wpPlan_takes_cons]; simp only [nth_zero, nth_succ]; go_big_quiet_step (fail); refine wpQuiet_nil ?_)
    rw [wpPlan_takes_nil, wpPlan_one]
    simp only [nth_zero, nth_succ]
    clear LSz LPz
    go_wp2_with fail
    go_at_call 102
    refine (HSE.out _).mono ?_
    rintro e x5 ⟨rfl, hb⟩
    have K5 : Hid (Below x4.heap.size x4 x5) := ((Below.refl _ x4).drew).trans hb
    clear hb
    go_wp2_with fail
    refine planPost_mk ⟨⟨x5, K5.out⟩, rfl⟩ ?_
    rw [wpPlan_take]
    simp only [nth_zero, nth_succ]
    have EQ5 := EQ.out
    go_big_quiet_step (fail)
    refine wpQuiet_nil ?_
    clear EQ5
    rw [wpPlan_one]
    simp only [nth_zero, nth_succ]
    obtain ⟨x6, ST6, r6, g6⟩ := store_rowSup (C := C) (RS4.out.below K5.out) HCL.out HCL.out HC1.out
    have K6 : Hid (Below x4.heap.size x4 x6) := by
      refine ⟨g6.os.trans K5.out.os, g6.tape.trans K5.out.tape, g6.output.trans K5.out.output, Nat.le_trans K5.out.size g6.size, fun k hk => ?_⟩
      by_cases hkb : k = B1
      · subst hkb; exact (show x6.heap[k]? = _ from r6).trans (show x4.heap[k]? = _ from RS4.out).symm
      · exact (g6.block k (Nat.lt_of_lt_of_le hk K5.out.size) (fun e => hkb (by cases e; rfl))).trans (K5.out.block k hk)
    have LD := Lib.hid (load_sup (r6.range) HCL.out)
    have HB6 : Hid (Below w.heap.size w x6) := K4.out.trans (K6.out.mono K4.out.size)
    clear r6 g6
    go_wp2_with fail
    refine planPost_mk ⟨⟨x6, K6.out⟩, rfl⟩ ?_
    rw [wpPlan_leaf]
    simp only [List.drop_succ_cons, List.drop_zero]
    clear ST6
    go_wp2_with fail
    exact bodyPost_ret (results_cell2 rfl rfl LD.out) rfl ⟨rfl, HB6.out⟩
  · have e1 : decE bs = 11 := by unfold decE; rw [if_neg hd]
    rw [e1] at HDE
    have e3 : supVal bs = zsup := by unfold supVal; rw [if_neg hd]
    have e4 : supTrue bs = false := by unfold supTrue; rw [if_neg hd]
    rw [e3, e4]
    obtain ⟨p, hp⟩ : ∃ p, decS bs = p := ⟨_, rfl⟩
    rw [hp] at HDE HPO
    clear e1 e3 e4 hd hp
    go_enter Tryz.func120, Tryz.ntmps120
    go_wp2_with fail
    go_at_call 122
    refine HDE.out.mono ?_
    rintro e x1 ⟨rfl, hb⟩
    obtain ⟨x2, ST2, r2, hb2⟩ := new_pg x1 p HPO.out.len
    have K2 : Below W.heap.size W x2 := hb.trans (hb2.mono hb.size)
    obtain ⟨Bp, hBp⟩ : ∃ b, x1.heap.size = b := ⟨_, rfl⟩
    rw [hBp] at ST2
    obtain ⟨x4, ST4, r4, g4⟩ := store_rowSup (C := zsup) ((R2.out.below K2)) rfl rfl (supC_one _ _ _ _)
    have LD := Lib.hid (load_sup (r4.range) rfl)
    have K4 : Hid (Below w.heap.size w x4) := (HB.out.trans (K2.mono HB.out.size)).grown g4 (HB.out.trans (K2.mono HB.out.size)).size (fun k e => by cases e; exact HZ.out)
    clear hb hb2 r2 L0 K2 r4 g4
    go_wp2_with fail
    exact bodyPost_ret (results_cell2 rfl rfl LD.out) rfl ⟨rfl, K4.out⟩
end Go.Proofs.YtbdfllamhcodjaaGreat

/- What a package meta promises, over whatever its Metas occupy in memory. -/
namespace Go.Proofs.YtbdfllamhcodjaaGreat
open Go.RowKit
set_option linter.unusedVariables false

/-- What a Meta at a block occupies, whose rig is at another one. -/
structure MetaRes where
  Mem : Nat → Nat → MS → Res
  isRes : ∀ m rb M, IsRes (Mem m rb M)
/-- A slice whose bytes are not among some blocks. -/
def Away (v : Value) (f : Nat → Prop) : Prop := ∀ b off len cap, v = .slice (some ⟨b, off, none⟩) len cap → ¬ f b
/-- A slice that is new. -/
def Fresh (v : Value) (w w' : World) : Prop := ∀ b off len cap, v = .slice (some ⟨b, off, none⟩) len cap → w.heap.size ≤ b
abbrev MetaRes.Both (R : MetaRes) (rb p0 p1 m : Nat) (S : RS) (M : MS) : Res := Sep (RigR rb p0 p1 S) (R.Mem m rb M)
theorem MetaRes.both (R : MetaRes) (rb p0 p1 m : Nat) (S : RS) (M : MS) : IsRes (R.Both rb p0 p1 m S M) := (RigR.isRes _ _ _ _).sep (R.isRes _ _ _)
structure MetaOk (R : MetaRes) : Prop where
  format : ∀ {rb p0 p1 : Nat} {S : RS} {w : World} {f : Nat → Prop}, RigR rb p0 p1 S w f → S.Rdy → S.Up → ∀ {g : Geo}, g.In → g.good → g.oF ≤ S.n0 → g.oW ≤ S.n1 → ∀ {v : Value} {bs : List Int}, Sl .u8 w v bs → IsBytes bs → bs.length = g.bts.toNat → (bs ≠ [] → Away v f) →
    Calls Tryz.prog 16 #[.pointer (some ⟨rb, 0, none⟩), .agg g.v, v] w fun e w' => ∃ m, e = .returned (.tuple #[.pointer (some ⟨m, 0, none⟩), .int .i64 0]) ∧ ∃ f', R.Both rb p0 p1 m (S.bat (fmtB g bs)).1 (MS.new g bs) w' f' ∧ Turn f f' w w'
  format_no : ∀ {rb p0 p1 : Nat} {S : RS} {w : World} {f : Nat → Prop}, RigR rb p0 p1 S w f → S.Rdy → ∀ {g : Geo}, g.In → ∀ {v : Value} {bs : List Int}, Sl .u8 w v bs → ¬ (g.good ∧ g.oF ≤ S.n0 ∧ g.oW ≤ S.n1 ∧ bs.length = g.bts.toNat) →
    Calls Tryz.prog 16 #[.pointer (some ⟨rb, 0, none⟩), .agg g.v, v] w fun e w' => e = .returned (.tuple #[.pointer none, .int .i64 1]) ∧ Below w.heap.size w w'
  open_ : ∀ {rb p0 p1 : Nat} {S : RS} {w : World} {f : Nat → Prop}, RigR rb p0 p1 S w f → S.Rdy → S.Up → ∀ {M : MS}, S.opn = some M →
    Calls Tryz.prog 26 #[.pointer (some ⟨rb, 0, none⟩)] w fun e w' => ∃ m, e = .returned (.tuple #[.pointer (some ⟨m, 0, none⟩), .int .i64 0]) ∧ ∃ f', R.Both rb p0 p1 m S M w' f' ∧ Turn f f' w w'
  open_no : ∀ {rb p0 p1 : Nat} {S : RS} {w : World} {f : Nat → Prop}, RigR rb p0 p1 S w f → S.Rdy → S.Up → 2 ≤ S.n0 → S.opn = none →
    Calls Tryz.prog 26 #[.pointer (some ⟨rb, 0, none⟩)] w fun e w' => e = .returned (.tuple #[.pointer none, .int .i64 11]) ∧ Below w.heap.size w w'
  open_nil : ∀ w : World, Calls Tryz.prog 26 #[.pointer none] w fun e w' => e = .returned (.tuple #[.pointer none, .int .i64 1]) ∧ Below w.heap.size w w'
  bytes : ∀ {m rb : Nat} {M : MS} {w : World} {f : Nat → Prop}, R.Mem m rb M w f → M.b.length ≤ 100000 → IsBytes M.b → Calls Tryz.prog 29 #[.pointer (some ⟨m, 0, none⟩)] w fun e w' => ∃ v, e = .returned v ∧ Sl .u8 w' v M.b ∧ Fresh v w w' ∧ Below w.heap.size w w'
  bytes_nil : ∀ w : World, Calls Tryz.prog 29 #[.pointer none] w fun e w' => ∃ v, e = .returned v ∧ Sl .u8 w' v [] ∧ Below w.heap.size w w'
  room : ∀ {m rb : Nat} {M : MS} {w : World} {f : Nat → Prop}, R.Mem m rb M w f → M.g.good → M.used ≤ M.g.C → Calls Tryz.prog 30 #[.pointer (some ⟨m, 0, none⟩)] w fun e w' => e = .returned (.int .i64 M.room) ∧ Below w.heap.size w w'
  room_nil : ∀ w : World, Calls Tryz.prog 30 #[.pointer none] w fun e w' => e = .returned (.int .i64 0) ∧ Below w.heap.size w w'
  geom : ∀ {m rb : Nat} {M : MS} {w : World} {f : Nat → Prop}, R.Mem m rb M w f → Calls Tryz.prog 32 #[.pointer (some ⟨m, 0, none⟩)] w fun e w' => e = .returned (.agg M.g.v) ∧ Below w.heap.size w w'
  geom_nil : ∀ w : World, Calls Tryz.prog 32 #[.pointer none] w fun e w' => e = .returned (.agg (Geo.mk 0 0 0 0 0).v) ∧ Below w.heap.size w w'
  commit : ∀ {rb p0 p1 m : Nat} {S : RS} {M : MS} {w : World} {f : Nat → Prop}, R.Both rb p0 p1 m S M w f → S.Rdy → S.down = false → M.Ok S → ∀ {v : Value} {bs : List Int}, Sl .u8 w v bs → IsBytes bs → bs.length = M.b.length → (bs ≠ [] → Away v f) →
    Calls Tryz.prog 19 #[.pointer (some ⟨m, 0, none⟩), v] w fun e w' => e = .returned (.int .i64 (S.cmt M bs).2) ∧ ∃ f', (if (S.cmt M bs).2 = 0 then R.Both rb p0 p1 m (S.cmt M bs).1 (M.next bs) else RigR rb p0 p1 (S.cmt M bs).1) w' f' ∧ Turn f f' w w'
  commit_no : ∀ {m rb : Nat} {M : MS} {w : World} {f : Nat → Prop}, R.Mem m rb M w f → ∀ {v : Value} {bs : List Int}, Sl .u8 w v bs → bs.length ≠ M.b.length →
    Calls Tryz.prog 19 #[.pointer (some ⟨m, 0, none⟩), v] w fun e w' => e = .returned (.int .i64 1) ∧ Below w.heap.size w w'
  commit_nil : ∀ (w : World) {v : Value} {bs : List Int}, Sl .u8 w v bs → Calls Tryz.prog 19 #[.pointer none, v] w fun e w' => e = .returned (.int .i64 1) ∧ Below w.heap.size w w'
/-- Two apart: one is set aside. -/
theorem AtR.split {P Q : Res} {w0 W : World} {own : Nat → Prop} (hQ : IsRes Q) (h : AtR (Sep P Q) w0 W own) : ∃ fQ, Q W fQ ∧ (∀ k, fQ k → w0.heap.size ≤ k ∧ ¬ own k) ∧ AtR P w0 W (fun k => own k ∨ fQ k) := by
  obtain ⟨f, ⟨f1, f2, h1, h2, h3, rfl⟩, h4, h5, h6⟩ := h
  exact ⟨f2, h2, fun k hk => h4 k (.inr hk), f1, h1, fun k hk => ⟨(h4 k (.inl hk)).1, fun ho => ho.elim (h4 k (.inl hk)).2 (h3 k hk)⟩, fun k hk => hk.elim (h5 k) (hQ.lt h2 k), h6⟩
theorem AtR.join {P Q : Res} {w0 W : World} {own fQ : Nat → Prop} (h2 : Q W fQ) (hf : ∀ k, fQ k → w0.heap.size ≤ k ∧ ¬ own k) (h : AtR P w0 W (fun k => own k ∨ fQ k)) : AtR (Sep P Q) w0 W own := by
  obtain ⟨f, h1, h4, h5, h6⟩ := h
  exact ⟨_, ⟨f, fQ, h1, h2, fun k a b => (h4 k a).2 (.inr b), rfl⟩, fun k hk => by
    rcases hk with hk | hk
    · exact ⟨(h4 k hk).1, fun ho => (h4 k hk).2 (.inl ho)⟩
    · exact hf k hk, fun k hk => h5 k (.inl hk), h6⟩
end Go.Proofs.YtbdfllamhcodjaaGreat

/- The developers' correct, newer. -/
namespace Go.Proofs.YtbdfllamhcodjaaGreat
open Go.RowKit Go.Shelf
set_option linter.unusedVariables false
attribute [-simp] Tryz.isAgg60 Tryz.zeroValue60 Tryz.isAgg112 Tryz.zeroValue112 Tryz.isAgg189 Tryz.zeroValue189 Tryz.isAgg133 Tryz.zeroValue133 Tryz.isAgg114 Tryz.zeroValue114 Tryz.isAgg105 Tryz.zeroValue105
attribute [-go_sem] loadVar storeVar run_equalIn_agg
attribute [local go_sem] zero_blk build_blk zero_bod zero_pg build_pg build_pg0 build_pg2 zero_imgD zero_wr zero_sup loadVar_openV storeVar_openV

theorem SupIn.inG {gen : Int} {g : Geo} {a q : Int} (h : SupIn gen g a q) : g.In := by
  obtain ⟨h1, h2, h3, h4, h5, h6, h7, h8, h9, h10, -⟩ := h.of
  intro n hn
  simp only [List.mem_cons, List.not_mem_nil, or_false] at hn
  rcases hn with rfl | rfl | rfl | rfl | rfl <;> omega
theorem supSct_eq {gen : Int} {g : Geo} {a : Nat} {q : Int} {p : Sct} : supSct gen g a q = p ↔ p.mark = 83 ∧ p.seq = gen ∧ p.index = 0 ∧ p.body = supBody g a q := by
  obtain ⟨m, s, i, b⟩ := p
  unfold supSct
  simp only [Sct.mk.injEq]
  constructor
  · rintro ⟨rfl, rfl, rfl, rfl⟩; exact ⟨rfl, rfl, rfl, rfl⟩
  · rintro ⟨rfl, rfl, rfl, rfl⟩; exact ⟨rfl, rfl, rfl, rfl⟩
/-- **What the developers' superblock tells is what a superblock tells.** -/
theorem sup_tells (n0 n1 : Nat) {bs : List Int} (hb : IsBytes bs) (hl : bs.length = 64) :
    (∃ x, supOf n0 n1 bs = some x ∧ supTrue bs = true ∧ supVal bs = supC x.gen x.g x.a x.q ∧ (x.g.fitsR n0 n1 ∧ (x.a : Int) < x.g.r) ∧ SupIn x.gen x.g x.a x.q) ∨
    (supOf n0 n1 bs = none ∧ (supTrue bs = false ∨ ∃ gen g a q, supTrue bs = true ∧ supVal bs = supC gen g a q ∧ SupIn gen g a q ∧ ¬ (g.fitsR n0 n1 ∧ a < g.r))) := by
  have hp := of_ok hb hl
  by_cases hd : decOk bs = true
  · have hin := supIn_body hp.seq hp.bytes hp.len
    have hA : ((bodyA (Sct.of bs).body).toNat : Int) = bodyA (Sct.of bs).body := Int.toNat_of_nonneg hin.at0.1
    have hv : supVal bs = supC (Sct.of bs).seq (bodyG (Sct.of bs).body) (bodyA (Sct.of bs).body) (bodyQ (Sct.of bs).body) := by unfold supVal; rw [if_pos hd]
    have ht : supTrue bs = sameS (supSctI (Sct.of bs).seq (bodyG (Sct.of bs).body) (bodyA (Sct.of bs).body) (bodyQ (Sct.of bs).body)) (Sct.of bs) := by unfold supTrue; rw [if_pos hd]
    have hiff : supTrue bs = true ↔ (Sct.of bs).mark = 83 ∧ (Sct.of bs).seq = (Sct.of bs).seq ∧ (Sct.of bs).index = 0 ∧ (Sct.of bs).body = supBody (bodyG (Sct.of bs).body) (bodyA (Sct.of bs).body).toNat (bodyQ (Sct.of bs).body) := by
      rw [ht, sameS_iff, ← hA, supSctI_nat, supSct_eq, Int.toNat_natCast]
    by_cases hP : supP n0 n1 bs
    · left
      refine ⟨_, by unfold supOf; exact if_pos hP, ?_, ?_, ?_, ?_⟩
      · obtain ⟨_, h2, h3, _, _, _, _, h8⟩ := hP
        exact hiff.2 ⟨h2, rfl, h3, h8⟩
      · show _ = supC _ _ ((bodyA (Sct.of bs).body).toNat : Int) _
        rw [hA]; exact hv
      · obtain ⟨_, _, _, h4, h5, h6, h7, _⟩ := hP
        exact ⟨⟨h4, h5, h6⟩, by show ((bodyA (Sct.of bs).body).toNat : Int) < _; rw [hA]; exact h7⟩
      · show SupIn _ _ ((bodyA (Sct.of bs).body).toNat : Int) _
        rw [hA]; exact hin
    · right
      refine ⟨by unfold supOf; exact if_neg hP, ?_⟩
      by_cases hT : supTrue bs = true
      · right
        refine ⟨_, _, _, _, hT, hv, hin, fun h => hP ?_⟩
        obtain ⟨h2, _, h3, h8⟩ := hiff.1 hT
        exact ⟨hd, h2, h3, h.1.1, h.1.2.1, h.1.2.2, h.2, h8⟩
      · left; simpa using hT
  · right
    refine ⟨by unfold supOf; exact if_neg (fun h => hd h.1), .inl (by unfold supTrue; exact if_neg hd)⟩
section
set_option maxRecDepth 100000
set_option maxHeartbeats 4000000
set_option maxRecDepth 100000 in
/-- **correct**. -/
theorem mvCorrect {v : Value} {n0 n1 : Nat} {gen : Int} {g : Geo} {a q : Int} (hI : SupIn gen g a q) (w : World)
    (H0 : ∀ x, Below w.heap.size w x → Calls Tryz.prog 94 #[v, .int .i64 0] x fun e w' => e = .returned (.int .i64 (n0 : Int)) ∧ Below x.heap.size x w')
    (H1 : ∀ x, Below w.heap.size w x → Calls Tryz.prog 94 #[v, .int .i64 1] x fun e w' => e = .returned (.int .i64 (n1 : Int)) ∧ Below x.heap.size x w') :
    Calls Tryz.prog 121 #[.agg (supC gen g a q).toArray, v] w fun e w' => e = .returned (.bool (decide (g.fitsR n0 n1) && decide (a < g.r))) ∧ Below w.heap.size w w' := by
  obtain ⟨W, hW⟩ : ∃ W, w.alloc (.cells (supC gen g a q).toArray 105) = W := ⟨_, rfl⟩
  have r1 : RowC W w.heap.size 105 (supC gen g a q) := by rw [← hW]; exact RowC.new w _ _
  have b1 : Below w.heap.size w W := by rw [← hW]; exact below_new w _
  have HBW := Lib.hid b1
  have HR := Lib.hid r1
  have L0 := r1.supG
  have HF := Lib.hid (mvFits g hI.inG W (fun x hx => H0 x (b1.trans (hx.mono b1.size))) (fun x hx => H1 x (b1.trans (hx.mono b1.size))))
  obtain ⟨B, hB⟩ : ∃ B, w.heap.size = B := ⟨_, rfl⟩
  rw [hB] at L0 HR
  obtain ⟨sc, hsc⟩ : ∃ c, (supC gen g a q).toArray = c := ⟨_, rfl⟩
  rw [hsc] at hW
  rw [hsc]
  obtain ⟨z, hz⟩ : ∃ z, decide (g.fitsR n0 n1) = z := ⟨_, rfl⟩
  rw [hz] at HF ⊢
  clear r1 b1 H0 H1 hsc hz
  go_enter Tryz.func121, Tryz.ntmps121
  go_wp2_with fail
  go_at_call 46
  refine HF.out.mono ?_
  rintro e x1 ⟨rfl, hb⟩
  have K1 : Hid (Below w.heap.size w x1) := HBW.out.trans (hb.mono HBW.out.size)
  have r1 := HR.out.below hb
  have c6 : x1.cell? ⟨B, 6, none⟩ = some (.int .i64 a) := r1.cell 6 _ rfl
  have c5 : x1.cell? ⟨B, 5, none⟩ = some (.int .i64 g.r) := r1.cell 5 _ rfl
  clear hb L0 r1
  cases z with
  | true =>
    go_wp2_with fail
    go_ret
    exact ⟨by simp, K1.out⟩
  | false =>
    go_wp2_with fail
    go_ret
    exact ⟨by simp, K1.out⟩
end
end Go.Proofs.YtbdfllamhcodjaaGreat

/- The developers' newer. -/
namespace Go.Proofs.YtbdfllamhcodjaaGreat
open Go.RowKit Go.Shelf
set_option linter.unusedVariables false
attribute [-simp] Tryz.isAgg60 Tryz.zeroValue60 Tryz.isAgg112 Tryz.zeroValue112 Tryz.isAgg189 Tryz.zeroValue189 Tryz.isAgg133 Tryz.zeroValue133 Tryz.isAgg114 Tryz.zeroValue114 Tryz.isAgg105 Tryz.zeroValue105
attribute [-go_sem] loadVar storeVar run_equalIn_agg
attribute [local go_sem] zero_blk build_blk zero_bod zero_pg build_pg build_pg0 build_pg2 zero_imgD zero_wr zero_sup loadVar_openV storeVar_openV

/-- Which one is the newer, when so many have been read. -/
def stepS (i : Nat) (s : Option Sup) (cur : Option (Nat × Sup)) : Option (Nat × Sup) :=
  match s with
  | none => cur
  | some y => match cur with
    | none => some (i, y)
    | some (j, x) => if x.gen < y.gen then some (i, y) else some (j, x)
def curTo (s : Nat → Option Sup) : Nat → Option (Nat × Sup)
  | 0 => none
  | k + 1 => stepS k (s k) (curTo s k)
theorem curTo_newer (s : Nat → Option Sup) : curTo s 2 = newer (s 0) (s 1) := by
  show stepS 1 (s 1) (stepS 0 (s 0) none) = _
  unfold newer stepS
  cases s 0 <;> cases s 1 <;> rfl
def curF : Option (Nat × Sup) → List Value
  | none => zsup
  | some (_, x) => supC x.gen x.g x.a x.q
def curW : Option (Nat × Sup) → Int
  | none => -1
  | some (j, _) => j
theorem curF_length (c : Option (Nat × Sup)) : (curF c).length = 8 := by cases c <;> rfl
theorem curF_one (c : Option (Nat × Sup)) : ∀ v ∈ curF c, v.oneCell' = true := by
  cases c with
  | none => exact supC_one _ _ _ _
  | some p => exact supC_one _ _ _ _
theorem curW_bd (s : Nat → Option Sup) : ∀ k, (curTo s k = none) ∨ ∃ j x, curTo s k = some (j, x) ∧ j < k
  | 0 => .inl rfl
  | k + 1 => by
    show (stepS k (s k) (curTo s k) = none) ∨ ∃ j x, stepS k (s k) (curTo s k) = some (j, x) ∧ j < k + 1
    rcases curW_bd s k with h | ⟨j, x, h, hj⟩
    · rw [h]
      cases hs : s k with
      | none => exact .inl rfl
      | some y => exact .inr ⟨k, y, rfl, Nat.lt_succ_self k⟩
    · rw [h]
      cases hs : s k with
      | none => exact .inr ⟨j, x, rfl, by omega⟩
      | some y =>
        right
        show ∃ j' x', (if x.gen < y.gen then some (k, y) else some (j, x)) = some (j', x') ∧ j' < k + 1
        by_cases hg : x.gen < y.gen
        · rw [if_pos hg]; exact ⟨k, y, rfl, Nat.lt_succ_self k⟩
        · rw [if_neg hg]; exact ⟨j, x, rfl, by omega⟩
/-- What newer tells. -/
def newV : Option (Nat × Sup) → Array Value
  | none => #[.agg zsup.toArray, .int .i64 0, .int .i64 11]
  | some (j, x) => #[.agg (supC x.gen x.g x.a x.q).toArray, .int .i64 (j : Int), .int .i64 0]
theorem results_cell3 {P : Program} {fn : Func} {p u v' : Tmp} {ty : TypeId} {tmps : Array Value} {w : World} {ad : Addr} {v : Value} (h : fn.results = #[.cell p ty, .tmp u, .tmp v']) (ha : tmps.getD p undef = .pointer (some ad)) (hl : (loadVar ty ad).run P w = .ok v w) :
    (results fn tmps).run P w = .ok (.tuple #[v, tmps.getD u undef, tmps.getD v' undef]) w := by
  have e : (asAddr (.pointer (some ad))).run P w = .ok ad w := by simp [asAddr]
  have ha' : tmps[p]?.getD undef = .pointer (some ad) := by simpa using ha
  simp [results, h, Sem.run_bind, Result.andThen, ha', e, hl]
set_option maxRecDepth 100000 in
theorem new_supV (x : World) {C : List Value} (hl : C.length = 8) (h1 : ∀ v ∈ C, v.oneCell' = true) : ∃ y, (storeVar 105 ⟨x.heap.size, 0, none⟩ (.agg C.toArray)).run Tryz.prog (x.alloc (.cells zsup.toArray 105)) = .ok () y ∧ RowC y x.heap.size 105 C ∧ Below x.heap.size x y :=
  ⟨_, store_new_sup rfl hl h1, RowC.new x _ _, below_new x _⟩
theorem supVal_ok {bs : List Int} : (supVal bs).length = 8 ∧ ∀ v ∈ supVal bs, v.oneCell' = true := by
  unfold supVal
  split
  · exact ⟨rfl, supC_one _ _ _ _⟩
  · exact ⟨rfl, supC_one _ _ _ _⟩
set_option maxRecDepth 100000 in
/-- A sector that is read of a rig that holds bytes. -/
theorem RigR.rd0 {rb p0 p1 : Nat} {S : RS} {w : World} {f : Nat → Prop} (h : RigR rb p0 p1 S w f) (hby : S.Byt) (hup : S.down = false) {i : Nat} (hi : i < S.n0) :
    Calls Tryz.prog 33 #[.pointer (some ⟨rb, 0, none⟩), .int .i64 0, .int .i64 (i : Int)] w fun e w' => e = .returned (.tuple #[.agg (u8s (S.rd i)).toArray, .int .i64 0]) ∧ Below w.heap.size w w' := by
  have hh := h.read 0 (i : Int)
  have e1 : S.read 0 (i : Int) = u8s (S.rd i) := by
    unfold RS.read
    rw [if_pos ⟨RS.has0 hi, hup⟩]
    unfold RS.look
    rw [if_pos rfl]
    exact (hby i hi).2.2
  have e2 : S.readE 0 (i : Int) = 0 := by
    unfold RS.readE
    rw [if_pos (RS.has0 hi), if_neg (by rw [hup]; simp)]
  rw [e1, e2] at hh
  exact hh
section
set_option maxRecDepth 100000
set_option maxHeartbeats 8000000
set_option maxRecDepth 100000 in
/-- **newer**. -/
theorem mvNewer {rb p0 p1 : Nat} {S : RS} {w : World} {f : Nat → Prop} (h : RigR rb p0 p1 S w f) (hby : S.Byt) (hup : S.down = false) (hn : 2 ≤ S.n0) :
    Calls Tryz.prog 78 #[.pointer (some ⟨rb, 0, none⟩)] w fun e w' => e = .returned (.tuple (newV (newer (S.supAt 0) (S.supAt 1)))) ∧ Below w.heap.size w w' := by
  rw [← curTo_newer]
  obtain ⟨s, hs⟩ : ∃ s : Nat → Option Sup, s = S.supAt := ⟨_, rfl⟩
  have HSS : Hid (∀ i, i < 2 → s i = supOf S.n0 S.n1 (S.rd i)) := fun i hi => by rw [hs]; unfold RS.supAt; rw [if_pos (by omega)]
  rw [← hs]
  have HRD : Hid (∀ (x : World) (i : Nat), Below w.heap.size w x → i < 2 → Calls Tryz.prog 33 #[.pointer (some ⟨rb, 0, none⟩), .int .i64 0, .int .i64 (i : Int)] x fun e w' => e = .returned (.tuple #[.agg (u8s (S.rd i)).toArray, .int .i64 0]) ∧ Below x.heap.size x w') := fun x i hx hin => (h.beside hx).rd0 hby hup (by omega)
  have HLN : Hid (∀ (x : World) (dev : Int), Below w.heap.size w x → Calls Tryz.prog 94 #[.pointer (some ⟨rb, 0, none⟩), .int .i64 dev] x fun e w' => e = .returned (.int .i64 (S.len dev : Int)) ∧ Below x.heap.size x w') := fun x dev hx => (h.beside hx).len dev
  have HBY : Hid (∀ i, i < 2 → IsBytes (S.rd i) ∧ (S.rd i).length = 64) := fun i hi => ⟨(hby i (by omega)).1, (hby i (by omega)).2.1⟩
  have hl0 : S.len 0 = S.n0 := rfl
  have hl1 : S.len 1 = S.n1 := rfl
  have HL0 := Lib.hid hl0
  have HL1 := Lib.hid hl1
  obtain ⟨W1, hW1⟩ : ∃ W1, w.alloc (.cells zsup.toArray 105) = W1 := ⟨_, rfl⟩
  have r1 : RowC W1 w.heap.size 105 zsup := by rw [← hW1]; exact RowC.new w _ _
  have b1 : Below w.heap.size w W1 := by rw [← hW1]; exact below_new w _
  obtain ⟨W, hW⟩ : ∃ W, W1.alloc (.cells zsup.toArray 105) = W := ⟨_, rfl⟩
  have b2 : Below W1.heap.size W1 W := by rw [← hW]; exact below_new W1 _
  have r2 : RowC W W1.heap.size 105 zsup := by rw [← hW]; exact RowC.new W1 _ _
  have HB : Hid (Below w.heap.size w W) := b1.trans (b2.mono b1.size)
  have HNE : Hid (w.heap.size < W1.heap.size) := r1.lt
  have R1 := Lib.hid (r1.below b2)
  obtain ⟨B2, hB2⟩ : ∃ b, w.heap.size = b := ⟨_, rfl⟩
  obtain ⟨B5, hB5⟩ : ∃ b, W1.heap.size = b := ⟨_, rfl⟩
  rw [hB5] at r2
  rw [hB2, hB5] at HNE
  rw [hB2] at R1
  have HB2 := Lib.hid hB2
  have R2 := Lib.hid r2
  clear h hby hup hn hs r1 b1 b2 r2 hl0 hl1
  go_enter Tryz.func78, Tryz.ntmps78
  go_wp2_with fail
  go_loopw [6, 12] (fun wh i wr => ∃ k : Nat, k ≤ 2 ∧ i = .int .i64 (k : Int) ∧ wh = .int .i64 (curW (curTo s k)) ∧ Hid (RowC wr B2 105 zsup) ∧ Hid (RowC wr B5 105 (curF (curTo s k))) ∧ Hid (Below w.heap.size w wr)) (fun _ i _ => 2 - (intOf i).toNat)
  case atStart => exact ⟨0, Nat.zero_le _, rfl, rfl, R1, R2, HB⟩
  case round =>
    obtain ⟨k, hk, rfl, rfl, H1, H5, HBw⟩ := hrel
    by_cases hlt : k < 2
    · have g3 : decide ((k : Int) < 2) = true := by simp; omega
      have HR := Lib.hid (HRD.out wr k HBw.out hlt)
      obtain ⟨hbb, hbl⟩ := HBY.out k hlt
      have hsk := HSS.out k hlt
      obtain ⟨bs, hbs⟩ : ∃ bs, S.rd k = bs := ⟨_, rfl⟩
      rw [hbs] at HR hbb hbl hsk
      have HBB := Lib.hid hbb
      have HBL := Lib.hid hbl
      have HSK := Lib.hid hsk
      clear hbb hbl hsk hbs
      go_wp2_with fail
      go_at_call 33
      refine HR.out.mono ?_
      rintro e x1 ⟨rfl, hb⟩
      obtain ⟨x2, ST2, hr2, hb2⟩ := new_blk x1 (isBlk_u8s HBL.out)
      have L2 := hr2.blk (by rw [u8s_length]; exact HBL.out)
      have K2 : Hid (Below wr.heap.size wr x2) := hb.trans (hb2.mono hb.size)
      clear hb hr2 hb2 HR
      go_wp2_with fail
      clear ST2
      go_at_call 120
      refine (mvSuperOf bs HBB.out HBL.out x2).mono ?_
      rintro e x3 ⟨rfl, hb⟩
      obtain ⟨x4, ST4, r4, hb4⟩ := new_supV x3 (C := supVal bs) supVal_ok.1 supVal_ok.2
      have K4 : Hid (Below wr.heap.size wr x4) := K2.out.trans ((hb.trans (hb4.mono hb.size)).mono K2.out.size)
      obtain ⟨B10, hB10⟩ : ∃ b, x3.heap.size = b := ⟨_, rfl⟩
      rw [hB10] at ST4 r4
      have R4 := Lib.hid r4
      have H14 := Lib.hid (H1.out.below K4.out)
      have H54 := Lib.hid (H5.out.below K4.out)
      have B4 : Hid (Below w.heap.size w x4) := HBw.out.trans (K4.out.mono HBw.out.size)
      clear hb hb4 r4 L2
      rcases sup_tells S.n0 S.n1 HBB.out HBL.out with ⟨y, hy1, hy2, hy3, hy4, hy5⟩ | ⟨hn1, hn2⟩
      · rw [hy3] at ST4 R4
        rw [hy2, hy3]
        have HY : Hid (s k = some y) := HSK.out.trans hy1
        have HCO : Hid (∀ x, Below w.heap.size w x → Calls Tryz.prog 121 #[.agg (supC y.gen y.g y.a y.q).toArray, .pointer (some ⟨rb, 0, none⟩)] x fun e w' => e = .returned (.bool true) ∧ Below x.heap.size x w') := fun x hx => by
          have := mvCorrect (n0 := S.n0) (n1 := S.n1) (v := .pointer (some ⟨rb, 0, none⟩)) hy5 x (fun z hz => by have := HLN.out z 0 (hx.trans (hz.mono hx.size)); rwa [HL0.out] at this) (fun z hz => by have := HLN.out z 1 (hx.trans (hz.mono hx.size)); rwa [HL1.out] at this)
          rw [decide_eq_true hy4.1, decide_eq_true hy4.2] at this
          exact this
        have L4 := R4.out.sup
        have HCX := Lib.hid (HCO.out x4 B4.out)
        obtain ⟨C, hC⟩ : ∃ C, supC y.gen y.g y.a y.q = C := ⟨_, rfl⟩
        obtain ⟨yg, hyg⟩ : ∃ n, y.gen = n := ⟨_, rfl⟩
        have HC8 : Hid (C.length = 8 ∧ ∀ v ∈ C, v.oneCell' = true) := by refine (?_ : _ ∧ _); rw [← hC]; exact ⟨rfl, supC_one _ _ _ _⟩
        have HCC := Lib.hid hC
        have HC0 : Hid (C[0]? = some (.int .u32 yg)) := by show _ = _; rw [← hC, ← hyg]; rfl
        rw [hC] at ST4 R4 L4 HCX ⊢
        have HYG := Lib.hid hyg
        clear hy1 hy2 hy3 hy4 hy5 HCO hC hyg
        go_wp2_with fail
        clear ST4
        go_at_call 121
        refine HCX.out.mono ?_
        rintro e x5 ⟨rfl, hb⟩
        have R5 := Lib.hid (R4.out.below hb)
        have H15 := Lib.hid (H14.out.below hb)
        have H55 := Lib.hid (H54.out.below hb)
        have B5' : Hid (Below w.heap.size w x5) := B4.out.trans (hb.mono B4.out.size)
        have c10 : x5.cell? ⟨B10, 0, none⟩ = some (.int .u32 yg) := R5.out.cell 0 _ HC0.out
        have L5 : (loadVar 105 ⟨B10, 0, none⟩).run Tryz.prog x5 = .ok (.agg C.toArray) x5 := load_sup R5.out.range HC8.out.1
        obtain ⟨x6, ST6, r6, g6⟩ := store_rowSup (C := C) H55.out (curF_length _) HC8.out.1 HC8.out.2
        have H16 := Lib.hid (H15.out.grown g6 (fun e => by cases e; exact Nat.lt_irrefl _ HNE.out))
        have B6 : Hid (Below w.heap.size w x6) := B5'.out.grown g6 B5'.out.size (fun j e => by cases e; have := HNE.out; have := HB2.out; omega)
        have R6 := Lib.hid r6
        clear hb r6 g6 L4
        rcases curW_bd s k with hc | ⟨j, x, hc, hj⟩
        · rw [hc]
          have g5 : decide (curW none < 0) = true := rfl
          have HST : Hid (curTo s (k + 1) = some (k, y)) := by show stepS k (s k) (curTo s k) = _; rw [HY.out, hc]; rfl
          have hw : curW none = -1 := rfl
          rw [hw]
          go_wp2_with fail
          go_roundw
          case rel => exact ⟨k + 1, by omega, by go_num, by rw [HST.out]; rfl, H16, by rw [HST.out]; show Hid (RowC x6 B5 _ (supC _ _ _ _)); rw [HCC.out]; exact R6, B6⟩
          case measure => simp [intOf]; omega
        · rw [hc]
          have hw : curW (some (j, x)) = (j : Int) := rfl
          rw [hw]
          have c5 : x5.cell? ⟨B5, 0, none⟩ = some (.int .u32 x.gen) := by have := H55.out; rw [hc] at this; exact this.cell 0 _ rfl
          obtain ⟨xg, hxg⟩ : ∃ n, x.gen = n := ⟨_, rfl⟩
          rw [hxg] at c5
          by_cases hg : xg < yg
          · have g5 : decide (yg > xg) = true := by simpa using hg
            have g5' : decide (xg < yg) = true := g5
            have HST : Hid (curTo s (k + 1) = some (k, y)) := by show stepS k (s k) (curTo s k) = _; rw [HY.out, hc]; exact if_pos (by rw [hxg, HYG.out]; exact hg)
            clear hg hxg
            go_wp2_with fail
            go_roundw
            case rel => exact ⟨k + 1, by omega, by go_num, by rw [HST.out]; rfl, H16, by rw [HST.out]; show Hid (RowC x6 B5 _ (supC _ _ _ _)); rw [HCC.out]; exact R6, B6⟩
            case measure => simp [intOf]; omega
          · have g5 : decide (yg > xg) = false := by simpa using hg
            have g5' : decide (xg < yg) = false := g5
            have HST : Hid (curTo s (k + 1) = some (j, x)) := by show stepS k (s k) (curTo s k) = _; rw [HY.out, hc]; exact if_neg (by rw [hxg, HYG.out]; exact hg)
            rw [hc] at H55
            clear hg hxg ST6
            go_wp2_with fail
            go_roundw
            case rel => exact ⟨k + 1, by omega, by go_num, by rw [HST.out]; rfl, H15, by rw [HST.out]; exact H55, B5'⟩
            case measure => simp [intOf]; omega
      · have HY : Hid (s k = none) := HSK.out.trans hn1
        have HST : Hid (curTo s (k + 1) = curTo s k) := by show stepS k (s k) (curTo s k) = _; rw [HY.out]; rfl
        rcases hn2 with hn2 | ⟨gen, g, a, q, hn2, hv, hin, hnf⟩
        · rw [hn2]
          obtain ⟨C, hC⟩ : ∃ C, supVal bs = C := ⟨_, rfl⟩
          rw [hC] at ST4 ⊢
          clear hn1 hn2
          go_wp2_with fail
          go_roundw
          case rel => exact ⟨k + 1, by omega, by go_num, by rw [HST.out], H14, by rw [HST.out]; exact H54, B4⟩
          case measure => simp [intOf]; omega
        · rw [hv] at ST4 R4
          rw [hn2, hv]
          have HCX : Hid (Calls Tryz.prog 121 #[.agg (supC gen g a q).toArray, .pointer (some ⟨rb, 0, none⟩)] x4 fun e w' => e = .returned (.bool false) ∧ Below x4.heap.size x4 w') := by
            have := mvCorrect (n0 := S.n0) (n1 := S.n1) (v := .pointer (some ⟨rb, 0, none⟩)) hin x4 (fun z hz => by have := HLN.out z 0 (B4.out.trans (hz.mono B4.out.size)); rwa [HL0.out] at this) (fun z hz => by have := HLN.out z 1 (B4.out.trans (hz.mono B4.out.size)); rwa [HL1.out] at this)
            have e : (decide (g.fitsR S.n0 S.n1) && decide (a < g.r)) = false := by
              by_cases h1 : g.fitsR S.n0 S.n1
              · rw [decide_eq_false (fun h2 => hnf ⟨h1, h2⟩), Bool.and_false]
              · rw [decide_eq_false h1, Bool.false_and]
            rw [e] at this
            exact this
          have L4 := R4.out.sup
          obtain ⟨C, hC⟩ : ∃ C, supC gen g a q = C := ⟨_, rfl⟩
          rw [hC] at ST4 L4 HCX ⊢
          clear hn1 hn2 hv hin hnf
          go_wp2_with fail
          clear ST4
          go_at_call 121
          refine HCX.out.mono ?_
          rintro e x5 ⟨rfl, hb⟩
          have H15 := Lib.hid (H14.out.below hb)
          have H55 := Lib.hid (H54.out.below hb)
          have B5' : Hid (Below w.heap.size w x5) := B4.out.trans (hb.mono B4.out.size)
          clear hb L4
          go_wp2_with fail
          go_roundw
          case rel => exact ⟨k + 1, by omega, by go_num, by rw [HST.out], H15, by rw [HST.out]; exact H55, B5'⟩
          case measure => simp [intOf]; omega
    · have g3 : decide ((k : Int) < 2) = false := by simp; omega
      obtain rfl : k = 2 := by omega
      rcases curW_bd s 2 with hc | ⟨j, x, hc, hj⟩
      · rw [hc]
        have hw : curW none = -1 := rfl
        rw [hw]
        obtain ⟨x6, ST6, r6, g6⟩ := store_rowSup (C := zsup) H1.out rfl rfl (supC_one _ _ _ _)
        have B6 : Hid (Below w.heap.size w x6) := HBw.out.grown g6 HBw.out.size (fun j e => by cases e; exact Nat.le_of_eq HB2.out)
        have LD := load_sup r6.range rfl
        clear r6 g6
        go_wp2_with fail
        exact bodyPost_ret (results_cell3 rfl rfl LD) rfl ⟨by rw [hc]; rfl, B6.out⟩
      · rw [hc]
        have hw : curW (some (j, x)) = (j : Int) := rfl
        rw [hw]
        rw [hc] at H5
        have L5 := load_sup H5.out.range (curF_length (some (j, x)))
        obtain ⟨x6, ST6, r6, g6⟩ := store_rowSup (C := curF (some (j, x))) H1.out rfl (curF_length _) (curF_one _)
        have B6 : Hid (Below w.heap.size w x6) := HBw.out.grown g6 HBw.out.size (fun j e => by cases e; exact Nat.le_of_eq HB2.out)
        have LD := load_sup r6.range (curF_length (some (j, x)))
        obtain ⟨C, hC⟩ : ∃ C, curF (some (j, x)) = C := ⟨_, rfl⟩
        have HC := Lib.hid hC
        rw [hC] at L5 ST6 LD
        clear r6 g6 hC
        go_wp2_with fail
        refine bodyPost_ret (results_cell3 rfl rfl LD) rfl ⟨?_, B6.out⟩
        rw [← HC.out, hc]
        rfl
end
end Go.Proofs.YtbdfllamhcodjaaGreat

/- The developers' homeWrites. -/
namespace Go.Proofs.YtbdfllamhcodjaaGreat
open Go.RowKit Go.Shelf
set_option linter.unusedVariables false
attribute [-simp] Tryz.isAgg60 Tryz.zeroValue60 Tryz.isAgg112 Tryz.zeroValue112 Tryz.isAgg189 Tryz.zeroValue189 Tryz.isAgg133 Tryz.zeroValue133 Tryz.isAgg114 Tryz.zeroValue114 Tryz.isAgg105 Tryz.zeroValue105
attribute [-go_sem] loadVar storeVar run_equalIn_agg
attribute [local go_sem] zero_blk build_blk zero_bod zero_pg build_pg build_pg0 build_pg2 zero_imgD zero_wr zero_sup loadVar_openV storeVar_openV Oper.semAt_some

theorem homWs_snoc (H : Nat) (now : List (List Int)) {m : Nat} (pre : List (Fin m)) (x : Fin m) : wrR (homWs H now (pre ++ [x])) = wrR (homWs H now pre) ++ [wrC (H + x.1, u8s (homSct x.1 (pgAt now x.1)).bytes)] := by
  unfold wrR homWs
  rw [List.map_append, List.map_append]
  rfl
theorem ownsRow_from {n₀ e size B : Nat} {v : Value} {k : Nat} {xs : List Value} {X Y : World} {row : Option Nat} (h : X.ownsRow n₀ e size v k xs) (hg : X.grownBy Y row) (hr : ∀ r, row = some r → B ≤ r ∧ ∃ o : Obj, X.heap[r]? = some o ∧ o.isCells = false) : Y.ownsRow n₀ e size v k xs :=
  ownsRow_own n₀ e size v (fun _ : Unit => k) (fun _ => xs) () X Y row h hg (fun r e => (hr r e).2)
section
set_option maxRecDepth 100000
set_option maxHeartbeats 8000000
set_option maxRecDepth 100000 in
/-- **homeWrites**, of whatever tells pages. -/
theorem mvHomeWrites {g : Geo} (hg : g.In) {H : Nat} (hH : g.oH = (H : Int)) (hHb : H ≤ 100000) {now : List (List Int)} {m : Nat} (hm : now.length = m) (hm2 : m ≤ 1000) (hn : ∀ x ∈ now, x.length = 48 ∧ IsBytes x) (pr : Nat → Bool) (gf : FuncId) (lb : Array Value)
    (eg : ∀ args w, (callFunc gf args).run Tryz.prog w = .ok (.enter gf args) w) (Sx : Nat → Prop) (w : World) (hS : ∀ k, Sx k → k < w.heap.size)
    (hit : SeqStopsK Fence.wide 2 Tryz.prog gf lb (encPg now (m := m)) (KpC Sx) (fun ys => ys = selP m pr) (fun _ => True) m w) :
    Calls Tryz.prog 51 #[.agg g.v, .func (.func gf) #[] lb] w fun e w' => ∃ v, e = .returned v ∧ w'.ownsRow w.heap.size 114 65 v (wrR (homWs H now (selP m pr))).length (wrR (homWs H now (selP m pr))).flatten ∧ Below w.heap.size w w' := by
  refine (callsIn_wide (n := 3)).1 ?_
  refine callsIn_of_wp_marks Tryz.func51 rfl trivial ?_ rfl
  simp only [Tryz.ntmps51, List.size_toArray, List.length_cons, List.length_nil, Nat.reduceAdd, Nat.reduceSub, Array.replicate_succ, Array.replicate_zero, List.push_toArray, List.append_toArray, List.nil_append, List.cons_append]
  have HIT := Lib.hid hit
  have HG := Lib.hid hg
  have HH := Lib.hid hH
  have HN := Lib.hid hn
  have HM := Lib.hid hm
  have HS := Lib.hid hS
  obtain ⟨B, hB⟩ : ∃ B, w.heap.size = B := ⟨_, rfl⟩
  have HSZ := Lib.hid hB
  have HEG := Lib.hid eg
  clear hit hg hH hn hm hS eg
  gi_wp2
  obtain ⟨W0, hW0⟩ : ∃ W0, (w.alloc (.cells g.v 23)).alloc (.cells #[.slice none 0 0] 106) = W0 := ⟨_, rfl⟩
  have bv : Boxed W0 (B + 1) 106 (.slice none 0 0) := by
    rw [← hW0, ← hB]
    have := Boxed.new (w.alloc (.cells g.v 23)) 106 (.slice none 0 0)
    rwa [World.size_alloc] at this
  have br : RowC W0 B 23 g.cs := by
    rw [← hW0, ← hB]
    exact (RowC.new w 23 g.cs).below (below_new _ _)
  have hB0 : Below B w W0 := by rw [← hW0, ← hB]; exact ((Below.refl _ w).alloc (Nat.le_refl _) _).alloc (by simp) _
  have hsz0 : W0.heap.size = B + 2 := by rw [← hW0, ← hB]; simp
  try rw [hW0]
  clear hW0
  have HB : Hid (∀ W, Below B w W → w.heap.size ≤ W.heap.size) := fun W h => h.size
  have HKA : Hid (∀ (W W' : World), Below B w W → Below W.heap.size W W' → KpC Sx W W') := fun W W' h h' => ⟨h'.size, fun k hk => h'.block k (Nat.lt_of_lt_of_le (HS.out k hk) h.size)⟩
  refine wpIn_rangeFunc_ownH (n := 3) rfl (by omega) (gf := gf) (lb := lb) rfl trivial HEG.out
    HIT.out kpC_t (kpC_b (fun k hk => by have := HS.out k hk; omega)) (by rw [hB]; exact hB0) (fun _ => rfl)
    (fun pre W => (∃ v, Boxed W (B + 1) 106 v ∧ W.ownsRow B 114 65 v (wrR (homWs H now pre)).length (wrR (homWs H now pre)).flatten) ∧ RowC W B 23 g.cs ∧ Below B w W)
    (fun _ _ _ => False)
    ?hI ?hIx ⟨⟨_, bv, World.ownsRow_nil _ _ _ _⟩, br, hB0⟩
    (fun x a' W => ∃ C, B + 1 < C ∧ RowC W C 112 (u8s (pgAt now x.1)) ∧ a' = { tmps := #[.agg g.v, .func (.func gf) #[] lb, .pointer (some ⟨B, 0, none⟩), undef, .slice none 0 0, .pointer (some ⟨B + 1, 0, none⟩), .int .i64 (x.1 : Int), .pointer (some ⟨C, 0, none⟩), .func (.func gf) #[] lb, .int .i64 (x.1 : Int), .agg (u8s (pgAt now x.1)).toArray, undef, undef, undef, undef, undef, undef, undef, undef, undef, undef, undef, undef, undef], defers := [] })
    ?hAx ?assign ?body ?done ?stop
  case hI =>
    rintro s X Y row ⟨⟨v, h1, h2⟩, h3, h4⟩ hg hr
    exact ⟨⟨v, boxed_own _ _ (fun _ : Unit => _) () X Y row h1 hg (fun r e => (hr r e).2), ownsRow_from h2 hg hr⟩, rowC_from h3 hg hr, ownFrom_below (β := Unit) (by omega) (by omega) () X Y row h4 hg hr⟩
  case hIx => exact fun _ _ _ _ _ h _ _ => h.elim
  case hAx =>
    rintro x a' _ X Y row ⟨C, h1, h2, h3⟩ hg hr
    exact ⟨C, h1, rowC_from h2 hg hr, h3⟩
  case assign =>
    rintro l pre x W K ⟨⟨v, h1, h2⟩, h3, h4⟩ hK
    have hxn : (pgAt now x.1).length = 48 := by
      have hx : x.1 < now.length := by rw [HM.out]; exact x.2
      have e : now[x.1]? = some (pgAt now x.1) := by unfold pgAt; rw [List.getElem?_eq_getElem hx]; rfl
      exact (HN.out _ (List.mem_of_getElem? e)).1
    obtain ⟨y, ST, hr, hb⟩ := new_bod W hxn
    have hlt : B + 1 < W.heap.size := h1.lt
    have hK := hK _ y ((KeepsOthers.of_grownBy (grown_below hb none) (fun j o e => by cases e)).from _) (HKA.out W y h4 hb) ⟨⟨v, (hb.block _ hlt).trans h1, own_below h2 hb⟩, h3.below hb, h4.trans (hb.mono (by have := h4.size; omega))⟩ ⟨W.heap.size, hlt, hr, rfl⟩
    clear h1 h2 h3 h4 hr hb hxn
    dsimp only [encPg]
    gi_wp2
    exact hK
  case body =>
    rintro l pre x a' W _ _ ⟨⟨v, h1, h2⟩, h3, h4⟩ ⟨C, hC, hx, rfl⟩ hlen
    have hxm := x.2
    have hxl : x.1 < now.length := by rw [HM.out]; exact x.2
    have hpx : now[x.1]? = some (pgAt now x.1) := by unfold pgAt; rw [List.getElem?_eq_getElem hxl]; rfl
    obtain ⟨hp48, hpb⟩ := HN.out _ (List.mem_of_getElem? hpx)
    obtain ⟨ra, nv, cv, hv⟩ := row_slice h2
    subst hv
    have c0 : ∀ z : Ext W, z.1.cell? ⟨B + 1, 0, none⟩ = some (.slice ra nv cv) := fun z => (z.2.cell (p := ⟨B + 1, 0, none⟩) h1.lt).trans h1.cell
    have c1 : ∀ z : Ext W, (loadVar 23 ⟨B, 0, none⟩).run Tryz.prog z.1 = .ok (.agg g.v) z.1 := fun z => load_geo (h3.below z.2)
    have c2 : ∀ z : Ext W, (loadVar 112 ⟨C, 0, none⟩).run Tryz.prog z.1 = .ok (.agg (u8s (pgAt now x.1)).toArray) z.1 := fun z => (hx.below z.2).body hp48
    have HSO := Lib.hid (homSct_ok (i := x.1) hp48 hpb)
    have HSF : Hid ((homSct x.1 (pgAt now x.1)).fits = true) := homSct_fits (by omega) _
    have HHM := Lib.hid (mvHome (x.1 : Int) hp48)
    have HCE : Hid ((homSct x.1 (pgAt now x.1)).cells = Value.int .u8 72 :: .int .u32 0 :: .int .i64 (x.1 : Int) :: u8s (pgAt now x.1)) := rfl
    have HWC := Lib.hid (homWs_snoc H now pre x)
    obtain ⟨q, hq⟩ : ∃ q, homSct x.1 (pgAt now x.1) = q := ⟨_, rfl⟩
    rw [hq] at HSO HSF HCE HWC
    obtain ⟨k, hk⟩ : ∃ k, x.1 = k := ⟨_, rfl⟩
    rw [hk] at hxm HHM HCE HWC c2 ⊢
    have HEN : Hid (∀ z, Calls Tryz.prog 99 #[.agg (Value.int .u8 72 :: .int .u32 0 :: .int .i64 (k : Int) :: u8s (pgAt now k)).toArray] z fun e w' => e = .returned (.agg (u8s q.bytes).toArray) ∧ Below z.heap.size z w') := fun z => by
      have := mvEncoded q HSO.out HSF.out z
      rw [HCE.out] at this
      exact this
    have hbk : IsBlk (u8s q.bytes) := isBlk_u8s (Sct.bytes_length HSO.out)
    have HBK := Lib.hid hbk
    have hkm : (k : Int) ≤ 1000 := by omega
    obtain ⟨hs, hhs⟩ : ∃ l, (Value.int .u8 72 :: .int .u32 0 :: .int .i64 (k : Int) :: u8s (pgAt now k)).toArray = l := ⟨_, rfl⟩
    rw [hhs] at HHM HEN
    obtain ⟨pb, hpb'⟩ : ∃ l, (u8s (pgAt now k)).toArray = l := ⟨_, rfl⟩
    rw [hpb'] at HHM c2
    try rw [hpb']
    have H1 := Lib.hid h1
    have H2 := Lib.hid h2
    have H3 := Lib.hid h3
    have H4 := Lib.hid h4
    have hmx : Tryz.prog.follows .mixedOrders = true := by kernel_rfl
    clear hpx hp48 hpb hq hk hhs hpb' hbk h1 h2 h3 h4 hx hxl
    gi_wp2_with fail
    refine region_plan_round (fun x => ∃ y : Ext W, x = y.1) 11 (.takes [0, 1, 3, 5, 6] (.one 2 (.take 4 (.one 7 (.one 8 (.take 9 (.one 10 .leaf))))))) (letsOut_inBlock letsOut_ownG) (by kernel_rfl) hmx (by kernel_rfl) (by intro c x v a w h; cases x <;> exact h) ⟨⟨W.drew, (Below.refl _ W).drew⟩, rfl⟩ ?_
    repeat (rw [wpPlan_takes_cons]; simp only [nth_zero, nth_succ]; go_big_quiet_step (fail); refine wpQuiet_nil ?_)
    rw [wpPlan_takes_nil, wpPlan_one]
    simp only [nth_zero, nth_succ]
    clear c0 c1 c2
    go_wp2_with fail
    go_at_call 98
    refine (gmHome g HG.out _).mono ?_
    rintro e x1 ⟨rfl, hb⟩
    rw [HH.out]
    have K1 : Hid (Below W.heap.size W x1) := ((Below.refl _ W).drew).trans hb
    clear hb
    go_wp2_with fail
    refine planPost_mk ⟨⟨x1, K1.out⟩, rfl⟩ ?_
    rw [wpPlan_take]
    simp only [nth_zero, nth_succ]
    go_big_quiet_step (fail)
    refine wpQuiet_nil ?_
    rw [wpPlan_one]
    simp only [nth_zero, nth_succ]
    go_wp2_with fail
    go_at_call 100
    refine (HHM.out x1).mono ?_
    rintro e x2 ⟨rfl, hb⟩
    have K2 : Hid (Below W.heap.size W x2) := K1.out.trans (hb.mono K1.out.size)
    clear hb
    go_wp2_with fail
    refine planPost_mk ⟨⟨x2, K2.out⟩, rfl⟩ ?_
    rw [wpPlan_one]
    simp only [nth_zero, nth_succ]
    go_wp2_with fail
    go_at_call 99
    refine (HEN.out x2).mono ?_
    rintro e x3 ⟨rfl, hb⟩
    have K3 : Hid (Below W.heap.size W x3) := K2.out.trans (hb.mono K2.out.size)
    clear hb
    go_wp2_with fail
    refine planPost_mk ⟨⟨x3, K3.out⟩, rfl⟩ ?_
    rw [wpPlan_take]
    simp only [nth_zero, nth_succ]
    have BI : Hid (∀ z, (Instr.build 114 #[(0, .int .i64 ((H : Int) + (k : Int))), (1, .agg (u8s q.bytes).toArray)]).run Tryz.prog z = .ok (.agg (wrC (H + k, u8s q.bytes)).toArray) z) := fun z => by
      have := build_wr ((H : Int) + (k : Int)) (u8s q.bytes) HBK.out.length z
      unfold wrC
      rw [Int.natCast_add]
      exact this
    refine wpQuiet_struct_run _ _ rfl rfl [(0, .int .i64 ((H : Int) + (k : Int))), (1, .agg (u8s q.bytes).toArray)] (.agg (wrC (H + k, u8s q.bytes)).toArray) rfl (fun z _ => BI.out z) ?_
    refine wpQuiet_nil ?_
    have hwl := wrC_length (x := (H + k, u8s q.bytes)) HBK.out.length
    have hw1 := wrC_one (x := (H + k, u8s q.bytes)) HBK.out
    obtain ⟨x4, hx4⟩ : ∃ y, x3.alloc (.cells (wrC (H + k, u8s q.bytes)).toArray 114) = y := ⟨_, rfl⟩
    have SB : (Instr.buildSlice 106 1 #[(0, .agg (wrC (H + k, u8s q.bytes)).toArray)]).run Tryz.prog x3 = .ok (.slice (some ⟨x3.heap.size, 0, none⟩) 1 1) x4 := by rw [← hx4]; exact slice_wr x3 _ hwl
    have b4 : Below x3.heap.size x3 x4 := by rw [← hx4]; exact below_new x3 _
    have K4 : Hid (Below W.heap.size W x4) := K3.out.trans (b4.mono K3.out.size)
    have O4 := own_below H2.out K4.out
    have B4 : Below B w x4 := H4.out.trans (K4.out.mono (by have := H4.out.size; omega))
    obtain ⟨v5, x5, r5, o5, g5, -⟩ := append_wr B x4 (.slice ra nv cv) (wrR (homWs H now pre)) (wrC (H + k, u8s q.bytes)) x3.heap.size O4 hwl hw1 (row_range (t := 114) (by rw [← hx4]; exact heap_alloc_new x3 _)) (by simp [wrR, homWs]; omega) (by have := B4.size; omega)
    rw [← HWC.out] at o5
    obtain ⟨ra5, n5, c5, hv5⟩ := row_slice o5
    subst hv5
    have R5 := Lib.hid r5
    have h14 : Boxed x4 (B + 1) 106 (.slice ra nv cv) := H1.out.kept (grown_below K4.out none) (by simp)
    have h15 := h14.kept g5 (h14.not_row (by decide) O4)
    have h34 : RowC x4 B 23 g.cs := H3.out.below K4.out
    have h35 : RowC x5 B 23 g.cs := h34.grown g5 (row_ne O4 h34 (by decide))
    have B5 : Below B w x5 := B4.grown g5 (by have := B4.size; omega) (fun j e => (O4.lt j e).1)
    obtain ⟨y, hy⟩ : ∃ y, x5.setCell ⟨B + 1, 0, none⟩ (.slice ra5 n5 c5) = y := ⟨_, rfl⟩
    have gy : x5.grownBy y (some (B + 1)) := by rw [← hy]; exact grownBy_setCell' x5 (B + 1) _
    have h1y : Boxed y (B + 1) 106 (.slice ra5 n5 c5) := by rw [← hy]; exact h15.set _
    have h2y := o5.kept gy (.inr (fun e => h15.not_row (by decide) o5 e.symm))
    have h3y : RowC y B 23 g.cs := h35.grown gy (fun e => by simp at e)
    have h4y : Below B w y := B5.grown gy (by have := B5.size; omega) (fun j e => by cases e; omega)
    have KF : KeepsFrom W0.heap.size W y := (((KeepsOthers.of_grownBy (grown_below K4.out none) (fun j o e => by cases e)).trans (KeepsOthers.of_grownBy g5 (fun j o hj hoj => row_cells O4 hj hoj))).trans (by rw [← hy]; exact KeepsOthers.setCell _ _ _)).from _
    have KS : KpC Sx W y := ⟨Nat.le_trans K4.out.size (Nat.le_trans g5.size gy.size), fun j hj => by
      have hjB : j < B := by rw [← HSZ.out]; exact HS.out j hj
      rw [h4y.block j hjB, H4.out.block j hjB]⟩
    have POST : Hid (KeepsFrom W0.heap.size W y ∧ KpC Sx W y ∧ (∃ v, Boxed y (B + 1) 106 v ∧ y.ownsRow B 114 65 v (wrR (homWs H now (pre ++ [x]))).length (wrR (homWs H now (pre ++ [x]))).flatten) ∧ RowC y B 23 g.cs ∧ Below B w y) := ⟨KF, KS, ⟨_, h1y, h2y⟩, h3y, h4y⟩
    have c5 := h15.cell
    have f5 := h15.frozen
    obtain ⟨bv, hbv⟩ : ∃ bv, (wrC (H + k, u8s q.bytes)).toArray = bv := ⟨_, rfl⟩
    rw [hbv] at SB ⊢
    clear hwl hw1 hx4 b4 O4 B4 r5 o5 g5 h14 h15 h34 h35 B5 gy h1y h2y h3y h4y KF KS hbv BI
    rw [wpPlan_one]
    simp only [nth_zero, nth_succ]
    refine wpList_build_run _ _ _ rfl rfl [(0, .agg bv)] _ rfl SB ?_
    clear SB
    go_wp2_with fail
    refine planPost_mk ⟨⟨x4, K4.out⟩, rfl⟩ ?_
    rw [wpPlan_leaf]
    simp only [List.drop_succ_cons, List.drop_zero]
    go_wp2_with (at_builtin; refine wpList_append_run (.tmp 11) (.tmp 21) 106 rfl rfl _ _ _ rfl rfl R5.out ?_)
    exact POST.out
  case done =>
    rintro D xs W hD rfl ⟨⟨v, h1, h2⟩, h3, h4⟩ hK
    have d1 := h1.cell
    have H2 := Lib.hid h2
    have H4 := Lib.hid h4
    have HK := Lib.hid hK
    clear h1 h2 h3 h4 hK
    gi_wp2
    refine ⟨by simp, .inl ⟨_, _, rfl, run_takeDeferred HK.out, ?_⟩⟩
    refine ⟨_, results_tmp rfl _ _ _, _, rfl, ?_, ?_⟩
    · rw [HSZ.out]; exact ownsRow_putObj H2.out _ HK.out rfl
    · rw [HSZ.out]; exact H4.out.trans (belowK_b (w := w) (by omega) W D _ _ (by omega) HK.out rfl rfl)
  case stop =>
    rintro D c pre W hD _ h _
    exact h.elim
end
end Go.Proofs.YtbdfllamhcodjaaGreat

/- The library's Clone at bytes and at pages, its Grow and Concat at images; a page that is written. -/
namespace Go.Proofs.YtbdfllamhcodjaaGreat
open Go.RowKit Go.Shelf
set_option linter.unusedVariables false
attribute [-simp] Tryz.isAgg60 Tryz.zeroValue60 Tryz.isAgg112 Tryz.zeroValue112 Tryz.isAgg189 Tryz.zeroValue189 Tryz.isAgg133 Tryz.zeroValue133 Tryz.isAgg114 Tryz.zeroValue114 Tryz.isAgg105 Tryz.zeroValue105
attribute [-go_sem] loadVar storeVar run_equalIn_agg
attribute [local go_sem] zero_blk build_blk zero_bod zero_pg build_pg build_pg0 build_pg2 zero_imgD zero_wr zero_sup loadVar_openV storeVar_openV

set_option maxRecDepth 100000 in
/-- Pages appended to pages. -/
theorem append_bods (N : Nat) (w : World) (v : Value) (vs us : List (List Value)) (g c : Nat) (hown : w.ownsRow N 112 48 v vs.length vs.flatten) (hl : us.flatten.length = us.length * 48) (hu : w.rangeAt g 0 us.flatten) (hok : ∀ x ∈ us, ∀ y ∈ x, y.oneCell' = true) (hlen : vs.length + us.length ≤ 1000000) (hN : N ≤ w.heap.size) :
    ∃ v' w', (Builtin.append_ #[50, 50] 50 #[v, .slice (some ⟨g, 0, none⟩) us.length c]).run Tryz.prog w = .ok v' w' ∧ w'.ownsRow N 112 48 v' (vs ++ us).length (vs ++ us).flatten ∧ w.grownBy w' v.ownBlock := by
  obtain ⟨i0, hi, hz0, hz1, hz2⟩ := info_parts info_bod
  obtain ⟨v', w', hr, h1, h2, _, h3⟩ := run_append_own_at (P := Tryz.prog) w N 50 50 112 i0 (.agg z48.toArray) 48 48 Tryz.underlying50 hi hz0 hz1 hz2 z48_size (by omega) v vs.length vs.flatten hown
    ⟨g, 0, none⟩ us.length c us.flatten hl (fun j u hj => by have := hu j u hj; rwa [Addr.add_mid]) (fun x hx => by obtain ⟨y, hy, hxy⟩ := List.mem_flatten.1 hx; exact hok y hy x hxy) (by unfold maxLen; omega) (by omega) hN
  exact ⟨v', w', hr, by simpa using h1, h2⟩
set_option maxRecDepth 100000 in
theorem append_imgDs (N : Nat) (w : World) (v : Value) (vs us : List (List Value)) (u : Value) (hown : w.ownsRow N 133 49 v vs.length vs.flatten) (hu : w.ownsRow 0 133 49 u us.length us.flatten) (hok : ∀ x ∈ us, ∀ y ∈ x, y.oneCell' = true) (hlen : vs.length + us.length ≤ 1000000) (hN : N ≤ w.heap.size) :
    ∃ v' w', (Builtin.append_ #[130, 130] 130 #[v, u]).run Tryz.prog w = .ok v' w' ∧ w'.ownsRow N 133 49 v' (vs ++ us).length (vs ++ us).flatten ∧ w.grownBy w' v.ownBlock := by
  obtain ⟨i0, hi, hz0, hz1, hz2⟩ := info_parts info_imgD
  rcases hu.2 with ⟨rfl, h0⟩ | ⟨g, cap, cur, rfl, _⟩
  · obtain rfl := List.eq_nil_of_length_eq_zero h0
    exact ⟨v, w, run_append_owned_none (P := Tryz.prog) (w := w) N 130 130 133 i0 49 Tryz.underlying130 hi v vs.length _ hown, by simpa using hown, World.grownBy.refl _ _⟩
  · obtain ⟨v', w', hr, h1, h2, _, h3⟩ := run_append_own_at (P := Tryz.prog) w N 130 130 133 i0 (.agg zim.toArray) 49 56 Tryz.underlying130 hi hz0 hz1 hz2 zim_size (by omega) v vs.length vs.flatten hown
      ⟨g, 0, none⟩ us.length cap us.flatten hu.1 (hu.cells rfl) (fun x hx => by obtain ⟨y, hy, hxy⟩ := List.mem_flatten.1 hx; exact hok y hy x hxy) (by unfold maxLen; omega) (by omega) hN
    exact ⟨v', w', hr, by simpa using h1, h2⟩
section
set_option maxRecDepth 100000
set_option maxHeartbeats 4000000
set_option maxRecDepth 100000 in
theorem eql_slB (p : Addr) (n c : Nat) (w : World) : (binOp .eql 37 (.slice (some p) n c) (.slice none 0 0)).run Tryz.prog w = .ok (.bool false) w := by kernel_rfl
set_option maxRecDepth 100000 in
theorem eql_slP (p : Addr) (n c : Nat) (w : World) : (binOp .eql 50 (.slice (some p) n c) (.slice none 0 0)).run Tryz.prog w = .ok (.bool false) w := by kernel_rfl
attribute [local go_sem] eql_slB eql_slP
set_option maxRecDepth 100000 in
/-- **Clone** of bytes. -/
theorem cloneBytes {v : Value} {bs : List Int} (w : World) (hv : Sl .u8 w v bs) (hne : bs ≠ []) (hl : bs.length ≤ 1000000) :
    Calls Tryz.prog 55 #[v] w fun e w' => ∃ v', e = .returned v' ∧ w'.ownsRow w.heap.size 5 1 v' bs.length (u8s bs) ∧ Below w.heap.size w w' := by
  obtain ⟨v', w', h1, h2, h3⟩ := copy_lit w v bs hv (by omega)
  obtain ⟨a, c, rfl, hc1, hc2, hla, hn⟩ := hv
  obtain ⟨b, off, rfl⟩ : ∃ b off, a = some ⟨b, off, none⟩ := by
    rcases hla with h | ⟨b, off, e, _⟩
    · exact absurd h hne
    · exact ⟨b, off, e⟩
  obtain ⟨n, hnn⟩ : ∃ n, bs.length = n := ⟨_, rfl⟩
  rw [hnn] at h1
  rw [hnn]
  clear hla hn hc1 hc2 hl
  go_enter Tryz.func55, Tryz.ntmps55
  go_wp2_with (at_builtin; refine wpList_append_run (.tmp 5) (.tmp 6) 37 rfl rfl _ _ _ rfl rfl h1.out ?_)
  go_ret
  exact ⟨_, rfl, by rw [← hnn]; exact h2.out, h3.out⟩
set_option maxRecDepth 100000 in
/-- **Clone** of pages. -/
theorem clonePages {v : Value} {g : Nat} {now : List (List Int)} (w : World) (hv : PgsR w v g now) (hne : now ≠ []) :
    Calls Tryz.prog 126 #[v] w fun e w' => ∃ v', e = .returned v' ∧ w'.ownsRow w.heap.size 112 48 v' now.length (now.map u8s).flatten ∧ Below w.heap.size w w' := by
  obtain ⟨a, c, rfl, ha⟩ := hv.sl
  obtain rfl := ha (by cases now with | nil => exact absurd rfl hne | cons _ _ => simp)
  have ho0 : (w.alloc (.cells #[] 112)).ownsRow w.heap.size 112 48 (.slice (some ⟨w.heap.size, 0, none⟩) 0 0) ([] : List (List Value)).length ([] : List (List Value)).flatten := World.ownsRow_lit w #[] 0 (Nat.le_refl _) (by unfold maxLen; omega) rfl
  have hb0 := below_new w (.cells #[] 112)
  have hv1 := hv.below hb0
  obtain ⟨v', w', h1, h2, h3⟩ := append_bods w.heap.size (w.alloc (.cells #[] 112)) _ [] (now.map u8s) g c ho0
    (by rw [flat_len (s := 48) (fun x hx => by obtain ⟨y, hy, rfl⟩ := List.mem_map.1 hx; rw [u8s_length]; exact hv.len y hy)]) hv1.at_ (fun x hx => by obtain ⟨y, _, rfl⟩ := List.mem_map.1 hx; exact u8s_one y) (by have := hv.few; simp; omega) (by simp)
  have hB : Hid (Below w.heap.size w w') := hb0.grown h3 hb0.size (fun k e => by simp [Value.ownBlock] at e; omega)
  have H1 := Lib.hid h1
  have H2 : Hid (w'.ownsRow w.heap.size 112 48 v' now.length (now.map u8s).flatten) := Lib.hid (by simpa using h2)
  obtain ⟨n, hnn⟩ : ∃ n, now.length = n := ⟨_, rfl⟩
  rw [List.length_map, hnn] at H1
  rw [hnn] at H2 ⊢
  clear ho0 hb0 hv1 h1 h2 h3 hv ha
  go_enter Tryz.func126, Tryz.ntmps126
  go_wp2_with (at_builtin; refine wpList_append_run (.tmp 5) (.tmp 6) 50 rfl rfl _ _ _ rfl rfl H1.out ?_)
  go_ret
  exact ⟨_, rfl, H2.out, hB.out⟩
set_option maxRecDepth 100000 in
/-- **Grow** of no images. -/
theorem grow_nilI (n : Nat) (hn : n ≤ 100000) (w : World) :
    Calls Tryz.prog 144 #[.slice none 0 0, .int .i64 (n : Int)] w fun e w' => ∃ v, e = .returned v ∧ w'.ownsRow w.heap.size 133 49 v 0 [] ∧ Below w.heap.size w w' := by
  obtain ⟨i0, hi, hz0, hz1, hz2⟩ := info_parts info_imgD
  have g0 : ¬ ((n : Int) < 0) := by omega
  have g1 : decide ((n : Int) < 0) = false := by simp
  by_cases h : 0 < n
  · have g2 : decide ((n : Int) > 0) = true := by simp; omega
    have hr := fun ty => Lib.run_append_grow_zeros (P := Tryz.prog) w 130 3 ty 133 i0 (.agg zim.toArray) .i64 .i64 Tryz.underlying130 Tryz.underlying3 hi hz0 none 0 0 [] (run_firstCells_none w.drew i0.size 0 0 0) n h (by omega) (by omega) (by omega) (by rw [hz2]; omega)
      (by rw [hz2]; exact growslice_fits (by omega) (by omega))
    have hc1 := grownCap_ge w (0 + n) 0 133
    have hc2 := grownCap_le_maxLen w (0 + n) 0 133 (by unfold maxLen; omega)
    obtain ⟨G, hG⟩ : ∃ G, grownCap w (0 + n) 0 133 = G := ⟨_, rfl⟩
    rw [hG] at hr hc1 hc2
    obtain ⟨W, hW⟩ : ∃ W, w.drew.alloc (.cells (([] : List Value).toArray ++ Builtin.zeroCells (Value.agg zim.toArray).cells n ++ Builtin.zeroCells (Value.agg zim.toArray).cells (G - (0 + n))) 133) = W := ⟨_, rfl⟩
    rw [hW] at hr
    have HO : Hid (W.ownsRow w.heap.size 133 49 (.slice (some ⟨w.heap.size, 0, none⟩) 0 G) 0 []) := by
      refine ⟨by simp, .inr ⟨w.heap.size, G, _, rfl, Nat.le_refl _, by rw [← hW]; exact heap_alloc_new w.drew _, Nat.zero_le _, hc2, ?_, by simp⟩⟩
      have hzc : (Value.agg zim.toArray).cells.size = 49 := zim_size
      simp only [Array.size_append, size_zeroCells, hzc, List.size_toArray, List.length_nil]
      omega
    have HB : Hid (Below w.heap.size w W) := by rw [← hW]; exact ((Below.refl _ w).drew).alloc (Nat.le_refl _) _
    have HR := Lib.hid hr
    have g3 : G ≤ 9223372036854775807 := by unfold maxLen at hc2; omega
    clear hr hW hc2 hG hz0 hz1 hz2 hi
    go_enter Tryz.func144, Tryz.ntmps144
    go_wp2_with (at_builtin; refine Lib.wpList_append_run _ rfl _ _ _ _ rfl _ _ rfl rfl _ _ (HR.out _) ?_)
    go_ret
    exact ⟨_, rfl, HO.out, HB.out⟩
  · obtain rfl : n = 0 := by omega
    go_enter Tryz.func144, Tryz.ntmps144
    go_wp2
    go_ret
    exact ⟨_, rfl, World.ownsRow_nil _ _ _ _, Below.refl _ _⟩
theorem flatI_snoc (ts : List (List Img)) {k : Nat} {t : List Img} (h : ts[k]? = some t) : (ts.take (k + 1)).flatten = (ts.take k).flatten ++ t := by
  rw [List.take_add_one, h]
  simp
theorem flatI_le (ts : List (List Img)) (k : Nat) : (ts.take k).flatten.length ≤ ts.flatten.length := by
  conv => rhs; rw [← List.take_append_drop k ts]
  rw [List.flatten_append, List.length_append]
  omega
set_option maxRecDepth 100000 in
/-- **Concat** of images. -/
theorem concatI (v : Value) (ts : List (List Img)) (w : World) {N : Nat} (h : TxnsR 130 133 w N v ts) (hl : ts.flatten.length ≤ 100000) (hl2 : ts.length ≤ 100000) :
    Calls Tryz.prog 127 #[v] w fun e w' => ∃ v, e = .returned v ∧ w'.ownsRow w.heap.size 133 49 v ts.flatten.length (imgR ts.flatten).flatten ∧ Below w.heap.size w w' := by
  obtain ⟨a, c, rfl, h3⟩ := h.row
  have H3 := Lib.hid h3
  have HL := Lib.hid hl
  obtain ⟨n, hn⟩ : ∃ n, ts.length = n := ⟨_, rfl⟩
  have HN := Lib.hid hn
  rw [hn] at hl2
  rw [hn]
  clear h h3 hl hn
  go_enter Tryz.func127, Tryz.ntmps127
  go_wp2_with fail
  go_loop [3, 11] (fun s i => ∃ k : Nat, k ≤ n ∧ i = .int .i64 (k : Int) ∧ s = .int .i64 (((ts.take k).flatten.length : Nat) : Int)) (fun _ i => n - (intOf i).toNat)
  case atStart => exact ⟨0, Nat.zero_le _, rfl, rfl⟩
  case round =>
    obtain ⟨k, hk, rfl, rfl⟩ := hrel
    obtain ⟨m, hm0⟩ : ∃ m, (ts.take k).flatten.length = m := ⟨_, rfl⟩
    rw [hm0]
    by_cases hlt : k < n
    · have hlt' : decide ((k : Int) < (n : Int)) = true := by simp; omega
      obtain ⟨t, ht⟩ : ∃ t, ts[k]? = some t := ⟨_, List.getElem?_eq_getElem (by rw [HN.out]; exact hlt)⟩
      obtain ⟨g, b, d, rfl, h5, c0, h7⟩ := H3.out k t ht
      have hs : (ts.take (k + 1)).flatten.length = m + t.length := by rw [flatI_snoc ts ht, List.length_append, hm0]
      have hb := flatI_le ts (k + 1)
      have hb2 := HL.out
      obtain ⟨q, hq⟩ : ∃ q, t.length = q := ⟨_, rfl⟩
      rw [hq] at hs c0
      have g5 : (m : Int) + (q : Int) ≤ 100000 := by omega
      have g6 : decide ((m : Int) + (q : Int) < 0) = false := by simp; omega
      have HS := Lib.hid hs
      clear hs hb hb2 hq hm0 h5 h7 ht
      go_wp2_with fail
      go_round
      case rel => exact ⟨k + 1, by omega, by go_num, by rw [HS.out]; simp⟩
      case measure => simp [intOf]; omega
    · have hlt' : decide ((k : Int) < (n : Int)) = false := by simp; omega
      obtain rfl : k = n := by omega
      have hmb : m ≤ 100000 := by rw [← hm0]; exact Nat.le_trans (flatI_le ts k) HL.out
      clear hm0
      go_wp2_with fail
      go_at_call 144
      refine (grow_nilI m hmb w).mono ?_
      rintro e w1 ⟨v1, rfl, hO, hB⟩
      have HO : Hid (w1.ownsRow w.heap.size 133 49 v1 (imgR (ts.take 0).flatten).length (imgR (ts.take 0).flatten).flatten) := hO
      have HB := Lib.hid hB
      clear hO hB
      go_wp2_with fail
      go_loopw [6, 27] (fun v i wr => ∃ j : Nat, j ≤ k ∧ i = .int .i64 (j : Int) ∧ Hid (wr.ownsRow w.heap.size 133 49 v (imgR (ts.take j).flatten).length (imgR (ts.take j).flatten).flatten) ∧ Hid (Below w.heap.size w wr)) (fun _ i _ => k - (intOf i).toNat)
      case atStart => exact ⟨0, Nat.zero_le _, rfl, HO, HB⟩
      case round =>
        obtain ⟨j, hj, rfl, HO, HB⟩ := hrel
        by_cases hlt : j < k
        · have hlt' : decide ((j : Int) < (k : Int)) = true := by simp; omega
          obtain ⟨t, ht⟩ : ∃ t, ts[j]? = some t := ⟨_, List.getElem?_eq_getElem (by rw [HN.out]; exact hlt)⟩
          obtain ⟨g, b, d, rfl, h5, c0, h7⟩ := H3.out j t ht
          have c1 : wr.cell? ⟨g, j, none⟩ = some (.slice b t.length d) := (HB.out.cell (p := ⟨g, j, none⟩) h5).trans c0
          have h7' : wr.ownsRow 0 133 49 (.slice b t.length d) (imgR t).length (imgR t).flatten := by rw [imgR_length]; exact own_from (own_belowT h7 HB.out) (Nat.zero_le _)
          obtain ⟨v5, x3, R3, O3, G3⟩ := append_imgDs w.heap.size wr _ (imgR (ts.take j).flatten) (imgR t) (.slice b t.length d) HO.out h7' (fun x hx => by obtain ⟨y, _, rfl⟩ := List.mem_map.1 hx; exact Img.cells_one y) (by
            rw [imgR_length, imgR_length]
            have h1 := flatI_le ts (j + 1)
            have h2 := HL.out
            rw [flatI_snoc ts ht, List.length_append] at h1
            omega) HB.out.size
          have e7 : imgR (ts.take j).flatten ++ imgR t = imgR (ts.take (j + 1)).flatten := by unfold imgR; rw [flatI_snoc ts ht, List.map_append]
          rw [e7] at O3
          have K3 : Hid (Below w.heap.size w x3) := HB.out.grown G3 HB.out.size (fun i e => (HO.out.lt i e).1)
          have R3 := Lib.hid R3
          have O3 := Lib.hid O3
          obtain ⟨q, hq⟩ : ∃ q, t.length = q := ⟨_, rfl⟩
          rw [hq] at c1 R3
          clear c0 h5 h7 h7' ht G3 e7 hq
          go_wp2_with (at_builtin; refine wpList_append_run (.tmp 31) (.tmp 32) 130 rfl rfl _ _ _ rfl rfl R3.out ?_)
          go_roundw
          case rel => exact ⟨j + 1, by omega, by go_num, O3, K3⟩
          case measure => simp [intOf]; omega
        · have hlt' : decide ((j : Int) < (k : Int)) = false := by simp; omega
          obtain rfl : j = k := by omega
          have e1 : ts.take j = ts := List.take_of_length_le (by rw [HN.out]; exact Nat.le_refl _)
          rw [e1, imgR_length] at HO
          clear e1
          go_wp2_with fail
          go_ret
          exact ⟨_, rfl, HO.out, HB.out⟩
end
end Go.Proofs.YtbdfllamhcodjaaGreat

/- The developers' replayed: images laid over pages, the pages' bytes. -/
namespace Go.Proofs.YtbdfllamhcodjaaGreat
open Go.RowKit Go.Shelf
set_option linter.unusedVariables false
attribute [-simp] Tryz.isAgg60 Tryz.zeroValue60 Tryz.isAgg112 Tryz.zeroValue112 Tryz.isAgg189 Tryz.zeroValue189 Tryz.isAgg133 Tryz.zeroValue133 Tryz.isAgg114 Tryz.zeroValue114 Tryz.isAgg105 Tryz.zeroValue105
attribute [-go_sem] loadVar storeVar run_equalIn_agg
attribute [local go_sem] zero_blk build_blk zero_bod zero_pg build_pg build_pg0 build_pg2 zero_imgD zero_wr zero_sup loadVar_openV storeVar_openV

theorem flat_set_get {s : Nat} {L : List (List Value)} (hl : ∀ x ∈ L, x.length = s) {j : Nat} (hj : j < L.length) {c : List Value} (hc : c.length = s) (i : Nat) : (L.set j c).flatten[i]? = if j * s ≤ i ∧ i < j * s + s then c[i - j * s]? else L.flatten[i]? := by
  have e1 : L.flatten = (L.take j).flatten ++ (L[j] ++ (L.drop (j + 1)).flatten) := by
    conv => lhs; rw [← List.take_append_drop j L, List.drop_eq_getElem_cons hj]
    rw [List.flatten_append, List.flatten_cons]
  have e2 : (L.set j c).flatten = (L.take j).flatten ++ (c ++ (L.drop (j + 1)).flatten) := by
    rw [List.set_eq_take_append_cons_drop, if_pos hj, List.flatten_append, List.flatten_cons]
  have hA : (L.take j).flatten.length = j * s := by
    rw [flat_len (s := s) (fun x hx => hl x (List.mem_of_mem_take hx)), List.length_take, Nat.min_eq_left (Nat.le_of_lt hj)]
  have hlj : L[j].length = s := hl _ (List.getElem_mem hj)
  rw [e1, e2]
  by_cases h1 : i < j * s
  · rw [List.getElem?_append_left (by omega), List.getElem?_append_left (by omega), if_neg (by omega)]
  · have r1 : ∀ X : List Value, ((L.take j).flatten ++ X)[i]? = X[i - j * s]? := fun X => by rw [List.getElem?_append_right (by omega), hA]
    rw [r1, r1]
    by_cases h2 : i < j * s + s
    · rw [List.getElem?_append_left (by omega), if_pos ⟨by omega, h2⟩]
    · rw [List.getElem?_append_right (by omega), List.getElem?_append_right (by omega), hc, hlj, if_neg (by omega)]
/-- Pages that may be written. -/
structure PgsW (W : World) (g n : Nat) (now : List (List Int)) : Prop where
  at_ : W.rangeAt g 0 (now.map u8s).flatten
  there : W.there g 0 (n * 48)
  len : ∀ x ∈ now, x.length = 48
  cnt : now.length = n
theorem PgsW.below {W W' : World} {N g n : Nat} {now : List (List Int)} (h : PgsW W g n now) (hb : Below N W W') (hg : g < N) : PgsW W' g n now :=
  ⟨rangeAt_same h.at_ (hb.block g hg), fun j hj => by
    have e := hb.block g hg
    refine ⟨?_, ?_⟩
    · rw [World.cell?_of_block (a := ⟨g, 0 + j, none⟩) e]; exact (h.there j hj).1
    · have := (h.there j hj).2
      unfold World.frozen? at this ⊢
      rw [show (Addr.mk g (0 + j) none).block = g from rfl] at this ⊢
      rw [e]; exact this, h.len, h.cnt⟩
theorem PgsW.put {W : World} {g n : Nat} {now : List (List Int)} (h : PgsW W g n now) {j : Nat} (hj : j < n) {b : List Int} (hb : b.length = 48) : PgsW (W.setCells g (j * 48) (u8s b)) g n (now.set j b) ∧ W.there g (j * 48) 48 := by
  have ht : W.there g (j * 48) 48 := fun i hi => by
    have := h.there (j * 48 + i) (by have : (j + 1) * 48 ≤ n * 48 := Nat.mul_le_mul_right _ hj; omega)
    rwa [Nat.zero_add] at this
  have hjl : j < now.length := by rw [h.cnt]; exact hj
  refine ⟨⟨?_, World.there_setCells h.there _ _ _, fun x hx => ?_, by rw [List.length_set]; exact h.cnt⟩, ht⟩
  · intro i u hi
    rw [List.map_set, flat_set_get (s := 48) (fun x hx => by obtain ⟨y, hy, rfl⟩ := List.mem_map.1 hx; rw [u8s_length]; exact h.len y hy) (by rw [List.length_map]; exact hjl) (by rw [u8s_length]; exact hb)] at hi
    by_cases hc : j * 48 ≤ i ∧ i < j * 48 + 48
    · rw [if_pos hc] at hi
      have := World.rangeAt_setCells_same W g (j * 48) (u8s b) (by rw [u8s_length, hb]; exact ht) (i - j * 48) u hi
      rwa [show j * 48 + (i - j * 48) = 0 + i by omega] at this
    · rw [if_neg hc] at hi
      have h0 := h.at_ i u hi
      have h1 : W.rangeAt g i [u] := fun k v hv => by
        match k, hv with
        | 0, hv => simp at hv; rw [← hv]; rw [Nat.zero_add] at h0; exact h0
        | k + 1, hv => simp at hv
      have := World.rangeAt_setCells_apart h1 g (j * 48) (u8s b) (by rw [u8s_length, hb]; simp; omega) 0 u rfl
      rwa [Nat.add_zero, ← Nat.zero_add i] at this
  · rcases List.mem_or_eq_of_mem_set hx with hx | rfl
    · exact h.len x hx
    · exact hb
theorem PgsW.page {W : World} {g n : Nat} {now : List (List Int)} (h : PgsW W g n now) {k : Nat} (hk : k < n) : W.rangeAt g (k * 48) (u8s (pgAt now k)) ∧ (pgAt now k).length = 48 := by
  have hk' : k < now.length := by rw [h.cnt]; exact hk
  have hx : now[k]? = some (pgAt now k) := by unfold pgAt; rw [List.getElem?_eq_getElem hk']; rfl
  refine ⟨?_, h.len _ (List.mem_of_getElem? hx)⟩
  have := row_at (s := 48) (L := now.map u8s) (fun x hx => by obtain ⟨y, hy, rfl⟩ := List.mem_map.1 hx; rw [u8s_length]; exact h.len y hy) h.at_ (k := k) (x := u8s (pgAt now k)) (by rw [List.getElem?_map, hx]; rfl)
  rwa [Nat.zero_add] at this
set_option maxRecDepth 100000 in
theorem store_bodV {w : World} {b o : Nat} {c : List Value} (ht : w.there b o 48) (h : c.length = 48) (h1 : ∀ v ∈ c, v.oneCell' = true) : (storeVar 112 ⟨b, o, none⟩ (.agg c.toArray)).run Tryz.prog w = .ok () (w.setCells b o c) := by
  have := run_storeVar_mid (P := Tryz.prog) w b o 112 c.toArray (by simpa [h] using ht) (by simpa [h] using info_bod1) (all_oneCell_toArray h1)
  simpa using this
theorem flatP_snoc (now : List (List Int)) {k : Nat} (hk : k < now.length) : (now.take (k + 1)).flatten = (now.take k).flatten ++ pgAt now k := by
  rw [List.take_succ_eq_append_getElem hk]
  unfold pgAt
  rw [List.getElem?_eq_getElem hk, List.flatten_append]
  simp
theorem flatP_len {now : List (List Int)} (h : ∀ x ∈ now, x.length = 48) {k : Nat} (hk : k ≤ now.length) : (now.take k).flatten.length = k * 48 := by
  have hm : ∀ l : List (List Int), (∀ x ∈ l, x.length = 48) → l.flatten.length = l.length * 48 := fun l => by
    induction l with
    | nil => intro _; rfl
    | cons a l ih =>
      intro h
      rw [List.flatten_cons, List.length_append, ih (fun x hx => h x (List.mem_cons_of_mem _ hx)), h a List.mem_cons_self, List.length_cons, Nat.succ_mul]
      omega
  rw [hm _ (fun x hx => h x (List.mem_of_mem_take hx)), List.length_take, Nat.min_eq_left hk]
theorem layF_snoc (home : List (List Int)) (fl : List Img) {k : Nat} {x : Img} (h : fl[k]? = some x) : (fl.take (k + 1)).foldl layI home = layI ((fl.take k).foldl layI home) x := by
  rw [List.take_add_one, h]
  simp [List.foldl_append]
section
set_option maxRecDepth 100000
set_option maxHeartbeats 8000000
set_option maxRecDepth 100000 in
/-- **replayed**. -/
theorem mvReplayed {v vt : Value} {gh : Nat} {home : List (List Int)} {ts : List (List Img)} {N : Nat} (w : World) (hv : PgsR w v gh home) (hne : home ≠ []) (ht : TxnsR 130 133 w N vt ts)
    (hi : ∀ x ∈ ts.flatten, 0 ≤ x.index ∧ x.body.length = 48) (hl : ts.flatten.length ≤ 100000) (hl2 : ts.length ≤ 100000) :
    Calls Tryz.prog 81 #[v, vt] w fun e w' => ∃ v', e = .returned v' ∧ w'.ownsRow w.heap.size 5 1 v' (layTs home ts).flatten.length (u8s (layTs home ts).flatten) ∧ Below w.heap.size w w' := by
  obtain ⟨P, hP⟩ : ∃ P, home.length = P := ⟨_, rfl⟩
  have hP0 : 0 < P := by rw [← hP]; cases home with | nil => exact absurd rfl hne | cons _ _ => simp
  have hP1 : P ≤ 1000 := by rw [← hP]; exact hv.few
  have HCP := Lib.hid (clonePages w hv hne)
  rw [hP] at HCP
  have HLEN := Lib.hid hv.len
  have HPP := Lib.hid hP
  have HT := Lib.hid ht
  have HI := Lib.hid hi
  have HL := Lib.hid hl
  have HL2 := Lib.hid hl2
  rw [layTs_flat]
  obtain ⟨fl, hfl⟩ : ∃ fl, ts.flatten = fl := ⟨_, rfl⟩
  rw [hfl] at HI HL
  rw [hfl]
  have HFL := Lib.hid hfl
  obtain ⟨a, c, rfl, -⟩ := hv.sl
  obtain ⟨a2, c2, rfl, -⟩ := ht.row
  rw [hP] at HCP ⊢
  clear hv hne ht hi hl hl2 hP hfl
  go_enter Tryz.func81, Tryz.ntmps81
  go_wp2_with fail
  go_at_call 126
  refine HCP.out.mono ?_
  rintro e x1 ⟨v1, rfl, hO, hb⟩
  have HB1 := Lib.hid hb
  obtain ⟨gp, cp, rfl, hgp⟩ : ∃ gp cp, v1 = .slice (some ⟨gp, 0, none⟩) P cp ∧ (w.heap.size ≤ gp ∧ gp < x1.heap.size ∧ PgsW x1 gp P home) := by
    rcases hO.2 with ⟨rfl, h0⟩ | ⟨g, cap, cur, rfl, hg1, hg2, hg3, hg4, hg5, hg6⟩
    · omega
    · exact ⟨g, cap, rfl, hg1, (Array.getElem?_eq_some_iff.1 hg2).1, fun j u hj => by have := hO.cells (g := g) rfl j u hj; rwa [Addr.add_mid] at this, row_there hg2 0 (P * 48) (by have : P * 48 ≤ cap * 48 := Nat.mul_le_mul_right _ hg3; omega), HLEN.out, HPP.out⟩
  have HGP := Lib.hid hgp
  have HT1 : Hid (TxnsR 130 133 x1 N (.slice a2 ts.length c2) ts) := by
    obtain ⟨vs, g1, g2, g3⟩ := HT.out
    exact ⟨vs, g1, own_belowT g2 hb, fun i u t hu ht => own_belowT (g3 i u t hu ht) hb⟩
  clear hO hb hgp HCP
  go_wp2_with fail
  go_at_call 127
  have hcc := concatI (.slice a2 ts.length c2) ts x1 HT1.out (by rw [HFL.out]; exact HL.out) HL2.out
  rw [HFL.out] at hcc
  refine hcc.mono ?_
  clear hcc
  rintro e x2 ⟨v2, rfl, hO, hb⟩
  obtain ⟨ai, ci, rfl, hrow⟩ := row_lenT hO
  have HROW := Lib.hid hrow
  have HB2 : Hid (Below w.heap.size w x2) := HB1.out.trans (hb.mono HB1.out.size)
  have HGI : Hid (∀ g, ai = some ⟨g, 0, none⟩ → 0 < fl.length → x1.heap.size ≤ g) := fun g e h0 => by
    obtain ⟨g', c', e', hN, _⟩ := own_row hO h0
    rw [e] at e'
    cases e'
    exact hN
  have HPG : Hid (PgsW x2 gp P ((fl.take 0).foldl layI home)) := HGP.out.2.2.below hb HGP.out.2.1
  have HGP2 : Hid (w.heap.size ≤ gp ∧ gp < x1.heap.size ∧ x1.heap.size ≤ x2.heap.size) := ⟨HGP.out.1, HGP.out.2.1, hb.size⟩
  obtain ⟨n, hn⟩ : ∃ n, fl.length = n := ⟨_, rfl⟩
  have HN := Lib.hid hn
  have hn1 : n ≤ 100000 := by rw [← hn]; exact HL.out
  rw [hn] at HROW HGI
  rw [hn]
  clear hO hb hrow hn HT1
  go_wp2_with fail
  go_loopw [16] (fun i wr => ∃ k : Nat, k ≤ n ∧ i = .int .i64 (k : Int) ∧ Hid (PgsW wr gp P ((fl.take k).foldl layI home)) ∧ Hid (Below w.heap.size w wr) ∧ Hid (x2.heap.size ≤ wr.heap.size ∧ ∀ j, j < x2.heap.size → j ≠ gp → wr.heap[j]? = x2.heap[j]?)) (fun i _ => n - (intOf i).toNat)
  case atStart => exact ⟨0, Nat.zero_le _, rfl, HPG, HB2, ⟨Nat.le_refl _, fun _ _ _ => rfl⟩⟩
  case round =>
    obtain ⟨k, hk, rfl, HP, HB, HX⟩ := hrel
    by_cases hlt : k < n
    · have g3 : decide ((k : Int) < (n : Int)) = true := by simp; omega
      obtain ⟨x, hx⟩ : ∃ x, fl[k]? = some x := ⟨_, List.getElem?_eq_getElem (by rw [HN.out]; exact hlt)⟩
      obtain ⟨gi, rfl, hgl, hgr⟩ := HROW.out (by omega)
      have hgi := HGI.out gi rfl (by omega)
      obtain ⟨hx0, hxb⟩ := HI.out x (List.mem_of_getElem? hx)
      have hng : gi ≠ gp := by have := HGP2.out.2.1; omega
      have hgr' := rangeAt_same hgr (HX.out.2 gi hgl hng)
      have LD : (loadVar 133 ⟨gi, k * 49, none⟩).run Tryz.prog wr = .ok (.agg x.cells.toArray) wr := by
        have := row_at (s := 49) (L := imgR fl) (fun y hy => by obtain ⟨z, hz, rfl⟩ := List.mem_map.1 hy; exact Img.cells_length (HI.out z hz).2) hgr' (k := k) (x := x.cells) (by unfold imgR; rw [List.getElem?_map, hx]; rfl)
        rw [Nat.zero_add] at this
        exact load_imgD this (Img.cells_length hxb)
      obtain ⟨y, ST, hr, hb⟩ := new_imgD wr x hxb
      have c0 : y.cell? ⟨wr.heap.size, 0, none⟩ = some (.int .i64 x.index) := hr.cell 0 _ rfl
      have LB : (loadVar 112 ⟨wr.heap.size, 1, none⟩).run Tryz.prog y = .ok (.agg (u8s x.body).toArray) y := load_bod (row_part (a := [.int .i64 x.index]) (b := u8s x.body) hr) (by rw [u8s_length]; exact hxb)
      obtain ⟨B, hB⟩ : ∃ B, wr.heap.size = B := ⟨_, rfl⟩
      have hgpw : gp < wr.heap.size := by have h1 := HGP2.out; have h2 := HX.out.1; omega
      have hPy := HP.out.below hb hgpw
      have HBY : Hid (Below w.heap.size w y) := HB.out.trans (hb.mono HB.out.size)
      have HXY : Hid (x2.heap.size ≤ y.heap.size ∧ ∀ j, j < x2.heap.size → j ≠ gp → y.heap[j]? = x2.heap[j]?) := ⟨Nat.le_trans HX.out.1 hb.size, fun j h1 h2 => (hb.block j (Nat.lt_of_lt_of_le h1 HX.out.1)).trans (HX.out.2 j h1 h2)⟩
      have HSN := Lib.hid (layF_snoc home fl hx)
      rw [hB] at ST c0 LB
      obtain ⟨ic, hic⟩ : ∃ ic, x.cells.toArray = ic := ⟨_, rfl⟩
      rw [hic] at LD ST
      obtain ⟨ix, hix⟩ : ∃ ix, x.index = ix := ⟨_, rfl⟩
      rw [hix] at hx0 c0
      have hcnt := hPy.cnt
      by_cases hxp : ix < P
      · have g4 : decide (ix < (P : Int)) = true := by simpa using hxp
        obtain ⟨j, rfl⟩ := Int.eq_ofNat_of_zero_le hx0
        have hjP : j < P := by omega
        obtain ⟨hput, hth⟩ := hPy.put hjP hxb
        have STP := store_bodV hth (c := u8s x.body) (by rw [u8s_length]; exact hxb) (u8s_one _)
        obtain ⟨z, hz⟩ : ∃ z, y.setCells gp (j * 48) (u8s x.body) = z := ⟨_, rfl⟩
        rw [hz] at STP hput
        have HPZ : Hid (PgsW z gp P ((fl.take (k + 1)).foldl layI home)) := by
          show PgsW _ _ _ _
          rw [HSN.out]
          have el : layI ((fl.take k).foldl layI home) x = ((fl.take k).foldl layI home).set j x.body := by
            rw [layI.eq_1, hix, if_pos (by rw [hcnt]; omega), Int.toNat_natCast]
          rw [el]
          exact hput
        have HBZ : Hid (Below w.heap.size w z) := by show Below _ _ _; rw [← hz]; exact HBY.out.trans ((below_cells (N := w.heap.size) HGP2.out.1 _ _ _).mono (Nat.le_refl _))
        have HXZ : Hid (x2.heap.size ≤ z.heap.size ∧ ∀ j, j < x2.heap.size → j ≠ gp → z.heap[j]? = x2.heap[j]?) := by
          refine (?_ : _ ∧ _)
          rw [← hz]
          exact ⟨by rw [size_setCells]; exact HXY.out.1, fun j' h1 h2 => (World.heap_setCells_other _ _ _ _ (Nat.lt_of_lt_of_le h1 HXY.out.1) h2).trans (HXY.out.2 j' h1 h2)⟩
        obtain ⟨pb, hpb⟩ : ∃ pb, (u8s x.body).toArray = pb := ⟨_, rfl⟩
        rw [hpb] at LB STP
        clear hx hgr hgr' hr hb hPy hput hth hxb hic hgi hgl hng hpb hz hcnt hix
        go_wp2_with fail
        go_roundw
        case rel => exact ⟨k + 1, hlt, by go_num, HPZ, HBZ, HXZ⟩
        case measure => simp [intOf]; omega
      · have g4 : decide (ix < (P : Int)) = false := by simpa using hxp
        have HPZ : Hid (PgsW y gp P ((fl.take (k + 1)).foldl layI home)) := by
          show PgsW _ _ _ _
          rw [HSN.out]
          have el : layI ((fl.take k).foldl layI home) x = (fl.take k).foldl layI home := by
            rw [layI.eq_1, hix, if_neg (by rw [hcnt]; omega)]
          rw [el]
          exact hPy
        clear hx hgr hgr' hr hb hPy hxb hic hgi hgl hng hcnt hix
        go_wp2_with fail
        go_roundw
        case rel => exact ⟨k + 1, hlt, by go_num, HPZ, HBY, HXY⟩
        case measure => simp [intOf]; omega
    · have g3 : decide ((k : Int) < (n : Int)) = false := by simp; omega
      obtain rfl : k = n := by omega
      have e1 : fl.take k = fl := List.take_of_length_le (by rw [HN.out]; exact Nat.le_refl _)
      rw [e1] at HP
      obtain ⟨now, hnow⟩ : ∃ now, fl.foldl layI home = now := ⟨_, rfl⟩
      rw [hnow] at HP
      have HNOW := Lib.hid hnow
      have HCN : Hid (now.length = P) := HP.out.cnt
      have HNL : Hid (∀ x ∈ now, x.length = 48) := HP.out.len
      have HGW : Hid (w.heap.size ≤ gp ∧ gp < wr.heap.size) := ⟨HGP2.out.1, by have h1 := HGP2.out; have h2 := HX.out.1; omega⟩
      clear e1 hnow
      obtain ⟨wo, rfl⟩ : ∃ y, y = wr := ⟨_, rfl⟩
      go_wp2_with fail
      go_loopw [8, 34] (fun b i wr => ∃ j : Nat, j ≤ P ∧ i = .int .i64 (j : Int) ∧ Hid (wr.ownsRow wo.heap.size 5 1 b (now.take j).flatten.length (u8s (now.take j).flatten)) ∧ Hid (Below wo.heap.size wo wr)) (fun _ i _ => P - (intOf i).toNat)
      case atStart => exact ⟨0, Nat.zero_le _, rfl, World.ownsRow_nil _ _ _ _, Below.refl _ _⟩
      case round =>
        obtain ⟨j, hj, rfl, HO, HBQ⟩ := hrel
        by_cases hlt : j < P
        · have g3 : decide ((j : Int) < (P : Int)) = true := by simp; omega
          have hPq := HP.out.below HBQ.out HGW.out.2
          obtain ⟨hpg, hp48⟩ := hPq.page hlt
          have LD := load_bod hpg (by rw [u8s_length]; exact hp48)
          obtain ⟨y, ST, hr, hb⟩ := new_bod wr hp48
          have hsl : Sl .u8 y (.slice (some ⟨wr.heap.size, 0, none⟩) 48 48) (pgAt now j) := by
            have := sl_range hr.range hr.lt (by rw [hp48]; simp [maxLen])
            rwa [hp48] at this
          obtain ⟨B, hB⟩ : ∃ B, wr.heap.size = B := ⟨_, rfl⟩
          have hOy := own_belowT HO.out hb
          have hBy : Below wo.heap.size wo y := HBQ.out.trans (hb.mono HBQ.out.size)
          have hfl := flatP_len HNL.out (k := j) (by rw [HCN.out]; omega)
          obtain ⟨v5, x5, r5, o5, g5⟩ := run_append_bytes wo.heap.size y _ (now.take j).flatten hOy (.slice (some ⟨wr.heap.size, 0, none⟩) 48 48) (pgAt now j) hsl (by rw [hfl, hp48]; omega) hBy.size
          have e5 : (now.take j).flatten ++ pgAt now j = (now.take (j + 1)).flatten := (flatP_snoc now (by rw [HCN.out]; exact hlt)).symm
          rw [e5] at o5
          have K5 : Hid (Below wo.heap.size wo x5) := hBy.grown g5 hBy.size (fun i e => (hOy.lt i e).1)
          have O5 : Hid (x5.ownsRow wo.heap.size 5 1 v5 (now.take (j + 1)).flatten.length (u8s (now.take (j + 1)).flatten)) := o5
          rw [hB] at ST r5
          have R5 := Lib.hid r5
          obtain ⟨pb, hpb⟩ : ∃ pb, (u8s (pgAt now j)).toArray = pb := ⟨_, rfl⟩
          rw [hpb] at LD ST
          clear hPq hpg hp48 hr hb hsl hOy hBy hfl r5 o5 g5 e5 hpb
          go_wp2_with (at_builtin; refine wpList_append_run (.tmp 38) (.tmp 39) 37 rfl rfl _ _ _ rfl rfl R5.out ?_)
          go_roundw
          case rel => exact ⟨j + 1, hlt, by go_num, O5, K5⟩
          case measure => simp [intOf]; omega
        · have g3 : decide ((j : Int) < (P : Int)) = false := by simp; omega
          obtain rfl : j = P := by omega
          have e2 : now.take j = now := List.take_of_length_le (by rw [HCN.out]; exact Nat.le_refl _)
          rw [e2] at HO
          have HF : Hid (wr.ownsRow w.heap.size 5 1 u8 now.flatten.length (u8s now.flatten)) := own_from HO.out HB.out.size
          have HBF : Hid (Below w.heap.size w wr) := HB.out.trans (HBQ.out.mono HB.out.size)
          clear e2
          go_wp2_with fail
          go_ret
          rw [HNOW.out]
          exact ⟨_, rfl, HF.out, HBF.out⟩
end
end Go.Proofs.YtbdfllamhcodjaaGreat

/- The developers' readHomes. -/
namespace Go.Proofs.YtbdfllamhcodjaaGreat
open Go.RowKit Go.Shelf
set_option linter.unusedVariables false
attribute [-simp] Tryz.isAgg60 Tryz.zeroValue60 Tryz.isAgg112 Tryz.zeroValue112 Tryz.isAgg189 Tryz.zeroValue189 Tryz.isAgg133 Tryz.zeroValue133 Tryz.isAgg114 Tryz.zeroValue114 Tryz.isAgg105 Tryz.zeroValue105
attribute [-go_sem] loadVar storeVar run_equalIn_agg
attribute [local go_sem] zero_blk build_blk zero_bod zero_pg build_pg build_pg0 build_pg2 zero_imgD zero_wr zero_sup loadVar_openV storeVar_openV

theorem homSct_same {bs : List Int} {i : Nat} : sameS (decS bs) (homSct i (decS bs).body) = true ↔ homP bs i := by
  rw [sameS_iff]
  unfold homP decS
  by_cases hd : decOk bs = true
  · rw [if_pos hd]
    constructor
    · intro h
      rw [h]
      exact ⟨hd, rfl, rfl, rfl⟩
    · rintro ⟨_, h1, h2, h3⟩
      generalize Sct.of bs = p at *
      obtain ⟨m, s, x, b⟩ := p
      simp only at h1 h2 h3
      subst h1 h2 h3
      rfl
  · rw [if_neg hd]
    constructor
    · intro h
      have : (zsct).mark = 72 := by rw [h]; rfl
      cases this
    · rintro ⟨h, _⟩
      exact absurd h hd
theorem homes_snoc (S : RS) (H k : Nat) : S.homes H (k + 1) = S.homes H k ++ [(Sct.of (S.rd (H + k))).body] := by
  unfold RS.homes
  rw [List.range_succ, List.map_append]
  rfl
theorem homes_length (S : RS) (H k : Nat) : (S.homes H k).length = k := by simp [RS.homes]
section
set_option maxRecDepth 100000
set_option maxHeartbeats 8000000
set_option maxRecDepth 100000 in
/-- **readHomes**. -/
theorem mvReadHomes {rb p0 p1 : Nat} {S : RS} {w : World} {f : Nat → Prop} (h : RigR rb p0 p1 S w f) (hby : S.Byt) (hup : S.down = false) {g : Geo} (hg : g.In) {H P : Nat} (hH : g.oH = (H : Int)) (hP : g.oP = (P : Int)) (hHP : H + P ≤ S.n0) (hn : S.n0 ≤ 4096) :
    Calls Tryz.prog 79 #[.pointer (some ⟨rb, 0, none⟩), .agg g.v] w fun e w' =>
      (((∀ i, i < P → homP (S.rd (H + i)) i) ∧ ∃ v, e = .returned (.tuple #[v, .int .i64 0]) ∧ w'.ownsRow w.heap.size 112 48 v P ((S.homes H P).map u8s).flatten) ∨ ((¬ ∀ i, i < P → homP (S.rd (H + i)) i) ∧ e = .returned (.tuple #[.slice none 0 0, .int .i64 11]))) ∧ Below w.heap.size w w' := by
  obtain ⟨W, hW⟩ : ∃ W, w.alloc (.cells g.v 23) = W := ⟨_, rfl⟩
  have r1 : RowC W w.heap.size 23 g.cs := by rw [← hW]; exact RowC.new w _ _
  have b1 : Below w.heap.size w W := by rw [← hW]; exact below_new w _
  have HBW := Lib.hid b1
  have HR := Lib.hid r1
  have L0 := load_geo r1
  have HG := Lib.hid hg
  have HH := Lib.hid hH
  have HPP := Lib.hid hP
  have HN := Lib.hid hHP
  have hb2 : H + P ≤ 4096 := by omega
  have HRD : Hid (∀ (x : World) (i : Nat), Below w.heap.size w x → i < S.n0 → Calls Tryz.prog 33 #[.pointer (some ⟨rb, 0, none⟩), .int .i64 0, .int .i64 (i : Int)] x fun e w' => e = .returned (.tuple #[.agg (u8s (S.rd i)).toArray, .int .i64 0]) ∧ Below x.heap.size x w') := fun x i hx hin => (h.beside hx).rd0 hby hup hin
  have HBY : Hid (∀ i, i < S.n0 → IsBytes (S.rd i) ∧ (S.rd i).length = 64) := fun i hi => ⟨(hby i hi).1, (hby i hi).2.1⟩
  obtain ⟨B, hB⟩ : ∃ B, w.heap.size = B := ⟨_, rfl⟩
  have HBB := Lib.hid hB
  rw [hB] at L0 HR
  have hmx : Tryz.prog.follows .mixedOrders = true := by kernel_rfl
  clear r1 b1 h hby hup hg hH hP hHP hn
  go_enter Tryz.func79, Tryz.ntmps79
  go_wp2_with fail
  go_at_call 39
  refine (gmPages g HG.out W).mono ?_
  rintro e x1 ⟨rfl, hb⟩
  rw [HPP.out]
  have K1 : Hid (Below w.heap.size w x1) := HBW.out.trans (hb.mono HBW.out.size)
  have R1 := Lib.hid (HR.out.below hb)
  clear hb L0
  go_wp2_with fail
  go_loopw [6, 14] (fun l i wr => ∃ k : Nat, k ≤ P ∧ i = .int .i64 (k : Int) ∧ Hid (∀ j, j < k → homP (S.rd (H + j)) j) ∧ Hid (wr.ownsRow w.heap.size 112 48 l ((S.homes H k).map u8s).length ((S.homes H k).map u8s).flatten) ∧ Hid (RowC wr B 23 g.cs) ∧ Hid (Below w.heap.size w wr)) (fun _ i _ => P - (intOf i).toNat)
  case atStart => exact ⟨0, Nat.zero_le _, rfl, fun j hj => absurd hj (by omega), World.ownsRow_nil _ _ _ _, R1, K1⟩
  case round =>
    obtain ⟨k, hk, rfl, HA, HO, HGR, HBx⟩ := hrel
    by_cases hlt : k < P
    · have g3 : decide ((k : Int) < (P : Int)) = true := by simp; omega
      obtain ⟨ra, nv, cv, hv⟩ := row_slice HO.out
      subst hv
      have hiN : H + k < S.n0 := by have := HN.out; omega
      have LG := load_geo HGR.out
      obtain ⟨hbb, hbl⟩ := HBY.out (H + k) hiN
      have HR0 : Hid (∀ x, Below w.heap.size w x → Calls Tryz.prog 33 #[.pointer (some ⟨rb, 0, none⟩), .int .i64 0, .int .i64 ((H : Int) + (k : Int))] x fun e w' => e = .returned (.tuple #[.agg (u8s (S.rd (H + k))).toArray, .int .i64 0]) ∧ Below x.heap.size x w') := fun x hx => by
        have := HRD.out x (H + k) hx hiN
        rwa [Int.natCast_add] at this
      have HSN := Lib.hid (homes_snoc S H k)
      have HHS := Lib.hid (homSct_same (bs := S.rd (H + k)) (i := k))
      have HDE : Hid (∀ y, Calls Tryz.prog 122 #[.agg (u8s (S.rd (H + k))).toArray] y fun e w' => e = .returned (.tuple #[.agg (decS (S.rd (H + k))).cells.toArray, .int .i64 (decE (S.rd (H + k)))]) ∧ Below y.heap.size y w') := fun y => pgDecode _ hbb hbl y
      have HPO := Lib.hid (decS_ok hbb hbl)
      have HOF : Hid (decOk (S.rd (H + k)) = true → decS (S.rd (H + k)) = Sct.of (S.rd (H + k))) := fun hd => if_pos hd
      have HPD : Hid (homP (S.rd (H + k)) k → decOk (S.rd (H + k)) = true) := fun h => h.1
      have HBL := Lib.hid hbl
      obtain ⟨bs, hbs⟩ : ∃ bs, S.rd (H + k) = bs := ⟨_, rfl⟩
      rw [hbs] at HR0 HSN HHS HDE HPO HOF HPD HBL
      have HBS := Lib.hid hbs
      obtain ⟨p, hp⟩ : ∃ p, decS bs = p := ⟨_, rfl⟩
      rw [hp] at HHS HDE HPO HOF
      obtain ⟨er, her⟩ : ∃ er, decE bs = er := ⟨_, rfl⟩
      rw [her] at HDE
      clear hbb hbl hiN hbs hp her
      go_wp2_with fail
      go_at_call 98
      refine (gmHome g HG.out wr).mono ?_
      rintro e x2 ⟨rfl, hb⟩
      rw [HH.out]
      have K2 := Lib.hid hb
      clear hb LG
      go_wp2_with fail
      go_at_call 33
      refine (HR0.out x2 (HBx.out.trans (K2.out.mono HBx.out.size))).mono ?_
      rintro e x3 ⟨rfl, hb⟩
      obtain ⟨x4, ST4, r4, hb4⟩ := new_blk x3 (isBlk_u8s HBL.out)
      have L4 := r4.blk (by rw [u8s_length]; exact HBL.out)
      have K4 : Hid (Below wr.heap.size wr x4) := K2.out.trans ((hb.trans (hb4.mono hb.size)).mono K2.out.size)
      clear hb hb4 r4
      go_wp2_with fail
      clear ST4
      go_at_call 122
      refine (HDE.out x4).mono ?_
      rintro e x5 ⟨rfl, hb⟩
      obtain ⟨x6, ST6, r6, hb6⟩ := new_pg x5 p HPO.out.len
      obtain ⟨Bp, hBp⟩ : ∃ b, x5.heap.size = b := ⟨_, rfl⟩
      rw [hBp] at ST6 r6
      have K6 : Hid (Below wr.heap.size wr x6) := K4.out.trans ((hb.trans (hb6.mono hb.size)).mono K4.out.size)
      have LPz : ∀ z : Ext x6, (loadVar 189 ⟨Bp, 0, none⟩).run Tryz.prog z.1 = .ok (.agg p.cells.toArray) z.1 := fun z => (r6.below z.2).pg HPO.out.len
      have LBz : ∀ z : Ext x6, (loadVar 112 ⟨Bp, 3, none⟩).run Tryz.prog z.1 = .ok (.agg (u8s p.body).toArray) z.1 := fun z => (r6.below z.2).bod HPO.out.len
      have LBy : ∀ y, Below x6.heap.size x6 y → (loadVar 112 ⟨Bp, 3, none⟩).run Tryz.prog y = .ok (.agg (u8s p.body).toArray) y := fun y hy => (r6.below hy).bod HPO.out.len
      have HLB := Lib.hid LBy
      have HHM := Lib.hid (fun z => mvHome (k : Int) HPO.out.len z)
      have hcs : (Value.int .u8 72 :: .int .u32 0 :: .int .i64 (k : Int) :: u8s p.body) = (homSct k p.body).cells := rfl
      rw [hcs] at HHM
      have EQ : Hid (∀ z : World, (Op.equalIn 10000 189 (.agg p.cells.toArray) (.agg (homSct k p.body).cells.toArray)).run Tryz.prog z = .ok (sameS p (homSct k p.body)) z) := fun z => eq_sec (p := p) (q := homSct k p.body) HPO.out.len HPO.out.len z
      obtain ⟨b, hbb⟩ : ∃ b, sameS p (homSct k p.body) = b := ⟨_, rfl⟩
      rw [hbb] at EQ HHS
      obtain ⟨hc, hhc⟩ : ∃ c, (homSct k p.body).cells.toArray = c := ⟨_, rfl⟩
      rw [hhc] at EQ HHM
      obtain ⟨pc, hpc⟩ : ∃ c, p.cells.toArray = c := ⟨_, rfl⟩
      rw [hpc] at EQ LPz ST6
      have HPB : Hid ((u8s p.body).length = 48) := by show _ = _; rw [u8s_length]; exact HPO.out.len
      clear hb hb6 r6 L4 LBy hcs hbb hhc
      rw [hpc]
      clear hpc
      go_wp2_with fail
      clear ST6 hBp
      refine region_plan (fun x => ∃ y : Ext x6, x = y.1) 5 (.takes [0, 1, 2, 3] (.one 4 .leaf)) hmx (by kernel_rfl) (by intro c x v a w h; cases x <;> exact h) ⟨⟨x6.drew, (Below.refl _ x6).drew⟩, rfl⟩ ?_
      repeat (rw [wpPlan_takes_cons]; simp only [nth_zero, nth_succ]; go_big_quiet_step (fail); refine wpQuiet_nil ?_)
      rw [wpPlan_takes_nil, wpPlan_one]
      simp only [nth_zero, nth_succ]
      clear LPz LBz
      go_wp2_with fail
      go_at_call 100
      refine (HHM.out _).mono ?_
      rintro e x7 ⟨rfl, hb⟩
      have K7 : Hid (Below x6.heap.size x6 x7) := ((Below.refl _ x6).drew).trans hb
      have K7' : Hid (Below wr.heap.size wr x7) := K6.out.trans (K7.out.mono K6.out.size)
      clear hb
      go_wp2_with fail
      refine planPost_mk ⟨⟨x7, K7.out⟩, rfl⟩ ?_
      rw [wpPlan_leaf]
      simp only [List.drop_succ_cons, List.drop_zero]
      have EQ7 := EQ.out x7
      cases b with
      | true =>
        have hPk : homP bs k := HHS.out.1 rfl
        have HA' : Hid (∀ j, j < k + 1 → homP (S.rd (H + j)) j) := fun j hj => by
          rcases Nat.lt_succ_iff_lt_or_eq.1 hj with h | rfl
          · exact HA.out j h
          · rw [HBS.out]; exact hPk
        have hpo : p = Sct.of bs := HOF.out (HPD.out hPk)
        have LB := HLB.out x7 K7.out
        obtain ⟨x8, hx8⟩ : ∃ y, x7.alloc (.cells (u8s p.body).toArray 112) = y := ⟨_, rfl⟩
        have SB : (Instr.buildSlice 50 1 #[(0, .agg (u8s p.body).toArray)]).run Tryz.prog x7 = .ok (.slice (some ⟨x7.heap.size, 0, none⟩) 1 1) x8 := by rw [← hx8]; exact slice_bod x7 _ HPB.out
        have b8 : Below x7.heap.size x7 x8 := by rw [← hx8]; exact below_new x7 _
        have K8 : Hid (Below wr.heap.size wr x8) := K7'.out.trans (b8.mono K7'.out.size)
        have O8 := own_belowT HO.out K8.out
        have B8 := HBx.out.trans (K8.out.mono HBx.out.size)
        obtain ⟨v9, x9, r9, o9, g9, -⟩ := append_bod w.heap.size x8 (.slice ra nv cv) ((S.homes H k).map u8s) (u8s p.body) x7.heap.size O8 HPB.out (u8s_one _) (row_range (t := 112) (by rw [← hx8]; exact heap_alloc_new x7 _)) (by rw [List.length_map, homes_length]; omega) B8.size
        have e9 : (S.homes H k).map u8s ++ [u8s p.body] = (S.homes H (k + 1)).map u8s := by rw [HSN.out, List.map_append, hpo]; rfl
        rw [e9] at o9
        have R9 := Lib.hid r9
        have O9 := Lib.hid o9
        have B9 : Hid (Below w.heap.size w x9) := B8.grown g9 B8.size (fun j e => (O8.lt j e).1)
        have G8 := HGR.out.below K8.out
        have G9 : Hid (RowC x9 B 23 g.cs) := G8.grown g9 (row_ne O8 G8 (by decide))
        obtain ⟨pb, hpb⟩ : ∃ b, (u8s p.body).toArray = b := ⟨_, rfl⟩
        rw [hpb] at LB SB
        clear hPk hpo hx8 b8 O8 B8 r9 o9 g9 e9 G8 hpb
        go_wp2_with (first | ((with_reducible refine gate_build ?_); refine wpList_build_run _ _ _ rfl rfl [(0, .agg pb)] _ rfl SB ?_) | (at_builtin; refine wpList_append_run (.tmp 40) (.tmp 43) 50 rfl rfl _ _ _ rfl rfl R9.out ?_))
        go_roundw
        case rel => exact ⟨k + 1, hlt, by go_num, HA', O9, G9, B9⟩
        case measure => simp [intOf]; omega
      | false =>
        have HNO : Hid (¬ ∀ i, i < P → homP (S.rd (H + i)) i) := fun h => by
          have := h k hlt
          rw [HBS.out] at this
          have := HHS.out.2 this
          cases this
        have B7 : Hid (Below w.heap.size w x7) := HBx.out.trans (K7'.out.mono HBx.out.size)
        go_wp2_with fail
        go_ret2
        exact ⟨.inr ⟨HNO.out, rfl⟩, B7.out⟩
    · have g3 : decide ((k : Int) < (P : Int)) = false := by simp; omega
      obtain rfl : k = P := by omega
      have HO' : Hid (wr.ownsRow w.heap.size 112 48 u6 k ((S.homes H k).map u8s).flatten) := by
        have := HO.out
        rw [List.length_map, homes_length] at this
        exact this
      go_wp2_with fail
      go_ret2
      exact ⟨.inl ⟨HA.out, _, rfl, HO'.out⟩, HBx.out⟩
end
end Go.Proofs.YtbdfllamhcodjaaGreat

/- The developers' Meta in memory; Bytes, Room, Geom. -/
namespace Go.Proofs.YtbdfllamhcodjaaGreat
open Go.RowKit Go.Shelf
set_option linter.unusedVariables false
attribute [-simp] Tryz.isAgg60 Tryz.zeroValue60 Tryz.isAgg112 Tryz.zeroValue112 Tryz.isAgg189 Tryz.zeroValue189 Tryz.isAgg133 Tryz.zeroValue133 Tryz.isAgg114 Tryz.zeroValue114 Tryz.isAgg105 Tryz.zeroValue105
attribute [-go_sem] loadVar storeVar run_equalIn_agg
attribute [local go_sem] zero_blk build_blk zero_bod zero_pg build_pg build_pg0 build_pg2 zero_imgD zero_wr zero_sup loadVar_openV storeVar_openV

/-- A Meta's cells. -/
def mtC (rb : Nat) (bv hv : Value) (gen : Int) (g : Geo) (a q wh at0 sq room : Int) : List Value := [.pointer (some ⟨rb, 0, none⟩), bv, hv] ++ supC gen g a q ++ [.int .i64 wh, .int .i64 at0, .int .u32 sq, .int .i64 room]
/-- What a Meta occupies. -/
structure MemAt (m rb Bb cb Bh ch : Nat) (a q : Int) (M : MS) (w : World) : Prop where
  row : RowC w m 120 (mtC rb (.slice (some ⟨Bb, 0, none⟩) M.b.length cb) (.slice (some ⟨Bh, 0, none⟩) M.home.length ch) M.gen M.g a q M.sup M.at0 M.seq M.room)
  mb : m ≠ Bb
  mh : m ≠ Bh
  bh : Bb ≠ Bh
  b0 : 0 < M.b.length
  h0 : 0 < M.home.length
  cbl : M.b.length ≤ cb ∧ cb ≤ maxLen
  cb' : ∃ cur t, w.heap[Bb]? = some (.cells cur t (0, 0))
  bat : w.rangeAt Bb 0 (u8s M.b)
  ch' : ∃ cur t, w.heap[Bh]? = some (.cells cur t (0, 0))
  hat : w.rangeAt Bh 0 (M.home.map u8s).flatten
def MemX (m rb : Nat) (M : MS) : Res := fun w f => ∃ Bb cb Bh ch a q, MemAt m rb Bb cb Bh ch a q M w ∧ f = fun k => k = m ∨ k = Bb ∨ k = Bh
theorem MemAt.keep {m rb Bb cb Bh ch : Nat} {a q : Int} {M : MS} {w w' : World} (h : MemAt m rb Bb cb Bh ch a q M w) (hm : w'.heap[m]? = w.heap[m]?) (hb : w'.heap[Bb]? = w.heap[Bb]?) (hh : w'.heap[Bh]? = w.heap[Bh]?) : MemAt m rb Bb cb Bh ch a q M w' :=
  ⟨hm.trans h.row, h.mb, h.mh, h.bh, h.b0, h.h0, h.cbl, by obtain ⟨c, t, e⟩ := h.cb'; exact ⟨c, t, hb.trans e⟩, rangeAt_same h.bat hb, by obtain ⟨c, t, e⟩ := h.ch'; exact ⟨c, t, hh.trans e⟩, rangeAt_same h.hat hh⟩
theorem MemX.isRes (m rb : Nat) (M : MS) : IsRes (MemX m rb M) where
  out := by
    rintro w w' f ⟨Bb, cb, Bh, ch, a, q, h, rfl⟩ hk
    exact ⟨Bb, cb, Bh, ch, a, q, h.keep (hk m (.inl rfl)) (hk Bb (.inr (.inl rfl))) (hk Bh (.inr (.inr rfl))), rfl⟩
  lt := by
    rintro w f ⟨Bb, cb, Bh, ch, a, q, h, rfl⟩ k hk
    rcases hk with rfl | rfl | rfl
    · exact h.row.lt
    · obtain ⟨c, t, e⟩ := h.cb'; exact (Array.getElem?_eq_some_iff.1 e).1
    · obtain ⟨c, t, e⟩ := h.ch'; exact (Array.getElem?_eq_some_iff.1 e).1
  cells := by
    rintro w f ⟨Bb, cb, Bh, ch, a, q, h, rfl⟩ k hk ob ho
    rcases hk with rfl | rfl | rfl
    · rw [show w.heap[k]? = _ from h.row] at ho; cases ho; rfl
    · obtain ⟨c, t, e⟩ := h.cb'; rw [e] at ho; cases ho; rfl
    · obtain ⟨c, t, e⟩ := h.ch'; rw [e] at ho; cases ho; rfl
/-- The developers' Meta, as a resource. -/
def theRes : MetaRes := ⟨MemX, MemX.isRes⟩
section
variable {m rb Bb cb Bh ch : Nat} {a q : Int} {M : MS} {w w' : World}
theorem MemAt.lt (h : MemAt m rb Bb cb Bh ch a q M w) : m < w.heap.size ∧ Bb < w.heap.size ∧ Bh < w.heap.size :=
  ⟨h.row.lt, by obtain ⟨c, t, e⟩ := h.cb'; exact (Array.getElem?_eq_some_iff.1 e).1, by obtain ⟨c, t, e⟩ := h.ch'; exact (Array.getElem?_eq_some_iff.1 e).1⟩
theorem MemAt.below (h : MemAt m rb Bb cb Bh ch a q M w) (hb : Below w.heap.size w w') : MemAt m rb Bb cb Bh ch a q M w' := h.keep (hb.block _ h.lt.1) (hb.block _ h.lt.2.1) (hb.block _ h.lt.2.2)
theorem MemAt.sl (h : MemAt m rb Bb cb Bh ch a q M w) : Sl .u8 w (.slice (some ⟨Bb, 0, none⟩) M.b.length cb) M.b :=
  Sl.at (off := 0) h.cbl.1 h.cbl.2 h.lt.2.1 fun j hj => by
    rw [h.bat j (.int .u8 M.b[j]) (by simp [u8s, hj])]
    simp [hj]
theorem MemAt.pgs (h : MemAt m rb Bb cb Bh ch a q M w) (hl : ∀ x ∈ M.home, x.length = 48) (hf : M.home.length ≤ 1000) : PgsR w (.slice (some ⟨Bh, 0, none⟩) M.home.length ch) Bh M.home := ⟨⟨_, _, rfl, fun _ => rfl⟩, h.lt.2.2, h.hat, hl, hf⟩
end
section
set_option maxRecDepth 100000
set_option maxRecDepth 100000 in
theorem size_geoM : (Tryz.prog.info? 23).map (·.size) = some 5 := by kernel_rfl
set_option maxRecDepth 100000 in
theorem zero_geoM (w : World) : (zeroValue 23).run Tryz.prog w = .ok (.agg (Geo.mk 0 0 0 0 0).v) w := by kernel_rfl
set_option maxRecDepth 100000 in
theorem build_geoM (w : World) : (Instr.build 23 #[]).run Tryz.prog w = .ok (.agg (Geo.mk 0 0 0 0 0).v) w := by kernel_rfl
theorem Geo.cs_one (g : Geo) : ∀ v ∈ g.cs, v.oneCell' = true := by
  intro v hv
  simp only [Geo.cs, List.mem_cons, List.not_mem_nil, or_false] at hv
  rcases hv with rfl | rfl | rfl | rfl | rfl <;> rfl
set_option maxRecDepth 100000 in
theorem store_rowGeo {x : World} {B : Nat} {old : List Value} {g : Geo} (h : RowC x B 23 old) (ho : old.length = 5) :
    ∃ y, (storeVar 23 ⟨B, 0, none⟩ (.agg g.v)).run Tryz.prog x = .ok () y ∧ RowC y B 23 g.cs ∧ x.grownBy y (some B) := by
  refine ⟨_, run_storeVar_row x B _ _ old.toArray g.cs.toArray h (by simpa [Geo.cs] using size_geoM) (by simp [ho, Geo.cs]) (all_oneCell_toArray g.cs_one), setRow_heap x B _ _ _ _ h, ?_⟩
  exact ⟨rfl, rfl, rfl, by rw [setRow_size]; exact Nat.le_refl _, fun k _ hk => setRow_other x B k _ (fun e => hk (by rw [e]))⟩
set_option maxRecDepth 100000 in
theorem new_geoM (x : World) (g : Geo) : ∃ y, (storeVar 23 ⟨x.heap.size, 0, none⟩ (.agg g.v)).run Tryz.prog (x.alloc (.cells (Geo.mk 0 0 0 0 0).v 23)) = .ok () y ∧ RowC y x.heap.size 23 g.cs ∧ Below x.heap.size x y :=
  ⟨_, run_storeVar_new x _ _ g.cs.toArray size_geoM rfl (all_oneCell_toArray g.cs_one), RowC.new x _ _, below_new x _⟩
set_option maxRecDepth 100000 in
theorem RowC.geoAt {x : World} {B : Nat} {t : TypeId} {C pre post : List Value} {g : Geo} (h : RowC x B t C) (e : C = pre ++ (g.cs ++ post)) : (loadVar 23 ⟨B, pre.length, none⟩).run Tryz.prog x = .ok (.agg g.v) x :=
  load_geoV fun j v hj => h.range (pre.length + j) v (by
    have hjl : j < g.cs.length := (List.getElem?_eq_some_iff.1 hj).1
    rw [e, List.getElem?_append_right (by omega), Nat.add_sub_cancel_left, List.getElem?_append_left hjl]; exact hj) |> fun h => by rwa [Nat.zero_add] at h
end
end Go.Proofs.YtbdfllamhcodjaaGreat

/- The developers' Bytes, Room, Geom; fits on a rig. -/
namespace Go.Proofs.YtbdfllamhcodjaaGreat
open Go.RowKit Go.Shelf
set_option linter.unusedVariables false
attribute [-simp] Tryz.isAgg60 Tryz.zeroValue60 Tryz.isAgg112 Tryz.zeroValue112 Tryz.isAgg189 Tryz.zeroValue189 Tryz.isAgg133 Tryz.zeroValue133 Tryz.isAgg114 Tryz.zeroValue114 Tryz.isAgg105 Tryz.zeroValue105 Tryz.isAgg23 Tryz.zeroValue23
attribute [-go_sem] loadVar storeVar run_equalIn_agg
attribute [local go_sem] zero_blk build_blk zero_bod zero_pg build_pg build_pg0 build_pg2 zero_imgD zero_wr zero_sup zero_geoM build_geoM loadVar_openV storeVar_openV

section
set_option maxRecDepth 100000
set_option maxHeartbeats 2000000
set_option maxRecDepth 100000 in
theorem mvRoom {m rb : Nat} {M : MS} {w : World} {f : Nat → Prop} (h : MemX m rb M w f) : Calls Tryz.prog 30 #[.pointer (some ⟨m, 0, none⟩)] w fun e w' => e = .returned (.int .i64 M.room) ∧ Below w.heap.size w w' := by
  obtain ⟨Bb, cb, Bh, ch, a, q, h, rfl⟩ := h
  have c0 : w.cell? ⟨m, 14, none⟩ = some (.int .i64 M.room) := h.row.cell 14 _ rfl
  clear h
  go_enter Tryz.func30, Tryz.ntmps30
  go_wp2_with fail
  go_ret
  exact ⟨rfl, Below.refl _ _⟩
set_option maxRecDepth 100000 in
theorem mvRoom_nil (w : World) : Calls Tryz.prog 30 #[.pointer none] w fun e w' => e = .returned (.int .i64 0) ∧ Below w.heap.size w w' := by
  go_enter Tryz.func30, Tryz.ntmps30
  go_wp2_with fail
  go_ret
  exact ⟨rfl, Below.refl _ _⟩
set_option maxRecDepth 100000 in
theorem mvBytes {m rb : Nat} {M : MS} {w : World} {f : Nat → Prop} (h : MemX m rb M w f) (hl : M.b.length ≤ 100000) : Calls Tryz.prog 29 #[.pointer (some ⟨m, 0, none⟩)] w fun e w' => ∃ v, e = .returned v ∧ Sl .u8 w' v M.b ∧ Fresh v w w' ∧ Below w.heap.size w w' := by
  obtain ⟨Bb, cb, Bh, ch, a, q, h, rfl⟩ := h
  have c0 : w.cell? ⟨m, 1, none⟩ = some (.slice (some ⟨Bb, 0, none⟩) M.b.length cb) := h.row.cell 1 _ rfl
  have HC := Lib.hid (cloneBytes w h.sl (fun e => by have := h.b0; rw [e] at this; simp at this) (by omega))
  clear h
  go_enter Tryz.func29, Tryz.ntmps29
  go_wp2_with fail
  go_at_call 55
  refine HC.out.mono ?_
  rintro e x ⟨v, rfl, hO, hb⟩
  have HO := Lib.hid hO
  have HB := Lib.hid hb
  clear hO hb
  go_wp2_with fail
  go_ret
  exact ⟨v, rfl, Sl.of_owns HO.out, fun b off len cap e => (HO.out.lt b (by rw [e]; rfl)).1, HB.out⟩
set_option maxRecDepth 100000 in
theorem mvBytes_nil (w : World) : Calls Tryz.prog 29 #[.pointer none] w fun e w' => ∃ v, e = .returned v ∧ Sl .u8 w' v [] ∧ Below w.heap.size w w' := by
  go_enter Tryz.func29, Tryz.ntmps29
  go_wp2_with fail
  go_ret
  exact ⟨_, rfl, Sl.nil _ _, Below.refl _ _⟩
set_option maxRecDepth 100000 in
theorem mvGeom {m rb : Nat} {M : MS} {w : World} {f : Nat → Prop} (h : MemX m rb M w f) : Calls Tryz.prog 32 #[.pointer (some ⟨m, 0, none⟩)] w fun e w' => e = .returned (.agg M.g.v) ∧ Below w.heap.size w w' := by
  obtain ⟨Bb, cb, Bh, ch, a, q, h, rfl⟩ := h
  obtain ⟨W, hW⟩ : ∃ W, w.alloc (.cells (Geo.mk 0 0 0 0 0).v 23) = W := ⟨_, rfl⟩
  have b1 : Below w.heap.size w W := by rw [← hW]; exact below_new w _
  have r1 : RowC W w.heap.size 23 (Geo.mk 0 0 0 0 0).cs := by rw [← hW]; exact RowC.new w _ _
  have L0 := (h.row.below b1).geoAt (g := M.g) (pre := [.pointer (some ⟨rb, 0, none⟩), .slice (some ⟨Bb, 0, none⟩) M.b.length cb, .slice (some ⟨Bh, 0, none⟩) M.home.length ch, .int .u32 M.gen]) (post := [.int .i64 a, .int .u32 q, .int .i64 M.sup, .int .i64 M.at0, .int .u32 M.seq, .int .i64 M.room]) rfl
  have L0' : (loadVar 23 ⟨m, 4, none⟩).run Tryz.prog W = .ok (.agg M.g.v) W := L0
  obtain ⟨y, ST, ry, gy⟩ := store_rowGeo (g := M.g) r1 rfl
  have LD := Lib.hid (load_geo ry)
  have HB : Hid (Below w.heap.size w y) := b1.grown gy b1.size (fun k e => by cases e; exact Nat.le_refl _)
  obtain ⟨B, hB⟩ : ∃ B, w.heap.size = B := ⟨_, rfl⟩
  rw [hB] at ST LD
  clear h b1 r1 L0 ry gy
  go_enter Tryz.func32, Tryz.ntmps32
  go_wp2_with fail
  exact bodyPost_ret (results_cell rfl rfl LD.out) rfl ⟨rfl, HB.out⟩
set_option maxRecDepth 100000 in
theorem mvGeom_nil (w : World) : Calls Tryz.prog 32 #[.pointer none] w fun e w' => e = .returned (.agg (Geo.mk 0 0 0 0 0).v) ∧ Below w.heap.size w w' := by
  obtain ⟨W, hW⟩ : ∃ W, w.alloc (.cells (Geo.mk 0 0 0 0 0).v 23) = W := ⟨_, rfl⟩
  have b1 : Below w.heap.size w W := by rw [← hW]; exact below_new w _
  have r1 : RowC W w.heap.size 23 (Geo.mk 0 0 0 0 0).cs := by rw [← hW]; exact RowC.new w _ _
  obtain ⟨y, ST, ry, gy⟩ := store_rowGeo (g := Geo.mk 0 0 0 0 0) r1 rfl
  have LD := Lib.hid (load_geo ry)
  have HB : Hid (Below w.heap.size w y) := b1.grown gy b1.size (fun k e => by cases e; exact Nat.le_refl _)
  obtain ⟨B, hB⟩ : ∃ B, w.heap.size = B := ⟨_, rfl⟩
  rw [hB] at ST LD
  clear b1 r1 ry gy
  go_enter Tryz.func32, Tryz.ntmps32
  go_wp2_with fail
  exact bodyPost_ret (results_cell rfl rfl LD.out) rfl ⟨rfl, HB.out⟩
set_option maxRecDepth 100000 in
theorem RigR.fits {rb p0 p1 : Nat} {S : RS} {w : World} {f : Nat → Prop} (h : RigR rb p0 p1 S w f) (g : Geo) (hg : g.In) : Calls Tryz.prog 46 #[.pointer (some ⟨rb, 0, none⟩), .agg g.v] w fun e w' => e = .returned (.bool (decide (g.fitsR S.n0 S.n1))) ∧ Below w.heap.size w w' :=
  mvFits g hg w (fun x hx => (h.beside hx).len 0) (fun x hx => (h.beside hx).len 1)
end
end Go.Proofs.YtbdfllamhcodjaaGreat

/- What a Meta that may be asked holds: its batches. No program. -/
namespace Go.Proofs.YtbdfllamhcodjaaGreat
open Go.RowKit
set_option linter.unusedVariables false

theorem Geo.goodIn {g : Geo} (h : g.good) : g.In := by
  obtain ⟨⟨h1, h2, h3, h4, h5, h6, h7, h8⟩, h9, h10⟩ := h
  have hb := Geo.bounds ⟨h1, h2, h3, h4, h5, h6, h7, h8⟩
  intro n hn
  simp only [List.mem_cons, List.not_mem_nil, or_false] at hn
  rcases hn with rfl | rfl | rfl | rfl | rfl <;> omega
theorem Geo.goodNums {g : Geo} (h : g.good) : g.oH = (g.H : Int) ∧ g.oP = (g.P : Int) ∧ g.oR = ((2 : Nat) : Int) ∧ g.oB = g.bts ∧ g.r = (g.C : Int) := by
  have hN := Geo.nats h
  refine ⟨?_, ?_, ?_, ?_, hN.c.symm⟩
  · unfold Geo.oH Geo.H; rw [if_pos h]; have := hN.c; omega
  · unfold Geo.oP; rw [if_pos h]; exact hN.p.symm
  · unfold Geo.oR; rw [if_pos h]; rfl
  · unfold Geo.oB; rw [if_pos h]
theorem Geo.supIn {g : Geo} (h : g.good) {gen a q : Int} (h1 : IsSeq gen) (h2 : 0 ≤ a ∧ a < g.r) (h3 : IsSeq q) : SupIn gen g a q := by
  obtain ⟨⟨g1, g2, g3, g4, g5, g6, g7, g8⟩, h9, h10⟩ := h
  have hb := Geo.bounds ⟨g1, g2, g3, g4, g5, g6, g7, g8⟩
  exact ⟨h1, by omega, by omega, by omega, by omega, by omega, by omega, h3⟩
section
variable {S : RS} {M : MS} {b : List Int}
theorem MS.Ok.pcs (h : M.Ok S) : nPcs M.b = M.g.P := by unfold nPcs; rw [h.len, (Geo.nats h.good).bp]
theorem MS.Ok.pcs' (h : M.Ok S) (hl : b.length = M.b.length) : nPcs b = M.g.P := by unfold nPcs; rw [hl, h.len, (Geo.nats h.good).bp]
theorem MS.Ok.room (h : M.Ok S) : 2 + M.g.C + M.g.P < S.n0 := by
  have hN := Geo.nats h.good
  have := h.n0
  have := hN.f
  have := hN.s1
  omega
theorem MS.Ok.homB (h : M.Ok S) : (∀ x ∈ M.homW, x.1 < S.n0) ∧ (M.homW.map (·.1)).Nodup ∧ (∀ x ∈ M.homW, IsBlk x.2) ∧ M.homW.length ≤ 15 := by
  have hr := h.room
  refine ⟨fun x hx => ?_, ?_, fun x hx => ?_, ?_⟩
  · obtain ⟨j, hj, e, _⟩ := homW_mem (i := x.1) (v := x.2) hx
    rw [e]
    unfold Geo.H
    omega
  · unfold MS.homW
    rw [List.map_map]
    refine List.pairwise_map.2 ((List.nodup_range.filter _).imp fun {i j} hne e => hne ?_)
    have e : M.g.H + i = M.g.H + j := e
    omega
  · obtain ⟨j, hj, _, _, e⟩ := homW_mem (i := x.1) (v := x.2) hx
    rw [e]
    exact isBlk_u8s (Sct.bytes_length (homSct_ok (piece_length _ _) (piece_bytes h.bytes j)))
  · unfold MS.homW
    rw [List.length_map]
    have := (Geo.nats h.good).p2
    exact Nat.le_trans (List.length_filter_le _ _) (by simpa using this)
theorem MS.Ok.supB (h : M.Ok S) : (∀ x ∈ M.supW, x.1 < S.n0) ∧ (M.supW.map (·.1)).Nodup ∧ (∀ x ∈ M.supW, IsBlk x.2) ∧ M.supW.length = 1 := by
  have hr := h.room
  have hg := h.gen
  refine ⟨fun x hx => ?_, by simp [MS.supW], fun x hx => ?_, rfl⟩
  · rw [List.mem_singleton.1 hx]
    show 1 - M.sup < _
    omega
  · rw [List.mem_singleton.1 hx]
    exact isBlk_u8s (Sct.bytes_length (supSct_ok ⟨by omega, by omega⟩ _ _ _))
theorem MS.Ok.txn (h : M.Ok S) (hl : b.length = M.b.length) (hb : IsBytes b) (hd : M.dif b ≠ []) : TxnOk M.g.C (M.dif b) := by
  have hN := Geo.nats h.good
  have hp : nPcs b = M.g.P := h.pcs' hl
  have hle : (M.dif b).length ≤ M.g.P := by
    have := difL_length (cutL M.b) (cutL b)
    rwa [cutL_length b, hp] at this
  have hx : ∀ x ∈ M.dif b, ∃ i : Nat, i < M.g.P ∧ x = ⟨(i : Int), piece b i⟩ := fun x hx => by
    obtain ⟨i, rfl, hi, _⟩ := difL_idx _ _ x hx
    rw [cutL_length, hp] at hi
    refine ⟨i, hi, ?_⟩
    rw [cutL_get b (by rw [hp]; exact hi)]
    rfl
  refine ⟨?_, by have := hN.c1; omega, fun x hxm => ?_, fun x hxm => ?_⟩
  · rcases Nat.eq_zero_or_pos (M.dif b).length with h0 | h0
    · exact absurd (List.eq_nil_of_length_eq_zero h0) hd
    · exact h0
  · obtain ⟨i, hi, rfl⟩ := hx x hxm
    exact ⟨piece_length _ _, piece_bytes hb i⟩
  · obtain ⟨i, hi, rfl⟩ := hx x hxm
    have := hN.p2
    exact ⟨Int.natCast_nonneg i, by show (i : Int) ≤ 65535; omega⟩
end
/-- A batch written and flushed: the rig behind it. -/
theorem RS.Rdy.st {S : RS} {l : Wrs} {m d : Nat} (hf : S.Few m) (hd : 0 ≤ S.done ∧ S.done ≤ 500000 + d) (hfu : S.fuse ≤ 1000000) (hm : m ≤ 200) (hin : ∀ x ∈ l, x.1 < S.n0) (hnd : (l.map (·.1)).Nodup) :
    (S.st l).1.n0 = S.n0 ∧ (S.st l).1.Few (m + 1) ∧ (0 ≤ (S.st l).1.done ∧ (S.st l).1.done ≤ 500000 + (d + l.length + 1 : Nat)) ∧ (S.st l).1.fuse ≤ 1000000 ∧ ((S.st l).2 = 0 ∨ (S.st l).2 = 14) := by
  obtain ⟨h1, h2, h3, h4, h5, h6⟩ := RS.st_spec hin hnd hf (by omega)
  exact ⟨h1, h5, ⟨by omega, by omega⟩, by omega, h6⟩
end Go.Proofs.YtbdfllamhcodjaaGreat

/- The developers' checkpoint. -/
namespace Go.Proofs.YtbdfllamhcodjaaGreat
open Go.RowKit Go.Shelf
set_option linter.unusedVariables false
attribute [-simp] Tryz.isAgg60 Tryz.zeroValue60 Tryz.isAgg112 Tryz.zeroValue112 Tryz.isAgg189 Tryz.zeroValue189 Tryz.isAgg133 Tryz.zeroValue133 Tryz.isAgg114 Tryz.zeroValue114 Tryz.isAgg105 Tryz.zeroValue105 Tryz.isAgg23 Tryz.zeroValue23
attribute [-go_sem] loadVar storeVar run_equalIn_agg
attribute [local go_sem] zero_blk build_blk zero_bod zero_pg build_pg build_pg0 build_pg2 zero_imgD zero_wr zero_sup zero_geoM build_geoM loadVar_openV storeVar_openV

/-- Cells laid into a row. -/
def setL (C : List Value) : Nat → List Value → List Value
  | _, [] => C
  | o, v :: r => setL (C.set o v) (o + 1) r
theorem RowC.sets {B : Nat} {t : TypeId} : ∀ (u : List Value) (o : Nat) {C : List Value} {x : World}, RowC x B t C → RowC (x.setCells B o u) B t (setL C o u)
  | [], _, _, _, h => h
  | v :: r, o, C, x, h => RowC.sets r (o + 1) (h.set o v)
theorem turn_setCells {f : Nat → Prop} {B : Nat} (hB : f B) : ∀ (u : List Value) (o : Nat) (w : World), Turn f f w (w.setCells B o u)
  | [], _, w => Turn.refl f w
  | v :: r, o, w => (turn_setCell w B o v hB).trans (turn_setCells hB r (o + 1) _)
theorem Turn.frame {f g : Nat → Prop} {w w' : World} (h : Turn f g w w') (F : Nat → Prop) : Turn (fun k => f k ∨ F k) (fun k => g k ∨ F k) w w' :=
  ⟨h.still, h.others, fun k hk hn => h.out k hk (fun hf => hn (.inl hf)), fun k hk => hk.elim (fun hg => (h.new k hg).imp .inl id) (fun hF => .inl (.inr hF))⟩
theorem Turn.less {f g g' : Nat → Prop} {w w' : World} (h : Turn f g w w') (hg : ∀ k, g' k → g k ∨ w.heap.size ≤ k) : Turn f g' w w' :=
  ⟨h.still, h.others, h.out, fun k hk => (hg k hk).elim (h.new k) .inr⟩
theorem PgsR.of_owns {x : World} {N n : Nat} {v : Value} {now : List (List Int)} (h : x.ownsRow N 112 48 v n (now.map u8s).flatten) (hn : now.length = n) (h0 : 0 < n) (hl : ∀ y ∈ now, y.length = 48) (hf : n ≤ 1000) :
    ∃ g c cur, v = .slice (some ⟨g, 0, none⟩) n c ∧ PgsR x v g now ∧ N ≤ g ∧ x.heap[g]? = some (.cells cur 112 (0, 0)) := by
  rcases h.2 with ⟨rfl, h'⟩ | ⟨g, cap, cur, rfl, h1, h2, h3, h4, h5, h6⟩
  · omega
  · refine ⟨g, cap, cur, rfl, ⟨⟨_, _, by rw [hn], fun _ => rfl⟩, (Array.getElem?_eq_some_iff.1 h2).1, fun j u hj => ?_, hl, by omega⟩, h1, h2⟩
    have := h.cells (g := g) rfl j u hj
    rwa [Addr.add_mid] at this
set_option maxRecDepth 100000 in
theorem cutP {v : Value} {bs : List Int} (w : World) (hv : Sl .u8 w v bs) (hb : IsBytes bs) (hl : bs.length ≤ 10000) (h0 : 0 < nPcs bs) :
    Calls Tryz.prog 48 #[v] w fun e w' => ∃ g c cur, e = .returned (.slice (some ⟨g, 0, none⟩) (nPcs bs) c) ∧ PgsR w' (.slice (some ⟨g, 0, none⟩) (nPcs bs) c) g (cutL bs) ∧ w.heap.size ≤ g ∧ w'.heap[g]? = some (.cells cur 112 (0, 0)) ∧ Below w.heap.size w w' := by
  refine (pgCut v bs w hv (by omega)).mono ?_
  rintro e w' ⟨v', rfl, hO, hB⟩
  rw [rows_cut] at hO
  obtain ⟨g, c, cur, rfl, h1, h2, h3⟩ := PgsR.of_owns hO (cutL_len bs) h0 (fun y hy => (cutL_ok hb y hy).1) (by unfold nPcs; omega)
  exact ⟨g, c, cur, rfl, h1, h2, h3, hB⟩
set_option maxRecDepth 100000 in
theorem load_spot {w : World} {b o : Nat} {a q : Int} (hc : w.rangeAt b o [.int .i64 a, .int .u32 q]) : (loadVar 103 ⟨b, o, none⟩).run Tryz.prog w = .ok (.agg #[.int .i64 a, .int .u32 q]) w :=
  run_loadVar_mid w b o _ _ _ hc Tryz.underlying103 rfl (by kernel_rfl)
/-- Two blocks are as they were. -/
def KeepSG (B C : Nat) (W : World) : Type := { x : World // x.heap[B]? = W.heap[B]? ∧ x.heap[C]? = W.heap[C]? }
instance (B C : Nat) (W : World) : Nonempty (KeepSG B C W) := ⟨⟨W, rfl, rfl⟩⟩
section
set_option maxRecDepth 100000
set_option maxHeartbeats 20000000
set_option maxRecDepth 100000 in
/-- **checkpoint**. -/
theorem mvCheckpoint {rb p0 p1 m : Nat} {S : RS} {M : MS} {w : World} {f : Nat → Prop} (h : Sep (RigR rb p0 p1 S) (MemX m rb M) w f) (hr : S.Rdy) (hok : M.Ok S) :
    Calls Tryz.prog 65 #[.pointer (some ⟨m, 0, none⟩)] w fun e w' => e = .returned (.int .i64 (S.bat [M.homW, M.supW]).2) ∧ ∃ f', (if (S.bat [M.homW, M.supW]).2 = 0 then Sep (RigR rb p0 p1 (S.bat [M.homW, M.supW]).1) (MemX m rb M.ckpt) else RigR rb p0 p1 (S.bat [M.homW, M.supW]).1) w' f' ∧ Turn f f' w w' := by
  obtain ⟨f1, f2, hR, ⟨Bb, cb, Bh, ch, a, q, hM, rfl⟩, hD, rfl⟩ := h
  have hN := Geo.nats hok.good
  obtain ⟨nH, nP, nR, nB, nC⟩ := Geo.goodNums hok.good
  have hgi := Geo.goodIn hok.good
  have hpc := hok.pcs
  obtain ⟨hm1, hm2, hm3, hm4⟩ := hok.homB
  obtain ⟨hs1, hs2, hs3, hs4⟩ := hok.supB
  obtain ⟨k1, k2, k3, k4, k5⟩ := RS.Rdy.st (m := 100) (d := 0) (l := M.homW) hr.few ⟨hr.d0, by have := hr.d1; omega⟩ hr.fu (by omega) hm1 hm2
  have HOM : Hid (∀ (x : World) (f' : Nat → Prop) (v : Value) (N : Nat), RigR rb p0 p1 S x f' → x.ownsRow N 114 65 v (wrR M.homW).length (wrR M.homW).flatten → (∀ g, v.ownBlock = some g → ¬ f' g) →
      Calls Tryz.prog 54 #[.pointer (some ⟨rb, 0, none⟩), v] x fun e w' => e = .returned (.int .i64 (S.st M.homW).2) ∧ ∃ f'', RigR rb p0 p1 (S.st M.homW).1 w' f'' ∧ Turn f' f'' x w') := fun x f' v N hx hv hf =>
    mvStore hx (by have := hr.fu; omega) ⟨hr.d0, by have := hr.d1; omega⟩ hr.few (by omega) hm1 hm2 hm3 (by omega) hv hf
  have HSU : Hid (∀ (x : World) (f' : Nat → Prop) (v : Value) (N : Nat), RigR rb p0 p1 (S.st M.homW).1 x f' → x.ownsRow N 114 65 v (wrR M.supW).length (wrR M.supW).flatten → (∀ g, v.ownBlock = some g → ¬ f' g) →
      Calls Tryz.prog 54 #[.pointer (some ⟨rb, 0, none⟩), v] x fun e w' => e = .returned (.int .i64 ((S.st M.homW).1.st M.supW).2) ∧ ∃ f'', RigR rb p0 p1 ((S.st M.homW).1.st M.supW).1 w' f'' ∧ Turn f' f'' x w') := fun x f' v N hx hv hf =>
    mvStore hx (by omega) ⟨by omega, by omega⟩ k2 (by omega) (by rw [k1]; exact hs1) hs2 hs3 (by omega) hv hf
  have hE2 : ((S.st M.homW).1.st M.supW).2 = 0 ∨ ((S.st M.homW).1.st M.supW).2 = 14 := (RS.st_spec (S := (S.st M.homW).1) (l := M.supW) (by rw [k1]; exact hs1) hs2 k2 (by omega)).2.2.2.2.2
  have hbat := S.bat_two M.homW M.supW
  obtain ⟨S1, hS1⟩ : ∃ R, S.st M.homW = R := ⟨_, rfl⟩
  rw [hS1] at HOM HSU hE2 hbat k5
  obtain ⟨S2, hS2⟩ : ∃ R, S1.1.st M.supW = R := ⟨_, rfl⟩
  rw [hS2] at HSU hE2 hbat
  obtain ⟨RR, hRR⟩ : ∃ R, S.bat [M.homW, M.supW] = R := ⟨_, rfl⟩
  rw [hRR] at hbat ⊢
  have HBAT := Lib.hid hbat
  obtain ⟨Po, hPo⟩ : ∃ Po : Res, (if RR.2 = 0 then Sep (RigR rb p0 p1 RR.1) (MemX m rb M.ckpt) else RigR rb p0 p1 RR.1) = Po := ⟨_, rfl⟩
  have HPO := Lib.hid hPo
  rw [hPo]
  obtain ⟨er, her⟩ : ∃ er, RR.2 = er := ⟨_, rfl⟩
  have HER := Lib.hid her
  rw [her]
  have HSL := Lib.hid hM.sl
  have HBY := Lib.hid hok.bytes
  have hbl : M.b.length ≤ 714 := by have := hok.len; have := hN.b2; omega
  have HHL := Lib.hid hok.homl
  have HHB : Hid (∀ x ∈ M.home, x.length = 48) := fun x hx => (hok.homb x hx).1
  have HGI := Lib.hid hgi
  have HNH := Lib.hid nH
  have HSIN : Hid (SupIn (M.gen + 1) M.g M.at0 M.seq) := Geo.supIn hok.good ⟨by have := hok.gen.1; omega, by have := hok.gen.2; omega⟩ ⟨Int.natCast_nonneg _, by have := hok.at0; have := hN.c; omega⟩ ⟨hok.seq.1, by have := hok.seq.2; omega⟩
  have HPC := Lib.hid hpc
  have HHS := Lib.hid (homW_sel M hpc)
  have HSW : Hid (M.supW = [(1 - M.sup, u8s (supSctI (M.gen + 1) M.g M.at0 M.seq).bytes)]) := by show _ = _; rw [supSctI_nat]; rfl
  have HCL : Hid ((cutL M.b).length = M.g.P) := by show _ = _; rw [cutL_len, hpc]
  have HCK := Lib.hid (cutL_ok hok.bytes)
  have hg0 := hok.gen.1
  have hg1 := hok.gen.2
  have hsup := hok.sup1
  have hP2 : 2 ≤ M.g.P := hN.p1
  have hP15 : M.g.P ≤ 15 := hN.p2
  have hHb : M.g.H ≤ 300 := by unfold Geo.H; have := hN.c2; omega
  have HM := Lib.hid hM
  have HR := Lib.hid hR
  have HD : Hid (∀ k, f1 k → k ≠ m ∧ k ≠ Bb ∧ k ≠ Bh) := fun k hk => ⟨fun e => hD k hk (.inl e), fun e => hD k hk (.inr (.inl e)), fun e => hD k hk (.inr (.inr e))⟩
  obtain ⟨P, hP⟩ : ∃ P, M.g.P = P := ⟨_, rfl⟩
  rw [hP] at hP2 hP15 HPC HCL HHL
  have hmx : Tryz.prog.follows .mixedOrders = true := by kernel_rfl
  have c1 : w.cell? ⟨m, 1, none⟩ = some (.slice (some ⟨Bb, 0, none⟩) M.b.length cb) := hM.row.cell 1 _ rfl
  have HCUT := Lib.hid (cutP w hM.sl hok.bytes (by omega) (by rw [hpc, hP]; omega))
  rw [HPC.out] at HCUT
  obtain ⟨n, hn⟩ : ∃ n, M.b.length = n := ⟨_, rfl⟩
  have HN := Lib.hid hn
  rw [hn] at c1 HCUT
  clear hR hM hD hN nH nP nR nB nC hgi hpc hm1 hm2 hm3 hm4 hs1 hs2 hs3 hs4 k1 k2 k3 k4 hr hok hS1 hS2 hRR hbat hP hn hbl hPo her
  go_enter Tryz.func65, Tryz.ntmps65
  go_wp2_with fail
  go_at_call 48
  refine HCUT.out.mono ?_
  rintro e x1 ⟨Bp, cp, cur, rfl, hpg, hBp, hcur, hb⟩
  have hM1 := HM.out.below hb
  have L4 : (loadVar 23 ⟨m, 4, none⟩).run Tryz.prog x1 = .ok (.agg M.g.v) x1 := hM1.row.geoAt (g := M.g) (pre := [.pointer (some ⟨rb, 0, none⟩), .slice (some ⟨Bb, 0, none⟩) M.b.length cb, .slice (some ⟨Bh, 0, none⟩) M.home.length ch, .int .u32 M.gen]) (post := [.int .i64 a, .int .u32 q, .int .i64 M.sup, .int .i64 M.at0, .int .u32 M.seq, .int .i64 M.room]) rfl
  obtain ⟨x2, ST2, r2, hb2⟩ := new_geoM x1 M.g
  obtain ⟨Bg, hBg⟩ : ∃ b, x1.heap.size = b := ⟨_, rfl⟩
  rw [hBg] at ST2 r2
  have hM2 := hM1.below hb2
  have hR2 : RigR rb p0 p1 S x2 f1 := HR.out.beside (hb.trans (hb2.mono hb.size))
  have hpg2 := hpg.below hb2
  have K2 : Hid (Below w.heap.size w x2) := hb.trans (hb2.mono hb.size)
  have HPG2 := Lib.hid hpg2
  have HM2 := Lib.hid hM2
  have HG2 := Lib.hid r2
  have HBP : Hid (w.heap.size ≤ Bp ∧ Bp < Bg) := ⟨hBp, by rw [← hBg]; exact hpg.lt⟩
  have HCUR : Hid (x2.heap[Bp]? = some (.cells cur 112 (0, 0))) := (hb2.block _ hpg.lt).trans hcur
  have d0 : ∀ z : Ext x2, z.1.cell? ⟨m, 0, none⟩ = some (.pointer (some ⟨rb, 0, none⟩)) := fun z => (hM2.row.below z.2).cell 0 _ rfl
  have d2 : ∀ z : Ext x2, z.1.cell? ⟨m, 2, none⟩ = some (.slice (some ⟨Bh, 0, none⟩) P ch) := fun z => by rw [← HHL.out]; exact (hM2.row.below z.2).cell 2 _ rfl
  have dg : ∀ z : Ext x2, (loadVar 23 ⟨Bg, 0, none⟩).run Tryz.prog z.1 = .ok (.agg M.g.v) z.1 := fun z => load_geo (r2.below z.2)
  clear hpg hBp hcur hb hM1 hb2 hM2 hpg2 r2 c1 HCUT
  go_wp2_with fail
  clear ST2 L4
  refine region_plan (fun x => ∃ y : Ext x2, x = y.1) 12 (.takes [0, 1, 2, 3, 4, 5, 6, 7, 8, 9] (.one 10 (.one 11 .leaf))) hmx (by kernel_rfl) (by intro c x v a w h; cases x <;> exact h) ⟨⟨x2.drew, (Below.refl _ x2).drew⟩, rfl⟩ ?_
  repeat (rw [wpPlan_takes_cons]; simp only [nth_zero, nth_succ]; go_big_quiet_step (fail); refine wpQuiet_nil ?_)
  rw [wpPlan_takes_nil, wpPlan_one]
  simp only [nth_zero, nth_succ]
  clear d0 d2 dg
  go_wp2_with fail
  go_at_call 63
  obtain ⟨X, hX⟩ : ∃ X, x2.drew = X := ⟨_, rfl⟩
  have bX : Below x2.heap.size x2 X := by rw [← hX]; exact (Below.refl _ x2).drew
  try rw [hX]
  refine (differing_run _ _ _ _ _ _ X).mono ?_
  rintro e x3 ⟨rfl, hx3⟩
  have hsz : X.heap.size = x2.heap.size := by rw [← hX]; rfl
  have b3 : Below X.heap.size X x3 := by rw [hx3]; exact (below_new X _).trans ((below_new _ _).mono (by simp))
  have K3 : Hid (Below x2.heap.size x2 x3) := bX.trans (b3.mono (by omega))
  obtain ⟨Bw, hBw⟩ : ∃ b, X.heap.size = b := ⟨_, rfl⟩
  have hPW : PgsB x3 Bw Bh M.home := by
    refine ⟨⟨.slice (some ⟨Bh, 0, none⟩) M.home.length ch, ?_, (HM2.out.pgs HHB.out (by rw [HHL.out]; omega)).below K3.out⟩, ?_⟩
    · rw [hx3, ← hBw, HHL.out]; exact (Boxed.new X _ _).alloc _
    · rw [hx3, ← hBw, World.size_alloc, World.size_alloc]; omega
  have hPN : PgsB x3 (Bw + 1) Bp (cutL M.b) := by
    refine ⟨⟨.slice (some ⟨Bp, 0, none⟩) P cp, ?_, HPG2.out.below K3.out⟩, ?_⟩
    · rw [hx3, ← hBw]
      have := Boxed.new (X.alloc (.cells #[.slice (some ⟨Bh, 0, none⟩) P ch] 50)) 50 (.slice (some ⟨Bp, 0, none⟩) P cp)
      rwa [World.size_alloc] at this
    · rw [hx3, ← hBw, World.size_alloc, World.size_alloc]; omega
  have hlt3 : ∀ k, SD (Bw + 1) Bp Bw Bh k → k < x3.heap.size := by
    rintro k (rfl | rfl | rfl | rfl)
    · exact hPN.lt
    · obtain ⟨⟨v, _, h⟩, _⟩ := hPN; exact h.lt
    · exact hPW.lt
    · obtain ⟨⟨v, _, h⟩, _⟩ := hPW; exact h.lt
  have HHW := Lib.hid (mvHomeWrites (H := M.g.H) HGI.out HNH.out (by omega) HCL.out (by omega) HCK.out (difP M.home (cutL M.b)) 107 #[.pointer (some ⟨Bw + 1, 0, none⟩), .pointer (some ⟨Bw, 0, none⟩)]
    (enters_of Tryz.func107 (by kernel_rfl) rfl) (SD (Bw + 1) Bp Bw Bh) x3 hlt3 (differing_stops 2 (by omega) (Bw + 1) Bp Bw Bh P M.home (cutL M.b) HCL.out HHL.out x3 hPN hPW))
  rw [← HCL.out] at HHW
  rw [← HHS.out] at HHW
  rw [hBw]
  clear bX hX hx3 hsz b3 hBw hPW hPN hlt3
  go_wp2_with fail
  refine planPost_mk ⟨⟨x3, K3.out⟩, rfl⟩ ?_
  rw [wpPlan_one]
  simp only [nth_zero, nth_succ]
  go_wp2_with fail
  go_at_call 51
  refine HHW.out.mono ?_
  rintro e x4 ⟨v4, rfl, hO, hb⟩
  have K4 : Hid (Below x2.heap.size x2 x4) := K3.out.trans (hb.mono K3.out.size)
  have HO := Lib.hid hO
  have HX3 : Hid (x2.heap.size ≤ x3.heap.size) := K3.out.size
  clear hO hb HHW
  go_wp2_with fail
  refine planPost_mk ⟨⟨x4, K4.out⟩, rfl⟩ ?_
  rw [wpPlan_leaf]
  simp only [List.drop_succ_cons, List.drop_zero]
  have hf4 : ∀ g, v4.ownBlock = some g → ¬ f1 g := fun g e hf => by
    have h1 := (HO.out.lt g e).1
    have h2 := (RigR.isRes rb p0 p1 S).lt HR.out g hf
    have h3 := HX3.out
    have h4 := K2.out.size
    omega
  have hR4 : RigR rb p0 p1 S x4 f1 := HR.out.beside (K2.out.trans (K4.out.mono K2.out.size))
  have HST := Lib.hid (HOM.out x4 f1 v4 x3.heap.size hR4 HO.out hf4)
  clear hf4 hR4 HOM
  go_wp2_with fail
  go_at_call 54
  refine HST.out.mono ?_
  rintro e x5 ⟨rfl, f5, hR5, hT5⟩
  have K24 : Below w.heap.size w x4 := K2.out.trans (K4.out.mono K2.out.size)
  have HW5 : Hid (∀ k, k < x4.heap.size → ¬ f1 k → x5.heap[k]? = x4.heap[k]?) := hT5.out
  have hm4 := HM2.out.below K4.out
  have hm5 : MemAt m rb Bb cb Bh ch a q M x5 := hm4.keep (hT5.out m hm4.lt.1 (fun h => (HD.out m h).1 rfl)) (hT5.out Bb hm4.lt.2.1 (fun h => (HD.out Bb h).2.1 rfl)) (hT5.out Bh hm4.lt.2.2 (fun h => (HD.out Bh h).2.2 rfl))
  have hD5 : ∀ k, f5 k → k ≠ m ∧ k ≠ Bb ∧ k ≠ Bh ∧ k ≠ Bp ∧ k ≠ Bg := fun k hk => by
    have hl := hm4.lt
    have hbg := Nat.lt_of_lt_of_le HG2.out.lt K4.out.size
    have hbb := HBP.out
    have hbp : Bp < x4.heap.size ∧ w.heap.size ≤ Bp := ⟨Nat.lt_of_lt_of_le (HG2.out.lt |> fun h => Nat.lt_trans HBP.out.2 h) K4.out.size, HBP.out.1⟩
    rcases hT5.new k hk with h1 | h1
    · have := HD.out k h1
      have h2 := (RigR.isRes rb p0 p1 S).lt HR.out k h1
      exact ⟨this.1, this.2.1, this.2.2, by omega, by omega⟩
    · exact ⟨by omega, by omega, by omega, by omega, by omega⟩
  have hBpn : ¬ f1 Bp := fun h => by
    have h2 := (RigR.isRes rb p0 p1 S).lt HR.out Bp h
    have := HBP.out.1
    omega
  have hBgn : ¬ f1 Bg := fun h => by
    have h2 := (RigR.isRes rb p0 p1 S).lt HR.out Bg h
    have := HBP.out
    omega
  have hcur5 : x5.heap[Bp]? = some (.cells cur 112 (0, 0)) := by
    have hl : Bp < x2.heap.size := (Array.getElem?_eq_some_iff.1 HCUR.out).1
    rw [hT5.out Bp (Nat.lt_of_lt_of_le hl K4.out.size) hBpn, K4.out.block Bp hl]
    exact HCUR.out
  have hpg5 : PgsR x5 (.slice (some ⟨Bp, 0, none⟩) P cp) Bp (cutL M.b) := (HPG2.out.below K4.out).keep hT5.size (hT5.out Bp (Nat.lt_of_lt_of_le HPG2.out.lt K4.out.size) hBpn)
  have hbg5 : RowC x5 Bg 23 M.g.cs := (hT5.out Bg (Nat.lt_of_lt_of_le HG2.out.lt K4.out.size) hBgn).trans (HG2.out.below K4.out)
  have HT5 : Hid (Turn (fun k => f1 k ∨ k = m ∨ k = Bb ∨ k = Bh) (fun k => f5 k ∨ k = m ∨ k = Bb ∨ k = Bh) w x5) := (Turn.of_below K24).trans (hT5.frame _)
  have HM5 := Lib.hid hm5
  have HR5 := Lib.hid hR5
  have HD5 := Lib.hid hD5
  have HC5 := Lib.hid hcur5
  have HP5 := Lib.hid hpg5
  have HG5 := Lib.hid hbg5
  clear K24 hm4 hm5 hD5 hBpn hBgn hcur5 hpg5 hbg5 hT5 hR5 HST HO HX3 HW5
  by_cases h1 : S1.2 = 0
  · have HB2 : Hid (RR = S2) := by show _ = _; rw [HBAT.out, if_pos h1]
    rw [h1]
    clear k5
    have e0 : x5.cell? ⟨m, 3, none⟩ = some (.int .u32 M.gen) := HM5.out.row.cell 3 _ rfl
    have e0z : ∀ z : Ext x5, z.1.cell? ⟨m, 3, none⟩ = some (.int .u32 M.gen) := fun z => (HM5.out.row.below z.2).cell 3 _ rfl
    have egz : ∀ z : Ext x5, (loadVar 23 ⟨Bg, 0, none⟩).run Tryz.prog z.1 = .ok (.agg M.g.v) z.1 := fun z => load_geo (HG5.out.below z.2)
    have e12 : ∀ z : Ext x5, z.1.cell? ⟨m, 12, none⟩ = some (.int .i64 M.at0) := fun z => (HM5.out.row.below z.2).cell 12 _ rfl
    have e13 : ∀ z : Ext x5, z.1.cell? ⟨m, 13, none⟩ = some (.int .u32 M.seq) := fun z => (HM5.out.row.below z.2).cell 13 _ rfl
    have esp : ∀ z : Ext x5, (loadVar 103 ⟨m, 12, none⟩).run Tryz.prog z.1 = .ok (.agg #[.int .i64 M.at0, .int .u32 M.seq]) z.1 := fun z => load_spot fun j v hj => by
      match j, hj with
      | 0, hj => simp at hj; rw [← hj]; exact e12 z
      | 1, hj => simp at hj; rw [← hj]; exact e13 z
      | j + 2, hj => simp at hj
    go_wp2_with fail
    refine region_plan (fun x => ∃ y : Ext x5, x = y.1) 13 (.takes [0, 1, 2, 3, 4, 5, 6, 7, 8, 9, 10] (.take 11 (.one 12 .leaf))) hmx (by kernel_rfl) (by intro c x v a w h; cases x <;> exact h) ⟨⟨x5.drew, (Below.refl _ x5).drew⟩, rfl⟩ ?_
    repeat (rw [wpPlan_takes_cons]; simp only [nth_zero, nth_succ]; go_big_quiet_step (fail); refine wpQuiet_nil ?_)
    rw [wpPlan_takes_nil]
    clear e0 e0z egz e12 e13 esp
    rw [wpPlan_take]
    simp only [nth_zero, nth_succ]
    refine wpQuiet_struct_run _ _ rfl rfl [(0, .int .u32 (M.gen + 1)), (1, .agg M.g.v), (2, .agg #[.int .i64 M.at0, .int .u32 M.seq])] (.agg (supC (M.gen + 1) M.g M.at0 M.seq).toArray) rfl (fun z _ => build_sup3 (M.gen + 1) M.g M.at0 M.seq z) ?_
    refine wpQuiet_nil ?_
    obtain ⟨X, hX⟩ : ∃ X, x5.drew = X := ⟨_, rfl⟩
    have bX : Below x5.heap.size x5 X := by rw [← hX]; exact (Below.refl _ x5).drew
    try rw [hX]
    obtain ⟨x6, ST6, r6, hb6⟩ := new_supV X (C := supC (M.gen + 1) M.g M.at0 M.seq) rfl (supC_one _ _ _ _)
    have hsz : X.heap.size = x5.heap.size := by rw [← hX]; rfl
    have K6 : Hid (Below x5.heap.size x5 x6) := bX.trans (hb6.mono (by omega))
    have bA : Below x5.heap.size x5 (X.alloc (.cells zsup.toArray 105)) := bX.trans ((below_new X _).mono (by omega))
    obtain ⟨Bs, hBs⟩ : ∃ b, X.heap.size = b := ⟨_, rfl⟩
    rw [hBs] at ST6 r6
    have HS6 := Lib.hid r6
    have HBS : Hid (x5.heap.size ≤ Bs) := by show _ ≤ _; omega
    obtain ⟨sc, hsc⟩ : ∃ c, (supC (M.gen + 1) M.g M.at0 M.seq).toArray = c := ⟨_, rfl⟩
    have HSC := Lib.hid hsc
    rw [hsc] at ST6
    rw [hsc]
    clear hb6 r6 hsz bX hsc
    rw [wpPlan_one]
    simp only [nth_zero, nth_succ]
    go_wp2_with fail
    refine planPost_mk ⟨⟨_, bA⟩, rfl⟩ ?_
    rw [wpPlan_leaf]
    simp only [List.drop_succ_cons, List.drop_zero]
    have hM6 := HM5.out.below K6.out
    have c11 : x6.cell? ⟨m, 11, none⟩ = some (.int .i64 M.sup) := hM6.row.cell 11 _ rfl
    obtain ⟨ol, hol⟩ : ∃ ol : Nat, 1 - M.sup = ol := ⟨_, rfl⟩
    have hol' : (1 : Int) - (M.sup : Int) = (ol : Int) := by omega
    have HOL := Lib.hid hol
    have d0 : ∀ z : Ext x6, z.1.cell? ⟨m, 0, none⟩ = some (.pointer (some ⟨rb, 0, none⟩)) := fun z => (hM6.row.below z.2).cell 0 _ rfl
    have ds : ∀ z : Ext x6, (loadVar 105 ⟨Bs, 0, none⟩).run Tryz.prog z.1 = .ok (.agg sc) z.1 := fun z => by rw [← HSC.out]; exact (HS6.out.below z.2).sup
    have HSWR : Hid (∀ x, Calls Tryz.prog 53 #[.int .i64 (ol : Int), .agg sc] x fun e w' => e = .returned (.agg (wrC (ol, u8s (supSctI (M.gen + 1) M.g M.at0 M.seq).bytes)).toArray) ∧ Below x.heap.size x w') := fun x => by
      rw [← HSC.out]
      exact mvSuperWrite ol HSIN.out x
    clear hM6 hol
    go_wp2_with fail
    clear ST6 c11
    refine region_plan (fun x => ∃ y : Ext x6, x = y.1) 8 (.takes [0, 1, 2, 3, 4, 5] (.one 6 (.one 7 .leaf))) hmx (by kernel_rfl) (by intro c x v a w h; cases x <;> exact h) ⟨⟨x6.drew, (Below.refl _ x6).drew⟩, rfl⟩ ?_
    repeat (rw [wpPlan_takes_cons]; simp only [nth_zero, nth_succ]; go_big_quiet_step (fail); refine wpQuiet_nil ?_)
    rw [wpPlan_takes_nil, wpPlan_one]
    simp only [nth_zero, nth_succ]
    clear d0 ds
    go_wp2_with fail
    go_at_call 53
    refine (HSWR.out _).mono ?_
    rintro e x7 ⟨rfl, hb⟩
    have K7 : Hid (Below x6.heap.size x6 x7) := ((Below.refl _ x6).drew).trans hb
    have hbk : IsBlk (u8s (supSctI (M.gen + 1) M.g M.at0 M.seq).bytes) := isBlk_u8s (Sct.bytes_length (supSctI_ok HSIN.out.gen _ _ _))
    have hwl := wrC_length (x := (ol, u8s (supSctI (M.gen + 1) M.g M.at0 M.seq).bytes)) hbk.length
    have HSW2 : Hid (wrR M.supW = [wrC (ol, u8s (supSctI (M.gen + 1) M.g M.at0 M.seq).bytes)]) := by show _ = _; rw [HSW.out, HOL.out]; rfl
    obtain ⟨wc, hwc⟩ : ∃ c, wrC (ol, u8s (supSctI (M.gen + 1) M.g M.at0 M.seq).bytes) = c := ⟨_, rfl⟩
    rw [hwc] at hwl HSW2
    rw [hwc]
    obtain ⟨x8, hx8⟩ : ∃ y, x7.alloc (.cells wc.toArray 114) = y := ⟨_, rfl⟩
    have SB : (Instr.buildSlice 106 1 #[(0, .agg wc.toArray)]).run Tryz.prog x7 = .ok (.slice (some ⟨x7.heap.size, 0, none⟩) 1 1) x8 := by rw [← hx8]; exact slice_wr x7 _ hwl
    have b8 : Below x7.heap.size x7 x8 := by rw [← hx8]; exact below_new x7 _
    have K8 : Hid (Below x6.heap.size x6 x8) := K7.out.trans (b8.mono K7.out.size)
    have hO8 : x8.ownsRow x7.heap.size 114 65 (.slice (some ⟨x7.heap.size, 0, none⟩) 1 1) (wrR M.supW).length (wrR M.supW).flatten := by
      rw [HSW2.out]
      refine ⟨by simp [hwl], .inr ⟨x7.heap.size, 1, wc.toArray, rfl, Nat.le_refl _, by rw [← hx8]; exact heap_alloc_new x7 _, by simp, by unfold maxLen; omega, by simp [hwl], ?_⟩⟩
      simp
      exact List.take_of_length_le (by omega)
    have K58 : Below x5.heap.size x5 x8 := K6.out.trans (K8.out.mono K6.out.size)
    have hR8 := (RigR.isRes rb p0 p1 S1.1).below HR5.out K58
    have hf8 : ∀ g, (Value.slice (some ⟨x7.heap.size, 0, none⟩) 1 1).ownBlock = some g → ¬ f5 g := fun g e hf => by
      have h1 : x7.heap.size = g := by simpa [Value.ownBlock] using e
      have h2 := (RigR.isRes rb p0 p1 S1.1).lt HR5.out g hf
      have h3 := K6.out.size
      have h4 := K7.out.size
      omega
    have HST := Lib.hid (HSU.out x8 f5 _ x7.heap.size hR8 hO8 hf8)
    obtain ⟨Bq, hBq⟩ : ∃ b, x7.heap.size = b := ⟨_, rfl⟩
    rw [hBq] at SB HST
    clear hb hbk hwl hwc hx8 b8 hO8 hR8 hf8 HSU HSWR
    go_wp2_with fail
    refine planPost_mk ⟨⟨x7, K7.out⟩, rfl⟩ ?_
    rw [wpPlan_one]
    simp only [nth_zero, nth_succ]
    refine wpList_build_run _ _ _ rfl rfl [(0, .agg wc.toArray)] _ rfl SB ?_
    clear SB
    go_wp2_with fail
    refine planPost_mk ⟨⟨x8, K8.out⟩, rfl⟩ ?_
    rw [wpPlan_leaf]
    simp only [List.drop_succ_cons, List.drop_zero]
    clear hBq
    go_wp2_with fail
    go_at_call 54
    refine HST.out.mono ?_
    rintro e x9 ⟨rfl, f9, hR9, hT9⟩
    have hm8 := HM5.out.below K58
    have hm9 : MemAt m rb Bb cb Bh ch a q M x9 := hm8.keep (hT9.out m hm8.lt.1 (fun h => (HD5.out m h).1 rfl)) (hT9.out Bb hm8.lt.2.1 (fun h => (HD5.out Bb h).2.1 rfl)) (hT9.out Bh hm8.lt.2.2 (fun h => (HD5.out Bh h).2.2.1 rfl))
    have hbp5 : Bp < x5.heap.size := (Array.getElem?_eq_some_iff.1 HC5.out).1
    have hbp8 : Bp < x8.heap.size := Nat.lt_of_lt_of_le hbp5 K58.size
    have hD9 : ∀ k, f9 k → k ≠ m ∧ k ≠ Bb ∧ k ≠ Bh ∧ k ≠ Bp := fun k hk => by
      have hl := hm8.lt
      rcases hT9.new k hk with h1 | h1
      · exact ⟨(HD5.out k h1).1, (HD5.out k h1).2.1, (HD5.out k h1).2.2.1, (HD5.out k h1).2.2.2.1⟩
      · exact ⟨by omega, by omega, by omega, by omega⟩
    have hcur9 : x9.heap[Bp]? = some (.cells cur 112 (0, 0)) := by
      rw [hT9.out Bp hbp8 (fun h => (HD5.out Bp h).2.2.2.1 rfl), K58.block Bp hbp5]
      exact HC5.out
    have hpg9 : PgsR x9 (.slice (some ⟨Bp, 0, none⟩) P cp) Bp (cutL M.b) := (HP5.out.below K58).keep hT9.size (hT9.out Bp hbp8 (fun h => (HD5.out Bp h).2.2.2.1 rfl))
    have HT9 : Hid (Turn (fun k => f1 k ∨ k = m ∨ k = Bb ∨ k = Bh) (fun k => f9 k ∨ k = m ∨ k = Bb ∨ k = Bh) w x9) := HT5.out.trans ((Turn.of_below K58).trans (hT9.frame _))
    have HW9 : Hid (∀ k, k < x5.heap.size → ¬ f5 k → x9.heap[k]? = x5.heap[k]?) := fun k hk hn => (hT9.out k (Nat.lt_of_lt_of_le hk K58.size) hn).trans (K58.block k hk)
    have hbg9 : RowC x9 Bg 23 M.g.cs := (HW9.out Bg HG5.out.lt (fun h => (HD5.out Bg h).2.2.2.2 rfl)).trans HG5.out
    have hbs9 : RowC x9 Bs 105 (supC (M.gen + 1) M.g M.at0 M.seq) := (hT9.out Bs (Nat.lt_of_lt_of_le HS6.out.lt K8.out.size) (fun h => by
      have h2 := (RigR.isRes rb p0 p1 S1.1).lt HR5.out Bs h
      have := HBS.out
      omega)).trans (HS6.out.below K8.out)
    have HM9 := Lib.hid hm9
    have HR9 := Lib.hid hR9
    have HD9 := Lib.hid hD9
    have HC9 := Lib.hid hcur9
    have HP9 := Lib.hid hpg9
    have HG9 := Lib.hid hbg9
    have HS9 := Lib.hid hbs9
    have HWB : Hid (w.heap.size ≤ Bp) := HBP.out.1
    clear hm8 hm9 hbp5 hbp8 hD9 hcur9 hpg9 hbg9 hbs9 hT9 hR9 HST K58 HW9
    by_cases h2 : S2.2 = 0
    · rw [h2]
      have HRZ : Hid (RR.2 = 0 ∧ RR.1 = S2.1) := by refine (?_ : _ ∧ _); rw [HB2.out]; exact ⟨h2, rfl⟩
      clear hE2 h1 h2
      have eg4 : ∀ z : KeepSG Bs Bg x9, z.1.cell? ⟨Bg, 4, none⟩ = some (.int .i64 M.g.r) := fun z => (World.cell?_of_block (a := ⟨Bg, 4, none⟩) z.2.2).trans (HG9.out.cell 4 _ rfl)
      have esz : ∀ z : KeepSG Bs Bg x9, (loadVar 105 ⟨Bs, 0, none⟩).run Tryz.prog z.1 = .ok (.agg sc) z.1 := fun z => by
        rw [← HSC.out]
        exact RowC.sup (t := 105) (z.2.1.trans HS9.out)
      obtain ⟨X, hX⟩ : ∃ X, x9.drew = X := ⟨_, rfl⟩
      have bX : Below x9.heap.size x9 X := by rw [← hX]; exact (Below.refl _ x9).drew
      have hmBs : m ≠ Bs ∧ m ≠ Bg := by
        have h1 := HM.out.lt
        have h2 := HBP.out
        have h3 := HBS.out
        have h4 := HG5.out.lt
        exact ⟨by omega, by omega⟩
      have r0 := HM9.out.row.below bX
      have c2 : X.cell? ⟨m, 2, none⟩ = some (.slice (some ⟨Bh, 0, none⟩) M.home.length ch) := r0.cell 2 _ rfl
      have f2 := r0.frozen 2
      obtain ⟨y1, hy1⟩ : ∃ y, X.setCell ⟨m, 2, none⟩ (.slice (some ⟨Bp, 0, none⟩) P cp) = y := ⟨_, rfl⟩
      have r1 := r0.set 2 (.slice (some ⟨Bp, 0, none⟩) P cp)
      rw [hy1] at r1
      have tS : y1.there m 3 8 := row_there r1 3 8 (by simp [mtC, supC])
      have STS := store_sup (c := supC (M.gen + 1) M.g M.at0 M.seq) tS rfl (supC_one _ _ _ _)
      obtain ⟨y2, hy2⟩ : ∃ y, y1.setCells m 3 (supC (M.gen + 1) M.g M.at0 M.seq) = y := ⟨_, rfl⟩
      rw [hy2, HSC.out] at STS
      have r2 := RowC.sets (supC (M.gen + 1) M.g M.at0 M.seq) 3 r1
      rw [hy2] at r2
      have c11 : y2.cell? ⟨m, 11, none⟩ = some (.int .i64 M.sup) := r2.cell 11 _ rfl
      have f11 := r2.frozen 11
      obtain ⟨y3, hy3⟩ : ∃ y, y2.setCell ⟨m, 11, none⟩ (.int .i64 ol) = y := ⟨_, rfl⟩
      have r3 := r2.set 11 (.int .i64 ol)
      rw [hy3] at r3
      have c14 : y3.cell? ⟨m, 14, none⟩ = some (.int .i64 M.room) := r3.cell 14 _ rfl
      have f14 := r3.frozen 14
      obtain ⟨y4, hy4⟩ : ∃ y, y3.setCell ⟨m, 14, none⟩ (.int .i64 M.g.r) = y := ⟨_, rfl⟩
      have r4 := r3.set 14 (.int .i64 M.g.r)
      rw [hy4] at r4
      have hrow : RowC y4 m 120 (mtC rb (.slice (some ⟨Bb, 0, none⟩) M.b.length cb) (.slice (some ⟨Bp, 0, none⟩) P cp) (M.gen + 1) M.g M.at0 M.seq ol M.at0 M.seq M.g.r) := r4
      have hk : ∀ k, k ≠ m → k < x9.heap.size → y4.heap[k]? = x9.heap[k]? := fun k hk hl => by
        have a1 : y1.heap[k]? = X.heap[k]? := by rw [← hy1]; exact Below.heap_setCell _ _ _ k hk
        have a2 : y2.heap[k]? = y1.heap[k]? := by rw [← hy2]; exact World.heap_setCells_other _ _ _ _ (by rw [← hy1, size_setCell]; exact Nat.lt_of_lt_of_le hl bX.size) hk
        have a3 : y3.heap[k]? = y2.heap[k]? := by rw [← hy3]; exact Below.heap_setCell _ _ _ k hk
        have a4 : y4.heap[k]? = y3.heap[k]? := by rw [← hy4]; exact Below.heap_setCell _ _ _ k hk
        rw [a4, a3, a2, a1]
        exact bX.block k hl
      have hlt9 := HM9.out.lt
      have hpl9 : Bp < x9.heap.size := (Array.getElem?_eq_some_iff.1 HC9.out).1
      have hne : m ≠ Bp ∧ Bb ≠ Bp := by
        have h1 := HM.out.lt
        have h2 := HWB.out
        exact ⟨by omega, by omega⟩
      have hM4 : MemAt m rb Bb cb Bp cp (M.at0 : Int) M.seq M.ckpt y4 := by
        have hbb := hk Bb (fun e => HM9.out.mb e.symm) hlt9.2.1
        have hpp := hk Bp (fun e => hne.1 e.symm) hpl9
        refine ⟨?_, HM9.out.mb, hne.1, hne.2, HM9.out.b0, by show 0 < (cutL M.b).length; rw [HCL.out]; omega, HM9.out.cbl, ?_, rangeAt_same HM9.out.bat hbb, ⟨cur, _, hpp.trans HC9.out⟩, rangeAt_same HP9.out.at_ hpp⟩
        · show RowC y4 m _ (mtC rb _ (.slice _ (cutL M.b).length cp) (M.gen + 1) M.g M.at0 M.seq ((1 - M.sup : Nat) : Int) M.at0 M.seq (M.g.r - ((0 : Nat) : Int)))
          rw [HCL.out, HOL.out, show M.g.r - ((0 : Nat) : Int) = M.g.r by omega]
          exact hrow
        · obtain ⟨c, t, e⟩ := HM9.out.cb'
          exact ⟨c, t, hbb.trans e⟩
      have hR4 : RigR rb p0 p1 S2.1 y4 f9 := (RigR.isRes rb p0 p1 S2.1).out HR9.out fun k hk' => hk k (HD9.out k hk').1 ((RigR.isRes rb p0 p1 S2.1).lt HR9.out k hk')
      have hT4 : Turn (fun k => f9 k ∨ k = m ∨ k = Bb ∨ k = Bh) (fun k => f9 k ∨ k = m ∨ k = Bb ∨ k = Bh) x9 y4 := by
        refine (Turn.of_below bX).trans ?_
        rw [← hy4, ← hy3, ← hy2, ← hy1]
        exact (((turn_setCell _ m 2 _ (.inr (.inl rfl))).trans (turn_setCells (.inr (.inl rfl)) _ 3 _)).trans (turn_setCell _ m 11 _ (.inr (.inl rfl)))).trans (turn_setCell _ m 14 _ (.inr (.inl rfl)))
      have HTF : Hid (Turn (fun k => f1 k ∨ k = m ∨ k = Bb ∨ k = Bh) (fun k => f9 k ∨ k = m ∨ k = Bb ∨ k = Bp) w y4) := (HT9.out.trans hT4).less fun k hk => by
        rcases hk with h | h | h | h
        · exact .inl (.inl h)
        · exact .inl (.inr (.inl h))
        · exact .inl (.inr (.inr (.inl h)))
        · right; rw [h]; exact HWB.out
      have HSEP : Hid (Sep (RigR rb p0 p1 S2.1) (MemX m rb M.ckpt) y4 (fun k => f9 k ∨ k = m ∨ k = Bb ∨ k = Bp)) := ⟨f9, _, hR4, ⟨Bb, cb, Bp, cp, M.at0, M.seq, hM4, rfl⟩, fun k hk h => by
        have := HD9.out k hk
        rcases h with h | h | h
        · exact this.1 h
        · exact this.2.1 h
        · exact this.2.2.2 h, rfl⟩
      have kX : X.heap[Bs]? = x9.heap[Bs]? ∧ X.heap[Bg]? = x9.heap[Bg]? := ⟨bX.block Bs HS9.out.lt, bX.block Bg HG9.out.lt⟩
      have k1 : y1.heap[Bs]? = x9.heap[Bs]? ∧ y1.heap[Bg]? = x9.heap[Bg]? := by rw [← hy1]; exact ⟨(Below.heap_setCell _ _ _ _ (fun e => hmBs.1 e.symm)).trans kX.1, (Below.heap_setCell _ _ _ _ (fun e => hmBs.2 e.symm)).trans kX.2⟩
      have l1 : Bs < y1.heap.size ∧ Bg < y1.heap.size := by rw [← hy1, size_setCell]; exact ⟨Nat.lt_of_lt_of_le HS9.out.lt bX.size, Nat.lt_of_lt_of_le HG9.out.lt bX.size⟩
      have k2 : y2.heap[Bs]? = x9.heap[Bs]? ∧ y2.heap[Bg]? = x9.heap[Bg]? := by rw [← hy2]; exact ⟨(World.heap_setCells_other _ _ _ _ l1.1 (fun e => hmBs.1 e.symm)).trans k1.1, (World.heap_setCells_other _ _ _ _ l1.2 (fun e => hmBs.2 e.symm)).trans k1.2⟩
      have k3 : y3.heap[Bs]? = x9.heap[Bs]? ∧ y3.heap[Bg]? = x9.heap[Bg]? := by rw [← hy3]; exact ⟨(Below.heap_setCell _ _ _ _ (fun e => hmBs.1 e.symm)).trans k2.1, (Below.heap_setCell _ _ _ _ (fun e => hmBs.2 e.symm)).trans k2.2⟩
      clear r0 r1 r2 r3 r4 tS bX hrow hk hlt9 hpl9 hne hM4 hR4 hT4 hmBs l1
      go_wp2_with fail
      refine region_plan (fun x => ∃ y : KeepSG Bs Bg x9, x = y.1) 20 (.takes [0, 1, 2, 3, 4, 5, 6, 7, 8, 9, 10] (.one 11 (.takes [12, 13] (.one 14 (.takes [15, 16] (.one 17 (.takes [18, 19] .leaf))))))) hmx (by kernel_rfl) (by intro c x v a w h; cases x <;> exact h) ⟨⟨x9.drew, rfl, rfl⟩, rfl⟩ ?_
      repeat (rw [wpPlan_takes_cons]; simp only [nth_zero, nth_succ]; go_big_quiet_step (fail); refine wpQuiet_nil ?_)
      rw [wpPlan_takes_nil, wpPlan_one]
      simp only [nth_zero, nth_succ]
      try rw [hX]
      go_wp2_with fail
      refine planPost_mk ⟨⟨y1, k1⟩, rfl⟩ ?_
      repeat (rw [wpPlan_takes_cons]; simp only [nth_zero, nth_succ]; go_big_quiet_step (fail); refine wpQuiet_nil ?_)
      rw [wpPlan_takes_nil, wpPlan_one]
      simp only [nth_zero, nth_succ]
      clear hX hy1 c2 f2
      go_wp2_with fail
      refine planPost_mk ⟨⟨y2, k2⟩, rfl⟩ ?_
      repeat (rw [wpPlan_takes_cons]; simp only [nth_zero, nth_succ]; go_big_quiet_step (fail); refine wpQuiet_nil ?_)
      rw [wpPlan_takes_nil, wpPlan_one]
      simp only [nth_zero, nth_succ]
      clear STS
      go_wp2_with fail
      refine planPost_mk ⟨⟨y3, k3⟩, rfl⟩ ?_
      repeat (rw [wpPlan_takes_cons]; simp only [nth_zero, nth_succ]; go_big_quiet_step (fail); refine wpQuiet_nil ?_)
      rw [wpPlan_takes_nil, wpPlan_leaf]
      simp only [List.drop_succ_cons, List.drop_zero]
      clear eg4 esz hy3
      go_wp2_with fail
      go_ret
      rw [← HPO.out, if_pos HRZ.out.1, ← HER.out, HRZ.out.1, HRZ.out.2]
      exact ⟨rfl, _, HSEP.out, HTF.out⟩
    · have h14 : S2.2 = 14 := hE2.resolve_left h2
      have HRZ : Hid (RR.2 = 14 ∧ RR.1 = S2.1) := by refine (?_ : _ ∧ _); rw [HB2.out]; exact ⟨h14, rfl⟩
      rw [h14]
      have HTF : Hid (Turn (fun k => f1 k ∨ k = m ∨ k = Bb ∨ k = Bh) f9 w x9) := HT9.out.less fun k hk => .inl (.inl hk)
      clear hE2 h1 h2 h14
      go_wp2_with fail
      go_ret
      rw [← HPO.out, if_neg (by rw [HRZ.out.1]; omega), ← HER.out, HRZ.out.1, HRZ.out.2]
      exact ⟨rfl, _, HR9.out, HTF.out⟩
  · have h14 : S1.2 = 14 := k5.resolve_left h1
    have HRZ : Hid (RR.2 = 14 ∧ RR.1 = S1.1) := by refine (?_ : _ ∧ _); rw [HBAT.out, if_neg h1]; exact ⟨h14, rfl⟩
    rw [h14]
    have HTF : Hid (Turn (fun k => f1 k ∨ k = m ∨ k = Bb ∨ k = Bh) f5 w x5) := HT5.out.less fun k hk => .inl (.inl hk)
    clear k5 h1 h14
    go_wp2_with fail
    go_ret
    rw [← HPO.out, if_neg (by rw [HRZ.out.1]; omega), ← HER.out, HRZ.out.1, HRZ.out.2]
    exact ⟨rfl, _, HR5.out, HTF.out⟩
end
end Go.Proofs.YtbdfllamhcodjaaGreat

/- The developers' Commit: plain facts; what it has, when the images are made. -/
namespace Go.Proofs.YtbdfllamhcodjaaGreat
open Go.RowKit Go.Shelf
set_option linter.unusedVariables false

theorem cmt_none (S : RS) {M : MS} {b : List Int} (h : M.dif b = []) : S.cmt M b = (S, 0) ∧ M.next b = M := by
  unfold RS.cmt MS.bats MS.next
  rw [if_pos h, if_pos h]
  exact ⟨rfl, rfl⟩
theorem cmt_full (S : RS) {M : MS} {b : List Int} (h : M.dif b ≠ []) (hf : M.full b) : (S.cmt M b = if (S.bat [M.homW, M.supW]).2 = 0 then (S.bat [M.homW, M.supW]).1.bat (M.appW b) else S.bat [M.homW, M.supW]) ∧ M.next b = M.ckpt.app b := by
  unfold RS.cmt MS.bats MS.next
  rw [if_neg h, if_pos hf, if_neg h, if_pos hf]
  exact ⟨RS.bat_append _ _ _, rfl⟩
theorem cmt_room (S : RS) {M : MS} {b : List Int} (h : M.dif b ≠ []) (hf : ¬ M.full b) : S.cmt M b = S.bat (M.appW b) ∧ M.next b = M.app b := by
  unfold RS.cmt MS.bats MS.next
  rw [if_neg h, if_neg hf, if_neg h, if_neg hf]
  exact ⟨rfl, rfl⟩
/-- The images of pages that are picked. -/
def imgsP (now : List (List Int)) {m : Nat} (xs : List (Fin m)) : List Img := xs.map fun x => ⟨(x.1 : Int), pgAt now x.1⟩
theorem imgsP_snoc (now : List (List Int)) {m : Nat} (pre : List (Fin m)) (x : Fin m) : imgR (imgsP now (pre ++ [x])) = imgR (imgsP now pre) ++ [(⟨(x.1 : Int), pgAt now x.1⟩ : Img).cells] := by
  unfold imgR imgsP
  rw [List.map_append, List.map_append]
  rfl
theorem dif_imgs {S : RS} {M : MS} {b : List Int} (h : M.Ok S) (hl : b.length = M.b.length) : M.dif b = imgsP (cutL b) (selP M.g.P (difP (cutL M.b) (cutL b))) := by
  unfold MS.dif
  rw [dif_sel, cutL_len, h.pcs' hl]
  rfl
/-- What a tail of a Commit needs of the rig and the Meta. -/
structure TailOk (S : RS) (M : MS) (t : List Img) : Prop where
  fu : S.fuse ≤ 1000000
  d : 0 ≤ S.done ∧ S.done ≤ 900000
  few : S.Few 250
  n0 : S.n0 ≤ 4096
  c : 2 + M.g.C ≤ S.n0
  good : M.g.good
  at0 : M.at0 < M.g.C
  seq : 0 ≤ M.seq ∧ M.seq ≤ 1000000
  txn : TxnOk M.g.C t
  room : -1000000 ≤ M.room ∧ M.room ≤ 1000000
theorem MS.Ok.tail {S : RS} {M : MS} {b : List Int} (h : M.Ok S) (hr : S.Rdy) (hl : b.length = M.b.length) (hb : IsBytes b) (hd : M.dif b ≠ []) : TailOk S M (M.dif b) := by
  have hN := Geo.nats h.good
  have hrm := h.room
  have hu := h.used
  exact ⟨hr.fu, ⟨hr.d0, by have := hr.d1; omega⟩, hr.few.mono (by omega), hr.n0, by omega, h.good, h.at0, h.seq, h.txn hl hb hd, by unfold MS.room; have := hN.c; have := hN.c2; omega⟩
theorem MS.Ok.tail2 {S : RS} {M : MS} {b : List Int} (h : M.Ok S) (hr : S.Rdy) (hl : b.length = M.b.length) (hb : IsBytes b) (hd : M.dif b ≠ []) : TailOk (S.bat [M.homW, M.supW]).1 M.ckpt (M.dif b) := by
  have hN := Geo.nats h.good
  have hrm := h.room
  obtain ⟨hm1, hm2, hm3, hm4⟩ := h.homB
  obtain ⟨hs1, hs2, hs3, hs4⟩ := h.supB
  obtain ⟨k1, k2, k3, k4, k5⟩ := RS.Rdy.st (m := 100) (d := 0) (l := M.homW) hr.few ⟨hr.d0, by have := hr.d1; omega⟩ hr.fu (by omega) hm1 hm2
  obtain ⟨j1, j2, j3, j4, j5⟩ := RS.Rdy.st (S := (S.st M.homW).1) (m := 101) (d := 0 + M.homW.length + 1) (l := M.supW) k2 k3 k4 (by omega) (by rw [k1]; exact hs1) hs2
  have key : (S.bat [M.homW, M.supW]).1.n0 = S.n0 ∧ (S.bat [M.homW, M.supW]).1.Few 250 ∧ (0 ≤ (S.bat [M.homW, M.supW]).1.done ∧ (S.bat [M.homW, M.supW]).1.done ≤ 900000) ∧ (S.bat [M.homW, M.supW]).1.fuse ≤ 1000000 := by
    rw [RS.bat_two]
    split
    · exact ⟨j1.trans k1, j2.mono (by omega), ⟨j3.1, by have := j3.2; omega⟩, j4⟩
    · exact ⟨k1, k2.mono (by omega), ⟨k3.1, by have := k3.2; omega⟩, k4⟩
  obtain ⟨e1, e2, e3, e4⟩ := key
  have hn := hr.n0
  refine ⟨e4, e3, e2, by rw [e1]; exact hn, ?_, h.good, h.at0, h.seq, h.txn hl hb hd, ?_⟩
  · rw [e1]; show 2 + M.g.C ≤ _; omega
  · show -1000000 ≤ M.g.r - ((0 : Nat) : Int) ∧ M.g.r - ((0 : Nat) : Int) ≤ 1000000
    have := hN.c; have := hN.c2; omega
theorem app_appW (S : RS) (M : MS) (b : List Int) : S.app 2 M.g.C M.at0 M.seq (M.dif b) = S.bat (M.appW b) := RS.app_bat S 2 M.g.C M.at0 M.seq (M.dif b)
theorem RS.bat_e : ∀ (ls : List Wrs) (S : RS), (S.bat ls).2 = 0 ∨ (S.bat ls).2 = 14
  | [], _ => .inl rfl
  | l :: ls, S => by
    rw [RS.bat_cons]
    split
    · exact .inr rfl
    · split
      · exact .inr rfl
      · exact RS.bat_e ls _
theorem app_e (S : RS) (F C A : Nat) (q : Int) (t : List Img) : (S.app F C A q t).2 = 0 ∨ (S.app F C A q t).2 = 14 := by
  rw [RS.app_bat]
  exact RS.bat_e _ _
/-- Three blocks are as they were. -/
def KeepT (A B C : Nat) (W : World) : Type := { x : World // x.heap[A]? = W.heap[A]? ∧ x.heap[B]? = W.heap[B]? ∧ x.heap[C]? = W.heap[C]? }
instance (A B C : Nat) (W : World) : Nonempty (KeepT A B C W) := ⟨⟨W, rfl, rfl, rfl⟩⟩
end Go.Proofs.YtbdfllamhcodjaaGreat

/- A region that draws its order and whose head neither panics nor leaves: the walk asks nothing of the post, and the head may be all of it. No program is named. -/
namespace Go.Proofs.YtbdfllamhcodjaaGreat
open Go.RowKit
set_option linter.unusedVariables false

section
variable {P : Program} {ops : Array Oper} {Q : Exit → Act → World → Prop} {md : Region.Mode} {S : World → Prop}

theorem wp_noExit {o : Oper} {a : Act} {w : World} {K : Act → World → Prop} (h : o.wp P a w K NoExit) : o.wp P a w K Q := by
  unfold Oper.wp at *
  generalize (execOp a.eval o).run P w = r at *
  cases r with
  | ok n w' =>
    cases n <;> simp only [Oper.upon] at h ⊢ <;>
      first
        | exact h
        | exact Calls.mono h (fun e w'' he => by cases e <;> first | exact he | exact he.elim | (obtain ⟨a', w', h'⟩ := he; exact h'.elim))
  | halt x w' => cases x <;> simp only [Oper.upon] at h ⊢ <;> first | exact h | exact h.elim
theorem wpOp_noExit {i : Nat} {K : Act → World → Prop} {a : Act} {w : World} (h : wpOp P ops NoExit i K a w) : wpOp P ops Q i K a w := by
  unfold wpOp at *
  cases ho : ops[i]? with
  | none => simpa [ho] using h
  | some o =>
    simp only [ho] at h ⊢
    by_cases hw : Region.wanted o (yielded ops a.tmps) = true
    · simp only [hw, if_true] at h ⊢
      rcases h with h | ⟨_, _, _, h'⟩
      · exact .inl (wp_noExit h)
      · exact h'.elim
    · simp only [hw] at h ⊢
      exact h
theorem wpAnyM_noExit {n : Nat} {L : Array Bool → Act → World → Prop} : ∀ (f : Nat) (listed : Array Bool) (a : Act) (w : World), wpAnyM P md ops NoExit S n L f listed a w → wpAnyM P md ops Q S n L f listed a w
  | 0, _, _, _, h => h
  | f + 1, _, _, _, h => ⟨h.1, fun i hi => ⟨(h.2 i hi).1, wpOp_mono (fun a' w' h' => ⟨h'.1, wpAnyM_noExit f _ a' w' h'.2⟩) (wpOp_noExit (h.2 i hi).2)⟩⟩

/-- What waits for the head waits, as long as one of the head is left. -/
def Waits (md : Region.Mode) (ops : Array Oper) (n : Nat) : Prop := ∀ (listed : Array Bool) (i : Nat), HeadInv md ops n listed → i < n → listed.getD i true = false → ∀ j ∈ Region.ready md ops listed, j < n

theorem waits_tail {n : Nat} (hs : Region.sinkB md ops n = true) (hc : Region.chainB md ops n = true) (hn : n < ops.size) : Waits md ops n := fun listed i inv hin hun j hj => by
  rcases Nat.lt_or_ge j n with h | h
  · exact h
  · exact absurd hj (tail_waits hs hc hn inv _ i rfl hin hun j h)
theorem waits_all : Waits md ops ops.size := fun listed i _ _ _ j hj => by
  obtain ⟨_, oj, hoj, _⟩ := mem_ready.1 hj
  exact (Array.getElem?_eq_some_iff.1 hoj).1

theorem wpAnyM_firstN {n i : Nat} {oi : Oper} {v : Value} {L : Array Bool → Act → World → Prop} (hi : ops[i]? = some oi) (hsel : ∀ (j : Nat) (o : Oper) cs b, ops[j]? = some o → o.op ≠ .select cs b)
    (hT : Waits md ops n) (hin : i < n)
    (hdone : ∀ listed a w, L listed a w → ∀ j ∈ Region.ready md ops listed, n ≤ j) :
    ∀ (f : Nat) (listed : Array Bool) (a : Act) (w : World), HeadInv md ops n listed →
      (∀ j oj, ops[j]? = some oj → j ≠ i → listed.getD j true = false → (∀ e ∈ oj.after, Region.binds md e = true → e.on ≠ i) → oi.apart ops oj = true) →
      i ∈ Region.ready md ops listed → YieldsIf P ops S oi v a → S w →
      wpAnyM P md ops NoExit S n L f (listed.setIfInBounds i true) (a.put oi.dst v) w → wpAnyM P md ops NoExit S n L (f + 1) listed a w := by
  intro f
  induction f with
  | zero =>
    intro listed a w inv _ hr hy hS H
    have hun := (mem_ready.1 hr).1
    refine ⟨fun h => (by rw [h] at hr; cases hr), fun j hj => ?_⟩
    have hjn : j < n := hT listed i inv hin hun j hj
    refine ⟨hjn, ?_⟩
    by_cases hji : j = i
    · subst hji; exact hy.wpOp hi hS ⟨hS, H⟩
    · have := hdone _ _ _ H j (ready_mono hj hji)
      omega
  | succ f ih =>
    intro listed a w inv hfree hr hy hS H
    have hun := (mem_ready.1 hr).1
    refine ⟨fun h => (by rw [h] at hr; cases hr), fun j hj => ?_⟩
    have hjn : j < n := hT listed i inv hin hun j hj
    refine ⟨hjn, ?_⟩
    by_cases hji : j = i
    · subst hji; exact hy.wpOp hi hS ⟨hS, H⟩
    · have h1 := (H.2 j (ready_mono hj hji)).2
      obtain ⟨hjun, oj, hoj, hall⟩ := mem_ready.1 hj
      have hnot : ∀ e ∈ oj.after, Region.binds md e = true → e.on ≠ i := fun e he hb heq => by
        have h1 := hall e he hb
        rw [heq, getD_both hun] at h1
        cases h1
      have h2 := wpOp_putIf hoj (hfree j oj hoj hji hjun hnot) (fun cs b => hsel i oi cs b hi) (fun cs b => hsel j oj cs b hoj) (fun c a w h => h) hy h1
      have hfree' : ∀ k ok, ops[k]? = some ok → k ≠ i → (listed.setIfInBounds j true).getD k true = false →
          (∀ e ∈ ok.after, Region.binds md e = true → e.on ≠ i) → oi.apart ops ok = true := fun k ok hk hki hun hno => by
        refine hfree k ok hk hki ?_ hno
        by_cases hjk : j = k
        · subst hjk; exact hjun
        · rw [getD_set_ne true hjk] at hun; exact hun
      refine wpOp_mono (fun a' w' h3 => ⟨h3.2.1, ih (listed.setIfInBounds j true) a' w' (inv.set hj hjn) hfree' (ready_mono hr (Ne.symm hji)) h3.1 h3.2.1 ?_⟩) h2
      rw [Array.setIfInBounds_comm _ _ hji]
      exact h3.2.2

/-- The walk: the head has no way out. -/
def wpPlanN (P : Program) (l : List Oper) (Q : Exit → Act → World → Prop) (S : World → Prop) (n : Nat) : Plan → Act → World → Prop
  | .leaf, a, w => wpList P l.toArray Q (l.drop n) a w
  | .take i next, a, w => wpQuiet P l.toArray S (fun a' => wpPlanN P l Q S n next a' w) [nth l i] a
  | .one i next, a, w => wpList P l.toArray (planPost S NoExit (wpPlanN P l Q S n next)) [nth l i] a w
  | .two i j n1 n2, a, w => wpList P l.toArray (planPost S NoExit (wpPlanN P l Q S n n1)) [nth l i] a w ∧ wpList P l.toArray (planPost S NoExit (wpPlanN P l Q S n n2)) [nth l j] a w

theorem wpPlanN_leaf {l : List Oper} {n : Nat} {a : Act} {w : World} : wpPlanN P l Q S n .leaf a w = wpList P l.toArray Q (l.drop n) a w := rfl
theorem wpPlanN_one {l : List Oper} {n i : Nat} {p : Plan} {a : Act} {w : World} : wpPlanN P l Q S n (.one i p) a w = wpList P l.toArray (planPost S NoExit (wpPlanN P l Q S n p)) [nth l i] a w := rfl
theorem wpPlanN_two {l : List Oper} {n i j : Nat} {p q : Plan} {a : Act} {w : World} : wpPlanN P l Q S n (.two i j p q) a w = (wpList P l.toArray (planPost S NoExit (wpPlanN P l Q S n p)) [nth l i] a w ∧ wpList P l.toArray (planPost S NoExit (wpPlanN P l Q S n q)) [nth l j] a w) := rfl
theorem wpPlanN_takes_nil {l : List Oper} {n : Nat} {p : Plan} {a : Act} {w : World} : wpPlanN P l Q S n (.takes [] p) a w = wpPlanN P l Q S n p a w := rfl
theorem wpPlanN_takes_cons {l : List Oper} {n i : Nat} {is : List Nat} {p : Plan} {a : Act} {w : World} : wpPlanN P l Q S n (.takes (i :: is) p) a w = wpQuiet P l.toArray S (fun a' => wpPlanN P l Q S n (.takes is p) a' w) [nth l i] a := rfl

theorem wpAnyM_planN {l : List Oper} {n : Nat} (hsel : Region.noSelect l.toArray = true) (hT : Waits md l.toArray n) (hn : n ≤ l.length) :
    ∀ (p : Plan) (f : Nat) (listed : Array Bool) (a : Act) (w : World), HeadInv md l.toArray n listed → planB md l n p f listed = true → S w → wpPlanN P l Q S n p a w →
      wpAnyM P md l.toArray NoExit S n (fun listed' a' w' => Region.seqB md l.toArray (l.length - n) n listed' = true ∧ wpList P l.toArray Q (l.drop n) a' w') f listed a w := by
  intro p
  induction p with
  | leaf =>
    intro f listed a w inv hB hS h
    simp only [planB, Bool.and_eq_true, decide_eq_true_eq] at hB
    obtain ⟨rfl, hB⟩ := hB
    exact ⟨hB, h⟩
  | take i next ih =>
    intro f listed a w inv hB hS h
    simp only [planB, Bool.and_eq_true, decide_eq_true_eq] at hB
    obtain ⟨⟨⟨⟨⟨hf, hin⟩, hrd⟩, hr⟩, hfr⟩, hB⟩ := hB
    obtain ⟨f, rfl⟩ : ∃ g, f = g + 1 := ⟨f - 1, by omega⟩
    have ho : l.toArray[i]? = some (nth l i) := by simpa using nth_get l i (by omega)
    have hr' : i ∈ Region.ready md l.toArray listed := by simpa using hr
    simp only [wpPlanN, wpQuiet] at h
    obtain ⟨v, hy, hK⟩ := yieldsIf_of_quiet (i := i) hrd ⟨w, hS⟩ h
    exact wpAnyM_firstN ho (Region.noSelect_spec hsel) hT hin (fun listed a w hL => seqB_ready hL.1) f listed a w inv (Region.free_spec ho hfr) hr' hy hS
      (ih f _ _ w (inv.set hr' hin) (by simpa using hB) hS hK)
  | one i next ih =>
    intro f listed a w inv hB hS h
    simp only [planB, Bool.and_eq_true, decide_eq_true_eq] at hB
    obtain ⟨⟨⟨hf, hin⟩, hr⟩, hB⟩ := hB
    obtain ⟨f, rfl⟩ : ∃ g, f = g + 1 := ⟨f - 1, by omega⟩
    refine ⟨by rw [hr]; simp, fun j hj => ?_⟩
    have hj' := hj
    rw [hr] at hj
    obtain rfl : j = i := by simpa using hj
    exact ⟨hin, wpOp_mono (fun a' w' h' => ⟨h'.1, ih f _ _ w' (inv.set hj' hin) (by simpa using hB) h'.1 h'.2⟩) (wpOp_of_one (by omega) h)⟩
  | two i k n1 n2 ih1 ih2 =>
    intro f listed a w inv hB hS h
    simp only [planB, Bool.and_eq_true, decide_eq_true_eq] at hB
    obtain ⟨⟨⟨⟨⟨hf, hin⟩, hkn⟩, hr⟩, hB1⟩, hB2⟩ := hB
    obtain ⟨f, rfl⟩ : ∃ g, f = g + 1 := ⟨f - 1, by omega⟩
    obtain ⟨g1, g2⟩ := h
    refine ⟨by rw [hr]; simp, fun j hj => ?_⟩
    have hj' := hj
    rw [hr] at hj
    rcases (by simpa using hj : j = i ∨ j = k) with rfl | rfl
    · exact ⟨hin, wpOp_mono (fun a' w' h' => ⟨h'.1, ih1 f _ _ w' (inv.set hj' hin) (by simpa using hB1) h'.1 h'.2⟩) (wpOp_of_one (by omega) g1)⟩
    · exact ⟨hkn, wpOp_mono (fun a' w' h' => ⟨h'.1, ih2 f _ _ w' (inv.set hj' hkn) (by simpa using hB2) h'.1 h'.2⟩) (wpOp_of_one (by omega) g2)⟩

/-- May the region be gone so? The head may be all of it. -/
def planOkN (l : List Oper) (n : Nat) (p : Plan) : Bool :=
  Region.noSelect l.toArray && (decide (n = l.length) || (decide (n < l.length) && Region.sinkB .any l.toArray n && Region.chainB .any l.toArray n)) && planB .any l n p n (Array.replicate l.length false)

theorem wpAny_planN {l : List Oper} {a : Act} {w : World} (S : World → Prop) (n : Nat) (p : Plan) (hB : planOkN l n p = true) (hS : S w)
    (h : wpPlanN P l Q S n p a w) : wpAny P .any l.toArray Q l.toArray.size (Array.replicate l.toArray.size false) a w := by
  simp only [planOkN, Bool.and_eq_true, Bool.or_eq_true, decide_eq_true_eq] at hB
  obtain ⟨⟨hsel, hnn⟩, hp⟩ := hB
  have hn : n ≤ l.length := by omega
  have hT : Waits .any l.toArray n := by
    rcases hnn with rfl | ⟨⟨hn, hs⟩, hc⟩
    · have := waits_all (md := .any) (ops := l.toArray)
      simpa using this
    · exact waits_tail hs hc (by simpa using hn)
  have inv0 : HeadInv .any l.toArray n (Array.replicate l.toArray.size false) :=
    ⟨by simp, fun j oj _ hl => (by rw [getD_replicate_false] at hl; cases hl), fun t _ ht => getD_in (by simpa using ht) (getD_replicate_false _ _)⟩
  have H := wpAnyM_planN (md := .any) hsel hT hn p n _ a w inv0 (by simpa using hp) hS h
  have := wpAny_of_M (g := l.length - n) (fun listed a' w' hL => by
    have := wpAny_of_seq (md := .any) (Q' := Q) (l.drop n) n listed a' w' (fun j => by simp [List.getElem?_drop]) (by rw [List.length_drop]; exact hL.1) hL.2
    rwa [List.length_drop] at this) _ _ _ _ (wpAnyM_noExit (Q := Q) _ _ _ _ H)
  rw [show n + (l.length - n) = l.toArray.size by simp; omega] at this
  exact this

/-- **A REGION THAT DRAWS, its head with no way out.** -/
theorem region_planN {id : Nat} {a : Act} {w : World} {l : List Oper} (S : World → Prop) (n : Nat) (p : Plan) (hm : P.follows .mixedOrders = true) (hB : planOkN l n p = true) (hS : S w.drew)
    (h : wpPlanN P l Q S n p a w.drew) : (Code.region id l.toArray true).wp P Q a w :=
  wp_region_any hm (wpAny_planN S n p hB hS h)
end
end Go.Proofs.YtbdfllamhcodjaaGreat

