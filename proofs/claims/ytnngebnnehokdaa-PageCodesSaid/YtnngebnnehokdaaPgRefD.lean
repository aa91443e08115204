/- The document's own Decode. -/
import Derived.Test.YtnngebnnehokdaaPgSec
import Derived.Test.YtnngebnnehokdaaPgRefE
namespace Go.Proofs.Ytnngebnnehokdaa
open Go.RowKit
set_option linter.unusedVariables false
attribute [-simp] Try.isAgg27 Try.zeroValue27 Try.isAgg33 Try.zeroValue33
attribute [-go_sem] loadVar storeVar
attribute [local go_sem] zero_blk build_blk zero_sec build_sec build_sec0 loadVar_open2 storeVar_open2

theorem u8s_inj {a b : List Int} (h : u8s a = u8s b) : a = b := by
  have e := congrArg (List.map intOf) h
  unfold u8s at e
  rw [List.map_map, List.map_map, show intOf ∘ Value.int .u8 = id from by funext x; rfl] at e
  simpa using e
theorem zcs_one : ∀ v ∈ zcs, v.oneCell' = true := Sct.cells_one zsct
/-- The three ways that Decode goes. -/
theorem dec_ways {bs : List Int} (hb : IsBytes bs) (hl : bs.length = 64) :
    ((Sct.of bs).code = fillB 0 ∧ (Sct.of bs).codeE = 11 ∧ decS bs = zsct ∧ decE bs = 11) ∨
    (∃ c, (Sct.of bs).code = c ∧ IsBlk c ∧ alike c (u8s bs) = false ∧ (Sct.of bs).codeE = 0 ∧ decS bs = zsct ∧ decE bs = 11) ∨
    (∃ c, (Sct.of bs).code = c ∧ IsBlk c ∧ alike c (u8s bs) = true ∧ (Sct.of bs).codeE = 0 ∧ decS bs = Sct.of bs ∧ decE bs = 0) := by
  unfold Sct.code Sct.codeE decS decE decOk
  by_cases hf : (Sct.of bs).fits = true
  · by_cases hq : (Sct.of bs).bytes = bs
    · refine .inr (.inr ⟨_, rfl, ?_, ?_, ?_⟩)
      · rw [if_pos hf]; exact isBlk_u8s (Sct.bytes_length (of_ok hb hl))
      · rw [if_pos hf, hq]; exact alike_iff.2 rfl
      · simp [hf, hq]
    · refine .inr (.inl ⟨_, rfl, ?_, ?_, ?_⟩)
      · rw [if_pos hf]; exact isBlk_u8s (Sct.bytes_length (of_ok hb hl))
      · rw [if_pos hf]; exact alike_not (fun h => hq (u8s_inj h))
      · simp [hf, hq]
  · exact .inl (by simp [hf])

set_option maxRecDepth 100000 in
set_option maxHeartbeats 16000000 in
theorem refDecode (bs : List Int) (hb : IsBytes bs) (hl : bs.length = 64) (w : World) :
    Calls Try.prog 12 #[.agg (u8s bs).toArray] w fun e w' => e = .returned (.tuple #[.agg (decS bs).cells.toArray, .int .i64 (decE bs)]) ∧ Below w.heap.size w w' := by
  obtain ⟨W1, hW1⟩ : ∃ W1, w.alloc (.cells (u8s bs).toArray 27) = W1 := ⟨_, rfl⟩
  have hB1 : Below w.heap.size w W1 := by rw [← hW1]; exact (Below.refl _ _).alloc (Nat.le_refl _) _
  have hz1 : W1.heap.size = w.heap.size + 1 := by rw [← hW1]; simp
  have hr1 : W1.heap[w.heap.size]? = some (.cells (u8s bs).toArray 27 (0, 0)) := by rw [← hW1]; exact heap_alloc_new w _
  obtain ⟨W, hW⟩ : ∃ W, W1.alloc (.cells zcs.toArray 33) = W := ⟨_, rfl⟩
  have hB2 : Below W1.heap.size W1 W := by rw [← hW]; exact (Below.refl _ _).alloc (Nat.le_refl _) _
  have HB : Hid (Below w.heap.size w W) := hB1.trans (hB2.mono hB1.size)
  have HR : Hid (W.heap[w.heap.size]? = some (.cells (u8s bs).toArray 27 (0, 0))) := (hB2.block _ (by omega)).trans hr1
  have HR2 : Hid (W.heap[w.heap.size + 1]? = some (.cells zcs.toArray 33 (0, 0))) := by
    have := heap_alloc_new W1 (.cells zcs.toArray 33)
    rw [hW, hz1] at this
    exact this
  have HZ : Hid (W.heap.size = w.heap.size + 2) := by show _ = _; rw [← hW, World.size_alloc, hz1]
  have HBB := Lib.hid hb
  have HL := Lib.hid hl
  have HOK := Lib.hid (of_ok hb hl)
  have HIX := Lib.hid (of_index hb hl)
  obtain ⟨mk, hmk⟩ : ∃ q, bs[0]?.getD 0 = q := ⟨_, rfl⟩
  obtain ⟨sq, hsq⟩ : ∃ q, getL ((bs.drop 1).take 4) = q := ⟨_, rfl⟩
  obtain ⟨ix, hix⟩ : ∃ q, getL ((bs.drop 5).take 2) = q := ⟨_, rfl⟩
  have c0 : ∀ y : Ext W, y.1.cell? ⟨w.heap.size, 0, none⟩ = some (.int .u8 mk) := fun y => by
    rw [y.2.cell (p := ⟨w.heap.size, 0, none⟩) (by have := HZ.out; show w.heap.size < _; omega), cell_of_row W _ 0 _ _ _ HR.out, ← hmk]
    simp [u8s, hl]
  have s0 : 0 ≤ sq := by rw [← hsq]; exact HOK.out.seq.1
  have s1 : sq < 4294967296 := by rw [← hsq]; exact HOK.out.seq.2
  have i0 : 0 ≤ ix := by rw [← hix]; exact HIX.out.1
  have i1 : ix ≤ 65535 := by rw [← hix]; exact HIX.out.2
  have hra : W.rangeAt w.heap.size 0 (u8s bs) := row_range HR.out
  have hlt : w.heap.size < W.heap.size := by have := HZ.out; omega
  have HG1 : Hid (∀ x : World, Below W.heap.size W x → Calls Try.prog 26 #[.slice (some ⟨w.heap.size, 1, none⟩) 4 63] x fun e w' => e = .returned (.int .u64 sq) ∧ w' = x) := fun x hx => by
    have := refGet_any _ _ x ((sl_part (k := 1) (n := 4) (cap := 63) hra hlt (by omega) (by omega) (by simp [maxLen])).below hx) (hb.cut 1 4)
    rwa [hsq] at this
  have HG2 : Hid (∀ x : World, Below W.heap.size W x → Calls Try.prog 26 #[.slice (some ⟨w.heap.size, 5, none⟩) 2 59] x fun e w' => e = .returned (.int .u64 ix) ∧ w' = x) := fun x hx => by
    have := refGet_any _ _ x ((sl_part (k := 5) (n := 2) (cap := 59) hra hlt (by omega) (by omega) (by simp [maxLen])).below hx) (hb.cut 5 2)
    rwa [hix] at this
  have HSB : Hid (∀ x : World, Below W.heap.size W x → Sl .u8 x (.slice (some ⟨w.heap.size, 7, none⟩) 48 57) ((bs.drop 7).take 48)) := fun x hx => (sl_part (k := 7) (n := 48) (cap := 57) hra hlt (by omega) (by omega) (by simp [maxLen])).below hx
  -- the variable p
  obtain ⟨x1, hx1⟩ : ∃ x, W.drew.alloc (.cells zcs.toArray 33) = x := ⟨_, rfl⟩
  have K0 : Hid (Below W.heap.size W W.drew) := (Below.refl _ W).drew
  have K1 : Hid (Below W.heap.size W x1) := by rw [← hx1]; exact ((Below.refl _ W).drew).alloc (Nat.le_refl _) _
  have k1 : x1.heap[W.heap.size]? = some (.cells zcs.toArray 33 (0, 0)) := by rw [← hx1]; exact heap_alloc_new W.drew _
  have zz : zcs.toArray.size = 51 := by simp [zcs, u8s]
  have hbl : ((bs.drop 7).take 48).length = 48 := by simp [hl]
  obtain ⟨x2, hx2⟩ : ∃ x, x1.setCells W.heap.size 0 (Value.int .u8 mk :: .int .u32 sq :: .int .i64 ix :: u8s (List.replicate 48 0)) = x := ⟨_, rfl⟩
  have ST0 : Hid ((storeVar 33 ⟨W.heap.size, 0, none⟩ (.agg (Value.int .u8 mk :: .int .u32 sq :: .int .i64 ix :: u8s (List.replicate 48 0)).toArray)).run Try.prog x1 = .ok () x2) := by
    rw [← hx2]
    refine store_sec (row_there k1 0 51 (by rw [zz]; exact Nat.le_refl _)) (by simp [u8s]) (fun v hv => ?_)
    simp only [List.mem_cons] at hv
    rcases hv with rfl | rfl | rfl | hv
    · rfl
    · rfl
    · rfl
    · exact u8s_one _ v hv
  have t2 : x2.there W.heap.size 0 51 := by rw [← hx2]; exact World.there_setCells (row_there k1 0 51 (by rw [zz]; exact Nat.le_refl _)) _ _ _
  have ra2 : x2.rangeAt W.heap.size 0 (Value.int .u8 mk :: .int .u32 sq :: .int .i64 ix :: u8s (List.replicate 48 0)) := by
    rw [← hx2]; exact World.rangeAt_setCells_same x1 _ 0 _ (by simpa [u8s] using row_there k1 0 51 (by rw [zz]; exact Nat.le_refl _))
  have K2 : Hid (Below W.heap.size W x2) := by rw [← hx2]; exact K1.out.trans ((below_cells (Nat.le_refl _) _ _ _).mono (Nat.le_refl _))
  have t2d : x2.drew.there W.heap.size 3 48 := fun j hj => by
    have := t2 (3 + j) (by omega)
    rwa [Nat.zero_add] at this
  have KD : Below W.heap.size W x2.drew := K2.out.trans (((Below.refl _ x2).drew).mono K2.out.size)
  have rc := run_copy_bytes (w := x2.drew) (B := W.heap.size) (o := 3) (dLen := 48) (dCap := 48) 3 (HSB.out x2.drew KD) (by rw [hbl]; exact Nat.le_refl _) (by rw [hbl]; exact t2d)
  obtain ⟨x3, hx3⟩ : ∃ x, x2.drew.setCells W.heap.size 3 (u8s ((bs.drop 7).take 48)) = x := ⟨_, rfl⟩
  rw [hx3, hbl] at rc
  have RC0 := Lib.hid rc
  have K3 : Hid (Below W.heap.size W x3) := by rw [← hx3]; exact KD.trans ((below_cells (Nat.le_refl _) _ _ _).mono (Nat.le_refl _))
  have ra3 : x3.rangeAt W.heap.size 0 (Sct.of bs).cells := by
    rw [show (Sct.of bs).cells = [Value.int .u8 mk, .int .u32 sq, .int .i64 ix] ++ u8s ((bs.drop 7).take 48) by rw [← hmk, ← hsq, ← hix]; rfl]
    refine rangeAt_app ?_ ?_
    · rw [← hx3]
      refine World.rangeAt_setCells_apart (w := x2.drew) (cs := [Value.int .u8 mk, .int .u32 sq, .int .i64 ix]) (fun j x hx => ra2 j x ?_) W.heap.size 3 (u8s ((bs.drop 7).take 48)) (by simp)
      match j, hx with
      | 0, hx => exact hx
      | 1, hx => exact hx
      | 2, hx => exact hx
      | j + 3, hx => simp at hx
    · rw [← hx3]; exact World.rangeAt_setCells_same x2.drew _ 3 _ (by rw [u8s_length, hbl]; exact t2d)
  have L30 : Hid ((loadVar 33 ⟨W.heap.size, 0, none⟩).run Try.prog x3 = .ok (.agg (Sct.of bs).cells.toArray) x3) := load_sec ra3 (Sct.cells_length (by show ((bs.drop 7).take 48).length = 48; exact hbl))
  have RA3 := Lib.hid ra3
  have HWY := Lib.hid (dec_ways hb hl)
  have ZZ : Hid (zcs.length = 51) := by show _ = _; simp [zcs, u8s]
  have CL : Hid ((Sct.of bs).cells.length = 51) := Sct.cells_length (by show ((bs.drop 7).take 48).length = 48; exact hbl)
  have H0 : Hid (w.heap.size < W.heap.size) := hlt
  have H3 : Hid (W.heap.size < x3.heap.size) := by
    have h1 : x1.heap.size = W.heap.size + 1 := by rw [← hx1, World.size_alloc]; rfl
    have h2 : x1.heap.size ≤ x2.heap.size := by rw [← hx2]; exact (below_cells (Nat.le_refl W.heap.size) _ _ x1).size
    have h3 : x2.heap.size ≤ x3.heap.size := by rw [← hx3]; exact (below_cells (Nat.le_refl W.heap.size) _ _ x2.drew).size
    show _ < _
    omega
  have hmx : Try.prog.follows .mixedOrders = true := by kernel_rfl
  clear rc t2 t2d ra2 ra3 k1 zz hra hlt hmk hsq hix hb hl hr1 hB1 hB2 hx2 hx3 KD
  go_enter Try.func12, Try.ntmps12
  go_wp2_with fail
  refine region_plan (fun x => ∃ y : Ext W, x = y.1) 10 (.takes [0, 1, 2, 5] (.two 3 9 (.takes [4] (.two 6 9 (.takes [7] (.two 8 9 (.one 9 .leaf) (.one 8 .leaf))) (.one 6 (.takes [7] (.one 8 .leaf))))) (.one 3 (.takes [4] (.one 6 (.takes [7] (.one 8 .leaf))))))) hmx (by kernel_rfl) (by intro c x v a w h; cases x <;> exact h) ⟨⟨W.drew, K0.out⟩, rfl⟩ ?_
  repeat (rw [wpPlan_takes_cons]; simp only [nth_zero, nth_succ]; go_big_quiet_step (fail); refine wpQuiet_nil ?_)
  rw [wpPlan_takes_nil]
  refine ⟨?_, ?_⟩
  · simp only [nth_zero, nth_succ]
    go_wp2_with fail
    go_at_call 26
    refine (HG1.out W.drew K0.out).mono ?_
    rintro e w' ⟨rfl, hx⟩
    obtain rfl := hx.symm
    clear hx
    go_wp2_with fail
    refine planPost_mk ⟨⟨W.drew, K0.out⟩, rfl⟩ ?_
    repeat (rw [wpPlan_takes_cons]; simp only [nth_zero, nth_succ]; go_big_quiet_step (fail); refine wpQuiet_nil ?_)
    rw [wpPlan_takes_nil]
    refine ⟨?_, ?_⟩
    · simp only [nth_zero, nth_succ]
      go_wp2_with fail
      go_at_call 26
      refine (HG2.out W.drew K0.out).mono ?_
      rintro e w' ⟨rfl, hx⟩
      obtain rfl := hx.symm
      clear hx
      go_wp2_with fail
      refine planPost_mk ⟨⟨W.drew, K0.out⟩, rfl⟩ ?_
      repeat (rw [wpPlan_takes_cons]; simp only [nth_zero, nth_succ]; go_big_quiet_step (fail); refine wpQuiet_nil ?_)
      rw [wpPlan_takes_nil]
      refine ⟨?_, ?_⟩
      · simp only [nth_zero, nth_succ]
        go_wp2_with fail
        refine planPost_mk ⟨⟨W.drew, K0.out⟩, rfl⟩ ?_
        rw [wpPlan_one]
        simp only [nth_zero, nth_succ]
        go_wp2_with fail
        try rw [hx1]
        refine planPost_mk ⟨⟨x1, K1.out⟩, rfl⟩ ?_
        rw [wpPlan_leaf]
        simp only [List.drop_succ_cons, List.drop_zero]
        have ST : (storeVar 33 ⟨W.heap.size, 0, none⟩ (.agg (((zcs.set 0 (.int .u8 mk)).set 1 (.int .u32 sq)).set 2 (.int .i64 ix)).toArray)).run Try.prog x1 = .ok () x2 := ST0.out
        go_wp2_with fail
        clear ST c0
        refine region_plan (fun x => x = x2.drew) 3 (.takes [0, 1, 2] .leaf) hmx (by kernel_rfl) (by intro c x v a w h; cases x <;> exact h) rfl ?_
        repeat (rw [wpPlan_takes_cons]; simp only [nth_zero, nth_succ]; go_big_quiet_step (fail); refine wpQuiet_nil ?_)
        rw [wpPlan_takes_nil, wpPlan_leaf]
        simp only [List.drop_succ_cons, List.drop_zero]
        have RC := RC0.out
        go_wp2_with fail
        clear RC
        have L3 : (loadVar 33 ⟨W.heap.size, 0, none⟩).run Try.prog x3 = .ok (.agg (Sct.of bs).cells.toArray) x3 := L30.out
        go_wp2_with fail
        rw [L3]
        go_wp2_with fail
        go_at_call 10
        clear L3
        refine (refEncode (Sct.of bs) HOK.out x3).mono ?_
        rintro e x4 ⟨rfl, hb⟩
        have K4 : Hid (Below W.heap.size W x4) := K3.out.trans (hb.mono K3.out.size)
        have H4 : Hid (W.heap.size < x4.heap.size) := Nat.lt_of_lt_of_le H3.out hb.size
        have RA4 : Hid (x4.rangeAt W.heap.size 0 (Sct.of bs).cells) := range_below hb H3.out RA3.out
        clear hb
        obtain ⟨x5, hx5⟩ : ∃ x, x4.alloc (.cells zarr 27) = x := ⟨_, rfl⟩
        rcases HWY.out with ⟨hc, he, hS, hE⟩ | ⟨c, hc, hC, hA, he, hS, hE⟩ | ⟨c, hc, hC, hA, he, hS, hE⟩
        · rw [hc, he]
          obtain ⟨x6, hx6⟩ : ∃ x, x4.alloc (.cells (fillB 0).toArray 27) = x := ⟨_, rfl⟩
          have ST5 : (storeVar 27 ⟨x4.heap.size, 0, none⟩ (.agg (fillB 0).toArray)).run Try.prog x5 = .ok () x6 := by rw [← hx5, ← hx6]; exact store_new zarr_size (isBlk_fill 0)
          have K6 : Hid (Below W.heap.size W x6) := by rw [← hx6]; exact K4.out.alloc K4.out.size _
          obtain ⟨x7, ST7, ld, hb7⟩ := sec_cell (w := w) (x := x6) (B := w.heap.size + 1) (u := zcs) ((K6.out.block _ (by have := HZ.out; omega)).trans HR2.out) ZZ.out (Nat.le_succ _) (HB.out.trans (K6.out.mono HB.out.size)) ZZ.out zcs_one
          have HB7 := Lib.hid hb7
          have HS := Lib.hid (And.intro hS hE)
          clear hb7 hc he hS hE hx6
          go_wp2_with fail
          rw [HS.out.1, HS.out.2]
          exact bodyPost_ret (results_cell2 rfl rfl ld) rfl ⟨rfl, HB7.out⟩
        · rw [hc, he]
          obtain ⟨x6, hx6⟩ : ∃ x, x4.alloc (.cells c.toArray 27) = x := ⟨_, rfl⟩
          have ST5 : (storeVar 27 ⟨x4.heap.size, 0, none⟩ (.agg c.toArray)).run Try.prog x5 = .ok () x6 := by rw [← hx5, ← hx6]; exact store_new zarr_size hC
          have K6 : Hid (Below W.heap.size W x6) := by rw [← hx6]; exact K4.out.alloc K4.out.size _
          have L5 : (loadVar 27 ⟨x4.heap.size, 0, none⟩).run Try.prog x6 = .ok (.agg c.toArray) x6 := load_blk (row_range (t := 27) (by rw [← hx6]; exact heap_alloc_new x4 _)) hC.length
          have L1 : (loadVar 27 ⟨w.heap.size, 0, none⟩).run Try.prog x6 = .ok (.agg (u8s bs).toArray) x6 := load_blk (range_below K6.out H0.out (row_range HR.out)) (by rw [u8s_length]; exact HL.out)
          have EQ : (Op.equalIn 10000 27 (.agg c.toArray) (.agg (u8s bs).toArray)).run Try.prog x6 = .ok false x6 := by rw [← hA]; exact eq_blk hC (isBlk_u8s HL.out) x6
          obtain ⟨x7, ST7, ld, hb7⟩ := sec_cell (w := w) (x := x6) (B := w.heap.size + 1) (u := zcs) ((K6.out.block _ (by have := HZ.out; omega)).trans HR2.out) ZZ.out (Nat.le_succ _) (HB.out.trans (K6.out.mono HB.out.size)) ZZ.out zcs_one
          have HB7 := Lib.hid hb7
          have HS := Lib.hid (And.intro hS hE)
          clear hb7 hc he hS hE hA hC hx6
          go_wp2_with fail
          rw [HS.out.1, HS.out.2]
          exact bodyPost_ret (results_cell2 rfl rfl ld) rfl ⟨rfl, HB7.out⟩
        · rw [hc, he]
          obtain ⟨x6, hx6⟩ : ∃ x, x4.alloc (.cells c.toArray 27) = x := ⟨_, rfl⟩
          have ST5 : (storeVar 27 ⟨x4.heap.size, 0, none⟩ (.agg c.toArray)).run Try.prog x5 = .ok () x6 := by rw [← hx5, ← hx6]; exact store_new zarr_size hC
          have B6 : Below x4.heap.size x4 x6 := by rw [← hx6]; exact (Below.refl _ x4).alloc (Nat.le_refl _) _
          have K6 : Hid (Below W.heap.size W x6) := K4.out.trans (B6.mono K4.out.size)
          have L5 : (loadVar 27 ⟨x4.heap.size, 0, none⟩).run Try.prog x6 = .ok (.agg c.toArray) x6 := load_blk (row_range (t := 27) (by rw [← hx6]; exact heap_alloc_new x4 _)) hC.length
          have L1 : (loadVar 27 ⟨w.heap.size, 0, none⟩).run Try.prog x6 = .ok (.agg (u8s bs).toArray) x6 := load_blk (range_below K6.out H0.out (row_range HR.out)) (by rw [u8s_length]; exact HL.out)
          have EQ : (Op.equalIn 10000 27 (.agg c.toArray) (.agg (u8s bs).toArray)).run Try.prog x6 = .ok true x6 := by rw [← hA]; exact eq_blk hC (isBlk_u8s HL.out) x6
          have L4 : (loadVar 33 ⟨W.heap.size, 0, none⟩).run Try.prog x6 = .ok (.agg (Sct.of bs).cells.toArray) x6 := load_sec (range_below B6 H4.out RA4.out) CL.out
          obtain ⟨x7, ST7, ld, hb7⟩ := sec_cell (w := w) (x := x6) (B := w.heap.size + 1) (u := (Sct.of bs).cells) ((K6.out.block _ (by have := HZ.out; omega)).trans HR2.out) ZZ.out (Nat.le_succ _) (HB.out.trans (K6.out.mono HB.out.size)) CL.out (Sct.cells_one _)
          have HB7 := Lib.hid hb7
          have HS := Lib.hid (And.intro hS hE)
          clear hb7 hc he hS hE hA hC hx6 B6
          go_wp2_with fail
          try rw [L4]
          try go_wp2_with fail
          rw [HS.out.1, HS.out.2]
          exact bodyPost_ret (results_cell2 rfl rfl ld) rfl ⟨rfl, HB7.out⟩
      · simp only [nth_zero, nth_succ]
        go_wp2_with fail
        try rw [hx1]
        refine planPost_mk ⟨⟨x1, K1.out⟩, rfl⟩ ?_
        rw [wpPlan_one]
        simp only [nth_zero, nth_succ]
        go_wp2_with fail
        refine planPost_mk ⟨⟨x1, K1.out⟩, rfl⟩ ?_
        rw [wpPlan_leaf]
        simp only [List.drop_succ_cons, List.drop_zero]
        have ST : (storeVar 33 ⟨W.heap.size, 0, none⟩ (.agg (((zcs.set 0 (.int .u8 mk)).set 1 (.int .u32 sq)).set 2 (.int .i64 ix)).toArray)).run Try.prog x1 = .ok () x2 := ST0.out
        go_wp2_with fail
        clear ST c0
        refine region_plan (fun x => x = x2.drew) 3 (.takes [0, 1, 2] .leaf) hmx (by kernel_rfl) (by intro c x v a w h; cases x <;> exact h) rfl ?_
        repeat (rw [wpPlan_takes_cons]; simp only [nth_zero, nth_succ]; go_big_quiet_step (fail); refine wpQuiet_nil ?_)
        rw [wpPlan_takes_nil, wpPlan_leaf]
        simp only [List.drop_succ_cons, List.drop_zero]
        have RC := RC0.out
        go_wp2_with fail
        clear RC
        have L3 : (loadVar 33 ⟨W.heap.size, 0, none⟩).run Try.prog x3 = .ok (.agg (Sct.of bs).cells.toArray) x3 := L30.out
        go_wp2_with fail
        rw [L3]
        go_wp2_with fail
        go_at_call 10
        clear L3
        refine (refEncode (Sct.of bs) HOK.out x3).mono ?_
        rintro e x4 ⟨rfl, hb⟩
        have K4 : Hid (Below W.heap.size W x4) := K3.out.trans (hb.mono K3.out.size)
        have H4 : Hid (W.heap.size < x4.heap.size) := Nat.lt_of_lt_of_le H3.out hb.size
        have RA4 : Hid (x4.rangeAt W.heap.size 0 (Sct.of bs).cells) := range_below hb H3.out RA3.out
        clear hb
        obtain ⟨x5, hx5⟩ : ∃ x, x4.alloc (.cells zarr 27) = x := ⟨_, rfl⟩
        rcases HWY.out with ⟨hc, he, hS, hE⟩ | ⟨c, hc, hC, hA, he, hS, hE⟩ | ⟨c, hc, hC, hA, he, hS, hE⟩
        · rw [hc, he]
          obtain ⟨x6, hx6⟩ : ∃ x, x4.alloc (.cells (fillB 0).toArray 27) = x := ⟨_, rfl⟩
          have ST5 : (storeVar 27 ⟨x4.heap.size, 0, none⟩ (.agg (fillB 0).toArray)).run Try.prog x5 = .ok () x6 := by rw [← hx5, ← hx6]; exact store_new zarr_size (isBlk_fill 0)
          have K6 : Hid (Below W.heap.size W x6) := by rw [← hx6]; exact K4.out.alloc K4.out.size _
          obtain ⟨x7, ST7, ld, hb7⟩ := sec_cell (w := w) (x := x6) (B := w.heap.size + 1) (u := zcs) ((K6.out.block _ (by have := HZ.out; omega)).trans HR2.out) ZZ.out (Nat.le_succ _) (HB.out.trans (K6.out.mono HB.out.size)) ZZ.out zcs_one
          have HB7 := Lib.hid hb7
          have HS := Lib.hid (And.intro hS hE)
          clear hb7 hc he hS hE hx6
          go_wp2_with fail
          rw [HS.out.1, HS.out.2]
          exact bodyPost_ret (results_cell2 rfl rfl ld) rfl ⟨rfl, HB7.out⟩
        · rw [hc, he]
          obtain ⟨x6, hx6⟩ : ∃ x, x4.alloc (.cells c.toArray 27) = x := ⟨_, rfl⟩
          have ST5 : (storeVar 27 ⟨x4.heap.size, 0, none⟩ (.agg c.toArray)).run Try.prog x5 = .ok () x6 := by rw [← hx5, ← hx6]; exact store_new zarr_size hC
          have K6 : Hid (Below W.heap.size W x6) := by rw [← hx6]; exact K4.out.alloc K4.out.size _
          have L5 : (loadVar 27 ⟨x4.heap.size, 0, none⟩).run Try.prog x6 = .ok (.agg c.toArray) x6 := load_blk (row_range (t := 27) (by rw [← hx6]; exact heap_alloc_new x4 _)) hC.length
          have L1 : (loadVar 27 ⟨w.heap.size, 0, none⟩).run Try.prog x6 = .ok (.agg (u8s bs).toArray) x6 := load_blk (range_below K6.out H0.out (row_range HR.out)) (by rw [u8s_length]; exact HL.out)
          have EQ : (Op.equalIn 10000 27 (.agg c.toArray) (.agg (u8s bs).toArray)).run Try.prog x6 = .ok false x6 := by rw [← hA]; exact eq_blk hC (isBlk_u8s HL.out) x6
          obtain ⟨x7, ST7, ld, hb7⟩ := sec_cell (w := w) (x := x6) (B := w.heap.size + 1) (u := zcs) ((K6.out.block _ (by have := HZ.out; omega)).trans HR2.out) ZZ.out (Nat.le_succ _) (HB.out.trans (K6.out.mono HB.out.size)) ZZ.out zcs_one
          have HB7 := Lib.hid hb7
          have HS := Lib.hid (And.intro hS hE)
          clear hb7 hc he hS hE hA hC hx6
          go_wp2_with fail
          rw [HS.out.1, HS.out.2]
          exact bodyPost_ret (results_cell2 rfl rfl ld) rfl ⟨rfl, HB7.out⟩
        · rw [hc, he]
          obtain ⟨x6, hx6⟩ : ∃ x, x4.alloc (.cells c.toArray 27) = x := ⟨_, rfl⟩
          have ST5 : (storeVar 27 ⟨x4.heap.size, 0, none⟩ (.agg c.toArray)).run Try.prog x5 = .ok () x6 := by rw [← hx5, ← hx6]; exact store_new zarr_size hC
          have B6 : Below x4.heap.size x4 x6 := by rw [← hx6]; exact (Below.refl _ x4).alloc (Nat.le_refl _) _
          have K6 : Hid (Below W.heap.size W x6) := K4.out.trans (B6.mono K4.out.size)
          have L5 : (loadVar 27 ⟨x4.heap.size, 0, none⟩).run Try.prog x6 = .ok (.agg c.toArray) x6 := load_blk (row_range (t := 27) (by rw [← hx6]; exact heap_alloc_new x4 _)) hC.length
          have L1 : (loadVar 27 ⟨w.heap.size, 0, none⟩).run Try.prog x6 = .ok (.agg (u8s bs).toArray) x6 := load_blk (range_below K6.out H0.out (row_range HR.out)) (by rw [u8s_length]; exact HL.out)
          have EQ : (Op.equalIn 10000 27 (.agg c.toArray) (.agg (u8s bs).toArray)).run Try.prog x6 = .ok true x6 := by rw [← hA]; exact eq_blk hC (isBlk_u8s HL.out) x6
          have L4 : (loadVar 33 ⟨W.heap.size, 0, none⟩).run Try.prog x6 = .ok (.agg (Sct.of bs).cells.toArray) x6 := load_sec (range_below B6 H4.out RA4.out) CL.out
          obtain ⟨x7, ST7, ld, hb7⟩ := sec_cell (w := w) (x := x6) (B := w.heap.size + 1) (u := (Sct.of bs).cells) ((K6.out.block _ (by have := HZ.out; omega)).trans HR2.out) ZZ.out (Nat.le_succ _) (HB.out.trans (K6.out.mono HB.out.size)) CL.out (Sct.cells_one _)
          have HB7 := Lib.hid hb7
          have HS := Lib.hid (And.intro hS hE)
          clear hb7 hc he hS hE hA hC hx6 B6
          go_wp2_with fail
          try rw [L4]
          try go_wp2_with fail
          rw [HS.out.1, HS.out.2]
          exact bodyPost_ret (results_cell2 rfl rfl ld) rfl ⟨rfl, HB7.out⟩
    · simp only [nth_zero, nth_succ]
      go_wp2_with fail
      try rw [hx1]
      refine planPost_mk ⟨⟨x1, K1.out⟩, rfl⟩ ?_
      rw [wpPlan_one]
      simp only [nth_zero, nth_succ]
      go_wp2_with fail
      go_at_call 26
      refine (HG2.out x1 K1.out).mono ?_
      rintro e w' ⟨rfl, hx⟩
      obtain rfl := hx.symm
      clear hx
      go_wp2_with fail
      refine planPost_mk ⟨⟨x1, K1.out⟩, rfl⟩ ?_
      repeat (rw [wpPlan_takes_cons]; simp only [nth_zero, nth_succ]; go_big_quiet_step (fail); refine wpQuiet_nil ?_)
      rw [wpPlan_takes_nil, wpPlan_one]
      simp only [nth_zero, nth_succ]
      go_wp2_with fail
      refine planPost_mk ⟨⟨x1, K1.out⟩, rfl⟩ ?_
      rw [wpPlan_leaf]
      simp only [List.drop_succ_cons, List.drop_zero]
      have ST : (storeVar 33 ⟨W.heap.size, 0, none⟩ (.agg (((zcs.set 0 (.int .u8 mk)).set 1 (.int .u32 sq)).set 2 (.int .i64 ix)).toArray)).run Try.prog x1 = .ok () x2 := ST0.out
      go_wp2_with fail
      clear ST c0
      refine region_plan (fun x => x = x2.drew) 3 (.takes [0, 1, 2] .leaf) hmx (by kernel_rfl) (by intro c x v a w h; cases x <;> exact h) rfl ?_
      repeat (rw [wpPlan_takes_cons]; simp only [nth_zero, nth_succ]; go_big_quiet_step (fail); refine wpQuiet_nil ?_)
      rw [wpPlan_takes_nil, wpPlan_leaf]
      simp only [List.drop_succ_cons, List.drop_zero]
      have RC := RC0.out
      go_wp2_with fail
      clear RC
      have L3 : (loadVar 33 ⟨W.heap.size, 0, none⟩).run Try.prog x3 = .ok (.agg (Sct.of bs).cells.toArray) x3 := L30.out
      go_wp2_with fail
      rw [L3]
      go_wp2_with fail
      go_at_call 10
      clear L3
      refine (refEncode (Sct.of bs) HOK.out x3).mono ?_
      rintro e x4 ⟨rfl, hb⟩
      have K4 : Hid (Below W.heap.size W x4) := K3.out.trans (hb.mono K3.out.size)
      have H4 : Hid (W.heap.size < x4.heap.size) := Nat.lt_of_lt_of_le H3.out hb.size
      have RA4 : Hid (x4.rangeAt W.heap.size 0 (Sct.of bs).cells) := range_below hb H3.out RA3.out
      clear hb
      obtain ⟨x5, hx5⟩ : ∃ x, x4.alloc (.cells zarr 27) = x := ⟨_, rfl⟩
      rcases HWY.out with ⟨hc, he, hS, hE⟩ | ⟨c, hc, hC, hA, he, hS, hE⟩ | ⟨c, hc, hC, hA, he, hS, hE⟩
      · rw [hc, he]
        obtain ⟨x6, hx6⟩ : ∃ x, x4.alloc (.cells (fillB 0).toArray 27) = x := ⟨_, rfl⟩
        have ST5 : (storeVar 27 ⟨x4.heap.size, 0, none⟩ (.agg (fillB 0).toArray)).run Try.prog x5 = .ok () x6 := by rw [← hx5, ← hx6]; exact store_new zarr_size (isBlk_fill 0)
        have K6 : Hid (Below W.heap.size W x6) := by rw [← hx6]; exact K4.out.alloc K4.out.size _
        obtain ⟨x7, ST7, ld, hb7⟩ := sec_cell (w := w) (x := x6) (B := w.heap.size + 1) (u := zcs) ((K6.out.block _ (by have := HZ.out; omega)).trans HR2.out) ZZ.out (Nat.le_succ _) (HB.out.trans (K6.out.mono HB.out.size)) ZZ.out zcs_one
        have HB7 := Lib.hid hb7
        have HS := Lib.hid (And.intro hS hE)
        clear hb7 hc he hS hE hx6
        go_wp2_with fail
        rw [HS.out.1, HS.out.2]
        exact bodyPost_ret (results_cell2 rfl rfl ld) rfl ⟨rfl, HB7.out⟩
      · rw [hc, he]
        obtain ⟨x6, hx6⟩ : ∃ x, x4.alloc (.cells c.toArray 27) = x := ⟨_, rfl⟩
        have ST5 : (storeVar 27 ⟨x4.heap.size, 0, none⟩ (.agg c.toArray)).run Try.prog x5 = .ok () x6 := by rw [← hx5, ← hx6]; exact store_new zarr_size hC
        have K6 : Hid (Below W.heap.size W x6) := by rw [← hx6]; exact K4.out.alloc K4.out.size _
        have L5 : (loadVar 27 ⟨x4.heap.size, 0, none⟩).run Try.prog x6 = .ok (.agg c.toArray) x6 := load_blk (row_range (t := 27) (by rw [← hx6]; exact heap_alloc_new x4 _)) hC.length
        have L1 : (loadVar 27 ⟨w.heap.size, 0, none⟩).run Try.prog x6 = .ok (.agg (u8s bs).toArray) x6 := load_blk (range_below K6.out H0.out (row_range HR.out)) (by rw [u8s_length]; exact HL.out)
        have EQ : (Op.equalIn 10000 27 (.agg c.toArray) (.agg (u8s bs).toArray)).run Try.prog x6 = .ok false x6 := by rw [← hA]; exact eq_blk hC (isBlk_u8s HL.out) x6
        obtain ⟨x7, ST7, ld, hb7⟩ := sec_cell (w := w) (x := x6) (B := w.heap.size + 1) (u := zcs) ((K6.out.block _ (by have := HZ.out; omega)).trans HR2.out) ZZ.out (Nat.le_succ _) (HB.out.trans (K6.out.mono HB.out.size)) ZZ.out zcs_one
        have HB7 := Lib.hid hb7
        have HS := Lib.hid (And.intro hS hE)
        clear hb7 hc he hS hE hA hC hx6
        go_wp2_with fail
        rw [HS.out.1, HS.out.2]
        exact bodyPost_ret (results_cell2 rfl rfl ld) rfl ⟨rfl, HB7.out⟩
      · rw [hc, he]
        obtain ⟨x6, hx6⟩ : ∃ x, x4.alloc (.cells c.toArray 27) = x := ⟨_, rfl⟩
        have ST5 : (storeVar 27 ⟨x4.heap.size, 0, none⟩ (.agg c.toArray)).run Try.prog x5 = .ok () x6 := by rw [← hx5, ← hx6]; exact store_new zarr_size hC
        have B6 : Below x4.heap.size x4 x6 := by rw [← hx6]; exact (Below.refl _ x4).alloc (Nat.le_refl _) _
        have K6 : Hid (Below W.heap.size W x6) := K4.out.trans (B6.mono K4.out.size)
        have L5 : (loadVar 27 ⟨x4.heap.size, 0, none⟩).run Try.prog x6 = .ok (.agg c.toArray) x6 := load_blk (row_range (t := 27) (by rw [← hx6]; exact heap_alloc_new x4 _)) hC.length
        have L1 : (loadVar 27 ⟨w.heap.size, 0, none⟩).run Try.prog x6 = .ok (.agg (u8s bs).toArray) x6 := load_blk (range_below K6.out H0.out (row_range HR.out)) (by rw [u8s_length]; exact HL.out)
        have EQ : (Op.equalIn 10000 27 (.agg c.toArray) (.agg (u8s bs).toArray)).run Try.prog x6 = .ok true x6 := by rw [← hA]; exact eq_blk hC (isBlk_u8s HL.out) x6
        have L4 : (loadVar 33 ⟨W.heap.size, 0, none⟩).run Try.prog x6 = .ok (.agg (Sct.of bs).cells.toArray) x6 := load_sec (range_below B6 H4.out RA4.out) CL.out
        obtain ⟨x7, ST7, ld, hb7⟩ := sec_cell (w := w) (x := x6) (B := w.heap.size + 1) (u := (Sct.of bs).cells) ((K6.out.block _ (by have := HZ.out; omega)).trans HR2.out) ZZ.out (Nat.le_succ _) (HB.out.trans (K6.out.mono HB.out.size)) CL.out (Sct.cells_one _)
        have HB7 := Lib.hid hb7
        have HS := Lib.hid (And.intro hS hE)
        clear hb7 hc he hS hE hA hC hx6 B6
        go_wp2_with fail
        try rw [L4]
        try go_wp2_with fail
        rw [HS.out.1, HS.out.2]
        exact bodyPost_ret (results_cell2 rfl rfl ld) rfl ⟨rfl, HB7.out⟩
  · simp only [nth_zero, nth_succ]
    go_wp2_with fail
    try rw [hx1]
    refine planPost_mk ⟨⟨x1, K1.out⟩, rfl⟩ ?_
    rw [wpPlan_one]
    simp only [nth_zero, nth_succ]
    go_wp2_with fail
    go_at_call 26
    refine (HG1.out x1 K1.out).mono ?_
    rintro e w' ⟨rfl, hx⟩
    obtain rfl := hx.symm
    clear hx
    go_wp2_with fail
    refine planPost_mk ⟨⟨x1, K1.out⟩, rfl⟩ ?_
    repeat (rw [wpPlan_takes_cons]; simp only [nth_zero, nth_succ]; go_big_quiet_step (fail); refine wpQuiet_nil ?_)
    rw [wpPlan_takes_nil, wpPlan_one]
    simp only [nth_zero, nth_succ]
    go_wp2_with fail
    go_at_call 26
    refine (HG2.out x1 K1.out).mono ?_
    rintro e w' ⟨rfl, hx⟩
    obtain rfl := hx.symm
    clear hx
    go_wp2_with fail
    refine planPost_mk ⟨⟨x1, K1.out⟩, rfl⟩ ?_
    repeat (rw [wpPlan_takes_cons]; simp only [nth_zero, nth_succ]; go_big_quiet_step (fail); refine wpQuiet_nil ?_)
    rw [wpPlan_takes_nil, wpPlan_one]
    simp only [nth_zero, nth_succ]
    go_wp2_with fail
    refine planPost_mk ⟨⟨x1, K1.out⟩, rfl⟩ ?_
    rw [wpPlan_leaf]
    simp only [List.drop_succ_cons, List.drop_zero]
    have ST : (storeVar 33 ⟨W.heap.size, 0, none⟩ (.agg (((zcs.set 0 (.int .u8 mk)).set 1 (.int .u32 sq)).set 2 (.int .i64 ix)).toArray)).run Try.prog x1 = .ok () x2 := ST0.out
    go_wp2_with fail
    clear ST c0
    refine region_plan (fun x => x = x2.drew) 3 (.takes [0, 1, 2] .leaf) hmx (by kernel_rfl) (by intro c x v a w h; cases x <;> exact h) rfl ?_
    repeat (rw [wpPlan_takes_cons]; simp only [nth_zero, nth_succ]; go_big_quiet_step (fail); refine wpQuiet_nil ?_)
    rw [wpPlan_takes_nil, wpPlan_leaf]
    simp only [List.drop_succ_cons, List.drop_zero]
    have RC := RC0.out
    go_wp2_with fail
    clear RC
    have L3 : (loadVar 33 ⟨W.heap.size, 0, none⟩).run Try.prog x3 = .ok (.agg (Sct.of bs).cells.toArray) x3 := L30.out
    go_wp2_with fail
    rw [L3]
    go_wp2_with fail
    go_at_call 10
    clear L3
    refine (refEncode (Sct.of bs) HOK.out x3).mono ?_
    rintro e x4 ⟨rfl, hb⟩
    have K4 : Hid (Below W.heap.size W x4) := K3.out.trans (hb.mono K3.out.size)
    have H4 : Hid (W.heap.size < x4.heap.size) := Nat.lt_of_lt_of_le H3.out hb.size
    have RA4 : Hid (x4.rangeAt W.heap.size 0 (Sct.of bs).cells) := range_below hb H3.out RA3.out
    clear hb
    obtain ⟨x5, hx5⟩ : ∃ x, x4.alloc (.cells zarr 27) = x := ⟨_, rfl⟩
    rcases HWY.out with ⟨hc, he, hS, hE⟩ | ⟨c, hc, hC, hA, he, hS, hE⟩ | ⟨c, hc, hC, hA, he, hS, hE⟩
    · rw [hc, he]
      obtain ⟨x6, hx6⟩ : ∃ x, x4.alloc (.cells (fillB 0).toArray 27) = x := ⟨_, rfl⟩
      have ST5 : (storeVar 27 ⟨x4.heap.size, 0, none⟩ (.agg (fillB 0).toArray)).run Try.prog x5 = .ok () x6 := by rw [← hx5, ← hx6]; exact store_new zarr_size (isBlk_fill 0)
      have K6 : Hid (Below W.heap.size W x6) := by rw [← hx6]; exact K4.out.alloc K4.out.size _
      obtain ⟨x7, ST7, ld, hb7⟩ := sec_cell (w := w) (x := x6) (B := w.heap.size + 1) (u := zcs) ((K6.out.block _ (by have := HZ.out; omega)).trans HR2.out) ZZ.out (Nat.le_succ _) (HB.out.trans (K6.out.mono HB.out.size)) ZZ.out zcs_one
      have HB7 := Lib.hid hb7
      have HS := Lib.hid (And.intro hS hE)
      clear hb7 hc he hS hE hx6
      go_wp2_with fail
      rw [HS.out.1, HS.out.2]
      exact bodyPost_ret (results_cell2 rfl rfl ld) rfl ⟨rfl, HB7.out⟩
    · rw [hc, he]
      obtain ⟨x6, hx6⟩ : ∃ x, x4.alloc (.cells c.toArray 27) = x := ⟨_, rfl⟩
      have ST5 : (storeVar 27 ⟨x4.heap.size, 0, none⟩ (.agg c.toArray)).run Try.prog x5 = .ok () x6 := by rw [← hx5, ← hx6]; exact store_new zarr_size hC
      have K6 : Hid (Below W.heap.size W x6) := by rw [← hx6]; exact K4.out.alloc K4.out.size _
      have L5 : (loadVar 27 ⟨x4.heap.size, 0, none⟩).run Try.prog x6 = .ok (.agg c.toArray) x6 := load_blk (row_range (t := 27) (by rw [← hx6]; exact heap_alloc_new x4 _)) hC.length
      have L1 : (loadVar 27 ⟨w.heap.size, 0, none⟩).run Try.prog x6 = .ok (.agg (u8s bs).toArray) x6 := load_blk (range_below K6.out H0.out (row_range HR.out)) (by rw [u8s_length]; exact HL.out)
      have EQ : (Op.equalIn 10000 27 (.agg c.toArray) (.agg (u8s bs).toArray)).run Try.prog x6 = .ok false x6 := by rw [← hA]; exact eq_blk hC (isBlk_u8s HL.out) x6
      obtain ⟨x7, ST7, ld, hb7⟩ := sec_cell (w := w) (x := x6) (B := w.heap.size + 1) (u := zcs) ((K6.out.block _ (by have := HZ.out; omega)).trans HR2.out) ZZ.out (Nat.le_succ _) (HB.out.trans (K6.out.mono HB.out.size)) ZZ.out zcs_one
      have HB7 := Lib.hid hb7
      have HS := Lib.hid (And.intro hS hE)
      clear hb7 hc he hS hE hA hC hx6
      go_wp2_with fail
      rw [HS.out.1, HS.out.2]
      exact bodyPost_ret (results_cell2 rfl rfl ld) rfl ⟨rfl, HB7.out⟩
    · rw [hc, he]
      obtain ⟨x6, hx6⟩ : ∃ x, x4.alloc (.cells c.toArray 27) = x := ⟨_, rfl⟩
      have ST5 : (storeVar 27 ⟨x4.heap.size, 0, none⟩ (.agg c.toArray)).run Try.prog x5 = .ok () x6 := by rw [← hx5, ← hx6]; exact store_new zarr_size hC
      have B6 : Below x4.heap.size x4 x6 := by rw [← hx6]; exact (Below.refl _ x4).alloc (Nat.le_refl _) _
      have K6 : Hid (Below W.heap.size W x6) := K4.out.trans (B6.mono K4.out.size)
      have L5 : (loadVar 27 ⟨x4.heap.size, 0, none⟩).run Try.prog x6 = .ok (.agg c.toArray) x6 := load_blk (row_range (t := 27) (by rw [← hx6]; exact heap_alloc_new x4 _)) hC.length
      have L1 : (loadVar 27 ⟨w.heap.size, 0, none⟩).run Try.prog x6 = .ok (.agg (u8s bs).toArray) x6 := load_blk (range_below K6.out H0.out (row_range HR.out)) (by rw [u8s_length]; exact HL.out)
      have EQ : (Op.equalIn 10000 27 (.agg c.toArray) (.agg (u8s bs).toArray)).run Try.prog x6 = .ok true x6 := by rw [← hA]; exact eq_blk hC (isBlk_u8s HL.out) x6
      have L4 : (loadVar 33 ⟨W.heap.size, 0, none⟩).run Try.prog x6 = .ok (.agg (Sct.of bs).cells.toArray) x6 := load_sec (range_below B6 H4.out RA4.out) CL.out
      obtain ⟨x7, ST7, ld, hb7⟩ := sec_cell (w := w) (x := x6) (B := w.heap.size + 1) (u := (Sct.of bs).cells) ((K6.out.block _ (by have := HZ.out; omega)).trans HR2.out) ZZ.out (Nat.le_succ _) (HB.out.trans (K6.out.mono HB.out.size)) CL.out (Sct.cells_one _)
      have HB7 := Lib.hid hb7
      have HS := Lib.hid (And.intro hS hE)
      clear hb7 hc he hS hE hA hC hx6 B6
      go_wp2_with fail
      try rw [L4]
      try go_wp2_with fail
      rw [HS.out.1, HS.out.2]
      exact bodyPost_ret (results_cell2 rfl rfl ld) rfl ⟨rfl, HB7.out⟩
end Go.Proofs.Ytnngebnnehokdaa
