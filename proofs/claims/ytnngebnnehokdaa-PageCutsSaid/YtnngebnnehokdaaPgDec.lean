/- The developers' Decode. -/
import Derived.Test.YtnngebnnehokdaaPgFld
import Derived.Test.YtnngebnnehokdaaPgEnc
import Derived.Test.YtnngebnnehokdaaPgRefD
namespace Go.Proofs.Ytnngebnnehokdaa
open Go.RowKit Go.Shelf
set_option linter.unusedVariables false
attribute [-simp] Try.isAgg27 Try.zeroValue27 Try.isAgg23 Try.zeroValue23 Try.isAgg25 Try.zeroValue25
attribute [-go_sem] loadVar storeVar
attribute [local go_sem] zero_blk build_blk zero_bod zero_pg build_pg build_pg0 loadVar_open4 storeVar_open4

set_option maxRecDepth 100000 in
set_option maxHeartbeats 4000000 in
theorem pgDecode (bs : List Int) (hb : IsBytes bs) (hl : bs.length = 64) (w : World) :
    Calls Try.prog 11 #[.agg (u8s bs).toArray] w fun e w' => e = .returned (.tuple #[.agg (decS bs).cells.toArray, .int .i64 (decE bs)]) ∧ Below w.heap.size w w' := by
  obtain ⟨W1, hW1⟩ : ∃ W1, w.alloc (.cells (u8s bs).toArray 27) = W1 := ⟨_, rfl⟩
  have hB1 : Below w.heap.size w W1 := by rw [← hW1]; exact (Below.refl _ _).alloc (Nat.le_refl _) _
  have hz1 : W1.heap.size = w.heap.size + 1 := by rw [← hW1]; simp
  have hr1 : W1.heap[w.heap.size]? = some (.cells (u8s bs).toArray 27 (0, 0)) := by rw [← hW1]; exact heap_alloc_new w _
  obtain ⟨W, hW⟩ : ∃ W, W1.alloc (.cells zcs.toArray 25) = W := ⟨_, rfl⟩
  have hB2 : Below W1.heap.size W1 W := by rw [← hW]; exact (Below.refl _ _).alloc (Nat.le_refl _) _
  have HB : Hid (Below w.heap.size w W) := hB1.trans (hB2.mono hB1.size)
  have HR : Hid (W.heap[w.heap.size]? = some (.cells (u8s bs).toArray 27 (0, 0))) := (hB2.block _ (by omega)).trans hr1
  have HR2 : Hid (W.heap[w.heap.size + 1]? = some (.cells zcs.toArray 25 (0, 0))) := by
    have := heap_alloc_new W1 (.cells zcs.toArray 25)
    rw [hW, hz1] at this
    exact this
  have HZ : Hid (W.heap.size = w.heap.size + 2) := by show _ = _; rw [← hW, World.size_alloc, hz1]
  have HL := Lib.hid hl
  have HOK := Lib.hid (of_ok hb hl)
  have HWY := Lib.hid (dec_ways hb hl)
  have HF := Lib.hid (pgFields bs hb hl W)
  have ZZ : Hid (zcs.length = 51) := rfl
  have CL : Hid ((Sct.of bs).cells.length = 51) := Sct.cells_length HOK.out.len
  have L0 : (loadVar 27 ⟨w.heap.size, 0, none⟩).run Try.prog W = .ok (.agg (u8s bs).toArray) W := load_blk (row_range HR.out) (by rw [u8s_length]; exact hl)
  have H0 : Hid (w.heap.size < W.heap.size) := by show _ < _; have := HZ.out; omega
  clear hr1 hB1 hB2 hb hl
  go_enter Try.func11, Try.ntmps11
  go_wp2_with fail
  clear L0 hW hW1
  go_at_call 25
  refine HF.out.mono ?_
  rintro e x1 ⟨rfl, hb⟩
  have K1 : Hid (Below W.heap.size W x1) := hb
  obtain ⟨x2, hx2⟩ : ∃ x, x1.alloc (.cells (Sct.of bs).cells.toArray 25) = x := ⟨_, rfl⟩
  have ST2 : (storeVar 25 ⟨x1.heap.size, 0, none⟩ (.agg (Sct.of bs).cells.toArray)).run Try.prog (x1.alloc (.cells zcs.toArray 25)) = .ok () x2 := by
    rw [← hx2]; exact store_new_pg zcs_len CL.out (Sct.cells_one _)
  have r2 : x2.heap[x1.heap.size]? = some (.cells (Sct.of bs).cells.toArray 25 (0, 0)) := by rw [← hx2]; exact heap_alloc_new x1 _
  have RA2 := Lib.hid (row_range r2)
  have H2 : Hid (x1.heap.size < x2.heap.size) := by show _ < _; rw [← hx2]; simp
  have K2 : Hid (Below W.heap.size W x2) := by rw [← hx2]; exact K1.out.alloc K1.out.size _
  have L2 : (loadVar 25 ⟨x1.heap.size, 0, none⟩).run Try.prog x2 = .ok (.agg (Sct.of bs).cells.toArray) x2 := load_pg RA2.out CL.out
  clear hb r2 hx2
  go_wp2_with fail
  try rw [L2]
  try go_wp2_with fail
  clear ST2 L2
  go_at_call 9
  refine (pgEncode (Sct.of bs) HOK.out x2).mono ?_
  rintro e x4 ⟨rfl, hb⟩
  have K4 : Hid (Below W.heap.size W x4) := K2.out.trans (hb.mono K2.out.size)
  have H4 : Hid (x1.heap.size < x4.heap.size) := Nat.lt_of_lt_of_le H2.out hb.size
  have RA4 : Hid (x4.rangeAt x1.heap.size 0 (Sct.of bs).cells) := range_below hb H2.out RA2.out
  clear hb
  obtain ⟨x5, hx5⟩ : ∃ x, x4.alloc (.cells zarr 27) = x := ⟨_, rfl⟩
  rcases HWY.out with ⟨hc, he, hS, hE⟩ | ⟨c, hc, hC, hA, he, hS, hE⟩ | ⟨c, hc, hC, hA, he, hS, hE⟩
  · rw [hc, he]
    obtain ⟨x6, hx6⟩ : ∃ x, x4.alloc (.cells (fillB 0).toArray 27) = x := ⟨_, rfl⟩
    have ST5 : (storeVar 27 ⟨x4.heap.size, 0, none⟩ (.agg (fillB 0).toArray)).run Try.prog x5 = .ok () x6 := by rw [← hx5, ← hx6]; exact store_new zarr_size (isBlk_fill 0)
    have K6 : Hid (Below W.heap.size W x6) := by rw [← hx6]; exact K4.out.alloc K4.out.size _
    obtain ⟨x7, ST7, ld, hb7⟩ := pg_cell (w := w) (x := x6) (B := w.heap.size + 1) (u := zcs) ((K6.out.block _ (by have := HZ.out; omega)).trans HR2.out) ZZ.out (Nat.le_succ _) (HB.out.trans (K6.out.mono HB.out.size)) ZZ.out zcs_one
    have HB7 := Lib.hid hb7
    have HS := Lib.hid (And.intro hS hE)
    clear hb7 hc he hS hE hx6
    go_wp2_with fail
    rw [HS.out.1, HS.out.2]
    exact bodyPost_ret (results_cell2 rfl rfl ld) rfl ⟨rfl, HB7.out⟩
  · rw [hc, he]
    obtain ⟨x6, hx6⟩ : ∃ x, x4.alloc (.cells c.toArray 27) = x := ⟨_, rfl⟩
    have ST5 : (storeVar 27 ⟨x4.heap.size, 0, none⟩ (.agg c.toArray)).run Try.prog x5 = .ok () x6 := by rw [← hx5, ← hx6]; exact store_new zarr_size hC
    have K6 : Hid (Below W.heap.size W x6) := by rw [← hx6]; exact K4.out.alloc K4.out.size _
    have L5 : (loadVar 27 ⟨x4.heap.size, 0, none⟩).run Try.prog x6 = .ok (.agg c.toArray) x6 := load_blk (row_range (t := 27) (by rw [← hx6]; exact heap_alloc_new x4 _)) hC.length
    have L1 : (loadVar 27 ⟨w.heap.size, 0, none⟩).run Try.prog x6 = .ok (.agg (u8s bs).toArray) x6 := load_blk (range_below K6.out H0.out (row_range HR.out)) (by rw [u8s_length]; exact HL.out)
    have EQ : (Op.equalIn 10000 27 (.agg c.toArray) (.agg (u8s bs).toArray)).run Try.prog x6 = .ok false x6 := by rw [← hA]; exact eq_blk hC (isBlk_u8s HL.out) x6
    obtain ⟨x7, ST7, ld, hb7⟩ := pg_cell (w := w) (x := x6) (B := w.heap.size + 1) (u := zcs) ((K6.out.block _ (by have := HZ.out; omega)).trans HR2.out) ZZ.out (Nat.le_succ _) (HB.out.trans (K6.out.mono HB.out.size)) ZZ.out zcs_one
    have HB7 := Lib.hid hb7
    have HS := Lib.hid (And.intro hS hE)
    clear hb7 hc he hS hE hA hC hx6
    go_wp2_with fail
    rw [HS.out.1, HS.out.2]
    exact bodyPost_ret (results_cell2 rfl rfl ld) rfl ⟨rfl, HB7.out⟩
  · rw [hc, he]
    obtain ⟨x6, hx6⟩ : ∃ x, x4.alloc (.cells c.toArray 27) = x := ⟨_, rfl⟩
    have ST5 : (storeVar 27 ⟨x4.heap.size, 0, none⟩ (.agg c.toArray)).run Try.prog x5 = .ok () x6 := by rw [← hx5, ← hx6]; exact store_new zarr_size hC
    have B6 : Below x4.heap.size x4 x6 := by rw [← hx6]; exact (Below.refl _ x4).alloc (Nat.le_refl _) _
    have K6 : Hid (Below W.heap.size W x6) := K4.out.trans (B6.mono K4.out.size)
    have L5 : (loadVar 27 ⟨x4.heap.size, 0, none⟩).run Try.prog x6 = .ok (.agg c.toArray) x6 := load_blk (row_range (t := 27) (by rw [← hx6]; exact heap_alloc_new x4 _)) hC.length
    have L1 : (loadVar 27 ⟨w.heap.size, 0, none⟩).run Try.prog x6 = .ok (.agg (u8s bs).toArray) x6 := load_blk (range_below K6.out H0.out (row_range HR.out)) (by rw [u8s_length]; exact HL.out)
    have EQ : (Op.equalIn 10000 27 (.agg c.toArray) (.agg (u8s bs).toArray)).run Try.prog x6 = .ok true x6 := by rw [← hA]; exact eq_blk hC (isBlk_u8s HL.out) x6
    have L4 : (loadVar 25 ⟨x1.heap.size, 0, none⟩).run Try.prog x6 = .ok (.agg (Sct.of bs).cells.toArray) x6 := load_pg (range_below B6 H4.out RA4.out) CL.out
    obtain ⟨x7, ST7, ld, hb7⟩ := pg_cell (w := w) (x := x6) (B := w.heap.size + 1) (u := (Sct.of bs).cells) ((K6.out.block _ (by have := HZ.out; omega)).trans HR2.out) ZZ.out (Nat.le_succ _) (HB.out.trans (K6.out.mono HB.out.size)) CL.out (Sct.cells_one _)
    have HB7 := Lib.hid hb7
    have HS := Lib.hid (And.intro hS hE)
    clear hb7 hc he hS hE hA hC hx6 B6
    go_wp2_with fail
    try rw [L4]
    try go_wp2_with fail
    rw [HS.out.1, HS.out.2]
    exact bodyPost_ret (results_cell2 rfl rfl ld) rfl ⟨rfl, HB7.out⟩
end Go.Proofs.Ytnngebnnehokdaa
