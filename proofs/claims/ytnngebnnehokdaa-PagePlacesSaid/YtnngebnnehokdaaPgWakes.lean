/- The statements' own trial comes to true. -/
import Derived.Test.YtnngebnnehokdaaPgKp
import Derived.Test.YtnngebnnehokdaaPgAll
import Derived.Test.YtnngebnnehokdaaMake
namespace Go.Proofs.Ytnngebnnehokdaa
open Go.RowKit
set_option linter.unusedVariables false
attribute [-simp] Try.isAgg27 Try.zeroValue27 Try.isAgg23 Try.zeroValue23 Try.isAgg25 Try.zeroValue25
attribute [-go_sem] loadVar storeVar run_equalIn_agg
attribute [local go_sem] zero_blk build_blk zero_bod zero_pg build_pg build_pg0 loadVar_open4 storeVar_open4

theorem row_len {W : World} {base sz n : Nat} {e : TypeId} {v : Value} {xs : List Value} (h : W.ownsRow base e sz v n xs) : ∃ ra c, v = .slice ra n c := by
  rcases h.2 with ⟨rfl, rfl⟩ | ⟨g, cap, cur, rfl, _⟩
  · exact ⟨_, _, rfl⟩
  · exact ⟨_, _, rfl⟩
set_option maxRecDepth 100000 in
set_option maxHeartbeats 1600000 in
theorem pgWakes (w : World) : Calls Try.prog 14 #[] w fun e w' => e = .returned (.bool true) ∧ Below w.heap.size w w' := by
  obtain ⟨i0, hi, hz0, hz1, hz2⟩ := info_parts info_u8
  obtain ⟨x1, hx1⟩ : ∃ x, w.alloc (.cells (Value.int .u8 9 :: .int .u32 258 :: .int .i64 3 :: u8s (List.replicate 48 0)).toArray 25) = x := ⟨_, rfl⟩
  have ST1 : (storeVar 25 ⟨w.heap.size, 0, none⟩ (.agg (Value.int .u8 9 :: .int .u32 258 :: .int .i64 3 :: u8s (List.replicate 48 0)).toArray)).run Try.prog (w.alloc (.cells zcs.toArray 25)) = .ok () x1 := by
    rw [← hx1]
    refine store_new_pg zcs_len (by simp [u8s]) (fun v hv => ?_)
    simp only [List.mem_cons] at hv
    rcases hv with rfl | rfl | rfl | hv
    · rfl
    · rfl
    · rfl
    · exact u8s_one _ v hv
  have r1 : x1.heap[w.heap.size]? = some (.cells (Value.int .u8 9 :: .int .u32 258 :: .int .i64 3 :: u8s (List.replicate 48 0)).toArray 25 (0, 0)) := by rw [← hx1]; exact heap_alloc_new w _
  have c3 : x1.cell? ⟨w.heap.size, 3, none⟩ = some (.int .u8 0) := cell_of_row x1 _ 3 _ _ _ r1
  have f3 : x1.frozen? ⟨w.heap.size, 3, none⟩ = false := by simp [World.frozen?, r1]
  have z1 : x1.heap.size = w.heap.size + 1 := by rw [← hx1]; simp
  have B1 : Below w.heap.size w x1 := by rw [← hx1]; exact (Below.refl _ _).alloc (Nat.le_refl _) _
  obtain ⟨x2, hx2⟩ : ∃ x, x1.setCell ⟨w.heap.size, 3, none⟩ (.int .u8 77) = x := ⟨_, rfl⟩
  have B2 : Hid (Below w.heap.size w x2) := by rw [← hx2]; exact B1.setCell (Nat.le_refl _) _
  have ra2 : x2.rangeAt w.heap.size 0 kP.cells := by
    rw [← hx2, show (kP.cells) = [Value.int .u8 9, .int .u32 258, .int .i64 3] ++ ([.int .u8 77] ++ u8s (List.replicate 47 0)) from rfl]
    intro j v hv
    by_cases hj : j = 3
    · subst hj
      rw [show (0 + 3) = 3 from rfl, World.cell?_setCell_same' _ _ _ (by rw [c3]; rfl)]
      exact hv
    · rw [Nat.zero_add, World.cell?_setCell_other x1 _ (a := ⟨w.heap.size, 3, none⟩) (b := ⟨w.heap.size, j, none⟩) (by intro e; simp only [Addr.mk.injEq] at e; omega)]
      refine (cell_of_row x1 _ _ _ _ _ r1).trans ?_
      rw [← hv, List.getElem?_toArray]
      match j, hj with
      | 0, _ => rfl
      | 1, _ => rfl
      | 2, _ => rfl
      | 3, h => exact absurd rfl h
      | j + 4, _ => rfl
  have RA2 := Lib.hid ra2
  have HLT : Hid (w.heap.size < x2.heap.size) := Nat.lt_of_lt_of_le (by show w.heap.size < x1.heap.size; omega) (by rw [← hx2]; exact ((Below.refl w.heap.size x1).setCell (p := ⟨w.heap.size, 3, none⟩) (Nat.le_refl _) _).size)
  have L20 := Lib.hid (load_pg ra2 (Sct.cells_length (p := kP) rfl))
  clear B1 z1 r1 ra2
  have ST1' : (storeVar 25 ⟨w.heap.size, 0, none⟩ (.agg (((zcs.set 0 (.int .u8 9)).set 1 (.int .u32 258)).set 2 (.int .i64 3)).toArray)).run Try.prog (w.alloc (.cells zcs.toArray 25)) = .ok () x1 := ST1
  clear ST1 hx1
  go_enter Try.func14, Try.ntmps14
  go_wp2_with fail
  clear ST1' c3 f3
  have L2 : (loadVar 25 ⟨w.heap.size, 0, none⟩).run Try.prog x2 = .ok (.agg kP.cells.toArray) x2 := L20.out
  rw [L2]
  clear L2
  go_wp2_with fail
  go_at_call 9
  refine (pageOk.enc kP kP_ok x2).mono ?_
  rintro e x3 ⟨rfl, hb⟩
  rw [kP_code.1, kP_code.2]
  have B3 : Hid (Below w.heap.size w x3) := B2.out.trans (hb.mono B2.out.size)
  have RA3 : Hid (x3.rangeAt w.heap.size 0 kP.cells) := range_below hb HLT.out RA2.out
  have H3 : Hid (w.heap.size < x3.heap.size) := Nat.lt_of_lt_of_le HLT.out hb.size
  clear hb hx2
  obtain ⟨x4, hx4⟩ : ∃ x, x3.alloc (.cells (u8s kP.bytes).toArray 27) = x := ⟨_, rfl⟩
  have ST4 : (storeVar 27 ⟨x3.heap.size, 0, none⟩ (.agg (u8s kP.bytes).toArray)).run Try.prog (x3.alloc (.cells zarr 27)) = .ok () x4 := by rw [← hx4]; exact store_new zarr_size (isBlk_u8s (Sct.bytes_length kP_ok))
  have b4 : Below x3.heap.size x3 x4 := by rw [← hx4]; exact (Below.refl _ _).alloc (Nat.le_refl _) _
  have B4 : Hid (Below w.heap.size w x4) := B3.out.trans (b4.mono B3.out.size)
  have RA4 : Hid (x4.rangeAt w.heap.size 0 kP.cells) := range_below b4 H3.out RA3.out
  have H4 : Hid (x3.heap.size < x4.heap.size) := by show _ < _; rw [← hx4, World.size_alloc]; omega
  have RB4 : Hid (x4.rangeAt x3.heap.size 0 (u8s kP.bytes)) := row_range (t := 27) (by rw [← hx4]; exact heap_alloc_new x3 _)
  have L4 : (loadVar 27 ⟨x3.heap.size, 0, none⟩).run Try.prog x4 = .ok (.agg (u8s kP.bytes).toArray) x4 := load_blk RB4.out (by rw [u8s_length]; exact Sct.bytes_length kP_ok)
  clear b4 hx4
  go_wp2_with fail
  try rw [L4]
  try go_wp2_with fail
  clear ST4 L4
  go_at_call 11
  refine (pageOk.dec kP.bytes (Sct.bytes_bytes kP_ok) (Sct.bytes_length kP_ok) x4).mono ?_
  rintro e x5 ⟨rfl, hb⟩
  rw [kP_dec.1, kP_dec.2]
  have B5 : Hid (Below w.heap.size w x5) := B4.out.trans (hb.mono B4.out.size)
  have H34 : Hid (w.heap.size < x4.heap.size) := Nat.lt_trans H3.out H4.out
  have RA5 : Hid (x5.rangeAt w.heap.size 0 kP.cells) := range_below hb H34.out RA4.out
  have RB5 : Hid (x5.rangeAt x3.heap.size 0 (u8s kP.bytes)) := range_below hb H4.out RB4.out
  have H5 : Hid (x4.heap.size ≤ x5.heap.size) := hb.size
  clear hb
  obtain ⟨x6, hx6⟩ : ∃ x, x5.alloc (.cells kP.cells.toArray 25) = x := ⟨_, rfl⟩
  have ST6 : (storeVar 25 ⟨x5.heap.size, 0, none⟩ (.agg kP.cells.toArray)).run Try.prog (x5.alloc (.cells zcs.toArray 25)) = .ok () x6 := by rw [← hx6]; exact store_new_pg zcs_len (Sct.cells_length (p := kP) rfl) (Sct.cells_one _)
  have b6 : Below x5.heap.size x5 x6 := by rw [← hx6]; exact (Below.refl _ _).alloc (Nat.le_refl _) _
  have B6 : Hid (Below w.heap.size w x6) := B5.out.trans (b6.mono B5.out.size)
  have RA6 : Hid (x6.rangeAt w.heap.size 0 kP.cells) := range_below b6 (by have := H34.out; have := H5.out; omega) RA5.out
  have RB6 : Hid (x6.rangeAt x3.heap.size 0 (u8s kP.bytes)) := range_below b6 (by have := H4.out; have := H5.out; omega) RB5.out
  have RQ6 : Hid (x6.rangeAt x5.heap.size 0 kP.cells) := row_range (t := 25) (by rw [← hx6]; exact heap_alloc_new x5 _)
  have H6 : Hid (x5.heap.size < x6.heap.size) := by show _ < _; rw [← hx6, World.size_alloc]; omega
  clear b6 hx6
  go_wp2_with fail
  clear ST6
  go_at_call 11
  have hz := pageOk.dec (List.replicate 64 0) (fun j => by rw [List.getElem?_replicate]; split <;> decide) (by simp) x6
  rw [z64_blk] at hz
  refine hz.mono ?_
  clear hz
  rintro e x7 ⟨rfl, hb⟩
  rw [z64_dec.1, z64_dec.2]
  obtain ⟨x8, hx8⟩ : ∃ x, x7.alloc (.cells zcs.toArray 25) = x := ⟨_, rfl⟩
  have ST8 : (storeVar 25 ⟨x7.heap.size, 0, none⟩ (.agg zsct.cells.toArray)).run Try.prog (x7.alloc (.cells zcs.toArray 25)) = .ok () x8 := by rw [← hx8]; exact store_new_pg zcs_len (by simp [zsct, Sct.cells, u8s]) (Sct.cells_one _)
  have b8 : Below x6.heap.size x6 x8 := by rw [← hx8]; exact hb.alloc hb.size _
  have B8 : Hid (Below w.heap.size w x8) := B6.out.trans (b8.mono B6.out.size)
  have RA8 := range_below b8 (by have := H34.out; have := H5.out; have := H6.out; omega) RA6.out
  have RB8 := range_below b8 (by have := H4.out; have := H5.out; have := H6.out; omega) RB6.out
  have RQ8 := range_below b8 H6.out RQ6.out
  have LP : (loadVar 25 ⟨w.heap.size, 0, none⟩).run Try.prog x8 = .ok (.agg kP.cells.toArray) x8 := load_pg RA8 (Sct.cells_length (p := kP) rfl)
  have LQ : (loadVar 25 ⟨x5.heap.size, 0, none⟩).run Try.prog x8 = .ok (.agg kP.cells.toArray) x8 := load_pg RQ8 (Sct.cells_length (p := kP) rfl)
  have d0 : x8.cell? ⟨x3.heap.size, 0, none⟩ = some (.int .u8 9) := RB8 0 _ rfl
  have d1 : x8.cell? ⟨x3.heap.size, 1, none⟩ = some (.int .u8 2) := RB8 1 _ rfl
  have d2 : x8.cell? ⟨x3.heap.size, 2, none⟩ = some (.int .u8 1) := RB8 2 _ rfl
  have d5 : x8.cell? ⟨x3.heap.size, 5, none⟩ = some (.int .u8 3) := RB8 5 _ rfl
  have d7 : x8.cell? ⟨x3.heap.size, 7, none⟩ = some (.int .u8 77) := RB8 7 _ rfl
  have d63 : x8.cell? ⟨x3.heap.size, 63, none⟩ = some (.int .u8 0) := RB8 63 _ (by unfold u8s; rw [List.getElem?_map, kP_63]; rfl)
  have EQ : (Op.equalIn 10000 25 (.agg kP.cells.toArray) (.agg kP.cells.toArray)).run Try.prog x8 = .ok true x8 := by
    rw [eq_sec (p := kP) (q := kP) rfl rfl, sameS_iff.2 rfl]
  clear b8 hb hx8 RA8 RB8 RQ8
  obtain ⟨x9, hmk, ho9, hg9⟩ := run_make_full (P := Try.prog) x8 x8.heap.size 41 5 i0 (.int .u8 0) 1 Try.underlying41 hi hz0 hz1 .i64 .i64 97 (by rw [hz2]; decide) (by unfold maxLen; decide) (Nat.le_refl _)
  have MK : Hid ((Instr.makeSlice 41 (.int .i64 97) (.int .i64 97)).run Try.prog x8 = .ok (.slice (some ⟨x8.heap.size, 0, none⟩) 97 97) x9) := hmk
  have S9 : Hid (Sl .u8 x9 (.slice (some ⟨x8.heap.size, 0, none⟩) 97 97) (List.replicate 97 0)) := by
    rw [show (Value.int IntKind.u8 0).cells = #[.int .u8 0] from rfl, toList_madeCells_one, Nat.mul_one] at ho9
    exact Sl.of_owns (bs := List.replicate 97 0) (by rw [List.map_replicate, List.length_replicate]; exact ho9)
  have B9 : Hid (Below w.heap.size w x9) := B8.out.grown hg9 B8.out.size (fun k e => by cases e)
  have LP0 := Lib.hid LP
  have LQ0 := Lib.hid LQ
  clear hmk ho9 hg9 LP LQ hi hz0 hz1 hz2
  go_wp2_with fail
  clear ST8 d0 d1 d2 d5 d7 d63
  rw [LQ0.out]
  go_wp2_with fail
  rw [LP0.out]
  go_wp2_with fail
  go_at_call 17
  refine (pgCount 49 x8 (by omega) (by omega)).mono ?_
  rintro e y ⟨rfl, hy⟩
  obtain rfl := hy.symm
  rw [show cnt 49 = 2 from rfl]
  clear hy EQ
  go_wp2_with ((with_reducible refine gate_make ?_); refine wpList_make_run _ _ _ rfl rfl _ _ _ rfl rfl MK.out ?_)
  go_at_call 15
  refine (pgCut _ _ x9 S9.out (by simp)).mono ?_
  rintro e x10 ⟨v10, rfl, ho, hb⟩
  have hn : nPcs (List.replicate 97 0) = 3 := by simp [nPcs]
  rw [hn] at ho
  obtain ⟨ra, c, rfl⟩ := row_len ho
  have B10 : Hid (Below w.heap.size w x10) := B9.out.trans (hb.mono B9.out.size)
  clear ho hb hn
  go_wp2_with fail
  go_ret
  exact ⟨rfl, B10.out⟩
end Go.Proofs.Ytnngebnnehokdaa
