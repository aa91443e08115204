/- The document's own Encode. -/
import Derived.Test.YtnngebnnehokdaaPgRow
import Derived.Test.YtnngebnnehokdaaRef
import Derived.Test.YtnngebnnehokdaaFnv
namespace Go.Proofs.Ytnngebnnehokdaa
open Go.RowKit
set_option linter.unusedVariables false
attribute [-simp] Try.isAgg27 Try.zeroValue27
attribute [-go_sem] loadVar storeVar
attribute [local go_sem] zero_blk build_blk loadVar_open storeVar_open

/-- The bytes that Encode answers. -/
def Sct.code (p : Sct) : List Value := if p.fits = true then u8s p.bytes else fillB 0
def Sct.codeE (p : Sct) : Int := if p.fits = true then 0 else 11

set_option maxRecDepth 100000 in
set_option maxHeartbeats 4000000 in
theorem refEncode (p : Sct) (hp : p.Ok) (w : World) :
    Calls Try.prog 10 #[.agg p.cells.toArray] w fun e w' => e = .returned (.tuple #[.agg p.code.toArray, .int .i64 p.codeE]) ∧ Below w.heap.size w w' := by
  obtain ⟨W1, hW1⟩ : ∃ W1, w.alloc (.cells p.cells.toArray 33) = W1 := ⟨_, rfl⟩
  have hB1 : Below w.heap.size w W1 := by rw [← hW1]; exact (Below.refl _ _).alloc (Nat.le_refl _) _
  have hz1 : W1.heap.size = w.heap.size + 1 := by rw [← hW1]; simp
  have hr1 : W1.heap[w.heap.size]? = some (.cells p.cells.toArray 33 (0, 0)) := by rw [← hW1]; exact heap_alloc_new w _
  obtain ⟨W, hW⟩ : ∃ W, W1.alloc (.cells zarr 27) = W := ⟨_, rfl⟩
  have hB2 : Below W1.heap.size W1 W := by rw [← hW]; exact (Below.refl _ _).alloc (Nat.le_refl _) _
  have HB : Hid (Below w.heap.size w W) := hB1.trans (hB2.mono hB1.size)
  have HR : Hid (W.heap[w.heap.size]? = some (.cells p.cells.toArray 33 (0, 0))) := (hB2.block _ (by omega)).trans hr1
  have HR2 : Hid (W.heap[w.heap.size + 1]? = some (.cells zarr 27 (0, 0))) := by
    have := heap_alloc_new W1 (.cells zarr 27)
    rw [hW, hz1] at this
    exact this
  have HZ : Hid (W.heap.size = w.heap.size + 2) := by show _ = _; rw [← hW, World.size_alloc, hz1]
  have HP := Lib.hid hp
  have c0 : W.cell? ⟨w.heap.size, 0, none⟩ = some (.int .u8 p.mark) := cell_of_row W _ 0 _ _ _ HR.out
  have c1 : W.cell? ⟨w.heap.size, 1, none⟩ = some (.int .u32 p.seq) := cell_of_row W _ 1 _ _ _ HR.out
  have c2 : W.cell? ⟨w.heap.size, 2, none⟩ = some (.int .i64 p.index) := cell_of_row W _ 2 _ _ _ HR.out
  clear hB1 hB2 hr1 hp
  obtain ⟨mk, hmk⟩ : ∃ q, p.mark = q := ⟨_, rfl⟩
  obtain ⟨sq, hsq⟩ : ∃ q, p.seq = q := ⟨_, rfl⟩
  obtain ⟨ix, hix⟩ : ∃ q, p.index = q := ⟨_, rfl⟩
  have EM := Lib.hid hmk
  have ES := Lib.hid hsq
  have EI := Lib.hid hix
  rw [hmk] at c0
  rw [hsq] at c1
  rw [hix] at c2
  clear hmk hsq hix
  by_cases hf : p.fits = true
  · have hfx := of_decide_eq_true hf
    rw [EM.out, EI.out] at hfx
    obtain ⟨m1, m2, m3⟩ := hfx
    have q0 : (mk == 0) = false := by simpa using m1
    have q1 : decide (ix < 0) = false := by simp; omega
    have q2 : decide (65535 < ix) = false := by simp; omega
    have HF := Lib.hid hf
    clear hf
    have hmx : Try.prog.follows .mixedOrders = true := by kernel_rfl
    have HC : Hid (∀ y : World, Below W.heap.size W y → y.cell? ⟨w.heap.size, 2, none⟩ = some (.int .i64 ix)) := fun y hy => (hy.cell (p := ⟨w.heap.size, 2, none⟩) (by have := HZ.out; show w.heap.size < _; omega)).trans (by rw [← EI.out]; exact cell_of_row W _ 2 _ _ _ HR.out)
    have HI0 : Hid (0 ≤ ix) := m2
    have HI1 : Hid (ix ≤ 65535) := m3
    have HSB : Hid (Sl .u8 W (.slice (some ⟨w.heap.size, 3, none⟩) 48 48) p.body) := by
      have := sl_range (bs := p.body) (row_part (a := [.int .u8 p.mark, .int .u32 p.seq, .int .i64 p.index]) (b := u8s p.body) HR.out) (by have := HZ.out; omega) (by rw [HP.out.len]; simp [maxLen])
      rw [HP.out.len] at this
      exact this
    have d0 : ∀ y : Ext W, y.1.cell? ⟨w.heap.size, 0, none⟩ = some (.int .u8 mk) := fun y => (y.2.cell (p := ⟨w.heap.size, 0, none⟩) (by have := HZ.out; show w.heap.size < _; omega)).trans c0
    have d1 : ∀ y : Ext W, y.1.cell? ⟨w.heap.size, 1, none⟩ = some (.int .u32 sq) := fun y => (y.2.cell (p := ⟨w.heap.size, 1, none⟩) (by have := HZ.out; show w.heap.size < _; omega)).trans c1
    have s0 : 0 ≤ sq := by rw [← ES.out]; exact HP.out.seq.1
    have s1 : sq < 4294967296 := by rw [← ES.out]; exact HP.out.seq.2
    have HPut : Hid (∀ x : World, Calls Try.prog 23 #[.int .u64 sq, .int .i64 4] x fun e w' => ∃ v, e = .returned v ∧ w'.ownsRow x.heap.size 5 1 v 4 ((putL sq 4).map (Value.int .u8)) ∧ Below x.heap.size x w') := fun x => refPut_some sq 4 x (by omega) (by omega) s0 (by omega)
    have HPut2 : Hid (∀ x : World, Calls Try.prog 23 #[.int .u64 ix, .int .i64 2] x fun e w' => ∃ v, e = .returned v ∧ w'.ownsRow x.heap.size 5 1 v 2 ((putL ix 2).map (Value.int .u8)) ∧ Below x.heap.size x w') := fun x => refPut_some ix 2 x (by omega) (by omega) m2 (by omega)
    clear m1 m2 m3
    go_enter Try.func10, Try.ntmps10
    go_wp2_with fail
    refine region_plan (fun x => ∃ y : Ext W, x = y.1) 8 (.takes [0, 1, 3, 4, 5] (.two 2 6 (.one 6 (.one 7 .leaf)) (.one 2 (.one 7 .leaf)))) hmx (by kernel_rfl) (by intro c x v a w h; cases x <;> exact h) ⟨⟨W.drew, (Below.refl _ W).drew⟩, rfl⟩ ?_
    repeat (rw [wpPlan_takes_cons]; simp only [nth_zero, nth_succ]; go_big_quiet_step (fail); refine wpQuiet_nil ?_)
    rw [wpPlan_takes_nil]
    clear s0 s1 c0 c1 c2 q0 q1 q2 hW hW1
    refine ⟨?_, ?_⟩
    · obtain ⟨x1, hx1⟩ : ∃ x, W.drew.alloc (.cells #[.int .u8 mk] 5) = x := ⟨_, rfl⟩
      have K1 : Hid (Below W.heap.size W x1) := by rw [← hx1]; exact ((Below.refl _ W).drew).alloc (Nat.le_refl _) _
      have O1 : Hid (OwnB W x1 (.slice (some ⟨W.heap.size, 0, none⟩) 1 1) [mk]) := by rw [← hx1]; exact ownB_one W W.drew (Nat.le_refl _) mk
      simp only [nth_zero, nth_succ]
      go_wp2_with fail
      try rw [hx1]
      refine planPost_mk ⟨⟨x1, K1.out⟩, rfl⟩ ?_
      clear hx1
      rw [wpPlan_one]
      simp only [nth_zero, nth_succ]
      go_wp2_with fail
      go_at_call 23
      refine (HPut.out x1).mono ?_
      rintro e x2 ⟨v4, rfl, hrow, hb⟩
      obtain ⟨v5, x3, R3, O3, K3⟩ := (O1.out.below hb).app (K1.out.trans (hb.mono K1.out.size)) (Sl.of_owns (bs := putL sq 4) (by rw [putL_length]; exact hrow)) (by simp [putL_length])
      have K2 : Hid (Below W.heap.size W x2) := K1.out.trans (hb.mono K1.out.size)
      clear hrow hb O1
      go_wp2_with fail
      refine planPost_mk ⟨⟨x2, K2.out⟩, rfl⟩ ?_
      rw [wpPlan_one]
      simp only [nth_zero, nth_succ]
      refine wpList_append_run (.tmp 22) (.tmp 26) 41 rfl rfl _ _ _ rfl rfl R3.out ?_
      go_wp2_with fail
      refine planPost_mk ⟨⟨x3, K3.out⟩, rfl⟩ ?_
      rw [wpPlan_leaf]
      simp only [List.drop_succ_cons, List.drop_zero]
      go_wp2_with fail
      -- the second number, and the body
      clear d0 d1
      have d2 : ∀ y : Ext W, y.1.cell? ⟨w.heap.size, 2, none⟩ = some (.int .i64 ix) := fun y => HC.out y.1 y.2
      have KD : Hid (Below W.heap.size W x3.drew) := K3.out.trans (((Below.refl _ x3).drew).mono K3.out.size)
      have O3' : Hid (OwnB W x3.drew v5 ([mk] ++ putL sq 4)) := O3.out.below (Below.refl _ x3).drew
      have i0 := HI0.out
      have i1 := HI1.out
      refine region_plan (fun x => ∃ y : Ext W, x = y.1) 9 (.takes [0, 1, 2, 3, 6, 7] (.one 4 (.one 5 (.one 8 .leaf)))) hmx (by kernel_rfl) (by intro c x v a w h; cases x <;> exact h) ⟨⟨x3.drew, KD.out⟩, rfl⟩ ?_
      repeat (rw [wpPlan_takes_cons]; simp only [nth_zero, nth_succ]; go_big_quiet_step (fail); refine wpQuiet_nil ?_)
      clear i0 i1 d2
      rw [wpPlan_takes_nil, wpPlan_one]
      simp only [nth_zero, nth_succ]
      go_wp2_with fail
      go_at_call 23
      refine (HPut2.out x3.drew).mono ?_
      rintro e x4 ⟨v6, rfl, hrow, hb⟩
      obtain ⟨v7, x5, R5, O5, K5⟩ := (O3'.out.below hb).app (KD.out.trans (hb.mono KD.out.size)) (Sl.of_owns (bs := putL ix 2) (by rw [putL_length]; exact hrow)) (by simp [putL_length])
      obtain ⟨v8, x6, R6, O6', K6⟩ := O5.out.app K5.out (HSB.out.below K5.out) (by rw [HP.out.len]; simp [putL_length])
      have O6 : Hid (OwnB W x6 v8 p.head) := by
        have := O6'.out
        rw [show ([mk] ++ putL sq 4) ++ putL ix 2 ++ p.body = p.head by simp [Sct.head, EM.out, ES.out, EI.out]] at this
        exact this
      have K4 : Hid (Below W.heap.size W x4) := KD.out.trans (hb.mono KD.out.size)
      clear hrow hb O6'
      go_wp2_with fail
      refine planPost_mk ⟨⟨x4, K4.out⟩, rfl⟩ ?_
      rw [wpPlan_one]
      simp only [nth_zero, nth_succ]
      refine wpList_append_run (.tmp 28) (.tmp 32) 41 rfl rfl _ _ _ rfl rfl R5.out ?_
      go_wp2_with fail
      refine planPost_mk ⟨⟨x5, K5.out⟩, rfl⟩ ?_
      rw [wpPlan_one]
      simp only [nth_zero, nth_succ]
      refine wpList_append_run (.tmp 33) (.tmp 35) 41 rfl rfl _ _ _ rfl rfl R6.out ?_
      go_wp2_with fail
      refine planPost_mk ⟨⟨x6, K6.out⟩, rfl⟩ ?_
      rw [wpPlan_leaf]
      simp only [List.drop_succ_cons, List.drop_zero]
      clear R3 R5 R6 O3 O3' O5
      go_wp2_with fail
      -- the check
      go_at_call 24
      refine (refCheck_any v8 p.head x6 O6.out.sl (Sct.head_bytes HP.out)).mono ?_
      rintro e w' ⟨rfl, hx⟩
      obtain rfl := hx.symm
      clear hx
      obtain ⟨ck, hck⟩ : ∃ q, fnvMore fnvInit p.head = q := ⟨_, rfl⟩
      have HCK := Lib.hid hck
      have HU := Lib.hid (chk_u64 p.head)
      rw [hck]
      clear hck
      go_wp2_with fail
      go_at_call 23
      refine (refPut_some ck 8 x6 (by omega) (by omega) (by rw [← HCK.out]; exact HU.out.1) (by rw [← HCK.out]; exact HU.out.2)).mono ?_
      rintro e x7 ⟨v9, rfl, hrow, hb⟩
      obtain ⟨v10, x8, R8, O8, K8⟩ := (O6.out.below hb).app (K6.out.trans (hb.mono K6.out.size)) (Sl.of_owns (bs := putL ck 8) (by rw [putL_length]; exact hrow)) (by rw [Sct.head_length HP.out]; simp [putL_length])
      clear hrow hb
      obtain ⟨x9, hx9⟩ : ∃ x, x8.alloc (.cells zarr 27) = x := ⟨_, rfl⟩
      have K9 : Hid (Below W.heap.size W x9) := by rw [← hx9]; exact K8.out.alloc K8.out.size _
      have k9 : Hid (x9.heap[x8.heap.size]? = some (.cells zarr 27 (0, 0))) := by rw [← hx9]; exact heap_alloc_new x8 _
      have O9 : Hid (OwnB W x9 v10 (p.head ++ putL ck 8)) := by rw [← hx9]; exact O8.out.below ((Below.refl _ x8).alloc (Nat.le_refl _) _)
      have hl63 : (p.head ++ putL ck 8).length = 63 := by rw [List.length_append, Sct.head_length HP.out, putL_length]
      have RC := run_copy_bytes (B := x8.heap.size) (o := 0) (dLen := 64) (dCap := 64) 3 O9.out.sl (by rw [hl63]; omega) (row_there k9.out 0 _ (by rw [hl63, zarr_size]; omega))
      obtain ⟨x10, hx10⟩ : ∃ x, x9.setCells x8.heap.size 0 (u8s (p.head ++ putL ck 8)) = x := ⟨_, rfl⟩
      rw [hx10, hl63] at RC
      have K10 : Hid (Below W.heap.size W x10) := by rw [← hx10]; exact K9.out.trans ((below_cells (N := W.heap.size) K8.out.size _ _ _).mono (Nat.le_refl _))
      have rb : x10.rangeAt x8.heap.size 0 (u8s p.bytes) := by
        have e1 : u8s p.bytes = u8s (p.head ++ putL ck 8) ++ [.int .u8 0] := by
          rw [← HCK.out]; simp [u8s, Sct.bytes, chk]
        rw [e1]
        refine rangeAt_app ?_ ?_
        · rw [← hx10]; exact World.rangeAt_setCells_same x9 _ 0 _ (by rw [u8s_length, hl63]; exact row_there k9.out 0 63 (by rw [zarr_size]; omega))
        · rw [u8s_length, hl63, ← hx10]
          refine World.rangeAt_setCells_apart (fun j x hx => ?_) _ 0 _ (by rw [u8s_length, hl63]; simp)
          rw [cell_of_row _ _ _ _ _ _ k9.out]
          match j, hx with
          | 0, hx => simp at hx; subst hx; rfl
          | j + 1, hx => simp at hx
      have L10 : (loadVar 27 ⟨x8.heap.size, 0, none⟩).run Try.prog x10 = .ok (.agg (u8s p.bytes).toArray) x10 := load_blk rb (by rw [u8s_length]; exact Sct.bytes_length HP.out)
      obtain ⟨x11, st, ld, hb11⟩ := blk_cell (w := w) (x := x10) (B := w.heap.size + 1) (u := u8s p.bytes) ((K10.out.block _ (by have := HZ.out; omega)).trans HR2.out) zarr_size (Nat.le_succ _) (HB.out.trans (K10.out.mono HB.out.size)) (isBlk_u8s (Sct.bytes_length HP.out))
      have HB11 := Lib.hid hb11
      have HLD := Lib.hid ld
      clear hx10 rb hl63 hb11 ld
      go_wp2_with (at_builtin; refine wpList_append_run (.tmp 37) (.tmp 40) 41 rfl rfl _ _ _ rfl rfl R8.out ?_)
      have hE : p.code = u8s p.bytes ∧ p.codeE = 0 := by unfold Sct.code Sct.codeE; rw [if_pos HF.out, if_pos HF.out]; exact ⟨rfl, rfl⟩
      rw [hE.1, hE.2]
      exact bodyPost_ret (results_cell2 rfl rfl HLD.out) rfl ⟨rfl, HB11.out⟩
    · simp only [nth_zero, nth_succ]
      go_wp2_with fail
      go_at_call 23
      refine (HPut.out W.drew).mono ?_
      rintro e x1 ⟨v4, rfl, hrow, hb⟩
      have K1 : Hid (Below W.heap.size W x1) := ((Below.refl _ W).drew).trans hb
      have S1 : Hid (Sl .u8 x1 v4 (putL sq 4)) := Sl.of_owns (bs := putL sq 4) (by rw [putL_length]; exact hrow)
      clear hrow hb
      go_wp2_with fail
      refine planPost_mk ⟨⟨x1, K1.out⟩, rfl⟩ ?_
      rw [wpPlan_one]
      obtain ⟨x2, hx2⟩ : ∃ x, x1.alloc (.cells #[.int .u8 mk] 5) = x := ⟨_, rfl⟩
      have K2 : Hid (Below W.heap.size W x2) := by rw [← hx2]; exact K1.out.alloc K1.out.size _
      have O2 : Hid (OwnB W x2 (.slice (some ⟨x1.heap.size, 0, none⟩) 1 1) [mk]) := by rw [← hx2]; exact ownB_one W x1 K1.out.size mk
      have S2 : Hid (Sl .u8 x2 v4 (putL sq 4)) := by rw [← hx2]; exact S1.out.below ((Below.refl _ x1).alloc (Nat.le_refl _) _)
      obtain ⟨v5, x3, R3, O3, K3⟩ := O2.out.app K2.out S2.out (by simp [putL_length])
      simp only [nth_zero, nth_succ]
      go_wp2_with fail
      try rw [hx2]
      refine planPost_mk ⟨⟨x2, K2.out⟩, rfl⟩ ?_
      clear hx2 O2 S1 S2
      rw [wpPlan_one]
      simp only [nth_zero, nth_succ]
      refine wpList_append_run (.tmp 22) (.tmp 26) 41 rfl rfl _ _ _ rfl rfl R3.out ?_
      go_wp2_with fail
      refine planPost_mk ⟨⟨x3, K3.out⟩, rfl⟩ ?_
      rw [wpPlan_leaf]
      simp only [List.drop_succ_cons, List.drop_zero]
      go_wp2_with fail
      -- the second number, and the body
      clear d0 d1
      have d2 : ∀ y : Ext W, y.1.cell? ⟨w.heap.size, 2, none⟩ = some (.int .i64 ix) := fun y => HC.out y.1 y.2
      have KD : Hid (Below W.heap.size W x3.drew) := K3.out.trans (((Below.refl _ x3).drew).mono K3.out.size)
      have O3' : Hid (OwnB W x3.drew v5 ([mk] ++ putL sq 4)) := O3.out.below (Below.refl _ x3).drew
      have i0 := HI0.out
      have i1 := HI1.out
      refine region_plan (fun x => ∃ y : Ext W, x = y.1) 9 (.takes [0, 1, 2, 3, 6, 7] (.one 4 (.one 5 (.one 8 .leaf)))) hmx (by kernel_rfl) (by intro c x v a w h; cases x <;> exact h) ⟨⟨x3.drew, KD.out⟩, rfl⟩ ?_
      repeat (rw [wpPlan_takes_cons]; simp only [nth_zero, nth_succ]; go_big_quiet_step (fail); refine wpQuiet_nil ?_)
      clear i0 i1 d2
      rw [wpPlan_takes_nil, wpPlan_one]
      simp only [nth_zero, nth_succ]
      go_wp2_with fail
      go_at_call 23
      refine (HPut2.out x3.drew).mono ?_
      rintro e x4 ⟨v6, rfl, hrow, hb⟩
      obtain ⟨v7, x5, R5, O5, K5⟩ := (O3'.out.below hb).app (KD.out.trans (hb.mono KD.out.size)) (Sl.of_owns (bs := putL ix 2) (by rw [putL_length]; exact hrow)) (by simp [putL_length])
      obtain ⟨v8, x6, R6, O6', K6⟩ := O5.out.app K5.out (HSB.out.below K5.out) (by rw [HP.out.len]; simp [putL_length])
      have O6 : Hid (OwnB W x6 v8 p.head) := by
        have := O6'.out
        rw [show ([mk] ++ putL sq 4) ++ putL ix 2 ++ p.body = p.head by simp [Sct.head, EM.out, ES.out, EI.out]] at this
        exact this
      have K4 : Hid (Below W.heap.size W x4) := KD.out.trans (hb.mono KD.out.size)
      clear hrow hb O6'
      go_wp2_with fail
      refine planPost_mk ⟨⟨x4, K4.out⟩, rfl⟩ ?_
      rw [wpPlan_one]
      simp only [nth_zero, nth_succ]
      refine wpList_append_run (.tmp 28) (.tmp 32) 41 rfl rfl _ _ _ rfl rfl R5.out ?_
      go_wp2_with fail
      refine planPost_mk ⟨⟨x5, K5.out⟩, rfl⟩ ?_
      rw [wpPlan_one]
      simp only [nth_zero, nth_succ]
      refine wpList_append_run (.tmp 33) (.tmp 35) 41 rfl rfl _ _ _ rfl rfl R6.out ?_
      go_wp2_with fail
      refine planPost_mk ⟨⟨x6, K6.out⟩, rfl⟩ ?_
      rw [wpPlan_leaf]
      simp only [List.drop_succ_cons, List.drop_zero]
      clear R3 R5 R6 O3 O3' O5
      go_wp2_with fail
      -- the check
      go_at_call 24
      refine (refCheck_any v8 p.head x6 O6.out.sl (Sct.head_bytes HP.out)).mono ?_
      rintro e w' ⟨rfl, hx⟩
      obtain rfl := hx.symm
      clear hx
      obtain ⟨ck, hck⟩ : ∃ q, fnvMore fnvInit p.head = q := ⟨_, rfl⟩
      have HCK := Lib.hid hck
      have HU := Lib.hid (chk_u64 p.head)
      rw [hck]
      clear hck
      go_wp2_with fail
      go_at_call 23
      refine (refPut_some ck 8 x6 (by omega) (by omega) (by rw [← HCK.out]; exact HU.out.1) (by rw [← HCK.out]; exact HU.out.2)).mono ?_
      rintro e x7 ⟨v9, rfl, hrow, hb⟩
      obtain ⟨v10, x8, R8, O8, K8⟩ := (O6.out.below hb).app (K6.out.trans (hb.mono K6.out.size)) (Sl.of_owns (bs := putL ck 8) (by rw [putL_length]; exact hrow)) (by rw [Sct.head_length HP.out]; simp [putL_length])
      clear hrow hb
      obtain ⟨x9, hx9⟩ : ∃ x, x8.alloc (.cells zarr 27) = x := ⟨_, rfl⟩
      have K9 : Hid (Below W.heap.size W x9) := by rw [← hx9]; exact K8.out.alloc K8.out.size _
      have k9 : Hid (x9.heap[x8.heap.size]? = some (.cells zarr 27 (0, 0))) := by rw [← hx9]; exact heap_alloc_new x8 _
      have O9 : Hid (OwnB W x9 v10 (p.head ++ putL ck 8)) := by rw [← hx9]; exact O8.out.below ((Below.refl _ x8).alloc (Nat.le_refl _) _)
      have hl63 : (p.head ++ putL ck 8).length = 63 := by rw [List.length_append, Sct.head_length HP.out, putL_length]
      have RC := run_copy_bytes (B := x8.heap.size) (o := 0) (dLen := 64) (dCap := 64) 3 O9.out.sl (by rw [hl63]; omega) (row_there k9.out 0 _ (by rw [hl63, zarr_size]; omega))
      obtain ⟨x10, hx10⟩ : ∃ x, x9.setCells x8.heap.size 0 (u8s (p.head ++ putL ck 8)) = x := ⟨_, rfl⟩
      rw [hx10, hl63] at RC
      have K10 : Hid (Below W.heap.size W x10) := by rw [← hx10]; exact K9.out.trans ((below_cells (N := W.heap.size) K8.out.size _ _ _).mono (Nat.le_refl _))
      have rb : x10.rangeAt x8.heap.size 0 (u8s p.bytes) := by
        have e1 : u8s p.bytes = u8s (p.head ++ putL ck 8) ++ [.int .u8 0] := by
          rw [← HCK.out]; simp [u8s, Sct.bytes, chk]
        rw [e1]
        refine rangeAt_app ?_ ?_
        · rw [← hx10]; exact World.rangeAt_setCells_same x9 _ 0 _ (by rw [u8s_length, hl63]; exact row_there k9.out 0 63 (by rw [zarr_size]; omega))
        · rw [u8s_length, hl63, ← hx10]
          refine World.rangeAt_setCells_apart (fun j x hx => ?_) _ 0 _ (by rw [u8s_length, hl63]; simp)
          rw [cell_of_row _ _ _ _ _ _ k9.out]
          match j, hx with
          | 0, hx => simp at hx; subst hx; rfl
          | j + 1, hx => simp at hx
      have L10 : (loadVar 27 ⟨x8.heap.size, 0, none⟩).run Try.prog x10 = .ok (.agg (u8s p.bytes).toArray) x10 := load_blk rb (by rw [u8s_length]; exact Sct.bytes_length HP.out)
      obtain ⟨x11, st, ld, hb11⟩ := blk_cell (w := w) (x := x10) (B := w.heap.size + 1) (u := u8s p.bytes) ((K10.out.block _ (by have := HZ.out; omega)).trans HR2.out) zarr_size (Nat.le_succ _) (HB.out.trans (K10.out.mono HB.out.size)) (isBlk_u8s (Sct.bytes_length HP.out))
      have HB11 := Lib.hid hb11
      have HLD := Lib.hid ld
      clear hx10 rb hl63 hb11 ld
      go_wp2_with (at_builtin; refine wpList_append_run (.tmp 37) (.tmp 40) 41 rfl rfl _ _ _ rfl rfl R8.out ?_)
      have hE : p.code = u8s p.bytes ∧ p.codeE = 0 := by unfold Sct.code Sct.codeE; rw [if_pos HF.out, if_pos HF.out]; exact ⟨rfl, rfl⟩
      rw [hE.1, hE.2]
      exact bodyPost_ret (results_cell2 rfl rfl HLD.out) rfl ⟨rfl, HB11.out⟩
  · have hE : Hid (p.code = fillB 0 ∧ p.codeE = 11) := by refine (?_ : _ ∧ _); unfold Sct.code Sct.codeE; rw [if_neg hf, if_neg hf]; exact ⟨rfl, rfl⟩
    have hq : (mk == 0) = true ∨ ((mk == 0) = false ∧ decide (ix < 0) = true) ∨ ((mk == 0) = false ∧ decide (ix < 0) = false ∧ decide (65535 < ix) = true) := by
      have hfx : ¬ (p.mark ≠ 0 ∧ 0 ≤ p.index ∧ p.index ≤ 65535) := fun h => hf (decide_eq_true h)
      rw [EM.out, EI.out] at hfx
      by_cases h0 : mk = 0
      · exact .inl (by simpa using h0)
      · by_cases h1 : ix < 0
        · exact .inr (.inl ⟨by simpa using h0, by simpa using h1⟩)
        · exact .inr (.inr ⟨by simpa using h0, by simpa using h1, by simp; omega⟩)
    obtain ⟨x2, st, ld, hb2⟩ := blk_cell HR2.out zarr_size (Nat.le_succ _) HB.out (isBlk_fill 0)
    have st' : (storeVar 27 ⟨w.heap.size + 1, 0, none⟩ (.agg zarr)).run Try.prog W = .ok () x2 := st
    have HB2 := Lib.hid hb2
    clear hf st hb2
    rcases hq with q0 | ⟨q0, q1⟩ | ⟨q0, q1, q2⟩
    all_goals
      go_enter Try.func10, Try.ntmps10
      go_wp2_with fail
      rw [hE.out.1, hE.out.2]
      exact bodyPost_ret (results_cell2 rfl rfl ld) rfl ⟨rfl, HB2.out⟩
end Go.Proofs.Ytnngebnnehokdaa
