/- The developers' Encode. -/
import Derived.Test.YtnngebnnehokdaaPgGrow
import Derived.Test.YtnngebnnehokdaaPgRefE
import Derived.Test.YtnngebnnehokdaaPut
import Derived.Test.YtnngebnnehokdaaFnv
namespace Go.Proofs.Ytnngebnnehokdaa
open Go.RowKit Go.Shelf
set_option linter.unusedVariables false
attribute [-simp] Try.isAgg27 Try.zeroValue27
attribute [-go_sem] loadVar storeVar
attribute [local go_sem] zero_blk build_blk loadVar_open storeVar_open

theorem build_sls (w : World) (a b c d : Option Addr) (la lb lc ld ca cb cc cd : Nat) :
    (Instr.buildSlice 61 4 #[(0, .slice a la ca), (1, .slice b lb cb), (2, .slice c lc cc), (3, .slice d ld cd)]).run Try.prog w = .ok (.slice (some ⟨w.heap.size, 0, none⟩) 4 4) (w.alloc (.cells #[.slice a la ca, .slice b lb cb, .slice c lc cc, .slice d ld cd] 41)) := by
  kernel_rfl
theorem putL_one {n : Int} (h0 : 0 ≤ n) (h1 : n < 256) : putL n 1 = [n] := by
  show [_] = _
  simp
  omega

set_option maxRecDepth 100000 in
set_option maxHeartbeats 4000000 in
theorem pgEncode (p : Sct) (hp : p.Ok) (w : World) :
    Calls Try.prog 9 #[.agg p.cells.toArray] w fun e w' => e = .returned (.tuple #[.agg p.code.toArray, .int .i64 p.codeE]) ∧ Below w.heap.size w w' := by
  obtain ⟨W1, hW1⟩ : ∃ W1, w.alloc (.cells p.cells.toArray 25) = W1 := ⟨_, rfl⟩
  have hB1 : Below w.heap.size w W1 := by rw [← hW1]; exact (Below.refl _ _).alloc (Nat.le_refl _) _
  have hz1 : W1.heap.size = w.heap.size + 1 := by rw [← hW1]; simp
  have hr1 : W1.heap[w.heap.size]? = some (.cells p.cells.toArray 25 (0, 0)) := by rw [← hW1]; exact heap_alloc_new w _
  obtain ⟨W, hW⟩ : ∃ W, W1.alloc (.cells zarr 27) = W := ⟨_, rfl⟩
  have hB2 : Below W1.heap.size W1 W := by rw [← hW]; exact (Below.refl _ _).alloc (Nat.le_refl _) _
  have HB : Hid (Below w.heap.size w W) := hB1.trans (hB2.mono hB1.size)
  have HR : Hid (W.heap[w.heap.size]? = some (.cells p.cells.toArray 25 (0, 0))) := (hB2.block _ (by omega)).trans hr1
  have HR2 : Hid (W.heap[w.heap.size + 1]? = some (.cells zarr 27 (0, 0))) := by
    have := heap_alloc_new W1 (.cells zarr 27)
    rw [hW, hz1] at this
    exact this
  have HZ : Hid (W.heap.size = w.heap.size + 2) := by show _ = _; rw [← hW, World.size_alloc, hz1]
  have HP := Lib.hid hp
  have c0 : W.cell? ⟨w.heap.size, 0, none⟩ = some (.int .u8 p.mark) := cell_of_row W _ 0 _ _ _ HR.out
  have c2 : W.cell? ⟨w.heap.size, 2, none⟩ = some (.int .i64 p.index) := cell_of_row W _ 2 _ _ _ HR.out
  have HC1 : Hid (∀ y : World, Below W.heap.size W y → y.cell? ⟨w.heap.size, 1, none⟩ = some (.int .u32 p.seq)) := fun y hy => (hy.cell (p := ⟨w.heap.size, 1, none⟩) (by have := HZ.out; show w.heap.size < _; omega)).trans (cell_of_row W _ 1 _ _ _ HR.out)
  have HC2 : Hid (∀ y : World, Below W.heap.size W y → y.cell? ⟨w.heap.size, 2, none⟩ = some (.int .i64 p.index)) := fun y hy => (hy.cell (p := ⟨w.heap.size, 2, none⟩) (by have := HZ.out; show w.heap.size < _; omega)).trans (cell_of_row W _ 2 _ _ _ HR.out)
  clear hB1 hB2 hr1 hp
  obtain ⟨mk, hmk⟩ : ∃ q, p.mark = q := ⟨_, rfl⟩
  obtain ⟨sq, hsq⟩ : ∃ q, p.seq = q := ⟨_, rfl⟩
  obtain ⟨ix, hix⟩ : ∃ q, p.index = q := ⟨_, rfl⟩
  have EM := Lib.hid hmk
  have ES := Lib.hid hsq
  have EI := Lib.hid hix
  rw [hmk] at c0
  rw [hix] at c2 HC2
  rw [hsq] at HC1
  clear hmk hsq hix
  by_cases hf : p.fits = true
  · have hfx := of_decide_eq_true hf
    rw [EM.out, EI.out] at hfx
    obtain ⟨m1, m2, m3⟩ := hfx
    have q0 : (mk == 0) = false := by simpa using m1
    have q1 : decide (ix < 0) = false := by simp; omega
    have q2 : decide (65535 < ix) = false := by simp; omega
    have HF := Lib.hid hf
    clear hf
    have hmx : Try.prog.follows .mixedOrders = true := by kernel_rfl
    have HI0 : Hid (0 ≤ ix) := m2
    have HI1 : Hid (ix ≤ 65535) := m3
    have HSB : Hid (Sl .u8 W (.slice (some ⟨w.heap.size, 3, none⟩) 48 48) p.body) := by
      have := sl_range (bs := p.body) (row_part (a := [.int .u8 p.mark, .int .u32 p.seq, .int .i64 p.index]) (b := u8s p.body) HR.out) (by have := HZ.out; omega) (by rw [HP.out.len]; simp [maxLen])
      rw [HP.out.len] at this
      exact this
    have m0 : 0 ≤ mk := by rw [← EM.out]; exact HP.out.mark.1
    have m9 : mk < 256 := by rw [← EM.out]; exact HP.out.mark.2
    have HS0 : Hid (0 ≤ sq) := by show _ ≤ _; rw [← ES.out]; exact HP.out.seq.1
    have HS1 : Hid (sq < 4294967296) := by show _ < _; rw [← ES.out]; exact HP.out.seq.2
    have HM0 := Lib.hid m0
    have HM1 := Lib.hid m9
    clear m1 m2 m3
    go_enter Try.func9, Try.ntmps9
    have d0 : ∀ y : Ext W, y.1.cell? ⟨w.heap.size, 0, none⟩ = some (.int .u8 mk) := fun y => (y.2.cell (p := ⟨w.heap.size, 0, none⟩) (by have := HZ.out; show w.heap.size < _; omega)).trans c0
    have d1 : ∀ y : Ext W, y.1.cell? ⟨w.heap.size, 1, none⟩ = some (.int .u32 sq) := fun y => HC1.out y.1 y.2
    have d2 : ∀ y : Ext W, y.1.cell? ⟨w.heap.size, 2, none⟩ = some (.int .i64 ix) := fun y => HC2.out y.1 y.2
    have s0 := HS0.out
    have s1 := HS1.out
    have i0 := HI0.out
    have i1 := HI1.out
    have HPut0 : Hid (∀ x : World, Calls Try.prog 21 #[.int .u64 mk, .int .i64 1] x fun e w' => ∃ v, e = .returned v ∧ w'.ownsRow x.heap.size 5 1 v 1 ((putL mk 1).map (Value.int .u8)) ∧ Below x.heap.size x w') := fun x => put_some mk 1 x (by omega) (by omega) m0 (by omega)
    have HPut1 : Hid (∀ x : World, Calls Try.prog 21 #[.int .u64 sq, .int .i64 4] x fun e w' => ∃ v, e = .returned v ∧ w'.ownsRow x.heap.size 5 1 v 4 ((putL sq 4).map (Value.int .u8)) ∧ Below x.heap.size x w') := fun x => put_some sq 4 x (by omega) (by omega) s0 (by omega)
    have HPut2 : Hid (∀ x : World, Calls Try.prog 21 #[.int .u64 ix, .int .i64 2] x fun e w' => ∃ v, e = .returned v ∧ w'.ownsRow x.heap.size 5 1 v 2 ((putL ix 2).map (Value.int .u8)) ∧ Below x.heap.size x w') := fun x => put_some ix 2 x (by omega) (by omega) i0 (by omega)
    go_wp2_with fail
    clear q0 q1 q2 c2 c0 hW1 hW
    refine region_plan (fun x => ∃ y : Ext W, x = y.1) 16 (.takes [0, 1, 2, 4, 5, 6, 8, 9, 10, 12, 13] (.one 3 (.one 7 (.one 11 (.one 14 (.one 15 .leaf)))))) hmx (by kernel_rfl) (by intro c x v a w h; cases x <;> exact h) ⟨⟨W.drew, (Below.refl _ W).drew⟩, rfl⟩ ?_
    repeat (rw [wpPlan_takes_cons]; simp only [nth_zero, nth_succ]; go_big_quiet_step (fail); refine wpQuiet_nil ?_)
    rw [wpPlan_takes_nil]
    clear s0 s1 i0 i1 d0 d1 d2 m0 m9
    have KD : Hid (Below W.heap.size W W.drew) := (Below.refl _ W).drew
    rw [wpPlan_one]
    simp only [nth_zero, nth_succ]
    go_wp2_with fail
    go_at_call 21
    refine (HPut0.out W.drew).mono ?_
    rintro e x1 ⟨v1, rfl, hrow, hb⟩
    have K1 : Hid (Below W.heap.size W x1) := KD.out.trans hb
    have hs := Sl.of_owns (bs := putL mk 1) (by rw [putL_length]; exact hrow)
    obtain ⟨a1, n1, hv, -⟩ := id hs
    rw [putL_length] at hv
    subst hv
    have S1 := Lib.hid hs
    clear hrow hb hs
    go_wp2_with fail
    refine planPost_mk ⟨⟨x1, K1.out⟩, rfl⟩ ?_
    rw [wpPlan_one]
    simp only [nth_zero, nth_succ]
    go_wp2_with fail
    go_at_call 21
    refine (HPut1.out x1).mono ?_
    rintro e x2 ⟨v2, rfl, hrow, hb⟩
    have K2 : Hid (Below W.heap.size W x2) := K1.out.trans (hb.mono K1.out.size)
    have T1 := Lib.hid (S1.out.below hb)
    have hs := Sl.of_owns (bs := putL sq 4) (by rw [putL_length]; exact hrow)
    obtain ⟨a2, n2, hv, -⟩ := id hs
    rw [putL_length] at hv
    subst hv
    have S2 := Lib.hid hs
    clear hrow hb hs S1
    go_wp2_with fail
    refine planPost_mk ⟨⟨x2, K2.out⟩, rfl⟩ ?_
    rw [wpPlan_one]
    simp only [nth_zero, nth_succ]
    go_wp2_with fail
    go_at_call 21
    refine (HPut2.out x2).mono ?_
    rintro e x3 ⟨v3, rfl, hrow, hb⟩
    have K3 : Hid (Below W.heap.size W x3) := K2.out.trans (hb.mono K2.out.size)
    have U1 := Lib.hid (T1.out.below hb)
    have U2 := Lib.hid (S2.out.below hb)
    have hs := Sl.of_owns (bs := putL ix 2) (by rw [putL_length]; exact hrow)
    obtain ⟨a3, n3, hv, -⟩ := id hs
    rw [putL_length] at hv
    subst hv
    have U3 := Lib.hid hs
    clear hrow hb hs T1 S2
    go_wp2_with fail
    refine planPost_mk ⟨⟨x3, K3.out⟩, rfl⟩ ?_
    rw [wpPlan_one]
    simp only [nth_zero, nth_succ]
    obtain ⟨x4, hx4⟩ : ∃ x, x3.alloc (.cells #[.slice a1 1 n1, .slice a2 4 n2, .slice a3 2 n3, .slice (some ⟨w.heap.size, 3, none⟩) 48 48] 41) = x := ⟨_, rfl⟩
    have b34 : Below x3.heap.size x3 x4 := by rw [← hx4]; exact (Below.refl _ _).alloc (Nat.le_refl _) _
    have K4 : Hid (Below W.heap.size W x4) := K3.out.trans (b34.mono K3.out.size)
    have r4 : x4.heap[x3.heap.size]? = some (.cells #[.slice a1 1 n1, .slice a2 4 n2, .slice a3 2 n3, .slice (some ⟨w.heap.size, 3, none⟩) 48 48] 41 (0, 0)) := by rw [← hx4]; exact heap_alloc_new x3 _
    have BS : (Instr.buildSlice 61 4 #[(0, .slice a1 1 n1), (1, .slice a2 4 n2), (2, .slice a3 2 n3), (3, .slice (some ⟨w.heap.size, 3, none⟩) 48 48)]).run Try.prog x3 = .ok (.slice (some ⟨x3.heap.size, 0, none⟩) 4 4) x4 := by rw [← hx4]; exact build_sls x3 a1 a2 a3 (some ⟨w.heap.size, 3, none⟩) 1 4 2 48 n1 n2 n3 48
    have SS : Hid (Sls x4 (.slice (some ⟨x3.heap.size, 0, none⟩) 4 4) [putL mk 1, putL sq 4, putL ix 2, p.body]) := by
      refine ⟨x3.heap.size, 4, rfl, Nat.le_refl _, by unfold maxLen; omega, by rw [← hx4]; simp, fun k hk => ?_⟩
      have hk' : k < 4 := hk
      match k, hk' with
      | 0, _ => exact ⟨_, cell_of_row _ _ 0 _ _ _ r4, U1.out.below b34⟩
      | 1, _ => exact ⟨_, cell_of_row _ _ 1 _ _ _ r4, U2.out.below b34⟩
      | 2, _ => exact ⟨_, cell_of_row _ _ 2 _ _ _ r4, U3.out.below b34⟩
      | 3, _ => exact ⟨_, cell_of_row _ _ 3 _ _ _ r4, HSB.out.below K4.out⟩
    clear b34 r4 hx4
    refine wpList_build_run _ _ _ rfl rfl _ _ rfl BS ?_
    clear BS
    go_wp2_with fail
    refine planPost_mk ⟨⟨x4, K4.out⟩, rfl⟩ ?_
    rw [wpPlan_one]
    simp only [nth_zero, nth_succ]
    go_wp2_with fail
    go_at_call 20
    have hfl : [putL mk 1, putL sq 4, putL ix 2, p.body].flatten = p.head := by
      simp [Sct.head, EM.out, ES.out, EI.out, putL_one HM0.out HM1.out]
    have hcc := concat_any _ _ x4 SS.out (by rw [hfl, Sct.head_length HP.out]; omega)
    rw [hfl] at hcc
    refine hcc.mono ?_
    clear hcc hfl
    rintro e x5 ⟨v5, rfl, hrow, hb⟩
    have K5 : Hid (Below W.heap.size W x5) := K4.out.trans (hb.mono K4.out.size)
    have S5 : Hid (Sl .u8 x5 v5 p.head) := Sl.of_owns (bs := p.head) hrow
    clear hrow hb SS U1 U2 U3
    go_wp2_with fail
    refine planPost_mk ⟨⟨x5, K5.out⟩, rfl⟩ ?_
    rw [wpPlan_leaf]
    simp only [List.drop_succ_cons, List.drop_zero]
    -- the block, and what goes into it
    obtain ⟨x6, hx6⟩ : ∃ x, x5.alloc (.cells zarr 27) = x := ⟨_, rfl⟩
    have K6 : Hid (Below W.heap.size W x6) := by rw [← hx6]; exact K5.out.alloc K5.out.size _
    have r6 : x6.heap[x5.heap.size]? = some (.cells zarr 27 (0, 0)) := by rw [← hx6]; exact heap_alloc_new x5 _
    have S6 : Hid (Sl .u8 x6 v5 p.head) := by rw [← hx6]; exact S5.out.below ((Below.refl _ x5).alloc (Nat.le_refl _) _)
    have z6 : x5.heap.size < x6.heap.size := by rw [← hx6]; simp
    have RC0 := run_copy_bytes (B := x5.heap.size) (o := 0) (dLen := 64) (dCap := 64) 3 S6.out (by rw [Sct.head_length HP.out]; omega) (row_there r6 0 _ (by rw [Sct.head_length HP.out, zarr_size]; omega))
    obtain ⟨x7, hx7⟩ : ∃ x, x6.setCells x5.heap.size 0 (u8s p.head) = x := ⟨_, rfl⟩
    have K7 : Hid (Below W.heap.size W x7) := by rw [← hx7]; exact K6.out.trans ((below_cells (N := W.heap.size) K5.out.size _ _ _).mono (Nat.le_refl _))
    have b57 : Below x5.heap.size x5 x7 := by rw [← hx7, ← hx6]; exact ((Below.refl _ x5).alloc (Nat.le_refl _) _).trans ((below_cells (N := x5.heap.size) (Nat.le_refl _) _ _ _).mono (Nat.le_refl _))
    have S7 : Hid (Sl .u8 x7 v5 p.head) := S5.out.below b57
    have z7 : Hid (x5.heap.size < x7.heap.size) := by show _ < _; rw [← hx7]; exact Nat.lt_of_lt_of_le z6 (below_cells (N := 0) (Nat.zero_le _) _ _ _).size
    have h7 : Hid (x7.rangeAt x5.heap.size 0 (u8s p.head)) := by
      show World.rangeAt _ _ _ _
      rw [← hx7]; exact World.rangeAt_setCells_same x6 _ 0 _ (by rw [u8s_length, Sct.head_length HP.out]; exact row_there r6 0 55 (by rw [zarr_size]; omega))
    have l7 : Hid (x7.rangeAt x5.heap.size 63 [.int .u8 0]) := by
      show World.rangeAt _ _ _ _
      rw [← hx7]
      refine World.rangeAt_setCells_apart (fun j x hx => ?_) _ 0 _ (by rw [u8s_length, Sct.head_length HP.out]; simp)
      rw [cell_of_row _ _ _ _ _ _ r6]
      match j, hx with
      | 0, hx => simp at hx; subst hx; rfl
      | j + 1, hx => simp at hx
    have t7 : Hid (x7.there x5.heap.size 55 8) := by
      show World.there _ _ _ _
      rw [← hx7]; exact World.there_setCells (row_there r6 55 8 (by rw [zarr_size]; omega)) _ _ _
    rw [hx7, Sct.head_length HP.out] at RC0
    clear hx7 z6 b57 r6 S6 K6 S5
    go_wp2_with fail
    have KD7 : Below x7.heap.size x7 x7.drew := (Below.refl _ x7).drew
    refine region_plan (fun x => ∃ y : Ext x7, x = y.1) 5 (.takes [0, 1, 2] (.one 3 (.one 4 .leaf))) hmx (by kernel_rfl) (by intro c x v a w h; cases x <;> exact h) ⟨⟨x7.drew, KD7⟩, rfl⟩ ?_
    repeat (rw [wpPlan_takes_cons]; simp only [nth_zero, nth_succ]; go_big_quiet_step (fail); refine wpQuiet_nil ?_)
    rw [wpPlan_takes_nil, wpPlan_one]
    simp only [nth_zero, nth_succ]
    go_wp2_with fail
    go_at_call 22
    refine (check_any v5 p.head x7.drew (S7.out.below KD7) (Sct.head_bytes HP.out)).mono ?_
    rintro e x8 ⟨rfl, hb⟩
    have B8 : Hid (Below x7.heap.size x7 x8) := KD7.trans hb
    obtain ⟨ck, hck⟩ : ∃ q, fnvMore fnvInit p.head = q := ⟨_, rfl⟩
    have HCK := Lib.hid hck
    have HU := Lib.hid (chk_u64 p.head)
    rw [hck]
    clear hck hb KD7
    go_wp2_with fail
    refine planPost_mk ⟨⟨x8, B8.out⟩, rfl⟩ ?_
    rw [wpPlan_one]
    simp only [nth_zero, nth_succ]
    go_wp2_with fail
    go_at_call 21
    refine (put_some ck 8 x8 (by omega) (by omega) (by rw [← HCK.out]; exact HU.out.1) (by rw [← HCK.out]; exact HU.out.2)).mono ?_
    rintro e x9 ⟨v9, rfl, hrow, hb⟩
    have B9 : Hid (Below x7.heap.size x7 x9) := B8.out.trans (hb.mono B8.out.size)
    have K9 : Hid (Below W.heap.size W x9) := K7.out.trans (B9.out.mono K7.out.size)
    have S9 : Hid (Sl .u8 x9 v9 (putL ck 8)) := Sl.of_owns (bs := putL ck 8) (by rw [putL_length]; exact hrow)
    clear hrow hb
    go_wp2_with fail
    refine planPost_mk ⟨⟨x9, B9.out⟩, rfl⟩ ?_
    rw [wpPlan_leaf]
    simp only [List.drop_succ_cons, List.drop_zero]
    have t9 : x9.there x5.heap.size 55 8 := there_below B9.out z7.out t7.out
    have RC1 := run_copy_bytes (B := x5.heap.size) (o := 55) (dLen := 9) (dCap := 9) 3 S9.out (by rw [putL_length]; omega) (by rw [putL_length]; exact t9)
    obtain ⟨x10, hx10⟩ : ∃ x, x9.setCells x5.heap.size 55 (u8s (putL ck 8)) = x := ⟨_, rfl⟩
    have K10 : Hid (Below W.heap.size W x10) := by rw [← hx10]; exact K9.out.trans ((below_cells (N := W.heap.size) K5.out.size _ _ _).mono (Nat.le_refl _))
    have rb : x10.rangeAt x5.heap.size 0 (u8s p.bytes) := by
      have e1 : u8s p.bytes = u8s p.head ++ (u8s (putL ck 8) ++ [.int .u8 0]) := by
        rw [← HCK.out]; simp [u8s, Sct.bytes, chk]
      rw [e1]
      refine rangeAt_app ?_ ?_
      · rw [← hx10]
        exact World.rangeAt_setCells_apart (range_below B9.out z7.out h7.out) _ 55 _ (.inr (.inl (by rw [u8s_length, Sct.head_length HP.out]; omega)))
      · rw [u8s_length, Sct.head_length HP.out]
        intro j x hx
        by_cases hj : j < 8
        · rw [List.getElem?_append_left (by rw [u8s_length, putL_length]; exact hj)] at hx
          rw [← hx10]
          exact World.rangeAt_setCells_same x9 _ 55 _ (by rw [u8s_length, putL_length]; exact t9) j x hx
        · rw [List.getElem?_append_right (by rw [u8s_length, putL_length]; omega), u8s_length, putL_length] at hx
          have := World.rangeAt_setCells_apart (range_below B9.out z7.out l7.out) x5.heap.size 55 (u8s (putL ck 8)) (.inr (.inr (by rw [u8s_length, putL_length]; omega))) (j - 8) x hx
          rw [hx10, show 63 + (j - 8) = 55 + j by omega] at this
          exact this
    rw [hx10, putL_length] at RC1
    have L10 : (loadVar 27 ⟨x5.heap.size, 0, none⟩).run Try.prog x10 = .ok (.agg (u8s p.bytes).toArray) x10 := load_blk rb (by rw [u8s_length]; exact Sct.bytes_length HP.out)
    obtain ⟨x11, st, ld, hb11⟩ := blk_cell (w := w) (x := x10) (B := w.heap.size + 1) (u := u8s p.bytes) ((K10.out.block _ (by have := HZ.out; omega)).trans HR2.out) zarr_size (Nat.le_succ _) (HB.out.trans (K10.out.mono HB.out.size)) (isBlk_u8s (Sct.bytes_length HP.out))
    have HB11 := Lib.hid hb11
    have HLD := Lib.hid ld
    clear hx10 rb hb11 ld t9
    go_wp2_with fail
    have hE : p.code = u8s p.bytes ∧ p.codeE = 0 := by unfold Sct.code Sct.codeE; rw [if_pos HF.out, if_pos HF.out]; exact ⟨rfl, rfl⟩
    rw [hE.1, hE.2]
    exact bodyPost_ret (results_cell2 rfl rfl HLD.out) rfl ⟨rfl, HB11.out⟩
  · have hE : Hid (p.code = fillB 0 ∧ p.codeE = 11) := by refine (?_ : _ ∧ _); unfold Sct.code Sct.codeE; rw [if_neg hf, if_neg hf]; exact ⟨rfl, rfl⟩
    have hq : (mk == 0) = true ∨ ((mk == 0) = false ∧ decide (ix < 0) = true) ∨ ((mk == 0) = false ∧ decide (ix < 0) = false ∧ decide (65535 < ix) = true) := by
      have hfx : ¬ (p.mark ≠ 0 ∧ 0 ≤ p.index ∧ p.index ≤ 65535) := fun h => hf (decide_eq_true h)
      rw [EM.out, EI.out] at hfx
      by_cases h0 : mk = 0
      · exact .inl (by simpa using h0)
      · by_cases h1 : ix < 0
        · exact .inr (.inl ⟨by simpa using h0, by simpa using h1⟩)
        · exact .inr (.inr ⟨by simpa using h0, by simpa using h1, by simp; omega⟩)
    obtain ⟨x2, st, ld, hb2⟩ := blk_cell HR2.out zarr_size (Nat.le_succ _) HB.out (isBlk_fill 0)
    have st' : (storeVar 27 ⟨w.heap.size + 1, 0, none⟩ (.agg zarr)).run Try.prog W = .ok () x2 := st
    have HB2 := Lib.hid hb2
    clear hf st hb2
    rcases hq with q0 | ⟨q0, q1⟩ | ⟨q0, q1, q2⟩
    all_goals
      go_enter Try.func9, Try.ntmps9
      go_wp2_with fail
      rw [hE.out.1, hE.out.2]
      exact bodyPost_ret (results_cell2 rfl rfl ld) rfl ⟨rfl, HB2.out⟩
end Go.Proofs.Ytnngebnnehokdaa
