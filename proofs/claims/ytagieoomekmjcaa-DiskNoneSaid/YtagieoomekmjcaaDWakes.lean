/- The statements' own trial. -/
import Derived.Test.YtagieoomekmjcaaAt
import Derived.Test.YtagieoomekmjcaaQuiet
namespace Go.Proofs.Ytagieoomekmjcaa
open Go.RowKit
set_option linter.unusedVariables false
attribute [-simp] Try.isAgg37 Try.zeroValue37
attribute [-go_sem] loadVar storeVar
attribute [local go_sem] zero_blk build_blk loadVar_open storeVar_open store_fill eq_fill eq_fill_z

def wD0 : Nat → Sec := fun _ => zsec
def wD1 : Nat → Sec := upd wD0 2 ((wD0 2).add (fillB 7))
def wD2 : Nat → Sec := upd wD1 2 ((wD1 2).add (fillB 8))
def wD3 : Nat → Sec := upd wD2 3 ((wD2 3).add (fillB 9))
theorem wD3_loose : looseTo wD3 4 = [2, 3] := by rfl
noncomputable def wD4 : Nat → Sec := settled wD3 (crashG wD3 [4, 2]) (looseTo wD3 4)
theorem wD3_two : (wD3 2).look = fillB 8 := by rfl
theorem wD4_two : (wD4 2).look = fillB 7 := by
  unfold wD4
  rw [settled_yes (by rw [wD3_loose]; simp)]
  rfl
theorem wD4_three : (wD4 3).look = fillB 0 := by
  unfold wD4
  rw [settled_yes (by rw [wD3_loose]; simp)]
  rfl
theorem wD3_few : ∀ i, i < 4 → (wD3 i).vs.length ≤ 1000000 := by
  intro i hi
  match i, hi with
  | 0, _ => decide
  | 1, _ => decide
  | 2, _ => decide
  | 3, _ => decide

set_option maxRecDepth 100000 in
set_option maxHeartbeats 4000000 in
theorem wakes_any (w : World) : Calls Try.prog 9 #[] w fun e w' => e = .returned (.bool true) ∧ Below w.heap.size w w' := by
  go_enter Try.func9, Try.ntmps9
  go_wp2_with fail
  refine (At.new 4 w w (Below.refl _ _) (by omega) (by omega) (fun _ => False) (fun _ h => h.elim)).mono ?_
  rintro e w1 ⟨rb, rfl, a0, -⟩
  have A0 : Hid (At w w1 rb 4 wD0 (fun _ => False)) := a0
  clear a0
  go_wp2_with fail
  refine (fill_any 7 _).mono ?_
  rintro e w2 ⟨rfl, hb⟩
  have A1 := Lib.hid (A0.out.beside hb)
  clear hb A0
  go_wp2_with fail
  refine (A1.out.write (i := 2) (by omega) (isBlk_fill 7) (by decide)).mono ?_
  rintro e w3 ⟨rfl, a0, -⟩
  have A0 : Hid (At w w3 rb 4 wD1 (fun _ => False)) := a0
  clear a0 A1
  go_wp2_with fail
  refine (fill_any 8 _).mono ?_
  rintro e w4 ⟨rfl, hb⟩
  have A1 := Lib.hid (A0.out.beside hb)
  clear hb A0
  go_wp2_with fail
  refine (A1.out.write (i := 2) (by omega) (isBlk_fill 8) (by decide)).mono ?_
  rintro e w5 ⟨rfl, a0, -⟩
  have A0 : Hid (At w w5 rb 4 wD2 (fun _ => False)) := a0
  clear a0 A1
  go_wp2_with fail
  refine (fill_any 9 _).mono ?_
  rintro e w6 ⟨rfl, hb⟩
  have A1 := Lib.hid (A0.out.beside hb)
  clear hb A0
  go_wp2_with fail
  refine (A1.out.write (i := 3) (by omega) (isBlk_fill 9) (by decide)).mono ?_
  rintro e w7 ⟨rfl, a0, -⟩
  have A0 : Hid (At w w7 rb 4 wD3 (fun _ => False)) := a0
  clear a0 A1
  go_wp2_with fail
  refine (fill_any 9 _).mono ?_
  rintro e w8 ⟨rfl, hb⟩
  have A1 := Lib.hid (A0.out.beside hb)
  clear hb A0
  go_wp2_with fail
  refine (A1.out.writeNo (i := 4) (by omega)).mono ?_
  rintro e w9 ⟨rfl, hb⟩
  have A0 := Lib.hid (A1.out.beside hb)
  clear hb A1
  go_wp2_with fail
  refine (A0.out.read (i := 2) (by omega)).mono ?_
  rintro e w10 ⟨rfl, hb⟩
  rw [wD3_two]
  have B10 := Lib.hid hb
  clear hb
  go_wp2_with fail
  obtain ⟨W10, hW10⟩ : ∃ W10, w10.alloc (.cells (fillB 8).toArray 37) = W10 := ⟨_, rfl⟩
  rw [hW10]
  have B11 : Hid (Below w9.heap.size w9 W10) := by rw [← hW10]; exact B10.out.alloc B10.out.size _
  have K10 : Hid (W10.heap[w10.heap.size]? = some (.cells (fillB 8).toArray 37 (0, 0))) := by rw [← hW10]; exact heap_alloc_new w10 _
  have Z10 : Hid (w9.heap.size ≤ w10.heap.size ∧ w10.heap.size < W10.heap.size) := ⟨B10.out.size, by rw [← hW10]; simp⟩
  clear hW10
  refine ((A0.out.beside B11.out).loose).mono ?_
  rintro e w11 ⟨lv, rfl, hrow, hb, -⟩
  rw [wD3_loose] at hrow
  have HR := Lib.hid hrow
  have B12 := Lib.hid hb
  clear hb hrow
  go_wp2_with fail
  obtain ⟨W12, hW12⟩ : ∃ W12, w11.alloc (.cells #[.int .u8 4, .int .u8 2] 5) = W12 := ⟨_, rfl⟩
  rw [hW12]
  have B13 : Hid (Below w9.heap.size w9 W12) := by rw [← hW12]; exact (B11.out.trans (B12.out.mono B11.out.size)).alloc (B11.out.trans (B12.out.mono B11.out.size)).size _
  have hsz : W12.heap.size = w11.heap.size + 1 := by rw [← hW12]; simp
  have hS : Sl .u8 W12 (.slice (some ⟨w11.heap.size, 0, none⟩) 2 2) [4, 2] := by
    rw [← hW12]
    refine Sl.at (bs := [4, 2]) (Nat.le_refl _) (by simp [maxLen]) (by simp) (fun j hj => ?_)
    rw [cell_of_row _ _ _ _ _ _ (heap_alloc_new w11 _)]
    match j, hj with
    | 0, _ => rfl
    | 1, _ => rfl
  have hby : IsBytes [4, 2] := fun j => by
    match j with
    | 0 => exact ⟨by decide, by decide⟩
    | 1 => exact ⟨by decide, by decide⟩
    | j + 2 => simp
  have hz12 : w9.heap.size ≤ w11.heap.size := (B11.out.trans (B12.out.mono B11.out.size)).size
  have A1 : Hid (At w W12 rb 4 wD3 (fun k => w9.heap.size ≤ k ∧ k < W12.heap.size)) := A0.out.below B13.out _ (fun k hk => .inr hk)
  have K12 : Hid (W12.heap[w10.heap.size]? = some (.cells (fillB 8).toArray 37 (0, 0))) := by
    show _ = _
    rw [← hW12, Below.heap_alloc _ _ _ (Nat.lt_of_lt_of_le Z10.out.2 B12.out.size)]
    exact (B12.out.block _ Z10.out.2).trans K10.out
  have R12 : Hid (W12.ownsRow W10.heap.size 3 1 lv [2, 3].length (ints [2, 3])) := by rw [← hW12]; exact HR.out.alloc _
  refine (A1.out.crash hS hby (fun b off len cap e => by cases e; exact .inr ⟨hz12, by omega⟩) wD3_few).mono ?_
  rintro e w13 ⟨rfl, a0, hown⟩
  have A2 : Hid (At w w13 rb 4 wD4 (fun k => w9.heap.size ≤ k ∧ k < W12.heap.size)) := a0
  have K13 : Hid (w13.heap[w10.heap.size]? = some (.cells (fillB 8).toArray 37 (0, 0))) := (hown _ ⟨Z10.out.1, by have := Z10.out.2; have := B12.out.size; omega⟩).trans K12.out
  have S13 : Hid (Sl .i64 w13 lv [2, 3]) := by
    have h0 : Sl .i64 W12 lv [2, 3] := sl_own (bs := [2, 3]) (by have := R12.out; simpa [ints] using this)
    have hs12 : W12.heap.size ≤ w13.heap.size := by
      obtain ⟨f, q1, q2, q3, q4, q5⟩ := a0
      rcases Nat.eq_zero_or_pos W12.heap.size with e | e
      · omega
      · have := q3 (W12.heap.size - 1) ⟨by omega, by omega⟩; omega
    exact h0.same hs12 (fun b hb => hown b ⟨by have := R12.out.lt b hb; have := B11.out.size; omega, (R12.out.lt b hb).2⟩)
  have Z13 : Hid (w10.heap.size < w13.heap.size) := (Array.getElem?_eq_some_iff.1 K13.out).1
  clear a0 hown A0 A1 K10 K12 R12 HR hS hby hsz hW12 hz12 B10 B11 B12 B13 Z10
  go_wp2_with fail
  refine (A2.out.read (i := 2) (by omega)).mono ?_
  rintro e w14 ⟨rfl, hb⟩
  rw [wD4_two]
  have B14 := Lib.hid hb
  clear hb
  go_wp2_with fail
  obtain ⟨W14, hW14⟩ : ∃ W14, w14.alloc (.cells (fillB 7).toArray 37) = W14 := ⟨_, rfl⟩
  rw [hW14]
  have B15 : Hid (Below w13.heap.size w13 W14) := by rw [← hW14]; exact B14.out.alloc B14.out.size _
  have K14 : Hid (W14.heap[w14.heap.size]? = some (.cells (fillB 7).toArray 37 (0, 0))) := by rw [← hW14]; exact heap_alloc_new w14 _
  clear hW14
  refine ((A2.out.beside B15.out).read (i := 3) (by omega)).mono ?_
  rintro e w15 ⟨rfl, hb⟩
  rw [wD4_three]
  have B16 := Lib.hid hb
  clear hb
  go_wp2_with fail
  obtain ⟨W, hW⟩ : ∃ W, w15.alloc (.cells (fillB 0).toArray 37) = W := ⟨_, rfl⟩
  rw [hW]
  have BW : Below w13.heap.size w13 W := by rw [← hW]; exact (B15.out.trans (B16.out.mono B15.out.size)).alloc (B15.out.trans (B16.out.mono B15.out.size)).size _
  have k1 : W.heap[w10.heap.size]? = some (.cells (fillB 8).toArray 37 (0, 0)) := (BW.block _ Z13.out).trans K13.out
  have hz14 : w14.heap.size < W14.heap.size := (Array.getElem?_eq_some_iff.1 K14.out).1
  have k2 : W.heap[w14.heap.size]? = some (.cells (fillB 7).toArray 37 (0, 0)) := by
    rw [← hW, Below.heap_alloc _ _ _ (Nat.lt_of_lt_of_le hz14 B16.out.size)]
    exact (B16.out.block _ hz14).trans K14.out
  have k3 : W.heap[w15.heap.size]? = some (.cells (fillB 0).toArray 37 (0, 0)) := by rw [← hW]; exact heap_alloc_new w15 _
  have AW : At w W rb 4 wD4 (fun k => w9.heap.size ≤ k ∧ k < W12.heap.size) := A2.out.beside BW
  have SW : Sl .i64 W lv [2, 3] := S13.out.below BW
  have L1 : ∀ x : Ext W, (loadVar 37 ⟨w10.heap.size, 0, none⟩).run Try.prog x.1 = .ok (.agg (fillB 8).toArray) x.1 := fun x => load_at ((x.2.block _ (Array.getElem?_eq_some_iff.1 k1).1).trans k1) (isBlk_fill 8)
  have L2 : ∀ x : Ext W, (loadVar 37 ⟨w14.heap.size, 0, none⟩).run Try.prog x.1 = .ok (.agg (fillB 7).toArray) x.1 := fun x => load_at ((x.2.block _ (Array.getElem?_eq_some_iff.1 k2).1).trans k2) (isBlk_fill 7)
  have L3 : ∀ x : Ext W, (loadVar 37 ⟨w15.heap.size, 0, none⟩).run Try.prog x.1 = .ok (.agg (fillB 0).toArray) x.1 := fun x => load_at ((x.2.block _ (Array.getElem?_eq_some_iff.1 k3).1).trans k3) (isBlk_fill 0)
  have hmx : Try.prog.follows .mixedOrders = true := by kernel_rfl
  have HAW := Lib.hid AW
  have HSW := Lib.hid SW
  clear A2 K13 S13 Z13 B14 B15 K14 B16 hW BW k1 k2 k3 AW SW hz14
  refine region_plan (fun x => ∃ y : Ext W, x = y.1) 35 (.takes [0, 1, 2, 3, 4, 5, 6, 7, 8, 9, 10, 11] (.one 12 (.takes [13, 14, 15, 16] (.one 17 (.one 18 (.takes [19, 20, 21] (.one 22 (.takes [23, 24, 25, 26, 27, 28, 29, 30, 31] (.one 32 (.takes [33, 34] .leaf)))))))))) hmx (by kernel_rfl) (by intro c x v a w h; cases x <;> exact h) ⟨⟨W.drew, (Below.refl _ W).drew⟩, rfl⟩ ?_
  repeat (rw [wpPlan_takes_cons]; simp only [nth_zero, nth_succ]; go_big_quiet_step (fail); refine wpQuiet_nil ?_)
  rw [wpPlan_takes_nil, wpPlan_one]
  simp only [nth_zero, nth_succ]
  go_wp2_with fail
  refine (fill_any 8 _).mono ?_
  rintro e x1 ⟨rfl, hb⟩
  have X1 : Hid (Below W.heap.size W x1) := (Below.refl _ W).drew.trans hb
  clear hb
  go_wp2_with fail
  refine planPost_mk ⟨⟨x1, X1.out⟩, rfl⟩ ?_
  repeat (rw [wpPlan_takes_cons]; simp only [nth_zero, nth_succ]; go_big_quiet_step (fail); refine wpQuiet_nil ?_)
  rw [wpPlan_takes_nil, wpPlan_one]
  simp only [nth_zero, nth_succ]
  go_wp2_with fail
  refine planPost_mk ⟨⟨_, X1.out.alloc X1.out.size _⟩, rfl⟩ ?_
  rw [wpPlan_one]
  simp only [nth_zero, nth_succ]
  go_wp2_with fail
  have S2 : Sl .i64 (x1.alloc (.cells #[.int .i64 2, .int .i64 3] 3)) (.slice (some ⟨x1.heap.size, 0, none⟩) 2 2) [2, 3] := by
    refine Sl.at (bs := [2, 3]) (Nat.le_refl _) (by simp [maxLen]) (by simp) (fun j hj => ?_)
    rw [cell_of_row _ _ _ _ _ _ (heap_alloc_new x1 _)]
    match j, hj with
    | 0, _ => rfl
    | 1, _ => rfl
  refine (ints_same _ _ [2, 3] _ (HSW.out.below (X1.out.alloc X1.out.size _)) S2).mono ?_
  rintro e x2 ⟨rfl, hb⟩
  have X2 : Hid (Below W.heap.size W x2) := (X1.out.alloc X1.out.size _).trans (hb.mono (X1.out.alloc X1.out.size _).size)
  clear hb S2
  go_wp2_with fail
  refine planPost_mk ⟨⟨x2, X2.out⟩, rfl⟩ ?_
  repeat (rw [wpPlan_takes_cons]; simp only [nth_zero, nth_succ]; go_big_quiet_step (fail); refine wpQuiet_nil ?_)
  rw [wpPlan_takes_nil, wpPlan_one]
  simp only [nth_zero, nth_succ]
  go_wp2_with fail
  refine (fill_any 7 _).mono ?_
  rintro e x3 ⟨rfl, hb⟩
  have X3 : Hid (Below W.heap.size W x3) := X2.out.trans (hb.mono X2.out.size)
  clear hb
  go_wp2_with fail
  refine planPost_mk ⟨⟨x3, X3.out⟩, rfl⟩ ?_
  repeat (rw [wpPlan_takes_cons]; simp only [nth_zero, nth_succ]; go_big_quiet_step (fail); refine wpQuiet_nil ?_)
  rw [wpPlan_takes_nil, wpPlan_one]
  simp only [nth_zero, nth_succ]
  go_wp2_with fail
  refine ((HAW.out.beside X3.out).len).mono ?_
  rintro e x4 ⟨rfl, hx⟩
  obtain rfl := hx.symm
  go_wp2_with fail
  refine planPost_mk ⟨⟨x3, X3.out⟩, rfl⟩ ?_
  repeat (rw [wpPlan_takes_cons]; simp only [nth_zero, nth_succ]; go_big_quiet_step (fail); refine wpQuiet_nil ?_)
  rw [wpPlan_takes_nil, wpPlan_leaf]
  simp only [List.drop_succ_cons, List.drop_zero]
  go_wp2_with fail
  go_ret
  exact ⟨rfl, (HAW.out.beside X3.out).bel⟩
end Go.Proofs.Ytagieoomekmjcaa
