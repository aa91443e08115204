/- The statements' own trial. -/
import Derived.Test.YtompbjdhdjafgaaRAt
import Derived.Test.YtompbjdhdjafgaaQuiet
namespace Go.Proofs.Ytompbjdhdjafgaa
open Go.RowKit
set_option linter.unusedVariables false
attribute [-simp] Try.isAgg38 Try.zeroValue38
attribute [-go_sem] loadVar storeVar
attribute [local go_sem] zero_blk build_blk loadVar_open storeVar_open store_fill eq_fill eq_fill_z

theorem few_new (n0 n1 m : Nat) : (newS n0 n1).Few m := ⟨fun i _ => Nat.zero_le _, fun i _ => Nat.zero_le _⟩
def kS0 : RS := newS 4 6
def kS1 : RS := kS0.write 1 5 (fillB 3)
def kS2 : RS := { kS1 with fuse := 1 }
def kS3 : RS := kS2.flush 1
def kS4 : RS := kS3.write 0 0 (fillB 4)
def kS5 : RS := kS4.flush 0
noncomputable def kS6 : RS := kS5.crash [] []
theorem kS1_few : kS1.Few 1 := by
  refine ⟨fun i hi => Nat.zero_le _, fun i hi => ?_⟩
  match i, hi with
  | 0, _ => decide
  | 1, _ => decide
  | 2, _ => decide
  | 3, _ => decide
  | 4, _ => decide
  | 5, _ => decide
theorem kS3_D1 : kS3.D1 = flTo kS1.D1 6 := by rfl
theorem kS5_D : kS5.D0 = (fun _ => zsec) ∧ kS5.D1 = flTo kS1.D1 6 ∧ kS5.n0 = 4 ∧ kS5.n1 = 6 := ⟨rfl, rfl, rfl, rfl⟩
theorem kS5_few : kS5.Few 0 := ⟨fun i hi => Nat.zero_le _, fun i hi => by
  match i, hi with
  | 0, _ => decide
  | 1, _ => decide
  | 2, _ => decide
  | 3, _ => decide
  | 4, _ => decide
  | 5, _ => decide⟩
theorem kS3_few : kS3.Few 0 := ⟨fun i hi => Nat.zero_le _, kS5_few.2⟩
theorem kS6_read : kS6.read 1 5 = fillB 3 ∧ kS6.readE 1 5 = 0 := by
  have h : kS6.D1 = kS5.D1 := by
    show settled kS5.D1 (crashG kS5.D1 []) (looseTo kS5.D1 kS5.n1) = _
    rw [show looseTo kS5.D1 kS5.n1 = [] by rfl, settled_nil]
  refine ⟨?_, rfl⟩
  show (kS6.D1 5).look = _
  rw [h]
  rfl

set_option maxRecDepth 100000 in
set_option maxHeartbeats 8000000 in
theorem wakes_any (w : World) : Calls Try.prog 9 #[] w fun e w' => e = .returned (.bool true) ∧ Below w.heap.size w w' := by
  go_enter Try.func9, Try.ntmps9
  go_wp2_with fail
  refine (RAt.new 4 6 w w (Below.refl _ _) (by omega) (by omega) (by omega) (by omega) (fun _ => False) (fun _ h => h.elim)).mono ?_
  rintro e w1 ⟨rb, p0, p1, rfl, a0, -⟩
  have A0 : Hid (RAt w w1 rb p0 p1 kS0 (fun _ => False)) := a0
  clear a0
  go_wp2_with fail
  refine (fill_any 3 _).mono ?_
  rintro e w2 ⟨rfl, hb⟩
  have A1 := Lib.hid (A0.out.beside hb)
  clear hb A0
  go_wp2_with fail
  refine (A1.out.write (RS.fit (by decide) (by decide) (by decide)) (few_new 4 6 255) 1 5 (isBlk_fill 3)).mono ?_
  rintro e w3 ⟨rfl, a0, -⟩
  have A0 : Hid (RAt w w3 rb p0 p1 kS1 (fun _ => False)) := a0
  rw [show kS0.writeE 1 5 = 0 by rfl]
  clear a0 A1
  go_wp2_with fail
  refine (A0.out.arm 1).mono ?_
  rintro e w4 ⟨rfl, a0, -⟩
  have A1 : Hid (RAt w w4 rb p0 p1 kS2 (fun _ => False)) := a0
  clear a0 A0
  go_wp2_with fail
  refine (A1.out.flush (RS.fit (by decide) (by decide) (by decide)) 1).mono ?_
  rintro e w5 ⟨rfl, a0, -⟩
  have A0 : Hid (RAt w w5 rb p0 p1 kS3 (fun _ => False)) := a0
  rw [show kS2.flushE 1 = 0 by rfl]
  clear a0 A1
  go_wp2_with fail
  refine (fill_any 4 _).mono ?_
  rintro e w6 ⟨rfl, hb⟩
  have A1 := Lib.hid (A0.out.beside hb)
  clear hb A0
  go_wp2_with fail
  refine (A1.out.write (RS.fit (by decide) (by decide) (by decide)) (kS3_few.mono (by omega)) 0 0 (isBlk_fill 4)).mono ?_
  rintro e w7 ⟨rfl, a0, -⟩
  have A0 : Hid (RAt w w7 rb p0 p1 kS4 (fun _ => False)) := a0
  rw [show kS3.writeE 0 0 = 14 by rfl]
  clear a0 A1
  go_wp2_with fail
  refine (A0.out.flush (RS.fit (by decide) (by decide) (by decide)) 0).mono ?_
  rintro e w8 ⟨rfl, a0, -⟩
  have A1 : Hid (RAt w w8 rb p0 p1 kS5 (fun _ => False)) := a0
  rw [show kS4.flushE 0 = 14 by rfl]
  clear a0 A0
  go_wp2_with fail
  refine (A1.out.read 1 5).mono ?_
  rintro e w9 ⟨rfl, hb⟩
  rw [show kS5.readE 1 5 = 14 by rfl, show kS5.read 1 5 = fillB 0 by rfl]
  have A0 := Lib.hid (A1.out.beside hb)
  clear hb A1
  go_wp2_with fail
  obtain ⟨W9, hW9⟩ : ∃ W9, w9.alloc (.cells (fillB 0).toArray 38) = W9 := ⟨_, rfl⟩
  rw [hW9]
  have A1 : Hid (RAt w W9 rb p0 p1 kS5 (fun _ => False)) := by rw [← hW9]; exact A0.out.beside ((Below.refl _ _).alloc (Nat.le_refl _) _)
  clear hW9 A0
  refine (A1.out.isDown).mono ?_
  rintro e w' ⟨rfl, hx⟩
  obtain rfl := hx.symm
  rw [show kS5.down = true by rfl]
  clear hx
  go_wp2_with fail
  refine (A1.out.crash (Sl.nil _ _) (Sl.nil _ _) (b0 := []) (b1 := []) (fun j => by simp) (fun j => by simp) (fun h => absurd rfl h) (fun h => absurd rfl h) (kS5_few.mono (by omega))).mono ?_
  rintro e w10 ⟨rfl, a0, -⟩
  have A0 : Hid (RAt w w10 rb p0 p1 kS6 (fun _ => False)) := a0
  clear a0 A1
  go_wp2_with fail
  refine (A0.out.read 1 5).mono ?_
  rintro e w11 ⟨rfl, hb⟩
  rw [kS6_read.1, kS6_read.2]
  have A1 := Lib.hid (A0.out.beside hb)
  clear hb A0
  go_wp2_with fail
  obtain ⟨W, hW⟩ : ∃ W, w11.alloc (.cells (fillB 3).toArray 38) = W := ⟨_, rfl⟩
  rw [hW]
  have AW : Hid (RAt w W rb p0 p1 kS6 (fun _ => False)) := by rw [← hW]; exact A1.out.beside ((Below.refl _ _).alloc (Nat.le_refl _) _)
  have k1 : W.heap[w11.heap.size]? = some (.cells (fillB 3).toArray 38 (0, 0)) := by rw [← hW]; exact heap_alloc_new w11 _
  have L1 : ∀ x : Ext W, (loadVar 38 ⟨w11.heap.size, 0, none⟩).run Try.prog x.1 = .ok (.agg (fillB 3).toArray) x.1 := fun x => load_at ((x.2.block _ (Array.getElem?_eq_some_iff.1 k1).1).trans k1) (isBlk_fill 3)
  have Q1 : Hid (∀ x : Ext W, Calls Try.prog 22 #[.pointer (some ⟨rb, 0, none⟩)] x.1 fun e w'' => e = .returned (.bool false) ∧ ∃ y : Ext W, w'' = y.1) := fun x => (AW.out.beside x.2).isDown.mono fun e w'' ⟨h1, h2⟩ => ⟨h1, x, h2⟩
  have Q2 : Hid (∀ x : Ext W, Calls Try.prog 13 #[.int .u8 3] x.1 fun e w'' => e = .returned (.agg (fillB 3).toArray) ∧ ∃ y : Ext W, w'' = y.1) := fun x => calls_ext x (fill_any 3 x.1)
  have Q3 : Hid (∀ x : Ext W, Calls Try.prog 24 #[.pointer (some ⟨rb, 0, none⟩), .int .i64 0] x.1 fun e w'' => e = .returned (.int .i64 4) ∧ ∃ y : Ext W, w'' = y.1) := fun x => calls_ext x ((AW.out.beside x.2).len 0)
  have Q4 : Hid (∀ x : Ext W, Calls Try.prog 24 #[.pointer (some ⟨rb, 0, none⟩), .int .i64 1] x.1 fun e w'' => e = .returned (.int .i64 6) ∧ ∃ y : Ext W, w'' = y.1) := fun x => calls_ext x ((AW.out.beside x.2).len 1)
  have Q5 : Hid (∀ x : Ext W, Calls Try.prog 23 #[.pointer (some ⟨rb, 0, none⟩)] x.1 fun e w'' => e = .returned (.int .i64 2) ∧ ∃ y : Ext W, w'' = y.1) := fun x => (AW.out.beside x.2).done.mono fun e w'' ⟨h1, h2⟩ => ⟨h1, x, h2⟩
  have hmx : Try.prog.follows .mixedOrders = true := by kernel_rfl
  clear A1 hW k1
  refine region_ext (by kernel_rfl) (by kernel_rfl) ?_
  repeat (go_big_quiet_step (with_reducible (first | exact Q1.out _ | exact Q2.out _ | exact Q3.out _ | exact Q4.out _ | exact Q5.out _)))
  refine wpQuiet_nil ?_
  intro x
  go_wp2_with fail
  all_goals (go_ret; exact ⟨rfl, AW.out.bel.trans (x.2.mono AW.out.bel.size)⟩)
end Go.Proofs.Ytompbjdhdjafgaa
