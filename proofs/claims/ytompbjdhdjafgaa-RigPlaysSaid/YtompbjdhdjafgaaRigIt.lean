/- The disks of a rig, one by one; the disk with a number. -/
import Derived.RangeFuncBox
import Derived.Test.YtompbjdhdjafgaaRig
namespace Go.Proofs.Ytompbjdhdjafgaa
open Go.RowKit Go.Shelf
set_option linter.unusedVariables false
attribute [-simp] Try.isAgg38 Try.zeroValue38
attribute [-go_sem] loadVar storeVar
attribute [local go_sem] zero_blk build_blk loadVar_open storeVar_open
attribute [local go_sem] Oper.semAt_some

theorem index_d0 (a b : Option Addr) (w : World) : (Instr.index 65 (.agg #[.pointer a, .pointer b]) (.int .i64 0)).run Try.prog w = .ok (.pointer a) w := by kernel_rfl
theorem index_d1 (a b : Option Addr) (w : World) : (Instr.index 65 (.agg #[.pointer a, .pointer b]) (.int .i64 1)).run Try.prog w = .ok (.pointer b) w := by kernel_rfl
attribute [local go_sem] index_d0 index_d1

/-- What comes: a disk's number, and the disk. -/
def dsk (p0 p1 i : Nat) : Nat := if i = 0 then p0 else p1
def encD (p0 p1 : Nat) (i : Nat) : Array Value := #[.int .i64 (i : Int), .pointer (some ⟨dsk p0 p1 i, 0, none⟩)]
/-- What must be so between two rounds. -/
def DisksR (Bd rb p0 p1 : Nat) (W : World) : Prop := Boxed W Bd 26 (.pointer (some ⟨rb, 0, none⟩)) ∧ W.cell? ⟨rb, 0, none⟩ = some (.pointer (some ⟨p0, 0, none⟩)) ∧ W.cell? ⟨rb, 0 + 1, none⟩ = some (.pointer (some ⟨p1, 0, none⟩))
def DisksOk (pre : List Nat) (x : Nat) : Prop := (pre = [] ∧ x = 0) ∨ (pre = [0] ∧ x = 1)

set_option maxRecDepth 100000 in
set_option maxHeartbeats 2000000 in
theorem disks_by (Bd rb p0 p1 : Nat) (w : World) : SeqBy Fence.wide 2 Try.prog 49 #[.pointer (some ⟨Bd, 0, none⟩)] (encD p0 p1) (fun _ W => DisksR Bd rb p0 p1 W) DisksOk (fun xs => xs = [0, 1]) w := by
  intro l J Jx W _ hR _ _ hY h0
  refine callsIn_of_wp Try.func49 rfl trivial ?_ rfl
  simp only [Try.ntmps49, List.size_toArray, List.length_cons, List.length_nil, Nat.reduceAdd, Nat.reduceSub, Array.replicate_succ, Array.replicate_zero, List.push_toArray, List.append_toArray, List.nil_append, List.cons_append]
  obtain ⟨hbx, c0, c1⟩ := hR _ _ h0
  have hbc := hbx.cell
  clear hbx
  gi_wp2
  clear hbc c0 c1
  gi_loopw [11] (fun i wr => (i = .int .i64 0 ∧ J [] wr) ∨ (i = .int .i64 1 ∧ J [0] wr) ∨ (i = .int .i64 2 ∧ J [0, 1] wr)) (fun i _ => 2 - (intOf i).toNat)
  case atStart => exact .inl ⟨rfl, h0⟩
  case round =>
    rcases hrel with ⟨rfl, hJ⟩ | ⟨rfl, hJ⟩ | ⟨rfl, hJ⟩
    · obtain ⟨fn, tmps, assign, body, hy0, hYr⟩ := hY [] 0 wr hJ (.inl ⟨rfl, rfl⟩)
      have hy : (Instr.yield l #[.int .i64 0, .pointer (some ⟨p0, 0, none⟩)]).run Try.prog wr = _ := hy0
      clear hy0
      gi_wp2
      refine hYr.mono ?_
      rintro e W3 (⟨rfl, hJ3⟩ | ⟨rfl, hJx3⟩)
      · gi_wp2
        go_roundw
        case rel => exact .inr (.inl ⟨rfl, hJ3⟩)
        case measure => simp [intOf]
      · gi_wp2
        refine bodyPost_ret (results_none rfl _ _ _) rfl ?_
        exact ⟨⟨_, rfl⟩, .inr ⟨_, hJx3⟩⟩
    · obtain ⟨fn, tmps, assign, body, hy0, hYr⟩ := hY [0] 1 wr hJ (.inr ⟨rfl, rfl⟩)
      have hy : (Instr.yield l #[.int .i64 1, .pointer (some ⟨p1, 0, none⟩)]).run Try.prog wr = _ := hy0
      clear hy0
      gi_wp2
      refine hYr.mono ?_
      rintro e W3 (⟨rfl, hJ3⟩ | ⟨rfl, hJx3⟩)
      · gi_wp2
        go_roundw
        case rel => exact .inr (.inr ⟨rfl, hJ3⟩)
        case measure => simp [intOf]
      · gi_wp2
        refine bodyPost_ret (results_none rfl _ _ _) rfl ?_
        exact ⟨⟨_, rfl⟩, .inr ⟨_, hJx3⟩⟩
    · gi_wp2
      go_end0
      exact ⟨⟨_, rfl⟩, .inl ⟨_, rfl, hJ⟩⟩

set_option maxRecDepth 100000 in
set_option maxHeartbeats 2000000 in
/-- Of a nil rig none comes. -/
theorem disks_nil_by (Bd : Nat) (encs : Nat → Array Value) (w : World) : SeqBy Fence.wide 2 Try.prog 49 #[.pointer (some ⟨Bd, 0, none⟩)] encs (fun _ W => Boxed W Bd 26 (.pointer none)) (fun _ _ => False) (fun xs => xs = []) w := by
  intro l J Jx W _ hR _ _ _ h0
  refine callsIn_of_wp Try.func49 rfl trivial ?_ rfl
  simp only [Try.ntmps49, List.size_toArray, List.length_cons, List.length_nil, Nat.reduceAdd, Nat.reduceSub, Array.replicate_succ, Array.replicate_zero, List.push_toArray, List.append_toArray, List.nil_append, List.cons_append]
  have hbc := (hR _ _ h0).cell
  gi_wp2
  refine bodyPost_ret (results_none rfl _ _ _) rfl ?_
  exact ⟨⟨_, rfl⟩, .inl h0⟩

set_option maxHeartbeats 1000000 in
theorem disks_in (F : Fence) (n : Nat) (hf : F.fn 39) (hro : F.round = none) (p : Option Addr) (w : World) :
    CallsIn F n Try.prog 39 #[.pointer p] w fun e w' => e = .returned (.func (.func 49) #[] #[.pointer (some ⟨w.heap.size, 0, none⟩)]) ∧ w' = w.alloc (.cells #[.pointer p] 26) := by
  refine callsIn_of_wp Try.func39 rfl hf ?_ hro
  simp only [Try.ntmps39, List.size_toArray, List.length_cons, List.length_nil, Nat.reduceAdd, Nat.reduceSub, Array.replicate_succ, Array.replicate_zero, List.push_toArray, List.append_toArray, List.nil_append, List.cons_append]
  gi_wp2
  go_ret
  exact ⟨rfl, rfl⟩
end Go.Proofs.Ytompbjdhdjafgaa
