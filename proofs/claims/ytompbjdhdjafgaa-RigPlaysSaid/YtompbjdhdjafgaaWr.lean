/- Write, New. -/
import Derived.Test.YtompbjdhdjafgaaRW
namespace Go.Proofs.Ytompbjdhdjafgaa
open Go.RowKit
set_option linter.unusedVariables false
attribute [-simp] Try.isAgg38 Try.zeroValue38
attribute [-go_sem] loadVar storeVar
attribute [local go_sem] zero_blk build_blk loadVar_open storeVar_open

theorem Turn.of_below {f : Nat → Prop} {w W : World} (h : Below w.heap.size w W) : Turn f f w W :=
  ⟨⟨h.os, h.tape, h.output⟩, ⟨h.size, fun k o hk _ => (h.block k (Array.getElem?_eq_some_iff.1 hk).1).trans hk⟩, fun k hk _ => h.block k hk, fun _ hk => .inl hk⟩
theorem Turn.below {f f' : Nat → Prop} {w W : World} {N : Nat} (h : Turn f f' w W) (hN : N ≤ w.heap.size) (hf : ∀ k, f k → N ≤ k) : Below N w W :=
  ⟨h.still.1, h.still.2.1, h.still.2.2, h.size, fun k hk => h.out k (by omega) (fun hfk => by have := hf k hfk; omega)⟩

set_option maxRecDepth 100000 in
set_option maxHeartbeats 1000000 in
/-- **Write**, where there is no such sector. -/
theorem write_no (p : Option Addr) (n : Nat) (i : Int) (b : List Value) (w : World) (hl : ∀ w', Below w.heap.size w w' → Calls Try.prog 42 #[.pointer p] w' fun e w'' => e = .returned (.int .i64 (n : Int)) ∧ w'' = w') (hi : ¬ (0 ≤ i ∧ i < (n : Int))) :
    Calls Try.prog 31 #[.pointer p, .int .i64 i, .agg b.toArray] w fun e w' => e = .returned (.int .i64 1) ∧ Below w.heap.size w w' := by
  obtain ⟨W, hW⟩ : ∃ W, w.alloc (.cells b.toArray 38) = W := ⟨_, rfl⟩
  have hB : Below w.heap.size w W := by rw [← hW]; exact (Below.refl _ w).alloc (Nat.le_refl _) _
  have HH := Lib.hid (has_of p n i W (hl W hB))
  have HE : Hid (decide (0 ≤ i ∧ i < (n : Int)) = false) := by show _ = _; simpa using hi
  have HB := Lib.hid hB
  clear hl hi hB
  go_enter Try.func31, Try.ntmps31
  go_wp2_with fail
  refine HH.out.mono ?_
  rintro e w' ⟨rfl, rfl⟩
  rw [HE.out]
  go_wp2_with fail
  go_ret
  exact ⟨rfl, HB.out⟩

set_option maxRecDepth 100000 in
set_option maxHeartbeats 1000000 in
/-- **Write**. -/
theorem write_yes (rb n i : Nat) (f : Nat → Prop) (D : Nat → Sec) (b : List Value) (w : World) (h : Disk w rb n f D) (hi : i < n) (hb : IsBlk b) (hk : ¬ 255 < (D i).vs.length) :
    Calls Try.prog 31 #[.pointer (some ⟨rb, 0, none⟩), .int .i64 (i : Int), .agg b.toArray] w fun e w' => e = .returned (.int .i64 0) ∧ ∃ f', Disk w' rb n f' (upd D i ((D i).add b)) ∧ Turn f f' w w' := by
  obtain ⟨W, hW⟩ : ∃ W, w.alloc (.cells b.toArray 38) = W := ⟨_, rfl⟩
  have hB : Below w.heap.size w W := by rw [← hW]; exact (Below.refl _ w).alloc (Nat.le_refl _) _
  have h' := h.below (by omega) hB
  have HH := Lib.hid (has_of _ n (i : Int) W (len_at rb n f D W h'))
  have HE : Hid (decide (0 ≤ (i : Int) ∧ (i : Int) < (n : Int)) = true) := by show _ = _; simp; omega
  obtain ⟨sb, sv, hd, rfl⟩ := h'
  have HA : Hid (Calls Try.prog 44 #[.pointer (some ⟨sb, i * 65, none⟩), .agg b.toArray] W.drew fun e w' => e = .returned (.tuple #[]) ∧ ∃ f', Disk w' rb n f' (upd D i ((D i).add b)) ∧ Turn (foot rb sb n sv) f' w w') := by
    have hs : SecAt W.drew 0 sb (i * 65) (D i) (sv i) := (hd.secs i hi).kept rfl (fun _ _ => rfl)
    refine (add_few 0 sb (i * 65) (D i) (sv i) b W.drew hs hb (Nat.zero_le _) hk).mono ?_
    rintro e w' ⟨rfl, v', h1, h2, h3⟩
    have hd' : DskAt W.drew rb sb n sv D := hd.kept fun _ _ => rfl
    have h3' : v'.ownBlock = none ∨ v'.ownBlock = (sv i).ownBlock ∨ ∃ k, v'.ownBlock = some k ∧ W.drew.heap.size ≤ k := .inr h3
    exact ⟨rfl, _, ⟨sb, _, hd'.step hi h2 h1 h3', rfl⟩, (Turn.of_below hB.drew).trans (hd'.turn hi h2 h3')⟩
  have c1 := hd.head.cell
  have L : (loadVar 38 ⟨w.heap.size, 0, none⟩).run Try.prog W.drew = .ok (.agg b.toArray) W.drew := by rw [← hW]; exact load_new (w := w.drew) (by simpa using hb.length)
  have hmx : Try.prog.follows .mixedOrders = true := by kernel_rfl
  have G1 : Hid ((i : Int) < (n : Int)) := by show _ < _; omega
  clear hd h hi hb hk hB
  go_enter Try.func31, Try.ntmps31
  go_wp2_with fail
  clear hW
  refine HH.out.mono ?_
  rintro e w' ⟨rfl, hw⟩
  obtain rfl := hw.symm
  rw [HE.out]
  go_wp2_with fail
  have g1 := G1.out
  refine region_plan (fun x => x = W.drew) 7 (.takes [0, 1, 2, 3, 4, 5, 6] .leaf) hmx (by kernel_rfl) (by intro c x v a w h; cases x <;> exact h) rfl ?_
  repeat (rw [wpPlan_takes_cons]; simp only [nth_zero, nth_succ]; go_big_quiet_step (fail); refine wpQuiet_nil ?_)
  rw [wpPlan_takes_nil, wpPlan_leaf]
  simp only [List.drop_succ_cons, List.drop_zero]
  go_wp2_with fail
  refine HA.out.mono ?_
  rintro e w' ⟨rfl, hf⟩
  have HF := Lib.hid hf
  clear hf
  go_wp2_with fail
  go_ret
  exact ⟨rfl, HF.out⟩
end Go.Proofs.Ytompbjdhdjafgaa
