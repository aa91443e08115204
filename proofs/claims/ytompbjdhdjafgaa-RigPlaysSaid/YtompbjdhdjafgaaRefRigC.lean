/- The document's own rig: Crash, New. -/
import Derived.Test.YtompbjdhdjafgaaRefRigM
import Derived.Test.YtompbjdhdjafgaaRigCr
namespace Go.Proofs.Ytompbjdhdjafgaa
open Go.RowKit
set_option linter.unusedVariables false
attribute [-simp] Try.isAgg38 Try.zeroValue38
attribute [-go_sem] loadVar storeVar
attribute [local go_sem] zero_blk build_blk loadVar_open storeVar_open

section
variable {rq q0 q1 : Nat} {S : RS} {w : World} {f : Nat → Prop} {v : Value} {b : List Int}
theorem RigQ.crash0 (h : RigQ rq q0 q1 S w f) (hv : Sl .u8 w v b) (hB : IsBytes b) (hc : b ≠ [] → Clear f v) (hm : S.Few 1000000) :
    Calls Try.prog 41 #[.pointer (some ⟨q0, 0, none⟩), v] w fun e w' => e = .returned (.tuple #[]) ∧ ∃ f', RigQ rq q0 q1 (S.cr0 b) w' f' ∧ Turn f f' w w' := by
  refine Sep.secondC (R := fun e _ => e = .returned (.tuple #[])) (RowR.isRes _ _ _) (S.disks2_isRes q0 q1) h (Q' := (S.cr0 b).disks2 q0 q1) fun f2 h2 hs2 => ?_
  refine Sep.firstC (R := fun e _ => e = .returned (.tuple #[])) (RefD.isRes _ _ _) (RefD.isRes _ _ _) h2 fun f3 h3 hs3 => ?_
  refine (refCrash q0 S.n0 f3 S.D0 v b w h3.1 h3.2 hv hB (fun hn x off len cap e hf => hc hn x off len cap e (hs2 _ (hs3 _ hf))) hm.1).mono ?_
  rintro e w' ⟨rfl, f', g1, g2⟩
  exact ⟨rfl, f', ⟨g1, h3.2⟩, g2⟩
theorem RigQ.crash1 (h : RigQ rq q0 q1 S w f) (hv : Sl .u8 w v b) (hB : IsBytes b) (hc : b ≠ [] → Clear f v) (hm : S.Few 1000000) :
    Calls Try.prog 41 #[.pointer (some ⟨q1, 0, none⟩), v] w fun e w' => e = .returned (.tuple #[]) ∧ ∃ f', RigQ rq q0 q1 (S.cr1 b) w' f' ∧ Turn f f' w w' := by
  refine Sep.secondC (R := fun e _ => e = .returned (.tuple #[])) (RowR.isRes _ _ _) (S.disks2_isRes q0 q1) h (Q' := (S.cr1 b).disks2 q0 q1) fun f2 h2 hs2 => ?_
  refine Sep.secondC (R := fun e _ => e = .returned (.tuple #[])) (RefD.isRes _ _ _) (RefD.isRes _ _ _) h2 fun f3 h3 hs3 => ?_
  refine (refCrash q1 S.n1 f3 S.D1 v b w h3.1 h3.2 hv hB (fun hn x off len cap e hf => hc hn x off len cap e (hs2 _ (hs3 _ hf))) hm.2).mono ?_
  rintro e w' ⟨rfl, f', g1, g2⟩
  exact ⟨rfl, f', ⟨g1, h3.2⟩, g2⟩

set_option maxRecDepth 100000 in
set_option maxHeartbeats 1000000 in
/-- **Crash**. -/
theorem RigQ.crash {v0 v1 : Value} {b0 b1 : List Int} (h : RigQ rq q0 q1 S w f) (hv0 : Sl .u8 w v0 b0) (hv1 : Sl .u8 w v1 b1) (hB0 : IsBytes b0) (hB1 : IsBytes b1) (hc0 : b0 ≠ [] → Clear f v0) (hc1 : b1 ≠ [] → Clear f v1) (hm : S.Few 1000000) :
    Calls Try.prog 20 #[.pointer (some ⟨rq, 0, none⟩), v0, v1] w fun e w' => e = .returned (.tuple #[]) ∧ ∃ f', RigQ rq q0 q1 (S.crash b0 b1) w' f' ∧ Turn f f' w w' := by
  obtain ⟨a0, cap0, rfl, -, -, -, -⟩ := id hv0
  obtain ⟨a1, cap1, rfl, -, -, -, -⟩ := id hv1
  obtain ⟨L0, hL0⟩ : ∃ L, b0.length = L := ⟨_, rfl⟩
  obtain ⟨L1, hL1⟩ : ∃ L, b1.length = L := ⟨_, rfl⟩
  rw [hL0] at hv0 hc0 ⊢
  rw [hL1] at hv1 hc1 ⊢
  have c0 : w.cell? ⟨rq, 0, none⟩ = some (.pointer (some ⟨q0, 0, none⟩)) := h.cell 0
  have H1 := Lib.hid (h.crash0 hv0 hB0 hc0 hm)
  have H2 : Hid (∀ (x : World) (f2 : Nat → Prop), RigQ rq q0 q1 (S.cr0 b0) x f2 → Turn f f2 w x → Calls Try.prog 41 #[.pointer (some ⟨q1, 0, none⟩), .slice a1 L1 cap1] x fun e w' => e = .returned (.tuple #[]) ∧ ∃ f', RigQ rq q0 q1 ((S.cr0 b0).cr1 b1) w' f' ∧ Turn f2 f' x w') := fun x f2 hx ht =>
    hx.crash1 (hv1.stay ht.size (fun hn y off len cap e hy => ht.out y hy (hc1 hn y off len cap e))) hB1 (fun hn y off len cap e hf => (ht.new y hf).elim (hc1 hn y off len cap e) (fun h => by have := hv1.lt_of hn e; omega)) (RS.cr0_few hm b0)
  clear h hv0 hv1 hB0 hB1 hc0 hc1 hm hL0 hL1
  go_enter Try.func20, Try.ntmps20
  go_wp2_with fail
  go_at_call 41
  refine H1.out.mono ?_
  rintro e x1 ⟨rfl, f1, g1, g2⟩
  have c1 : x1.cell? ⟨rq, 1, none⟩ = some (.pointer (some ⟨q1, 0, none⟩)) := g1.cell 1
  have H3 := Lib.hid (H2.out x1 f1 g1 g2)
  have HT := Lib.hid g2
  clear g1 g2 c0
  go_wp2_with fail
  go_at_call 41
  refine H3.out.mono ?_
  rintro e x2 ⟨rfl, f2, g1, g2⟩
  have e2 : x2.cell? ⟨rq, 2, none⟩ = some (.int .i64 S.fuse) := g1.cell 2
  have e3 : x2.cell? ⟨rq, 3, none⟩ = some (.bool S.down) := g1.cell 3
  have r2 := g1.frozen 2
  have r3 := g1.frozen 3
  have HU := Lib.hid g2
  have HR := Lib.hid g1
  clear g1 g2 c1
  go_wp2_with fail
  go_end0
  obtain ⟨g3, g4⟩ := HR.out.set (RS.disks2_isRes q0 q1 _) 2 (.int .i64 (-1))
  obtain ⟨g5, g6⟩ := g3.set (RS.disks2_isRes q0 q1 _) 3 (.bool false)
  exact ⟨rfl, f2, g5, HT.out.trans (HU.out.trans (g4.trans g6))⟩
end

set_option maxRecDepth 100000 in
set_option maxHeartbeats 1000000 in
/-- **New**. -/
theorem rigQ_yes (n0 n1 : Nat) (w : World) (h01 : 1 ≤ n0) (h02 : n0 ≤ 4096) (h11 : 1 ≤ n1) (h12 : n1 ≤ 4096) :
    Calls Try.prog 11 #[.int .i64 (n0 : Int), .int .i64 (n1 : Int)] w fun e w' => ∃ rq q0 q1, e = .returned (.tuple #[.pointer (some ⟨rq, 0, none⟩), .int .i64 0]) ∧ (∃ f, RigQ rq q0 q1 (newS n0 n1) w' f ∧ ∀ k, f k → w.heap.size ≤ k) ∧ Below w.heap.size w w' := by
  have H0 := Lib.hid (refNew_yes n0 w h01 h02)
  have H1 := Lib.hid (fun x => refNew_yes n1 x h11 h12)
  have HP : Hid (0 < n0 ∧ 0 < n1) := ⟨by omega, by omega⟩
  clear h01 h02 h11 h12
  go_enter Try.func11, Try.ntmps11
  go_wp2_with fail
  go_at_call 27
  refine H0.out.mono ?_
  rintro e x1 ⟨q0, rfl, ⟨f0, g1, g2⟩, g3⟩
  have A1 := Lib.hid g1
  have A2 := Lib.hid g2
  have A3 := Lib.hid g3
  clear g1 g2 g3
  go_wp2_with fail
  go_at_call 27
  refine (H1.out x1).mono ?_
  rintro e x2 ⟨q1, rfl, ⟨f1, g1, g2⟩, g3⟩
  have B1 := Lib.hid g1
  have B2 := Lib.hid g2
  have B3 := Lib.hid g3
  clear g1 g2 g3
  go_wp2_with fail
  go_ret2
  have hA : ∀ k, f0 k → k < x1.heap.size := A1.out.lt HP.out.1
  have hB : ∀ k, f1 k → k < x2.heap.size := B1.out.lt HP.out.2
  have hz1 := A3.out.size
  have hz2 := B3.out.size
  have hal : ∀ o : Obj, Below x2.heap.size x2 (x2.alloc o) := fun o => (Below.refl _ x2).alloc (Nat.le_refl _) o
  refine ⟨_, q0, q1, rfl, ⟨_, ⟨fun k => k = x2.heap.size, fun k => f0 k ∨ f1 k, ⟨heap_alloc_new x2 _, rfl⟩, ⟨f0, f1, ⟨(A1.out.below HP.out.1 B3.out).below HP.out.1 (hal _), HP.out.1⟩, ⟨B1.out.below HP.out.2 (hal _), HP.out.2⟩, fun k a b => ?_, rfl⟩, fun k a b => ?_, rfl⟩, fun k hk => ?_⟩, ?_⟩
  · have := hA k a; have := B2.out k b; omega
  · subst a
    rcases b with b | b
    · have := hA _ b; omega
    · have := hB _ b; omega
  · rcases hk with rfl | hk | hk
    · omega
    · exact A2.out k hk
    · have := B2.out k hk; omega
  · exact (A3.out.trans (B3.out.mono A3.out.size)).trans ((hal _).mono (by omega))

/-- What New comes to, of whatever size. -/
theorem refNew_any (n : Int) (w : World) : Calls Try.prog 27 #[.int .i64 n] w fun e w' => ∃ p, e = .returned (.tuple #[.pointer p, .int .i64 (if n < 1 ∨ 4096 < n then 1 else 0)]) ∧ Below w.heap.size w w' := by
  by_cases h : n < 1 ∨ 4096 < n
  · rw [if_pos h]
    refine (refNew_no n w h).mono ?_
    rintro e w' ⟨rfl, rfl⟩
    exact ⟨_, rfl, Below.refl _ _⟩
  · rw [if_neg h]
    obtain ⟨m, rfl⟩ : ∃ m : Nat, n = (m : Int) := ⟨n.toNat, by omega⟩
    refine (refNew_yes m w (by omega) (by omega)).mono ?_
    rintro e w' ⟨rq, rfl, -, h⟩
    exact ⟨_, rfl, h⟩

set_option maxRecDepth 100000 in
set_option maxHeartbeats 1000000 in
/-- **New**, of no sizes that there are. -/
theorem rigQ_no (n0 n1 : Int) (w : World) (h : (n0 < 1 ∨ 4096 < n0) ∨ (n1 < 1 ∨ 4096 < n1)) :
    Calls Try.prog 11 #[.int .i64 n0, .int .i64 n1] w fun e w' => e = .returned (.tuple #[.pointer none, .int .i64 1]) ∧ Below w.heap.size w w' := by
  obtain ⟨e0, he0⟩ : ∃ e0 : Int, (if n0 < 1 ∨ 4096 < n0 then 1 else 0) = e0 := ⟨_, rfl⟩
  obtain ⟨e1, he1⟩ : ∃ e1 : Int, (if n1 < 1 ∨ 4096 < n1 then 1 else 0) = e1 := ⟨_, rfl⟩
  have H0 := Lib.hid (refNew_any n0 w)
  have H1 := Lib.hid (fun x => refNew_any n1 x)
  rw [he0] at H0
  rw [he1] at H1
  have hc : e0 = 1 ∨ (e0 = 0 ∧ e1 = 1) := by
    by_cases h0 : n0 < 1 ∨ 4096 < n0
    · rw [if_pos h0] at he0; exact .inl he0.symm
    · rw [if_neg h0] at he0; rw [if_pos (h.resolve_left h0)] at he1; exact .inr ⟨he0.symm, he1.symm⟩
  clear h he0 he1
  rcases hc with rfl | ⟨rfl, rfl⟩
  all_goals
    go_enter Try.func11, Try.ntmps11
    go_wp2_with fail
    go_at_call 27
    refine H0.out.mono ?_
    rintro e x1 ⟨p, rfl, hb⟩
    have HB := Lib.hid hb
    clear hb
    go_wp2_with fail
    go_at_call 27
    refine (H1.out x1).mono ?_
    rintro e x2 ⟨p', rfl, hb⟩
    have HB2 := Lib.hid hb
    clear hb
    go_wp2_with fail
    go_ret2
    exact ⟨rfl, HB.out.trans (HB2.out.mono HB.out.size)⟩
end Go.Proofs.Ytompbjdhdjafgaa
