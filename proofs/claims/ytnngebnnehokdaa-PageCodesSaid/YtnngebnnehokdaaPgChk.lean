/- The library's Chunk at bytes: its range function has its contract: each piece comes, in order. -/
import Derived.Test.YtnngebnnehokdaaOrd
import Derived.Test.YtnngebnnehokdaaQuiet
import Derived.Test.YtnngebnnehokdaaPgBod
import Derived.Test.YtnngebnnehokdaaIter
import Derived.RangeFuncBox
namespace Go.Proofs.Ytnngebnnehokdaa
open Go.RowKit Go.Shelf
set_option linter.unusedVariables false

attribute [local go_sem] Oper.semAt_some

/-- What the body of a loop over pieces must keep: some blocks. -/
def KpC (S : Nat → Prop) (A B : World) : Prop := A.heap.size ≤ B.heap.size ∧ ∀ k, S k → B.heap[k]? = A.heap[k]?
theorem KpC.refl (S : Nat → Prop) (A : World) : KpC S A A := ⟨Nat.le_refl _, fun _ _ => rfl⟩
theorem kpC_t {S : Nat → Prop} {A B C : World} (h : KpC S A B) (k : KpC S B C) : KpC S A C := ⟨Nat.le_trans h.1 k.1, fun j hj => (k.2 j hj).trans (h.2 j hj)⟩
theorem KpC.cell {S : Nat → Prop} {A B : World} (h : KpC S A B) {p : Addr} (hp : S p.block) : B.cell? p = A.cell? p := World.cell?_of_block (h.2 _ hp)
theorem kpC_b {S : Nat → Prop} {w : World} (hS : ∀ k, S k → k < w.heap.size) (W : World) (l : Nat) (o o' : Obj) (hl : w.heap.size ≤ l) (_ : W.heap[l]? = some o) (_ : o.isCells = false) (_ : o.isWalk = false) : KpC S W (W.putObj l o') := ⟨by simp, fun k hk => by
  refine World.putObj_heap_other ?_
  have := hS k hk
  omega⟩
/-- Piece number k of len bytes that lie at a place. -/
def encC (b off len : Nat) {m : Nat} (x : Fin m) : Array Value := #[.slice (some ⟨b, off + 48 * x.1, none⟩) (min 48 (len - 48 * x.1)) (min 48 (len - 48 * x.1))]

set_option maxHeartbeats 1000000 in
/-- The bytes and the size are boxed; the function value holds the boxes. -/
theorem chunk_in (F : Fence) (n : Nat) (hf : F.fn 27) (hro : F.round = none) (a : Option Addr) (len cap : Nat) (w : World) :
    CallsIn F n Try.prog 27 #[.slice a len cap, .int .i64 48] w fun e w' => e = .returned (.func (.func 35) #[] #[.pointer (some ⟨w.heap.size, 0, none⟩), .pointer (some ⟨w.heap.size + 1, 0, none⟩)]) ∧ w' = (w.alloc (.cells #[.slice a len cap] 41)).alloc (.cells #[.int .i64 48] 3) := by
  refine callsIn_of_wp Try.func27 rfl hf ?_ hro
  simp only [Try.ntmps27, List.size_toArray, List.length_cons, List.length_nil, Nat.reduceAdd, Nat.reduceSub, Array.replicate_succ, Array.replicate_zero, List.push_toArray, List.append_toArray, List.nil_append, List.cons_append]
  gi_wp2
  go_ret
  exact ⟨rfl, rfl⟩

set_option maxRecDepth 100000 in
set_option maxHeartbeats 2000000 in
theorem chunk1_in (n : Nat) (hn : 1 ≤ n) (l Bs Bn b off len cap m : Nat) (a : Option Addr) (ha : len = 0 ∨ a = some ⟨b, off, none⟩) (hlc : len ≤ cap) (hc : cap ≤ maxLen) (hmx : len ≤ 1000000) (hm : m = (len + 47) / 48) (S : Nat → Prop) (hs : S Bs) (hs' : S Bn)
    (J Jx : List (Fin m) → World → Prop)
    (hY : ∀ pre x W, J pre W → pre.length < m → YieldAt Fence.wide (n - 1) Try.prog l (encC b off len x) W fun e W' =>
      (e = .returned (.bool true) ∧ J (pre ++ [x]) W' ∧ KpC S W W') ∨ (e = .returned (.bool false) ∧ Jx (pre ++ [x]) W'))
    (hJd : ∀ pre W, J pre W → J pre W.drew)
    (W : World) (hBs : W.cell? ⟨Bs, 0, none⟩ = some (.slice a len cap)) (hBn : W.cell? ⟨Bn, 0, none⟩ = some (.int .i64 48)) (h0 : J [] W) (hlt : Bs < W.heap.size) (hlt' : Bn < W.heap.size) :
    CallsIn Fence.wide n Try.prog 35 #[.func (.yield l) #[] #[], .pointer (some ⟨Bs, 0, none⟩), .pointer (some ⟨Bn, 0, none⟩)] W fun e W' => (∃ v, e = .returned v) ∧
      ((∃ ys, ys = List.finRange m ∧ J ys W') ∨ (∃ pre, (∃ k, k ≤ m ∧ pre = upto m k) ∧ Jx pre W')) := by
  refine callsIn_of_wp Try.func35 rfl trivial ?_ rfl
  simp only [Try.ntmps35, List.size_toArray, List.length_cons, List.length_nil, Nat.reduceAdd, Nat.reduceSub, Array.replicate_succ, Array.replicate_zero, List.push_toArray, List.append_toArray, List.nil_append, List.cons_append]
  have HM := Lib.hid hm
  have HS := Lib.hid hs
  have HS' := Lib.hid hs'
  have HA := Lib.hid ha
  have HLT := Lib.hid hlt
  have HLT' := Lib.hid hlt'
  have hcap : cap ≤ 9223372036854775807 := by unfold maxLen at hc; omega
  have hmo : Try.prog.follows .mixedOrders = true := by kernel_rfl
  clear hm hs hs' ha hc hlt hlt'
  gi_wp2
  gi_loopw [4] (fun i wr => ∃ k : Nat, k ≤ m ∧ i = .int .i64 ((48 * k : Nat) : Int) ∧ J (upto m k) wr ∧ Hid (KpC S W wr)) (fun i _ => 48 * m - (intOf i).toNat)
  case atStart => exact ⟨0, Nat.zero_le _, rfl, h0, KpC.refl _ _⟩
  case round =>
    obtain ⟨k, hk, rfl, hJs, HK⟩ := hrel
    obtain ⟨K, hK⟩ : ∃ K, 48 * k = K := ⟨_, rfl⟩
    rw [hK]
    have c1 : wr.cell? ⟨Bs, 0, none⟩ = some (.slice a len cap) := (HK.out.cell HS.out).trans hBs
    have c2 : wr.cell? ⟨Bn, 0, none⟩ = some (.int .i64 48) := (HK.out.cell HS'.out).trans hBn
    by_cases hlt : K < len
    · have hkm : k < m := by have := HM.out; omega
      have hlt' : decide ((K : Int) < (len : Int)) = true := by simp; omega
      obtain rfl : a = some ⟨b, off, none⟩ := by rcases HA.out with h | h; omega; exact h
      have hKK := Lib.hid hK
      obtain ⟨H, hH⟩ : ∃ H, min 48 (len - K) = H := ⟨_, rfl⟩
      have hHH := Lib.hid hH
      have d1 : ∀ y : Ext wr, y.1.cell? ⟨Bs, 0, none⟩ = some (.slice (some ⟨b, off, none⟩) len cap) := fun y => (y.2.cell (p := ⟨Bs, 0, none⟩) (Nat.lt_of_lt_of_le HLT.out HK.out.1)).trans c1
      have d2 : ∀ y : Ext wr, y.1.cell? ⟨Bn, 0, none⟩ = some (.int .i64 48) := fun y => (y.2.cell (p := ⟨Bn, 0, none⟩) (Nat.lt_of_lt_of_le HLT'.out HK.out.1)).trans c2
      have g1 : (K : Int) ≤ len := by omega
      have g2 : (len : Int) ≤ cap := by omega
      have hq : (len : Int) - (K : Int) = ((len - K : Nat) : Int) := by omega
      have hmin : ∀ (ts : Array TypeId) (t : TypeId) (W : World), (Builtin.min_ ts t #[.int .i64 48, .int .i64 ((len - K : Nat) : Int)]).run Try.prog W = .ok (.int .i64 (H : Int)) W := fun ts t W => by
        rw [run_min_int2, ← hH]
        congr 2
        split <;> omega
      have hH1 : H ≤ 48 := by omega
      have hH2 : K + H ≤ len := by omega
      have hH0 : 0 < H := by omega
      have hKc : K < cap := by omega
      clear hH hBn hBs h0
      gi_wp2_with fail
      refine wpIn_wide.2 ?_
      refine region_plan (fun x => ∃ y : Ext wr, x = y.1) 6 (.takes [0, 1, 2, 3, 4] (.one 5 .leaf)) hmo (by kernel_rfl) (by intro c x v a w h; cases x <;> exact h) ⟨⟨wr.drew, (Below.refl _ wr).drew⟩, rfl⟩ ?_
      repeat (rw [wpPlan_takes_cons]; simp only [nth_zero, nth_succ]; go_big_quiet_step (fail); refine wpQuiet_nil ?_)
      rw [wpPlan_takes_nil, wpPlan_one]
      simp only [nth_zero, nth_succ]
      go_wp2_with fail
      refine planPost_mk ⟨⟨wr.drew, (Below.refl _ wr).drew⟩, rfl⟩ ?_
      rw [wpPlan_leaf]
      simp only [List.drop_succ_cons, List.drop_zero]
      clear hmin d1 d2
      have c1' : wr.drew.cell? ⟨Bs, 0, none⟩ = some (.slice (some ⟨b, off, none⟩) len cap) := c1
      have c2' : wr.drew.cell? ⟨Bn, 0, none⟩ = some (.int .i64 48) := c2
      have HJ : J (upto m k) wr.drew := hJd _ _ hJs
      obtain ⟨fn, tmps, assign, body, hy, hR⟩ := hY _ ⟨k, hkm⟩ wr.drew HJ (by rw [upto_length m k hk]; exact hkm)
      unfold encC at hy
      dsimp only at hy
      rw [hKK.out, hHH.out] at hy
      go_wp2_with fail
      gi_wp2_with fail
      refine hR.mono ?_
      rintro e W3 (⟨rfl, hJ3, hk3⟩ | ⟨rfl, hJx3⟩)
      · have c3 : W3.cell? ⟨Bn, 0, none⟩ = some (.int .i64 48) := (hk3.cell HS'.out).trans c2'
        have HK3 : Hid (KpC S W W3) := kpC_t (kpC_t HK.out (⟨Nat.le_refl _, fun _ _ => rfl⟩ : KpC S wr wr.drew)) hk3
        clear hk3
        gi_wp2_with fail
        go_roundw
        case rel => exact ⟨k + 1, by omega, by have := hKK.out; go_num, by rw [upto_succ m k hkm]; exact hJ3, HK3⟩
        case measure => have := hKK.out; simp [intOf]; omega
      · gi_wp2_with fail
        refine bodyPost_ret (results_none rfl _ _ _) rfl ?_
        exact ⟨⟨_, rfl⟩, .inr ⟨_, ⟨k + 1, by omega, (upto_succ m k hkm).symm⟩, hJx3⟩⟩
    · have hlt' : decide ((K : Int) < (len : Int)) = false := by simp; omega
      obtain rfl : k = m := by have := HM.out; omega
      clear hK
      gi_wp2_with fail
      go_end0
      exact ⟨⟨_, rfl⟩, .inl ⟨_, rfl, by rw [← upto_all]; exact hJs⟩⟩
end Go.Proofs.Ytnngebnnehokdaa
