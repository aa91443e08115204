/- The range function of package le has its contract: each place below the bound comes, with its shift, in order. -/
import Derived.RangeFuncNested
import Derived.RangeFuncBound
import Derived.RangeFuncCalls
import Derived.RangeFuncLeaves
import Derived.Shelf.Abstract
import Derived.Shelf.RegionOpen
import Derived.WalkKit
import Derived.OwnWalkIn
import Derived.TacticsInMore
import Derived.LoopNIn
import Derived.LoopIn
import Derived.Test.YtnngebnnehokdaaProg
import Derived.Test.YtnngebnnehokdaaMath
namespace Go.Proofs.Ytnngebnnehokdaa
open Go.RowKit Go.Shelf
set_option linter.unusedVariables false

attribute [local go_sem] Oper.semAt_some

/-- What has come when k rounds are over: the first k places. -/
def upto (m k : Nat) : List (Fin m) := (List.finRange m).take k
theorem upto_succ (m k : Nat) (h : k < m) : upto m (k + 1) = upto m k ++ [⟨k, h⟩] := by
  unfold upto
  rw [List.take_succ_eq_append_getElem (by simpa using h)]
  simp
theorem upto_length (m k : Nat) (h : k ≤ m) : (upto m k).length = k := by simp [upto, h]
theorem upto_all (m : Nat) : upto m m = List.finRange m := by
  unfold upto; rw [List.take_of_length_le (by simp)]

def encP {m : Nat} (x : Fin m) : Array Value := #[.int .i64 (x.1 : Int), .int .u64 (8 * (x.1 : Int))]

set_option maxHeartbeats 1000000 in
theorem places_in (F : Fence) (n : Nat) (hf : F.fn 29) (hro : F.round = none) (size : Int) (w : World) :
    CallsIn F n Try.prog 29 #[.int .i64 size] w fun e w' => e = .returned (.func (.func 36) #[] #[.pointer (some ⟨w.heap.size, 0, none⟩)]) ∧ w' = w.alloc (.cells #[.int .i64 size] 3) := by
  refine callsIn_of_wp Try.func29 rfl hf ?_ hro
  simp only [Try.ntmps29, List.size_toArray, List.length_cons, List.length_nil, Nat.reduceAdd, Nat.reduceSub, Array.replicate_succ, Array.replicate_zero, List.push_toArray, List.append_toArray, List.nil_append, List.cons_append]
  gi_wp2
  go_ret
  exact ⟨rfl, rfl⟩

set_option maxRecDepth 100000 in
set_option maxHeartbeats 2000000 in
theorem places1_in (F : Fence) (n : Nat) (hf : F.fn 36) (hro : F.round = none) (hn : 1 ≤ n) (l Bs m : Nat) (size : Int) (hm : (size ≤ 8 ∧ m = size.toNat) ∨ (8 < size ∧ m = 8)) (J Jx : List (Fin m) → World → Prop)
    (hY : ∀ pre x W, J pre W → pre.length < m → YieldAt F (n - 1) Try.prog l (encP x) W fun e W' =>
      (e = .returned (.bool true) ∧ J (pre ++ [x]) W' ∧ True) ∨ (e = .returned (.bool false) ∧ Jx (pre ++ [x]) W'))
    (W : World) (hBs : W.cell? ⟨Bs, 0, none⟩ = some (.int .i64 size)) (h0 : J [] W) :
    CallsIn F n Try.prog 36 #[.func (.yield l) #[] #[], .pointer (some ⟨Bs, 0, none⟩)] W fun e W' => (∃ v, e = .returned v) ∧
      ((∃ ys, ys = List.finRange m ∧ J ys W') ∨ (∃ pre, (∃ k, k ≤ m ∧ pre = upto m k) ∧ Jx pre W')) := by
  refine callsIn_of_wp Try.func36 rfl hf ?_ hro
  simp only [Try.ntmps36, List.size_toArray, List.length_cons, List.length_nil, Nat.reduceAdd, Nat.reduceSub, Array.replicate_succ, Array.replicate_zero, List.push_toArray, List.append_toArray, List.nil_append, List.cons_append]
  gi_wp2
  all_goals
    gi_loopw [6] (fun i wr => ∃ k : Nat, k ≤ m ∧ i = .int .i64 k ∧ J (upto m k) wr) (fun i _ => m - (intOf i).toNat)
    case atStart => exact ⟨0, Nat.zero_le _, rfl, h0⟩
    case round =>
      obtain ⟨k, hk, rfl, hJs⟩ := hrel
      by_cases hlt : k < m
      · obtain ⟨fn, tmps, assign, body, hy, hR⟩ := hY _ ⟨k, hlt⟩ wr hJs (by rw [upto_length m k hk]; exact hlt)
        dsimp only [encP] at hy
        have hb1 : (k : Int) < size := by omega
        have hb2 : (k : Int) < 8 := by omega
        gi_wp2
        refine hR.mono ?_
        rintro e W3 (⟨rfl, hJ3, hk3⟩ | ⟨rfl, hJx3⟩)
        · gi_wp2
          go_roundw
          case rel => exact ⟨k + 1, by omega, by simp, by rw [upto_succ m k hlt]; exact hJ3⟩
          case measure => simp [intOf]; omega
        · gi_wp2
          refine bodyPost_ret (results_none rfl _ _ _) rfl ?_
          exact ⟨⟨_, rfl⟩, .inr ⟨_, ⟨k + 1, by omega, (upto_succ m k hlt).symm⟩, hJx3⟩⟩
      · obtain rfl : k = m := by omega
        gi_wp2
        go_end0
        exact ⟨⟨_, rfl⟩, .inl ⟨_, rfl, by rw [← upto_all]; exact hJs⟩⟩

/-- What a loop over the places may rely on: nothing but its own. -/
def AnyKp (_ _ : World) : Prop := True

theorem places_stops (F : Fence) (n : Nat) (hf : F.fn 36) (hro : F.round = none) (hn : 1 ≤ n) (Bs : Nat) (size : Int) (w : World) (hBs : Bs < w.heap.size)
    (hc : w.cell? ⟨Bs, 0, none⟩ = some (.int .i64 size)) :
    SeqStopsK F n Try.prog 36 #[.pointer (some ⟨Bs, 0, none⟩)] (encP (m := nPlaces size)) AnyKp (fun ys => ys = List.finRange (nPlaces size)) (fun _ => True) (nPlaces size) w := fun l J Jx W hW _ _ hY h0 =>
  (places1_in F n hf hro hn l Bs (nPlaces size) size (nPlaces_cases size) J Jx
    (fun pre x W hJ hl => (hY pre x W hJ hl).mono fun e W' h => h.imp (fun ⟨a, b, _⟩ => ⟨a, b, trivial⟩) id)
    W ((hW.cell (p := ⟨Bs, 0, none⟩) hBs).trans hc) h0).mono fun e W' ⟨he, h⟩ => ⟨he, h.imp id fun ⟨pre, _, hj⟩ => ⟨pre, trivial, hj⟩⟩

theorem anyKp_t {A B C : World} (_ : AnyKp A B) (_ : AnyKp B C) : AnyKp A C := trivial
end Go.Proofs.Ytnngebnnehokdaa
