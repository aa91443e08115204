/- Flush. -/
import Derived.Test.YtlpmikbplngmnaaLooseBy
namespace Go.Proofs.Ytlpmikbplngmnaa
open Go.RowKit Go.Shelf
set_option linter.unusedVariables false
attribute [-go_sem] loadVar storeVar
attribute [local go_sem] Oper.semAt_some

open Classical in
/-- Those of pre are settled. -/
noncomputable def settled (D : Nat → Sec) (g : Nat → Nat) (pre : List Nat) : Nat → Sec := fun j => if j ∈ pre then (D j).settle (g j) else D j
theorem settled_nil (D : Nat → Sec) (g : Nat → Nat) : settled D g [] = D := by funext j; simp [settled]
theorem settled_not {D : Nat → Sec} {g : Nat → Nat} {pre : List Nat} {j : Nat} (h : j ∉ pre) : settled D g pre j = D j := if_neg h
theorem settled_yes {D : Nat → Sec} {g : Nat → Nat} {pre : List Nat} {j : Nat} (h : j ∈ pre) : settled D g pre j = (D j).settle (g j) := if_pos h
theorem settled_snoc (D : Nat → Sec) (g : Nat → Nat) (pre : List Nat) (x : Nat) : settled D g (pre ++ [x]) = upd (settled D g pre) x ((D x).settle (g x)) := by
  funext j
  by_cases e : j = x
  · subst e; rw [upd_same, settled_yes (by simp)]
  · rw [upd_other _ _ e]
    by_cases h : j ∈ pre
    · rw [settled_yes h, settled_yes (by simp [h])]
    · rw [settled_not h, settled_not (by simp [h, e])]
theorem not_mem_self (D : Nat → Sec) (x : Nat) : x ∉ looseTo D x := fun h => by have := looseTo_lt h; omega

theorem Turn.kept {f f' : Nat → Prop} {w W W' : World} {row : Option Nat} (h : Turn f f' w W) (hg : W.grownBy W' row) (hr : ∀ r, row = some r → w.heap.size ≤ r) : Turn f f' w W' := by
  have hb : ∀ k, k < w.heap.size → W'.heap[k]? = W.heap[k]? := fun k hk => hg.block k (Nat.lt_of_lt_of_le hk h.size) (fun e => by have := hr k e.symm; omega)
  exact ⟨still_trans h.still ⟨hg.os, hg.tape, hg.output⟩, ⟨Nat.le_trans h.size hg.size, fun k o hk ho => (hb k (Array.getElem?_eq_some_iff.1 hk).1).trans (h.others.same k o hk ho)⟩,
    fun k hk hn => (hb k hk).trans (h.out k hk hn), h.new⟩

end Go.Proofs.Ytlpmikbplngmnaa
