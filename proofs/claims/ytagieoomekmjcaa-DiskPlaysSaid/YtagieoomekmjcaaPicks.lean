/- What DiskPicks' disk holds. -/
import Derived.Test.YtagieoomekmjcaaAt
namespace Go.Proofs.Ytagieoomekmjcaa
open Go.RowKit
set_option linter.unusedVariables false

theorem take_more (bs : List Int) {k : Nat} (h : k < bs.length) : bs.take (k + 1) = bs.take k ++ [bs[k]?.getD 0] := by
  rw [List.take_succ_eq_append_getElem h, List.getElem?_eq_getElem h]; rfl

/-- Sector 1 contains c, and has these versions. -/
def pD (c : Int) (xs : List Int) : Nat → Sec := upd (fun _ => zsec) 1 ⟨fillB c, xs.map fillB⟩
theorem pD_one (c : Int) (xs : List Int) : pD c xs 1 = ⟨fillB c, xs.map fillB⟩ := upd_same _ _ _
theorem pD_other (c : Int) (xs : List Int) {j : Nat} (h : j ≠ 1) : pD c xs j = zsec := upd_other _ _ h
theorem pD_loose (c : Int) (xs : List Int) (h : xs ≠ []) : looseTo (pD c xs) 3 = [1] := by
  cases xs with
  | nil => exact absurd rfl h
  | cons x l => rfl
theorem pD_tight (c : Int) : looseTo (pD c []) 3 = [] := by rfl
theorem pD_add (c : Int) (xs : List Int) (x : Int) (h : xs.length ≤ 255) : upd (pD c xs) 1 ((pD c xs 1).add (fillB x)) = pD c (xs ++ [x]) := by
  funext j
  by_cases e : j = 1
  · subst e
    rw [upd_same, pD_one, pD_one]
    unfold Sec.add
    rw [if_neg (by simp; omega)]
    simp
  · rw [upd_other _ _ e, pD_other _ _ e, pD_other _ _ e]
theorem pD_settle (c c' : Int) (xs : List Int) (g : Nat → Nat) (h : xs ≠ []) (hc : ((pD c xs 1).settle (g 1)).c = fillB c') : settled (pD c xs) g (looseTo (pD c xs) 3) = pD c' [] := by
  rw [pD_loose _ _ h]
  funext j
  by_cases e : j = 1
  · subst e
    rw [settled_yes (by simp), pD_one c' []]
    rw [← hc]
    rfl
  · rw [settled_not (by simp [e]), pD_other _ _ e, pD_other _ _ e]
theorem pD_start : (upd (fun _ => zsec) 1 (zsec.add (fillB 200)) : Nat → Sec) = pD 0 [200] := by
  funext j
  by_cases e : j = 1
  · subst e; rw [upd_same, pD_one]; rfl
  · rw [upd_other _ _ e, pD_other _ _ e]
theorem pD_crash (c : Int) (xs : List Int) (y : Int) : crashG (pD c xs) [y] 1 = y.toNat % (xs.length + 1) := by
  unfold crashG
  rw [show looseTo (pD c xs) 1 = [] from rfl, pD_one]
  simp [crashK]
end Go.Proofs.Ytagieoomekmjcaa
