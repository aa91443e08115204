/- Plain facts on a set that numbers are put in one by one. -/
import Derived.Test.YthehgpmggnnppaaBiMath
namespace Go.Proofs.Ythehgpmggnnppaa
open Go.RowKit
set_option linter.unusedVariables false

def modL (ls : List Int) (size : Nat) : List Nat := ls.map fun x => x.toNat % size
def sAt (ls : List Int) (size k : Nat) : List Int := ((modL ls size).take k).foldl (fun (s : List Int) (j : Nat) => withB s (j : Int)) (List.replicate (sizeB (size : Int)) 0)
def inAt (ls : List Int) (size i k : Nat) : Bool := ((modL ls size).take k).any (· == i)

theorem modL_get (ls : List Int) (size k : Nat) (h : k < ls.length) : (modL ls size)[k]? = some ((ls[k]?.getD 0).toNat % size) := by
  unfold modL
  rw [List.getElem?_map, List.getElem?_eq_getElem h]
  rfl
theorem take_modL (ls : List Int) (size k : Nat) (h : k < ls.length) : (modL ls size).take (k + 1) = (modL ls size).take k ++ [(ls[k]?.getD 0).toNat % size] := by
  have hl : k < (modL ls size).length := by simpa [modL] using h
  rw [List.take_succ_eq_append_getElem hl]
  have := modL_get ls size k h
  rw [List.getElem?_eq_getElem hl] at this
  rw [Option.some.inj this]
theorem sAt_zero (ls : List Int) (size : Nat) : sAt ls size 0 = List.replicate (sizeB (size : Int)) 0 := rfl
theorem sAt_succ (ls : List Int) (size k : Nat) (h : k < ls.length) : sAt ls size (k + 1) = withB (sAt ls size k) (((ls[k]?.getD 0).toNat % size : Nat) : Int) := by
  unfold sAt
  rw [take_modL ls size k h, List.foldl_append]
  rfl
theorem inAt_succ (ls : List Int) (size i k : Nat) (h : k < ls.length) : inAt ls size i (k + 1) = (inAt ls size i k || ((ls[k]?.getD 0).toNat % size == i)) := by
  unfold inAt
  rw [take_modL ls size k h, List.any_append]
  simp
theorem fold_len (l : List Nat) : ∀ s : List Int, (l.foldl (fun (s : List Int) (j : Nat) => withB s (j : Int)) s).length = s.length := by
  induction l with
  | nil => intro s; rfl
  | cons x l ih => intro s; rw [List.foldl_cons, ih, with_length]
theorem fold_bytes (l : List Nat) : ∀ s : List Int, IsBytes s → IsBytes (l.foldl (fun (s : List Int) (j : Nat) => withB s (j : Int)) s) := by
  induction l with
  | nil => intro s h; exact h
  | cons x l ih => intro s h; rw [List.foldl_cons]; exact ih _ (with_bytes h _)
theorem fold_bit (l : List Nat) (N : Nat) (hl : ∀ x ∈ l, x / 8 < N) (i : Nat) : ∀ s : List Int, s.length = N → bitAt (l.foldl (fun (s : List Int) (j : Nat) => withB s (j : Int)) s) i = (bitAt s i || l.any (· == i)) := by
  induction l with
  | nil => intro s h; simp
  | cons x l ih =>
    intro s h
    rw [List.foldl_cons, ih (fun y hy => hl y (by simp [hy])) _ (by rw [with_length, h]), with_bit, List.any_cons]
    have hx := hl x (by simp)
    have hd : decide (0 ≤ (x : Int) ∧ (x : Int) / 8 < s.length) = true := by
      rw [h]; exact decide_eq_true ⟨by omega, by omega⟩
    rw [hd, Bool.true_and, Int.toNat_natCast, Bool.or_assoc]
    congr 2
    rw [Bool.eq_iff_iff]
    simp only [beq_iff_eq]
    exact ⟨fun h => h.symm, fun h => h.symm⟩
theorem zeros_bytes (n : Nat) : IsBytes (List.replicate n 0) := fun j => by
  by_cases h : j < n
  · simp [h]
  · simp [h]
theorem zeros_bit (n i : Nat) : bitAt (List.replicate n 0) i = false := by
  unfold bitAt
  by_cases h : i / 8 < n
  · simp [h]
  · simp [h]
theorem sAt_len (ls : List Int) (size k : Nat) : (sAt ls size k).length = sizeB (size : Int) := by unfold sAt; rw [fold_len, List.length_replicate]
theorem sAt_bytes (ls : List Int) (size k : Nat) : IsBytes (sAt ls size k) := fold_bytes _ _ (zeros_bytes _)
theorem size_room (size : Nat) (h1 : 1 ≤ size) (h2 : size ≤ 256) (x : Nat) (hx : x < size) : x / 8 < sizeB (size : Int) := by
  unfold sizeB
  rw [if_neg (by omega)]
  omega
theorem sAt_bit (ls : List Int) (size k : Nat) (h1 : 1 ≤ size) (h2 : size ≤ 256) (i : Nat) : bitAt (sAt ls size k) i = inAt ls size i k := by
  unfold sAt
  rw [fold_bit _ (sizeB (size : Int)) (fun x hx => ?_) i _ (by rw [List.length_replicate]), zeros_bit, Bool.false_or]
  · rfl
  · have := List.mem_of_mem_take hx
    obtain ⟨y, _, rfl⟩ := List.mem_map.1 this
    exact size_room size h1 h2 _ (Nat.mod_lt _ h1)
theorem sAt_good (ls : List Int) (size k : Nat) (h1 : 1 ≤ size) (h2 : size ≤ 256) : goodB (sAt ls size k) (size : Int) = true := by
  unfold goodB
  rw [sAt_len, decide_eq_true rfl, Bool.true_and, List.all_eq_true]
  intro y hy
  have hb := mem_all.1 hy
  rw [sAt_bit ls size k h1 h2, inAt, List.any_eq_true] at hb
  obtain ⟨z, hz, e⟩ := hb
  have e' : z = y := by simpa using e
  subst e'
  have := List.mem_of_mem_take hz
  obtain ⟨x, _, rfl⟩ := List.mem_map.1 this
  exact decide_eq_true (by have := Nat.mod_lt x.toNat h1; omega)
theorem inAt_all (ls : List Int) (size i : Nat) : inAt ls size i ls.length = (modL ls size).any (· == i) := by
  unfold inAt
  rw [List.take_of_length_le (by simp [modL])]
end Go.Proofs.Ythehgpmggnnppaa
