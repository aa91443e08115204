/- Plain facts on chains of snapshots; no program is named here. -/
import Derived.Test.YtiidfffedoekiaaBiMath
import Derived.Test.YtiidfffedoekiaaTbMath
namespace Go.Proofs.Ytiidfffedoekiaa
open Go.RowKit
set_option linter.unusedVariables false

/-- A snapshot: its Id, what changed, where its blocks stand. -/
structure SN where
  id : Int
  ch : List Int
  tb : List (Int × Int)
structure SN.Ok (s : SN) : Prop where
  id : Is64 s.id
  ch : IsBytes s.ch
  tb : Is64s s.tb
/-- None is longer than this. -/
def Lens (K : Nat) (l : List SN) : Prop := l.length ≤ K ∧ ∀ s ∈ l, s.ch.length ≤ K ∧ s.tb.length ≤ K

theorem drop_at {α : Type} {l : List α} {k : Nat} {s : α} (h : l[k]? = some s) : l.drop k = s :: l.drop (k + 1) := by
  obtain ⟨hk, hp⟩ := List.getElem?_eq_some_iff.1 h
  rw [List.drop_eq_getElem_cons hk, hp]
theorem take_at {α : Type} {l : List α} {k : Nat} {s : α} (h : l[k]? = some s) : l.take (k + 1) = l.take k ++ [s] := by
  rw [List.take_add_one, h]; rfl

/-! Index -/
def firstId : List SN → Int → Nat → Int
  | [], _, _ => -1
  | s :: l, id, k => if s.id = id then (k : Int) else firstId l id (k + 1)
def cIndex (l : List SN) (id : Int) : Int := firstId l id 0
theorem firstId_at {l : List SN} {id : Int} {k : Nat} {s : SN} (h : l[k]? = some s) : firstId (l.drop k) id k = if s.id = id then (k : Int) else firstId (l.drop (k + 1)) id (k + 1) := by
  rw [drop_at h]; rfl
theorem firstId_end {l : List SN} {id : Int} {k : Nat} (h : l.length ≤ k) : firstId (l.drop k) id k = -1 := by
  rw [List.drop_of_length_le h]; rfl

/-! Holder -/
def firstT : List SN → Int → Option Int
  | [], _ => none
  | s :: l, b => if (tFind s.tb b).isSome then some (tAt s.tb b) else firstT l b
def cHold (l : List SN) (i b : Int) : Option Int := if i < 0 then none else firstT (l.drop i.toNat) b
theorem firstT_at {l : List SN} {b : Int} {k : Nat} {s : SN} (h : l[k]? = some s) : firstT (l.drop k) b = if (tFind s.tb b).isSome then some (tAt s.tb b) else firstT (l.drop (k + 1)) b := by
  rw [drop_at h]; rfl
theorem firstT_end {l : List SN} {b : Int} {k : Nat} (h : l.length ≤ k) : firstT (l.drop k) b = none := by
  rw [List.drop_of_length_le h]; rfl

/-! Changed -/
def chB (l : List SN) : List Int := l.foldl (fun a s => orB a s.ch) []
theorem chB_snoc (l : List SN) (s : SN) : chB (l ++ [s]) = orB (chB l) s.ch := by unfold chB; rw [List.foldl_append]; rfl
/-- Where they begin and end, as far as they exist. -/
def loOf (i : Int) : Nat := i.toNat
def hiOf (l : List SN) (j : Int) : Nat := if j < (l.length : Int) then j.toNat else l.length
theorem hiOf_le (l : List SN) (j : Int) : hiOf l j ≤ l.length := by unfold hiOf; split <;> omega
def cChg (l : List SN) (i j : Int) : List Int := chB ((l.take (hiOf l j)).drop (loOf i))
theorem chB_bytes : ∀ (l : List SN), (∀ s ∈ l, IsBytes s.ch) → IsBytes (chB l) := by
  intro l
  have key : ∀ (l : List SN) (a : List Int), IsBytes a → (∀ s ∈ l, IsBytes s.ch) → IsBytes (l.foldl (fun a s => orB a s.ch) a) := by
    intro l
    induction l with
    | nil => intro a h _; exact h
    | cons s l ih => intro a h h2; exact ih _ (or_bytes h (h2 s (List.mem_cons_self ..))) fun t ht => h2 t (List.mem_cons_of_mem _ ht)
  exact key l [] fun j => by simp
theorem chB_len {K : Nat} : ∀ (l : List SN), (∀ s ∈ l, s.ch.length ≤ K) → (chB l).length ≤ K := by
  intro l
  have key : ∀ (l : List SN) (a : List Int), a.length ≤ K → (∀ s ∈ l, s.ch.length ≤ K) → (l.foldl (fun a s => orB a s.ch) a).length ≤ K := by
    intro l
    induction l with
    | nil => intro a h _; exact h
    | cons s l ih => intro a h h2; exact ih _ (by rw [or_length]; have := h2 s (List.mem_cons_self ..); omega) fun t ht => h2 t (List.mem_cons_of_mem _ ht)
  exact key l [] (Nat.zero_le _)

/-! Good -/
def fitS (s : SN) (bl ar : Int) : Bool := goodB s.ch bl && (tGood s.tb bl ar && s.tb.all fun p => hasB s.ch p.1)
def fullS (s : SN) : Bool := decide ((allB s.ch).length = s.tb.length)
def cRise (bl ar : Int) : Int → List SN → Bool
  | _, [] => true
  | last, s :: l => decide (last < s.id) && (decide (s.id ≤ 1000000) && (fitS s bl ar && ((decide (l.length = 0) || fullS s) && cRise bl ar s.id l)))
theorem cRise_cons (bl ar last : Int) (s : SN) (l : List SN) : cRise bl ar last (s :: l) = (decide (last < s.id) && (decide (s.id ≤ 1000000) && (fitS s bl ar && ((decide (l.length = 0) || fullS s) && cRise bl ar s.id l)))) := rfl
def cAts (l : List SN) : List Int := (l.map fun s => s.tb.map (·.2)).flatten
def cGood (l : List SN) (bl ar : Int) : Bool := decide (l.length ≤ 8) && (cRise bl ar 0 l && decide (cAts l).Nodup)
theorem cAts_snoc (l : List SN) (s : SN) : cAts (l ++ [s]) = cAts l ++ s.tb.map (·.2) := by unfold cAts; simp
theorem cAts_append (l m : List SN) : cAts (l ++ m) = cAts l ++ cAts m := by unfold cAts; simp
theorem cRise_at {l : List SN} {k : Nat} {s : SN} (h : l[k]? = some s) (bl ar last : Int) : cRise bl ar last (l.drop k) = (decide (last < s.id) && (decide (s.id ≤ 1000000) && (fitS s bl ar && ((decide (l.length ≤ k + 1) || fullS s) && cRise bl ar s.id (l.drop (k + 1)))))) := by
  rw [drop_at h]
  rw [cRise_cons, List.length_drop, show decide (l.length - (k + 1) = 0) = decide (l.length ≤ k + 1) from by congr 1; simp; omega]
theorem cRise_end {l : List SN} {k : Nat} (h : l.length ≤ k) (bl ar last : Int) : cRise bl ar last (l.drop k) = true := by
  rw [List.drop_of_length_le h]; rfl
theorem cAts_len {K : Nat} : ∀ (l : List SN), (∀ s ∈ l, s.tb.length ≤ K) → (cAts l).length ≤ l.length * K
  | [], _ => by simp [cAts]
  | s :: l, h => by
    have := cAts_len l fun t ht => h t (List.mem_cons_of_mem _ ht)
    have h1 := h s (List.mem_cons_self ..)
    show (((s :: l).map fun s => s.tb.map (·.2)).flatten).length ≤ _
    rw [List.map_cons, List.flatten_cons, List.length_append, List.length_map, List.length_cons]
    rw [Nat.add_mul]
    unfold cAts at this
    omega

/-! Drop and Cut -/
def joinS (s t : SN) : SN := ⟨s.id, orB s.ch t.ch, tKeep s.tb s.tb t.tb⟩
def emptyS (s : SN) : SN := ⟨s.id, List.replicate s.ch.length 0, []⟩
def zeroS : SN := ⟨0, [], []⟩
def dropAt (l : List SN) : Nat → List SN
  | 0 => l.drop 1
  | m + 1 => l.take m ++ joinS (l[m]?.getD zeroS) (l[m + 1]?.getD zeroS) :: l.drop (m + 2)
theorem dropAt_succ (l : List SN) (m : Nat) : dropAt l (m + 1) = l.take m ++ joinS (l[m]?.getD zeroS) (l[m + 1]?.getD zeroS) :: l.drop (m + 2) := rfl
theorem dropAt_zero (l : List SN) : dropAt l 0 = l.drop 1 := rfl
def cDrop (l : List SN) (i : Int) : List SN := if 0 ≤ i ∧ i < (l.length : Int) then dropAt l i.toNat else l
def cCut (l : List SN) (i : Int) : List SN := if 0 ≤ i ∧ i < (l.length : Int) then l.take i.toNat ++ [emptyS (l[i.toNat]?.getD zeroS)] else l
theorem dropAt_snoc {a : List SN} (s : SN) {n : Nat} (h : n < a.length) : dropAt (a ++ [s]) n = dropAt a n ++ [s] := by
  cases n with
  | zero => unfold dropAt; rw [List.drop_append_of_le_length (by omega)]
  | succ m =>
    rw [dropAt_succ, dropAt_succ, List.take_append_of_le_length (by omega), List.getElem?_append_left (by omega), List.getElem?_append_left h, List.drop_append_of_le_length (by omega)]
    simp
theorem cDrop_other {a : List SN} (s : SN) {i : Int} (h : i ≠ (a.length : Int)) : cDrop (a ++ [s]) i = cDrop a i ++ [s] := by
  unfold cDrop
  by_cases h1 : 0 ≤ i ∧ i < (a.length : Int)
  · rw [if_pos h1, if_pos (by rw [List.length_append]; simp; omega), dropAt_snoc s (by omega)]
  · rw [if_neg h1, if_neg (by rw [List.length_append]; simp; omega)]
theorem cDrop_here {a : List SN} (s : SN) (h : a.length ≠ 0) : cDrop (a ++ [s]) (a.length : Int) = a.set (a.length - 1) (joinS (a[a.length - 1]?.getD zeroS) s) := by
  unfold cDrop
  rw [if_pos (by rw [List.length_append]; simp; omega), Int.toNat_natCast]
  obtain ⟨m, hm⟩ : ∃ m, a.length = m + 1 := ⟨a.length - 1, by omega⟩
  rw [hm, dropAt_succ, List.take_append_of_le_length (by omega), List.getElem?_append_left (by omega), List.getElem?_append_right (by omega), hm, Nat.sub_self, List.drop_of_length_le (by simp; omega)]
  apply List.ext_getElem?
  intro j
  rw [List.getElem?_set, Nat.add_sub_cancel]
  by_cases h1 : j < m
  · rw [List.getElem?_append_left (by rw [List.length_take]; omega), List.getElem?_take, if_pos h1, if_neg (by omega)]
  · rw [List.getElem?_append_right (by rw [List.length_take]; omega), List.length_take, Nat.min_eq_left (by omega)]
    by_cases h2 : j = m
    · subst h2; simp; omega
    · rw [if_neg (by omega), List.getElem?_eq_none (by simp; omega), List.getElem?_eq_none (by omega)]
theorem cDrop_first (s : SN) : cDrop [s] 0 = [] := rfl
theorem cDrop_len (l : List SN) (i : Int) : (cDrop l i).length ≤ l.length := by
  unfold cDrop
  split
  · cases hh : i.toNat with
    | zero => rw [dropAt_zero]; simp
    | succ m => rw [dropAt_succ]; simp; omega
  · exact Nat.le_refl _
/-- Ahead of the one that goes all stay. -/
theorem cDrop_before {a : List SN} {i : Int} (h : i < 0 ∨ (a.length : Int) ≤ i) : cDrop a i = a := by
  unfold cDrop; rw [if_neg (by omega)]
theorem cCut_other {a : List SN} (s : SN) {i : Int} (h : i < 0 ∨ (a.length : Int) < i) : cCut (a ++ [s]) i = a ++ [s] := by
  unfold cCut; rw [if_neg (by rw [List.length_append]; simp; omega)]
theorem cCut_before {a : List SN} {i : Int} (h : i < 0 ∨ (a.length : Int) ≤ i) : cCut a i = a := by
  unfold cCut; rw [if_neg (by omega)]
theorem cCut_at {l : List SN} {k : Nat} {s : SN} (h : l[k]? = some s) : cCut l (k : Int) = l.take k ++ [emptyS s] := by
  obtain ⟨hk, -⟩ := List.getElem?_eq_some_iff.1 h
  unfold cCut; rw [if_pos (by omega), Int.toNat_natCast, h]; rfl
theorem cCut_behind {l : List SN} {i : Int} {k : Nat} (h0 : 0 ≤ i) (h1 : i < (k : Int)) (h2 : k ≤ l.length) : cCut (l.take k) i = cCut l i := by
  unfold cCut
  rw [if_pos (by rw [List.length_take]; omega), if_pos (by omega), List.take_take, Nat.min_eq_left (by omega), List.getElem?_take, if_pos (by omega)]
end Go.Proofs.Ytiidfffedoekiaa
