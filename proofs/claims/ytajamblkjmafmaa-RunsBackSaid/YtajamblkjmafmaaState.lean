/- What a disk holds, without a program: sectors, and of each its versions. -/
import Derived.Test.YtajamblkjmafmaaBlk
namespace Go.Proofs.Ytajamblkjmafmaa
open Go.RowKit
set_option linter.unusedVariables false

theorem next_rel {n k : Nat} {C : Nat → Prop} (h : wrap64 ((k : Int) + 1) = (k : Int) + 1) (hk : k < n) (hC : C (k + 1)) : ∃ k' : Nat, k' ≤ n ∧ Value.int .i64 (wrap64 ((k : Int) + 1)) = Value.int .i64 (k' : Int) ∧ C k' :=
  ⟨k + 1, hk, by rw [h]; simp, hC⟩
theorem next_lt {n k : Nat} (h : wrap64 ((k : Int) + 1) = (k : Int) + 1) (hk : k < n) : n - (intOf (Value.int .i64 (wrap64 ((k : Int) + 1)))).toNat < n - (intOf (Value.int .i64 (k : Int))).toNat := by
  rw [h]
  simp only [intOf]
  omega

/-- A sector. -/
structure Sec where
  c : List Value
  vs : List (List Value)

def Sec.Ok (s : Sec) : Prop := IsBlk s.c ∧ ∀ v ∈ s.vs, IsBlk v
/-- What it yields. -/
def Sec.look (s : Sec) : List Value := s.vs.getLast?.getD s.c
/-- One version more; of many those between are dropped. -/
def Sec.add (s : Sec) (b : List Value) : Sec := if 255 < s.vs.length then ⟨s.c, s.vs.set 255 b⟩ else ⟨s.c, s.vs ++ [b]⟩
/-- The k-th version, counted from 1, is what it contains. -/
def Sec.settle (s : Sec) (k : Nat) : Sec := ⟨if k = 0 then s.c else s.vs[k - 1]?.getD s.c, []⟩

theorem Sec.Ok.look {s : Sec} (h : s.Ok) : IsBlk s.look := by
  unfold Sec.look
  cases e : s.vs.getLast? with
  | none => exact h.1
  | some v => exact h.2 v (List.mem_of_getLast? e)
theorem Sec.Ok.add {s : Sec} {b : List Value} (h : s.Ok) (hb : IsBlk b) : (s.add b).Ok := by
  unfold Sec.add
  split
  · exact ⟨h.1, fun v hv => by rcases List.mem_or_eq_of_mem_set hv with h' | rfl; exact h.2 v h'; exact hb⟩
  · exact ⟨h.1, fun v hv => by rcases List.mem_append.1 hv with h' | h'; exact h.2 v h'; rw [List.mem_singleton.1 h']; exact hb⟩
theorem Sec.Ok.settle {s : Sec} {k : Nat} (h : s.Ok) : (s.settle k).Ok := by
  refine ⟨?_, fun v hv => by cases hv⟩
  unfold Sec.settle
  dsimp only
  split
  · exact h.1
  · cases e : s.vs[k - 1]? with
    | none => exact h.1
    | some v => exact h.2 v (List.mem_of_getElem? e)
theorem Sec.look_none {s : Sec} (h : s.vs = []) : s.look = s.c := by simp [Sec.look, h]
theorem Sec.look_some {s : Sec} (h : s.vs ≠ []) : s.look = s.vs[s.vs.length - 1]?.getD s.c := by
  unfold Sec.look
  rw [List.getLast?_eq_getElem?]

/-- Rows of 64 cells, one behind the other. -/
theorem flat_length {vs : List (List Value)} (h : ∀ v ∈ vs, IsBlk v) : vs.flatten.length = vs.length * 64 := by
  induction vs with
  | nil => simp
  | cons x l ih =>
    rw [List.flatten_cons, List.length_append, ih (fun v hv => h v (by simp [hv])), (h x (by simp)).length, List.length_cons]
    omega
theorem flat_get {vs : List (List Value)} (h : ∀ v ∈ vs, IsBlk v) {k : Nat} {v : List Value} (hk : vs[k]? = some v) (j : Nat) (hj : j < 64) : vs.flatten[k * 64 + j]? = v[j]? := by
  induction vs generalizing k with
  | nil => simp at hk
  | cons x l ih =>
    have hx := (h x (by simp)).length
    cases k with
    | zero =>
      obtain rfl : x = v := by simpa using hk
      rw [List.flatten_cons, List.getElem?_append_left (by omega)]
      simp
    | succ k =>
      rw [List.flatten_cons, List.getElem?_append_right (by omega), hx, show (k + 1) * 64 + j - 64 = k * 64 + j by omega]
      exact ih (fun v hv => h v (by simp [hv])) (by simpa using hk)
theorem flat_snoc (vs : List (List Value)) (b : List Value) : (vs ++ [b]).flatten = vs.flatten ++ b := by simp
theorem flat_set {vs : List (List Value)} (h : ∀ v ∈ vs, IsBlk v) {k : Nat} (hk : k < vs.length) {b : List Value} (hb : IsBlk b) : (vs.set k b).flatten = vs.flatten.take (k * 64) ++ b ++ vs.flatten.drop (k * 64 + 64) := by
  induction vs generalizing k with
  | nil => simp at hk
  | cons x l ih =>
    have hx := (h x (by simp)).length
    cases k with
    | zero =>
      simp only [List.set_cons_zero, List.flatten_cons, Nat.zero_mul, List.take_zero, List.nil_append, Nat.zero_add]
      rw [List.drop_append, hx]
      simp [hx]
    | succ k =>
      have e1 : x.take ((k + 1) * 64) = x := List.take_of_length_le (by omega)
      have e2 : x.drop ((k + 1) * 64 + 64) = [] := List.drop_of_length_le (by omega)
      rw [List.set_cons_succ, List.flatten_cons, ih (fun v hv => h v (by simp [hv])) (by simpa using hk), List.flatten_cons, List.take_append, hx, List.drop_append, hx,
        show (k + 1) * 64 - 64 = k * 64 by omega, show (k + 1) * 64 + 64 - 64 = k * 64 + 64 by omega, e1, e2]
      simp

/-- Another one at i. -/
def upd {α : Type} (D : Nat → α) (i : Nat) (s : α) : Nat → α := fun j => if j = i then s else D j
theorem upd_same {α : Type} (D : Nat → α) (i : Nat) (s : α) : upd D i s i = s := if_pos rfl
theorem upd_other {α : Type} (D : Nat → α) {i j : Nat} (s : α) (h : j ≠ i) : upd D i s j = D j := if_neg h
end Go.Proofs.Ytajamblkjmafmaa
