/- Rows of pairs in memory: as they come in, and of one's own; appended, cut. -/
import Derived.Test.YtajamblkjmafmaaRowC
import Derived.Test.YtajamblkjmafmaaTbMath
import Derived.Test.YtajamblkjmafmaaInts
import Derived.Test.YtajamblkjmafmaaArgSl
import Derived.Test.YtajamblkjmafmaaOver
import Derived.Test.YtajamblkjmafmaaBytes
import Derived.Deep.MidRow
import Derived.Maps.AppendAt
import Derived.Deep.WholeRow
import Derived.Below
namespace Go.Proofs.Ytajamblkjmafmaa
open Go.RowKit
set_option linter.unusedVariables false

/-- The pairs' cells, one behind the other. -/
def pcs (l : List (Int × Int)) : List Value := l.flatMap fun p => [.int .i64 p.1, .int .i64 p.2]
theorem pcs_nil : pcs [] = [] := rfl
theorem pcs_cons (p : Int × Int) (l : List (Int × Int)) : pcs (p :: l) = .int .i64 p.1 :: .int .i64 p.2 :: pcs l := rfl
theorem pcs_append (a b : List (Int × Int)) : pcs (a ++ b) = pcs a ++ pcs b := by simp [pcs]
theorem pcs_length (l : List (Int × Int)) : (pcs l).length = l.length * 2 := by
  induction l with
  | nil => rfl
  | cons p l ih => rw [pcs_cons]; simp only [List.length_cons, ih]; omega
theorem pcs_get {l : List (Int × Int)} {j : Nat} {p : Int × Int} (h : l[j]? = some p) : (pcs l)[j * 2]? = some (.int .i64 p.1) ∧ (pcs l)[j * 2 + 1]? = some (.int .i64 p.2) := by
  induction l generalizing j with
  | nil => simp at h
  | cons q l ih =>
    rw [pcs_cons]
    cases j with
    | zero => simp at h; subst h; exact ⟨rfl, rfl⟩
    | succ j =>
      have := ih (j := j) (by simpa using h)
      rw [show (j + 1) * 2 = j * 2 + 1 + 1 by omega]
      simpa using this
theorem pcs_one {l : List (Int × Int)} : ∀ u ∈ pcs l, u.oneCell' = true := by
  intro u hu
  obtain ⟨p, hp, h⟩ := List.mem_flatMap.1 hu
  simp at h
  rcases h with rfl | rfl <;> rfl
theorem pcs_take (l : List (Int × Int)) (k : Nat) : (pcs l).take (k * 2) = pcs (l.take k) := by
  induction l generalizing k with
  | nil => simp [pcs]
  | cons p l ih =>
    cases k with
    | zero => simp [pcs]
    | succ k => rw [pcs_cons, show (k + 1) * 2 = k * 2 + 1 + 1 by omega, List.take_succ_cons, List.take_succ_cons, ih, List.take_succ_cons, pcs_cons]
theorem pcs_drop (l : List (Int × Int)) (k : Nat) : (pcs l).drop (k * 2) = pcs (l.drop k) := by
  induction l generalizing k with
  | nil => simp [pcs]
  | cons p l ih =>
    cases k with
    | zero => simp [pcs]
    | succ k => rw [pcs_cons, show (k + 1) * 2 = k * 2 + 1 + 1 by omega, List.drop_succ_cons, List.drop_succ_cons, ih, List.drop_succ_cons]
theorem pcs_set {l : List (Int × Int)} {k : Nat} (p : Int × Int) (h : k < l.length) : ((pcs l).set (k * 2) (.int .i64 p.1)).set (k * 2 + 1) (.int .i64 p.2) = pcs (l.set k p) := by
  induction l generalizing k with
  | nil => simp at h
  | cons q l ih =>
    cases k with
    | zero => rfl
    | succ k => rw [pcs_cons, show (k + 1) * 2 = k * 2 + 1 + 1 by omega, List.set_cons_succ, List.set_cons_succ, List.set_cons_succ, List.set_cons_succ, ih (by simpa using h), List.set_cons_succ, pcs_cons]
theorem pcs_of_cells {w : World} {b off : Nat} {l : List (Int × Int)} (h : ∀ j p, l[j]? = some p → w.cell? ⟨b, off + j * 2, none⟩ = some (.int .i64 p.1) ∧ w.cell? ⟨b, off + j * 2 + 1, none⟩ = some (.int .i64 p.2)) :
    ∀ j u, (pcs l)[j]? = some u → w.cell? ⟨b, off + j, none⟩ = some u := by
  intro j u hu
  have hj : j < l.length * 2 := by rw [← pcs_length]; exact (List.getElem?_eq_some_iff.1 hu).1
  have hk : j / 2 < l.length := by omega
  have hg := List.getElem?_eq_getElem hk
  obtain ⟨c1, c2⟩ := h _ _ hg
  obtain ⟨f1, f2⟩ := pcs_get hg
  rcases (show j = j / 2 * 2 ∨ j = j / 2 * 2 + 1 by omega) with e | e
  · rw [e] at hu ⊢
    rw [f1] at hu; cases hu
    exact c1
  · rw [e] at hu ⊢
    rw [f2] at hu; cases hu
    rw [show off + (j / 2 * 2 + 1) = off + j / 2 * 2 + 1 by omega]
    exact c2

/-- Pairs that lie somewhere. -/
def Prt (W : World) (v : Value) (l : List (Int × Int)) : Prop := ∃ a cap, v = .slice a l.length cap ∧ l.length ≤ cap ∧ cap ≤ maxLen ∧ Is64s l ∧ (a = none → cap = 0) ∧
  (l = [] ∨ ∃ b off, a = some ⟨b, off, none⟩ ∧ b < W.heap.size ∧ ∀ j p, l[j]? = some p → W.cell? ⟨b, off + j * 2, none⟩ = some (.int .i64 p.1) ∧ W.cell? ⟨b, off + j * 2 + 1, none⟩ = some (.int .i64 p.2))
theorem Prt.below {W W' : World} {v : Value} {l : List (Int × Int)} (h : Prt W v l) (hB : Below W.heap.size W W') : Prt W' v l := by
  obtain ⟨a, cap, rfl, h1, h2, h3, hz, h4⟩ := h
  refine ⟨a, cap, rfl, h1, h2, h3, hz, ?_⟩
  rcases h4 with h4 | ⟨b, off, rfl, h5, h6⟩
  · exact .inl h4
  · exact .inr ⟨b, off, rfl, Nat.lt_of_lt_of_le h5 hB.size, fun j p hj => ⟨(hB.cell (p := ⟨b, off + j * 2, none⟩) h5).trans (h6 j p hj).1, (hB.cell (p := ⟨b, off + j * 2 + 1, none⟩) h5).trans (h6 j p hj).2⟩⟩
theorem Prt.nil (W : World) : Prt W (.slice none 0 0) [] := ⟨none, 0, rfl, Nat.le_refl _, Nat.zero_le _, (fun p hp => by cases hp), (fun _ => rfl), .inl rfl⟩
theorem Prt.is {W : World} {v : Value} {l : List (Int × Int)} (h : Prt W v l) : Is64s l := by
  obtain ⟨a, cap, rfl, h1, h2, h3, -⟩ := h; exact h3
/-- One of them. -/
theorem Prt.at {W : World} {a : Option Addr} {n cap k : Nat} {l : List (Int × Int)} (h : Prt W (.slice a n cap) l) {p : Int × Int} (hk : l[k]? = some p) :
    ∃ b off, a = some ⟨b, off, none⟩ ∧ b < W.heap.size ∧ W.cell? ⟨b, off + k * 2, none⟩ = some (.int .i64 p.1) ∧ W.cell? ⟨b, off + k * 2 + 1, none⟩ = some (.int .i64 p.2) := by
  obtain ⟨a', cap', e, h1, h2, h3, hz, h4⟩ := h
  cases e
  rcases h4 with rfl | ⟨b, off, rfl, h5, h6⟩
  · simp at hk
  · exact ⟨b, off, rfl, h5, h6 k p hk⟩
/-- The row that comes back is this one, or a new one. -/
def Same (w : World) (ob : Option Nat) (u : Value) : Prop := u.ownBlock = ob ∨ ∀ j, u.ownBlock = some j → w.heap.size ≤ j
/-! A pair as one value. -/
def prL (a b : Int) : List Value := [.int .i64 a, .int .i64 b]
end Go.Proofs.Ytajamblkjmafmaa
