/- A map of blocks in slots, in memory, the document's or the program's: its three blocks; a slot, a hand read. -/
import Derived.Test.YtlpmikbplngmnaaRes
import Derived.Test.YtlpmikbplngmnaaWyFlat
namespace Go.Proofs.Ytlpmikbplngmnaa
open Go.RowKit
set_option linter.unusedVariables false

def wsl (s : WSlot) : List Value := [.int .i64 s.b, .bool s.d, .bool s.k]
def wcs (l : List WSlot) : List Value := l.flatMap wsl
theorem wcs_cons (s : WSlot) (l : List WSlot) : wcs (s :: l) = .int .i64 s.b :: .bool s.d :: .bool s.k :: wcs l := rfl
theorem wcs_len (l : List WSlot) : (wcs l).length = l.length * 3 := by
  induction l with
  | nil => rfl
  | cons s l ih => rw [wcs_cons]; simp only [List.length_cons, ih]; omega
theorem wcs_get {l : List WSlot} {j : Nat} {s : WSlot} (h : l[j]? = some s) : (wcs l)[j * 3]? = some (.int .i64 s.b) ∧ (wcs l)[j * 3 + 1]? = some (.bool s.d) ∧ (wcs l)[j * 3 + 2]? = some (.bool s.k) := by
  induction l generalizing j with
  | nil => simp at h
  | cons q l ih =>
    rw [wcs_cons]
    cases j with
    | zero => simp at h; subst h; exact ⟨rfl, rfl, rfl⟩
    | succ j =>
      have := ih (j := j) (by simpa using h)
      rw [show (j + 1) * 3 = j * 3 + 1 + 1 + 1 by omega]
      simpa using this
theorem wcs_set {l : List WSlot} {k : Nat} (p : WSlot) (h : k < l.length) : (((wcs l).set (k * 3) (.int .i64 p.b)).set (k * 3 + 1) (.bool p.d)).set (k * 3 + 2) (.bool p.k) = wcs (l.set k p) := by
  induction l generalizing k with
  | nil => simp at h
  | cons q l ih =>
    cases k with
    | zero => rfl
    | succ k =>
      rw [wcs_cons, show (k + 1) * 3 = k * 3 + 1 + 1 + 1 by omega]
      simp only [List.set_cons_succ]
      rw [ih (by simpa using h), wcs_cons]
def hcs (l : List Nat) : List Value := l.map fun h => .int .i64 ((h : Nat) : Int)
/-- The three blocks of a map: hd: the cells that its pointer leads to; a: the cells of its slots, with what lies behind them. -/
def WyB (hd : Nat → Nat → Nat → Array Value) (tP tS : TypeId) (P SB HB : Nat) (a : Array Value) (m : WM) : Res := Sep (RowR P (hd m.ss.length m.wy m.size) tP) (Sep (RowR SB a tS) (RowR HB (hcs (mHands m)).toArray 3))
theorem WyB.isRes (hd : Nat → Nat → Nat → Array Value) (tP tS : TypeId) (P SB HB : Nat) (a : Array Value) (m : WM) : IsRes (WyB hd tP tS P SB HB a m) := (RowR.isRes _ _ _).sep ((RowR.isRes _ _ _).sep (RowR.isRes _ _ _))
def WyG (hd : Nat → Nat → Nat → Array Value) (tP tS : TypeId) (P SB HB cap : Nat) (m : WM) : Res := fun w f => ∃ a : Array Value, a.size = cap * 3 ∧ m.size ≤ cap ∧ cap ≤ maxLen ∧ a.toList.take (m.size * 3) = wcs (mFlat m) ∧ WyB hd tP tS P SB HB a m w f
section
variable {hd : Nat → Nat → Nat → Array Value} {tP tS : TypeId} {P SB HB cap : Nat} {m : WM} {w : World} {f : Nat → Prop}
theorem WyG.isRes (hd : Nat → Nat → Nat → Array Value) (tP tS : TypeId) (P SB HB cap : Nat) (m : WM) : IsRes (WyG hd tP tS P SB HB cap m) where
  out := by rintro w w' f ⟨a, h1, h2, h3, h4, h5⟩ hk; exact ⟨a, h1, h2, h3, h4, (WyB.isRes _ _ _ _ _ _ _ _).out h5 hk⟩
  lt := by rintro w f ⟨a, h1, h2, h3, h4, h5⟩; exact (WyB.isRes _ _ _ _ _ _ _ _).lt h5
  cells := by rintro w f ⟨a, h1, h2, h3, h4, h5⟩; exact (WyB.isRes _ _ _ _ _ _ _ _).cells h5
theorem WyG.headAt (h : WyG hd tP tS P SB HB cap m w f) (j : Nat) : w.cell? ⟨P, j, none⟩ = (hd m.ss.length m.wy m.size)[j]? := by
  obtain ⟨a, -, -, -, -, h⟩ := h
  exact Sep.cell h j
theorem WyG.slot (h : WyG hd tP tS P SB HB cap m w f) {i : Nat} (hi : i < m.size) :
    w.cell? ⟨SB, i * 3, none⟩ = some (.int .i64 (m.slot i).b) ∧ w.cell? ⟨SB, i * 3 + 1, none⟩ = some (.bool (m.slot i).d) ∧ w.cell? ⟨SB, i * 3 + 2, none⟩ = some (.bool (m.slot i).k) := by
  obtain ⟨a, h1, h2, h3, h4, f1, f2, -, g, -, -⟩ := h
  obtain ⟨g1, g2, g3⟩ := wcs_get (wy_flat_get hi)
  rw [← h4, List.getElem?_take] at g1 g2 g3
  rw [if_pos (by omega), Array.getElem?_toList] at g1 g2 g3
  exact ⟨(Sep.cell g _).trans g1, (Sep.cell g _).trans g2, (Sep.cell g _).trans g3⟩
theorem WyG.hand (h : WyG hd tP tS P SB HB cap m w f) {s : Nat} (hs : s < m.ss.length) : w.cell? ⟨HB, s, none⟩ = some (.int .i64 ((m.set s).h : Int)) := by
  obtain ⟨a, h1, h2, h3, h4, f1, f2, -, g, -, -⟩ := h
  obtain ⟨f3, f4, -, ⟨g2, -⟩, -, -⟩ := g
  rw [cell_of_row _ _ _ _ _ _ g2]
  simp only [List.getElem?_toArray]
  unfold hcs
  rw [List.getElem?_map, hands_get hs]
  rfl
theorem WyG.frozenS (h : WyG hd tP tS P SB HB cap m w f) (j : Nat) : w.frozen? ⟨SB, j, none⟩ = false := by
  obtain ⟨a, h1, h2, h3, h4, f1, f2, -, g, -, -⟩ := h
  exact Sep.frozen g j
theorem WyG.frozenH (h : WyG hd tP tS P SB HB cap m w f) (j : Nat) : w.frozen? ⟨HB, j, none⟩ = false := by
  obtain ⟨a, -, -, -, -, f1, f2, -, ⟨f3, f4, -, ⟨g2, -⟩, -, -⟩, -, -⟩ := h
  simp [World.frozen?, g2]
end
/-- The document's map. -/
def qHead (SB HB cap : Nat) (st wy n : Nat) : Array Value := #[.int .i64 (st : Int), .int .i64 (wy : Int), .slice (some ⟨SB, 0, none⟩) n cap, .slice (some ⟨HB, 0, none⟩) st st]
abbrev WyQ (P SB HB cap : Nat) (m : WM) : Res := WyG (qHead SB HB cap) 57 59 P SB HB cap m
theorem WyQ.isRes (P SB HB cap : Nat) (m : WM) : IsRes (WyQ P SB HB cap m) := WyG.isRes _ _ _ _ _ _ _ _
theorem WyQ.head {P SB HB cap : Nat} {m : WM} {w : World} {f : Nat → Prop} (h : WyQ P SB HB cap m w f) :
    w.cell? ⟨P, 0, none⟩ = some (.int .i64 (m.ss.length : Int)) ∧ w.cell? ⟨P, 1, none⟩ = some (.int .i64 (m.wy : Int)) ∧ w.cell? ⟨P, 2, none⟩ = some (.slice (some ⟨SB, 0, none⟩) m.size cap) ∧ w.cell? ⟨P, 3, none⟩ = some (.slice (some ⟨HB, 0, none⟩) m.ss.length m.ss.length) :=
  ⟨h.headAt 0, h.headAt 1, h.headAt 2, h.headAt 3⟩
/-- The program's map. -/
def dHead (SB HB cap : Nat) (st wy n : Nat) : Array Value := #[.int .i64 (wy : Int), .slice (some ⟨SB, 0, none⟩) n cap, .slice (some ⟨HB, 0, none⟩) st st]
abbrev WyD (P SB HB cap : Nat) (m : WM) : Res := WyG (dHead SB HB cap) 54 64 P SB HB cap m
theorem WyD.isRes (P SB HB cap : Nat) (m : WM) : IsRes (WyD P SB HB cap m) := WyG.isRes _ _ _ _ _ _ _ _
theorem WyD.head {P SB HB cap : Nat} {m : WM} {w : World} {f : Nat → Prop} (h : WyD P SB HB cap m w f) :
    w.cell? ⟨P, 0, none⟩ = some (.int .i64 (m.wy : Int)) ∧ w.cell? ⟨P, 1, none⟩ = some (.slice (some ⟨SB, 0, none⟩) m.size cap) ∧ w.cell? ⟨P, 2, none⟩ = some (.slice (some ⟨HB, 0, none⟩) m.ss.length m.ss.length) :=
  ⟨h.headAt 0, h.headAt 1, h.headAt 2⟩
end Go.Proofs.Ytlpmikbplngmnaa
