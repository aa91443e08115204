/- The document's map of blocks in slots, in memory: a slot, a mark, a hand written. -/
import Derived.Test.YtlpmikbplngmnaaWyRef
namespace Go.Proofs.Ytlpmikbplngmnaa
open Go.RowKit
set_option linter.unusedVariables false

theorem Sep.setR {P Q Q' : Res} (hP : IsRes P) {w : World} {f : Nat → Prop} (h : Sep P Q w f) (B j : Nat) (v : Value) (hq : ∀ f2, Q w f2 → Q' (w.setCell ⟨B, j, none⟩ v) f2 ∧ f2 B) : Sep P Q' (w.setCell ⟨B, j, none⟩ v) f ∧ f B := by
  obtain ⟨f1, f2, h1, h2, h3, rfl⟩ := h
  obtain ⟨q1, q2⟩ := hq f2 h2
  exact ⟨⟨f1, f2, hP.out h1 (fun k hk => Below.heap_setCell _ _ _ k (fun e => h3 k hk (e ▸ q2))), q1, h3, rfl⟩, .inr q2⟩
/-- What the pointer's block and the hands' block hold of a map. -/
def SameHead (m n : WM) : Prop := n.ss.length = m.ss.length ∧ n.wy = m.wy ∧ mHands n = mHands m
theorem SameHead.size {m n : WM} (h : SameHead m n) : n.size = m.size := by obtain ⟨h1, h2, h3⟩ := h; unfold WM.size; rw [h1, h2]
theorem WyB.same {hd : Nat → Nat → Nat → Array Value} {tP tS : TypeId} {P SB HB : Nat} {a : Array Value} {m n : WM} {w : World} {f : Nat → Prop} (h : WyB hd tP tS P SB HB a m w f) (hs : SameHead m n) : WyB hd tP tS P SB HB a n w f := by
  have hz := hs.size
  obtain ⟨h1, h2, h3⟩ := hs
  unfold WyB at h ⊢
  rw [h1, h2, h3, hz]
  exact h
theorem WyB.slotSet {hd : Nat → Nat → Nat → Array Value} {tP tS : TypeId} {P SB HB : Nat} {a : Array Value} {m : WM} {w : World} {f : Nat → Prop} (h : WyB hd tP tS P SB HB a m w f) (j : Nat) (v : Value) : WyB hd tP tS P SB HB (a.setIfInBounds j v) m (w.setCell ⟨SB, j, none⟩ v) f ∧ f SB :=
  Sep.setR (RowR.isRes _ _ _) h SB j v fun f2 h2 => by
    have h3 := (Sep.set (RowR.isRes _ _ _) h2 j v).1
    obtain ⟨f1, f3, ⟨-, rfl⟩, -, -, rfl⟩ := h2
    exact ⟨h3, .inl rfl⟩
theorem mWrite_same {m : WM} {i : Nat} (hd : i / m.wy < m.ss.length) (v : WSlot) : SameHead m (mWrite m i v) := by
  refine ⟨by unfold mWrite WM.upd; simp, rfl, ?_⟩
  unfold mWrite
  rw [hands_upd]
  apply List.ext_getElem?
  intro j
  rw [List.getElem?_set]
  by_cases e : i / m.wy = j
  · subst e
    rw [if_pos rfl, if_pos (by unfold mHands; simpa using hd), hands_get hd]
    rfl
  · rw [if_neg e]
theorem take_set (l : List Value) (n j : Nat) (v : Value) : (l.set j v).take n = (l.take n).set j v := by
  apply List.ext_getElem?
  intro k
  simp only [List.getElem?_take, List.getElem?_set, List.length_take]
  by_cases h : k < n
  · rw [if_pos h, if_pos h]
    by_cases e : j = k
    · subst e
      rw [if_pos rfl, if_pos rfl]
      by_cases h2 : j < l.length
      · rw [if_pos h2, if_pos (by omega)]
      · rw [if_neg h2, if_neg (by omega)]
    · rw [if_neg e, if_neg e]
  · rw [if_neg h]
    by_cases e : j = k
    · subst e
      rw [if_pos rfl, if_neg (by omega)]
    · rw [if_neg e, if_neg h]
/-- Cells of slots are written, one after another, until they hold another map of the same head. -/
theorem WyG.slots {hd : Nat → Nat → Nat → Array Value} {tP tS : TypeId} {P SB HB cap : Nat} {m n : WM} (hs : SameHead m n) (us : List (Nat × Value)) {w : World} {f : Nat → Prop} (h : WyG hd tP tS P SB HB cap m w f)
    (hw : us.foldl (fun l u => l.set u.1 u.2) (wcs (mFlat m)) = wcs (mFlat n)) :
    WyG hd tP tS P SB HB cap n (us.foldl (fun x u => x.setCell ⟨SB, u.1, none⟩ u.2) w) f ∧ Turn f f w (us.foldl (fun x u => x.setCell ⟨SB, u.1, none⟩ u.2) w) := by
  obtain ⟨a, h1, h2, h3, h4, h5⟩ := h
  have key : ∀ (us : List (Nat × Value)) (w : World) (a : Array Value), a.size = cap * 3 → WyB hd tP tS P SB HB a m w f → ∃ a' : Array Value, a'.size = cap * 3 ∧ a'.toList.take (m.size * 3) = us.foldl (fun l u => l.set u.1 u.2) (a.toList.take (m.size * 3)) ∧ WyB hd tP tS P SB HB a' m (us.foldl (fun x u => x.setCell ⟨SB, u.1, none⟩ u.2) w) f ∧ Turn f f w (us.foldl (fun x u => x.setCell ⟨SB, u.1, none⟩ u.2) w) := by
    intro us
    induction us with
    | nil => intro w a h1 h5; exact ⟨a, h1, rfl, h5, Turn.refl _ _⟩
    | cons u us ih =>
      intro w a h1 h5
      obtain ⟨g1, g2⟩ := h5.slotSet u.1 u.2
      obtain ⟨a', k1, k2, k3, k4⟩ := ih _ (a.setIfInBounds u.1 u.2) (by rw [Array.size_setIfInBounds]; exact h1) g1
      refine ⟨a', k1, ?_, k3, (turn_setCell w SB u.1 u.2 g2).trans k4⟩
      rw [k2, Array.toList_setIfInBounds, take_set]
      rfl
  obtain ⟨a', k1, k2, k3, k4⟩ := key us w a h1 h5
  have hz := hs.size
  exact ⟨⟨a', k1, by rw [hz]; exact h2, h3, by rw [hz, k2, h4]; exact hw, k3.same hs⟩, k4⟩
end Go.Proofs.Ytlpmikbplngmnaa
