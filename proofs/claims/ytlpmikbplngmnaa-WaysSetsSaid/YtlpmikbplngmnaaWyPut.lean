/- The document's map of blocks in slots, in memory: the writes that the program may make. -/
import Derived.Test.YtlpmikbplngmnaaWySet
namespace Go.Proofs.Ytlpmikbplngmnaa
open Go.RowKit
set_option linter.unusedVariables false

theorem wcs_setB {l : List WSlot} {k : Nat} (b : Int) (h : k < l.length) : (wcs l).set (k * 3) (.int .i64 b) = wcs (l.set k ⟨b, (l[k]?.getD wE).d, (l[k]?.getD wE).k⟩) := by
  induction l generalizing k with
  | nil => simp at h
  | cons q l ih =>
    cases k with
    | zero => rfl
    | succ k =>
      rw [wcs_cons, show (k + 1) * 3 = k * 3 + 1 + 1 + 1 by omega]
      simp only [List.set_cons_succ, List.getElem?_cons_succ]
      rw [ih (by simpa using h), wcs_cons]
theorem wcs_setD {l : List WSlot} {k : Nat} (d : Bool) (h : k < l.length) : (wcs l).set (k * 3 + 1) (.bool d) = wcs (l.set k ⟨(l[k]?.getD wE).b, d, (l[k]?.getD wE).k⟩) := by
  induction l generalizing k with
  | nil => simp at h
  | cons q l ih =>
    cases k with
    | zero => rfl
    | succ k =>
      rw [wcs_cons, show (k + 1) * 3 + 1 = k * 3 + 1 + 1 + 1 + 1 by omega]
      simp only [List.set_cons_succ, List.getElem?_cons_succ]
      rw [ih (by simpa using h), wcs_cons]
theorem wcs_setK {l : List WSlot} {k : Nat} (x : Bool) (h : k < l.length) : (wcs l).set (k * 3 + 2) (.bool x) = wcs (l.set k ⟨(l[k]?.getD wE).b, (l[k]?.getD wE).d, x⟩) := by
  induction l generalizing k with
  | nil => simp at h
  | cons q l ih =>
    cases k with
    | zero => rfl
    | succ k =>
      rw [wcs_cons, show (k + 1) * 3 + 2 = k * 3 + 2 + 1 + 1 + 1 by omega]
      simp only [List.set_cons_succ, List.getElem?_cons_succ]
      rw [ih (by simpa using h), wcs_cons]
variable {hd : Nat → Nat → Nat → Array Value} {tP tS : TypeId} {P SB HB cap : Nat} {m : WM} {w : World} {f : Nat → Prop}
theorem flat_getD {m : WM} {i : Nat} (h : i < m.size) : (mFlat m)[i]?.getD wE = m.slot i := by rw [wy_flat_get h]; rfl
/-- A whole slot is written. -/
theorem WyG.write (h : WyG hd tP tS P SB HB cap m w f) (ho : WmLen m) {i : Nat} (hi : i < m.size) (v : WSlot) :
    WyG hd tP tS P SB HB cap (mWrite m i v) (((w.setCell ⟨SB, i * 3, none⟩ (.int .i64 v.b)).setCell ⟨SB, i * 3 + 1, none⟩ (.bool v.d)).setCell ⟨SB, i * 3 + 2, none⟩ (.bool v.k)) f ∧
      Turn f f w (((w.setCell ⟨SB, i * 3, none⟩ (.int .i64 v.b)).setCell ⟨SB, i * 3 + 1, none⟩ (.bool v.d)).setCell ⟨SB, i * 3 + 2, none⟩ (.bool v.k)) :=
  h.slots (mWrite_same (div_lt hi) v) [(i * 3, .int .i64 v.b), (i * 3 + 1, .bool v.d), (i * 3 + 2, .bool v.k)] (by
    rw [flat_write ho hi v]
    exact wcs_set v (by rw [wy_flat_len]; exact hi))
theorem WyG.writeB (h : WyG hd tP tS P SB HB cap m w f) (ho : WmLen m) {i : Nat} (hi : i < m.size) (b : Int) :
    WyG hd tP tS P SB HB cap (mWrite m i ⟨b, (m.slot i).d, (m.slot i).k⟩) (w.setCell ⟨SB, i * 3, none⟩ (.int .i64 b)) f ∧ Turn f f w (w.setCell ⟨SB, i * 3, none⟩ (.int .i64 b)) :=
  h.slots (mWrite_same (div_lt hi) _) [(i * 3, .int .i64 b)] (by
    rw [flat_write ho hi, ← flat_getD hi]
    exact wcs_setB b (by rw [wy_flat_len]; exact hi))
theorem WyG.writeD (h : WyG hd tP tS P SB HB cap m w f) (ho : WmLen m) {i : Nat} (hi : i < m.size) (d : Bool) :
    WyG hd tP tS P SB HB cap (mWrite m i ⟨(m.slot i).b, d, (m.slot i).k⟩) (w.setCell ⟨SB, i * 3 + 1, none⟩ (.bool d)) f ∧ Turn f f w (w.setCell ⟨SB, i * 3 + 1, none⟩ (.bool d)) :=
  h.slots (mWrite_same (div_lt hi) _) [(i * 3 + 1, .bool d)] (by
    rw [flat_write ho hi, ← flat_getD hi]
    exact wcs_setD d (by rw [wy_flat_len]; exact hi))
theorem WyG.writeK (h : WyG hd tP tS P SB HB cap m w f) (ho : WmLen m) {i : Nat} (hi : i < m.size) (k : Bool) :
    WyG hd tP tS P SB HB cap (mWrite m i ⟨(m.slot i).b, (m.slot i).d, k⟩) (w.setCell ⟨SB, i * 3 + 2, none⟩ (.bool k)) f ∧ Turn f f w (w.setCell ⟨SB, i * 3 + 2, none⟩ (.bool k)) :=
  h.slots (mWrite_same (div_lt hi) _) [(i * 3 + 2, .bool k)] (by
    rw [flat_write ho hi, ← flat_getD hi]
    exact wcs_setK k (by rw [wy_flat_len]; exact hi))
theorem upd_id {m : WM} {s : Nat} (hs : s < m.ss.length) : m.upd s (m.set s) = m := by
  obtain ⟨wy, ss⟩ := m
  show WM.mk wy (ss.set s (ss[s]?.getD ws0)) = ⟨wy, ss⟩
  congr 1
  apply List.ext_getElem?
  intro j
  rw [List.getElem?_set]
  by_cases e : s = j
  · subst e
    have hs' : s < ss.length := hs
    rw [if_pos rfl, if_pos hs', List.getElem?_eq_getElem hs']
    rfl
  · rw [if_neg e]
/-- A hand is moved. -/
theorem WyG.moved (h : WyG hd tP tS P SB HB cap m w f) (ho : WmLen m) {s : Nat} (hs : s < m.ss.length) (k : Nat) :
    WyG hd tP tS P SB HB cap (m.upd s ⟨k, (m.set s).l⟩) (w.setCell ⟨HB, s, none⟩ (.int .i64 (k : Int))) f ∧ Turn f f w (w.setCell ⟨HB, s, none⟩ (.int .i64 (k : Int))) := by
  obtain ⟨a, h1, h2, h3, h4, h5⟩ := h
  have hflat : mFlat (m.upd s ⟨k, (m.set s).l⟩) = mFlat m := by
    rw [flat_hand (x := ⟨k, (m.set s).l⟩) (y := m.set s) hs rfl, upd_id hs]
  have hrow : (hcs (mHands m)).toArray.setIfInBounds s (.int .i64 (k : Int)) = (hcs (mHands (m.upd s ⟨k, (m.set s).l⟩))).toArray := by
    rw [hands_upd]
    unfold hcs
    rw [List.map_set]
    simp
  have step : Sep (RowR P (hd m.ss.length m.wy m.size) tP) (Sep (RowR SB a tS) (RowR HB (hcs (mHands (m.upd s ⟨k, (m.set s).l⟩))).toArray 3)) (w.setCell ⟨HB, s, none⟩ (.int .i64 (k : Int))) f ∧ f HB := by
    refine Sep.setR (RowR.isRes _ _ _) h5 HB s _ fun f2 q => Sep.setR (RowR.isRes _ _ _) q HB s _ fun f3 q3 => ?_
    obtain ⟨q4, rfl⟩ := q3
    exact ⟨⟨by rw [← hrow]; exact heap_set_same q4 s _, rfl⟩, rfl⟩
  refine ⟨⟨a, h1, by rw [upd_size]; exact h2, h3, by rw [upd_size, hflat]; exact h4, ?_⟩, turn_setCell w HB s _ step.2⟩
  unfold WyB
  rw [upd_size, upd_st, upd_wy]
  exact step.1
end Go.Proofs.Ytlpmikbplngmnaa
