/- Maps of blocks in slots: all slots in one row, all hands in one row, as they lie in memory; no program is named. -/
import Derived.Test.YtlpmikbplngmnaaWyMap
namespace Go.Proofs.Ytlpmikbplngmnaa
set_option linter.unusedVariables false

def mFlat (m : WM) : List WSlot := (List.range m.size).map m.slot
def mHands (m : WM) : List Nat := m.ss.map (·.h)
theorem wy_flat_len (m : WM) : (mFlat m).length = m.size := by unfold mFlat; simp
theorem wy_flat_get {m : WM} {i : Nat} (h : i < m.size) : (mFlat m)[i]? = some (m.slot i) := by
  unfold mFlat
  rw [List.getElem?_map, List.getElem?_range h]
  rfl
theorem upd_size (m : WM) (s : Nat) (x : WS) : (m.upd s x).size = m.size := by unfold WM.size; rw [upd_st]; rfl
theorem upd_wy (m : WM) (s : Nat) (x : WS) : (m.upd s x).wy = m.wy := rfl
/-- A map's shape alone: what every write keeps. -/
structure WmLen (m : WM) : Prop where
  wy1 : 1 ≤ m.wy
  sets : ∀ s, s < m.ss.length → (m.set s).l.length = m.wy
theorem WmOk.lens {m : WM} (h : WmOk m) : WmLen m := ⟨h.wy1, fun s hs => (h.sets s hs).len⟩
theorem WmLen.upd {m : WM} (h : WmLen m) {s : Nat} {x : WS} (hs : s < m.ss.length) (hx : x.l.length = m.wy) : WmLen (m.upd s x) := by
  refine ⟨h.wy1, fun t ht => ?_⟩
  rw [upd_st] at ht
  by_cases e : s = t
  · subst e; rw [set_upd_same _ hs]; exact hx
  · rw [set_upd_other _ e]; exact h.sets t ht
theorem WmLen.write {m : WM} (h : WmLen m) {i : Nat} (hi : i < m.size) (v : WSlot) : WmLen (mWrite m i v) :=
  h.upd (div_lt hi) (by show ((m.set (i / m.wy)).l.set _ v).length = _; rw [List.length_set]; exact h.sets _ (div_lt hi))
/-- One slot written. -/
theorem flat_write {m : WM} (h : WmLen m) {i : Nat} (hi : i < m.size) (v : WSlot) : mFlat (mWrite m i v) = (mFlat m).set i v := by
  apply List.ext_getElem?
  intro j
  rw [List.getElem?_set]
  by_cases hj : j < m.size
  · rw [wy_flat_get (m := mWrite m i v) (by unfold mWrite; rw [upd_size]; exact hj)]
    have hdi := div_lt hi
    have hmi : i % m.wy < m.wy := Nat.mod_lt _ h.wy1
    have hlen := h.sets _ hdi
    by_cases e : i = j
    · subst e
      rw [if_pos rfl, if_pos (by rw [wy_flat_len]; exact hi)]
      congr 1
      show ((m.upd (i / m.wy) _).set (i / m.wy)).slot (i % m.wy) = v
      rw [set_upd_same _ hdi, slot_put_same v (by rw [hlen]; exact hmi)]
    · rw [if_neg e, wy_flat_get hj]
      congr 1
      show ((m.upd (i / m.wy) _).set (j / m.wy)).slot (j % m.wy) = (m.set (j / m.wy)).slot (j % m.wy)
      by_cases e2 : i / m.wy = j / m.wy
      · rw [← e2, set_upd_same _ hdi, slot_put_other v (fun e3 => e ?_)]
        have h1 := Nat.div_add_mod i m.wy
        have h2 := Nat.div_add_mod j m.wy
        rw [e2, e3] at h1
        omega
      · rw [set_upd_other _ e2]
  · have h1 : (mFlat (mWrite m i v))[j]? = none := List.getElem?_eq_none (by rw [wy_flat_len]; unfold mWrite; rw [upd_size]; omega)
    have h2 : (mFlat m)[j]? = none := List.getElem?_eq_none (by rw [wy_flat_len]; omega)
    rw [h1, h2, if_neg (by omega)]
/-- Marks, blocks of one set changed: what lies there then. -/
theorem flat_upd {m : WM} (h : WmOk m) {s : Nat} (hs : s < m.ss.length) {x : WS} (hl : x.l.length = m.wy) {w : Nat} (hw : w < m.wy) (v : WSlot) (m' : WM) (hm : m' = m.upd s x) : mFlat (m.upd s (x.put w v)) = (mFlat m').set (s * m.wy + w) v := by
  subst hm
  apply List.ext_getElem?
  intro j
  rw [List.getElem?_set]
  have hsz : s * m.wy + w < m.size := at_lt hs hw
  by_cases hj : j < m.size
  · rw [wy_flat_get (m := m.upd s (x.put w v)) (by rw [upd_size]; exact hj)]
    by_cases e : s * m.wy + w = j
    · subst e
      rw [if_pos rfl, if_pos (by rw [wy_flat_len, upd_size]; exact hj)]
      congr 1
      rw [← upd_wy m s (x.put w v), slot_at (m := m.upd s (x.put w v)) (by exact hw), set_upd_same _ hs, slot_put_same v (by rw [hl]; exact hw)]
    · rw [if_neg e, wy_flat_get (m := m.upd s x) (by rw [upd_size]; exact hj)]
      congr 1
      show ((m.upd s (x.put w v)).set (j / m.wy)).slot (j % m.wy) = ((m.upd s x).set (j / m.wy)).slot (j % m.wy)
      by_cases e2 : s = j / m.wy
      · rw [← e2, set_upd_same _ hs, set_upd_same _ hs, slot_put_other v (fun e3 => e ?_)]
        have h2 := Nat.div_add_mod j m.wy
        rw [← e2, ← e3, Nat.mul_comm] at h2
        exact h2
      · rw [set_upd_other _ e2, set_upd_other _ e2]
  · have h1 : (mFlat (m.upd s (x.put w v)))[j]? = none := List.getElem?_eq_none (by rw [wy_flat_len, upd_size]; omega)
    have h2 : (mFlat (m.upd s x))[j]? = none := List.getElem?_eq_none (by rw [wy_flat_len, upd_size]; omega)
    rw [h1, h2, if_neg (by omega)]
/-- The hand alone moved. -/
theorem flat_hand {m : WM} {s : Nat} (hs : s < m.ss.length) {x y : WS} (hl : x.l = y.l) : mFlat (m.upd s x) = mFlat (m.upd s y) := by
  unfold mFlat
  rw [upd_size, upd_size]
  refine List.map_congr_left fun i hi => ?_
  show ((m.upd s x).set (i / m.wy)).slot (i % m.wy) = ((m.upd s y).set (i / m.wy)).slot (i % m.wy)
  by_cases e : s = i / m.wy
  · rw [← e, set_upd_same _ hs, set_upd_same _ hs]
    unfold WS.slot
    rw [hl]
  · rw [set_upd_other _ e, set_upd_other _ e]
theorem hands_upd (m : WM) (s : Nat) (x : WS) : mHands (m.upd s x) = (mHands m).set s x.h := by
  unfold mHands WM.upd
  rw [List.map_set]
theorem hands_get {m : WM} {s : Nat} (h : s < m.ss.length) : (mHands m)[s]? = some (m.set s).h := by
  unfold mHands WM.set
  rw [List.getElem?_map, List.getElem?_eq_getElem h]
  rfl
theorem wy_upd_same (m : WM) {s : Nat} (h : s < m.ss.length) : m.upd s (m.set s) = m := by
  cases m with
  | mk wy ss =>
    unfold WM.upd WM.set
    simp only [WM.mk.injEq, true_and]
    rw [List.getElem?_eq_getElem h]
    exact List.set_getElem_self h
theorem upd_upd (m : WM) (s : Nat) (x y : WS) : (m.upd s x).upd s y = m.upd s y := by
  unfold WM.upd
  simp
/-! WaysClock: which slot goes, by looking. -/
def clockMap (n : Nat) : WM := (List.range n).foldl (fun (m : WM) (b : Nat) => mPut (mRoom m (b : Int)).2 (b : Int) (b : Int) false) (mNew 1 n)
theorem clock_2 : (mRoom (clockMap 2) 2).1 = some 0 ∧ (mRoom (mTouch (mPut (mRoom (clockMap 2) 2).2 0 2 false) 1) 3).1 = some 1 := by decide +kernel
theorem clock_3 : (mRoom (clockMap 3) 3).1 = some 0 ∧ (mRoom (mTouch (mPut (mRoom (clockMap 3) 3).2 0 3 false) 1) 4).1 = some 2 ∧ (mRoom (mTouch (mPut (mRoom (clockMap 3) 3).2 0 3 false) 2) 4).1 = some 1 := by decide +kernel
theorem clock_4 : (mRoom (clockMap 4) 4).1 = some 0 ∧ (mRoom (mTouch (mPut (mRoom (clockMap 4) 4).2 0 4 false) 1) 5).1 = some 2 ∧ (mRoom (mTouch (mPut (mRoom (clockMap 4) 4).2 0 4 false) 2) 5).1 = some 1 ∧ (mRoom (mTouch (mPut (mRoom (clockMap 4) 4).2 0 4 false) 3) 5).1 = some 1 := by decide +kernel
end Go.Proofs.Ytlpmikbplngmnaa
