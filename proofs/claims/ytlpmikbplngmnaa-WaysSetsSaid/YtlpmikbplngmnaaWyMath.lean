/- Maps of blocks in slots, set by set: plain facts; no program is named. -/
import Derived.WalkKit
namespace Go.Proofs.Ytlpmikbplngmnaa
set_option linter.unusedVariables false

/-- A slot: its block (-1: none), whether it is dirty, whether it is marked. -/
structure WSlot where
  b : Int
  d : Bool
  k : Bool
def wE : WSlot := ⟨-1, false, false⟩
/-- A set: its hand, its slots. -/
structure WS where
  h : Nat
  l : List WSlot
def WS.slot (x : WS) (w : Nat) : WSlot := x.l[w]?.getD wE
def WS.put (x : WS) (w : Nat) (v : WSlot) : WS := ⟨x.h, x.l.set w v⟩
def WS.next (x : WS) : WS := ⟨(x.h + 1) % x.l.length, x.l⟩
def findW (l : List WSlot) (b : Int) : Option Nat := l.findIdx? fun s => s.b == b
def emptyW (l : List WSlot) : Option Nat := l.findIdx? fun s => decide (s.b < 0)
/-- So many steps of the clock. -/
def clockW : Nat → WS → Option Nat × WS
  | 0, x => (none, x)
  | n + 1, x =>
    if (x.slot x.h).d then clockW n x.next
    else if (x.slot x.h).k then clockW n (x.next.put x.h ⟨(x.slot x.h).b, (x.slot x.h).d, false⟩)
    else (some x.h, x.next.put x.h wE)
def roomW (x : WS) : Option Nat × WS := match emptyW x.l with
  | some w => (some w, x)
  | none => clockW (2 * x.l.length) x
/-- The first dirty one from the hand on. -/
def dirtW (x : WS) : Option Nat × WS := match (List.range x.l.length).find? fun k => (x.slot ((x.h + k) % x.l.length)).d with
  | some k => (some ((x.h + k) % x.l.length), ⟨((x.h + k) % x.l.length + 1) % x.l.length, x.l⟩)
  | none => (none, x)

theorem slot_put_same {x : WS} {w : Nat} (v : WSlot) (h : w < x.l.length) : (x.put w v).slot w = v := by
  unfold WS.slot WS.put
  rw [List.getElem?_set_self h]; rfl
theorem slot_put_other {x : WS} {w u : Nat} (v : WSlot) (h : w ≠ u) : (x.put w v).slot u = x.slot u := by
  unfold WS.slot WS.put
  rw [List.getElem?_set_ne h]
theorem slot_next (x : WS) (w : Nat) : x.next.slot w = x.slot w := rfl
theorem put_len (x : WS) (w : Nat) (v : WSlot) : (x.put w v).l.length = x.l.length := by unfold WS.put; simp
theorem next_len (x : WS) : x.next.l.length = x.l.length := rfl
theorem next_h {x : WS} (h : 0 < x.l.length) : x.next.h < x.next.l.length := Nat.mod_lt _ h

/-- How far the hand is from a way. -/
def wDist (x : WS) (w : Nat) : Nat := if x.h ≤ w then w - x.h else w + x.l.length - x.h
theorem dist_lt {x : WS} {w : Nat} (hh : x.h < x.l.length) (hw : w < x.l.length) : wDist x w < x.l.length := by
  unfold wDist; split <;> omega
theorem next_h_eq {x : WS} (hh : x.h < x.l.length) : x.next.h = if x.h + 1 = x.l.length then 0 else x.h + 1 := by
  unfold WS.next
  show (x.h + 1) % x.l.length = _
  split
  · rename_i e; rw [e, Nat.mod_self]
  · exact Nat.mod_eq_of_lt (by omega)
theorem dist_next {x y : WS} {w : Nat} (hh : x.h < x.l.length) (hw : w < x.l.length) (hne : x.h ≠ w) (hy : y.h = x.next.h) (hl : y.l.length = x.l.length) : wDist y w + 1 = wDist x w := by
  unfold wDist
  rw [hy, hl, next_h_eq hh]
  split <;> split <;> split <;> omega
theorem dist_here {x y : WS} (hh : x.h < x.l.length) (hy : y.h = x.next.h) (hl : y.l.length = x.l.length) : wDist y x.h + 1 = x.l.length := by
  unfold wDist
  rw [hy, hl, next_h_eq hh]
  split <;> split <;> omega

/-- A slot that is not dirty is found in time: or another one is. -/
theorem clock_finds : ∀ (n : Nat) (x : WS) (w : Nat), x.h < x.l.length → w < x.l.length → (x.slot w).d = false → wDist x w + 1 + (if (x.slot w).k then x.l.length else 0) ≤ n → (clockW n x).1.isSome = true
  | 0, x, w, _, _, _, hn => by omega
  | n + 1, x, w, hh, hw, hd, hn => by
    have h0 : 0 < x.l.length := by omega
    unfold clockW
    by_cases hx : (x.slot x.h).d = true
    · rw [if_pos hx]
      have hne : x.h ≠ w := fun e => by rw [e, hd] at hx; cases hx
      refine clock_finds n x.next w (next_h h0) hw hd ?_
      have := dist_next hh hw hne (y := x.next) rfl rfl
      rw [slot_next, next_len]
      omega
    · rw [if_neg hx]
      by_cases hk : (x.slot x.h).k = true
      · rw [if_pos hk]
        by_cases e : x.h = w
        · subst e
          refine clock_finds n _ x.h (by rw [put_len]; exact next_h h0) (by rw [put_len]; exact hw) ?_ ?_
          · rw [slot_put_same _ (by exact hw)]; exact hd
          · rw [slot_put_same _ (by exact hw)]
            have := dist_here (x := x) (y := x.next.put x.h ⟨(x.slot x.h).b, (x.slot x.h).d, false⟩) hh rfl (by rw [put_len]; rfl)
            rw [if_pos hk] at hn
            simp only [Bool.false_eq_true, if_false]
            omega
        · refine clock_finds n _ w (by rw [put_len]; exact next_h h0) (by rw [put_len]; exact hw) ?_ ?_
          · rw [slot_put_other _ e]; exact hd
          · rw [slot_put_other _ e, put_len]
            have := dist_next (y := x.next.put x.h ⟨(x.slot x.h).b, (x.slot x.h).d, false⟩) hh hw e rfl (by rw [put_len]; rfl)
            rw [slot_next, next_len]
            omega
      · rw [if_neg hk]; rfl
/-- What the clock leaves: the same sets but for marks and the one that was chosen. -/
theorem clock_keeps : ∀ (n : Nat) (x : WS), x.h < x.l.length →
    (clockW n x).2.l.length = x.l.length ∧ (clockW n x).2.h < x.l.length ∧
    (∀ w, (clockW n x).1 = some w → w < x.l.length ∧ (x.slot w).d = false ∧ (clockW n x).2.slot w = wE) ∧
    (∀ u, (clockW n x).1 ≠ some u → ((clockW n x).2.slot u).b = (x.slot u).b ∧ ((clockW n x).2.slot u).d = (x.slot u).d ∧ (((clockW n x).2.slot u).k = true → (x.slot u).k = true))
  | 0, x, hh => ⟨rfl, hh, fun w e => (by cases e), fun u _ => ⟨rfl, rfl, fun h => h⟩⟩
  | n + 1, x, hh => by
    have h0 : 0 < x.l.length := by omega
    unfold clockW
    by_cases hx : (x.slot x.h).d = true
    · rw [if_pos hx]
      exact clock_keeps n x.next (next_h h0)
    · rw [if_neg hx]
      by_cases hk : (x.slot x.h).k = true
      · rw [if_pos hk]
        obtain ⟨y, hy⟩ : ∃ y, x.next.put x.h ⟨(x.slot x.h).b, (x.slot x.h).d, false⟩ = y := ⟨_, rfl⟩
        have hl : y.l.length = x.l.length := by rw [← hy, put_len]; rfl
        obtain ⟨i1, i2, i3, i4⟩ := clock_keeps n y (by rw [hl, ← hy]; exact next_h h0)
        rw [hy]
        have hb : ∀ u, (y.slot u).b = (x.slot u).b ∧ (y.slot u).d = (x.slot u).d ∧ ((y.slot u).k = true → (x.slot u).k = true) := fun u => by
          rw [← hy]
          by_cases e : x.h = u
          · subst e
            rw [slot_put_same _ (by exact hh)]
            exact ⟨rfl, rfl, fun h => by cases h⟩
          · rw [slot_put_other _ e]
            exact ⟨rfl, rfl, fun h => h⟩
        refine ⟨by rw [i1, hl], by rw [← hl]; exact i2, fun w e => ?_, fun u e => ?_⟩
        · obtain ⟨a1, a2, a3⟩ := i3 w e
          exact ⟨by rw [← hl]; exact a1, by rw [← (hb w).2.1]; exact a2, a3⟩
        · obtain ⟨a1, a2, a3⟩ := i4 u e
          exact ⟨a1.trans (hb u).1, a2.trans (hb u).2.1, fun h => (hb u).2.2 (a3 h)⟩
      · rw [if_neg hk]
        refine ⟨by rw [put_len]; rfl, ?_, fun w e => ?_, fun u e => ?_⟩
        · exact next_h h0
        · cases e
          exact ⟨hh, by simpa using hx, slot_put_same _ (by exact hh)⟩
        · have : x.h ≠ u := fun e2 => e (by rw [e2])
          rw [slot_put_other _ this]
          exact ⟨rfl, rfl, fun h => h⟩
theorem emptyW_none {l : List WSlot} : emptyW l = none ↔ ∀ s ∈ l, ¬ s.b < 0 := by
  unfold emptyW
  rw [List.findIdx?_eq_none_iff]
  simp
theorem emptyW_some {l : List WSlot} {w : Nat} (h : emptyW l = some w) : ∃ s, l[w]? = some s ∧ s.b < 0 := by
  unfold emptyW at h
  rw [List.findIdx?_eq_some_iff_getElem] at h
  obtain ⟨h1, h2, -⟩ := h
  exact ⟨l[w], List.getElem?_eq_getElem h1, by simpa using h2⟩
theorem slot_mem {x : WS} {w : Nat} (h : w < x.l.length) : x.slot w ∈ x.l := by
  unfold WS.slot
  rw [List.getElem?_eq_getElem h]
  exact List.getElem_mem h

/-- Empty slots are neither dirty nor marked. -/
def WS.Bare (x : WS) : Prop := ∀ s ∈ x.l, s.b < 0 → s = wE
/-- **There is no room just where all are dirty.** -/
theorem room_none {x : WS} (hh : x.h < x.l.length) (h : (roomW x).1 = none) : ∀ w, w < x.l.length → (x.slot w).d = true ∧ ¬ (x.slot w).b < 0 := by
  intro w hw
  unfold roomW at h
  cases he : emptyW x.l with
  | some v => rw [he] at h; cases h
  | none =>
    rw [he] at h
    refine ⟨?_, emptyW_none.1 he _ (slot_mem hw)⟩
    cases hd : (x.slot w).d with
    | true => rfl
    | false =>
      have := clock_finds (2 * x.l.length) x w hh hw hd (by have := dist_lt hh hw; split <;> omega)
      simp only at h
      rw [h] at this
      cases this
/-- **Room is made of a slot that is not dirty; all others keep what they have, but for marks.** -/
theorem room_some {x : WS} (hh : x.h < x.l.length) (hb : x.Bare) {w : Nat} (h : (roomW x).1 = some w) :
    w < x.l.length ∧ (x.slot w).d = false ∧ (roomW x).2.slot w = wE ∧ (roomW x).2.l.length = x.l.length ∧ (roomW x).2.h < x.l.length ∧
    ∀ u, u ≠ w → ((roomW x).2.slot u).b = (x.slot u).b ∧ ((roomW x).2.slot u).d = (x.slot u).d ∧ (((roomW x).2.slot u).k = true → (x.slot u).k = true) := by
  unfold roomW at h ⊢
  cases he : emptyW x.l with
  | some v =>
    rw [he] at h
    simp only [Option.some.injEq] at h
    subst h
    obtain ⟨s, hs, hsb⟩ := emptyW_some he
    have hv := (List.getElem?_eq_some_iff.1 hs).1
    have hse : x.slot v = s := by unfold WS.slot; rw [hs]; rfl
    have hsE := hb s (List.mem_of_getElem? hs) hsb
    refine ⟨hv, by rw [hse, hsE]; rfl, by rw [← hsE]; exact hse, rfl, hh, fun u _ => ⟨rfl, rfl, fun h => h⟩⟩
  | none =>
    rw [he] at h
    simp only at h ⊢
    obtain ⟨i1, i2, i3, i4⟩ := clock_keeps (2 * x.l.length) x hh
    obtain ⟨a1, a2, a3⟩ := i3 w h
    exact ⟨a1, a2, a3, i1, i2, fun u hu => i4 u (fun e => hu (by rw [h] at e; cases e; rfl))⟩
/-- Where all are dirty the one at the hand is told. -/
theorem dirt_all {x : WS} (hh : x.h < x.l.length) (h : (x.slot x.h).d = true) : dirtW x = (some x.h, x.next) := by
  unfold dirtW
  obtain ⟨n, hn⟩ : ∃ n, x.l.length = n + 1 := ⟨x.l.length - 1, by omega⟩
  have hf : ((List.range x.l.length).find? fun k => (x.slot ((x.h + k) % x.l.length)).d) = some 0 := by
    rw [hn, List.range_succ_eq_map, List.find?_cons]
    rw [show (x.h + 0) % (n + 1) = x.h from Nat.mod_eq_of_lt (by omega), h]
  rw [hf]
  simp only [Nat.add_zero, Nat.mod_eq_of_lt hh]
  rfl
/-- **With one alone that is not dirty room is made of it.** -/
theorem room_one {x : WS} (hh : x.h < x.l.length) (hb : x.Bare) (hn : ∀ s ∈ x.l, ¬ s.b < 0) {w : Nat} (hw : w < x.l.length) (hd : (x.slot w).d = false) (ho : ∀ u, u < x.l.length → u ≠ w → (x.slot u).d = true) : (roomW x).1 = some w := by
  cases h : (roomW x).1 with
  | none => have := (room_none hh h w hw).1; rw [hd] at this; cases this
  | some v =>
    obtain ⟨h1, h2, -⟩ := room_some hh hb h
    by_cases e : v = w
    · rw [e]
    · rw [ho v h1 e] at h2; cases h2
end Go.Proofs.Ytlpmikbplngmnaa
