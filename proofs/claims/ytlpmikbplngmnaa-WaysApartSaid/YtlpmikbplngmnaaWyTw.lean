/- Two maps whose first sets are alike; a full set; no program is named. -/
import Derived.Test.YtlpmikbplngmnaaWyFlat
namespace Go.Proofs.Ytlpmikbplngmnaa
set_option linter.unusedVariables false

/-- What Block tells. -/
def bkOf (m : WM) (i : Int) : Int × Bool × Bool := if mHas m i ∧ ¬ (m.slot i.toNat).b < 0 then ((m.slot i.toNat).b, (m.slot i.toNat).d, true) else (-1, false, false)
theorem tw_upd_id {m : WM} {s : Nat} (hs : s < m.ss.length) : m.upd s (m.set s) = m := by
  obtain ⟨wy, ss⟩ := m
  show WM.mk wy (ss.set s (ss[s]?.getD ws0)) = ⟨wy, ss⟩
  congr 1
  apply List.ext_getElem?
  intro j
  rw [List.getElem?_set]
  by_cases e : s = j
  · subst e
    have hs' : s < ss.length := hs
    rw [if_pos rfl, if_pos hs', List.getElem?_eq_getElem hs']
    rfl
  · rw [if_neg e]
structure Tw (A B : WM) : Prop where
  a : WmOk A
  b : WmOk B
  sa : A.ss.length = 2
  sb : B.ss.length = 2
  ewy : A.wy = B.wy
  z : A.set 0 = B.set 0
theorem of_two {A : WM} (h : A.ss.length = 2) (x : Int) : A.of x = (x % 2).toNat := by unfold WM.of; rw [h]; rfl
theorem of_even {A : WM} (h : A.ss.length = 2) {x : Int} (he : x % 2 = 0) : A.of x = 0 := by rw [of_two h, he]; rfl
theorem of_odd {A : WM} (h : A.ss.length = 2) {x : Int} (he : x % 2 = 1) : A.of x = 1 := by rw [of_two h, he]; rfl
section
variable {A B : WM}
theorem Tw.upd0 (h : Tw A B) {x y : WS} (hx : WmOk (A.upd 0 x)) (hy : WmOk (B.upd 0 y)) (e : x = y) : Tw (A.upd 0 x) (B.upd 0 y) := by
  refine ⟨hx, hy, by rw [upd_st]; exact h.sa, by rw [upd_st]; exact h.sb, h.ewy, ?_⟩
  rw [set_upd_same _ (by rw [h.sa]; decide), set_upd_same _ (by rw [h.sb]; decide), e]
theorem room_is {A : WM} {x : Int} (h0 : 0 ≤ x) : mRoom A x = ((roomW (A.set (A.of x))).1.map (fun w => A.of x * A.wy + w), A.upd (A.of x) (roomW (A.set (A.of x))).2) := by
  unfold mRoom; rw [if_neg (by omega)]
theorem dirt_is {A : WM} {x : Int} (h0 : 0 ≤ x) : mDirt A x = ((dirtW (A.set (A.of x))).1.map (fun w => A.of x * A.wy + w), A.upd (A.of x) (dirtW (A.set (A.of x))).2) := by
  unfold mDirt; rw [if_neg (by omega)]
theorem find_is {A : WM} {x : Int} (h0 : 0 ≤ x) : mFind A x = (findW (A.set (A.of x)).l x).map fun w => A.of x * A.wy + w := by
  unfold mFind; rw [if_neg (by omega)]
theorem Tw.room (h : Tw A B) {x : Int} (h0 : 0 ≤ x) (he : x % 2 = 0) : (mRoom A x).1 = (mRoom B x).1 ∧ Tw (mRoom A x).2 (mRoom B x).2 := by
  have ha := h.a.room x
  have hb := h.b.room x
  rw [room_is h0, of_even h.sa he] at ha ⊢
  rw [room_is h0, of_even h.sb he] at hb ⊢
  refine ⟨?_, h.upd0 ha hb ?_⟩
  · show Option.map _ _ = Option.map _ _
    rw [h.z, h.ewy]
  · show (roomW _).2 = (roomW _).2
    rw [h.z]
theorem Tw.dirt (h : Tw A B) {x : Int} (h0 : 0 ≤ x) (he : x % 2 = 0) : (mDirt A x).1 = (mDirt B x).1 ∧ Tw (mDirt A x).2 (mDirt B x).2 := by
  have ha := h.a.dirt x
  have hb := h.b.dirt x
  rw [dirt_is h0, of_even h.sa he] at ha ⊢
  rw [dirt_is h0, of_even h.sb he] at hb ⊢
  refine ⟨?_, h.upd0 ha hb ?_⟩
  · show Option.map _ _ = Option.map _ _
    rw [h.z, h.ewy]
  · show (dirtW _).2 = (dirtW _).2
    rw [h.z]
theorem Tw.size (h : Tw A B) : A.size = B.size := by unfold WM.size; rw [h.sa, h.sb, h.ewy]
theorem Tw.has (h : Tw A B) (p : Int) : mHas A p ↔ mHas B p := by unfold mHas; rw [h.size]
theorem Tw.find (h : Tw A B) {x : Int} (h0 : 0 ≤ x) (he : x % 2 = 0) : mFind A x = mFind B x := by
  rw [find_is h0, find_is h0, of_even h.sa he, of_even h.sb he, h.z, h.ewy]
theorem Tw.write (h : Tw A B) {i : Nat} (hi : i < A.wy) {v u : WSlot} (hA : WmOk (mWrite A i v)) (hB : WmOk (mWrite B i u)) (e : v = u) : Tw (mWrite A i v) (mWrite B i u) := by
  have d1 : i / A.wy = 0 := Nat.div_eq_of_lt hi
  have d2 : i / B.wy = 0 := Nat.div_eq_of_lt (by rw [← h.ewy]; exact hi)
  unfold mWrite at *
  rw [d1] at hA ⊢
  rw [d2] at hB ⊢
  exact h.upd0 hA hB (by rw [h.z, h.ewy, e])
theorem Tw.put (h : Tw A B) {x : Int} (h0 : 0 ≤ x) (he : x % 2 = 0) (p : Int) (d : Bool) : Tw (mPut A p x d) (mPut B p x d) := by
  have ha := h.a.put p x d
  have hb := h.b.put p x d
  unfold mPut at *
  have hc : (mHas A p ∧ 0 ≤ x ∧ x % (A.ss.length : Int) = p / (A.wy : Int) ∧ (mFind A x = none ∨ mFind A x = some p.toNat)) ↔ (mHas B p ∧ 0 ≤ x ∧ x % (B.ss.length : Int) = p / (B.wy : Int) ∧ (mFind B x = none ∨ mFind B x = some p.toNat)) := by
    rw [h.has p, h.sa, h.sb, h.ewy, h.find h0 he]
  by_cases c : mHas A p ∧ 0 ≤ x ∧ x % (A.ss.length : Int) = p / (A.wy : Int) ∧ (mFind A x = none ∨ mFind A x = some p.toNat)
  · rw [if_pos c] at ha ⊢
    rw [if_pos (hc.1 c)] at hb ⊢
    have hp : p.toNat < A.wy := by
      obtain ⟨c1, -, c3, -⟩ := c
      rw [h.sa] at c3
      have c4 : p / (A.wy : Int) = 0 := by rw [← c3]; exact he
      have h1 := h.a.wy1
      unfold mHas at c1
      have := Int.lt_ediv_add_one_mul_self p (show (0 : Int) < (A.wy : Int) by omega)
      rw [c4] at this
      omega
    exact h.write hp ha hb rfl
  · rw [if_neg c]
    rw [if_neg (fun c2 => c (hc.2 c2))]
    exact h
theorem Tw.clean (h : Tw A B) {i : Nat} (hi : i < A.wy) : Tw (mClean A (i : Int)) (mClean B (i : Int)) := by
  have ha := h.a.clean (i : Int)
  have hb := h.b.clean (i : Int)
  have hA : mHas A (i : Int) := by refine ⟨by omega, ?_⟩; have : A.size = 2 * A.wy := by unfold WM.size; rw [h.sa]
                                   omega
  unfold mClean at *
  rw [if_pos hA] at ha ⊢
  rw [if_pos ((h.has _).1 hA)] at hb ⊢
  rw [Int.toNat_natCast] at *
  have es : A.slot i = B.slot i := by
    unfold WM.slot
    rw [← h.ewy, Nat.div_eq_of_lt hi, h.z]
  exact h.write hi ha hb (by rw [es])
theorem Tw.upd1 (h : Tw A B) {x : WS} (hx : WmOk (A.upd 1 x)) : Tw (A.upd 1 x) B := by
  refine ⟨hx, h.b, by rw [upd_st]; exact h.sa, h.sb, h.ewy, ?_⟩
  rw [set_upd_other _ (by decide)]
  exact h.z
theorem Tw.roomOdd (h : Tw A B) {x : Int} (h0 : 0 ≤ x) (he : x % 2 = 1) : Tw (mRoom A x).2 B := by
  have ha := h.a.room x
  rw [room_is h0, of_odd h.sa he] at ha ⊢
  exact h.upd1 ha
theorem Tw.putOdd (h : Tw A B) {x : Int} (he : x % 2 = 1) (p : Int) (d : Bool) : Tw (mPut A p x d) B := by
  have ha := h.a.put p x d
  unfold mPut at *
  by_cases c : mHas A p ∧ 0 ≤ x ∧ x % (A.ss.length : Int) = p / (A.wy : Int) ∧ (mFind A x = none ∨ mFind A x = some p.toNat)
  · rw [if_pos c] at ha ⊢
    have hp : p.toNat / A.wy = 1 := by
      obtain ⟨c1, -, c3, -⟩ := c
      rw [h.sa] at c3
      have c4 : p / (A.wy : Int) = 1 := by rw [← c3]; exact he
      unfold mHas at c1
      have e2 : p / (A.wy : Int) = ((p.toNat / A.wy : Nat) : Int) := by
        rw [Int.natCast_ediv, Int.toNat_of_nonneg c1.1]
      omega
    unfold mWrite at *
    rw [hp] at ha ⊢
    exact h.upd1 ha
  · rw [if_neg c]
    exact h
theorem Tw.block (h : Tw A B) {i : Nat} (hi : i < A.wy) : bkOf A (i : Int) = bkOf B (i : Int) := by
  unfold bkOf
  have es : A.slot i = B.slot i := by
    unfold WM.slot
    rw [← h.ewy, Nat.div_eq_of_lt hi, h.z]
  rw [Int.toNat_natCast, es]
  by_cases c : mHas A (i : Int)
  · have c2 := (h.has _).1 c
    simp only [c, c2]
  · have c2 : ¬ mHas B (i : Int) := fun c2 => c ((h.has _).2 c2)
    simp only [c, c2]
theorem Tw.new {wy : Nat} (h1 : 1 ≤ wy) (h4 : wy ≤ 4) : Tw (mNew 2 wy) (mNew 2 wy) :=
  ⟨new_ok (by decide) (by decide) h1 h4, new_ok (by decide) (by decide) h1 h4, by simp [mNew], by simp [mNew], rfl, rfl⟩
/-- **Where there is no room all are dirty; the one at the hand is told; cleaned, room is made of it.** -/
theorem full_dirt (h : WmOk A) {x : Int} (h0 : 0 ≤ x) (hn : (mRoom A x).1 = none) :
    ∃ v, v < A.wy ∧ (mDirt A x).1 = some (A.of x * A.wy + v) ∧ (∀ w, w < A.wy → ((A.set (A.of x)).slot w).d = true ∧ 0 ≤ ((A.set (A.of x)).slot w).b) ∧
      (mRoom (mClean (mDirt A x).2 ((A.of x * A.wy + v : Nat) : Int)) x).1 = some (A.of x * A.wy + v) := by
  have hlt := of_lt h.st1 x
  have hs := h.sets _ hlt
  obtain ⟨s, hsd⟩ : ∃ s, A.of x = s := ⟨_, rfl⟩
  rw [room_is h0] at hn
  have hn2 : (roomW (A.set (A.of x))).1 = none := Option.map_eq_none_iff.1 hn
  rw [hsd] at hn2 hlt hs ⊢
  have hH : (A.set s).h < (A.set s).l.length := by rw [hs.len]; exact hs.hand
  have all := room_none hH hn2
  rw [hs.len] at all
  have hd := dirt_all hH (all _ hs.hand).1
  refine ⟨(A.set s).h, hs.hand, ?_, fun w hw => ⟨(all w hw).1, by have := (all w hw).2; omega⟩, ?_⟩
  · rw [dirt_is h0, hsd, hd]; rfl
  · have e1 : (mDirt A x).2 = A.upd s (A.set s).next := by rw [dirt_is h0, hsd, hd]
    rw [e1]
    have hsz : s * A.wy + (A.set s).h < A.size := at_lt hlt hs.hand
    have hHas : mHas (A.upd s (A.set s).next) ((s * A.wy + (A.set s).h : Nat) : Int) := ⟨by omega, by rw [upd_size]; omega⟩
    obtain ⟨X, hX⟩ : ∃ X, (A.set s).next.put (A.set s).h ⟨((A.set s).slot (A.set s).h).b, false, ((A.set s).slot (A.set s).h).k⟩ = X := ⟨_, rfl⟩
    have e2 : mClean (A.upd s (A.set s).next) ((s * A.wy + (A.set s).h : Nat) : Int) = A.upd s X := by
      unfold mClean
      rw [if_pos hHas, Int.toNat_natCast]
      have es : (A.upd s (A.set s).next).slot (s * A.wy + (A.set s).h) = (A.set s).slot (A.set s).h := by
        have := slot_at (m := A.upd s (A.set s).next) (s := s) (w := (A.set s).h) hs.hand
        rw [upd_wy, set_upd_same _ hlt] at this
        rw [this, slot_next]
      rw [es]
      unfold mWrite
      rw [upd_wy, at_div hs.hand, at_mod hs.hand, set_upd_same _ hlt, upd_upd, hX]
    rw [e2, room_is h0]
    have e3 : (A.upd s X).of x = s := by unfold WM.of; rw [upd_st]; exact hsd
    rw [e3, set_upd_same _ hlt, upd_wy]
    have hXl : X.l.length = (A.set s).l.length := by rw [← hX, put_len]; rfl
    have hXh : X.h < X.l.length := by rw [hXl, ← hX]; exact next_h (by omega)
    have hsame : ∀ u, u ≠ (A.set s).h → X.slot u = (A.set s).slot u := fun u hu => by rw [← hX, slot_put_other _ (fun e => hu e.symm), slot_next]
    have hat : X.slot (A.set s).h = ⟨((A.set s).slot (A.set s).h).b, false, ((A.set s).slot (A.set s).h).k⟩ := by rw [← hX, slot_put_same _ (by rw [next_len]; exact hH)]
    have hnb : ∀ t ∈ X.l, ¬ t.b < 0 := fun t ht => by
      obtain ⟨u, hu, rfl⟩ := List.getElem_of_mem ht
      have e4 : X.slot u = X.l[u] := by unfold WS.slot; rw [List.getElem?_eq_getElem hu]; rfl
      rw [← e4]
      by_cases e5 : u = (A.set s).h
      · rw [e5, hat]; exact (all _ hs.hand).2
      · rw [hsame u e5]; exact (all u (by rw [hXl, hs.len] at hu; exact hu)).2
    have := room_one hXh (fun t ht hb => absurd hb (hnb t ht)) hnb (w := (A.set s).h) (by rw [hXl]; exact hH) (by rw [hat]) (fun u hu hne => by rw [hsame u hne]; exact (all u (by rw [hXl, hs.len] at hu; exact hu)).1)
    rw [this]
    rfl
theorem clock_all : ∀ (n : Nat) (x : WS), x.h < x.l.length → (∀ w, w < x.l.length → (x.slot w).d = true) → clockW n x = (none, ⟨(x.h + n) % x.l.length, x.l⟩)
  | 0, x, hh, _ => by
    show (none, x) = _
    rw [Nat.add_zero, Nat.mod_eq_of_lt hh]
  | n + 1, x, hh, ha => by
    have h0 : 0 < x.l.length := by omega
    have e : clockW (n + 1) x = clockW n x.next := by
      show (if _ then _ else _) = _
      rw [if_pos (ha _ hh)]
    rw [e, clock_all n x.next (next_h h0) (fun w hw => ha w hw)]
    show (none, (⟨((x.h + 1) % x.l.length + n) % x.l.length, x.l⟩ : WS)) = _
    rw [Nat.mod_add_mod, show x.h + 1 + n = x.h + (n + 1) by omega]
/-- Where there is no room, nothing is changed. -/
theorem full_same (h : WmOk A) {x : Int} (h0 : 0 ≤ x) (hn : (mRoom A x).1 = none) : (mRoom A x).2 = A := by
  have hlt := of_lt h.st1 x
  have hs := h.sets _ hlt
  rw [room_is h0] at hn ⊢
  have hn2 : (roomW (A.set (A.of x))).1 = none := Option.map_eq_none_iff.1 hn
  have hH : (A.set (A.of x)).h < (A.set (A.of x)).l.length := by rw [hs.len]; exact hs.hand
  have all := room_none hH hn2
  have he : emptyW (A.set (A.of x)).l = none := by
    cases he : emptyW (A.set (A.of x)).l with
    | none => rfl
    | some v => unfold roomW at hn2; rw [he] at hn2; cases hn2
  have e : roomW (A.set (A.of x)) = (none, A.set (A.of x)) := by
    unfold roomW
    rw [he]
    show clockW _ _ = _
    rw [clock_all _ _ hH (fun w hw => (all w hw).1)]
    have e2 : ((A.set (A.of x)).h + 2 * (A.set (A.of x)).l.length) % (A.set (A.of x)).l.length = (A.set (A.of x)).h := by
      rw [Nat.add_mul_mod_self_right, Nat.mod_eq_of_lt hH]
    rw [e2]
  rw [e]
  exact tw_upd_id hlt
end
end Go.Proofs.Ytlpmikbplngmnaa
