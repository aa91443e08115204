/- Maps of blocks in slots: the whole map, slot by slot; plain facts; no program is named. -/
import Derived.Test.YtlpmikbplngmnaaWyMath
namespace Go.Proofs.Ytlpmikbplngmnaa
set_option linter.unusedVariables false

/-- A map: so many ways, and its sets. -/
structure WM where
  wy : Nat
  ss : List WS
def ws0 : WS := ⟨0, []⟩
def WM.set (m : WM) (s : Nat) : WS := m.ss[s]?.getD ws0
def WM.upd (m : WM) (s : Nat) (x : WS) : WM := ⟨m.wy, m.ss.set s x⟩
/-- The set of a block. -/
def WM.of (m : WM) (b : Int) : Nat := (b % (m.ss.length : Int)).toNat
def WM.slot (m : WM) (i : Nat) : WSlot := (m.set (i / m.wy)).slot (i % m.wy)
def WM.size (m : WM) : Nat := m.ss.length * m.wy
def mFind (m : WM) (b : Int) : Option Nat := if b < 0 then none else (findW (m.set (m.of b)).l b).map fun w => m.of b * m.wy + w
def mRoom (m : WM) (b : Int) : Option Nat × WM := if b < 0 then (none, m) else ((roomW (m.set (m.of b))).1.map (fun w => m.of b * m.wy + w), m.upd (m.of b) (roomW (m.set (m.of b))).2)
def mDirt (m : WM) (b : Int) : Option Nat × WM := if b < 0 then (none, m) else ((dirtW (m.set (m.of b))).1.map (fun w => m.of b * m.wy + w), m.upd (m.of b) (dirtW (m.set (m.of b))).2)
def mWrite (m : WM) (i : Nat) (v : WSlot) : WM := m.upd (i / m.wy) ((m.set (i / m.wy)).put (i % m.wy) v)
def mHas (m : WM) (i : Int) : Prop := 0 ≤ i ∧ i < (m.size : Int)
instance (m : WM) (i : Int) : Decidable (mHas m i) := inferInstanceAs (Decidable (_ ∧ _))
def mPut (m : WM) (i b : Int) (d : Bool) : WM := if mHas m i ∧ 0 ≤ b ∧ b % (m.ss.length : Int) = i / (m.wy : Int) ∧ (mFind m b = none ∨ mFind m b = some i.toNat) then mWrite m i.toNat ⟨b, d, true⟩ else m
def mClean (m : WM) (i : Int) : WM := if mHas m i then mWrite m i.toNat ⟨(m.slot i.toNat).b, false, (m.slot i.toNat).k⟩ else m
def mDrop (m : WM) (i : Int) : WM := if mHas m i then mWrite m i.toNat wE else m
def mTouch (m : WM) (i : Int) : WM := if mHas m i ∧ ¬ (m.slot i.toNat).b < 0 then mWrite m i.toNat ⟨(m.slot i.toNat).b, (m.slot i.toNat).d, true⟩ else m
def mDirty (m : WM) : List Int := (List.range m.size).map fun i => if (m.slot i).d then (m.slot i).b else -1
def mNew (st wy : Nat) : WM := ⟨wy, List.replicate st ⟨0, List.replicate wy wE⟩⟩

/-- A set that may be. -/
structure WsOk (st wy s : Nat) (x : WS) : Prop where
  len : x.l.length = wy
  hand : x.h < wy
  bare : x.Bare
  own : ∀ w, w < wy → ¬ (x.slot w).b < 0 → (x.slot w).b % (st : Int) = (s : Int)
  one : ∀ w u, w < wy → u < wy → ¬ (x.slot w).b < 0 → (x.slot w).b = (x.slot u).b → w = u
structure WmOk (m : WM) : Prop where
  st1 : 1 ≤ m.ss.length
  st8 : m.ss.length ≤ 8
  wy1 : 1 ≤ m.wy
  wy4 : m.wy ≤ 4
  sets : ∀ s, s < m.ss.length → WsOk m.ss.length m.wy s (m.set s)

theorem set_upd_same {m : WM} {s : Nat} (x : WS) (h : s < m.ss.length) : (m.upd s x).set s = x := by
  unfold WM.set WM.upd
  rw [List.getElem?_set_self h]; rfl
theorem set_upd_other {m : WM} {s t : Nat} (x : WS) (h : s ≠ t) : (m.upd s x).set t = m.set t := by
  unfold WM.set WM.upd
  rw [List.getElem?_set_ne h]
theorem upd_st (m : WM) (s : Nat) (x : WS) : (m.upd s x).ss.length = m.ss.length := by unfold WM.upd; simp
theorem of_lt {m : WM} (h : 1 ≤ m.ss.length) (b : Int) : m.of b < m.ss.length := by
  unfold WM.of
  have h1 := Int.emod_nonneg b (show ((m.ss.length : Nat) : Int) ≠ 0 by omega)
  have h2 := Int.emod_lt_of_pos b (show (0 : Int) < ((m.ss.length : Nat) : Int) by omega)
  omega
theorem of_eq {m : WM} (h : 1 ≤ m.ss.length) (b : Int) : b % (m.ss.length : Int) = (m.of b : Int) := by
  unfold WM.of
  have h1 := Int.emod_nonneg b (show ((m.ss.length : Nat) : Int) ≠ 0 by omega)
  omega
theorem at_div {wy s w : Nat} (h : w < wy) : (s * wy + w) / wy = s := by
  rw [Nat.mul_comm, Nat.mul_add_div (by omega), Nat.div_eq_of_lt h, Nat.add_zero]
theorem at_mod {wy s w : Nat} (h : w < wy) : (s * wy + w) % wy = w := by
  rw [Nat.mul_comm, Nat.mul_add_mod, Nat.mod_eq_of_lt h]
theorem at_lt {wy s w st : Nat} (hs : s < st) (h : w < wy) : s * wy + w < st * wy := by
  have : (s + 1) * wy ≤ st * wy := Nat.mul_le_mul_right _ hs
  rw [Nat.add_mul] at this
  omega
theorem div_lt {m : WM} {i : Nat} (h : i < m.size) : i / m.wy < m.ss.length := by
  unfold WM.size at h
  exact Nat.div_lt_of_lt_mul (by rw [Nat.mul_comm]; exact h)
theorem slot_at {m : WM} {s w : Nat} (h : w < m.wy) : m.slot (s * m.wy + w) = (m.set s).slot w := by
  unfold WM.slot
  rw [at_div h, at_mod h]
/-- With one set in the place of another one that may be. -/
theorem WmOk.upd {m : WM} (h : WmOk m) {s : Nat} {x : WS} (hs : s < m.ss.length) (hx : WsOk m.ss.length m.wy s x) : WmOk (m.upd s x) := by
  refine ⟨by rw [upd_st]; exact h.st1, by rw [upd_st]; exact h.st8, h.wy1, h.wy4, fun t ht => ?_⟩
  rw [upd_st] at ht ⊢
  by_cases e : s = t
  · subst e
    rw [set_upd_same x hs]
    exact hx
  · rw [set_upd_other x e]
    exact h.sets t ht
/-- A set whose slots keep their blocks, or lose them, may be. -/
theorem WsOk.less {st wy s : Nat} {x y : WS} (h : WsOk st wy s x) (hl : y.l.length = x.l.length) (hh : y.h < wy) (hs : ∀ w, w < wy → (y.slot w = wE ∨ (y.slot w).b = (x.slot w).b)) (hb : y.Bare) : WsOk st wy s y := by
  have hne : ∀ w, w < wy → ¬ (y.slot w).b < 0 → (y.slot w).b = (x.slot w).b := fun w hw hn => by
    rcases hs w hw with e | e
    · rw [e] at hn; exact absurd (show wE.b < 0 by decide) hn
    · exact e
  refine ⟨by rw [hl, h.len], hh, hb, fun w hw hn => ?_, fun w u hw hu hn e => ?_⟩
  · have e0 := hne w hw hn
    rw [e0] at hn ⊢
    exact h.own w hw hn
  · have hnu : ¬ (y.slot u).b < 0 := by rw [← e]; exact hn
    have e0 := hne w hw hn
    rw [e0, hne u hu hnu] at e
    rw [e0] at hn
    exact h.one w u hw hu hn e
theorem bare_iff {x : WS} : x.Bare ↔ ∀ w, w < x.l.length → (x.slot w).b < 0 → x.slot w = wE := by
  constructor
  · intro h w hw hb
    exact h _ (slot_mem hw) hb
  · intro h s hs hb
    obtain ⟨w, hw, rfl⟩ := List.getElem_of_mem hs
    have e : x.slot w = x.l[w] := by unfold WS.slot; rw [List.getElem?_eq_getElem hw]; rfl
    rw [← e] at hb ⊢
    exact h w hw hb
theorem WsOk.put {st wy s : Nat} {x : WS} (h : WsOk st wy s x) {w : Nat} (hw : w < wy) {v : WSlot} (hv : v.b < 0 → v = wE) (ho : ¬ v.b < 0 → v.b % (st : Int) = (s : Int)) (hu : ¬ v.b < 0 → ∀ u, u < wy → u ≠ w → (x.slot u).b ≠ v.b) : WsOk st wy s (x.put w v) := by
  have hwl : w < x.l.length := by rw [h.len]; exact hw
  refine ⟨by rw [put_len, h.len], h.hand, ?_, fun u hu2 hn => ?_, fun u t hu2 ht hn e => ?_⟩
  · rw [bare_iff]
    intro u hu2 hb
    rw [put_len] at hu2
    by_cases e : w = u
    · subst e
      rw [slot_put_same v hwl] at hb ⊢
      exact hv hb
    · rw [slot_put_other v e] at hb ⊢
      exact bare_iff.1 h.bare u hu2 hb
  · by_cases e : w = u
    · subst e
      rw [slot_put_same v hwl] at hn ⊢
      exact ho hn
    · rw [slot_put_other v e] at hn ⊢
      exact h.own u hu2 hn
  · by_cases e1 : w = u
    · subst e1
      by_cases e2 : w = t
      · exact e2
      · rw [slot_put_same v hwl] at hn e
        rw [slot_put_other v e2] at e
        exact absurd e.symm (hu hn t ht (fun e3 => e2 e3.symm))
    · rw [slot_put_other v e1] at hn e
      by_cases e2 : w = t
      · subst e2
        rw [slot_put_same v hwl] at e
        exact absurd e (hu (by rw [← e]; exact hn) u hu2 (fun e3 => e1 e3.symm))
      · rw [slot_put_other v e2] at e
        exact h.one u t hu2 ht hn e
/-- What Room leaves of a set may be. -/
theorem WsOk.room {st wy s : Nat} {x : WS} (h : WsOk st wy s x) : WsOk st wy s (roomW x).2 := by
  have hh : x.h < x.l.length := by rw [h.len]; exact h.hand
  have key : ∀ y : WS, y.l.length = x.l.length → y.h < x.l.length → (∀ w, w < x.l.length → (y.slot w = wE ∨ ((y.slot w).b = (x.slot w).b ∧ (y.slot w).d = (x.slot w).d ∧ ((y.slot w).k = true → (x.slot w).k = true)))) → WsOk st wy s y := fun y hl hy hk => by
    refine h.less hl (by rw [← h.len]; exact hy) (fun w hw => ?_) ?_
    · rcases hk w (by rw [h.len]; exact hw) with e | e
      · exact .inl e
      · exact .inr e.1
    · rw [bare_iff]
      intro w hw hb
      rw [hl] at hw
      rcases hk w hw with e | ⟨e1, e2, e3⟩
      · exact e
      · have hE := bare_iff.1 h.bare w hw (by rw [← e1]; exact hb)
        rw [hE] at e1 e2 e3
        have e4 : (y.slot w).k = false := by
          cases hkk : (y.slot w).k with
          | false => rfl
          | true => have := e3 hkk; cases this
        cases hyw : y.slot w with
        | mk b d k =>
          rw [hyw] at e1 e2 e4
          simp only at e1 e2 e4
          rw [e1, e2, e4]
          rfl
  cases hr : (roomW x).1 with
  | some w =>
    obtain ⟨h1, h2, h3, h4, h5, h6⟩ := room_some hh h.bare hr
    refine key _ h4 h5 fun u hu => ?_
    by_cases e : u = w
    · subst e; exact .inl h3
    · exact .inr (h6 u e)
  | none =>
    have he : emptyW x.l = none := by
      cases he : emptyW x.l with
      | none => rfl
      | some v => unfold roomW at hr; rw [he] at hr; cases hr
    have e2 : roomW x = clockW (2 * x.l.length) x := by unfold roomW; rw [he]
    obtain ⟨i1, i2, i3, i4⟩ := clock_keeps (2 * x.l.length) x hh
    rw [e2] at hr ⊢
    exact key _ i1 i2 fun u _ => .inr (i4 u (fun e => by rw [hr] at e; cases e))
theorem dirtW_keeps {x : WS} (hh : x.h < x.l.length) : (dirtW x).2.l = x.l ∧ (dirtW x).2.h < x.l.length := by
  unfold dirtW
  split
  · exact ⟨rfl, Nat.mod_lt _ (by omega)⟩
  · exact ⟨rfl, hh⟩
theorem WsOk.dirt {st wy s : Nat} {x : WS} (h : WsOk st wy s x) : WsOk st wy s (dirtW x).2 := by
  obtain ⟨h1, h2⟩ := dirtW_keeps (x := x) (by rw [h.len]; exact h.hand)
  have hs : ∀ w, (dirtW x).2.slot w = x.slot w := fun w => by unfold WS.slot; rw [h1]
  refine h.less (by rw [h1]) (by rw [← h.len]; exact h2) (fun w _ => .inr (by rw [hs])) ?_
  unfold WS.Bare
  rw [h1]
  exact h.bare
theorem new_ok {st wy : Nat} (h1 : 1 ≤ st) (h8 : st ≤ 8) (h2 : 1 ≤ wy) (h4 : wy ≤ 4) : WmOk (mNew st wy) := by
  refine ⟨by simpa [mNew] using h1, by simpa [mNew] using h8, h2, h4, fun s hs => ?_⟩
  have hs' : s < st := by simpa [mNew] using hs
  have e : (mNew st wy).set s = ⟨0, List.replicate wy wE⟩ := by unfold WM.set mNew; simp [hs']
  have hsl : ∀ w, (⟨0, List.replicate wy wE⟩ : WS).slot w = wE := fun w => by
    unfold WS.slot
    by_cases hw : w < wy
    · simp [hw]
    · simp [hw]
  rw [e]
  refine ⟨by simp [mNew], by show 0 < wy; omega, fun s hs _ => (List.mem_replicate.1 hs).2, fun w _ hn => ?_, fun w u _ _ hn _ => ?_⟩
  · rw [hsl] at hn; exact absurd (show wE.b < 0 by decide) hn
  · rw [hsl] at hn; exact absurd (show wE.b < 0 by decide) hn
/-! Every step leaves a map that may be. -/
theorem WmOk.room {m : WM} (h : WmOk m) (b : Int) : WmOk (mRoom m b).2 := by
  unfold mRoom
  split
  · exact h
  · exact h.upd (of_lt h.st1 b) (h.sets _ (of_lt h.st1 b)).room
theorem WmOk.dirt {m : WM} (h : WmOk m) (b : Int) : WmOk (mDirt m b).2 := by
  unfold mDirt
  split
  · exact h
  · exact h.upd (of_lt h.st1 b) (h.sets _ (of_lt h.st1 b)).dirt
theorem findW_some {l : List WSlot} {b : Int} {w : Nat} (h : findW l b = some w) : ∃ s, l[w]? = some s ∧ s.b = b := by
  unfold findW at h
  rw [List.findIdx?_eq_some_iff_getElem] at h
  obtain ⟨h1, h2, -⟩ := h
  exact ⟨l[w], List.getElem?_eq_getElem h1, by simpa using h2⟩
theorem findW_none {l : List WSlot} {b : Int} (h : findW l b = none) : ∀ s ∈ l, s.b ≠ b := by
  unfold findW at h
  rw [List.findIdx?_eq_none_iff] at h
  intro s hs
  simpa using h s hs
theorem find_some {m : WM} (h : WmOk m) {b : Int} {i : Nat} (hf : mFind m b = some i) : 0 ≤ b ∧ i < m.size ∧ (m.slot i).b = b ∧ i / m.wy = m.of b := by
  unfold mFind at hf
  split at hf
  · cases hf
  · rename_i hb
    obtain ⟨w, hw, rfl⟩ := Option.map_eq_some_iff.1 hf
    obtain ⟨s, hs, hsb⟩ := findW_some hw
    have hl := (List.getElem?_eq_some_iff.1 hs).1
    rw [(h.sets _ (of_lt h.st1 b)).len] at hl
    refine ⟨by omega, at_lt (of_lt h.st1 b) hl, ?_, at_div hl⟩
    rw [slot_at hl]
    unfold WS.slot
    rw [hs]
    exact hsb
theorem find_none {m : WM} (h : WmOk m) {b : Int} (hb : 0 ≤ b) (hf : mFind m b = none) : ∀ w, w < m.wy → ((m.set (m.of b)).slot w).b ≠ b := by
  unfold mFind at hf
  rw [if_neg (by omega)] at hf
  have hn := findW_none (Option.map_eq_none_iff.1 hf)
  intro w hw
  exact hn _ (slot_mem (by rw [(h.sets _ (of_lt h.st1 b)).len]; exact hw))
theorem WmOk.write {m : WM} (h : WmOk m) {i : Nat} (hi : i < m.size) {v : WSlot} (hv : v.b < 0 → v = wE) (ho : ¬ v.b < 0 → v.b % (m.ss.length : Int) = ((i / m.wy : Nat) : Int)) (hu : ¬ v.b < 0 → ∀ u, u < m.wy → u ≠ i % m.wy → ((m.set (i / m.wy)).slot u).b ≠ v.b) : WmOk (mWrite m i v) :=
  h.upd (div_lt hi) ((h.sets _ (div_lt hi)).put (Nat.mod_lt _ h.wy1) hv ho hu)
theorem has_nat13 {m : WM} {i : Int} (h : mHas m i) : i.toNat < m.size := by unfold mHas at h; omega
/-- A slot that keeps its block. -/
theorem WmOk.same {m : WM} (h : WmOk m) {i : Nat} (hi : i < m.size) {v : WSlot} (hv : v.b = (m.slot i).b) (hE : v.b < 0 → v = wE) : WmOk (mWrite m i v) := by
  have hs := h.sets _ (div_lt hi)
  have hw : i % m.wy < m.wy := Nat.mod_lt _ h.wy1
  refine h.write hi hE (fun hn => ?_) (fun hn u hu hne e => ?_)
  · rw [hv] at hn ⊢
    exact hs.own _ hw hn
  · rw [hv] at e hn
    exact hne (hs.one u (i % m.wy) hu hw (by rw [e]; exact hn) e)
theorem WmOk.clean {m : WM} (h : WmOk m) (i : Int) : WmOk (mClean m i) := by
  unfold mClean
  split
  · rename_i hi
    have hi2 := has_nat13 hi
    refine h.same hi2 rfl fun hb => ?_
    have hE := bare_iff.1 (h.sets _ (div_lt hi2)).bare _ (by rw [(h.sets _ (div_lt hi2)).len]; exact Nat.mod_lt _ h.wy1) hb
    show (⟨(m.slot i.toNat).b, false, (m.slot i.toNat).k⟩ : WSlot) = wE
    have e : m.slot i.toNat = wE := hE
    rw [e]
    rfl
  · exact h
theorem WmOk.drop {m : WM} (h : WmOk m) (i : Int) : WmOk (mDrop m i) := by
  unfold mDrop
  split
  · rename_i hi
    exact h.write (has_nat13 hi) (fun _ => rfl) (fun hn => absurd (show wE.b < 0 by decide) hn) (fun hn => absurd (show wE.b < 0 by decide) hn)
  · exact h
theorem WmOk.touch {m : WM} (h : WmOk m) (i : Int) : WmOk (mTouch m i) := by
  unfold mTouch
  split
  · rename_i hi
    exact h.same (has_nat13 hi.1) rfl fun hb => absurd hb hi.2
  · exact h
theorem WmOk.put {m : WM} (h : WmOk m) (i b : Int) (d : Bool) : WmOk (mPut m i b d) := by
  unfold mPut
  split
  · rename_i hc
    obtain ⟨h1, h2, h3, h4⟩ := hc
    have hi := has_nat13 h1
    have hof : i.toNat / m.wy = m.of b := by
      have e1 := of_eq h.st1 b
      rw [e1] at h3
      unfold mHas at h1
      have e2 : i / (m.wy : Int) = ((i.toNat / m.wy : Nat) : Int) := by
        rw [Int.natCast_ediv, Int.toNat_of_nonneg h1.1]
      rw [e2] at h3
      omega
    refine h.write hi (fun hb => absurd hb (by show ¬ b < 0; omega)) (fun _ => ?_) (fun _ u hu hne e => ?_)
    · show b % (m.ss.length : Int) = _
      rw [of_eq h.st1 b, hof]
    · rw [hof] at e
      have e3 : ((m.set (m.of b)).slot u).b = b := e
      rcases h4 with h4 | h4
      · exact find_none h h2 h4 u hu e3
      · obtain ⟨-, -, f3, f4⟩ := find_some h h4
        unfold WM.slot at f3
        rw [hof] at f3
        exact hne ((h.sets _ (of_lt h.st1 b)).one u (i.toNat % m.wy) hu (Nat.mod_lt _ h.wy1) (by rw [e3]; omega) (by rw [e3, f3]))
  · exact h
end Go.Proofs.Ytlpmikbplngmnaa
