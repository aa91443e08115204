/- What is found behind a Put; no block in two slots, each in its own set; no program is named. -/
import Derived.Test.YtlpmikbplngmnaaWyTw
namespace Go.Proofs.Ytlpmikbplngmnaa
set_option linter.unusedVariables false
variable {A : WM}
theorem ap_found (h : WmOk A) {n : Int} (h0 : 0 ≤ n) {i : Nat} (hi : i < A.size) (hs : i / A.wy = A.of n) (hb : (A.slot i).b = n) : ∃ k, mFind A n = some k := by
  cases e : mFind A n with
  | some k => exact ⟨k, rfl⟩
  | none =>
    have := find_none h h0 e (i % A.wy) (Nat.mod_lt _ h.wy1)
    rw [← hs] at this
    exact absurd hb this
theorem ap_write (h : WmOk A) {i : Nat} (hi : i < A.size) (v : WSlot) : (mWrite A i v).slot i = v := by
  have hl := h.lens
  show ((A.upd (i / A.wy) _).set (i / A.wy)).slot (i % A.wy) = v
  rw [set_upd_same _ (div_lt hi), slot_put_same v (by rw [hl.sets _ (div_lt hi)]; exact Nat.mod_lt _ h.wy1)]
theorem ap_put (h : WmOk A) {n : Int} (h0 : 0 ≤ n) {i : Nat} (hi : i < A.size) (hs : i / A.wy = A.of n) (hf : mFind A n = none ∨ mFind A n = some i) (d : Bool) :
    ∃ k, mFind (mPut A (i : Int) n d) n = some k := by
  have hok := h.put (i : Int) n d
  have e : mPut A (i : Int) n d = mWrite A i ⟨n, d, true⟩ := by
    unfold mPut
    rw [if_pos ⟨⟨by omega, by omega⟩, h0, by rw [of_eq h.st1 n, ← hs]; simp, by rw [Int.toNat_natCast]; exact hf⟩, Int.toNat_natCast]
  rw [e] at hok ⊢
  have ho : (mWrite A i ⟨n, d, true⟩).of n = A.of n := by unfold WM.of mWrite; rw [upd_st]
  exact ap_found hok h0 (i := i) (by unfold mWrite; rw [upd_size]; exact hi) (by rw [ho]; exact hs) (by rw [ap_write h hi])
theorem ap_room_st (A : WM) (n : Int) : (mRoom A n).2.ss.length = A.ss.length ∧ (mRoom A n).2.wy = A.wy := by
  unfold mRoom
  split
  · exact ⟨rfl, rfl⟩
  · exact ⟨upd_st _ _ _, rfl⟩
theorem ap_dirt_st (A : WM) (n : Int) : (mDirt A n).2.ss.length = A.ss.length ∧ (mDirt A n).2.wy = A.wy := by
  unfold mDirt
  split
  · exact ⟨rfl, rfl⟩
  · exact ⟨upd_st _ _ _, rfl⟩
theorem ap_put_st (A : WM) (i n : Int) (d : Bool) : (mPut A i n d).ss.length = A.ss.length ∧ (mPut A i n d).wy = A.wy := by
  unfold mPut
  split
  · exact ⟨upd_st _ _ _, rfl⟩
  · exact ⟨rfl, rfl⟩
theorem ap_clean_st (A : WM) (i : Int) : (mClean A i).ss.length = A.ss.length ∧ (mClean A i).wy = A.wy := by
  unfold mClean
  split
  · exact ⟨upd_st _ _ _, rfl⟩
  · exact ⟨rfl, rfl⟩
/-- No slot of its set has the block. -/
def NoIn (A : WM) (n : Int) : Prop := ∀ w, w < A.wy → ((A.set (A.of n)).slot w).b ≠ n
theorem noin_find (h : WmOk A) {n : Int} (h0 : 0 ≤ n) : NoIn A n ↔ mFind A n = none := by
  constructor
  · intro hn
    cases e : mFind A n with
    | none => rfl
    | some i =>
      obtain ⟨-, hi, hb, hs⟩ := find_some h e
      have := hn (i % A.wy) (Nat.mod_lt _ h.wy1)
      rw [← hs] at this
      exact absurd hb this
  · intro e
    exact find_none h h0 e
theorem noin_room (h : WmOk A) {n : Int} (h0 : 0 ≤ n) (hn : NoIn A n) : NoIn (mRoom A n).2 n := by
  have hlt := of_lt h.st1 n
  have hs := h.sets _ hlt
  intro w hw
  rw [(ap_room_st A n).2] at hw
  have ho : (mRoom A n).2.of n = A.of n := by unfold WM.of; rw [(ap_room_st A n).1]
  rw [ho, room_is h0]
  show (((A.upd _ _).set _).slot w).b ≠ n
  rw [set_upd_same _ hlt]
  cases hr : (roomW (A.set (A.of n))).1 with
  | some v =>
    obtain ⟨a1, a2, a3, a4, a5, a6⟩ := room_some (by rw [hs.len]; exact hs.hand) hs.bare hr
    by_cases e : w = v
    · rw [e, a3]
      show (-1 : Int) ≠ n
      omega
    · rw [(a6 w e).1]
      exact hn w hw
  | none =>
    have h2 : (mRoom A n).1 = none := by rw [room_is h0, hr]; rfl
    have h3 := full_same h h0 h2
    rw [room_is h0] at h3
    have h4 : (A.upd (A.of n) (roomW (A.set (A.of n))).2).set (A.of n) = A.set (A.of n) := congrArg (fun m => m.set (A.of n)) h3
    rw [set_upd_same _ hlt] at h4
    rw [h4]
    exact hn w hw
theorem room_at (h : WmOk A) {n : Int} (h0 : 0 ≤ n) {i : Nat} (hr : (mRoom A n).1 = some i) : i < A.size ∧ i / A.wy = A.of n := by
  have hlt := of_lt h.st1 n
  have hs := h.sets _ hlt
  rw [room_is h0] at hr
  obtain ⟨w, hw, rfl⟩ := Option.map_eq_some_iff.1 hr
  have hwl := (room_some (by rw [hs.len]; exact hs.hand) hs.bare hw).1
  rw [hs.len] at hwl
  exact ⟨at_lt hlt hwl, at_div hwl⟩
/-- Behind room that was made and a Put the block is there. -/
theorem ap_room_put (h : WmOk A) {n : Int} (h0 : 0 ≤ n) (hn : NoIn A n) {i : Nat} (hr : (mRoom A n).1 = some i) (d : Bool) : ∃ k, mFind (mPut (mRoom A n).2 (i : Int) n d) n = some k := by
  obtain ⟨r1, r2⟩ := room_at h h0 hr
  have hst := ap_room_st A n
  have ho : (mRoom A n).2.of n = A.of n := by unfold WM.of; rw [hst.1]
  have hz : (mRoom A n).2.size = A.size := by unfold WM.size; rw [hst.1, hst.2]
  exact ap_put (h.room n) h0 (by rw [hz]; exact r1) (by rw [hst.2, ho]; exact r2) (.inl ((noin_find (h.room n) h0).1 (noin_room h h0 hn))) d
theorem noin_dirt (h : WmOk A) {n : Int} (h0 : 0 ≤ n) (hn : NoIn A n) : NoIn (mDirt A n).2 n := by
  have hlt := of_lt h.st1 n
  have hs := h.sets _ hlt
  intro w hw
  rw [(ap_dirt_st A n).2] at hw
  have ho : (mDirt A n).2.of n = A.of n := by unfold WM.of; rw [(ap_dirt_st A n).1]
  rw [ho, dirt_is h0]
  show (((A.upd _ _).set _).slot w).b ≠ n
  rw [set_upd_same _ hlt]
  have := dirtW_keeps (x := A.set (A.of n)) (by rw [hs.len]; exact hs.hand)
  unfold WS.slot
  rw [this.1]
  exact hn w hw
theorem noin_clean (h : WmOk A) {n : Int} (hn : NoIn A n) (i : Int) : NoIn (mClean A i) n := by
  have hst := ap_clean_st A i
  have ho : (mClean A i).of n = A.of n := by unfold WM.of; rw [hst.1]
  intro w hw
  rw [hst.2] at hw
  rw [ho]
  have hlt := of_lt h.st1 n
  have key : ∀ j, j < A.size → ((mClean A i).slot j).b = (A.slot j).b := fun j hj => by
    unfold mClean
    split
    · rename_i hi
      have hi2 := has_nat13 hi
      have h1 := wy_flat_get (m := mWrite A i.toNat ⟨(A.slot i.toNat).b, false, (A.slot i.toNat).k⟩) (i := j) (by unfold mWrite; rw [upd_size]; exact hj)
      rw [flat_write h.lens hi2, List.getElem?_set] at h1
      by_cases e : i.toNat = j
      · rw [if_pos e, if_pos (by rw [wy_flat_len]; exact hi2)] at h1
        rw [← Option.some.inj h1, e]
      · rw [if_neg e, wy_flat_get hj] at h1
        rw [← Option.some.inj h1]
    · rfl
  have h1 := slot_at (m := mClean A i) (s := A.of n) (w := w) (by rw [hst.2]; exact hw)
  have h2 := slot_at (m := A) (s := A.of n) (w := w) hw
  rw [hst.2] at h1
  rw [← h1, key _ (at_lt hlt hw), h2]
  exact hn w hw
/-- No block in two slots. -/
theorem ap_one (h : WmOk A) {x y : Nat} (hx : x < A.size) (hy : y < A.size) (hne : x ≠ y) (hb : ¬ (A.slot x).b < 0) : (A.slot x).b ≠ (A.slot y).b := by
  intro e
  have h1 := h.sets _ (div_lt hx)
  have h2 := h.sets _ (div_lt hy)
  have mx : x % A.wy < A.wy := Nat.mod_lt _ h.wy1
  have my : y % A.wy < A.wy := Nat.mod_lt _ h.wy1
  have o1 : (A.slot x).b % (A.ss.length : Int) = ((x / A.wy : Nat) : Int) := h1.own _ mx hb
  have o2 : (A.slot y).b % (A.ss.length : Int) = ((y / A.wy : Nat) : Int) := h2.own _ my (by show ¬ (A.slot y).b < 0; rw [← e]; exact hb)
  rw [e] at o1
  have hd : x / A.wy = y / A.wy := by omega
  have e2 : ((A.set (x / A.wy)).slot (x % A.wy)).b = ((A.set (x / A.wy)).slot (y % A.wy)).b := by
    have e3 : ((A.set (x / A.wy)).slot (x % A.wy)).b = ((A.set (y / A.wy)).slot (y % A.wy)).b := e
    rw [e3, hd]
  have hm := h1.one _ _ mx my hb e2
  have q1 := Nat.div_add_mod x A.wy
  have q2 := Nat.div_add_mod y A.wy
  rw [hd, hm] at q1
  omega
theorem ap_own (h : WmOk A) {x : Nat} (hx : x < A.size) (hb : ¬ (A.slot x).b < 0) : (A.slot x).b % (A.ss.length : Int) = ((x / A.wy : Nat) : Int) :=
  (h.sets _ (div_lt hx)).own _ (Nat.mod_lt _ h.wy1) hb
theorem ap_bk (h : WmOk A) {x : Nat} (hx : x < A.size) : ((bkOf A (x : Int)).2.2 = true → (bkOf A (x : Int)).1 = (A.slot x).b ∧ ¬ (A.slot x).b < 0) := by
  unfold bkOf
  rw [Int.toNat_natCast]
  split
  · rename_i c
    exact fun _ => ⟨rfl, c.2⟩
  · intro e; cases e
/-- What the dirty slots of a full set are told as. -/
theorem ap_dirty {s w : Nat} (hs : s < A.ss.length) (hw : w < A.wy) : (mDirty A)[s * A.wy + w]? = some (if ((A.set s).slot w).d then ((A.set s).slot w).b else -1) := by
  unfold mDirty
  have hz : s * A.wy + w < A.size := at_lt hs hw
  rw [List.getElem?_map, List.getElem?_range hz]
  have e := slot_at (m := A) (s := s) hw
  show some (if (A.slot (s * A.wy + w)).d then (A.slot (s * A.wy + w)).b else -1) = _
  rw [e]
end Go.Proofs.Ytlpmikbplngmnaa
