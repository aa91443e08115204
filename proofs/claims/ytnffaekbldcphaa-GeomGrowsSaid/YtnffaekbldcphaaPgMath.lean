/- Marked sectors and their bytes; no program. -/
import Derived.Test.YtnffaekbldcphaaMath
import Derived.Test.YtnffaekbldcphaaFnvMath
namespace Go.Proofs.Ytnffaekbldcphaa
open Go.RowKit
set_option linter.unusedVariables false

/-- A marked sector. -/
structure Sct where
  mark : Int
  seq : Int
  index : Int
  body : List Int
structure Sct.Ok (p : Sct) : Prop where
  mark : 0 ≤ p.mark ∧ p.mark < 256
  seq : 0 ≤ p.seq ∧ p.seq < 4294967296
  len : p.body.length = 48
  bytes : IsBytes p.body
/-- May it be? -/
def Sct.fits (p : Sct) : Bool := decide (p.mark ≠ 0 ∧ 0 ≤ p.index ∧ p.index ≤ 65535)
/-- Its bytes ahead of the check; all of them. -/
def Sct.head (p : Sct) : List Int := p.mark :: (putL p.seq 4 ++ (putL p.index 2 ++ p.body))
def chk (bs : List Int) : Int := fnvMore fnvInit bs
def Sct.bytes (p : Sct) : List Int := p.head ++ (putL (chk p.head) 8 ++ [0])
/-- The sector that bytes are, if they are one. -/
def Sct.of (bs : List Int) : Sct := ⟨bs[0]?.getD 0, getL ((bs.drop 1).take 4), getL ((bs.drop 5).take 2), (bs.drop 7).take 48⟩
def zsct : Sct := ⟨0, 0, 0, List.replicate 48 0⟩

theorem chk_u64 (bs : List Int) : 0 ≤ chk bs ∧ chk bs < 18446744073709551616 := isU64_more bs isU64_init
theorem IsBytes.app {as0 bs : List Int} (ha : IsBytes as0) (hb : IsBytes bs) : IsBytes (as0 ++ bs) := by
  intro j
  by_cases hj : j < as0.length
  · rw [List.getElem?_append_left hj]; exact ha j
  · rw [List.getElem?_append_right (by omega)]; exact hb _
theorem IsBytes.one {y : Int} {bs : List Int} (hy : 0 ≤ y ∧ y < 256) (hb : IsBytes bs) : IsBytes (y :: bs) := by
  have := IsBytes.app (bytes_one hy) hb
  simpa using this
theorem IsBytes.cut {bs : List Int} (h : IsBytes bs) (k n : Nat) : IsBytes ((bs.drop k).take n) := by
  intro j
  rw [List.getElem?_take]
  split
  · rw [List.getElem?_drop]; exact h _
  · simp
theorem Sct.head_length {p : Sct} (h : p.Ok) : p.head.length = 55 := by simp [Sct.head, putL_length, h.len]
theorem Sct.bytes_length {p : Sct} (h : p.Ok) : p.bytes.length = 64 := by simp [Sct.bytes, Sct.head_length h, putL_length]
theorem Sct.head_bytes {p : Sct} (h : p.Ok) : IsBytes p.head := IsBytes.one h.mark ((putL_bytes _ _).app ((putL_bytes _ _).app h.bytes))
theorem Sct.bytes_bytes {p : Sct} (h : p.Ok) : IsBytes p.bytes := (Sct.head_bytes h).app ((putL_bytes _ _).app (bytes_one (by omega)))

theorem take_one {bs : List Int} (h : 0 < bs.length) : bs.take 1 = [bs[0]?.getD 0] := by
  cases bs with
  | nil => simp at h
  | cons x l => simp
/-- Bytes in their parts. -/
theorem cut_parts {bs : List Int} (h : bs.length = 64) : bs.take 55 = bs[0]?.getD 0 :: ((bs.drop 1).take 4 ++ ((bs.drop 5).take 2 ++ (bs.drop 7).take 48)) := by
  have e1 : bs.take 55 = bs.take 1 ++ ((bs.drop 1).take 4 ++ ((bs.drop 5).take 2 ++ (bs.drop 7).take 48)) := by
    have a1 : (bs.drop 5).take 2 ++ (bs.drop 7).take 48 = (bs.drop 5).take 50 := by
      rw [show 50 = 2 + 48 from rfl, List.take_add, List.drop_drop]
    have a2 : (bs.drop 1).take 4 ++ (bs.drop 5).take 50 = (bs.drop 1).take 54 := by
      rw [show 54 = 4 + 50 from rfl, List.take_add, List.drop_drop]
    rw [a1, a2, show 55 = 1 + 54 from rfl, List.take_add]
  rw [e1, take_one (by omega)]
  rfl
theorem cut_all {bs : List Int} (h : bs.length = 64) : bs = bs.take 55 ++ ((bs.drop 55).take 8 ++ [bs[63]?.getD 0]) := by
  have e : bs.drop 63 = [bs[63]?.getD 0] := by
    rw [List.drop_eq_getElem_cons (by omega), List.drop_of_length_le (by omega), List.getElem?_eq_getElem (by omega)]
    rfl
  have e2 : (bs.drop 55).take 8 ++ bs.drop 63 = bs.drop 55 := by
    have := List.take_append_drop 8 (bs.drop 55)
    rwa [List.drop_drop] at this
  rw [← e, e2, List.take_append_drop]
theorem of_ok {bs : List Int} (hb : IsBytes bs) (h : bs.length = 64) : (Sct.of bs).Ok := by
  refine ⟨hb 0, ?_, by simp [Sct.of, h], hb.cut 7 48⟩
  have hl : ((bs.drop 1).take 4).length = 4 := by simp [h]
  have hn : nPlaces (((bs.drop 1).take 4).length : Int) = 4 := by rw [hl]; rfl
  have := getN_bd _ (hb.cut 1 4) 4
  show 0 ≤ getL _ ∧ getL _ < _
  unfold getL
  rw [hn]
  simpa using this
theorem of_index {bs : List Int} (hb : IsBytes bs) (h : bs.length = 64) : 0 ≤ (Sct.of bs).index ∧ (Sct.of bs).index ≤ 65535 := by
  have hl : ((bs.drop 5).take 2).length = 2 := by simp [h]
  have hn : nPlaces (((bs.drop 5).take 2).length : Int) = 2 := by rw [hl]; rfl
  have := getN_bd _ (hb.cut 5 2) 2
  show 0 ≤ getL _ ∧ getL _ ≤ _
  unfold getL
  rw [hn]
  have h2 : (2 : Int) ^ (8 * 2) = 65536 := rfl
  rw [h2] at this
  exact ⟨this.1, by omega⟩
/-- The sector's bytes ahead of the check are the bytes. -/
theorem of_head {bs : List Int} (hb : IsBytes bs) (h : bs.length = 64) : (Sct.of bs).head = bs.take 55 := by
  rw [cut_parts h]
  unfold Sct.head Sct.of
  dsimp only
  have e1 := putL_getL _ (hb.cut 1 4) (by simp; omega)
  have e2 := putL_getL _ (hb.cut 5 2) (by simp; omega)
  rw [show ((bs.drop 1).take 4).length = 4 by simp [h]] at e1
  rw [show ((bs.drop 5).take 2).length = 2 by simp [h]] at e2
  rw [e1, e2]
/-- When bytes are a sector's. -/
theorem of_iff {bs : List Int} (hb : IsBytes bs) (h : bs.length = 64) : (Sct.of bs).bytes = bs ↔ getL ((bs.drop 55).take 8) = chk (bs.take 55) ∧ bs[63]?.getD 0 = 0 := by
  unfold Sct.bytes
  rw [of_head hb h]
  have hl : ((bs.drop 55).take 8).length = 8 := by simp [h]
  have key : putL (chk (bs.take 55)) 8 = (bs.drop 55).take 8 ↔ getL ((bs.drop 55).take 8) = chk (bs.take 55) := by
    constructor
    · intro e
      rw [← e, getL_putL _ (chk_u64 _).1 (chk_u64 _).2, if_neg (by omega)]
    · intro e
      have := putL_getL _ (hb.cut 55 8) (by omega)
      rw [hl, e] at this
      exact this
  constructor
  · intro e
    have e' := e.trans (cut_all h)
    have e3 := List.append_inj_right e' rfl
    have hlen : (putL (chk (bs.take 55)) 8).length = ((bs.drop 55).take 8).length := by rw [putL_length, hl]
    have e1 := List.append_inj_left e3 hlen
    have e2 := List.append_inj_right e3 hlen
    exact ⟨key.1 e1, by simpa using e2.symm⟩
  · rintro ⟨e1, e2⟩
    rw [key.2 e1]
    conv => rhs; rw [cut_all h]
    rw [e2]
/-- A sector's bytes are it. -/
theorem of_bytes {p : Sct} (h : p.Ok) (hi : 0 ≤ p.index ∧ p.index ≤ 65535) : Sct.of p.bytes = p := by
  have hl := Sct.head_length h
  have e0 : p.bytes[0]?.getD 0 = p.mark := rfl
  have e1 : (p.bytes.drop 1).take 4 = putL p.seq 4 := by
    unfold Sct.bytes Sct.head
    simp [putL_length]
  have e2 : (p.bytes.drop 5).take 2 = putL p.index 2 := by
    unfold Sct.bytes Sct.head
    rw [List.cons_append, List.drop_succ_cons, List.append_assoc, List.drop_append, putL_length, List.drop_of_length_le (by rw [putL_length]; exact Nat.le_refl _), List.nil_append, Nat.sub_self, List.drop_zero, List.append_assoc, List.take_append_of_le_length (by rw [putL_length]; exact Nat.le_refl _), List.take_of_length_le (by rw [putL_length]; exact Nat.le_refl _)]
  have e3 : (p.bytes.drop 7).take 48 = p.body := by
    unfold Sct.bytes Sct.head
    rw [List.cons_append, List.drop_succ_cons, List.append_assoc, List.append_assoc, List.drop_append, putL_length, List.drop_of_length_le (by rw [putL_length]; omega), List.nil_append, List.drop_append, putL_length, List.drop_of_length_le (by rw [putL_length]; exact Nat.le_refl _), List.nil_append, List.drop_zero, List.take_append_of_le_length (by rw [h.len]; exact Nat.le_refl _), List.take_of_length_le (by rw [h.len]; exact Nat.le_refl _)]
  unfold Sct.of
  rw [e0, e1, e2, e3, getL_putL _ h.seq.1 (by have := h.seq.2; omega), getL_putL _ hi.1 (by omega), if_pos (by omega), if_pos (by omega)]
  have h4 : p.seq % 2 ^ (8 * 4) = p.seq := Int.emod_eq_of_lt h.seq.1 h.seq.2
  have h2 : p.index % 2 ^ (8 * 2) = p.index := Int.emod_eq_of_lt hi.1 (by have := hi.2; simp only [Nat.reduceMul, Int.reducePow]; omega)
  rw [h4, h2]
theorem bytes_take {p : Sct} (h : p.Ok) : p.bytes.take 55 = p.head := by
  unfold Sct.bytes
  rw [List.take_append_of_le_length (by rw [Sct.head_length h]; exact Nat.le_refl _), List.take_of_length_le (by rw [Sct.head_length h]; exact Nat.le_refl _)]
theorem bytes_chk {p : Sct} (h : p.Ok) : (p.bytes.drop 55).take 8 = putL (chk p.head) 8 := by
  unfold Sct.bytes
  rw [List.drop_append_of_le_length (by rw [Sct.head_length h]; exact Nat.le_refl _), List.drop_of_length_le (by rw [Sct.head_length h]; exact Nat.le_refl _)]
  simp [putL_length]
theorem bytes_last {p : Sct} (h : p.Ok) : p.bytes[63]?.getD 0 = 0 := by
  unfold Sct.bytes
  rw [List.getElem?_append_right (by rw [Sct.head_length h]; omega), Sct.head_length h, List.getElem?_append_right (by rw [putL_length]; omega), putL_length]
  rfl
/-- With one byte turned there is none. -/
theorem turned_none {p : Sct} (h : p.Ok) {k : Nat} {y : Int} (hk : k < 64) (hy : 0 ≤ y ∧ y < 256) (hne : y ≠ p.bytes[k]?.getD 0) : (Sct.of (p.bytes.set k y)).bytes ≠ p.bytes.set k y := by
  have hbl := Sct.bytes_length h
  have hbb := Sct.bytes_bytes h
  intro e
  have hi := (of_iff (hbb.set hy) (by rw [List.length_set]; exact hbl)).1 e
  obtain ⟨e1, e2⟩ := hi
  by_cases h55 : k < 55
  · have t1 : (p.bytes.set k y).take 55 = p.head.set k y := by rw [List.take_set, bytes_take h]
    have t2 : ((p.bytes.set k y).drop 55).take 8 = putL (chk p.head) 8 := by
      rw [List.drop_set, if_pos h55]
      exact bytes_chk h
    rw [t1, t2, getL_putL _ (chk_u64 _).1 (chk_u64 _).2, if_neg (by omega)] at e1
    have := (turn_eq (Sct.head_bytes h) (by rw [Sct.head_length h]; exact h55) hy isU64_init).1 e1.symm
    refine hne (this.trans ?_)
    rw [← bytes_take h, List.getElem?_take, if_pos h55]
  · by_cases h63 : k < 63
    · have t1 : (p.bytes.set k y).take 55 = p.head := by rw [List.take_set_of_le (by omega), bytes_take h]
      have hl : (((p.bytes.set k y).drop 55).take 8).length = 8 := by simp [hbl]
      have t3 := putL_getL (((p.bytes.set k y).drop 55).take 8) ((hbb.set hy).cut 55 8) (by omega)
      rw [hl, e1, t1, ← bytes_chk h] at t3
      refine hne ?_
      have a : ((p.bytes.set k y).drop 55)[k - 55]? = (p.bytes.drop 55)[k - 55]? := by
        have := congrArg (fun l => l[k - 55]?) t3
        simp only [List.getElem?_take] at this
        rw [if_pos (by omega), if_pos (by omega)] at this
        exact this.symm
      rw [List.getElem?_drop, List.getElem?_drop, show 55 + (k - 55) = k by omega, List.getElem?_set, if_pos rfl, if_pos (by omega)] at a
      rw [← a]; rfl
    · obtain rfl : k = 63 := by omega
      rw [List.getElem?_set, if_pos rfl, if_pos (by omega)] at e2
      rw [bytes_last h] at hne
      exact hne e2
end Go.Proofs.Ytnffaekbldcphaa
