/- Plain facts on the check of bytes; no program is named here. -/
import Derived.Test.YtnffaekbldcphaaMath
namespace Go.Proofs.Ytnffaekbldcphaa
open Go.RowKit
set_option linter.unusedVariables false

/-- One byte taken into a check. -/
def fnvStep (h y : Int) : Int := IntKind.u64.wrap (bits BinOp.xor IntKind.u64 h y * 1099511628211)
/-- Bytes taken into a check, one behind the other. -/
def fnvMore (h : Int) (bs : List Int) : Int := bs.foldl fnvStep h
def fnvInit : Int := 14695981039346656037

/-- A number that fits 64 bits. -/
def IsU64 (h : Int) : Prop := 0 ≤ h ∧ h < 18446744073709551616
theorem isU64_init : IsU64 fnvInit := by unfold IsU64 fnvInit; omega
theorem isU64_byte {y : Int} (h : 0 ≤ y ∧ y < 256) : IsU64 y := ⟨h.1, by omega⟩
theorem isU64_wrap (x : Int) : IsU64 (IntKind.u64.wrap x) := by
  rw [IntKind.wrap_u64]; unfold IsU64; omega
theorem isU64_step (h y : Int) : IsU64 (fnvStep h y) := isU64_wrap _

theorem fnvMore_nil (h : Int) : fnvMore h [] = h := rfl
theorem fnvMore_cons (h y : Int) (bs : List Int) : fnvMore h (y :: bs) = fnvMore (fnvStep h y) bs := rfl
theorem fnvMore_append (h : Int) (as0 bs : List Int) : fnvMore h (as0 ++ bs) = fnvMore (fnvMore h as0) bs := by simp [fnvMore]
theorem fnvMore_snoc (h : Int) (as0 : List Int) (y : Int) : fnvMore h (as0 ++ [y]) = fnvStep (fnvMore h as0) y := by rw [fnvMore_append]; rfl
theorem isU64_more {h : Int} (bs : List Int) (hh : IsU64 h) : IsU64 (fnvMore h bs) := by
  induction bs generalizing h with
  | nil => exact hh
  | cons y bs ih => rw [fnvMore_cons]; exact ih (isU64_step h y)

theorem xor_u64 {a b : Int} (ha : IsU64 a) (hb : IsU64 b) : bits BinOp.xor IntKind.u64 a b = ((a.toNat ^^^ b.toNat : Nat) : Int) := u64_xor a b ha.1 ha.2 hb.1 hb.2
theorem xor_bd {a b : Int} (ha : IsU64 a) (hb : IsU64 b) : IsU64 (bits BinOp.xor IntKind.u64 a b) := by
  rw [xor_u64 ha hb]
  have := Nat.xor_lt_two_pow (n := 64) (show a.toNat < 2 ^ 64 by have := ha.2; have := ha.1; simp only [Nat.reducePow]; omega) (show b.toNat < 2 ^ 64 by have := hb.2; have := hb.1; simp only [Nat.reducePow]; omega)
  simp only [Nat.reducePow] at this
  exact ⟨by omega, by omega⟩
theorem xor_inj_left {a a' b : Int} (ha : IsU64 a) (ha' : IsU64 a') (hb : IsU64 b) (h : bits BinOp.xor IntKind.u64 a b = bits BinOp.xor IntKind.u64 a' b) : a = a' := by
  rw [xor_u64 ha hb, xor_u64 ha' hb] at h
  have h2 : a.toNat ^^^ b.toNat = a'.toNat ^^^ b.toNat := by omega
  have h3 : a.toNat = a'.toNat := by
    have := congrArg (fun z => z ^^^ b.toNat) h2
    simpa [Nat.xor_assoc] using this
  have := ha.1; have := ha'.1
  omega
theorem xor_inj_right {a b b' : Int} (ha : IsU64 a) (hb : IsU64 b) (hb' : IsU64 b') (h : bits BinOp.xor IntKind.u64 a b = bits BinOp.xor IntKind.u64 a b') : b = b' := by
  rw [xor_u64 ha hb, xor_u64 ha hb'] at h
  refine xor_inj_left hb hb' ha ?_
  rw [xor_u64 hb ha, xor_u64 hb' ha, Nat.xor_comm, h, Nat.xor_comm]

/-- The number is odd: times it no two numbers become one. -/
theorem mul_inj {a b : Int} (ha : IsU64 a) (hb : IsU64 b) (h : IntKind.u64.wrap (a * 1099511628211) = IntKind.u64.wrap (b * 1099511628211)) : a = b := by
  rw [IntKind.wrap_u64, IntKind.wrap_u64] at h
  have back : ∀ x : Int, IsU64 x → ((x * 1099511628211) % 18446744073709551616 * 14886173955864302971) % 18446744073709551616 = x := by
    intro x hx
    have e : x * 1099511628211 * 14886173955864302971 = x + (x * 887285111055) * 18446744073709551616 := by
      rw [Int.mul_assoc, Int.mul_assoc]
      have : (1099511628211 * 14886173955864302971 : Int) = 1 + 887285111055 * 18446744073709551616 := by decide
      rw [this, Int.mul_add, Int.mul_one]
    rw [Int.mul_emod, Int.emod_emod, ← Int.mul_emod, e, Int.add_mul_emod_self_right]
    exact Int.emod_eq_of_lt hx.1 hx.2
  rw [← back a ha, ← back b hb, h]

theorem step_inj {h h' y : Int} (hh : IsU64 h) (hh' : IsU64 h') (hy : IsU64 y) (e : fnvStep h y = fnvStep h' y) : h = h' :=
  xor_inj_left hh hh' hy (mul_inj (xor_bd hh hy) (xor_bd hh' hy) e)
theorem step_inj_byte {h y y' : Int} (hh : IsU64 h) (hy : IsU64 y) (hy' : IsU64 y') (e : fnvStep h y = fnvStep h y') : y = y' :=
  xor_inj_right hh hy hy' (mul_inj (xor_bd hh hy) (xor_bd hh hy') e)

theorem IsBytes.cons {y : Int} {bs : List Int} (h : IsBytes (y :: bs)) : (0 ≤ y ∧ y < 256) ∧ IsBytes bs :=
  ⟨by simpa using h 0, fun j => by simpa using h (j + 1)⟩

/-- Checks that differ stay different through the same bytes. -/
theorem more_inj {bs : List Int} (hb : IsBytes bs) {h h' : Int} (hh : IsU64 h) (hh' : IsU64 h') (e : fnvMore h bs = fnvMore h' bs) : h = h' := by
  induction bs generalizing h h' with
  | nil => exact e
  | cons y bs ih =>
    obtain ⟨h1, h2⟩ := hb.cons
    rw [fnvMore_cons, fnvMore_cons] at e
    exact step_inj hh hh' (isU64_byte h1) (ih h2 (isU64_step _ _) (isU64_step _ _) e)

theorem IsBytes.append {as0 bs : List Int} (h : IsBytes (as0 ++ bs)) : IsBytes as0 ∧ IsBytes bs := by
  constructor
  · intro j
    by_cases hj : j < as0.length
    · have := h j; rw [List.getElem?_append_left hj] at this; exact this
    · rw [List.getElem?_eq_none (by omega)]; simp
  · intro j
    have := h (as0.length + j)
    rw [List.getElem?_append_right (by omega)] at this
    simpa using this

/-- One byte that is another one makes another check. -/
theorem turn_ne {as0 bs : List Int} {y y' h : Int} (hb : IsBytes bs) (hy : 0 ≤ y ∧ y < 256) (hy' : 0 ≤ y' ∧ y' < 256) (hh : IsU64 h) (e : fnvMore h (as0 ++ y :: bs) = fnvMore h (as0 ++ y' :: bs)) : y = y' := by
  rw [fnvMore_append, fnvMore_append, fnvMore_cons, fnvMore_cons] at e
  exact step_inj_byte (isU64_more as0 hh) (isU64_byte hy) (isU64_byte hy') (more_inj hb (isU64_step _ _) (isU64_step _ _) e)

theorem more_eq {bs : List Int} (hb : IsBytes bs) {h h' : Int} (hh : IsU64 h) (hh' : IsU64 h') : (fnvMore h bs = fnvMore h' bs) ↔ h = h' := ⟨more_inj hb hh hh', fun e => by rw [e]⟩

theorem IsBytes.snoc {bs : List Int} {y : Int} (h : IsBytes bs) (hy : 0 ≤ y ∧ y < 256) : IsBytes (bs ++ [y]) := by
  intro j
  by_cases hj : j < bs.length
  · rw [List.getElem?_append_left hj]; exact h j
  · rw [List.getElem?_append_right (by omega)]
    rcases Nat.eq_zero_or_pos (j - bs.length) with e | e
    · rw [e]; simpa using hy
    · rw [List.getElem?_eq_none (by simp; omega)]; simp
theorem bytes_one {y : Int} (hy : 0 ≤ y ∧ y < 256) : IsBytes [y] := by
  have := IsBytes.snoc (bs := []) (fun j => by simp) hy
  simpa using this

/-- One byte: each has a check of its own. -/
theorem one_eq {v w : Int} (hv : 0 ≤ v ∧ v < 256) (hw : 0 ≤ w ∧ w < 256) : (fnvMore fnvInit [v] = fnvMore fnvInit [w]) ↔ v = w :=
  ⟨fun e => step_inj_byte isU64_init (isU64_byte hv) (isU64_byte hw) e, fun e => by rw [e]⟩

theorem u8_xor_bd {a b : Int} (ha : 0 ≤ a ∧ a < 256) (hb : 0 ≤ b ∧ b < 256) : 0 ≤ bits BinOp.xor IntKind.u8 a b ∧ bits BinOp.xor IntKind.u8 a b < 256 := by
  rw [u8_xor a b ha.1 ha.2 hb.1 hb.2]
  have := Nat.xor_lt_two_pow (n := 8) (show a.toNat < 2 ^ 8 by have := ha.2; have := ha.1; simp only [Nat.reducePow]; omega) (show b.toNat < 2 ^ 8 by have := hb.2; have := hb.1; simp only [Nat.reducePow]; omega)
  simp only [Nat.reducePow] at this
  exact ⟨by omega, by omega⟩
theorem u8_xor_eq {a b : Int} (ha : 0 ≤ a ∧ a < 256) (hb : 0 ≤ b ∧ b < 256) : bits BinOp.xor IntKind.u8 a b = a ↔ b = 0 := by
  rw [u8_xor a b ha.1 ha.2 hb.1 hb.2]
  constructor
  · intro h
    have h2 : a.toNat ^^^ b.toNat = a.toNat := by omega
    have h3 : b.toNat = 0 := by
      have := congrArg (fun z => a.toNat ^^^ z) h2
      simpa [← Nat.xor_assoc] using this
    omega
  · rintro rfl
    simp
    omega

theorem IsBytes.set {bs : List Int} {y : Int} {k : Nat} (h : IsBytes bs) (hy : 0 ≤ y ∧ y < 256) : IsBytes (bs.set k y) := by
  intro j
  rw [List.getElem?_set]
  by_cases e : k = j
  · subst e
    by_cases hk : k < bs.length
    · rw [if_pos rfl, if_pos hk]; simpa using hy
    · rw [if_pos rfl, if_neg hk]; simp
  · rw [if_neg e]; exact h j

/-- One byte turned: the check is another one just if the byte is. -/
theorem turn_eq {bs : List Int} {k : Nat} {y h : Int} (hb : IsBytes bs) (hk : k < bs.length) (hy : 0 ≤ y ∧ y < 256) (hh : IsU64 h) : (fnvMore h (bs.set k y) = fnvMore h bs) ↔ y = bs[k]?.getD 0 := by
  have e1 : bs = bs.take k ++ bs[k]?.getD 0 :: bs.drop (k + 1) := by
    rw [List.getElem?_eq_getElem hk]
    simp
  have e2 : bs.set k y = bs.take k ++ y :: bs.drop (k + 1) := by rw [List.set_eq_take_append_cons_drop, if_pos hk]
  constructor
  · intro e
    rw [e2] at e
    rw [e1] at e
    refine turn_ne (bs := bs.drop (k + 1)) (as0 := bs.take k) ?_ hy (hb k) hh ?_
    · intro j; rw [List.getElem?_drop]; exact hb _
    · simpa [hk] using e
  · rintro rfl
    rw [e2]
    conv => rhs; rw [e1]
end Go.Proofs.Ytnffaekbldcphaa
