/- Numbers put together of bytes by or; no program. -/
import Derived.Test.YtnngebnnehokdaaPgMath
namespace Go.Proofs.Ytnngebnnehokdaa
open Go.RowKit
set_option linter.unusedVariables false

theorem or32_add (a c k : Nat) (ha : a < 2 ^ k) (hb : 2 ^ k * c < 4294967296) (ha2 : a < 4294967296) : bits .or .u32 (a : Int) ((2 ^ k * c : Nat) : Int) = ((2 ^ k * c + a : Nat) : Int) := by
  rw [u32_or_nat a _ ha2 hb, Nat.or_comm, ← Nat.two_pow_add_eq_or_of_lt ha c]
theorem or4 {y1 y2 y3 y4 : Int} (h1 : 0 ≤ y1 ∧ y1 < 256) (h2 : 0 ≤ y2 ∧ y2 < 256) (h3 : 0 ≤ y3 ∧ y3 < 256) (h4 : 0 ≤ y4 ∧ y4 < 256) :
    bits BinOp.or IntKind.u32 (bits BinOp.or IntKind.u32 (bits BinOp.or IntKind.u32 y1 (y2 * 256)) (y3 * 65536)) (y4 * 16777216) = y1 + y2 * 256 + y3 * 65536 + y4 * 16777216 := by
  obtain ⟨a1, rfl⟩ := Int.eq_ofNat_of_zero_le h1.1
  obtain ⟨a2, rfl⟩ := Int.eq_ofNat_of_zero_le h2.1
  obtain ⟨a3, rfl⟩ := Int.eq_ofNat_of_zero_le h3.1
  obtain ⟨a4, rfl⟩ := Int.eq_ofNat_of_zero_le h4.1
  rw [show (a2 : Int) * 256 = ((2 ^ 8 * a2 : Nat) : Int) by omega, or32_add a1 a2 8 (by omega) (by omega) (by omega),
    show (a3 : Int) * 65536 = ((2 ^ 16 * a3 : Nat) : Int) by omega, or32_add _ a3 16 (by omega) (by omega) (by omega),
    show (a4 : Int) * 16777216 = ((2 ^ 24 * a4 : Nat) : Int) by omega, or32_add _ a4 24 (by omega) (by omega) (by omega)]
  omega
theorem take4 (l : List Int) (h : 5 ≤ l.length) : (l.drop 1).take 4 = [l[1]?.getD 0, l[2]?.getD 0, l[3]?.getD 0, l[4]?.getD 0] := by
  match l, h with
  | a :: b :: c :: d :: e :: t, _ => rfl
theorem take2 (l : List Int) (h : 7 ≤ l.length) : (l.drop 5).take 2 = [l[5]?.getD 0, l[6]?.getD 0] := by
  match l, h with
  | a :: b :: c :: d :: e :: f :: g :: t, _ => rfl
theorem getL4 (y1 y2 y3 y4 : Int) : getL [y1, y2, y3, y4] = y1 + y2 * 256 + y3 * 65536 + y4 * 16777216 := by
  show getN [y1, y2, y3, y4] 4 = _
  simp [getN]
theorem getL2 (y1 y2 : Int) : getL [y1, y2] = y1 + 256 * y2 := by
  show getN [y1, y2] 2 = _
  simp [getN]
  omega
/-- The parts of a sector that may be, out of its bytes. -/
theorem of_seq {p : Sct} (hp : p.Ok) (h : Sct.of p.bytes = p) : bits BinOp.or IntKind.u32 (bits BinOp.or IntKind.u32 (bits BinOp.or IntKind.u32 (p.bytes[1]?.getD 0) (p.bytes[2]?.getD 0 * 256)) (p.bytes[3]?.getD 0 * 65536)) (p.bytes[4]?.getD 0 * 16777216) = p.seq := by
  have hb := Sct.bytes_bytes hp
  have hl := Sct.bytes_length hp
  rw [or4 (hb 1) (hb 2) (hb 3) (hb 4), ← getL4, ← take4 _ (by omega)]
  exact congrArg Sct.seq h
theorem of_ix {p : Sct} (hp : p.Ok) (h : Sct.of p.bytes = p) : p.bytes[5]?.getD 0 + 256 * p.bytes[6]?.getD 0 = p.index := by
  have hl := Sct.bytes_length hp
  rw [← getL2, ← take2 _ (by omega)]
  exact congrArg Sct.index h
theorem of_body {p : Sct} (hp : p.Ok) (h : Sct.of p.bytes = p) (k : Nat) (hk : k < 48) : p.bytes[7 + k]?.getD 0 = p.body[k]?.getD 0 := by
  have e : (p.bytes.drop 7).take 48 = p.body := congrArg Sct.body h
  rw [← e, List.getElem?_take, if_pos hk, List.getElem?_drop]
end Go.Proofs.Ytnngebnnehokdaa
