/- What RigApart's rig holds. -/
import Derived.Test.YtompbjdhdjafgaaRUp
namespace Go.Proofs.Ytompbjdhdjafgaa
open Go.RowKit
set_option linter.unusedVariables false

/-- The first j sectors of the slow disk have one version each. -/
def aD1 (j : Nat) : Nat → Sec := fun i => if i < j then ⟨fillB 0, [fillB (50 + (i : Int))]⟩ else zsec
structure RS.Ap (S : RS) (j k : Nat) : Prop where
  up : S.Up
  n0 : S.n0 = 5
  n1 : S.n1 = 5
  d0 : 0 ≤ S.done
  d1 : S.done ≤ j + k
  slow : S.D1 = aD1 j
  fast : ∀ i, i < 5 → (S.D0 i).vs.length ≤ k
theorem newS_ap : (newS 5 5).Ap 0 0 := ⟨newS_up 5 5, rfl, rfl, Int.le_refl 0, Int.le_refl 0, by funext i; simp [newS, aD1], fun i _ => Nat.zero_le _⟩
theorem RS.Ap.has {S : RS} {j k : Nat} (h : S.Ap j k) {dev i : Int} (hd : dev = 0 ∨ dev = 1) (h1 : 0 ≤ i ∧ i < 5) : S.has dev i = true := by
  unfold RS.has RS.len
  rw [h.n0, h.n1]
  rcases hd with rfl | rfl
  · rw [if_pos rfl]; simp; omega
  · rw [if_neg (by decide), if_pos rfl]; simp; omega
theorem RS.Ap.fit {S : RS} {j k : Nat} (h : S.Ap j k) (hj : j + k ≤ 1000000) : S.Fit := RS.fit (by rw [h.up.fuse]; decide) h.d0 (by have := h.d1; omega)
theorem aD1_few (j i : Nat) : (aD1 j i).vs.length ≤ 1 := by unfold aD1; split <;> simp [zsec]
theorem RS.Ap.few {S : RS} {j k m : Nat} (h : S.Ap j k) (hm : k ≤ m) (h1 : 1 ≤ m) : S.Few m :=
  ⟨fun i hi => Nat.le_trans (h.fast i (by rw [h.n0] at hi; exact hi)) hm, fun i hi => by rw [h.slow]; exact Nat.le_trans (aD1_few j i) h1⟩
theorem RS.Ap.writeE {S : RS} {j k : Nat} (h : S.Ap j k) {dev i : Int} (hd : dev = 0 ∨ dev = 1) (h1 : 0 ≤ i ∧ i < 5) : S.writeE dev i = 0 := by
  unfold RS.writeE
  rw [if_pos (h.has hd h1), if_pos h.up.ok]
theorem RS.Ap.write {S : RS} {j k : Nat} (h : S.Ap j k) {dev i : Int} (hd : dev = 0 ∨ dev = 1) (h1 : 0 ≤ i ∧ i < 5) (b : List Value) : S.write dev i b = RS.put { S with done := S.done + 1 } dev i.toNat b := by
  unfold RS.write
  rw [if_pos (h.has hd h1), if_pos h.up.ok, h.up.after]
/-- One sector of the slow disk more. -/
theorem RS.Ap.next {S : RS} {j : Nat} (h : S.Ap j 0) (hj : j < 5) : (S.write 1 (j : Int) (fillB (50 + (j : Int)))).Ap (j + 1) 0 := by
  rw [h.write (.inr rfl) (by omega)]
  refine ⟨⟨h.up.fuse, h.up.down⟩, h.n0, h.n1, ?_, ?_, ?_, h.fast⟩
  · have := h.d0; show 0 ≤ S.done + 1; omega
  · have := h.d1; show S.done + 1 ≤ _; omega
  · show upd S.D1 j ((S.D1 j).add (fillB (50 + (j : Int)))) = aD1 (j + 1)
    rw [h.slow]
    funext i
    by_cases e : i = j
    · subst e
      rw [upd_same]
      unfold aD1
      rw [if_neg (by omega), if_pos (by omega)]
      rfl
    · rw [upd_other _ _ e]
      unfold aD1
      by_cases hi : i < j
      · rw [if_pos hi, if_pos (by omega)]
      · rw [if_neg hi, if_neg (by omega)]
/-- A step on the fast disk. -/
theorem RS.Ap.fastWrite {S : RS} {k : Nat} (h : S.Ap 5 k) {i : Int} (h1 : 0 ≤ i ∧ i < 5) (hk : k ≤ 200) (b : List Value) : (S.write 0 i b).Ap 5 (k + 1) := by
  rw [h.write (.inl rfl) h1]
  refine ⟨⟨h.up.fuse, h.up.down⟩, h.n0, h.n1, ?_, ?_, h.slow, upd_few h.fast (by omega) (by omega)⟩
  · have := h.d0; show 0 ≤ S.done + 1; omega
  · have := h.d1; show S.done + 1 ≤ _; omega
theorem RS.Ap.fastFlush {S : RS} {k : Nat} (h : S.Ap 5 k) : (S.flush 0).Ap 5 (k + 1) := by
  have e : S.flush 0 = RS.fl { S with done := S.done + 1 } 0 := by unfold RS.flush; rw [if_pos (.inl rfl), if_pos h.up.ok, h.up.after]
  rw [e]
  refine ⟨⟨h.up.fuse, h.up.down⟩, h.n0, h.n1, ?_, ?_, h.slow, fun i hi => ?_⟩
  · have := h.d0; show 0 ≤ S.done + 1; omega
  · have := h.d1; show S.done + 1 ≤ _; omega
  · show (flTo S.D0 S.n0 i).vs.length ≤ _
    unfold flTo
    rw [if_pos (by rw [h.n0]; exact hi)]
    exact Nat.zero_le _
theorem RS.Ap.slowRead {S : RS} {k : Nat} (h : S.Ap 5 k) {i : Nat} (hi : i < 5) : S.readE 1 (i : Int) = 0 ∧ S.read 1 (i : Int) = fillB (50 + (i : Int)) := by
  have hh := h.has (dev := 1) (i := (i : Int)) (.inr rfl) (by omega)
  unfold RS.readE RS.read
  rw [if_pos hh, if_neg (by rw [h.up.down]; simp), if_pos ⟨hh, h.up.down⟩]
  refine ⟨rfl, ?_⟩
  show (S.D1 i).look = _
  rw [h.slow]
  unfold aD1
  rw [if_pos hi]
  rfl
/-- What the crash leaves. -/
def aWant (i : Nat) : Int := if i = 0 ∨ i = 2 then 50 + (i : Int) else 0
theorem RS.Ap.crashed {S : RS} {k : Nat} (h : S.Ap 5 k) (b0 : List Int) {i : Nat} (hi : i < 5) : (S.crash b0 [1, 0, 1]).readE 1 (i : Int) = 0 ∧ (S.crash b0 [1, 0, 1]).read 1 (i : Int) = fillB (aWant i) := by
  have hh : (S.crash b0 [1, 0, 1]).has 1 (i : Int) = true := h.has (dev := 1) (i := (i : Int)) (.inr rfl) (by omega)
  unfold RS.readE RS.read
  rw [if_pos hh, if_neg (by show ¬ false = true; simp), if_pos ⟨hh, rfl⟩]
  refine ⟨rfl, ?_⟩
  show (settled S.D1 (crashG S.D1 [1, 0, 1]) (looseTo S.D1 S.n1) i).look = _
  rw [h.slow, h.n1]
  have hl : looseTo (aD1 5) 5 = [0, 1, 2, 3, 4] := by rfl
  rw [hl]
  match i, hi with
  | 0, _ => rw [settled_yes (by simp)]; rfl
  | 1, _ => rw [settled_yes (by simp)]; rfl
  | 2, _ => rw [settled_yes (by simp)]; rfl
  | 3, _ => rw [settled_yes (by simp)]; rfl
  | 4, _ => rw [settled_yes (by simp)]; rfl
theorem next_rel0 {n k : Nat} {C : Nat → Prop} (hk : k < n) (hC : C (k + 1)) : ∃ k' : Nat, k' ≤ n ∧ Value.int .i64 ((k : Int) + 1) = Value.int .i64 (k' : Int) ∧ C k' := ⟨k + 1, hk, by simp, hC⟩
theorem next_lt0 {n k : Nat} (hk : k < n) : n - (intOf (Value.int .i64 ((k : Int) + 1))).toNat < n - (intOf (Value.int .i64 (k : Int))).toNat := by
  simp only [intOf]
  omega
end Go.Proofs.Ytompbjdhdjafgaa
