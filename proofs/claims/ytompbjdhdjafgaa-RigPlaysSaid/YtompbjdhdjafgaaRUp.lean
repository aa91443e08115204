/- Rigs without a fuse; how many versions there are. -/
import Derived.Test.YtompbjdhdjafgaaRAt
import Derived.Test.YtompbjdhdjafgaaLook
namespace Go.Proofs.Ytompbjdhdjafgaa
open Go.RowKit
set_option linter.unusedVariables false

/-- It is up, and has no fuse. -/
structure RS.Up (S : RS) : Prop where
  fuse : S.fuse = -1
  down : S.down = false
theorem RS.Up.ok {S : RS} (h : S.Up) : S.ok = true := by unfold RS.ok; rw [h.down, h.fuse]; rfl
theorem RS.Up.after {S : RS} (h : S.Up) : S.after = { S with done := S.done + 1 } := by
  unfold RS.after
  rw [if_pos h.ok, if_neg (by rw [h.fuse]; omega)]
theorem RS.put_rest (S : RS) (dev : Int) (i : Nat) (b : List Value) : (S.put dev i b).fuse = S.fuse ∧ (S.put dev i b).down = S.down ∧ (S.put dev i b).done = S.done ∧ (S.put dev i b).n0 = S.n0 ∧ (S.put dev i b).n1 = S.n1 := by
  unfold RS.put; split <;> exact ⟨rfl, rfl, rfl, rfl, rfl⟩
theorem RS.fl_rest (S : RS) (dev : Int) : (S.fl dev).fuse = S.fuse ∧ (S.fl dev).down = S.down ∧ (S.fl dev).done = S.done ∧ (S.fl dev).n0 = S.n0 ∧ (S.fl dev).n1 = S.n1 := by
  unfold RS.fl; split <;> exact ⟨rfl, rfl, rfl, rfl, rfl⟩
theorem RS.Up.write {S : RS} (h : S.Up) (dev i : Int) (b : List Value) : (S.write dev i b).Up ∧ ((S.writeE dev i = 0 ∧ (S.write dev i b).done = S.done + 1) ∨ (S.writeE dev i = 1 ∧ (S.write dev i b).done = S.done)) := by
  unfold RS.write RS.writeE
  split
  · rw [if_pos h.ok, if_pos h.ok, h.after]
    have := RS.put_rest { S with done := S.done + 1 } dev i.toNat b
    exact ⟨⟨this.1.trans h.fuse, this.2.1.trans h.down⟩, .inl ⟨rfl, this.2.2.1⟩⟩
  · exact ⟨h, .inr ⟨rfl, rfl⟩⟩
theorem RS.Up.flush {S : RS} (h : S.Up) (dev : Int) : (S.flush dev).Up ∧ ((S.flushE dev = 0 ∧ (S.flush dev).done = S.done + 1) ∨ (S.flushE dev = 1 ∧ (S.flush dev).done = S.done)) := by
  unfold RS.flush RS.flushE
  split
  · rw [if_pos h.ok, if_pos h.ok, h.after]
    have := RS.fl_rest { S with done := S.done + 1 } dev
    exact ⟨⟨this.1.trans h.fuse, this.2.1.trans h.down⟩, .inl ⟨rfl, this.2.2.1⟩⟩
  · exact ⟨h, .inr ⟨rfl, rfl⟩⟩
theorem RS.crash_up (S : RS) (b0 b1 : List Int) : (S.crash b0 b1).Up ∧ (S.crash b0 b1).done = S.done := ⟨⟨rfl, rfl⟩, rfl⟩
theorem newS_up (n0 n1 : Nat) : (newS n0 n1).Up := ⟨rfl, rfl⟩

theorem upd_few {D : Nat → Sec} {n m k : Nat} {b : List Value} (h : ∀ i, i < n → (D i).vs.length ≤ m) (hk : k < n) (hm : m ≤ 254) : ∀ i, i < n → (upd D k ((D k).add b) i).vs.length ≤ m + 1 := fun i hi => by
  by_cases e : i = k
  · subst e; rw [upd_same, add_more _ _ (by have := h i hi; omega)]; have := h i hi; omega
  · rw [upd_other _ _ e]; exact Nat.le_succ_of_le (h i hi)
theorem RS.few_put {S : RS} {m : Nat} (h : S.Few m) (hm : m ≤ 254) {dev i : Int} (hi : S.has dev i = true) (b : List Value) : (S.put dev i.toNat b).Few (m + 1) := by
  obtain ⟨hd, k, rfl, hk⟩ := RS.has_lt hi
  rcases hd with rfl | rfl
  · exact ⟨upd_few h.1 (by exact hk) hm, fun i hi => Nat.le_succ_of_le (h.2 i hi)⟩
  · exact ⟨fun i hi => Nat.le_succ_of_le (h.1 i hi), upd_few h.2 (by exact hk) hm⟩
theorem RS.few_write {S : RS} {m : Nat} (h : S.Few m) (hm : m ≤ 254) (dev i : Int) (b : List Value) : (S.write dev i b).Few (m + 1) := by
  unfold RS.write
  split
  · next hh =>
    split
    · exact RS.few_put (RS.after_few h) hm (by unfold RS.has; rw [S.after_len]; exact hh) b
    · exact (RS.after_few h).mono (by omega)
  · exact h.mono (by omega)
theorem RS.few_fl {S : RS} {m : Nat} (h : S.Few m) (dev : Int) : (S.fl dev).Few m := by
  unfold RS.fl
  split
  · exact ⟨fun i hi => by show (flTo S.D0 S.n0 i).vs.length ≤ m; unfold flTo; rw [if_pos (by exact hi)]; exact Nat.zero_le _, h.2⟩
  · exact ⟨h.1, fun i hi => by show (flTo S.D1 S.n1 i).vs.length ≤ m; unfold flTo; rw [if_pos (by exact hi)]; exact Nat.zero_le _⟩
theorem RS.few_flush {S : RS} {m : Nat} (h : S.Few m) (dev : Int) : (S.flush dev).Few m := by
  unfold RS.flush
  split
  · split
    · exact RS.few_fl (RS.after_few h) dev
    · exact RS.after_few h
  · exact h
theorem RS.few_crash (S : RS) (b0 b1 : List Int) (m : Nat) : (S.crash b0 b1).Few m :=
  ⟨fun i hi => by show (settled S.D0 _ _ i).vs.length ≤ m; rw [settled_none S.D0 _ S.n0 i hi]; exact Nat.zero_le _, fun i hi => by show (settled S.D1 _ _ i).vs.length ≤ m; rw [settled_none S.D1 _ S.n1 i hi]; exact Nat.zero_le _⟩
theorem few_newS (n0 n1 m : Nat) : (newS n0 n1).Few m := ⟨fun i _ => Nat.zero_le _, fun i _ => Nat.zero_le _⟩
end Go.Proofs.Ytompbjdhdjafgaa
