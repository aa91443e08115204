/- What RigPlays knows of the rigs; copies made side by side. -/
import Derived.Test.YtompbjdhdjafgaaBothR
import Derived.Test.YtompbjdhdjafgaaRUp
import Derived.Test.YtompbjdhdjafgaaBytes
import Derived.Test.YtompbjdhdjafgaaQuiet
namespace Go.Proofs.Ytompbjdhdjafgaa
open Go.RowKit
set_option linter.unusedVariables false

structure RS.Pl (S : RS) (N0 N1 k : Nat) : Prop where
  few : S.Few k
  d0 : 0 ≤ S.done
  d1 : S.done ≤ k
  fu : S.fuse ≤ 9223372036854775807
  n0 : S.n0 = N0
  n1 : S.n1 = N1
section
variable {S : RS} {N0 N1 k : Nat}
theorem newS_pl (N0 N1 : Nat) : (newS N0 N1).Pl N0 N1 0 := ⟨few_newS _ _ _, Int.le_refl 0, Int.le_refl 0, by show (-1 : Int) ≤ _; decide, rfl, rfl⟩
theorem RS.Pl.more (h : S.Pl N0 N1 k) : S.Pl N0 N1 (k + 1) := ⟨h.few.mono (by omega), h.d0, by have := h.d1; omega, h.fu, h.n0, h.n1⟩
theorem RS.Pl.fit (h : S.Pl N0 N1 k) (hk : k ≤ 1000000) : S.Fit := RS.fit h.fu h.d0 (by have := h.d1; omega)
theorem RS.Pl.after (h : S.Pl N0 N1 k) : 0 ≤ S.after.done ∧ S.after.done ≤ ((k + 1 : Nat) : Int) ∧ S.after.fuse ≤ 9223372036854775807 := by
  have h1 := h.d0
  have h2 := h.d1
  have h3 := h.fu
  unfold RS.after
  split
  · refine ⟨?_, ?_, ?_⟩
    · show 0 ≤ S.done + 1; omega
    · show S.done + 1 ≤ _; omega
    · show (if 0 < S.fuse then S.fuse - 1 else S.fuse) ≤ _
      split <;> omega
  · refine ⟨h1, ?_, h3⟩
    show S.done ≤ _; omega
theorem RS.Pl.write (h : S.Pl N0 N1 k) (hk : k ≤ 254) (dev i : Int) (b : List Value) : (S.write dev i b).Pl N0 N1 (k + 1) := by
  obtain ⟨a1, a2, a3⟩ := h.after
  have hf := RS.few_write h.few hk dev i b
  have key : (0 ≤ (S.write dev i b).done ∧ (S.write dev i b).done ≤ ((k + 1 : Nat) : Int) ∧ (S.write dev i b).fuse ≤ 9223372036854775807) ∧ (S.write dev i b).n0 = S.n0 ∧ (S.write dev i b).n1 = S.n1 := by
    unfold RS.write
    split
    · split
      · have := RS.put_rest S.after dev i.toNat b
        rw [this.1, this.2.2.1, this.2.2.2.1, this.2.2.2.2]
        exact ⟨⟨a1, a2, a3⟩, S.after_same.1, S.after_same.2.1⟩
      · exact ⟨⟨a1, a2, a3⟩, S.after_same.1, S.after_same.2.1⟩
    · exact ⟨⟨h.more.d0, h.more.d1, h.fu⟩, rfl, rfl⟩
  exact ⟨hf, key.1.1, key.1.2.1, key.1.2.2, key.2.1.trans h.n0, key.2.2.trans h.n1⟩
theorem RS.Pl.flush (h : S.Pl N0 N1 k) (dev : Int) : (S.flush dev).Pl N0 N1 (k + 1) := by
  obtain ⟨a1, a2, a3⟩ := h.after
  have hf := RS.few_flush h.more.few dev
  have key : (0 ≤ (S.flush dev).done ∧ (S.flush dev).done ≤ ((k + 1 : Nat) : Int) ∧ (S.flush dev).fuse ≤ 9223372036854775807) ∧ (S.flush dev).n0 = S.n0 ∧ (S.flush dev).n1 = S.n1 := by
    unfold RS.flush
    split
    · split
      · have := RS.fl_rest S.after dev
        rw [this.1, this.2.2.1, this.2.2.2.1, this.2.2.2.2]
        exact ⟨⟨a1, a2, a3⟩, S.after_same.1, S.after_same.2.1⟩
      · exact ⟨⟨a1, a2, a3⟩, S.after_same.1, S.after_same.2.1⟩
    · exact ⟨⟨h.more.d0, h.more.d1, h.fu⟩, rfl, rfl⟩
  exact ⟨hf, key.1.1, key.1.2.1, key.1.2.2, key.2.1.trans h.n0, key.2.2.trans h.n1⟩
theorem RS.Pl.crash (h : S.Pl N0 N1 k) (b0 b1 : List Int) : (S.crash b0 b1).Pl N0 N1 (k + 1) :=
  ⟨RS.few_crash S b0 b1 _, h.more.d0, h.more.d1, by show (-1 : Int) ≤ _; decide, h.n0, h.n1⟩
theorem RS.Pl.arm (h : S.Pl N0 N1 k) {n : Int} (hn : n ≤ 9223372036854775807) : ({ S with fuse := n } : RS).Pl N0 N1 (k + 1) := ⟨h.more.few, h.more.d0, h.more.d1, hn, h.n0, h.n1⟩
/-- Behind a crash all is read as it lies. -/
theorem RS.crash_read (S : RS) (b0 b1 : List Int) {i : Nat} :
    (i < S.n0 → (S.crash b0 b1).readE 0 (i : Int) = 0 ∧ (S.crash b0 b1).read 0 (i : Int) = ((S.crash b0 b1).D0 i).c) ∧ (i < S.n1 → (S.crash b0 b1).readE 1 (i : Int) = 0 ∧ (S.crash b0 b1).read 1 (i : Int) = ((S.crash b0 b1).D1 i).c) := by
  refine ⟨fun hi => ?_, fun hi => ?_⟩
  · have hh : (S.crash b0 b1).has 0 (i : Int) = true := by
      unfold RS.has
      have : (S.crash b0 b1).len 0 = S.n0 := rfl
      rw [this]; simp; omega
    unfold RS.readE RS.read
    rw [if_pos hh, if_neg (by show ¬ false = true; simp), if_pos ⟨hh, rfl⟩]
    exact ⟨rfl, Sec.look_none (settled_none S.D0 _ S.n0 i hi)⟩
  · have hh : (S.crash b0 b1).has 1 (i : Int) = true := by
      unfold RS.has
      have : (S.crash b0 b1).len 1 = S.n1 := rfl
      rw [this]; simp; omega
    unfold RS.readE RS.read
    rw [if_pos hh, if_neg (by show ¬ false = true; simp), if_pos ⟨hh, rfl⟩]
    exact ⟨rfl, Sec.look_none (settled_none S.D1 _ S.n1 i hi)⟩
end

/-- Bytes copied into an empty block of one's own. -/
theorem app_new (y : World) (g : Nat) (hg : y.heap[g]? = some (.cells #[] 5 (0, 0))) (x : Value) (bs : List Int) (hx : Sl .u8 y x bs) (hlen : bs.length ≤ 140737488355328) :
    ∃ v' y', Hid ((Builtin.append_ #[33, 33] 33 #[.slice (some ⟨g, 0, none⟩) 0 0, x]).run Try.prog y = .ok v' y') ∧ Hid (Sl .u8 y' v' bs) ∧ Hid (y.grownBy y' (some g)) ∧ Hid (∀ b off len cap, v' = .slice (some ⟨b, off, none⟩) len cap → g ≤ b ∧ b < y'.heap.size) := by
  have hlt : g < y.heap.size := (Array.getElem?_eq_some_iff.1 hg).1
  have ho0 : y.ownsRow g 5 1 (.slice (some ⟨g, 0, none⟩) 0 0) ([] : List Int).length (([] : List Int).map (Value.int .u8)) :=
    ⟨rfl, .inr ⟨g, 0, #[], rfl, Nat.le_refl _, hg, Nat.le_refl _, Nat.zero_le _, rfl, rfl⟩⟩
  obtain ⟨v3, w3, hrun, ho3, hg3⟩ := run_append_bytes g y _ [] ho0 x bs hx (by simp; omega) (by omega)
  have ho : w3.ownsRow g 5 1 v3 bs.length (bs.map (Value.int .u8)) := by simpa using ho3
  exact ⟨v3, w3, hrun, Sl.of_owns ho, hg3, fun b off len cap e => ho.lt b (by rw [e]; rfl)⟩
/-- Another one's empty block may be turned. -/
theorem Sl.grownBeside {y y' : World} {v : Value} {bs : List Int} {g : Nat} (h : Sl .u8 y v bs) (hg : y.grownBy y' (some g)) (he : y.heap[g]? = some (.cells #[] 5 (0, 0))) : Sl .u8 y' v bs := by
  refine h.stay hg.size (fun hn b off len cap e hlt => hg.block b hlt (fun e' => ?_))
  obtain rfl : b = g := by simpa using e'
  obtain ⟨a, cap', rfl, _, _, h3, _⟩ := h
  rcases h3 with h3 | ⟨b', off', rfl, h5, h6⟩
  · exact hn h3
  · simp only [Value.slice.injEq, Option.some.injEq, Addr.mk.injEq] at e
    have := h6 0 (List.length_pos_iff.2 hn)
    rw [← e.1.1] at he
    rw [cell_of_row _ _ _ _ _ _ he] at this
    simp at this
theorem below_grown {W y y' : World} {g : Nat} (h : Below W.heap.size W y) (hg : y.grownBy y' (some g)) (hW : W.heap.size ≤ g) : Below W.heap.size W y' := h.grown hg h.size (fun k e => by cases e; exact hW)

def emptyB (y : World) (g : Nat) : Prop := y.heap[g]? = some (.cells #[] 5 (0, 0))
/-- Two copies, both of whose literals have been made. -/
theorem copies_two (W y : World) (hb : Below W.heap.size W y) (g1 g2 : Nat) (h1 : W.heap.size ≤ g1) (h2 : W.heap.size ≤ g2) (hne : g1 ≠ g2) (e1 : emptyB y g1) (e2 : emptyB y g2) (x1 x2 : Value) (b1 b2 : List Int) (s1 : Sl .u8 y x1 b1) (s2 : Sl .u8 y x2 b2)
    (l1 : b1.length ≤ 140737488355328) (l2 : b2.length ≤ 140737488355328) : ∃ v1 y1 v2 y2,
      Hid ((Builtin.append_ #[33, 33] 33 #[.slice (some ⟨g1, 0, none⟩) 0 0, x1]).run Try.prog y = .ok v1 y1) ∧ Hid ((Builtin.append_ #[33, 33] 33 #[.slice (some ⟨g2, 0, none⟩) 0 0, x2]).run Try.prog y1 = .ok v2 y2) ∧
      Hid (Below W.heap.size W y1) ∧ Hid (Below W.heap.size W y2) ∧ Hid (Sl .u8 y2 v1 b1) ∧ Hid (Sl .u8 y2 v2 b2) ∧ Hid (∀ b off len cap, v1 = .slice (some ⟨b, off, none⟩) len cap → W.heap.size ≤ b ∧ b < y2.heap.size) ∧ Hid (∀ b off len cap, v2 = .slice (some ⟨b, off, none⟩) len cap → W.heap.size ≤ b ∧ b < y2.heap.size) := by
  obtain ⟨v1, y1, r1, t1, k1, o1⟩ := app_new y g1 e1 x1 b1 s1 l1
  have e2' : emptyB y1 g2 := (k1.out.block g2 (Array.getElem?_eq_some_iff.1 e2).1 (fun e => hne (by simpa using e.symm))).trans e2
  obtain ⟨v2, y2, r2, t2, k2, o2⟩ := app_new y1 g2 e2' x2 b2 (s2.grownBeside k1.out e1) l2
  have B1 := below_grown hb k1.out h1
  have B2 := below_grown B1 k2.out h2
  exact ⟨v1, y1, v2, y2, r1, r2, B1, B2, t1.out.grownBeside k2.out e2', t2, fun b off len cap e => ⟨Nat.le_trans h1 (o1.out b off len cap e).1, Nat.lt_of_lt_of_le (o1.out b off len cap e).2 k2.out.size⟩, fun b off len cap e => ⟨Nat.le_trans h2 (o2.out b off len cap e).1, (o2.out b off len cap e).2⟩⟩
/-- .. or the second one's is made behind the first copy. -/
theorem copies_then (W y : World) (hb : Below W.heap.size W y) (g1 : Nat) (h1 : W.heap.size ≤ g1) (e1 : emptyB y g1) (x1 x2 : Value) (b1 b2 : List Int) (s1 : Sl .u8 y x1 b1) (s2 : Sl .u8 y x2 b2)
    (l1 : b1.length ≤ 140737488355328) (l2 : b2.length ≤ 140737488355328) : ∃ v1 y1 v2 y2,
      Hid ((Builtin.append_ #[33, 33] 33 #[.slice (some ⟨g1, 0, none⟩) 0 0, x1]).run Try.prog y = .ok v1 y1) ∧ Hid ((Builtin.append_ #[33, 33] 33 #[.slice (some ⟨y1.heap.size, 0, none⟩) 0 0, x2]).run Try.prog (y1.alloc (.cells #[] 5)) = .ok v2 y2) ∧
      Hid (Below W.heap.size W y1) ∧ Hid (Below W.heap.size W (y1.alloc (.cells #[] 5))) ∧ Hid (Below W.heap.size W y2) ∧ Hid (Sl .u8 y2 v1 b1) ∧ Hid (Sl .u8 y2 v2 b2) ∧ Hid (∀ b off len cap, v1 = .slice (some ⟨b, off, none⟩) len cap → W.heap.size ≤ b ∧ b < y2.heap.size) ∧ Hid (∀ b off len cap, v2 = .slice (some ⟨b, off, none⟩) len cap → W.heap.size ≤ b ∧ b < y2.heap.size) := by
  obtain ⟨v1, y1, r1, t1, k1, o1⟩ := app_new y g1 e1 x1 b1 s1 l1
  have B1 := below_grown hb k1.out h1
  have hal : Below y1.heap.size y1 (y1.alloc (.cells #[] 5)) := (Below.refl _ y1).alloc (Nat.le_refl _) _
  have e2 : emptyB (y1.alloc (.cells #[] 5)) y1.heap.size := heap_alloc_new y1 _
  obtain ⟨v2, y2, r2, t2, k2, o2⟩ := app_new _ _ e2 x2 b2 ((s2.grownBeside k1.out e1).below hal) l2
  have B1' := B1.alloc B1.size (.cells #[] 5)
  have B2 := below_grown B1' k2.out B1.size
  have hz := k2.out.size
  rw [World.size_alloc] at hz
  exact ⟨v1, y1, v2, y2, r1, r2, B1, B1', B2, (t1.out.below hal).grownBeside k2.out e2, t2, fun b off len cap e => ⟨Nat.le_trans h1 (o1.out b off len cap e).1, by have := (o1.out b off len cap e).2; omega⟩, fun b off len cap e => ⟨Nat.le_trans B1.size (o2.out b off len cap e).1, (o2.out b off len cap e).2⟩⟩
end Go.Proofs.Ytompbjdhdjafgaa
