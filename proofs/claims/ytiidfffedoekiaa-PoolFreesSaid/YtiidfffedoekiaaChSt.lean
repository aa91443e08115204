/- Snapshots of one's own: one is stored; what boxes stay. -/
import Derived.Test.YtiidfffedoekiaaChBx
import Derived.Test.YtiidfffedoekiaaOrd
import Derived.Test.YtiidfffedoekiaaQuiet
namespace Go.Proofs.Ytiidfffedoekiaa
open Go.RowKit Go.Shelf
set_option linter.unusedVariables false

theorem scs_take (l : List SV) (k : Nat) : (scs l).take (k * 3) = scs (l.take k) := by
  induction l generalizing k with
  | nil => simp [scs]
  | cons p l ih =>
    cases k with
    | zero => simp [scs]
    | succ k => rw [scs_cons, show (k + 1) * 3 = k * 3 + 1 + 1 + 1 by omega, List.take_succ_cons, List.take_succ_cons, List.take_succ_cons, ih, List.take_succ_cons, scs_cons]
theorem scs_drop (l : List SV) (k : Nat) : (scs l).drop (k * 3) = scs (l.drop k) := by
  induction l generalizing k with
  | nil => simp [scs]
  | cons p l ih =>
    cases k with
    | zero => simp [scs]
    | succ k => rw [scs_cons, show (k + 1) * 3 = k * 3 + 1 + 1 + 1 by omega, List.drop_succ_cons, List.drop_succ_cons, List.drop_succ_cons, ih, List.drop_succ_cons]
set_option maxRecDepth 100000 in
/-- A snapshot is stored in a row of one's own. -/
theorem sn_store {N : Nat} {w : World} {v : Value} {l : List SN} {k : Nat} {q : SV} {s : SN} (h : SnO N w v l) (hk : k < l.length) (hq : SnF N w q s) :
    ∃ g cap w', v = .slice (some ⟨g, 0, none⟩) l.length cap ∧ l.length ≤ cap ∧ cap ≤ maxLen ∧ (storeVar 39 ⟨g, k * 3, none⟩ (svV q)).run Try.prog w = .ok () w' ∧ SnO N w' v (l.set k s) ∧ w.grownBy w' v.ownBlock := by
  obtain ⟨r, hr, ho, hf⟩ := h
  rcases ho.2 with ⟨rfl, h0⟩ | ⟨g, cap, cur, rfl, h1, h2, h3, h4, h5, h6⟩
  · omega
  · have hs : (storeVar 39 ⟨g, k * 3, none⟩ (svV q)).run Try.prog w = (storeCells ⟨g, k * 3, none⟩ (svL q) 0).run Try.prog w := by kernel_rfl
    have hst := run_storeCells_at Try.prog g (k * 3) 39 (svL q) 0 cur w h2 (by rw [h5]; show k * 3 + 0 + 3 ≤ _; omega) (by simp [svL]; exact ⟨rfl, rfl, rfl⟩)
    rw [Nat.add_zero] at hst
    have hg : w.grownBy (w.setRow g (cur.toList.take (k * 3) ++ svL q ++ cur.toList.drop (k * 3 + 3)).toArray) (some g) := ⟨rfl, rfl, rfl, by rw [setRow_size]; exact Nat.le_refl _, fun j _ hj => setRow_other w g j _ (fun e => hj (by rw [e]))⟩
    refine ⟨g, cap, _, rfl, h3, h4, hs.trans hst, ⟨r.set k q, by simp [hr], ⟨by rw [scs_length, List.length_set, List.length_set, hr], .inr ⟨g, cap, _, by rw [List.length_set], h1, setRow_heap w g cur _ _ _ h2, by rw [List.length_set]; exact h3, h4, ?_, ?_⟩⟩, ?_⟩, hg⟩
    · simp only [List.size_toArray, List.length_append, List.length_take, List.length_drop, Array.length_toList, h5, svL, List.length_cons, List.length_nil]
      omega
    · rw [List.length_set]
      have e1 : r.set k q = r.take k ++ q :: r.drop (k + 1) := List.set_eq_take_append_cons_drop .. |>.trans (by rw [if_pos (by omega)])
      have e2 : cur.toList.take (k * 3) = scs (r.take k) := by rw [← scs_take, ← h6, List.take_take, Nat.min_eq_left (by omega)]
      have e3 : (cur.toList.drop (k * 3 + 3)).take ((l.length - (k + 1)) * 3) = scs (r.drop (k + 1)) := by
        rw [← scs_drop, ← h6, List.drop_take, show (k + 1) * 3 = k * 3 + 3 by omega, show l.length * 3 - (k * 3 + 3) = (l.length - (k + 1)) * 3 by omega]
      show List.take (l.length * 3) (cur.toList.take (k * 3) ++ svL q ++ cur.toList.drop (k * 3 + 3)) = _
      have e4 : (scs (r.take k) ++ svL q).length = k * 3 + 3 := by rw [List.length_append, scs_length, List.length_take, Nat.min_eq_left (by omega)]; rfl
      rw [e2, List.take_append, List.take_of_length_le (by rw [e4]; omega), e4, show l.length * 3 - (k * 3 + 3) = (l.length - (k + 1)) * 3 by omega, e3, e1, scs_append, scs_cons, List.append_assoc]
      rfl
    · intro j q' s' ha hb
      by_cases e : k = j
      · subst e
        rw [List.getElem?_set_self (by omega)] at ha hb
        cases ha; cases hb
        exact hq.kept ho hg
      · rw [List.getElem?_set_ne e] at ha hb
        exact (hf j q' s' ha hb).kept ho hg
/-- A store into a box of another kind. -/
theorem SnO.setB {N B : Nat} {x : World} {v : Value} {l : List SN} {C : List Value} {t : TypeId} (h : SnO N x v l) (hB : RowC x B t C) (h1 : 39 ≠ t) (h2 : 5 ≠ t) (h3 : 42 ≠ t) (j : Nat) (u : Value) : SnO N (x.setCell ⟨B, j, none⟩ u) v l := by
  obtain ⟨r, a1, a2, a3⟩ := h
  exact ⟨r, a1, own_setB a2 hB h1 j u, fun j' q s e1 e2 => by
    have := a3 j' q s e1 e2
    exact ⟨this.id, own_setB this.ch hB h2 j u, ⟨own_setB this.tb.1 hB h3 j u, this.tb.2⟩, this.ok⟩⟩
theorem SpX.grownRow {N B M : Nat} {i j : Int} {v u : Value} {w x y : World} {l : List SN} (h : SpX N B i j v w x) (hx : N ≤ x.heap.size) (ho : SnO M x u l) (hM : N ≤ M) (hg : x.grownBy y u.ownBlock) : SpX N B i j v w y :=
  ⟨h.bl.grown hg (ho.ne h.bl (by decide)), h.bi.grown hg (ho.ne h.bi (by decide)), h.bj.grown hg (ho.ne h.bj (by decide)), h.be.grown hg hx (fun k e => Nat.le_trans hM (ho.base k e).1)⟩
theorem keepsFrom_sn {B M : Nat} {x y : World} {u : Value} {l : List SN} (ho : SnO M x u l) (hg : x.grownBy y u.ownBlock) : KeepsFrom B x y := by
  obtain ⟨r, a1, a2, a3⟩ := ho
  exact keepsFrom_row a2 hg
theorem SnO.isSl {N : Nat} {x : World} {v : Value} {l : List SN} (h : SnO N x v l) : ∃ q : SlV, v = slV q ∧ q.2.1 = l.length := by
  obtain ⟨r, a1, a2, a3⟩ := h
  exact own_slV a2
/-- One of them, and where it lies. -/
theorem SnO.open {N k : Nat} {W : World} {v : Value} {l : List SN} {s : SN} (h : SnO N W v l) (hk : l[k]? = some s) :
    ∃ g cap q, v = .slice (some ⟨g, 0, none⟩) l.length cap ∧ l.length ≤ cap ∧ cap ≤ maxLen ∧ g < W.heap.size ∧ SnF N W q s ∧ W.cell? ⟨g, k * 3, none⟩ = some (.int .i64 q.1) ∧ W.cell? ⟨g, k * 3 + 1, none⟩ = some (slV q.2.1) ∧ W.cell? ⟨g, k * 3 + 2, none⟩ = some (slV q.2.2) := by
  obtain ⟨r, h1, h2, h3⟩ := h
  have hkl := (List.getElem?_eq_some_iff.1 hk).1
  rcases h2.2 with ⟨rfl, h0⟩ | ⟨g, cap, cur, rfl, a1, a2, a3, a4, a5, a6⟩
  · omega
  · have hq := List.getElem?_eq_getElem (l := r) (i := k) (by omega)
    have hc := h2.cells (g := g) rfl
    obtain ⟨f1, f2, f3⟩ := scs_get hq
    have c1 := hc _ _ f1
    have c2 := hc _ _ f2
    have c3 := hc _ _ f3
    rw [Addr.add_mid, Nat.zero_add] at c1 c2 c3
    exact ⟨g, cap, _, rfl, a3, a4, (Array.getElem?_eq_some_iff.1 a2).1, h3 k _ s hq hk, c1, c2, c3⟩
/-- Worlds in which two blocks are as they were. -/
def Kp2 (W : World) (B C : Nat) : Type := {x : World // x.heap[B]? = W.heap[B]? ∧ x.heap[C]? = W.heap[C]?}
instance (W : World) (B C : Nat) : Nonempty (Kp2 W B C) := ⟨⟨W, rfl, rfl⟩⟩
theorem Kp2.fst {W : World} {B C : Nat} {t : TypeId} {c : List Value} (z : Kp2 W B C) (h : RowC W B t c) : RowC z.1 B t c := z.2.1.trans h
theorem Kp2.snd {W : World} {B C : Nat} {t : TypeId} {c : List Value} (z : Kp2 W B C) (h : RowC W C t c) : RowC z.1 C t c := z.2.2.trans h
theorem Kp2.below {W x y : World} {B C : Nat} (h : x.heap[B]? = W.heap[B]? ∧ x.heap[C]? = W.heap[C]?) (hb : B < x.heap.size) (hc : C < x.heap.size) (hy : Below x.heap.size x y) : y.heap[B]? = W.heap[B]? ∧ y.heap[C]? = W.heap[C]? := ⟨(hy.block B hb).trans h.1, (hy.block C hc).trans h.2⟩
theorem Kp2.grown {W x y : World} {B C : Nat} {row : Option Nat} (h : x.heap[B]? = W.heap[B]? ∧ x.heap[C]? = W.heap[C]?) (hb : B < x.heap.size) (hc : C < x.heap.size) (hy : x.grownBy y row) (h1 : row ≠ some B) (h2 : row ≠ some C) : y.heap[B]? = W.heap[B]? ∧ y.heap[C]? = W.heap[C]? := ⟨(hy.block B hb (fun e => h1 e.symm)).trans h.1, (hy.block C hc (fun e => h2 e.symm)).trans h.2⟩
end Go.Proofs.Ytiidfffedoekiaa
