/- Armed rigs. -/
import Derived.Test.YtompbjdhdjafgaaRUp
namespace Go.Proofs.Ytompbjdhdjafgaa
open Go.RowKit
set_option linter.unusedVariables false

/-- Armed with K, of which d are used up. -/
structure RS.Fus (S : RS) (K d : Int) : Prop where
  fuse : S.fuse = K - d
  d0 : 0 ≤ d
  d1 : d ≤ K
  done : S.done = d
  up : d < K → S.down = false
  n0 : S.n0 = 5
  n1 : S.n1 = 5

theorem RS.Fus.has {S : RS} {K d : Int} (h : S.Fus K d) {dev i : Int} (h0 : 0 ≤ dev ∧ dev < 2) (h1 : 0 ≤ i ∧ i < 5) : S.has dev i = true := by
  unfold RS.has RS.len
  rw [h.n0, h.n1]
  by_cases e : dev = 0
  · rw [if_pos e]; simp; omega
  · rw [if_neg e, if_pos (by omega)]; simp; omega
theorem RS.Fus.okOf {S : RS} {K d : Int} (h : S.Fus K d) (hl : d < K) : S.ok = true := by
  unfold RS.ok
  rw [h.up hl, h.fuse]
  simp
  omega
theorem RS.Fus.no {S : RS} {K d : Int} (h : S.Fus K d) (hl : ¬ d < K) : S.ok = false := by
  unfold RS.ok
  rw [h.fuse]
  have := h.d1
  simp
  omega
theorem RS.Fus.after {S : RS} {K d : Int} (h : S.Fus K d) (hl : d < K) : S.after.Fus K (d + 1) ∧ S.after.down = false := by
  have h1 := h.fuse
  have h2 := h.d0
  unfold RS.after
  rw [if_pos (h.okOf hl)]
  exact ⟨⟨by show (if 0 < S.fuse then S.fuse - 1 else S.fuse) = _; rw [if_pos (by omega)]; omega, by omega, by omega, by show S.done + 1 = _; rw [h.done], fun _ => h.up hl, h.n0, h.n1⟩, h.up hl⟩
theorem RS.Fus.stop {S : RS} {K d : Int} (h : S.Fus K d) (hl : ¬ d < K) : S.after.Fus K d ∧ S.after.down = true := by
  unfold RS.after
  rw [if_neg (by rw [h.no hl]; simp)]
  exact ⟨⟨h.fuse, h.d0, h.d1, h.done, fun h' => absurd h' hl, h.n0, h.n1⟩, rfl⟩
theorem RS.Fus.rest {S S' : RS} {K d : Int} (h : S.Fus K d) (e : S'.fuse = S.fuse ∧ S'.down = S.down ∧ S'.done = S.done ∧ S'.n0 = S.n0 ∧ S'.n1 = S.n1) : S'.Fus K d :=
  ⟨e.1.trans h.fuse, h.d0, h.d1, e.2.2.1.trans h.done, fun h' => e.2.1.trans (h.up h'), e.2.2.2.1.trans h.n0, e.2.2.2.2.trans h.n1⟩
theorem RS.Fus.write {S : RS} {K d : Int} (h : S.Fus K d) {dev i : Int} (hh : S.has dev i = true) (b : List Value) :
    (d < K → S.writeE dev i = 0 ∧ (S.write dev i b).Fus K (d + 1) ∧ (S.write dev i b).down = false) ∧ (¬ d < K → S.writeE dev i = 14 ∧ (S.write dev i b).Fus K d ∧ (S.write dev i b).down = true) := by
  unfold RS.write RS.writeE
  rw [if_pos hh, if_pos hh]
  refine ⟨fun hl => ?_, fun hl => ?_⟩
  · rw [if_pos (h.okOf hl), if_pos (h.okOf hl)]
    exact ⟨rfl, (h.after hl).1.rest (RS.put_rest _ _ _ _), (RS.put_rest _ _ _ _).2.1.trans (h.after hl).2⟩
  · rw [if_neg (by rw [h.no hl]; simp), if_neg (by rw [h.no hl]; simp)]
    exact ⟨rfl, h.stop hl⟩
theorem RS.Fus.flush {S : RS} {K d : Int} (h : S.Fus K d) {dev : Int} (hd : dev = 0 ∨ dev = 1) :
    (d < K → S.flushE dev = 0 ∧ (S.flush dev).Fus K (d + 1) ∧ (S.flush dev).down = false) ∧ (¬ d < K → S.flushE dev = 14 ∧ (S.flush dev).Fus K d ∧ (S.flush dev).down = true) := by
  unfold RS.flush RS.flushE
  rw [if_pos hd, if_pos hd]
  refine ⟨fun hl => ?_, fun hl => ?_⟩
  · rw [if_pos (h.okOf hl), if_pos (h.okOf hl)]
    exact ⟨rfl, (h.after hl).1.rest (RS.fl_rest _ _), (RS.fl_rest _ _).2.1.trans (h.after hl).2⟩
  · rw [if_neg (by rw [h.no hl]; simp), if_neg (by rw [h.no hl]; simp)]
    exact ⟨rfl, h.stop hl⟩
theorem newS_fus (K : Int) (h : 0 ≤ K) : ({ newS 5 5 with fuse := K } : RS).Fus K 0 := ⟨by show K = K - 0; omega, Int.le_refl 0, h, rfl, fun _ => rfl, rfl, rfl⟩
end Go.Proofs.Ytompbjdhdjafgaa
