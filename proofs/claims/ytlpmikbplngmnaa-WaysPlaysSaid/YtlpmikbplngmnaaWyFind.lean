/- The document's map of blocks in slots: Find. -/
import Derived.Test.YtlpmikbplngmnaaWyHas
import Derived.Test.YtlpmikbplngmnaaOrd
namespace Go.Proofs.Ytlpmikbplngmnaa
open Go.RowKit Go.Shelf Go.Lib
set_option linter.unusedVariables false
set_option linter.unusedSimpArgs false
variable {P SB HB cap : Nat} {m : WM} {w : World} {f : Nat → Prop}
def opI : Option Nat → Int
  | some i => (i : Int)
  | none => -1
theorem find_hit {m : WM} {b : Int} (hb : ¬ b < 0) {k : Nat} (hk : k < (m.set (m.of b)).l.length) (h1 : ((m.set (m.of b)).slot k).b = b) (h2 : ∀ j, j < k → ((m.set (m.of b)).slot j).b ≠ b) : mFind m b = some (m.of b * m.wy + k) := by
  unfold mFind
  rw [if_neg hb]
  have e : findW (m.set (m.of b)).l b = some k := by
    unfold findW
    rw [List.findIdx?_eq_some_iff_getElem]
    have g : ∀ j (hj : j < (m.set (m.of b)).l.length), (m.set (m.of b)).slot j = (m.set (m.of b)).l[j] := fun j hj => by unfold WS.slot; rw [List.getElem?_eq_getElem hj]; rfl
    refine ⟨hk, by rw [← g k hk]; simpa using h1, fun j hj => ?_⟩
    rw [← g j (by omega)]
    simpa using h2 j hj
  rw [e]
  rfl
theorem find_miss {m : WM} {b : Int} (hb : ¬ b < 0) (h2 : ∀ j, j < (m.set (m.of b)).l.length → ((m.set (m.of b)).slot j).b ≠ b) : mFind m b = none := by
  unfold mFind
  rw [if_neg hb]
  have e : findW (m.set (m.of b)).l b = none := by
    unfold findW
    rw [List.findIdx?_eq_none_iff]
    intro x hx
    obtain ⟨j, hj, e⟩ := List.getElem_of_mem hx
    have := h2 j hj
    unfold WS.slot at this
    rw [List.getElem?_eq_getElem hj, e] at this
    simpa using this
  rw [e]
  rfl

set_option maxRecDepth 100000 in
set_option maxHeartbeats 2000000 in
/-- **Find**. -/
theorem WyQ.find (h : WyQ P SB HB cap m w f) (ho : WmOk m) (b : Int) (hb : b ≤ 9223372036854775807) :
    Calls Try.prog 16 #[.pointer (some ⟨P, 0, none⟩), .int .i64 b] w fun e w' => e = .returned (.int .i64 (opI (mFind m b))) ∧ Below w.heap.size w w' := by
  have hmx : Try.prog.follows .mixedOrders = true := by kernel_rfl
  by_cases h0 : b < 0
  · have g0 : decide (b < 0) = true := by simpa using h0
    have E : Hid (opI (mFind m b) = -1) := by unfold mFind; rw [if_pos h0]; rfl
    clear h
    go_enter Try.func16, Try.ntmps16
    go_wp2_with fail
    go_ret
    exact ⟨by rw [E.out]; rfl, Below.refl _ _⟩
  · have g0 : decide (b < 0) = false := by simpa using h0
    have HQ := Lib.hid h
    have HO := Lib.hid ho
    obtain ⟨st, hst⟩ : ∃ st, m.ss.length = st := ⟨_, rfl⟩
    obtain ⟨wy, hwy⟩ : ∃ wy, m.wy = wy := ⟨_, rfl⟩
    obtain ⟨s, hs⟩ : ∃ s, m.of b = s := ⟨_, rfl⟩
    obtain ⟨nn, hnn⟩ : ∃ nn, m.size = nn := ⟨_, rfl⟩
    have h1 := ho.st1
    have h2 := ho.st8
    have h3 := ho.wy1
    have h4 := ho.wy4
    have hrem := of_eq ho.st1 b
    have hlt := of_lt ho.st1 b
    have hsz : nn = st * wy := by rw [← hnn, ← hst, ← hwy]; rfl
    rw [hst] at h1 h2 hrem hlt
    rw [hs] at hrem hlt
    rw [hwy] at h3 h4
    have hsl : s * wy + wy ≤ nn := by
      rw [hsz]
      calc s * wy + wy = (s + 1) * wy := by rw [Nat.add_mul, Nat.one_mul]
        _ ≤ st * wy := Nat.mul_le_mul_right _ hlt
    have hnn8 : nn ≤ 32 := by rw [hsz]; calc st * wy ≤ 8 * 4 := Nat.mul_le_mul h2 h4
                                      _ = 32 := rfl
    have HST := Lib.hid hst
    have HWY := Lib.hid hwy
    have HS := Lib.hid hs
    have HNN := Lib.hid hnn
    have KH : Hid (∀ y : Ext w, y.1.cell? ⟨P, 0, none⟩ = some (.int .i64 (st : Int)) ∧ y.1.cell? ⟨P, 1, none⟩ = some (.int .i64 (wy : Int)) ∧ y.1.cell? ⟨P, 2, none⟩ = some (.slice (some ⟨SB, 0, none⟩) nn cap)) := by
      intro y
      have := ((WyQ.isRes P SB HB cap m).below h y.2).head
      rw [hst, hwy, hnn] at this
      exact ⟨this.1, this.2.1, this.2.2.1⟩
    have KS : Hid (∀ (y : Ext w) (i : Nat), i < nn → y.1.cell? ⟨SB, i * 3, none⟩ = some (.int .i64 (m.slot i).b)) := by
      intro y i hi
      exact (((WyQ.isRes P SB HB cap m).below h y.2).slot (by rw [hnn]; exact hi)).1
    have KF : Hid (∀ k, k < wy → (m.slot (s * wy + k)).b = b → (∀ j, j < k → (m.slot (s * wy + j)).b ≠ b) → mFind m b = some (s * wy + k)) := by
      intro k hk e1 e2
      have hl := (ho.sets (m.of b) (of_lt ho.st1 b)).len
      have := find_hit (m := m) h0 (k := k) (by rw [hl, hwy]; exact hk) (by rw [← slot_at (by rw [hwy]; exact hk), hs, hwy]; exact e1) (fun j hj => by rw [← slot_at (by rw [hwy]; omega), hs, hwy]; exact e2 j hj)
      rw [this, hs, hwy]
    have KN : Hid ((∀ j, j < wy → (m.slot (s * wy + j)).b ≠ b) → mFind m b = none) := by
      intro e2
      have hl := (ho.sets (m.of b) (of_lt ho.st1 b)).len
      exact find_miss (m := m) h0 (fun j hj => by rw [hl, hwy] at hj; rw [← slot_at (by rw [hwy]; exact hj), hs, hwy]; exact e2 j hj)
    clear h ho hst hwy hs hnn HQ HO
    go_enter Try.func16, Try.ntmps16
    go_wp2_with fail
    go_loopw [5, 6] (fun iv _ wr => ∃ k : Nat, k ≤ wy ∧ iv = .int .i64 (k : Int) ∧ (∃ y : Ext w, wr = y.1) ∧ Hid (∀ j, j < k → (m.slot (s * wy + j)).b ≠ b)) (fun iv _ _ => wy - (intOf iv).toNat)
    case atStart => exact ⟨0, Nat.zero_le _, rfl, ⟨⟨w, Below.refl _ w⟩, rfl⟩, fun j hj => absurd hj (Nat.not_lt_zero _)⟩
    case round =>
      obtain ⟨k, hk, rfl, ⟨y, rfl⟩, HP⟩ := hrel
      obtain ⟨c0, c1, c2⟩ := KH.out y
      by_cases hlt2 : k < wy
      · have g1 : (k : Int) < (wy : Int) := by omega
        have HLT := Lib.hid hlt2
        have hki : s * wy + k < nn := by omega
        have c3 := KS.out y (s * wy + k) hki
        go_wp2_with fail
        refine region_plan (fun x => x = y.1.drew) 13 (.takes [0, 1, 2, 3, 4, 5, 6, 7, 8, 9, 10, 11, 12] .leaf) hmx (by kernel_rfl) (by intro c x v a w h; cases x <;> exact h) rfl ?_
        repeat (rw [wpPlan_takes_cons]; simp only [nth_zero, nth_succ]; go_big_quiet_step (fail); refine wpQuiet_nil ?_)
        rw [wpPlan_takes_nil, wpPlan_leaf]
        simp only [List.drop_succ_cons, List.drop_zero]
        by_cases hc : (m.slot (s * wy + k)).b = b
        · have q1 : ((m.slot (s * wy + k)).b == b) = true := by simpa using hc
          have E : Hid (opI (mFind m b) = (s : Int) * (wy : Int) + (k : Int)) := by
            rw [KF.out k HLT.out hc HP.out]
            show ((s * wy + k : Nat) : Int) = _
            simp
          go_wp2_with fail
          go_ret
          exact ⟨by rw [E.out]; rfl, y.2.drew⟩
        · have q1 : ((m.slot (s * wy + k)).b == b) = false := by simpa using hc
          have HC := Lib.hid hc
          go_wp2_with fail
          exact ⟨⟨k + 1, HLT.out, by simp, ⟨⟨y.1.drew, y.2.drew⟩, rfl⟩, fun j hj => by
            by_cases e : j = k
            · subst e; exact HC.out
            · exact HP.out j (by omega)⟩, by have := HLT.out; simp [intOf]; omega⟩
      · obtain rfl : k = wy := by omega
        have E : Hid (opI (mFind m b) = -1) := by rw [KN.out HP.out]; rfl
        go_wp2_with fail
        go_ret
        exact ⟨by rw [E.out]; rfl, y.2⟩
end Go.Proofs.Ytlpmikbplngmnaa
