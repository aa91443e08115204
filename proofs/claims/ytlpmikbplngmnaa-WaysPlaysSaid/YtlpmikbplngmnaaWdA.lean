/- The program's map of blocks in slots: set, content, first, turn. -/
import Derived.Test.YtlpmikbplngmnaaWyPutR
namespace Go.Proofs.Ytlpmikbplngmnaa
open Go.RowKit Go.Shelf Go.Lib
set_option linter.unusedVariables false
set_option linter.unusedSimpArgs false
variable {P SB HB cap : Nat} {m : WM} {w : World} {f : Nat → Prop}
/-- A slot, or that there is none, as the program tells it. -/
def opP : Option Nat → Value
  | some i => .tuple #[.int .i64 (i : Int), .bool true]
  | none => .tuple #[.int .i64 0, .bool false]

set_option maxRecDepth 100000 in
set_option maxHeartbeats 1000000 in
/-- **set**, of a block. -/
theorem WyD.setYes (h : WyD P SB HB cap m w f) (ho : WmOk m) {b : Int} (h0 : 0 ≤ b) (hb : b ≤ 9223372036854775807) :
    Calls Try.prog 30 #[.pointer (some ⟨P, 0, none⟩), .int .i64 b] w fun e w' => e = .returned (.tuple #[.int .i64 (m.of b : Int), .bool true]) ∧ w' = w := by
  have g0 : decide (b < 0) = false := by simpa using h0
  obtain ⟨-, -, c0⟩ := h.head
  have h1 := ho.st1
  have h2 := ho.st8
  have hrem := of_eq ho.st1 b
  have hlt := of_lt ho.st1 b
  obtain ⟨st, hst⟩ : ∃ st, m.ss.length = st := ⟨_, rfl⟩
  obtain ⟨s, hs⟩ : ∃ s, m.of b = s := ⟨_, rfl⟩
  rw [hst] at h1 h2 hrem c0 hlt
  rw [hs] at hrem hlt ⊢
  have g1 : ((st : Int) == 0) = false := by simp; omega
  clear h ho hst hs
  go_enter Try.func30, Try.ntmps30
  go_wp2_with fail
  go_ret2
  exact ⟨by rw [← hrem]; rfl, rfl⟩
set_option maxRecDepth 100000 in
set_option maxHeartbeats 1000000 in
/-- **set**, of no block. -/
theorem WyD.setNo (b : Int) (p : Value) (hp : p = .pointer none ∨ ∃ x, p = .pointer (some x) ∧ b < 0) :
    Calls Try.prog 30 #[p, .int .i64 b] w fun e w' => e = .returned (.tuple #[.int .i64 0, .bool false]) ∧ w' = w := by
  rcases hp with rfl | ⟨x, rfl, h0⟩
  · go_enter Try.func30, Try.ntmps30
    go_wp2_with fail
    go_ret2
    exact ⟨rfl, rfl⟩
  · have g0 : decide (b < 0) = true := by simpa using h0
    go_enter Try.func30, Try.ntmps30
    go_wp2_with fail
    go_ret2
    exact ⟨rfl, rfl⟩
set_option maxRecDepth 100000 in
set_option maxHeartbeats 1000000 in
/-- **content**, of a slot. -/
theorem WyD.contentYes (h : WyD P SB HB cap m w f) (hs : m.size ≤ 32) {n : Nat} (hn : n < m.size) :
    Calls Try.prog 33 #[.pointer (some ⟨P, 0, none⟩), .int .i64 (n : Int)] w fun e w' => e = .returned (.pointer (some ⟨SB, n * 3, none⟩)) ∧ w' = w := by
  obtain ⟨-, c0, -⟩ := h.head
  obtain ⟨z, hz⟩ : ∃ z, m.size = z := ⟨_, rfl⟩
  rw [hz] at hs hn c0
  clear h hz
  have g0 : decide ((n : Int) < 0) = false := by simp
  have g1 : decide ((n : Int) ≥ (z : Int)) = false := by simp; omega
  go_enter Try.func33, Try.ntmps33
  go_wp2_with fail
  go_ret
  exact ⟨rfl, rfl⟩
set_option maxRecDepth 100000 in
set_option maxHeartbeats 1000000 in
/-- **content**, of no slot. -/
theorem WyD.contentNo (h : WyD P SB HB cap m w f) {i : Int} (hi : ¬ mHas m i) :
    Calls Try.prog 33 #[.pointer (some ⟨P, 0, none⟩), .int .i64 i] w fun e w' => e = .returned (.pointer none) ∧ w' = w := by
  obtain ⟨-, c0, -⟩ := h.head
  unfold mHas at hi
  by_cases h0 : i < 0
  · have g0 : decide (i < 0) = true := by simpa using h0
    clear h hi
    go_enter Try.func33, Try.ntmps33
    go_wp2_with fail
    go_ret
    exact ⟨rfl, rfl⟩
  · have g0 : decide (i < 0) = false := by simpa using h0
    have g1 : decide (i ≥ (m.size : Int)) = true := by simp; omega
    clear h hi
    go_enter Try.func33, Try.ntmps33
    go_wp2_with fail
    go_ret
    exact ⟨rfl, rfl⟩
set_option maxRecDepth 100000 in
set_option maxHeartbeats 1000000 in
/-- **content**, of a map that nobody made. -/
theorem wd_contentNil (i : Int) :
    Calls Try.prog 33 #[.pointer none, .int .i64 i] w fun e w' => e = .returned (.pointer none) ∧ w' = w := by
  go_enter Try.func33, Try.ntmps33
  go_wp2_with fail
  go_ret
  exact ⟨rfl, rfl⟩
theorem findW_hit {x : WS} {b : Int} {k : Nat} (hk : k < x.l.length) (h1 : (x.slot k).b = b) (h2 : ∀ j, j < k → (x.slot j).b ≠ b) : findW x.l b = some k := by
  unfold findW
  rw [List.findIdx?_eq_some_iff_getElem]
  have g : ∀ j (hj : j < x.l.length), x.slot j = x.l[j] := fun j hj => by unfold WS.slot; rw [List.getElem?_eq_getElem hj]; rfl
  refine ⟨hk, by rw [← g k hk]; simpa using h1, fun j hj => ?_⟩
  rw [← g j (by omega)]
  simpa using h2 j hj
theorem findW_miss {x : WS} {b : Int} (h2 : ∀ j, j < x.l.length → (x.slot j).b ≠ b) : findW x.l b = none := by
  unfold findW
  rw [List.findIdx?_eq_none_iff]
  intro y hy
  obtain ⟨j, hj, e⟩ := List.getElem_of_mem hy
  have := h2 j hj
  unfold WS.slot at this
  rw [List.getElem?_eq_getElem hj, e] at this
  simpa using this

set_option maxRecDepth 100000 in
set_option maxHeartbeats 2000000 in
/-- **first**. -/
theorem WyD.first (h : WyD P SB HB cap m w f) (ho : WmOk m) {s : Nat} (hs : s < m.ss.length) (b : Int) :
    Calls Try.prog 31 #[.pointer (some ⟨P, 0, none⟩), .int .i64 (s : Int), .int .i64 b] w fun e w' => e = .returned (opP ((findW (m.set s).l b).map fun k => s * m.wy + k)) ∧ w' = w := by
  have h1 := ho.st1
  have h2 := ho.st8
  have h3 := ho.wy1
  have h4 := ho.wy4
  have hl := (ho.sets s hs).len
  obtain ⟨c0, c1, -⟩ := h.head
  have hsz : m.size = m.ss.length * m.wy := rfl
  have hsl : s * m.wy + m.wy ≤ m.size := by
    rw [hsz]
    calc s * m.wy + m.wy = (s + 1) * m.wy := by rw [Nat.add_mul, Nat.one_mul]
      _ ≤ m.ss.length * m.wy := Nat.mul_le_mul_right _ hs
  have hnn8 : m.size ≤ 32 := by rw [hsz]; calc m.ss.length * m.wy ≤ 8 * 4 := Nat.mul_le_mul h2 h4
                                            _ = 32 := rfl
  have KS : Hid (∀ i, i < m.size → w.cell? ⟨SB, i * 3, none⟩ = some (.int .i64 (m.slot i).b)) := fun i hi => (h.slot hi).1
  have KF : Hid (∀ k, k < m.wy → (m.slot (s * m.wy + k)).b = b → (∀ j, j < k → (m.slot (s * m.wy + j)).b ≠ b) → findW (m.set s).l b = some k) := fun k hk e1 e2 =>
    findW_hit (by rw [hl]; exact hk) (by rw [← slot_at hk]; exact e1) (fun j hj => by rw [← slot_at (by omega)]; exact e2 j hj)
  have KN : Hid ((∀ j, j < m.wy → (m.slot (s * m.wy + j)).b ≠ b) → findW (m.set s).l b = none) := fun e2 =>
    findW_miss (fun j hj => by rw [hl] at hj; rw [← slot_at hj]; exact e2 j hj)
  obtain ⟨wy, hwy⟩ : ∃ wy, m.wy = wy := ⟨_, rfl⟩
  obtain ⟨nn, hnn⟩ : ∃ nn, m.size = nn := ⟨_, rfl⟩
  rw [hwy] at h3 h4 c0 KF KN hsl
  rw [hnn] at c1 KS hnn8 hsl
  have HWY := Lib.hid hwy
  clear h ho hl hsz hwy hnn h1 h2 hs
  go_enter Try.func31, Try.ntmps31
  go_wp2_with fail
  go_loopw [8, 9, 14] (fun _ _ iv wr => ∃ k : Nat, k ≤ wy ∧ iv = .int .i64 (k : Int) ∧ wr = w ∧ Hid (∀ j, j < k → (m.slot (s * wy + j)).b ≠ b)) (fun _ _ iv _ => wy - (intOf iv).toNat)
  case atStart => exact ⟨0, Nat.zero_le _, rfl, rfl, fun j hj => absurd hj (Nat.not_lt_zero _)⟩
  case round =>
    obtain ⟨k, hk, rfl, rfl, HP⟩ := hrel
    by_cases hlt2 : k < wy
    · have g1 : (k : Int) < (wy : Int) := by omega
      have HLT := Lib.hid hlt2
      have hki : s * wy + k < nn := by omega
      have c3 := KS.out (s * wy + k) hki
      by_cases hc : (m.slot (s * wy + k)).b = b
      · have q1 : ((m.slot (s * wy + k)).b == b) = true := by simpa using hc
        have E : Hid ((findW (m.set s).l b).map (fun k => s * m.wy + k) = some (s * wy + k)) := by
          rw [KF.out k HLT.out hc HP.out, HWY.out]; rfl
        clear hc
        go_wp2_with fail
        go_ret2
        rw [E.out]
        exact ⟨by show _ = Ending.returned (.tuple #[.int .i64 ((s * wy + k : Nat) : Int), .bool true]); simp, rfl⟩
      · have q1 : ((m.slot (s * wy + k)).b == b) = false := by simpa using hc
        have HC := Lib.hid hc
        clear hc
        go_wp2_with fail
        exact ⟨⟨k + 1, HLT.out, by simp, (by trivial), fun j hj => by
          by_cases e : j = k
          · subst e; exact HC.out
          · exact HP.out j (by omega)⟩, by have := HLT.out; simp [intOf]; omega⟩
    · obtain rfl : k = wy := by omega
      have E : Hid ((findW (m.set s).l b).map (fun j => s * m.wy + j) = none) := by rw [KN.out HP.out]; rfl
      go_wp2_with fail
      go_ret2
      rw [E.out]
      exact ⟨rfl, rfl⟩
set_option maxRecDepth 100000 in
set_option maxHeartbeats 2000000 in
/-- **turn**. -/
theorem WyD.turn (h : WyD P SB HB cap m w f) (ho : WmLen m) (h2 : m.ss.length ≤ 8) (h4 : m.wy ≤ 4) {s : Nat} (hs : s < m.ss.length) (hh : (m.set s).h < m.wy) :
    Calls Try.prog 35 #[.pointer (some ⟨P, 0, none⟩), .int .i64 (s : Int)] w fun e w' => e = .returned (.int .i64 ((s * m.wy + (m.set s).h : Nat) : Int)) ∧ WyD P SB HB cap (m.upd s (m.set s).next) w' f ∧ Turn f f w w' := by
  have hmx : Try.prog.follows .mixedOrders = true := by kernel_rfl
  have h3 := ho.wy1
  have hl := ho.sets s hs
  obtain ⟨c0, -, c2⟩ := h.head
  have c3 := h.hand hs
  have c4 := h.frozenH s
  have KM : Hid (∀ k : Nat, WyD P SB HB cap (m.upd s ⟨k, (m.set s).l⟩) (w.drew.setCell ⟨HB, s, none⟩ (.int .i64 (k : Int))) f ∧ Turn f f w (w.drew.setCell ⟨HB, s, none⟩ (.int .i64 (k : Int)))) := fun k => by
    have hb : Below w.heap.size w w.drew := (Below.refl _ w).drew
    have q := ((WyD.isRes P SB HB cap m).below h hb).moved ho hs k
    exact ⟨q.1, (Turn.of_below hb).trans q.2⟩
  have KH : Hid (∀ k : Nat, (w.setCell ⟨HB, s, none⟩ (.int .i64 (k : Int))).cell? ⟨P, 0, none⟩ = some (.int .i64 (m.wy : Int))) := fun k => (h.moved ho hs k).1.headAt 0
  have hnx : (m.set s).next = ⟨((m.set s).h + 1) % m.wy, (m.set s).l⟩ := by unfold WS.next; rw [hl]
  rw [hnx]
  obtain ⟨wy, hwy⟩ : ∃ wy, m.wy = wy := ⟨_, rfl⟩
  obtain ⟨hd, hhd⟩ : ∃ hd, (m.set s).h = hd := ⟨_, rfl⟩
  obtain ⟨st, hst⟩ : ∃ st, m.ss.length = st := ⟨_, rfl⟩
  rw [hwy] at h3 h4 hh c0 KH ⊢
  rw [hhd] at hh c3 ⊢
  rw [hst] at h2 c2 hs
  obtain ⟨k, hk⟩ : ∃ k : Nat, (hd + 1) % wy = k := ⟨_, rfl⟩
  have hki : ((hd : Int) + 1) % (wy : Int) = (k : Int) := by rw [← hk]; simp
  rw [hk]
  have K1 := Lib.hid (KM.out k)
  have K2 := KH.out k
  clear h ho hl hnx hwy hhd hst hk KM KH
  have hsw : s * wy ≤ 32 := by calc s * wy ≤ 8 * 4 := Nat.mul_le_mul (by omega) h4
                                    _ = 32 := rfl
  go_enter Try.func35, Try.ntmps35
  go_wp2_with fail
  refine region_plan (fun x => x = w.drew) 13 (.takes [0, 1, 2, 3, 4, 5, 6, 7, 8, 9, 10, 11, 12] .leaf) hmx (by kernel_rfl) (by intro c x v a w h; cases x <;> exact h) rfl ?_
  repeat (rw [wpPlan_takes_cons]; simp only [nth_zero, nth_succ]; go_big_quiet_step (fail); refine wpQuiet_nil ?_)
  rw [wpPlan_takes_nil, wpPlan_leaf]
  simp only [List.drop_succ_cons, List.drop_zero, hki]
  go_wp2_with fail
  go_ret
  exact ⟨by simp, K1.out⟩
end Go.Proofs.Ytlpmikbplngmnaa
