/- The document's map of blocks in slots: Dirtiest. -/
import Derived.Test.YtlpmikbplngmnaaWyPutR
namespace Go.Proofs.Ytlpmikbplngmnaa
open Go.RowKit Go.Shelf Go.Lib
set_option linter.unusedVariables false
set_option linter.unusedSimpArgs false
variable {P SB HB cap : Nat} {m : WM} {w : World} {f : Nat → Prop}
theorem dirt_hit {m : WM} {b : Int} (hb : ¬ b < 0) {k : Nat} (hk : k < (m.set (m.of b)).l.length) (h1 : ((m.set (m.of b)).slot (((m.set (m.of b)).h + k) % (m.set (m.of b)).l.length)).d = true) (h2 : ∀ j, j < k → ((m.set (m.of b)).slot (((m.set (m.of b)).h + j) % (m.set (m.of b)).l.length)).d = false) :
    mDirt m b = (some (m.of b * m.wy + ((m.set (m.of b)).h + k) % (m.set (m.of b)).l.length), m.upd (m.of b) ⟨(((m.set (m.of b)).h + k) % (m.set (m.of b)).l.length + 1) % (m.set (m.of b)).l.length, (m.set (m.of b)).l⟩) := by
  unfold mDirt
  rw [if_neg hb]
  have e : (List.range (m.set (m.of b)).l.length).find? (fun k => ((m.set (m.of b)).slot (((m.set (m.of b)).h + k) % (m.set (m.of b)).l.length)).d) = some k := by
    rw [List.find?_range_eq_some]
    exact ⟨h1, List.mem_range.2 hk, fun j hj => by rw [h2 j hj]; rfl⟩
  unfold dirtW
  rw [e]
  rfl
theorem dirt_miss {m : WM} {b : Int} (hb : ¬ b < 0) (hs : m.of b < m.ss.length) (h2 : ∀ j, j < (m.set (m.of b)).l.length → ((m.set (m.of b)).slot (((m.set (m.of b)).h + j) % (m.set (m.of b)).l.length)).d = false) :
    mDirt m b = (none, m) := by
  unfold mDirt
  rw [if_neg hb]
  have e : (List.range (m.set (m.of b)).l.length).find? (fun k => ((m.set (m.of b)).slot (((m.set (m.of b)).h + k) % (m.set (m.of b)).l.length)).d) = none := by
    rw [List.find?_range_eq_none]
    exact fun j hj => by rw [h2 j hj]; rfl
  unfold dirtW
  rw [e]
  show (_, m.upd _ (m.set _)) = _
  rw [upd_id hs]
  rfl
set_option maxRecDepth 100000 in
set_option maxHeartbeats 2000000 in
/-- **Dirtiest**. -/
theorem WyQ.dirtiest (h : WyQ P SB HB cap m w f) (ho : WmOk m) (b : Int) (hb : b ≤ 9223372036854775807) :
    Calls Try.prog 20 #[.pointer (some ⟨P, 0, none⟩), .int .i64 b] w fun e w' => e = .returned (.int .i64 (opI (mDirt m b).1)) ∧ WyQ P SB HB cap (mDirt m b).2 w' f ∧ Turn f f w w' := by
  have hmx : Try.prog.follows .mixedOrders = true := by kernel_rfl
  by_cases h0 : b < 0
  · have g0 : decide (b < 0) = true := by simpa using h0
    have E : mDirt m b = (none, m) := by unfold mDirt; rw [if_pos h0]
    rw [E]
    have K := Lib.hid h
    clear h E
    go_enter Try.func20, Try.ntmps20
    go_wp2_with fail
    go_ret
    exact ⟨rfl, K.out, Turn.refl _ _⟩
  · have g0 : decide (b < 0) = false := by simpa using h0
    have h1 := ho.st1
    have h2 := ho.st8
    have h3 := ho.wy1
    have h4 := ho.wy4
    have hrem := of_eq ho.st1 b
    have hlt := of_lt ho.st1 b
    have hH : (m.set (m.of b)).h < m.wy := (ho.sets _ hlt).hand
    have hl := (ho.sets _ hlt).len
    have KK : Hid (∀ x : World, Below w.heap.size w x → WyQ P SB HB cap m x f) := fun x hx => (WyQ.isRes P SB HB cap m).below h hx
    have KH : Hid (∀ x : World, Below w.heap.size w x → x.cell? ⟨P, 0, none⟩ = some (.int .i64 (m.ss.length : Int)) ∧ x.cell? ⟨P, 1, none⟩ = some (.int .i64 (m.wy : Int)) ∧ x.cell? ⟨P, 2, none⟩ = some (.slice (some ⟨SB, 0, none⟩) m.size cap) ∧ x.cell? ⟨P, 3, none⟩ = some (.slice (some ⟨HB, 0, none⟩) m.ss.length m.ss.length) ∧ x.cell? ⟨HB, m.of b, none⟩ = some (.int .i64 ((m.set (m.of b)).h : Int))) := fun x hx =>
      ⟨(KK.out x hx).head.1, (KK.out x hx).head.2.1, (KK.out x hx).head.2.2.1, (KK.out x hx).head.2.2.2, (KK.out x hx).hand hlt⟩
    have KS : Hid (∀ x : World, Below w.heap.size w x → ∀ r, r < m.wy → x.cell? ⟨SB, (m.of b * m.wy + r) * 3 + 1, none⟩ = some (.bool ((m.set (m.of b)).slot r).d)) := fun x hx r hr => by
      rw [← slot_at hr]
      exact ((KK.out x hx).slot (at_lt hlt hr)).2.1
    have KF : Hid (∀ x : World, Below w.heap.size w x → x.frozen? ⟨HB, m.of b, none⟩ = false) := fun x hx => by
      obtain ⟨a, -, -, -, -, f1, f2, -, ⟨f3, f4, -, ⟨g2, -⟩, -, -⟩, -, -⟩ := KK.out x hx
      simp [World.frozen?, g2]
    have KHit : Hid (∀ k, k < m.wy → ((m.set (m.of b)).slot (((m.set (m.of b)).h + k) % m.wy)).d = true → (∀ j, j < k → ((m.set (m.of b)).slot (((m.set (m.of b)).h + j) % m.wy)).d = false) → mDirt m b = (some (m.of b * m.wy + ((m.set (m.of b)).h + k) % m.wy), m.upd (m.of b) ⟨(((m.set (m.of b)).h + k) % m.wy + 1) % m.wy, (m.set (m.of b)).l⟩)) := fun k hk e1 e2 => by
      have := dirt_hit (m := m) h0 (k := k) (by rw [hl]; exact hk)
      rw [hl] at this
      exact this e1 e2
    have KMiss : Hid ((∀ j, j < m.wy → ((m.set (m.of b)).slot (((m.set (m.of b)).h + j) % m.wy)).d = false) → mDirt m b = (none, m)) := fun e2 => by
      have := dirt_miss (m := m) h0 hlt
      rw [hl] at this
      exact this e2
    have KMv : Hid (∀ x : World, Below w.heap.size w x → ∀ r : Nat, WyQ P SB HB cap (m.upd (m.of b) ⟨r, (m.set (m.of b)).l⟩) (x.setCell ⟨HB, m.of b, none⟩ (.int .i64 (r : Int))) f ∧ Turn f f w (x.setCell ⟨HB, m.of b, none⟩ (.int .i64 (r : Int)))) := fun x hx r => by
      have q := (KK.out x hx).moved ho.lens hlt r
      exact ⟨q.1, (Turn.of_below hx).trans q.2⟩
    have hsz : m.size = m.ss.length * m.wy := rfl
    obtain ⟨st, hst⟩ : ∃ st, m.ss.length = st := ⟨_, rfl⟩
    obtain ⟨wy, hwy⟩ : ∃ wy, m.wy = wy := ⟨_, rfl⟩
    obtain ⟨s, hs⟩ : ∃ s, m.of b = s := ⟨_, rfl⟩
    obtain ⟨nn, hnn⟩ : ∃ nn, m.size = nn := ⟨_, rfl⟩
    have HWY := Lib.hid hwy
    rw [hst] at h1 h2 hrem hlt hsz KH
    rw [hs] at hrem hlt hH hl KH KS KF KHit KMiss KMv
    rw [hwy] at h3 h4 hH hl hsz KH KS KHit KMiss
    rw [hnn] at hsz KH
    obtain ⟨hd, hhd⟩ : ∃ hd, (m.set s).h = hd := ⟨_, rfl⟩
    rw [hhd] at hH KH KHit KMiss
    have hsl : s * wy + wy ≤ nn := by
      rw [hsz]
      calc s * wy + wy = (s + 1) * wy := by rw [Nat.add_mul, Nat.one_mul]
        _ ≤ st * wy := Nat.mul_le_mul_right _ hlt
    have hnn8 : nn ≤ 32 := by rw [hsz]; calc st * wy ≤ 8 * 4 := Nat.mul_le_mul h2 h4
                                      _ = 32 := rfl
    clear h ho hst hwy hs hnn hhd hl hsz
    go_enter Try.func20, Try.ntmps20
    obtain ⟨c0, -⟩ := KH.out w (Below.refl _ w)
    go_wp2_with fail
    clear c0
    go_loopw [6, 7] (fun iv _ wr => ∃ k : Nat, k ≤ wy ∧ iv = .int .i64 (k : Int) ∧ (∃ y : Ext w, wr = y.1) ∧ Hid (∀ j, j < k → ((m.set s).slot ((hd + j) % wy)).d = false)) (fun iv _ _ => wy - (intOf iv).toNat)
    case atStart => exact ⟨0, Nat.zero_le _, rfl, ⟨⟨w, Below.refl _ w⟩, rfl⟩, fun j hj => absurd hj (Nat.not_lt_zero _)⟩
    case round =>
      obtain ⟨k, hk, rfl, ⟨y, rfl⟩, HP⟩ := hrel
      by_cases hlt2 : k < wy
      · have g1 : (k : Int) < (wy : Int) := by omega
        have HLT := Lib.hid hlt2
        have c1 : ∀ z : Ext y.1, z.1.cell? ⟨P, 1, none⟩ = some (.int .i64 (wy : Int)) := fun z => (KH.out z.1 (y.2.trans (z.2.mono y.2.size))).2.1
        have c3 : ∀ z : Ext y.1, z.1.cell? ⟨P, 3, none⟩ = some (.slice (some ⟨HB, 0, none⟩) st st) := fun z => (KH.out z.1 (y.2.trans (z.2.mono y.2.size))).2.2.2.1
        have c4 : ∀ z : Ext y.1, z.1.cell? ⟨HB, s, none⟩ = some (.int .i64 (hd : Int)) := fun z => (KH.out z.1 (y.2.trans (z.2.mono y.2.size))).2.2.2.2
        have c1y : y.1.cell? ⟨P, 1, none⟩ = some (.int .i64 (wy : Int)) := (KH.out y.1 y.2).2.1
        obtain ⟨r, hr⟩ : ∃ r : Nat, (hd + k) % wy = r := ⟨_, rfl⟩
        have hrl : r < wy := by rw [← hr]; exact Nat.mod_lt _ (by omega)
        have hri : ((hd : Int) + (k : Int)) % (wy : Int) = (r : Int) := by rw [← hr]; simp
        have HR := Lib.hid hr
        clear hr
        go_wp2_with fail
        refine region_ext (by kernel_rfl) (by kernel_rfl) ?_
        repeat (go_big_quiet_step (fail))
        try (with_reducible refine wpQuiet_nil ?_)
        intro z
        simp only [hri]
        clear hri c1 c3 c4 c1y
        have hz : Below w.heap.size w z.1 := y.2.trans (z.2.mono y.2.size)
        have d1 : ∀ t : Ext z.1, t.1.cell? ⟨P, 1, none⟩ = some (.int .i64 (wy : Int)) := fun t => (KH.out t.1 (hz.trans (t.2.mono hz.size))).2.1
        have d2 : ∀ t : Ext z.1, t.1.cell? ⟨P, 2, none⟩ = some (.slice (some ⟨SB, 0, none⟩) nn cap) := fun t => (KH.out t.1 (hz.trans (t.2.mono hz.size))).2.2.1
        have hri2 : s * wy + r < nn := by omega
        by_cases hd1 : ((m.set s).slot r).d = true
        · have d3 : ∀ t : Ext z.1, t.1.cell? ⟨SB, (s * wy + r) * 3 + 1, none⟩ = some (.bool true) := fun t => by rw [← hd1]; exact KS.out t.1 (hz.trans (t.2.mono hz.size)) r hrl
          have E := Lib.hid (KHit.out k hlt2 (by rw [HR.out]; exact hd1) HP.out)
          rw [HR.out] at E
          clear hd1
          have HZ := Lib.hid hz
          clear hz
          go_wp2_with fail
          refine region_ext (by kernel_rfl) (by kernel_rfl) ?_
          repeat (go_big_quiet_step (fail))
          try (with_reducible refine wpQuiet_nil ?_)
          intro t
          have ht : Below w.heap.size w t.1 := HZ.out.trans (t.2.mono HZ.out.size)
          obtain ⟨r2, hr2⟩ : ∃ r2 : Nat, (r + 1) % wy = r2 := ⟨_, rfl⟩
          have hr2i : ((r : Int) + 1) % (wy : Int) = (r2 : Int) := by rw [← hr2]; simp
          have HV := Lib.hid (KMv.out t.1.drew ht.drew r2)
          have e9 : (t.1.setCell ⟨HB, s, none⟩ (.int .i64 (r2 : Int))).cell? ⟨P, 1, none⟩ = some (.int .i64 (wy : Int)) := by
            rw [← HWY.out]
            exact (KMv.out t.1 ht r2).1.head.2.1
          have E2 := E
          rw [hr2] at E2
          have e1 : ∀ q : Ext t.1, q.1.cell? ⟨P, 1, none⟩ = some (.int .i64 (wy : Int)) := fun q => (KH.out q.1 (ht.trans (q.2.mono ht.size))).2.1
          have e3 : ∀ q : Ext t.1, q.1.cell? ⟨P, 3, none⟩ = some (.slice (some ⟨HB, 0, none⟩) st st) := fun q => (KH.out q.1 (ht.trans (q.2.mono ht.size))).2.2.2.1
          have e4 : t.1.cell? ⟨HB, s, none⟩ = some (.int .i64 (hd : Int)) := (KH.out t.1 ht).2.2.2.2
          have e5 : t.1.drew.frozen? ⟨HB, s, none⟩ = false := KF.out _ ht.drew
          clear d1 d2 d3 hr2 ht
          go_wp2_with fail
          refine region_plan (fun x => x = t.1.drew) 12 (.takes [0, 1, 2, 3, 4, 5, 6, 7, 8, 9, 10, 11] .leaf) hmx (by kernel_rfl) (by intro c x v a w h; cases x <;> exact h) rfl ?_
          have e6 : t.1.cell? ⟨P, 1, none⟩ = some (.int .i64 (wy : Int)) := e1 ⟨t.1, Below.refl _ _⟩
          have e7 : t.1.cell? ⟨P, 3, none⟩ = some (.slice (some ⟨HB, 0, none⟩) st st) := e3 ⟨t.1, Below.refl _ _⟩
          clear e1 e3
          repeat (rw [wpPlan_takes_cons]; simp only [nth_zero, nth_succ]; go_big_quiet_step (fail); refine wpQuiet_nil ?_)
          rw [wpPlan_takes_nil, wpPlan_leaf]
          simp only [List.drop_succ_cons, List.drop_zero, hr2i]
          go_wp2_with fail
          go_ret
          rw [E2.out]
          refine ⟨?_, HV.out⟩
          show _ = Ending.returned (.int .i64 ((s * wy + r : Nat) : Int))
          simp
        · have hd2 : ((m.set s).slot r).d = false := by simpa using hd1
          have d3 : ∀ t : Ext z.1, t.1.cell? ⟨SB, (s * wy + r) * 3 + 1, none⟩ = some (.bool false) := fun t => by rw [← hd2]; exact KS.out t.1 (hz.trans (t.2.mono hz.size)) r hrl
          have HD2 := Lib.hid hd2
          clear hd1 hd2
          have HZ := Lib.hid hz
          clear hz
          go_wp2_with fail
          refine region_ext (by kernel_rfl) (by kernel_rfl) ?_
          repeat (go_big_quiet_step (fail))
          try (with_reducible refine wpQuiet_nil ?_)
          intro t
          have ht : Below w.heap.size w t.1 := HZ.out.trans (t.2.mono HZ.out.size)
          clear d1 d2 d3
          go_wp2_with fail
          exact ⟨⟨k + 1, HLT.out, by simp, ⟨⟨t.1, ht⟩, rfl⟩, fun j hj => by
            by_cases e : j = k
            · subst e; rw [HR.out]; exact HD2.out
            · exact HP.out j (by omega)⟩, by have := HLT.out; simp [intOf]; omega⟩
      · obtain rfl : k = wy := by omega
        have E := Lib.hid (KMiss.out HP.out)
        obtain ⟨-, c1, -⟩ := KH.out y.1 y.2
        go_wp2_with fail
        go_ret
        rw [E.out]
        exact ⟨rfl, KK.out y.1 y.2, Turn.of_below y.2⟩
end Go.Proofs.Ytlpmikbplngmnaa
