/- The document's map of blocks in slots: Room. The document's map of blocks in slots: New. The program's map and the document's, side by side, and something beside both; Same. The program's map and the document's, side by side: each call. -/
import Derived.Test.YtlpmikbplngmnaaWyDirt
import Derived.Deep.Cut
import Derived.Deep.CutBlock
import Derived.Deep.CutRange
import Derived.Test.YtlpmikbplngmnaaWdF
import Derived.Test.YtlpmikbplngmnaaWyDty
import Derived.Test.YtlpmikbplngmnaaWdP
namespace Go.Proofs.Ytlpmikbplngmnaa
section
open Go.RowKit Go.Shelf Go.Lib
set_option linter.unusedVariables false
set_option linter.unusedSimpArgs false
variable {P SB HB cap : Nat} {m : WM} {w : World} {f : Nat → Prop}
theorem emptyW_hit {x : WS} {k : Nat} (hk : k < x.l.length) (h1 : (x.slot k).b < 0) (h2 : ∀ j, j < k → ¬ (x.slot j).b < 0) : emptyW x.l = some k := by
  unfold emptyW
  rw [List.findIdx?_eq_some_iff_getElem]
  have g : ∀ j (hj : j < x.l.length), x.slot j = x.l[j] := fun j hj => by unfold WS.slot; rw [List.getElem?_eq_getElem hj]; rfl
  refine ⟨hk, by rw [← g k hk]; simpa using h1, fun j hj => ?_⟩
  rw [← g j (by omega)]
  have := h2 j hj
  simp
  omega
theorem emptyW_miss {x : WS} (h2 : ∀ j, j < x.l.length → ¬ (x.slot j).b < 0) : emptyW x.l = none := by
  unfold emptyW
  rw [List.findIdx?_eq_none_iff]
  intro y hy
  obtain ⟨j, hj, e⟩ := List.getElem_of_mem hy
  have := h2 j hj
  unfold WS.slot at this
  rw [List.getElem?_eq_getElem hj, e] at this
  have : ¬ y.b < 0 := this
  simp
  omega
theorem clockW_dirty {n : Nat} {x : WS} (h : (x.slot x.h).d = true) : clockW (n + 1) x = clockW n x.next := by
  show (if _ then _ else _) = _; rw [if_pos h]
theorem clockW_mark {n : Nat} {x : WS} (h : (x.slot x.h).d = false) (hk : (x.slot x.h).k = true) : clockW (n + 1) x = clockW n (x.next.put x.h ⟨(x.slot x.h).b, (x.slot x.h).d, false⟩) := by
  show (if _ then _ else _) = _; rw [if_neg (by rw [h]; decide), if_pos hk]
theorem clockW_here {n : Nat} {x : WS} (h : (x.slot x.h).d = false) (hk : (x.slot x.h).k = false) : clockW (n + 1) x = (some x.h, x.next.put x.h wE) := by
  show (if _ then _ else _) = _; rw [if_neg (by rw [h]; decide), if_neg (by rw [hk]; decide)]

set_option maxRecDepth 100000 in
set_option maxHeartbeats 4000000 in
/-- **Room**. -/
theorem WyQ.room (h : WyQ P SB HB cap m w f) (ho : WmOk m) (b : Int) (hb : b ≤ 9223372036854775807) :
    Calls Try.prog 12 #[.pointer (some ⟨P, 0, none⟩), .int .i64 b] w fun e w' => e = .returned (.int .i64 (opI (mRoom m b).1)) ∧ WyQ P SB HB cap (mRoom m b).2 w' f ∧ Turn f f w w' := by
  have hmx : Try.prog.follows .mixedOrders = true := by kernel_rfl
  by_cases h0 : b < 0
  · have g0 : decide (b < 0) = true := by simpa using h0
    have E : mRoom m b = (none, m) := by unfold mRoom; rw [if_pos h0]
    rw [E]
    have K := Lib.hid h
    clear h E
    go_enter Try.func12, Try.ntmps12
    go_wp2_with fail
    go_ret
    exact ⟨rfl, K.out, Turn.refl _ _⟩
  · have g0 : decide (b < 0) = false := by simpa using h0
    have h1 := ho.st1
    have h2 := ho.st8
    have h3 := ho.wy1
    have h4 := ho.wy4
    have hrem := of_eq ho.st1 b
    have hlt := of_lt ho.st1 b
    have hE : mRoom m b = ((roomW (m.set (m.of b))).1.map (fun w => m.of b * m.wy + w), m.upd (m.of b) (roomW (m.set (m.of b))).2) := by unfold mRoom; rw [if_neg h0]
    obtain ⟨s, hs⟩ : ∃ s, m.of b = s := ⟨_, rfl⟩
    rw [hs] at hrem hlt hE
    have hl := (ho.sets _ hlt).len
    have hH : (m.set s).h < m.wy := (ho.sets _ hlt).hand
    obtain ⟨x0, hx0⟩ : ∃ x, m.set s = x := ⟨_, rfl⟩
    have K0 : Hid (WyQ P SB HB cap (m.upd s x0) w f) := by show WyQ P SB HB cap (m.upd s x0) w f; rw [← hx0, upd_id hlt]; exact h
    rw [hx0] at hE hl hH
    have hsz : s * m.wy + m.wy ≤ m.size := by
      calc s * m.wy + m.wy = (s + 1) * m.wy := by rw [Nat.add_mul, Nat.one_mul]
        _ ≤ m.ss.length * m.wy := Nat.mul_le_mul_right _ hlt
    have hz32 : m.size ≤ 32 := Nat.le_trans (Nat.mul_le_mul h2 h4) (by decide)
    have es : ∀ (x : WS) (r : Nat), r < m.wy → (m.upd s x).slot (s * m.wy + r) = x.slot r := fun x r hr => by
      have := slot_at (m := m.upd s x) (s := s) (w := r) hr
      rw [upd_wy, set_upd_same _ hlt] at this
      exact this
    have KL : ∀ x : WS, x.l.length = m.wy → WmLen (m.upd s x) := fun x hx => ho.lens.upd hlt hx
    have KH : Hid (∀ (x : WS) (y : World), WyQ P SB HB cap (m.upd s x) y f → y.cell? ⟨P, 0, none⟩ = some (.int .i64 (m.ss.length : Int)) ∧ y.cell? ⟨P, 1, none⟩ = some (.int .i64 (m.wy : Int)) ∧ y.cell? ⟨P, 2, none⟩ = some (.slice (some ⟨SB, 0, none⟩) m.size cap) ∧ y.cell? ⟨P, 3, none⟩ = some (.slice (some ⟨HB, 0, none⟩) m.ss.length m.ss.length) ∧ y.cell? ⟨HB, s, none⟩ = some (.int .i64 (x.h : Int)) ∧ y.frozen? ⟨HB, s, none⟩ = false) := fun x y hy => by
      obtain ⟨a1, a2, a3, a4⟩ := WyQ.head hy
      rw [upd_st] at a1
      rw [upd_wy] at a2
      rw [upd_size] at a3
      rw [upd_st] at a4
      have a5 := hy.hand (s := s) (by rw [upd_st]; exact hlt)
      rw [set_upd_same _ hlt] at a5
      exact ⟨a1, a2, a3, a4, a5, hy.frozenH s⟩
    have KS : Hid (∀ (x : WS) (y : World) (r : Nat), r < m.wy → WyQ P SB HB cap (m.upd s x) y f → y.cell? ⟨SB, (s * m.wy + r) * 3, none⟩ = some (.int .i64 (x.slot r).b) ∧ y.cell? ⟨SB, (s * m.wy + r) * 3 + 1, none⟩ = some (.bool (x.slot r).d) ∧ y.cell? ⟨SB, (s * m.wy + r) * 3 + 2, none⟩ = some (.bool (x.slot r).k) ∧ y.frozen? ⟨SB, (s * m.wy + r) * 3, none⟩ = false ∧ y.frozen? ⟨SB, (s * m.wy + r) * 3 + 1, none⟩ = false ∧ y.frozen? ⟨SB, (s * m.wy + r) * 3 + 2, none⟩ = false) := fun x y r hr hy => by
      have q := hy.slot (i := s * m.wy + r) (by rw [upd_size]; omega)
      rw [es x r hr] at q
      exact ⟨q.1, q.2.1, q.2.2, hy.frozenS _, hy.frozenS _, hy.frozenS _⟩
    have KM : Hid (∀ (x : WS) (y : World) (r : Nat), x.l.length = m.wy → r < m.wy → WyQ P SB HB cap (m.upd s x) y f → WyQ P SB HB cap (m.upd s (x.put r ⟨(x.slot r).b, (x.slot r).d, false⟩)) (y.setCell ⟨SB, (s * m.wy + r) * 3 + 2, none⟩ (.bool false)) f ∧ Turn f f y (y.setCell ⟨SB, (s * m.wy + r) * 3 + 2, none⟩ (.bool false))) := fun x y r hxl hr hk => by
      have q := hk.writeK (KL x hxl) (i := s * m.wy + r) (by rw [upd_size]; omega) false
      rw [es x r hr] at q
      have e2 : mWrite (m.upd s x) (s * m.wy + r) ⟨(x.slot r).b, (x.slot r).d, false⟩ = m.upd s (x.put r ⟨(x.slot r).b, (x.slot r).d, false⟩) := by
        unfold mWrite
        rw [upd_wy, at_div hr, at_mod hr, set_upd_same _ hlt, upd_upd]
      rw [e2] at q
      exact q
    have KE : Hid (∀ (x : WS) (y : World) (r : Nat), x.l.length = m.wy → r < m.wy → WyQ P SB HB cap (m.upd s x) y f → WyQ P SB HB cap (m.upd s (x.put r wE)) (((y.setCell ⟨SB, (s * m.wy + r) * 3, none⟩ (.int .i64 (-1))).setCell ⟨SB, (s * m.wy + r) * 3 + 1, none⟩ (.bool false)).setCell ⟨SB, (s * m.wy + r) * 3 + 2, none⟩ (.bool false)) f ∧ Turn f f y (((y.setCell ⟨SB, (s * m.wy + r) * 3, none⟩ (.int .i64 (-1))).setCell ⟨SB, (s * m.wy + r) * 3 + 1, none⟩ (.bool false)).setCell ⟨SB, (s * m.wy + r) * 3 + 2, none⟩ (.bool false))) := fun x y r hxl hr hk => by
      have q := hk.write (KL x hxl) (i := s * m.wy + r) (by rw [upd_size]; omega) wE
      have e2 : mWrite (m.upd s x) (s * m.wy + r) wE = m.upd s (x.put r wE) := by
        unfold mWrite
        rw [upd_wy, at_div hr, at_mod hr, set_upd_same _ hlt, upd_upd]
      rw [e2] at q
      exact q
    have KV : Hid (∀ (x : WS) (y : World), x.l.length = m.wy → WyQ P SB HB cap (m.upd s x) y f → WyQ P SB HB cap (m.upd s x.next) (y.setCell ⟨HB, s, none⟩ (.int .i64 (((x.h + 1) % m.wy : Nat) : Int))) f ∧ Turn f f y (y.setCell ⟨HB, s, none⟩ (.int .i64 (((x.h + 1) % m.wy : Nat) : Int)))) := fun x y hxl hk => by
      have q := hk.moved (KL x hxl) (s := s) (by rw [upd_st]; exact hlt) ((x.h + 1) % m.wy)
      rw [set_upd_same _ hlt, upd_upd] at q
      have e : x.next = ⟨(x.h + 1) % m.wy, x.l⟩ := by unfold WS.next; rw [hxl]
      rw [e]
      exact q
    have KD : Hid (∀ (x : WS) (y : World), WyQ P SB HB cap (m.upd s x) y f → WyQ P SB HB cap (m.upd s x) y.drew f ∧ Turn f f y y.drew) := fun x y hy => ⟨(WyQ.isRes P SB HB cap _).below hy ((Below.refl _ _).drew), Turn.of_below ((Below.refl _ _).drew)⟩
    have KHit : Hid (∀ k, k < m.wy → (x0.slot k).b < 0 → (∀ j, j < k → 0 ≤ (x0.slot j).b) → mRoom m b = (some (s * m.wy + k), m.upd s x0)) := fun k hk e1 e2 => by
      rw [hE]
      unfold roomW
      rw [emptyW_hit (by rw [hl]; exact hk) e1 (fun j hj => by have := e2 j hj; omega)]
      rfl
    have KMiss : Hid ((∀ j, j < m.wy → 0 ≤ (x0.slot j).b) → mRoom m b = ((clockW (2 * m.wy) x0).1.map (fun w => s * m.wy + w), m.upd s (clockW (2 * m.wy) x0).2)) := fun e2 => by
      rw [hE]
      unfold roomW
      rw [emptyW_miss (fun j hj => by have := e2 j (by rw [hl] at hj; exact hj); omega), hl]
    obtain ⟨wy, hwy⟩ : ∃ wy, m.wy = wy := ⟨_, rfl⟩
    obtain ⟨z, hz⟩ : ∃ z, m.size = z := ⟨_, rfl⟩
    obtain ⟨st, hst⟩ : ∃ st, m.ss.length = st := ⟨_, rfl⟩
    rw [hz] at hsz hz32 KH
    rw [hst] at h1 h2 hrem KH hlt
    rw [hwy] at h3 h4 hH hl hsz KH KS KM KE KV KHit KMiss
    have HL0 := Lib.hid hl
    have HH0 := Lib.hid hH
    obtain ⟨c0, c1, c2, -⟩ := KH.out x0 w K0.out
    clear h ho hs hx0 hz hwy hst KL hE es hH hl
    go_enter Try.func12, Try.ntmps12
    go_wp2_with fail
    go_loopw [6] (fun iv wr => ∃ k : Nat, k ≤ wy ∧ iv = .int .i64 (k : Int) ∧ wr = w ∧ Hid (∀ j, j < k → 0 ≤ (x0.slot j).b)) (fun iv _ => wy - (intOf iv).toNat)
    case atStart => exact ⟨0, Nat.zero_le _, rfl, rfl, fun j hj => absurd hj (Nat.not_lt_zero _)⟩
    case round =>
      obtain ⟨k, hk, rfl, hw, HP⟩ := hrel
      obtain rfl := hw.symm
      clear hw
      by_cases hlt2 : k < wy
      · have g1 : (k : Int) < (wy : Int) := by omega
        have HLT := Lib.hid hlt2
        have hki : s * wy + k < z := by omega
        obtain ⟨d0, -⟩ := KS.out x0 w k hlt2 K0.out
        by_cases hc : (x0.slot k).b < 0
        · have q1 : decide ((x0.slot k).b < 0) = true := by simpa using hc
          have E := Lib.hid (KHit.out k hlt2 hc HP.out)
          clear hc hlt2
          go_wp2_with fail
          go_ret
          rw [E.out]
          exact ⟨by show _ = Ending.returned (.int .i64 ((s * wy + k : Nat) : Int)); simp, K0.out, Turn.refl _ _⟩
        · have q1 : decide ((x0.slot k).b < 0) = false := by simpa using hc
          have HC : Hid (0 ≤ (x0.slot k).b) := by show 0 ≤ _; omega
          clear hc hlt2
          go_wp2_with fail
          exact ⟨⟨k + 1, HLT.out, by simp, by trivial, fun j hj => by
            by_cases e : j = k
            · subst e; exact HC.out
            · exact HP.out j (by omega)⟩, by have := HLT.out; simp [intOf]; omega⟩
      · obtain rfl : k = wy := by omega
        have HM := Lib.hid (KMiss.out HP.out)
        clear hlt2
        obtain ⟨res, hres⟩ : ∃ res, clockW (2 * k) x0 = res := ⟨_, rfl⟩
        rw [hres] at HM
        have HRes : Hid (clockW (2 * k - 0) x0 = res) := hres
        clear hres c0 c2
        have h1k : 1 ≤ k := h3
        go_wp2_with fail
        go_loopw [8] (fun iv wr => ∃ (n : Nat) (x : WS), n ≤ 2 * k ∧ iv = .int .i64 (n : Int) ∧ Hid (x.l.length = k) ∧ Hid (x.h < k) ∧ Hid (WyQ P SB HB cap (m.upd s x) wr f) ∧ Hid (Turn f f w wr) ∧ Hid (clockW (2 * k - n) x = res)) (fun iv _ => 2 * k - (intOf iv).toNat)
        case atStart => exact ⟨0, x0, Nat.zero_le _, rfl, HL0, HH0, K0, Turn.refl _ _, HRes⟩
        case round =>
          obtain ⟨n, x, hn, rfl, HXL, HXH, HK, HT, HD⟩ := hrel
          obtain ⟨d0, d1, d2, d3, d4, d5⟩ := KH.out x wr HK.out
          by_cases hlt2 : n < 2 * k
          · have g1 : (n : Int) < 2 * (k : Int) := by omega
            have HLT := Lib.hid hlt2
            obtain ⟨q, hq⟩ : ∃ q, 2 * k - n = q + 1 := ⟨2 * k - n - 1, by omega⟩
            have HN : Hid (2 * k - (n + 1) = q) := by show 2 * k - (n + 1) = q; omega
            rw [hq] at HD
            obtain ⟨r, hr⟩ : ∃ r, x.h = r := ⟨_, rfl⟩
            have HR := Lib.hid hr
            have hrl : r < k := by rw [← hr]; exact HXH.out
            rw [hr] at d4
            clear hr hq hlt2
            go_wp2_with fail
            refine region_plan (fun y => y = wr.drew) 14 (.takes [0, 1, 2, 3, 4, 5, 6, 7, 8, 9, 10, 11, 12, 13] .leaf) hmx (by kernel_rfl) (by intro c x v a w h; cases x <;> exact h) rfl ?_
            repeat (rw [wpPlan_takes_cons]; simp only [nth_zero, nth_succ]; go_big_quiet_step (fail); refine wpQuiet_nil ?_)
            rw [wpPlan_takes_nil, wpPlan_leaf]
            simp only [List.drop_succ_cons, List.drop_zero]
            go_wp2_with fail
            obtain ⟨r2, hr2⟩ : ∃ r2 : Nat, (r + 1) % k = r2 := ⟨_, rfl⟩
            have hr2i : ((r : Int) + 1) % (k : Int) = (r2 : Int) := by rw [← hr2]; simp
            have KN := KV.out x wr HXL.out HK.out
            rw [HR.out, hr2] at KN
            obtain ⟨W2, hW2⟩ : ∃ W2, wr.setCell ⟨HB, s, none⟩ (.int .i64 (r2 : Int)) = W2 := ⟨_, rfl⟩
            rw [hW2] at KN
            obtain ⟨W3, hW3⟩ : ∃ W3, W2.drew.drew = W3 := ⟨_, rfl⟩
            have KN3 : WyQ P SB HB cap (m.upd s x.next) W3 f ∧ Turn f f wr W3 := by
              rw [← hW3]
              have k1 := KD.out _ _ KN.1
              have k2 := KD.out _ _ k1.1
              exact ⟨k2.1, KN.2.trans (k1.2.trans k2.2)⟩
            have HW3 := Lib.hid KN3.1
            have HT3 : Hid (Turn f f w W3) := HT.out.trans KN3.2
            have HNH : Hid (x.next.h < k) := by have := next_h (x := x) (by rw [HXL.out]; exact h3); rw [next_len, HXL.out] at this; exact this
            have hki : s * k + r < z := by omega
            clear hr2 KN KN3
            go_wp2_with fail
            refine region_plan (fun y => y = wr.drew.drew) 19 (.takes [0, 1, 2, 3, 4, 5, 6, 7, 8, 9, 10, 11, 12, 13, 14, 15, 16, 17, 18] .leaf) hmx (by kernel_rfl) (by intro c x v a w h; cases x <;> exact h) rfl ?_
            repeat (rw [wpPlan_takes_cons]; simp only [nth_zero, nth_succ]; go_big_quiet_step (fail); refine wpQuiet_nil ?_)
            rw [wpPlan_takes_nil, wpPlan_leaf]
            simp only [List.drop_succ_cons, List.drop_zero, hr2i]
            go_upto_region 17 with (fail)
            try rw [hW3]
            clear hW3 hW2 d0 d1 d2 d3 d4 d5
            obtain ⟨e0, e1, e2, e3, -⟩ := KH.out x.next W3 HW3.out
            obtain ⟨s0, s1, s2, s3, s4, s5⟩ := KS.out x.next W3 r hrl HW3.out
            rw [slot_next] at s0 s1 s2
            by_cases hd : (x.slot r).d = true
            · have HS : Hid (clockW q x.next = res) := by rw [← HD.out]; exact (clockW_dirty (by rw [HR.out]; exact hd)).symm
              rw [hd] at s1
              clear hd
              go_wp2_with fail
              exact ⟨⟨n + 1, x.next, HLT.out, by simp, HXL.out, HNH.out, HW3.out, HT3.out, by rw [HN.out]; exact HS.out⟩, by have := HLT.out; simp [intOf]; omega⟩
            · have hd2 : (x.slot r).d = false := by simpa using hd
              rw [hd2] at s1
              by_cases hm : (x.slot r).k = true
              · have HS : Hid (clockW q (x.next.put r ⟨(x.slot r).b, (x.slot r).d, false⟩) = res) := by
                  show _ = _
                  rw [← HD.out, clockW_mark (by rw [HR.out]; exact hd2) (by rw [HR.out]; exact hm), HR.out]
                obtain ⟨k1, k2⟩ := KM.out x.next W3 r HXL.out hrl HW3.out
                rw [slot_next] at k1
                have HK1 := Lib.hid k1
                have HK2 := Lib.hid (HT3.out.trans k2)
                rw [hm] at s2
                clear hd hd2 hm k1 k2
                go_wp2_with fail
                exact ⟨⟨n + 1, x.next.put r ⟨(x.slot r).b, (x.slot r).d, false⟩, HLT.out, by simp, (by show _ = k; rw [put_len]; exact HXL.out), HNH.out, HK1.out, HK2.out, by rw [HN.out]; exact HS.out⟩, by have := HLT.out; simp [intOf]; omega⟩
              · have hm2 : (x.slot r).k = false := by simpa using hm
                have HS : Hid (res = (some r, x.next.put r wE)) := by
                  show _ = _
                  rw [← HD.out, clockW_here (by rw [HR.out]; exact hd2) (by rw [HR.out]; exact hm2), HR.out]
                obtain ⟨k1, k2⟩ := KE.out x.next W3 r HXL.out hrl HW3.out
                have HK1 := Lib.hid k1
                have HK2 := Lib.hid (HT3.out.trans k2)
                rw [hm2] at s2
                clear hd hd2 hm hm2 k1 k2
                go_wp2_with fail
                go_ret
                rw [HM.out, HS.out]
                exact ⟨by show _ = Ending.returned (.int .i64 ((s * k + r : Nat) : Int)); simp, HK1.out, HK2.out⟩
          · obtain rfl : n = 2 * k := by omega
            have HS : Hid (res = (none, x)) := by rw [← HD.out, Nat.sub_self]; rfl
            clear hlt2
            go_wp2_with fail
            go_ret
            rw [HM.out, HS.out]
            exact ⟨rfl, HK.out, HT.out⟩
end
section
open Go.RowKit Go.Shelf Go.Lib
set_option linter.unusedVariables false
set_option linter.unusedSimpArgs false
variable {w : World}
/-- Slots of one's own. -/
def SlO (N : Nat) (w : World) (v : Value) (l : List WSlot) : Prop := w.ownsRow N 59 3 v l.length (wcs l)
set_option maxRecDepth 100000 in
theorem info_slot13 : (Try.prog.info? 59).map (fun i => (i.zero, i.size, i.bytes)) = some (some (.agg #[.int .i64 0, .bool false, .bool false]), 3, 16) := by kernel_rfl
set_option maxRecDepth 100000 in
theorem slice_slot1 (w : World) (b : Int) (d k : Bool) : (Instr.buildSlice 55 1 #[(0, .agg #[.int .i64 b, .bool d, .bool k])]).run Try.prog w = .ok (.slice (some ⟨w.heap.size, 0, none⟩) 1 1) (w.alloc (.cells #[.int .i64 b, .bool d, .bool k] 59)) := by kernel_rfl
theorem wcs_append (a b : List WSlot) : wcs (a ++ b) = wcs a ++ wcs b := by simp [wcs]
set_option maxRecDepth 100000 in
theorem slot_append {N : Nat} {w : World} {v : Value} {l : List WSlot} (h : SlO N w v l) (hN : N ≤ w.heap.size) (s : WSlot) (hlen : l.length ≤ 1000) :
    ∃ v' w', (∀ ty, (Builtin.append_ #[55, 55] ty #[v, .slice (some ⟨w.heap.size, 0, none⟩) 1 1]).run Try.prog (w.alloc (.cells #[.int .i64 s.b, .bool s.d, .bool s.k] 59)) = .ok v' w') ∧ SlO N w' v' (l ++ [s]) ∧ w.grownBy w' v.ownBlock := by
  obtain ⟨i0, hi⟩ : ∃ i, Try.prog.info? 59 = some i := ⟨_, rfl⟩
  have hq := info_slot13
  rw [hi] at hq
  have hz : (i0.zero, i0.size, i0.bytes) = (some (.agg #[.int .i64 0, .bool false, .bool false]), 3, 16) := Option.some.inj hq
  have hz0 := congrArg (·.1) hz
  have hz1 := congrArg (·.2.1) hz
  have hz2 := congrArg (·.2.2) hz
  simp only at hz0 hz1 hz2
  have hr : ∀ ty, ∃ v' w', (Builtin.append_ #[55, 55] ty #[v, .slice (some ⟨w.heap.size, 0, none⟩) 1 1]).run Try.prog (w.alloc (.cells #[.int .i64 s.b, .bool s.d, .bool s.k] 59)) = .ok v' w' ∧ w'.ownsRow N 59 3 v' (l.length + 1) (wcs l ++ [.int .i64 s.b, .bool s.d, .bool s.k]) ∧ (w.alloc (.cells #[.int .i64 s.b, .bool s.d, .bool s.k] 59)).grownBy w' v.ownBlock := fun ty => by
    obtain ⟨v', w', g1, g2, g3, g4⟩ := run_append_own (P := Try.prog) (w.alloc (.cells #[.int .i64 s.b, .bool s.d, .bool s.k] 59)) N 55 ty 59 i0 (.agg #[.int .i64 0, .bool false, .bool false]) 3 16 Try.underlying55 hi hz0 hz1 hz2 rfl (by decide) v l.length _ (own_belowT h (below_new w _)) ⟨w.heap.size, 0, none⟩ 1 1 [.int .i64 s.b, .bool s.d, .bool s.k] rfl
      (fun j u hj => by
        rw [Addr.add_lit, Nat.zero_add]
        exact (RowC.new w 59 [.int .i64 s.b, .bool s.d, .bool s.k]).cell j _ hj) (fun u hu => by simp at hu; rcases hu with rfl | rfl | rfl <;> rfl) (by unfold maxLen; omega) (by omega) (by simp; omega)
    exact ⟨v', w', g1, g2, g3⟩
  obtain ⟨v', w', g1, g2, g3⟩ := hr 0
  refine ⟨v', w', fun ty => ?_, ?_, grown_trans (grown_below (below_new w _) _) g3⟩
  · rw [← g1]; rfl
  · show w'.ownsRow N _ 3 v' (l ++ [s]).length (wcs (l ++ [s]))
    rw [List.length_append, wcs_append]
    exact g2
set_option maxRecDepth 100000 in
set_option maxHeartbeats 1000000 in
/-- **New**, of numbers that may not be. -/
theorem wq_newNo (st wy : Int) (h : ¬ (1 ≤ st ∧ st ≤ 8 ∧ 1 ≤ wy ∧ wy ≤ 4)) :
    Calls Try.prog 10 #[.int .i64 st, .int .i64 wy] w fun e w' => e = .returned (.tuple #[.pointer none, .int .i64 1]) ∧ w' = w := by
  by_cases h1 : st < 1
  · have g1 : decide (st < 1) = true := by simpa using h1
    clear h h1
    go_enter Try.func10, Try.ntmps10
    go_wp2_with fail
    go_ret2
    exact ⟨rfl, rfl⟩
  · have g1 : decide (st < 1) = false := by simpa using h1
    by_cases h2 : 8 < st
    · have g2 : decide (8 < st) = true := by simpa using h2
      clear h h1 h2
      go_enter Try.func10, Try.ntmps10
      go_wp2_with fail
      go_ret2
      exact ⟨rfl, rfl⟩
    · have g2 : decide (8 < st) = false := by simpa using h2
      by_cases h3 : wy < 1
      · have g3 : decide (wy < 1) = true := by simpa using h3
        clear h h1 h2 h3
        go_enter Try.func10, Try.ntmps10
        go_wp2_with fail
        go_ret2
        exact ⟨rfl, rfl⟩
      · have g3 : decide (wy < 1) = false := by simpa using h3
        have g4 : decide (4 < wy) = true := by simp; omega
        clear h h1 h2 h3
        go_enter Try.func10, Try.ntmps10
        go_wp2_with fail
        go_ret2
        exact ⟨rfl, rfl⟩

set_option maxRecDepth 100000 in
set_option maxHeartbeats 2000000 in
/-- **New**. -/
theorem wq_newYes (st wy : Nat) (h1 : 1 ≤ st) (h2 : st ≤ 8) (h3 : 1 ≤ wy) (h4 : wy ≤ 4) :
    Calls Try.prog 10 #[.int .i64 (st : Int), .int .i64 (wy : Int)] w fun e w' => ∃ P SB HB cap, e = .returned (.tuple #[.pointer (some ⟨P, 0, none⟩), .int .i64 0]) ∧ (∃ f, WyQ P SB HB cap (mNew st wy) w' f ∧ ∀ k, f k → w.heap.size ≤ k) ∧ Below w.heap.size w w' := by
  have g1 : decide ((st : Int) < 1) = false := by simp; omega
  have g2 : decide (8 < (st : Int)) = false := by simp; omega
  have g3 : decide ((wy : Int) < 1) = false := by simp; omega
  have g4 : decide (4 < (wy : Int)) = false := by simp; omega
  obtain ⟨n, hn⟩ : ∃ n, st * wy = n := ⟨_, rfl⟩
  have hni : (st : Int) * (wy : Int) = (n : Int) := by rw [← hn]; simp
  have hn32 : n ≤ 32 := by rw [← hn]; exact Nat.le_trans (Nat.mul_le_mul h2 h4) (by decide)
  have hn1 : 1 ≤ n := by rw [← hn]; exact Nat.mul_pos h1 h3
  have HN := Lib.hid hn
  obtain ⟨x, m1, r1, gg1⟩ := make_ints w st (by omega)
  obtain ⟨B, hB⟩ : ∃ B, w.heap.size = B := ⟨_, rfl⟩
  have HB0 : Hid (w.heap.size = B) := hB
  rw [hB] at m1 r1
  have M1 := Lib.hid m1
  obtain ⟨P, hP⟩ : ∃ P, x.heap.size = P := ⟨_, rfl⟩
  obtain ⟨W, hW⟩ : ∃ W, x.alloc (.cells #[.int .i64 (st : Int), .int .i64 (wy : Int), .slice none 0 0, .slice (some ⟨B, 0, none⟩) st st] 57) = W := ⟨_, rfl⟩
  have RP : Hid (RowC W P 57 [.int .i64 (st : Int), .int .i64 (wy : Int), .slice none 0 0, .slice (some ⟨B, 0, none⟩) st st]) := by show RowC _ _ _ _; rw [← hW, ← hP]; exact RowC.new _ _ _
  have hXW : Below x.heap.size x W := by rw [← hW]; exact below_new _ _
  have RH : Hid (RowC W B 3 (List.replicate st (.int .i64 0))) := r1.below hXW
  have hBP : B < P := by rw [← hP]; exact r1.lt
  have HBP := Lib.hid hBP
  have BX : Below B w x := by rw [← hB]; exact (Below.refl _ w).grown gg1 (Nat.le_refl _) (fun j e => by cases e)
  have BW : Hid (Below B w W) := BX.trans (hXW.mono (by rw [hP]; omega))
  have H1 := Lib.hid h1
  have H2 := Lib.hid h2
  have H3 := Lib.hid h3
  clear m1 r1 gg1 hXW BX hn h1 h2 h3 hB hBP
  go_enter Try.func10, Try.ntmps10
  go_wp2_with ((with_reducible refine gate_make ?_); refine wpList_make_run _ _ _ rfl rfl _ _ _ rfl rfl M1.out ?_)
  clear hW hP
  go_loopw [7] (fun iv wr => ∃ (k : Nat) (u : Value), k ≤ n ∧ iv = .int .i64 (k : Int) ∧ Hid (SlO B wr u (List.replicate k wE)) ∧ Hid (RowC wr P 57 [.int .i64 (st : Int), .int .i64 (wy : Int), u, .slice (some ⟨B, 0, none⟩) st st]) ∧ Hid (RowC wr B 3 (List.replicate st (.int .i64 0))) ∧ Hid (Below B w wr)) (fun iv _ => n - (intOf iv).toNat)
  case atStart => exact ⟨0, _, Nat.zero_le _, rfl, World.ownsRow_nil _ _ _ _, RP, RH, BW⟩
  case round =>
    obtain ⟨k, u, hk, rfl, HU, HP, HH, HBw⟩ := hrel
    have c0 := HP.out.cell 2 _ rfl
    by_cases hlt : k < n
    · have q1 : (k : Int) < (n : Int) := by omega
      have HLT := Lib.hid hlt
      have hBs : B ≤ wr.heap.size := by rw [← HB0.out]; exact HBw.out.size
      obtain ⟨u2, y, hap, hu2, hg⟩ := slot_append HU.out hBs wE (by rw [List.length_replicate]; omega)
      obtain ⟨ra, rc, hue, -⟩ := row_lenT hu2
      obtain ⟨q, hq⟩ : ∃ q, (List.replicate k wE ++ [wE]).length = q := ⟨_, rfl⟩
      rw [hq] at hue
      subst hue
      have hsl := slice_slot1 wr (-1) false false
      obtain ⟨C, hC⟩ : ∃ C, wr.heap.size = C := ⟨_, rfl⟩
      obtain ⟨Y, hY⟩ : ∃ Y, wr.alloc (.cells #[.int .i64 (-1), .bool false, .bool false] 59) = Y := ⟨_, rfl⟩
      have hap2 : ∀ ty, (Builtin.append_ #[55, 55] ty #[u, .slice (some ⟨C, 0, none⟩) 1 1]).run Try.prog Y = .ok (.slice ra q rc) y := fun ty => by rw [← hY, ← hC]; exact hap ty
      rw [hC, hY] at hsl
      have HAp := Lib.hid hap2
      have HSl := Lib.hid hsl
      have p1 : RowC y P 57 [.int .i64 (st : Int), .int .i64 (wy : Int), u, .slice (some ⟨B, 0, none⟩) st st] := HP.out.grown hg (row_ne HU.out HP.out (by decide))
      have p2 : RowC y B 3 (List.replicate st (.int .i64 0)) := HH.out.grown hg (row_ne HU.out HH.out (by decide))
      have b1 : Below B w y := HBw.out.grown hg hBs (fun j e => by
        rcases HU.out.2 with ⟨rfl, h0⟩ | ⟨g, cap, cur, rfl, a1, -⟩
        · cases e
        · cases e; exact a1)
      have d1 := p1.cell 2 _ rfl
      have d2 := p1.frozen 2
      have P1 : Hid (RowC (y.setCell ⟨P, 2, none⟩ (.slice ra q rc)) P 57 [.int .i64 (st : Int), .int .i64 (wy : Int), (.slice ra q rc), .slice (some ⟨B, 0, none⟩) st st]) := p1.set 2 (.slice ra q rc)
      have hne : B ≠ P := by have := HBP.out; omega
      have P2 : Hid (RowC (y.setCell ⟨P, 2, none⟩ (.slice ra q rc)) B 3 (List.replicate st (.int .i64 0))) := (Below.heap_setCell _ _ _ B hne).trans p2
      have P3 : Hid (Below B w (y.setCell ⟨P, 2, none⟩ (.slice ra q rc))) := b1.setCell (p := ⟨P, 2, none⟩) (by have := HBP.out; simp; omega) _
      have P4 : Hid (SlO B (y.setCell ⟨P, 2, none⟩ (.slice ra q rc)) (.slice ra q rc) (List.replicate (k + 1) wE)) := by
        rw [List.replicate_succ']
        exact hu2.kept (grownBy_setCellJ y P 2 _) (.inr fun e => row_ne hu2 p1 (by decide) e)
      clear hq hap hap2 hsl hC hY p1 p2 b1 hu2 hg hBs hne hlt
      go_wp2_with (first | ((with_reducible refine gate_build ?_); refine wpList_build_run _ _ _ rfl rfl [(0, _)] _ rfl HSl.out ?_) | (at_builtin; refine wpList_append_run (.tmp 39) (.tmp 41) 55 rfl rfl _ _ _ rfl rfl (HAp.out _) ?_) | fail)
      exact ⟨⟨k + 1, _, HLT.out, by simp, P4, P1, P2, P3⟩, by have := HLT.out; simp [intOf]; omega⟩
    · obtain rfl : k = n := by omega
      obtain ⟨cap, g, hgc⟩ : ∃ cap g, u = .slice (some ⟨g, 0, none⟩) k cap ∧ B ≤ g ∧ (∃ cur : Array Value, wr.heap[g]? = some (.cells cur 59 (0, 0)) ∧ cur.size = cap * 3 ∧ k ≤ cap ∧ cap ≤ maxLen ∧ cur.toList.take (k * 3) = wcs (List.replicate k wE)) := by
        have hu := HU.out
        unfold SlO at hu
        rw [List.length_replicate] at hu
        rcases hu.2 with ⟨rfl, h0⟩ | ⟨g, cap, cur, rfl, a1, a2, a3, a4, a5, a6⟩
        · omega
        · exact ⟨cap, g, rfl, a1, cur, a2, a5, a3, a4, a6⟩
      obtain ⟨rfl, hg1, cur, k1, k2, k3, k4, k5⟩ := hgc
      have HF : Hid (∃ f, WyQ P g B cap (mNew st wy) wr f ∧ ∀ j, f j → w.heap.size ≤ j) := by
        have hne1 : P ≠ g := fun e => row_ne HU.out HP.out (by decide) (by rw [e]; rfl)
        have hne2 : g ≠ B := fun e => row_ne HU.out HH.out (by decide) (by rw [← e]; rfl)
        have hne3 : P ≠ B := by have := HBP.out; omega
        refine ⟨fun j => j = P ∨ j = g ∨ j = B, ⟨cur, k2, ?_, k4, ?_, fun j => j = P, fun j => j = g ∨ j = B, ⟨?_, rfl⟩, ⟨fun j => j = g, fun j => j = B, ⟨k1, rfl⟩, ⟨?_, rfl⟩, fun j e1 e2 => hne2 (e1.symm.trans e2), rfl⟩, fun j e1 e2 => ?_, rfl⟩, fun j hj => ?_⟩
        · show (mAll wE st wy).size ≤ cap
          rw [mAll_size, HN.out]; exact k3
        · show cur.toList.take ((mAll wE st wy).size * 3) = wcs (mFlat (mAll wE st wy))
          rw [mAll_flat H3.out, mAll_size, HN.out]; exact k5
        · show wr.heap[P]? = some (.cells (qHead g B cap (mAll wE st wy).ss.length wy (mAll wE st wy).size) _ (0, 0))
          rw [mAll_st, mAll_size, HN.out]
          exact HP.out
        · show wr.heap[B]? = some (.cells (hcs (mHands (mAll wE st wy))).toArray _ (0, 0))
          rw [mAll_hands]
          unfold hcs
          rw [List.map_replicate]
          exact HH.out
        · rcases e2 with e2 | e2
          · exact hne1 (e1.symm.trans e2)
          · exact hne3 (e1.symm.trans e2)
        · rw [HB0.out]
          rcases hj with rfl | rfl | rfl
          · have := HBP.out; omega
          · exact hg1
          · exact Nat.le_refl _
      clear k1 k2 k3 k4 k5 hlt
      go_wp2_with fail
      go_ret2
      exact ⟨P, g, B, cap, rfl, HF.out, by rw [HB0.out]; exact HBw.out⟩
end
section
open Go.RowKit Go.Shelf Go.Lib
set_option linter.unusedVariables false
set_option linter.unusedSimpArgs false
set_option maxRecDepth 100000 in
/-- A call that turns the first of two, their blocks being the same. -/
theorem Sep.firstF {P P' Q : Res} {g : FuncId} {args : Array Value} {w : World} {f : Nat → Prop} {E : Ending → Prop} (hP : IsRes P) (hQ : IsRes Q) (h : Sep P Q w f)
    (hc : ∀ f1, P w f1 → Calls Try.prog g args w fun e w' => E e ∧ P' w' f1 ∧ Turn f1 f1 w w') : Calls Try.prog g args w fun e w' => E e ∧ Sep P' Q w' f ∧ Turn f f w w' := by
  obtain ⟨f1, f2, h1, h2, h3, rfl⟩ := h
  refine (hc f1 h1).mono ?_
  rintro e w' ⟨he, g1, g2⟩
  refine ⟨he, ⟨f1, f2, g1, hQ.out h2 (fun k hk => g2.out k (hQ.lt h2 k hk) (fun h => h3 k h hk)), h3, rfl⟩, ⟨g2.still, g2.others, fun k hk hn => g2.out k hk (fun h => hn (.inl h)), fun k hk => ?_⟩⟩
  rcases hk with hk | hk
  · exact (g2.new k hk).imp .inl id
  · exact .inl (.inr hk)
/-- Nothing. -/
def NoR : Res := fun _ f => f = fun _ => False
theorem NoR.isRes : IsRes NoR := ⟨fun h _ => h, fun h k hk => by rw [h] at hk; exact hk.elim, fun h k hk => by rw [h] at hk; exact hk.elim⟩
def W3 (w0 W : World) (p q : WPos) (A B : WM) (T : Res) : Prop := WP (WyD p.P p.SB p.HB p.cap A) (Sep (WyQ q.P q.SB q.HB q.cap B) T) w0 W
section
variable {w0 W W' : World} {p q : WPos} {A B : WM} {T : Res}
theorem W3.bel (h : W3 w0 W p q A B T) : Below w0.heap.size w0 W := WP.bel h
theorem W3.below (hT : IsRes T) (h : W3 w0 W p q A B T) (hb : Below W.heap.size W W') : W3 w0 W' p q A B T := WP.below (WyG.isRes _ _ _ _ _ _ _ _) ((WyG.isRes _ _ _ _ _ _ _ _).sep hT) h hb
theorem W3.forget (h : W3 w0 W p q A B T) : W3 w0 W p q A B NoR := by
  obtain ⟨f, ⟨f1, f2, h1, ⟨f3, f4, h2, h3, h4, rfl⟩, h5, rfl⟩, h6, h7⟩ := h
  exact ⟨fun k => f1 k ∨ (f3 k ∨ False), ⟨f1, _, h1, ⟨f3, fun _ => False, h2, rfl, fun k _ h => h, rfl⟩, fun k a b => h5 k a (b.elim .inl (fun h => h.elim)), rfl⟩, fun k hk => h6 k (hk.elim .inl (fun h => .inr (h.elim .inl (fun h => h.elim)))), h7⟩
/-- A block is made beside. -/
theorem W3.beside (h : W3 w0 W p q A B NoR) {g : Nat} {cs : List Value} {t : TypeId} (hb : Below W.heap.size W W') (hg : W.heap.size ≤ g) (hr : RowC W' g t cs) : W3 w0 W' p q A B (RowR g cs.toArray t) := by
  obtain ⟨f, ⟨f1, f2, h1, ⟨f3, f4, h2, rfl, h4, rfl⟩, h5, rfl⟩, h6, h7⟩ := h
  have l1 := (WyG.isRes _ _ _ _ _ _ _ _).lt h1
  have l3 := (WyG.isRes _ _ _ _ _ _ _ _).lt h2
  refine ⟨fun k => f1 k ∨ (f3 k ∨ k = g), ⟨f1, _, (WyG.isRes _ _ _ _ _ _ _ _).below h1 hb, ⟨f3, fun k => k = g, (WyG.isRes _ _ _ _ _ _ _ _).below h2 hb, ⟨hr, rfl⟩, fun k a b => by have := l3 k a; omega, rfl⟩, fun k a b => ?_, rfl⟩, fun k hk => ?_, h7.trans (hb.mono h7.size)⟩
  · rcases b with b | b
    · exact h5 k a (.inl b)
    · have := l1 k a; omega
  · rcases hk with hk | hk | hk
    · exact h6 k (.inl hk)
    · exact h6 k (.inr (.inl hk))
    · have := h7.size; omega
theorem W3.cell {g : Nat} {cs : List Value} {t : TypeId} (h : W3 w0 W p q A B (RowR g cs.toArray t)) (j : Nat) : W.cell? ⟨g, j, none⟩ = cs[j]? := by
  obtain ⟨f, ⟨f1, f2, h1, ⟨f3, f4, h2, ⟨h3, -⟩, h4, rfl⟩, h5, rfl⟩, h6, h7⟩ := h
  rw [cell_of_row _ _ _ _ _ _ h3]
  simp
theorem W3.doc (h : W3 w0 W p q A B T) : ∃ f, WyQ q.P q.SB q.HB q.cap B W f := by
  obtain ⟨f, ⟨f1, f2, h1, ⟨f3, f4, h2, h3, h4, rfl⟩, h5, rfl⟩, h6, h7⟩ := h
  exact ⟨f3, h2⟩
set_option maxRecDepth 100000 in
theorem W3.first (hT : IsRes T) {A' : WM} (h : W3 w0 W p q A B T) {g : FuncId} {args : Array Value} {E : Ending → Prop}
    (hc : ∀ f, WyD p.P p.SB p.HB p.cap A W f → Calls Try.prog g args W fun e w' => E e ∧ WyD p.P p.SB p.HB p.cap A' w' f ∧ Turn f f W w') : Calls Try.prog g args W fun e w' => E e ∧ W3 w0 w' p q A' B T :=
  WP.first (WyG.isRes _ _ _ _ _ _ _ _) ((WyG.isRes _ _ _ _ _ _ _ _).sep hT) h hc
set_option maxRecDepth 100000 in
theorem W3.second (hT : IsRes T) {B' : WM} (h : W3 w0 W p q A B T) {g : FuncId} {args : Array Value} {E : Ending → Prop}
    (hc : ∀ f, WyQ q.P q.SB q.HB q.cap B W f → Calls Try.prog g args W fun e w' => E e ∧ WyQ q.P q.SB q.HB q.cap B' w' f ∧ Turn f f W w') : Calls Try.prog g args W fun e w' => E e ∧ W3 w0 w' p q A B' T :=
  WP.second (WyG.isRes _ _ _ _ _ _ _ _) ((WyG.isRes _ _ _ _ _ _ _ _).sep hT) h (S' := Sep (WyQ q.P q.SB q.HB q.cap B') T) fun f hf => Sep.firstF (WyG.isRes _ _ _ _ _ _ _ _) hT hf hc
end
theorem bk_slot {m : WM} (ho : WmOk m) {i : Nat} (hi : i < m.size) : bkOf m (i : Int) = ((m.slot i).b, (m.slot i).d, decide (0 ≤ (m.slot i).b)) := by
  unfold bkOf
  rw [Int.toNat_natCast]
  by_cases hb : (m.slot i).b < 0
  · have hE := bare_iff.1 (ho.sets _ (div_lt hi)).bare _ (by rw [(ho.sets _ (div_lt hi)).len]; exact Nat.mod_lt _ ho.wy1) hb
    have e : m.slot i = wE := hE
    rw [if_neg (fun h => h.2 hb), e]
    rfl
  · rw [if_pos ⟨⟨by omega, by omega⟩, hb⟩]
    have : decide (0 ≤ (m.slot i).b) = true := by simp; omega
    rw [this]
theorem bk_end (m : WM) : bkOf m (m.size : Int) = (-1, false, false) := by
  unfold bkOf
  rw [if_neg (fun h => by have := h.1.2; omega)]

set_option maxRecDepth 100000 in
set_option maxHeartbeats 2000000 in
/-- **Same**, of a map and the document's that hold the same. -/
theorem ways_same {w : World} {p q : WPos} {m : WM} {f1 f2 : Nat → Prop} (h1 : WyD p.P p.SB p.HB p.cap m w f1) (h2 : WyQ q.P q.SB q.HB q.cap m w f2) (ho : WmOk m) :
    Calls Try.prog 25 #[p.v, q.v] w fun e w' => e = .returned (.bool true) ∧ Below w.heap.size w w' := by
  have KB : Hid (∀ (x : World) (i : Nat), Below w.heap.size w x → i < m.size → Calls Try.prog 28 #[.pointer (some ⟨p.P, 0, none⟩), .int .i64 (i : Int)] x fun e w' => e = .returned (.tuple #[.int .i64 (m.slot i).b, .bool (m.slot i).d, .bool (decide (0 ≤ (m.slot i).b))]) ∧ Below w.heap.size w w') := fun x i hx hi => by
    have := WyD.block ((WyG.isRes _ _ _ _ _ _ _ _).below h1 hx) ho (i : Int)
    rw [bk_slot ho hi] at this
    exact this.mono fun e w' k => ⟨k.1, hx.trans (k.2.mono hx.size)⟩
  have KE : Hid (∀ (x : World), Below w.heap.size w x → Calls Try.prog 28 #[.pointer (some ⟨p.P, 0, none⟩), .int .i64 (m.size : Int)] x fun e w' => e = .returned (.tuple #[.int .i64 (-1), .bool false, .bool false]) ∧ Below w.heap.size w w') := fun x hx => by
    have := WyD.block ((WyG.isRes _ _ _ _ _ _ _ _).below h1 hx) ho (m.size : Int)
    rw [bk_end] at this
    exact this.mono fun e w' k => ⟨k.1, hx.trans (k.2.mono hx.size)⟩
  have KD : Hid (∀ (x : World), Below w.heap.size w x → Calls Try.prog 27 #[.pointer (some ⟨p.P, 0, none⟩)] x fun e w' => ∃ u, e = .returned u ∧ Sl .i64 w' u (mDirty m) ∧ Below x.heap.size x w') := fun x hx =>
    (WyD.dirty ((WyG.isRes _ _ _ _ _ _ _ _).below h1 hx) ho).mono fun e w' ⟨u, k1, k2, k3⟩ => ⟨u, k1, sl_own k2, k3⟩
  have KQ : Hid (∀ (x : World), Below w.heap.size w x → Calls Try.prog 36 #[.pointer (some ⟨q.P, 0, none⟩)] x fun e w' => ∃ u, e = .returned u ∧ Sl .i64 w' u (mDirty m) ∧ Below x.heap.size x w') := fun x hx =>
    ((WyQ.dirty ((WyG.isRes _ _ _ _ _ _ _ _).below h2 hx) ho)).mono fun e w' ⟨u, k1, k2, k3⟩ => ⟨u, k1, sl_own k2, k3⟩
  have KH : Hid (∀ x : World, Below w.heap.size w x → x.cell? ⟨q.P, 2, none⟩ = some (.slice (some ⟨q.SB, 0, none⟩) m.size q.cap)) := fun x hx => (WyQ.head ((WyG.isRes _ _ _ _ _ _ _ _).below h2 hx)).2.2.1
  have KS : Hid (∀ (x : World) (i : Nat), Below w.heap.size w x → i < m.size → x.cell? ⟨q.SB, i * 3, none⟩ = some (.int .i64 (m.slot i).b) ∧ x.cell? ⟨q.SB, i * 3 + 1, none⟩ = some (.bool (m.slot i).d)) := fun x i hx hi =>
    ⟨(WyG.slot ((WyG.isRes _ _ _ _ _ _ _ _).below h2 hx) hi).1, (WyG.slot ((WyG.isRes _ _ _ _ _ _ _ _).below h2 hx) hi).2.1⟩
  have hz32 := ho.size32
  obtain ⟨z, hz⟩ : ∃ z, m.size = z := ⟨_, rfl⟩
  rw [hz] at hz32 KB KE KH KS
  clear h1 h2 ho hz
  unfold WPos.v
  have c0 := KH.out w (Below.refl _ _)
  go_enter Try.func25, Try.ntmps25
  go_wp2_with fail
  clear c0
  go_loopw [5] (fun iv wr => ∃ k : Nat, k ≤ z ∧ iv = .int .i64 (k : Int) ∧ Hid (Below w.heap.size w wr)) (fun iv _ => z - (intOf iv).toNat)
  case atStart => exact ⟨0, Nat.zero_le _, rfl, Below.refl _ _⟩
  case round =>
    obtain ⟨k, hk, rfl, HB⟩ := hrel
    have c0 := KH.out wr HB.out
    by_cases hlt : k < z
    · have g1 : (k : Int) < (z : Int) := by omega
      have HLT := Lib.hid hlt
      go_wp2_with fail
      refine (KB.out _ k HB.out HLT.out).mono ?_
      rintro e y ⟨rfl, hy⟩
      have HY := Lib.hid hy
      clear c0 hy
      have c0 := KH.out y HY.out
      obtain ⟨c1, c2⟩ := KS.out y k HY.out HLT.out
      obtain ⟨bb, hbb⟩ : ∃ bb, (m.slot k).b = bb := ⟨_, rfl⟩
      obtain ⟨dd, hdd⟩ : ∃ dd, (m.slot k).d = dd := ⟨_, rfl⟩
      rw [hbb] at c1
      rw [hdd] at c2
      rw [hbb, hdd]
      have e1 : (bb != bb) = false := by simp
      have e2 : (dd != dd) = false := by simp
      clear hbb hdd
      by_cases h0 : 0 ≤ bb
      · have q1 : decide (0 ≤ bb) = true := by simpa using h0
        clear h0
        go_wp2_with fail
        exact ⟨⟨k + 1, HLT.out, by simp, HY⟩, by have := HLT.out; simp [intOf]; omega⟩
      · have q1 : decide (0 ≤ bb) = false := by simpa using h0
        clear h0
        go_wp2_with fail
        exact ⟨⟨k + 1, HLT.out, by simp, HY⟩, by have := HLT.out; simp [intOf]; omega⟩
    · obtain rfl : k = z := by omega
      clear hlt
      go_wp2_with fail
      refine (KE.out _ HB.out).mono ?_
      rintro e y ⟨rfl, hy⟩
      have HY := Lib.hid hy
      clear c0 hy
      go_wp2_with fail
      refine (KD.out _ HY.out).mono ?_
      rintro e y2 ⟨u, rfl, hu, hy⟩
      have HU := Lib.hid hu
      have HY2 := Lib.hid (HY.out.trans (hy.mono HY.out.size))
      clear hu hy
      go_wp2_with fail
      refine (KQ.out _ HY2.out).mono ?_
      rintro e y3 ⟨v, rfl, hv, hy⟩
      have HU2 := Lib.hid (HU.out.below hy)
      have HV := Lib.hid hv
      have HY3 := Lib.hid (HY2.out.trans (hy.mono HY2.out.size))
      clear hv hy
      go_wp2_with fail
      refine (ints_same u v _ y3 HU2.out HV.out).mono ?_
      rintro e y4 ⟨rfl, hy⟩
      have HY4 := Lib.hid (HY3.out.trans (hy.mono HY3.out.size))
      clear hy
      go_wp2_with fail
      go_ret
      exact ⟨rfl, HY4.out⟩
end
section
open Go.RowKit Go.Shelf Go.Lib
set_option linter.unusedVariables false
section
variable {w0 W W' : World} {p q : WPos} {A B : WM} {T : Res}
set_option maxRecDepth 100000 in
theorem W3.roomD (hT : IsRes T) (h : W3 w0 W p q A B T) (ho : WmOk A) (b : Int) (hb : b ≤ 9223372036854775807) : Calls Try.prog 11 #[p.v, .int .i64 b] W fun e w' => e = .returned (opP (mRoom A b).1) ∧ W3 w0 w' p q (mRoom A b).2 B T :=
  h.first hT (E := fun e => e = _) fun f hf => WyD.room hf ho b hb
set_option maxRecDepth 100000 in
theorem W3.roomQ (hT : IsRes T) (h : W3 w0 W p q A B T) (ho : WmOk B) (b : Int) (hb : b ≤ 9223372036854775807) : Calls Try.prog 12 #[q.v, .int .i64 b] W fun e w' => e = .returned (.int .i64 (opI (mRoom B b).1)) ∧ W3 w0 w' p q A (mRoom B b).2 T :=
  h.second hT (E := fun e => e = _) fun f hf => WyQ.room hf ho b hb
set_option maxRecDepth 100000 in
theorem W3.dirtiestD (hT : IsRes T) (h : W3 w0 W p q A B T) (ho : WmOk A) (b : Int) (hb : b ≤ 9223372036854775807) : Calls Try.prog 19 #[p.v, .int .i64 b] W fun e w' => e = .returned (opP (mDirt A b).1) ∧ W3 w0 w' p q (mDirt A b).2 B T :=
  h.first hT (E := fun e => e = _) fun f hf => WyD.dirtiest hf ho b hb
set_option maxRecDepth 100000 in
theorem W3.dirtiestQ (hT : IsRes T) (h : W3 w0 W p q A B T) (ho : WmOk B) (b : Int) (hb : b ≤ 9223372036854775807) : Calls Try.prog 20 #[q.v, .int .i64 b] W fun e w' => e = .returned (.int .i64 (opI (mDirt B b).1)) ∧ W3 w0 w' p q A (mDirt B b).2 T :=
  h.second hT (E := fun e => e = _) fun f hf => WyQ.dirtiest hf ho b hb
set_option maxRecDepth 100000 in
theorem W3.putD (hT : IsRes T) (h : W3 w0 W p q A B T) (ho : WmOk A) (i b : Int) (d : Bool) (hb : b ≤ 9223372036854775807) : Calls Try.prog 13 #[p.v, .int .i64 i, .int .i64 b, .bool d] W fun e w' => e = .returned (.tuple #[]) ∧ W3 w0 w' p q (mPut A i b d) B T :=
  h.first hT (E := fun e => e = _) fun f hf => WyD.put hf ho i b d hb
set_option maxRecDepth 100000 in
theorem W3.putQ (hT : IsRes T) (h : W3 w0 W p q A B T) (ho : WmOk B) (i b : Int) (d : Bool) (hb : b ≤ 9223372036854775807) : Calls Try.prog 14 #[q.v, .int .i64 i, .int .i64 b, .bool d] W fun e w' => e = .returned (.tuple #[]) ∧ W3 w0 w' p q A (mPut B i b d) T :=
  h.second hT (E := fun e => e = _) fun f hf => WyQ.put hf ho i b d hb
set_option maxRecDepth 100000 in
theorem W3.cleanD (hT : IsRes T) (h : W3 w0 W p q A B T) (ho : WmOk A) (i : Int) : Calls Try.prog 21 #[p.v, .int .i64 i] W fun e w' => e = .returned (.tuple #[]) ∧ W3 w0 w' p q (mClean A i) B T :=
  h.first hT (E := fun e => e = _) fun f hf => WyD.clean hf ho.lens ho.size32 i
set_option maxRecDepth 100000 in
theorem W3.cleanQ (hT : IsRes T) (h : W3 w0 W p q A B T) (ho : WmOk B) (i : Int) : Calls Try.prog 22 #[q.v, .int .i64 i] W fun e w' => e = .returned (.tuple #[]) ∧ W3 w0 w' p q A (mClean B i) T :=
  h.second hT (E := fun e => e = _) fun f hf => WyQ.clean hf ho i
set_option maxRecDepth 100000 in
theorem W3.dropD (hT : IsRes T) (h : W3 w0 W p q A B T) (ho : WmOk A) (i : Int) : Calls Try.prog 23 #[p.v, .int .i64 i] W fun e w' => e = .returned (.tuple #[]) ∧ W3 w0 w' p q (mDrop A i) B T :=
  h.first hT (E := fun e => e = _) fun f hf => WyD.drop hf ho.lens ho.size32 i
set_option maxRecDepth 100000 in
theorem W3.dropQ (hT : IsRes T) (h : W3 w0 W p q A B T) (ho : WmOk B) (i : Int) : Calls Try.prog 24 #[q.v, .int .i64 i] W fun e w' => e = .returned (.tuple #[]) ∧ W3 w0 w' p q A (mDrop B i) T :=
  h.second hT (E := fun e => e = _) fun f hf => WyQ.drop hf ho i
set_option maxRecDepth 100000 in
theorem W3.touchD (hT : IsRes T) (h : W3 w0 W p q A B T) (ho : WmOk A) (i : Int) : Calls Try.prog 17 #[p.v, .int .i64 i] W fun e w' => e = .returned (.tuple #[]) ∧ W3 w0 w' p q (mTouch A i) B T :=
  h.first hT (E := fun e => e = _) fun f hf => WyD.touch hf ho i
set_option maxRecDepth 100000 in
theorem W3.touchQ (hT : IsRes T) (h : W3 w0 W p q A B T) (ho : WmOk B) (i : Int) : Calls Try.prog 18 #[q.v, .int .i64 i] W fun e w' => e = .returned (.tuple #[]) ∧ W3 w0 w' p q A (mTouch B i) T :=
  h.second hT (E := fun e => e = _) fun f hf => WyQ.touch hf ho i
set_option maxRecDepth 100000 in
theorem W3.findD (hT : IsRes T) (h : W3 w0 W p q A B T) (ho : WmOk A) (b : Int) (hb : b ≤ 9223372036854775807) : Calls Try.prog 15 #[p.v, .int .i64 b] W fun e w' => e = .returned (opP (mFind A b)) ∧ W3 w0 w' p q A B T :=
  h.first hT (E := fun e => e = _) fun f hf => (WyD.find hf ho b hb).mono fun e w' k => ⟨k.1, by rw [k.2]; exact hf, by rw [k.2]; exact Turn.refl _ _⟩
set_option maxRecDepth 100000 in
theorem W3.findQ (hT : IsRes T) (h : W3 w0 W p q A B T) (ho : WmOk B) (b : Int) (hb : b ≤ 9223372036854775807) : Calls Try.prog 16 #[q.v, .int .i64 b] W fun e w' => e = .returned (.int .i64 (opI (mFind B b))) ∧ W3 w0 w' p q A B T :=
  h.second hT (E := fun e => e = _) fun f hf => (WyQ.find hf ho b hb).mono fun e w' k => ⟨k.1, (WyG.isRes _ _ _ _ _ _ _ _).below hf k.2, Turn.of_below k.2⟩
set_option maxRecDepth 100000 in
theorem W3.same (hT : IsRes T) (h : W3 w0 W p q A A T) (ho : WmOk A) : Calls Try.prog 25 #[p.v, q.v] W fun e w' => e = .returned (.bool true) ∧ W3 w0 w' p q A A T := by
  have h0 := h
  obtain ⟨f, ⟨f1, f2, h1, ⟨f3, f4, h2, h3, h4, rfl⟩, h5, rfl⟩, h6, h7⟩ := h
  exact (ways_same h1 h2 ho).mono fun e w' k => ⟨k.1, h0.below hT k.2⟩
set_option maxRecDepth 100000 in
theorem W3.new (h : WAt w0 W p A) (st wy : Nat) (h1 : 1 ≤ st) (h2 : st ≤ 8) (h3 : 1 ≤ wy) (h4 : wy ≤ 4) :
    Calls Try.prog 10 #[.int .i64 (st : Int), .int .i64 (wy : Int)] W fun e w' => ∃ q : WPos, e = .returned (.tuple #[q.v, .int .i64 0]) ∧ W3 w0 w' p q A (mNew st wy) NoR := by
  obtain ⟨-, f, a1, a2, a3⟩ := h
  refine (wq_newYes st wy h1 h2 h3 h4).mono fun e w' ⟨P, SB, HB, cap, he, ⟨f2, g1, g2⟩, g3⟩ => ⟨⟨P, SB, HB, cap⟩, he, WP.make (f1 := f) (f2 := fun k => f2 k ∨ False) (WyG.isRes _ _ _ _ _ _ _ _) a1 a2 a3 g3 ⟨f2, fun _ => False, g1, rfl, fun k _ h => h, rfl⟩ (fun k hk => hk.elim (g2 k) (fun h => h.elim))⟩
end
theorem touch_none (m : WM) : mTouch m (-1) = m := by unfold mTouch; rw [if_neg (fun h => by have := h.1.1; omega)]
theorem clean_none (m : WM) : mClean m (-1) = m := by unfold mClean; rw [if_neg (fun h => by have := h.1; omega)]
end
end Go.Proofs.Ytlpmikbplngmnaa
