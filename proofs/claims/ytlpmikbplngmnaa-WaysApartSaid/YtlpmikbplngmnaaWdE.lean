/- The program's map of blocks in slots: the clock, Room. -/
import Derived.Test.YtlpmikbplngmnaaWdD
namespace Go.Proofs.Ytlpmikbplngmnaa
open Go.RowKit Go.Shelf Go.Lib
set_option linter.unusedVariables false
set_option linter.unusedSimpArgs false
variable {P SB HB cap : Nat} {m : WM} {w : World} {f : Nat → Prop}

set_option maxRecDepth 100000 in
set_option maxHeartbeats 2000000 in
/-- **clock**. -/
theorem WyD.clock (h : WyD P SB HB cap m w f) (ho : WmOk m) {s : Nat} (hs : s < m.ss.length) :
    Calls Try.prog 32 #[.pointer (some ⟨P, 0, none⟩), .int .i64 (s : Int)] w fun e w' => e = .returned (opP ((clockD (2 * m.wy) (m.set s)).1.map fun k => s * m.wy + k)) ∧ WyD P SB HB cap (m.upd s (clockD (2 * m.wy) (m.set s)).2) w' f ∧ Turn f f w w' := by
  have h2 := ho.st8
  have h3 := ho.wy1
  have h4 := ho.wy4
  have hH : (m.set s).h < m.wy := (ho.sets _ hs).hand
  have hl := (ho.sets _ hs).len
  have c0 := h.head.1
  obtain ⟨x0, hx0⟩ : ∃ x, m.set s = x := ⟨_, rfl⟩
  have K0 : Hid (WyD P SB HB cap (m.upd s x0) w f) := by show WyD P SB HB cap (m.upd s x0) w f; rw [← hx0, upd_id hs]; exact h
  rw [hx0] at hH hl ⊢
  have hsz : s * m.wy + m.wy ≤ m.size := by
    calc s * m.wy + m.wy = (s + 1) * m.wy := by rw [Nat.add_mul, Nat.one_mul]
      _ ≤ m.ss.length * m.wy := Nat.mul_le_mul_right _ hs
  have hz32 := ho.size32
  have KL : Hid (∀ x : WS, x.l.length = m.wy → WmLen (m.upd s x)) := fun x hx => ho.lens.upd hs hx
  have KT : Hid (∀ (x : WS) (wr : World), x.l.length = m.wy → x.h < m.wy → WyD P SB HB cap (m.upd s x) wr f → Calls Try.prog 35 #[.pointer (some ⟨P, 0, none⟩), .int .i64 (s : Int)] wr fun e w' => e = .returned (.int .i64 ((s * m.wy + x.h : Nat) : Int)) ∧ WyD P SB HB cap (m.upd s x.next) w' f ∧ Turn f f wr w') := fun x wr hxl hxh hk => by
    have q := hk.turn (KL.out x hxl) (by rw [upd_st]; exact h2) h4 (s := s) (by rw [upd_st]; exact hs) (by rw [set_upd_same _ hs]; exact hxh)
    rw [set_upd_same _ hs, upd_upd, upd_wy] at q
    exact q
  have KC : Hid (∀ (x : WS) (wr : World) (r : Nat), x.l.length = m.wy → r < m.wy → WyD P SB HB cap (m.upd s x) wr f → Calls Try.prog 33 #[.pointer (some ⟨P, 0, none⟩), .int .i64 ((s * m.wy + r : Nat) : Int)] wr fun e w' => e = .returned (.pointer (some ⟨SB, (s * m.wy + r) * 3, none⟩)) ∧ w' = wr) := fun x wr r hxl hr hk =>
    hk.contentYes (by rw [upd_size]; exact hz32) (by rw [upd_size]; omega)
  have KS : Hid (∀ (x : WS) (wr : World) (r : Nat), r < m.wy → WyD P SB HB cap (m.upd s x) wr f → wr.cell? ⟨SB, (s * m.wy + r) * 3 + 1, none⟩ = some (.bool (x.slot r).d) ∧ wr.cell? ⟨SB, (s * m.wy + r) * 3 + 2, none⟩ = some (.bool (x.slot r).k) ∧ wr.frozen? ⟨SB, (s * m.wy + r) * 3 + 2, none⟩ = false) := fun x wr r hr hk => by
    have q := (hk.slot (i := s * m.wy + r) (by rw [upd_size]; omega)).2
    have e : (m.upd s x).slot (s * m.wy + r) = x.slot r := by
      have := slot_at (m := m.upd s x) (s := s) (w := r) hr
      rw [upd_wy, set_upd_same _ hs] at this
      exact this
    rw [e] at q
    exact ⟨q.1, q.2, hk.frozenS _⟩
  have KM : Hid (∀ (x : WS) (wr : World) (r : Nat), x.l.length = m.wy → r < m.wy → WyD P SB HB cap (m.upd s x) wr f → WyD P SB HB cap (m.upd s (x.put r ⟨(x.slot r).b, (x.slot r).d, false⟩)) (wr.setCell ⟨SB, (s * m.wy + r) * 3 + 2, none⟩ (.bool false)) f ∧ Turn f f wr (wr.setCell ⟨SB, (s * m.wy + r) * 3 + 2, none⟩ (.bool false))) := fun x wr r hxl hr hk => by
    have q := hk.writeK (KL.out x hxl) (i := s * m.wy + r) (by rw [upd_size]; omega) false
    have e : (m.upd s x).slot (s * m.wy + r) = x.slot r := by
      have := slot_at (m := m.upd s x) (s := s) (w := r) hr
      rw [upd_wy, set_upd_same _ hs] at this
      exact this
    rw [e] at q
    have e2 : mWrite (m.upd s x) (s * m.wy + r) ⟨(x.slot r).b, (x.slot r).d, false⟩ = m.upd s (x.put r ⟨(x.slot r).b, (x.slot r).d, false⟩) := by
      unfold mWrite
      rw [upd_wy, at_div hr, at_mod hr, set_upd_same _ hs, upd_upd]
    rw [e2] at q
    exact q
  obtain ⟨wy, hwy⟩ : ∃ wy, m.wy = wy := ⟨_, rfl⟩
  obtain ⟨z, hz⟩ : ∃ z, m.size = z := ⟨_, rfl⟩
  rw [hz] at hsz hz32
  rw [hwy] at h3 h4 hH hl c0 hsz KT KC KS KM ⊢
  obtain ⟨res, hres⟩ : ∃ res, clockD (2 * wy) x0 = res := ⟨_, rfl⟩
  rw [hres]
  have HRes : Hid (clockD (2 * wy - 0) x0 = res) := hres
  have HL0 := Lib.hid hl
  have HH0 := Lib.hid hH
  clear h ho hs hx0 hz hwy h2 KL hH hl hres
  go_enter Try.func32, Try.ntmps32
  go_wp2_with fail
  go_step3
  go_wp2_with fail
  go_step3
  go_wp2_with fail
  clear c0
  go_loopw [4, 5, 13] (fun sv kv iv wr => ∃ (k : Nat) (x : WS), k ≤ 2 * wy ∧ sv = .int .i64 0 ∧ kv = .bool false ∧ iv = .int .i64 (k : Int) ∧ Hid (x.l.length = wy) ∧ Hid (x.h < wy) ∧ Hid (WyD P SB HB cap (m.upd s x) wr f) ∧ Hid (Turn f f w wr) ∧ Hid (clockD (2 * wy - k) x = res)) (fun _ _ iv _ => 2 * wy - (intOf iv).toNat)
  case atStart => exact ⟨0, x0, Nat.zero_le _, rfl, rfl, rfl, HL0, HH0, K0, Turn.refl _ _, HRes⟩
  case round =>
    obtain ⟨k, x, hk, rfl, rfl, rfl, HXL, HXH, HK, HT, HD⟩ := hrel
    by_cases hlt2 : k < 2 * wy
    · have g1 : (k : Int) < 2 * (wy : Int) := by omega
      have HLT := Lib.hid hlt2
      obtain ⟨n, hn⟩ : ∃ n, 2 * wy - k = n + 1 := ⟨2 * wy - k - 1, by omega⟩
      have HN : Hid (2 * wy - (k + 1) = n) := by show 2 * wy - (k + 1) = n; omega
      rw [hn] at HD
      obtain ⟨r, hr⟩ : ∃ r, x.h = r := ⟨_, rfl⟩
      have HR := Lib.hid hr
      have hrl : r < wy := by rw [← hr]; exact HXH.out
      clear hr hn
      go_wp2_with fail
      refine (KT.out x _ HXL.out HXH.out HK.out).mono ?_
      rintro e y ⟨rfl, hy1, hy2⟩
      have HY := Lib.hid hy1
      have HT2 : Hid (Turn f f w y) := HT.out.trans hy2
      rw [HR.out]
      clear hy1 hy2
      go_wp2_with fail
      refine (KC.out x.next _ r HXL.out hrl HY.out).mono ?_
      rintro e y2 ⟨rfl, rfl⟩
      obtain ⟨d1, d2, d3⟩ := KS.out x.next _ r hrl HY.out
      rw [slot_next] at d1 d2
      by_cases hd : (x.slot r).d = true
      · have HS : Hid (clockD n x.next = res) := by rw [← HD.out]; exact (clockD_dirty (by rw [HR.out]; exact hd)).symm
        rw [hd] at d1
        clear hd
        go_wp2_with fail
        exact ⟨⟨k + 1, x.next, HLT.out, rfl, rfl, by simp, HXL.out, (by have := next_h (x := x) (by rw [HXL.out]; exact h3); rw [next_len, HXL.out] at this; exact this), HY.out, HT2.out, by rw [HN.out]; exact HS.out⟩, by have := HLT.out; simp [intOf]; omega⟩
      · have hd2 : (x.slot r).d = false := by simpa using hd
        rw [hd2] at d1
        by_cases hm : (x.slot r).k = true
        · have HS : Hid (clockD n (x.next.put r ⟨(x.slot r).b, (x.slot r).d, false⟩) = res) := by
            show _ = _
            rw [← HD.out, clockD_mark (by rw [HR.out]; exact hd2) (by rw [HR.out]; exact hm), HR.out]
          obtain ⟨k1, k2⟩ := KM.out x.next _ r HXL.out hrl HY.out
          rw [slot_next] at k1
          have HK1 := Lib.hid k1
          have HK2 := Lib.hid (HT2.out.trans k2)
          rw [hm] at d2
          clear hd hd2 hm k1 k2
          go_wp2_with fail
          exact ⟨⟨k + 1, x.next.put r ⟨(x.slot r).b, (x.slot r).d, false⟩, HLT.out, rfl, rfl, by simp, (by show _ = wy; rw [put_len]; exact HXL.out), (by have := next_h (x := x) (by rw [HXL.out]; exact h3); rw [next_len, HXL.out] at this; exact this), HK1.out, HK2.out, by rw [HN.out]; exact HS.out⟩, by have := HLT.out; simp [intOf]; omega⟩
        · have hm2 : (x.slot r).k = false := by simpa using hm
          have HS : Hid (res = (some r, x.next)) := by
            show _ = _
            rw [← HD.out, clockD_here (by rw [HR.out]; exact hd2) (by rw [HR.out]; exact hm2), HR.out]
          rw [hm2] at d2
          clear hd hd2 hm hm2
          go_wp2_with fail
          try rw [Exit.noGoto_ret]
          go_ret2
          rw [HS.out]
          exact ⟨rfl, HY.out, HT2.out⟩
    · obtain rfl : k = 2 * wy := by omega
      have HS : Hid (res = (none, x)) := by rw [← HD.out, Nat.sub_self]; rfl
      go_wp2_with fail
      try rw [Exit.noGoto_ret]
      go_ret2
      rw [HS.out]
      exact ⟨rfl, HK.out, HT.out⟩
theorem findW_empty {st wy s : Nat} {x : WS} (h : WsOk st wy s x) : findW x.l (-1) = emptyW x.l := by
  have hb : ∀ y ∈ x.l, (y.b == -1) = decide (y.b < 0) := fun y hy => by
    by_cases e : y.b < 0
    · rw [h.bare y hy e]; rfl
    · have e2 : ¬ y.b = -1 := by omega
      simp [e, e2]
  unfold findW emptyW
  clear h
  generalize x.l = l at hb
  induction l with
  | nil => rfl
  | cons y l ih =>
    rw [List.findIdx?_cons, List.findIdx?_cons, hb y (List.mem_cons_self), ih (fun z hz => hb z (List.mem_cons_of_mem _ hz))]
theorem ws_put_same {x : WS} {r : Nat} {v : WSlot} (h : x.slot r = v) : x.put r v = x := by
  cases x with
  | mk hd l =>
    unfold WS.put
    simp only [WS.mk.injEq, true_and]
    apply List.ext_getElem?
    intro j
    rw [List.getElem?_set]
    by_cases e : r = j
    · subst e
      rw [if_pos rfl]
      by_cases hl : r < l.length
      · rw [if_pos hl, ← h]
        unfold WS.slot
        show _ = l[r]?
        rw [show (⟨hd, l⟩ : WS).l = l from rfl, List.getElem?_eq_getElem hl]
        rfl
      · rw [if_neg hl, List.getElem?_eq_none (by omega)]
    · rw [if_neg e]
theorem drop_upd {m : WM} {s r : Nat} {x : WS} (hs : s < m.ss.length) (hr : r < m.wy) : mDrop (m.upd s x) ((s * m.wy + r : Nat) : Int) = m.upd s (x.put r wE) := by
  have hi : mHas (m.upd s x) ((s * m.wy + r : Nat) : Int) := by
    have h1 : s * m.wy + r < m.size := at_lt hs hr
    refine ⟨by omega, ?_⟩
    rw [upd_size]
    omega
  unfold mDrop
  rw [if_pos hi, Int.toNat_natCast]
  unfold mWrite
  rw [upd_wy, at_div hr, at_mod hr, set_upd_same _ hs, upd_upd]

set_option maxRecDepth 100000 in
set_option maxHeartbeats 1000000 in
/-- **Room**. -/
theorem WyD.room (h : WyD P SB HB cap m w f) (ho : WmOk m) (b : Int) (hb : b ≤ 9223372036854775807) :
    Calls Try.prog 11 #[.pointer (some ⟨P, 0, none⟩), .int .i64 b] w fun e w' => e = .returned (opP (mRoom m b).1) ∧ WyD P SB HB cap (mRoom m b).2 w' f ∧ Turn f f w w' := by
  by_cases h0 : b < 0
  · have E : mRoom m b = (none, m) := by unfold mRoom; rw [if_pos h0]
    rw [E]
    have K := Lib.hid h
    have HS := Lib.hid (WyD.setNo (w := w) b (.pointer (some ⟨P, 0, none⟩)) (.inr ⟨_, rfl, h0⟩))
    clear h E h0
    go_enter Try.func11, Try.ntmps11
    go_wp2_with fail
    refine HS.out.mono ?_
    rintro e w' ⟨rfl, rfl⟩
    go_wp2_with fail
    go_ret2
    exact ⟨rfl, K.out, Turn.refl _ _⟩
  · have HS := Lib.hid (h.setYes ho (by omega) hb)
    have hlt := of_lt ho.st1 b
    have hok := ho.sets _ hlt
    have HF := Lib.hid (h.first ho hlt (-1))
    rw [findW_empty hok] at HF
    have hl := hok.len
    have hz32 := ho.size32
    have hE : mRoom m b = ((roomW (m.set (m.of b))).1.map (fun w => m.of b * m.wy + w), m.upd (m.of b) (roomW (m.set (m.of b))).2) := by unfold mRoom; rw [if_neg h0]
    rw [hE]
    obtain ⟨s, hs⟩ : ∃ s, m.of b = s := ⟨_, rfl⟩
    rw [hs] at HS HF hlt hok hl ⊢
    have HD : Hid (∀ (x : WS) (r : Nat) (wr : World), x.l.length = m.wy → r < m.wy → WyD P SB HB cap (m.upd s x) wr f → Calls Try.prog 23 #[.pointer (some ⟨P, 0, none⟩), .int .i64 ((s * m.wy + r : Nat) : Int)] wr fun e w' => e = .returned (.tuple #[]) ∧ WyD P SB HB cap (m.upd s (x.put r wE)) w' f ∧ Turn f f wr w') := fun x r wr hxl hr hk => by
      have q := hk.drop (ho.lens.upd hlt hxl) (by rw [upd_size]; exact hz32) ((s * m.wy + r : Nat) : Int)
      rw [drop_upd hlt hr] at q
      exact q
    cases he : emptyW (m.set s).l with
    | some r =>
      have hR : roomW (m.set s) = (some r, m.set s) := by unfold roomW; rw [he]
      rw [hR]
      rw [he] at HF
      obtain ⟨q, hq, hqb⟩ := emptyW_some he
      have hr : r < m.wy := by rw [← hl]; exact (List.getElem?_eq_some_iff.1 hq).1
      have hse : (m.set s).slot r = wE := by
        have : (m.set s).slot r = q := by unfold WS.slot; rw [hq]; rfl
        rw [this]
        exact hok.bare q (List.mem_of_getElem? hq) hqb
      have KD := Lib.hid (HD.out (m.set s) r w hl hr (by rw [upd_id hlt]; exact h))
      rw [ws_put_same hse] at KD
      clear h ho hok HD hl hE he hs hlt hq hse hr h0 hb
      go_enter Try.func11, Try.ntmps11
      go_wp2_with fail
      refine HS.out.mono ?_
      rintro e w' ⟨rfl, rfl⟩
      go_wp2_with fail
      refine HF.out.mono ?_
      rintro e w' ⟨rfl, rfl⟩
      simp only [Option.map_some, opP]
      go_wp2_with fail
      refine KD.out.mono ?_
      rintro e w' ⟨rfl, k1, k2⟩
      have HK1 := Lib.hid k1
      have HK2 := Lib.hid k2
      clear k1 k2
      go_wp2_with fail
      go_ret2
      exact ⟨rfl, HK1.out, HK2.out⟩
    | none =>
      have hR : roomW (m.set s) = dropW (clockD (2 * m.wy) (m.set s)) := by unfold roomW; rw [he, ← clockD_W, hl]
      rw [hR]
      rw [he] at HF
      have KC := Lib.hid (h.clock ho hlt)
      have hln := clockD_lens (2 * m.wy) (m.set s) (by rw [hl]; exact hok.hand)
      rw [hl] at hln
      obtain ⟨⟨o, y⟩, hoy⟩ : ∃ oy, clockD (2 * m.wy) (m.set s) = oy := ⟨_, rfl⟩
      rw [hoy] at KC hln ⊢
      obtain ⟨l1, -, l3⟩ := hln
      cases o with
      | none =>
        clear h ho hok HD hl hE he hs hlt hR hoy l1 l3 h0 hb
        go_enter Try.func11, Try.ntmps11
        go_wp2_with fail
        refine HS.out.mono ?_
        rintro e w' ⟨rfl, rfl⟩
        go_wp2_with fail
        refine HF.out.mono ?_
        rintro e w' ⟨rfl, rfl⟩
        simp only [Option.map_none, opP]
        go_wp2_with fail
        refine KC.out.mono ?_
        rintro e w' ⟨rfl, k1, k2⟩
        have HK1 := Lib.hid k1
        have HK2 := Lib.hid k2
        clear k1 k2
        simp only [Option.map_none, opP]
        go_wp2_with fail
        go_ret2
        exact ⟨rfl, HK1.out, HK2.out⟩
      | some r =>
        have KD := Lib.hid (fun wr => HD.out y r wr l1 (l3 r rfl))
        clear h ho hok HD hl hE he hs hlt hR hoy l1 l3 h0 hb
        go_enter Try.func11, Try.ntmps11
        go_wp2_with fail
        refine HS.out.mono ?_
        rintro e w' ⟨rfl, rfl⟩
        go_wp2_with fail
        refine HF.out.mono ?_
        rintro e w' ⟨rfl, rfl⟩
        simp only [Option.map_none, opP]
        go_wp2_with fail
        refine KC.out.mono ?_
        rintro e w2 ⟨rfl, k1, k2⟩
        have HK1 := Lib.hid k1
        have HK2 := Lib.hid k2
        clear k1 k2
        simp only [Option.map_some, opP]
        go_wp2_with fail
        refine (KD.out _ HK1.out).mono ?_
        rintro e w3 ⟨rfl, k1, k2⟩
        have HK3 := Lib.hid k1
        have HK4 := Lib.hid (HK2.out.trans k2)
        clear k1 k2
        go_wp2_with fail
        go_ret2
        exact ⟨rfl, HK3.out, HK4.out⟩
end Go.Proofs.Ytlpmikbplngmnaa
