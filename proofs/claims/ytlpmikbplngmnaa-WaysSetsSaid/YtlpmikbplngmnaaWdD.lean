/- The program's map of blocks in slots: Dirtiest, the clock, Room. -/
import Derived.Test.YtlpmikbplngmnaaWdC
import Derived.Test.YtlpmikbplngmnaaWyDirt
namespace Go.Proofs.Ytlpmikbplngmnaa
open Go.RowKit Go.Shelf Go.Lib
set_option linter.unusedVariables false
set_option linter.unusedSimpArgs false
variable {P SB HB cap : Nat} {m : WM} {w : World} {f : Nat → Prop}
/-- The clock, the chosen slot still as it was. -/
def clockD : Nat → WS → Option Nat × WS
  | 0, x => (none, x)
  | n + 1, x =>
    if (x.slot x.h).d then clockD n x.next
    else if (x.slot x.h).k then clockD n (x.next.put x.h ⟨(x.slot x.h).b, (x.slot x.h).d, false⟩)
    else (some x.h, x.next)
def dropW : Option Nat × WS → Option Nat × WS
  | (some w, x) => (some w, x.put w wE)
  | (none, x) => (none, x)
theorem clockD_W : ∀ (n : Nat) (x : WS), clockW n x = dropW (clockD n x)
  | 0, x => rfl
  | n + 1, x => by
    unfold clockW clockD
    split
    · exact clockD_W n _
    · split
      · exact clockD_W n _
      · rfl
theorem clockD_dirty {n : Nat} {x : WS} (h : (x.slot x.h).d = true) : clockD (n + 1) x = clockD n x.next := by
  show (if _ then _ else _) = _; rw [if_pos h]
theorem clockD_mark {n : Nat} {x : WS} (h : (x.slot x.h).d = false) (hk : (x.slot x.h).k = true) : clockD (n + 1) x = clockD n (x.next.put x.h ⟨(x.slot x.h).b, (x.slot x.h).d, false⟩) := by
  show (if _ then _ else _) = _; rw [if_neg (by rw [h]; decide), if_pos hk]
theorem clockD_here {n : Nat} {x : WS} (h : (x.slot x.h).d = false) (hk : (x.slot x.h).k = false) : clockD (n + 1) x = (some x.h, x.next) := by
  show (if _ then _ else _) = _; rw [if_neg (by rw [h]; decide), if_neg (by rw [hk]; decide)]
theorem clockD_lens : ∀ (n : Nat) (x : WS), x.h < x.l.length → (clockD n x).2.l.length = x.l.length ∧ (clockD n x).2.h < x.l.length ∧ ∀ w, (clockD n x).1 = some w → w < x.l.length
  | 0, x, hh => ⟨rfl, hh, fun w e => by cases e⟩
  | n + 1, x, hh => by
    have h0 : 0 < x.l.length := by omega
    unfold clockD
    split
    · exact clockD_lens n x.next (next_h h0)
    · split
      · obtain ⟨y, hy⟩ : ∃ y, x.next.put x.h ⟨(x.slot x.h).b, (x.slot x.h).d, false⟩ = y := ⟨_, rfl⟩
        have hl : y.l.length = x.l.length := by rw [← hy, put_len]; rfl
        have := clockD_lens n y (by rw [hl, ← hy]; exact next_h h0)
        rw [hy]
        rw [hl] at this
        exact this
      · exact ⟨rfl, next_h h0, fun w e => by cases e; exact hh⟩

set_option maxRecDepth 100000 in
set_option maxHeartbeats 2000000 in
/-- **Dirtiest**. -/
theorem WyD.dirtiest (h : WyD P SB HB cap m w f) (ho : WmOk m) (b : Int) (hb : b ≤ 9223372036854775807) :
    Calls Try.prog 19 #[.pointer (some ⟨P, 0, none⟩), .int .i64 b] w fun e w' => e = .returned (opP (mDirt m b).1) ∧ WyD P SB HB cap (mDirt m b).2 w' f ∧ Turn f f w w' := by
  by_cases h0 : b < 0
  · have E : mDirt m b = (none, m) := by unfold mDirt; rw [if_pos h0]
    rw [E]
    have K := Lib.hid h
    have HS := Lib.hid (WyD.setNo (w := w) b (.pointer (some ⟨P, 0, none⟩)) (.inr ⟨_, rfl, h0⟩))
    clear h E h0
    go_enter Try.func19, Try.ntmps19
    go_wp2_with fail
    refine HS.out.mono ?_
    rintro e w' ⟨rfl, rfl⟩
    go_wp2_with fail
    go_ret2
    exact ⟨rfl, K.out, Turn.refl _ _⟩
  · have HS := Lib.hid (h.setYes ho (by omega) hb)
    have h2 := ho.st8
    have h3 := ho.wy1
    have h4 := ho.wy4
    have hlt := of_lt ho.st1 b
    have hH : (m.set (m.of b)).h < m.wy := (ho.sets _ hlt).hand
    have hl := (ho.sets _ hlt).len
    have c0 := h.head.1
    obtain ⟨s, hs⟩ : ∃ s, m.of b = s := ⟨_, rfl⟩
    rw [hs] at hlt hH hl HS
    obtain ⟨x, hx⟩ : ∃ x, m.set s = x := ⟨_, rfl⟩
    have HX := Lib.hid hx
    rw [hx] at hH hl
    obtain ⟨mk, hmk⟩ : ∃ mk : Nat → WM, mk = fun k => m.upd s ⟨(x.h + k) % m.wy, x.l⟩ := ⟨_, rfl⟩
    have kwy : ∀ k, (mk k).wy = m.wy := fun k => by rw [hmk]; rfl
    have kst : ∀ k, (mk k).ss.length = m.ss.length := fun k => by rw [hmk]; exact upd_st _ _ _
    have kset : ∀ k, (mk k).set s = ⟨(x.h + k) % m.wy, x.l⟩ := fun k => by rw [hmk]; exact set_upd_same _ hlt
    have klen : ∀ k, WmLen (mk k) := fun k => by rw [hmk]; exact ho.lens.upd hlt hl
    have k0 : mk 0 = m := by
      rw [hmk]
      show m.upd s ⟨(x.h + 0) % m.wy, x.l⟩ = m
      rw [Nat.add_zero, Nat.mod_eq_of_lt hH]
      show m.upd s x = m
      rw [← hx]
      exact upd_id hlt
    have kw : mk m.wy = m := by
      rw [← k0, hmk]
      show m.upd s ⟨(x.h + m.wy) % m.wy, x.l⟩ = m.upd s ⟨(x.h + 0) % m.wy, x.l⟩
      rw [Nat.add_mod_right, Nat.add_zero]
    have knext : ∀ k, (mk k).upd s ((mk k).set s).next = mk (k + 1) := fun k => by
      rw [kset, hmk]
      show (m.upd s _).upd s ⟨((x.h + k) % m.wy + 1) % x.l.length, x.l⟩ = m.upd s ⟨(x.h + (k + 1)) % m.wy, x.l⟩
      rw [upd_upd, hl, Nat.mod_add_mod, Nat.add_assoc]
    have kslot : ∀ k r, r < m.wy → (mk k).slot (s * m.wy + r) = x.slot r := fun k r hr => by
      have := slot_at (m := mk k) (s := s) (w := r) (by rw [kwy]; exact hr)
      rw [kwy, kset] at this
      exact this
    have ksize : ∀ k, (mk k).size = m.size := fun k => by unfold WM.size; rw [kwy, kst]
    have hsz : s * m.wy + m.wy ≤ m.size := by
      calc s * m.wy + m.wy = (s + 1) * m.wy := by rw [Nat.add_mul, Nat.one_mul]
        _ ≤ m.ss.length * m.wy := Nat.mul_le_mul_right _ hlt
    have hz32 := ho.size32
    have KT : Hid (∀ (k : Nat) (wr : World), WyD P SB HB cap (mk k) wr f → Calls Try.prog 35 #[.pointer (some ⟨P, 0, none⟩), .int .i64 (s : Int)] wr fun e w' => e = .returned (.int .i64 ((s * m.wy + (x.h + k) % m.wy : Nat) : Int)) ∧ WyD P SB HB cap (mk (k + 1)) w' f ∧ Turn f f wr w') := fun k wr hk => by
      have hm : (x.h + k) % m.wy < m.wy := Nat.mod_lt _ (by omega)
      have q := hk.turn (klen k) (by rw [kst]; exact h2) (by rw [kwy]; exact h4) (s := s) (by rw [kst]; exact hlt) (by rw [kset, kwy]; exact hm)
      rw [knext, kset, kwy] at q
      exact q
    have KS : Hid (∀ (k : Nat) (wr : World), WyD P SB HB cap (mk k) wr f → wr.cell? ⟨P, 1, none⟩ = some (.slice (some ⟨SB, 0, none⟩) m.size cap) ∧ ∀ r, r < m.wy → wr.cell? ⟨SB, (s * m.wy + r) * 3 + 1, none⟩ = some (.bool (x.slot r).d)) := fun k wr hk => by
      refine ⟨?_, fun r hr => ?_⟩
      · have := hk.head.2.1
        rw [ksize] at this
        exact this
      · have := (hk.slot (i := s * m.wy + r) (by rw [ksize]; omega)).2.1
        rw [kslot k r hr] at this
        exact this
    have KHit : Hid (∀ k, k < m.wy → (x.slot ((x.h + k) % m.wy)).d = true → (∀ j, j < k → (x.slot ((x.h + j) % m.wy)).d = false) → mDirt m b = (some (s * m.wy + (x.h + k) % m.wy), mk (k + 1))) := fun k hk e1 e2 => by
      have := dirt_hit (m := m) h0 (k := k)
      rw [hs, hx, hl] at this
      rw [this hk e1 e2, hmk]
      show _ = (_, m.upd s ⟨(x.h + (k + 1)) % m.wy, x.l⟩)
      rw [Nat.mod_add_mod, Nat.add_assoc]
    have KMiss : Hid ((∀ j, j < m.wy → (x.slot ((x.h + j) % m.wy)).d = false) → mDirt m b = (none, m)) := fun e2 => by
      have := dirt_miss (m := m) h0 (by rw [hs]; exact hlt)
      rw [hs, hx, hl] at this
      exact this e2
    have K0 : Hid (WyD P SB HB cap (mk 0) w f) := by show WyD P SB HB cap (mk 0) w f; rw [k0]; exact h
    have KW : Hid (mk m.wy = m) := kw
    obtain ⟨wy, hwy⟩ : ∃ wy, m.wy = wy := ⟨_, rfl⟩
    obtain ⟨z, hz⟩ : ∃ z, m.size = z := ⟨_, rfl⟩
    rw [hz] at hsz hz32 KS
    rw [hwy] at h3 h4 c0 hsz KT KS KHit KMiss KW
    clear h ho hb h0 hs hx hH hl hmk kwy kst kset klen k0 kw knext kslot ksize hz hwy hlt h2
    go_enter Try.func19, Try.ntmps19
    go_wp2_with fail
    refine HS.out.mono ?_
    rintro e w' ⟨rfl, rfl⟩
    go_wp2_with fail
    clear c0
    go_loopw [8, 21] (fun _ iv wr => ∃ k : Nat, k ≤ wy ∧ iv = .int .i64 (k : Int) ∧ Hid (WyD P SB HB cap (mk k) wr f) ∧ Hid (Turn f f w' wr) ∧ Hid (∀ j, j < k → (x.slot ((x.h + j) % wy)).d = false)) (fun _ iv _ => wy - (intOf iv).toNat)
    case atStart => exact ⟨0, Nat.zero_le _, rfl, K0, Turn.refl _ _, fun j hj => absurd hj (Nat.not_lt_zero _)⟩
    case round =>
      obtain ⟨k, hk, rfl, HK, HT, HP⟩ := hrel
      by_cases hlt2 : k < wy
      · have g1 : (k : Int) < (wy : Int) := by omega
        have HLT := Lib.hid hlt2
        have hr : (x.h + k) % wy < wy := Nat.mod_lt _ (by omega)
        obtain ⟨r, hrd⟩ : ∃ r, (x.h + k) % wy = r := ⟨_, rfl⟩
        rw [hrd] at hr
        have HRD := Lib.hid hrd
        clear hrd
        go_wp2_with fail
        refine (KT.out k _ HK.out).mono ?_
        rintro e y ⟨rfl, hy1, hy2⟩
        have hlt3 : s * wy + r < z := by omega
        obtain ⟨d1, d2⟩ := KS.out (k + 1) y hy1
        have d3 := d2 r hr
        have HY : Hid (WyD P SB HB cap (mk (k + 1)) y f) := hy1
        have HT2 : Hid (Turn f f w' y) := HT.out.trans hy2
        rw [HRD.out]
        clear d2 hy1 hy2
        by_cases hd : (x.slot r).d = true
        · rw [hd] at d3
          have E := Lib.hid (KHit.out k HLT.out (by rw [HRD.out]; exact hd) HP.out)
          clear hd
          go_wp2_with fail
          go_ret2
          rw [E.out, HRD.out]
          exact ⟨rfl, HY.out, HT2.out⟩
        · have hd2 : (x.slot r).d = false := by simpa using hd
          rw [hd2] at d3
          have HD := Lib.hid hd2
          clear hd hd2
          go_wp2_with fail
          exact ⟨⟨k + 1, HLT.out, by simp, HY, HT2, fun j hj => by
            by_cases e : j = k
            · subst e; rw [HRD.out]; exact HD.out
            · exact HP.out j (by omega)⟩, by have := HLT.out; simp [intOf]; omega⟩
      · obtain rfl : k = wy := by omega
        have E := Lib.hid (KMiss.out HP.out)
        rw [KW.out] at HK
        go_wp2_with fail
        go_ret2
        rw [E.out]
        exact ⟨rfl, HK.out, HT.out⟩
end Go.Proofs.Ytlpmikbplngmnaa
