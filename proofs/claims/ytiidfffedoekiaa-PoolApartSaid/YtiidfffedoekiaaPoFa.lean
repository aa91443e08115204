/- Which states the statements ask of. -/
import Derived.Test.YtiidfffedoekiaaPoSt
import Derived.Test.YtiidfffedoekiaaOrd
namespace Go.Proofs.Ytiidfffedoekiaa
open Go.RowKit
set_option linter.unusedVariables false
set_option linter.unusedSimpArgs false
attribute [-simp] Try.isAgg39 Try.zeroValue39 Try.isAgg42 Try.zeroValue42 Try.isAgg48 Try.zeroValue48
attribute [-go_sem] loadVar storeVar
attribute [local go_sem] loadVar_openQ storeVar_openQ zero_sn zero_prs zero_st

set_option maxRecDepth 100000 in
theorem Arg.state_d {W : World} {q : PS} (h : Arg W 48 (stV q)) : q.d.2.1 ≤ maxLen := by
  obtain ⟨cs, e, hl, hcs⟩ := h.agg (.inl ⟨_, Try.underlying48⟩)
  obtain ⟨_, hj⟩ := hcs.struct Try.underlying48
  have h0 : Cells W 35 ((cs.drop 0).take (Try.prog.cellsOf 35)) := hj 0 _ rfl
  rw [show Try.prog.cellsOf 35 = 1 from by kernel_rfl] at h0
  obtain ⟨a, la, ca, e0, r⟩ := h0.slice Try.underlying35
  have hcs2 : cs = stL q := by
    have := congrArg Value.cells e
    simp [stV, Value.cells] at this
    exact this.symm
  subst hcs2
  simp only [stL, List.drop_zero, List.take_succ_cons, List.take_zero, List.cons.injEq, slV, Value.slice.injEq] at e0
  rcases r with ⟨-, r, -⟩ | ⟨x, -, r1, r2, -⟩ <;> omega

def fairP (l : List SN) (dn : Nat) (ps : List (Int × Int)) : Bool := l.all (fun s => decide (s.ch.length ≤ 40) && decide (s.tb.length ≤ 80)) && (decide (l.length ≤ 12) && (decide (dn ≤ 80) && decide (ps.length ≤ 80)))
theorem fairP_lens {l : List SN} {dn : Nat} {ps : List (Int × Int)} (h : fairP l dn ps = true) : Lens 200 l ∧ ps.length ≤ 200 := by
  unfold fairP at h
  simp only [Bool.and_eq_true, List.all_eq_true, decide_eq_true_eq] at h
  exact ⟨⟨by omega, fun s hs => ⟨by have := h.1 s hs; omega, by have := h.1 s hs; omega⟩⟩, by omega⟩

set_option maxRecDepth 100000 in
set_option maxHeartbeats 2000000 in
theorem po_fair {w : World} {q : PS} {l : List SN} {ps : List (Int × Int)} (h : StIs w q l ps) (hdc : q.d.2.1 ≤ 9223372036854775807) :
    Calls Try.prog 24 #[stV q] w fun e w' => e = .returned (.bool (fairP l q.d.2.1 ps)) ∧ Below w.heap.size w w' := by
  obtain ⟨⟨dx, dn, dc⟩, ⟨sx, sn, sc⟩, nx, kd, id, ⟨px, pn, pc⟩⟩ := q
  obtain ⟨⟨r, hsn⟩, hpr⟩ := h
  simp only at hdc
  have hsl : sn = l.length := by obtain ⟨a, cap, e, -⟩ := hsn; simp only [slV, Value.slice.injEq] at e; omega
  have hpl : pn = ps.length := by obtain ⟨a, cap, e, -⟩ := hpr; simp only [slV, Value.slice.injEq] at e; omega
  have hml : sn ≤ 9223372036854775807 := by obtain ⟨a, cap, e, h1, h2, -⟩ := hsn; unfold maxLen at h2; omega
  have hmp : pn ≤ 9223372036854775807 := by obtain ⟨a, cap, e, h1, h2, -⟩ := hpr; unfold maxLen at h2; omega
  obtain ⟨B, hB⟩ : ∃ B, w.heap.size = B := ⟨_, rfl⟩
  have HSZ := Lib.hid hB
  obtain ⟨W0, hW0⟩ : ∃ W0, w.alloc (.cells #[.slice dx dn dc, .slice sx sn sc, .int .i64 nx, .int .i64 kd, .int .i64 id, .slice px pn pc] 48) = W0 := ⟨_, rfl⟩
  have b0 : Below B w W0 := by rw [← hW0, ← hB]; exact below_new _ _
  have r0 : RowC W0 B 48 [.slice dx dn dc, .slice sx sn sc, .int .i64 nx, .int .i64 kd, .int .i64 id, .slice px pn pc] := by rw [← hW0, ← hB]; exact RowC.new w _ _
  have HS : Hid (SnR W0 (.slice sx sn sc) r l) := hsn.below (by rw [hB]; exact b0)
  have HSL := Lib.hid hsl
  have HPL := Lib.hid hpl
  have HB := Lib.hid b0
  have k0 := r0.cell 0 _ rfl
  have k1 := r0.cell 1 _ rfl
  have k5 := r0.cell 5 _ rfl
  clear hsn hpr hsl hpl b0 r0
  go_enter Try.func24, Try.ntmps24
  simp only [stV, stL, slV]
  go_wp2_with fail
  try rw [hW0]
  try rw [hB]
  clear hW0 hB
  go_loopw [3] (fun iv wr => ∃ k : Nat, k ≤ sn ∧ iv = .int .i64 (k : Int) ∧ wr = W0 ∧ Hid (∀ s ∈ l.take k, s.ch.length ≤ 40 ∧ s.tb.length ≤ 80)) (fun iv _ => sn - (intOf iv).toNat)
  case atStart => exact ⟨0, Nat.zero_le _, rfl, rfl, fun s hs => by simp at hs⟩
  case round =>
    obtain ⟨k, hk, rfl, rfl, HP⟩ := hrel
    by_cases hlt : k < sn
    · obtain ⟨s, hs⟩ : ∃ s, l[k]? = some s := ⟨_, List.getElem?_eq_getElem (by rw [← HSL.out]; exact hlt)⟩
      have hsn := take_at hs
      have hsm := List.mem_of_getElem? hs
      obtain ⟨b, off, q, rfl, hb, -, hq, c0, c1, c2⟩ := HS.out.at hs
      obtain ⟨i, ⟨x, n, c⟩, ⟨y, m, d⟩⟩ := q
      simp only [slV] at c0 c1 c2
      obtain rfl : n = s.ch.length := by obtain ⟨a, ca, e, -⟩ := hq.ch; simp only [slV, Value.slice.injEq] at e; omega
      obtain rfl : m = s.tb.length := by obtain ⟨a, ca, e, -⟩ := hq.tb; simp only [slV, Value.slice.injEq] at e; omega
      obtain ⟨n, hn⟩ : ∃ n, s.ch.length = n := ⟨_, rfl⟩
      obtain ⟨m, hm⟩ : ∃ m, s.tb.length = m := ⟨_, rfl⟩
      rw [hn] at c1
      rw [hm] at c2
      have g1 : (k : Int) < (sn : Int) := by omega
      have HW : Hid (wrap64 ((k : Int) + 1) = (k : Int) + 1) := IntWalk.wrap64_in _ (by omega)
      have HLT := Lib.hid hlt
      by_cases q1 : 40 < n
      · have e1 : decide ((n : Int) > 40) = true := by simp; omega
        have g2 : (n : Int) > 40 := by omega
        have HE : Hid (fairP l dn ps = false) := by
          show _ = _
          unfold fairP
          rw [Bool.and_eq_false_iff]
          left
          rw [List.all_eq_false]
          exact ⟨s, hsm, by simp; omega⟩
        clear hs hsn hsm hb hq c0 hn hm hlt HP
        go_wp2_with fail
        refine bodyPost_ret (results_tmp rfl _ _ _) rfl ?_
        exact ⟨by rw [HE.out]; try rfl, by rw [HSZ.out]; exact HB.out⟩
      · have e1 : decide ((n : Int) > 40) = false := by simp; omega
        have g2 : ¬ (n : Int) > 40 := by omega
        by_cases q2 : 80 < m
        · have e2 : decide ((m : Int) > 80) = true := by simp; omega
          have g3 : (m : Int) > 80 := by omega
          have HE : Hid (fairP l dn ps = false) := by
            show _ = _
            unfold fairP
            rw [Bool.and_eq_false_iff]
            left
            rw [List.all_eq_false]
            exact ⟨s, hsm, by simp; omega⟩
          clear hs hsn hsm hb hq c0 hn hm hlt HP
          go_wp2_with fail
          refine bodyPost_ret (results_tmp rfl _ _ _) rfl ?_
          exact ⟨by rw [HE.out]; try rfl, by rw [HSZ.out]; exact HB.out⟩
        · have e2 : decide ((m : Int) > 80) = false := by simp; omega
          have g3 : ¬ (m : Int) > 80 := by omega
          have HP2 : Hid (∀ s ∈ l.take (k + 1), s.ch.length ≤ 40 ∧ s.tb.length ≤ 80) := fun t ht => by
            rw [hsn] at ht
            rcases List.mem_append.1 ht with ht | ht
            · exact HP.out t ht
            · rw [List.mem_singleton.1 ht]; omega
          clear hs hsn hsm hb hq c0 hn hm hlt HP
          go_wp2_with fail
          exact ⟨⟨k + 1, HLT.out, by first | simp | (rw [HW.out]; simp), trivial, HP2⟩, by have := HLT.out; first | (simp [intOf]; omega) | (rw [HW.out]; simp [intOf]; omega)⟩
    · obtain rfl : k = sn := by omega
      have HE : Hid (fairP l dn ps = (decide ((k : Int) ≤ 12) && (decide ((dn : Int) ≤ 80) && decide ((pn : Int) ≤ 80)))) := by
        have := HP.out
        rw [List.take_of_length_le (by rw [← HSL.out]; exact Nat.le_refl _)] at this
        show _ = _
        unfold fairP
        rw [← HSL.out, ← HPL.out, show (l.all fun s => decide (s.ch.length ≤ 40) && decide (s.tb.length ≤ 80)) = true from by
          rw [List.all_eq_true]; intro s hs; have := this s hs; simp; omega, Bool.true_and]
        rw [show decide (k ≤ 12) = decide ((k : Int) ≤ 12) from by congr 1; simp; omega, show decide (dn ≤ 80) = decide ((dn : Int) ≤ 80) from by congr 1; simp; omega, show decide (pn ≤ 80) = decide ((pn : Int) ≤ 80) from by congr 1; simp; omega]
      clear HP
      cases q1 : decide ((k : Int) ≤ 12) with
      | false =>
        rw [q1] at HE
        go_wp2_with fail
        refine bodyPost_ret (results_tmp rfl _ _ _) rfl ?_
        exact ⟨by rw [HE.out]; try rfl, by rw [HSZ.out]; exact HB.out⟩
      | true =>
        rw [q1] at HE
        cases q2 : decide ((dn : Int) ≤ 80) with
        | false =>
          rw [q2] at HE
          go_wp2_with fail
          refine bodyPost_ret (results_tmp rfl _ _ _) rfl ?_
          exact ⟨by rw [HE.out]; try rfl, by rw [HSZ.out]; exact HB.out⟩
        | true =>
          rw [q2] at HE
          cases q3 : decide ((pn : Int) ≤ 80) with
          | false =>
            rw [q3] at HE
            go_wp2_with fail
            refine bodyPost_ret (results_tmp rfl _ _ _) rfl ?_
            exact ⟨by rw [HE.out]; try rfl, by rw [HSZ.out]; exact HB.out⟩
          | true =>
            rw [q3] at HE
            go_wp2_with fail
            refine bodyPost_ret (results_tmp rfl _ _ _) rfl ?_
            exact ⟨by rw [HE.out]; try rfl, by rw [HSZ.out]; exact HB.out⟩
end Go.Proofs.Ytiidfffedoekiaa
