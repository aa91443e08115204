/- Good, the developers' and the document's; inRanges. -/
import Derived.Test.YtajamblkjmafmaaRuPr
namespace Go.Proofs.Ytajamblkjmafmaa
open Go.RowKit
set_option linter.unusedVariables false
set_option linter.unusedSimpArgs false
attribute [-simp] Try.isAgg36 Try.zeroValue36
attribute [-go_sem] loadVar storeVar
attribute [local go_sem] loadVar_openR storeVar_openR zero_rns build_rns0 build_rns

/-- What the four tests of a run say. -/
theorem rnGd_no {n g f c : Int} {t : Bool} (h : ¬ (g < f ∧ f < n ∧ 1 ≤ c ∧ c ≤ n - f)) : (decide (g < f) && decide (f < n) && decide (1 ≤ c) && decide (c ≤ n - f) && t) = false := by
  rw [Bool.eq_false_iff]; intro hh; simp only [Bool.and_eq_true, decide_eq_true_eq] at hh; exact h ⟨hh.1.1.1.1, hh.1.1.1.2, hh.1.1.2, hh.1.2⟩
theorem rnGd_yes {n g f c : Int} {t : Bool} (h1 : g < f) (h2 : f < n) (h3 : 1 ≤ c) (h4 : c ≤ n - f) : (decide (g < f) && decide (f < n) && decide (1 ≤ c) && decide (c ≤ n - f) && t) = t := by simp_all

set_option maxRecDepth 100000 in
set_option maxHeartbeats 8000000 in
/-- **Good**. -/
theorem ru_good {w : World} {v : Value} {l : List (Int × Int)} (h : Prt w v l) (n : Int) (hn : Is64 n) (hlen : l.length ≤ 500000) :
    Calls Try.prog 13 #[v, .int .i64 n] w fun e w' => e = .returned (.bool (rnGood l n)) ∧ Below w.heap.size w w' := by
  have HP := Lib.hid h
  obtain ⟨pa, ca, rfl, -⟩ := h
  obtain ⟨m, hm⟩ : ∃ n, l.length = n := ⟨_, rfl⟩
  rw [hm] at HP hlen ⊢
  have HN := Lib.hid hm
  have H64 := Lib.hid hn
  clear hm hn
  go_enter Try.func13, Try.ntmps13
  go_wp2_with fail
  go_loopw [5, 10] (fun lv iv wr => ∃ (k : Nat) (last : Int), k ≤ m ∧ lv = .int .i64 last ∧ iv = .int .i64 (k : Int) ∧ Hid (rnGood l n = rnGd n last (l.drop k)) ∧ Hid (-1 ≤ last ∧ (last ≤ n ∨ last = -1)) ∧ Hid (Below w.heap.size w wr)) (fun _ iv _ => m - (intOf iv).toNat)
  case atStart => exact ⟨0, -1, Nat.zero_le _, rfl, rfl, rfl, ⟨by decide, .inr rfl⟩, Below.refl _ _⟩
  case round =>
    obtain ⟨k, last, hk, rfl, rfl, HR, HL, HB⟩ := hrel
    by_cases hlt : k < m
    · obtain ⟨p, hp⟩ : ∃ p, l[k]? = some p := ⟨_, List.getElem?_eq_getElem (by rw [HN.out]; exact hlt)⟩
      obtain ⟨bb, off, rfl, hbb, c1, c2⟩ := (HP.out.below HB.out).at hp
      have hst := rnGd_at hp n last
      obtain ⟨f, c⟩ := p
      simp only at c1 c2 hst
      have hp64 := (HP.out.is _ (List.mem_of_getElem? hp))
      simp only [Is64] at hp64
      rw [← HR.out] at hst
      have HST := Lib.hid hst
      have g1 : (k : Int) < (m : Int) := by omega
      have HW : Hid (wrap64 ((k : Int) + 1) = (k : Int) + 1) := IntWalk.wrap64_in _ (by omega)
      have LD := load_rns c1 c2
      have ST := new_rns wr f c
      obtain ⟨W2, hW2⟩ : ∃ W2, wr.alloc (.cells #[.int .i64 f, .int .i64 c] 36) = W2 := ⟨_, rfl⟩
      rw [hW2] at ST
      have hb2 : Below wr.heap.size wr W2 := by rw [← hW2]; exact below_new wr _
      have hR : RowC W2 wr.heap.size 36 (prL f c) := by rw [← hW2]; exact RowC.new wr _ _
      have d1 : W2.cell? ⟨wr.heap.size, 0, none⟩ = some (.int .i64 f) := hR.cell 0 _ rfl
      have d2 : W2.cell? ⟨wr.heap.size, 1, none⟩ = some (.int .i64 c) := hR.cell 1 _ rfl
      have HB2 : Hid (Below w.heap.size w W2) := HB.out.trans (hb2.mono HB.out.size)
      have HLT := Lib.hid hlt
      clear hp hbb c1 c2 hW2 HB hlt hb2 hst hR
      by_cases q1 : f ≤ last
      · have e1 : decide (f ≤ last) = true := by simpa using q1
        have HG : Hid (rnGood l n = false) := by show _ = _; rw [HST.out]; exact rnGd_no (by omega)
        go_wp2_with fail
        go_ret
        exact ⟨by rw [HG.out]; rfl, HB2.out⟩
      · have e1 : decide (f ≤ last) = false := by simpa using q1
        by_cases q2 : n ≤ f
        · have e2 : decide (f ≥ n) = true := by simpa using q2
          have HG : Hid (rnGood l n = false) := by show _ = _; rw [HST.out]; exact rnGd_no (by omega)
          go_wp2_with fail
          go_ret
          exact ⟨by rw [HG.out]; rfl, HB2.out⟩
        · have e2 : decide (f ≥ n) = false := by simpa using q2
          by_cases q3 : c < 1
          · have e3 : decide (c < 1) = true := by simpa using q3
            have HG : Hid (rnGood l n = false) := by show _ = _; rw [HST.out]; exact rnGd_no (by omega)
            go_wp2_with fail
            go_ret
            exact ⟨by rw [HG.out]; rfl, HB2.out⟩
          · have e3 : decide (c < 1) = false := by simpa using q3
            have HWN : Hid (wrap64 (n - f) = n - f) := IntWalk.wrap64_in _ (by have := HL.out; have := H64.out; unfold Is64 at this; omega)
            by_cases q4 : n - f < c
            · have e4 : decide (c > wrap64 (n - f)) = true := by rw [HWN.out]; simp; omega
              have HG : Hid (rnGood l n = false) := by show _ = _; rw [HST.out]; exact rnGd_no (by omega)
              go_wp2_with fail
              go_ret
              exact ⟨by rw [HG.out]; rfl, HB2.out⟩
            · have e4 : decide (c > wrap64 (n - f)) = false := by rw [HWN.out]; simp; omega
              have HG : Hid (rnGood l n = rnGd n (f + c) (l.drop (k + 1))) := by show _ = _; rw [HST.out]; exact rnGd_yes (by omega) (by omega) (by omega) (by omega)
              have HWS : Hid (wrap64 (f + c) = f + c) := IntWalk.wrap64_in _ (by have := HL.out; have := H64.out; unfold Is64 at this; omega)
              have HL2 : Hid (-1 ≤ f + c ∧ (f + c ≤ n ∨ f + c = -1)) := by have := HL.out; exact ⟨by omega, .inl (by omega)⟩
              go_wp2_with fail
              exact ⟨⟨k + 1, f + c, HLT.out, by first | rfl | (rw [HWS.out]), by simp, HG, HL2, HB2⟩, by have := HLT.out; simp [intOf]; omega⟩
    · obtain rfl : k = m := by omega
      have HG : Hid (rnGood l n = true) := by
        show _ = _
        rw [HR.out, List.drop_of_length_le (by rw [HN.out]; exact Nat.le_refl _)]
        rfl
      go_wp2_with fail
      go_ret
      exact ⟨by rw [HG.out]; rfl, HB.out⟩

set_option maxRecDepth 100000 in
set_option maxHeartbeats 4000000 in
/-- **inRanges**. -/
theorem ru_ok (p : Int × Int) (w : World) : Calls Try.prog 16 #[.agg #[.int .i64 p.1, .int .i64 p.2]] w fun e w' => e = .returned (.bool (rnOk p)) ∧ Below w.heap.size w w' := by
  obtain ⟨f, c⟩ := p
  simp only
  obtain ⟨W2, hW2⟩ : ∃ W2, w.alloc (.cells #[.int .i64 f, .int .i64 c] 36) = W2 := ⟨_, rfl⟩
  have HB : Hid (Below w.heap.size w W2) := by show Below _ _ _; rw [← hW2]; exact below_new w _
  have hR : RowC W2 w.heap.size 36 (prL f c) := by rw [← hW2]; exact RowC.new w _ _
  have d1 : W2.cell? ⟨w.heap.size, 0, none⟩ = some (.int .i64 f) := hR.cell 0 _ rfl
  have d2 : W2.cell? ⟨w.heap.size, 1, none⟩ = some (.int .i64 c) := hR.cell 1 _ rfl
  obtain ⟨t, ht⟩ : ∃ t, rnOk (f, c) = t := ⟨_, rfl⟩
  rw [ht]
  have HT := Lib.hid ht
  unfold rnOk at HT
  clear hR ht
  by_cases q1 : 0 ≤ f
  · have e1 : decide (f ≥ 0) = true := by simpa using q1
    by_cases q2 : f ≤ 65535
    · have e2 : decide (f ≤ 65535) = true := by simpa using q2
      by_cases q3 : 1 ≤ c
      · have e3 : decide (c ≥ 1) = true := by simpa using q3
        by_cases q4 : c ≤ 4096
        · have e4 : decide (c ≤ 4096) = true := by simpa using q4
          obtain rfl : true = t := by have := HT.out; simpa [q1, q2, q3, q4] using this
          go_enter Try.func16, Try.ntmps16
          go_wp2_with fail
          go_ret
          exact ⟨rfl, HB.out⟩
        · have e4 : decide (c ≤ 4096) = false := by simpa using q4
          obtain rfl : false = t := by have := HT.out; simpa [q1, q2, q3, q4] using this
          go_enter Try.func16, Try.ntmps16
          go_wp2_with fail
          go_ret
          exact ⟨rfl, HB.out⟩
      · have e3 : decide (c ≥ 1) = false := by simpa using q3
        obtain rfl : false = t := by have := HT.out; simpa [q1, q2, q3] using this
        go_enter Try.func16, Try.ntmps16
        go_wp2_with fail
        go_ret
        exact ⟨rfl, HB.out⟩
    · have e2 : decide (f ≤ 65535) = false := by simpa using q2
      obtain rfl : false = t := by have := HT.out; simpa [q1, q2] using this
      go_enter Try.func16, Try.ntmps16
      go_wp2_with fail
      go_ret
      exact ⟨rfl, HB.out⟩
  · have e1 : decide (f ≥ 0) = false := by simpa using q1
    obtain rfl : false = t := by have := HT.out; simpa [q1] using this
    go_enter Try.func16, Try.ntmps16
    go_wp2_with fail
    go_ret
    exact ⟨rfl, HB.out⟩
end Go.Proofs.Ytajamblkjmafmaa
