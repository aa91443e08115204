/- The document's Good of runs. -/
import Derived.Test.YtajamblkjmafmaaRuGd
namespace Go.Proofs.Ytajamblkjmafmaa
open Go.RowKit
set_option linter.unusedVariables false
set_option linter.unusedSimpArgs false
attribute [-simp] Try.isAgg36 Try.zeroValue36
attribute [-go_sem] loadVar storeVar
attribute [local go_sem] loadVar_openR storeVar_openR zero_rns build_rns0 build_rns

set_option maxRecDepth 100000 in
set_option maxHeartbeats 16000000 in
/-- **Good**. -/
theorem rf15_good {w : World} {v : Value} {l : List (Int × Int)} (h : Prt w v l) (n : Int) (hn : Is64 n) (hlen : l.length ≤ 500000) :
    Calls Try.prog 14 #[v, .int .i64 n] w fun e w' => e = .returned (.bool (rnGood l n)) ∧ Below w.heap.size w w' := by
  have HP := Lib.hid h
  obtain ⟨pa, ca, rfl, -⟩ := h
  obtain ⟨m, hm⟩ : ∃ n, l.length = n := ⟨_, rfl⟩
  rw [hm] at HP hlen ⊢
  have HN := Lib.hid hm
  have H64 := Lib.hid hn
  clear hm hn
  go_enter Try.func14, Try.ntmps14
  go_wp2_with fail
  go_loopw [5, 6] (fun lv iv wr => ∃ (k : Nat) (last : Int), k ≤ m ∧ lv = .int .i64 last ∧ iv = .int .i64 (k : Int) ∧ Hid (rnGood l n = rnGd n last (l.drop k)) ∧ Hid (-1 ≤ last ∧ (k = 0 → last = -1)) ∧ Hid (Below w.heap.size w wr)) (fun _ iv _ => m - (intOf iv).toNat)
  case atStart => exact ⟨0, -1, Nat.zero_le _, rfl, rfl, rfl, ⟨by decide, fun _ => rfl⟩, Below.refl _ _⟩
  case round =>
    obtain ⟨k, last, hk, rfl, rfl, HR, HL, HB⟩ := hrel
    by_cases hlt : k < m
    · obtain ⟨p, hp⟩ : ∃ p, l[k]? = some p := ⟨_, List.getElem?_eq_getElem (by rw [HN.out]; exact hlt)⟩
      obtain ⟨bb, off, rfl, hbb, c1, c2⟩ := (HP.out.below HB.out).at hp
      have hst := rnGd_at hp n last
      obtain ⟨f, c⟩ := p
      simp only at c1 c2 hst
      have hp64 := (HP.out.is _ (List.mem_of_getElem? hp))
      simp only [Is64] at hp64
      rw [← HR.out] at hst
      have HST := Lib.hid hst
      have g1 : (k : Int) < (m : Int) := by omega
      have HW : Hid (wrap64 ((k : Int) + 1) = (k : Int) + 1) := IntWalk.wrap64_in _ (by omega)
      replace c1 : ∀ y : Ext wr, y.1.cell? ⟨bb, off + k * 2, none⟩ = some (.int .i64 f) := fun y => (y.cell hbb).trans c1
      replace c2 : ∀ y : Ext wr, y.1.cell? ⟨bb, off + k * 2 + 1, none⟩ = some (.int .i64 c) := fun y => (y.cell hbb).trans c2
      have HLT := Lib.hid hlt
      have hl1 := HL.out.1
      clear hp hbb hlt hst HR
      by_cases h0 : 0 < k
      · obtain ⟨q, rfl⟩ : ∃ q, k = q + 1 := ⟨k - 1, by omega⟩
        clear h0 HL
        by_cases q1 : c < 1
        · have e1 : decide (c < 1) = true := by simpa using q1
          have HG : Hid (rnGood l n = false) := by show _ = _; rw [HST.out]; exact rnGd_no (by omega)
          go_wp2_with fail
          refine region_ext (by kernel_rfl) (by kernel_rfl) ?_
          repeat (go_big_quiet_step (fail))
          try (with_reducible refine wpQuiet_nil ?_)
          rintro ⟨z, hz⟩
          simp only
          have HBZ : Hid (Below w.heap.size w z) := HB.out.trans (hz.mono HB.out.size)
          clear c1 c2 hz
          go_wp2_with fail
          go_ret
          exact ⟨by rw [HG.out]; rfl, HBZ.out⟩
        · have e1 : decide (c < 1) = false := by simpa using q1
          by_cases q2 : f < 0
          · have e2 : decide (f < 0) = true := by simpa using q2
            have HG : Hid (rnGood l n = false) := by show _ = _; rw [HST.out]; exact rnGd_no (by omega)
            go_wp2_with fail
            refine region_ext (by kernel_rfl) (by kernel_rfl) ?_
            repeat (go_big_quiet_step (fail))
            try (with_reducible refine wpQuiet_nil ?_)
            rintro ⟨z, hz⟩
            simp only
            have HBZ : Hid (Below w.heap.size w z) := HB.out.trans (hz.mono HB.out.size)
            clear c1 c2 hz
            go_wp2_with fail
            go_ret
            exact ⟨by rw [HG.out]; rfl, HBZ.out⟩
          · have e2 : decide (f < 0) = false := by simpa using q2
            by_cases q3 : n ≤ f
            · have e3 : decide (f ≥ n) = true := by simpa using q3
              have HG : Hid (rnGood l n = false) := by show _ = _; rw [HST.out]; exact rnGd_no (by omega)
              go_wp2_with fail
              refine region_ext (by kernel_rfl) (by kernel_rfl) ?_
              repeat (go_big_quiet_step (fail))
              try (with_reducible refine wpQuiet_nil ?_)
              rintro ⟨z, hz⟩
              simp only
              have HBZ : Hid (Below w.heap.size w z) := HB.out.trans (hz.mono HB.out.size)
              clear c1 c2 hz
              go_wp2_with fail
              go_ret
              exact ⟨by rw [HG.out]; rfl, HBZ.out⟩
            · have e3 : decide (f ≥ n) = false := by simpa using q3
              have HWN : Hid (wrap64 (n - f) = n - f) := IntWalk.wrap64_in _ (by have := H64.out; unfold Is64 at this; omega)
              by_cases q4 : n - f < c
              · have e4 : decide (c > wrap64 (n - f)) = true := by rw [HWN.out]; simp; omega
                have HG : Hid (rnGood l n = false) := by show _ = _; rw [HST.out]; exact rnGd_no (by omega)
                go_wp2_with fail
                refine region_ext (by kernel_rfl) (by kernel_rfl) ?_
                repeat (go_big_quiet_step (fail))
                try (with_reducible refine wpQuiet_nil ?_)
                rintro ⟨z, hz⟩
                simp only
                have HBZ : Hid (Below w.heap.size w z) := HB.out.trans (hz.mono HB.out.size)
                clear c1 c2 hz
                go_wp2_with fail
                go_ret
                exact ⟨by rw [HG.out]; rfl, HBZ.out⟩
              · have e4 : decide (c > wrap64 (n - f)) = false := by rw [HWN.out]; simp; omega
                by_cases q5 : f ≤ last
                · have e5 : decide (f ≤ last) = true := by simpa using q5
                  have HG : Hid (rnGood l n = false) := by show _ = _; rw [HST.out]; exact rnGd_no (by omega)
                  go_wp2_with fail
                  refine region_ext (by kernel_rfl) (by kernel_rfl) ?_
                  repeat (go_big_quiet_step (fail))
                  try (with_reducible refine wpQuiet_nil ?_)
                  rintro ⟨z, hz⟩
                  simp only
                  have HBZ : Hid (Below w.heap.size w z) := HB.out.trans (hz.mono HB.out.size)
                  clear c1 c2 hz
                  go_wp2_with fail
                  go_ret
                  exact ⟨by rw [HG.out]; rfl, HBZ.out⟩
                · have e5 : decide (f ≤ last) = false := by simpa using q5
                  have HG : Hid (rnGood l n = rnGd n (f + c) (l.drop ((q + 1) + 1))) := by show _ = _; rw [HST.out]; exact rnGd_yes (by omega) (by omega) (by omega) (by omega)
                  have HWS : Hid (wrap64 (f + c) = f + c) := IntWalk.wrap64_in _ (by have := H64.out; unfold Is64 at this; omega)
                  have HL2 : Hid (-1 ≤ f + c ∧ ((q + 1) + 1 = 0 → f + c = -1)) := ⟨by omega, fun h => by omega⟩
                  go_wp2_with fail
                  refine region_ext (by kernel_rfl) (by kernel_rfl) ?_
                  repeat (go_big_quiet_step (fail))
                  try (with_reducible refine wpQuiet_nil ?_)
                  rintro ⟨z, hz⟩
                  simp only
                  have HBZ : Hid (Below w.heap.size w z) := HB.out.trans (hz.mono HB.out.size)
                  have c3 : ∀ y : Ext z, y.1.cell? ⟨bb, off + (q + 1) * 2, none⟩ = some (.int .i64 f) := fun y => c1 ⟨y.1, hz.trans (y.2.mono hz.size)⟩
                  have c4 : ∀ y : Ext z, y.1.cell? ⟨bb, off + (q + 1) * 2 + 1, none⟩ = some (.int .i64 c) := fun y => c2 ⟨y.1, hz.trans (y.2.mono hz.size)⟩
                  clear c1 c2 hz
                  go_wp2_with fail
                  refine region_ext (by kernel_rfl) (by kernel_rfl) ?_
                  repeat (go_big_quiet_step (fail))
                  try (with_reducible refine wpQuiet_nil ?_)
                  rintro ⟨y, hy⟩
                  simp only
                  have HBY : Hid (Below w.heap.size w y) := HBZ.out.trans (hy.mono HBZ.out.size)
                  clear c3 c4 hy
                  go_wp2_with fail
                  exact ⟨⟨(q + 1) + 1, f + c, HLT.out, by rw [HWS.out], by simp, HG, HL2, HBY⟩, by have := HLT.out; simp [intOf]; omega⟩
      · obtain rfl : k = 0 := by omega
        obtain rfl : last = -1 := HL.out.2 rfl
        rw [Nat.zero_mul, Nat.add_zero] at c1 c2
        clear h0 HL hl1
        by_cases q1 : c < 1
        · have e1 : decide (c < 1) = true := by simpa using q1
          have HG : Hid (rnGood l n = false) := by show _ = _; rw [HST.out]; exact rnGd_no (by omega)
          go_wp2_with fail
          refine region_ext (by kernel_rfl) (by kernel_rfl) ?_
          repeat (go_big_quiet_step (fail))
          try (with_reducible refine wpQuiet_nil ?_)
          rintro ⟨z, hz⟩
          simp only
          have HBZ : Hid (Below w.heap.size w z) := HB.out.trans (hz.mono HB.out.size)
          clear c1 c2 hz
          go_wp2_with fail
          go_ret
          exact ⟨by rw [HG.out]; rfl, HBZ.out⟩
        · have e1 : decide (c < 1) = false := by simpa using q1
          by_cases q2 : f < 0
          · have e2 : decide (f < 0) = true := by simpa using q2
            have HG : Hid (rnGood l n = false) := by show _ = _; rw [HST.out]; exact rnGd_no (by omega)
            go_wp2_with fail
            refine region_ext (by kernel_rfl) (by kernel_rfl) ?_
            repeat (go_big_quiet_step (fail))
            try (with_reducible refine wpQuiet_nil ?_)
            rintro ⟨z, hz⟩
            simp only
            have HBZ : Hid (Below w.heap.size w z) := HB.out.trans (hz.mono HB.out.size)
            clear c1 c2 hz
            go_wp2_with fail
            go_ret
            exact ⟨by rw [HG.out]; rfl, HBZ.out⟩
          · have e2 : decide (f < 0) = false := by simpa using q2
            by_cases q3 : n ≤ f
            · have e3 : decide (f ≥ n) = true := by simpa using q3
              have HG : Hid (rnGood l n = false) := by show _ = _; rw [HST.out]; exact rnGd_no (by omega)
              go_wp2_with fail
              refine region_ext (by kernel_rfl) (by kernel_rfl) ?_
              repeat (go_big_quiet_step (fail))
              try (with_reducible refine wpQuiet_nil ?_)
              rintro ⟨z, hz⟩
              simp only
              have HBZ : Hid (Below w.heap.size w z) := HB.out.trans (hz.mono HB.out.size)
              clear c1 c2 hz
              go_wp2_with fail
              go_ret
              exact ⟨by rw [HG.out]; rfl, HBZ.out⟩
            · have e3 : decide (f ≥ n) = false := by simpa using q3
              have HWN : Hid (wrap64 (n - f) = n - f) := IntWalk.wrap64_in _ (by have := H64.out; unfold Is64 at this; omega)
              by_cases q4 : n - f < c
              · have e4 : decide (c > wrap64 (n - f)) = true := by rw [HWN.out]; simp; omega
                have HG : Hid (rnGood l n = false) := by show _ = _; rw [HST.out]; exact rnGd_no (by omega)
                go_wp2_with fail
                refine region_ext (by kernel_rfl) (by kernel_rfl) ?_
                repeat (go_big_quiet_step (fail))
                try (with_reducible refine wpQuiet_nil ?_)
                rintro ⟨z, hz⟩
                simp only
                have HBZ : Hid (Below w.heap.size w z) := HB.out.trans (hz.mono HB.out.size)
                clear c1 c2 hz
                go_wp2_with fail
                go_ret
                exact ⟨by rw [HG.out]; rfl, HBZ.out⟩
              · have e4 : decide (c > wrap64 (n - f)) = false := by rw [HWN.out]; simp; omega
                have HG : Hid (rnGood l n = rnGd n (f + c) (l.drop (0 + 1))) := by show _ = _; rw [HST.out]; exact rnGd_yes (by omega) (by omega) (by omega) (by omega)
                have HWS : Hid (wrap64 (f + c) = f + c) := IntWalk.wrap64_in _ (by have := H64.out; unfold Is64 at this; omega)
                have HL2 : Hid (-1 ≤ f + c ∧ (0 + 1 = 0 → f + c = -1)) := ⟨by omega, fun h => by omega⟩
                go_wp2_with fail
                refine region_ext (by kernel_rfl) (by kernel_rfl) ?_
                repeat (go_big_quiet_step (fail))
                try (with_reducible refine wpQuiet_nil ?_)
                rintro ⟨z, hz⟩
                simp only
                have HBZ : Hid (Below w.heap.size w z) := HB.out.trans (hz.mono HB.out.size)
                have c3 : ∀ y : Ext z, y.1.cell? ⟨bb, off, none⟩ = some (.int .i64 f) := fun y => c1 ⟨y.1, hz.trans (y.2.mono hz.size)⟩
                have c4 : ∀ y : Ext z, y.1.cell? ⟨bb, off + 1, none⟩ = some (.int .i64 c) := fun y => c2 ⟨y.1, hz.trans (y.2.mono hz.size)⟩
                clear c1 c2 hz
                go_wp2_with fail
                refine region_ext (by kernel_rfl) (by kernel_rfl) ?_
                repeat (go_big_quiet_step (fail))
                try (with_reducible refine wpQuiet_nil ?_)
                rintro ⟨y, hy⟩
                simp only
                have HBY : Hid (Below w.heap.size w y) := HBZ.out.trans (hy.mono HBZ.out.size)
                clear c3 c4 hy
                go_wp2_with fail
                exact ⟨⟨0 + 1, f + c, HLT.out, by rw [HWS.out], by simp, HG, HL2, HBY⟩, by have := HLT.out; simp [intOf]; omega⟩
    · obtain rfl : k = m := by omega
      have HG : Hid (rnGood l n = true) := by
        show _ = _
        rw [HR.out, List.drop_of_length_le (by rw [HN.out]; exact Nat.le_refl _)]
        rfl
      go_wp2_with fail
      go_ret
      exact ⟨by rw [HG.out]; rfl, HB.out⟩
end Go.Proofs.Ytajamblkjmafmaa
