/- The developers' Good. -/
import Derived.Test.YtiidfffedoekiaaTbMrg
import Derived.Test.YtiidfffedoekiaaTbSrt
namespace Go.Proofs.Ytiidfffedoekiaa
open Go.RowKit
set_option linter.unusedVariables false
attribute [-simp] Try.isAgg42 Try.zeroValue42
attribute [-go_sem] loadVar storeVar
attribute [local go_sem] loadVar_openP storeVar_openP zero_prs build_prs0 build_prs

set_option maxRecDepth 100000 in
set_option maxHeartbeats 8000000 in
/-- **Good**. -/
theorem tb_good {w : World} {v : Value} {l : List (Int × Int)} (h : Prt w v l) (bl ar : Int) (hlen : l.length ≤ 800000) :
    Calls Try.prog 56 #[v, .int .i64 bl, .int .i64 ar] w fun e w' => e = .returned (.bool (tGood l bl ar)) ∧ Below w.heap.size w w' := by
  have HP := Lib.hid h
  obtain ⟨pa, ca, rfl, -⟩ := h
  obtain ⟨n, hn⟩ : ∃ n, l.length = n := ⟨_, rfl⟩
  rw [hn] at HP hlen ⊢
  have HN := Lib.hid hn
  clear hn
  obtain ⟨i0, hi, hz0, hz1, hz2⟩ := info_parts info_intT
  go_enter Try.func56, Try.ntmps56
  go_wp2_with (at_make; refine wpList_make_own _ rfl _ _ 35 rfl w.heap.size 3 i0 (.int .i64 0) 1 Try.underlying35 hi hz0 hz1 .i64 .i64 _ n rfl rfl rfl (by rw [hz2]; omega) (by unfold maxLen; omega) (by simp) ?_; intro w1 hown1 hgrow1)
  have HI0 : Hid (InO w.heap.size w1 (.slice (some ⟨w.heap.size, 0, none⟩) 0 n) []) := hown1
  have HB0 : Hid (Below w.heap.size w w1) := (Below.refl _ w).grown hgrow1 (Nat.le_refl _) (fun k e => by cases e)
  clear hown1 hgrow1 hi hz0 hz1 hz2
  go_loopw [7, 8, 16] (fun lv av iv wr => ∃ (k : Nat) (last : Int), k ≤ n ∧ lv = .int .i64 last ∧ iv = .int .i64 (k : Int) ∧ Hid (tRise bl ar (-1) l = tRise bl ar last (l.drop k)) ∧ Hid (InO w.heap.size wr av ((l.take k).map (·.2)) ∧ av ≠ .slice none 0 0) ∧ Hid (Below w.heap.size w wr)) (fun _ _ iv _ => n - (intOf iv).toNat)
  case atStart => exact ⟨0, -1, Nat.zero_le _, rfl, rfl, rfl, ⟨HI0.out, by simp⟩, HB0⟩
  case round =>
    obtain ⟨k, last, hk, rfl, rfl, HR, HA, HB⟩ := hrel
    by_cases hlt : k < n
    · obtain ⟨p, hp⟩ : ∃ p, l[k]? = some p := ⟨_, List.getElem?_eq_getElem (by rw [HN.out]; exact hlt)⟩
      have hsn : l.take (k + 1) = l.take k ++ [p] := by rw [List.take_add_one, hp]; rfl
      obtain ⟨bb, off, rfl, hbb, c1, c2⟩ := (HP.out.below HB.out).at hp
      obtain ⟨x0, y0⟩ := p
      simp only at c1 c2
      have hst := tRise_step hp bl ar last
      rw [← HR.out] at hst
      have HST := Lib.hid hst
      have HSN := Lib.hid hsn
      have g1 : (k : Int) < (n : Int) := by omega
      have HW : Hid (wrap64 ((k : Int) + 1) = (k : Int) + 1) := IntWalk.wrap64_in _ (by omega)
      have LD := load_prs c1 c2
      have ST := new_prs wr x0 y0
      obtain ⟨W2, hW2⟩ : ∃ W2, wr.alloc (.cells #[.int .i64 x0, .int .i64 y0] 42) = W2 := ⟨_, rfl⟩
      rw [hW2] at ST
      have hb2 : Below wr.heap.size wr W2 := by rw [← hW2]; exact below_new wr _
      have hR : RowC W2 wr.heap.size 42 (prL x0 y0) := by rw [← hW2]; exact RowC.new wr _ _
      have d1 : W2.cell? ⟨wr.heap.size, 0, none⟩ = some (.int .i64 x0) := hR.cell 0 _ rfl
      have d2 : W2.cell? ⟨wr.heap.size, 1, none⟩ = some (.int .i64 y0) := hR.cell 1 _ rfl
      have HB2 : Hid (Below w.heap.size w W2) := HB.out.trans (hb2.mono HB.out.size)
      have hA2 := HA.out.1.below hb2
      obtain ⟨f2, W4, hr, h1, h2, h3⟩ := in_append hA2 HB2.out.size y0 (by rw [List.length_map, List.length_take]; omega)
      have HAP := Lib.hid hr
      have HA4 : Hid (InO w.heap.size W4 f2 ((l.take (k + 1)).map (·.2)) ∧ f2 ≠ .slice none 0 0) := ⟨by rw [HSN.out, List.map_append]; exact h1, h3⟩
      have HB4 : Hid (Below w.heap.size w W4) := HB2.out.grown h2 HB2.out.size (fun j e => (hA2.base j e).1)
      obtain ⟨W3, hW3⟩ : ∃ W3, W2.alloc (.cells #[.int .i64 y0] 3) = W3 := ⟨_, rfl⟩
      have SB : Hid ((Instr.buildSlice 35 1 #[(0, .int .i64 y0)]).run Try.prog W2 = .ok (.slice (some ⟨W2.heap.size, 0, none⟩) 1 1) W3) := by show _ = _; rw [← hW3]; exact slice_int1 W2 y0
      rw [hW3] at HAP
      have HLT := Lib.hid hlt
      clear hp hbb c1 c2 hW2 HB hlt hb2 hsn hst hR hA2 hr h1 h2 h3 hW3 HA HR HSN
      by_cases q1 : x0 ≤ last
      · have e1 : decide (x0 ≤ last) = true := by simpa using q1
        have HG : Hid (tGood l bl ar = false) := by
          show _ = _
          unfold tGood
          rw [HST.out, show decide (last < x0) = false by simp; omega]
          simp
        go_wp2_with fail
        go_ret
        exact ⟨by rw [HG.out]; rfl, HB2.out⟩
      · have e1 : decide (x0 ≤ last) = false := by simpa using q1
        by_cases q2 : bl ≤ x0
        · have e2 : decide (x0 ≥ bl) = true := by simpa using q2
          have HG : Hid (tGood l bl ar = false) := by
            show _ = _
            unfold tGood
            rw [HST.out, show decide (x0 < bl) = false by simp; omega]
            simp
          go_wp2_with fail
          go_ret
          exact ⟨by rw [HG.out]; rfl, HB2.out⟩
        · have e2 : decide (x0 ≥ bl) = false := by simpa using q2
          by_cases q3 : y0 < 0
          · have e3 : decide (y0 < 0) = true := by simpa using q3
            have HG : Hid (tGood l bl ar = false) := by
              show _ = _
              unfold tGood
              rw [HST.out, show decide (0 ≤ y0) = false by simp; omega]
              simp
            go_wp2_with fail
            go_ret
            exact ⟨by rw [HG.out]; rfl, HB2.out⟩
          · have e3 : decide (y0 < 0) = false := by simpa using q3
            by_cases q4 : ar ≤ y0
            · have e4 : decide (y0 ≥ ar) = true := by simpa using q4
              have HG : Hid (tGood l bl ar = false) := by
                show _ = _
                unfold tGood
                rw [HST.out, show decide (y0 < ar) = false by simp; omega]
                simp
              go_wp2_with fail
              go_ret
              exact ⟨by rw [HG.out]; rfl, HB2.out⟩
            · have e4 : decide (y0 ≥ ar) = false := by simpa using q4
              have HG : Hid (tRise bl ar (-1) l = tRise bl ar x0 (l.drop (k + 1))) := by
                show _ = _
                rw [HST.out, show decide (last < x0) = true by simp; omega, show decide (x0 < bl) = true by simp; omega, show decide (0 ≤ y0) = true by simp; omega, show decide (y0 < ar) = true by simp; omega]
                rfl
              go_wp2_with (first | (refine gate_build ?_; refine wpList_build_run 35 1 #[(0, .tmp 45)] rfl rfl [(0, .int .i64 y0)] _ rfl SB.out ?_) | (at_builtin; refine wpList_append_run (.tmp 43) (.tmp 46) 35 rfl rfl _ _ _ rfl rfl (HAP.out _) ?_))
              exact ⟨⟨k + 1, x0, HLT.out, rfl, by simp, HG, HA4, HB4⟩, by simp [intOf]; omega⟩
    · obtain rfl : k = n := by omega
      rw [List.take_of_length_le (by rw [HN.out]; exact Nat.le_refl _)] at HA
      rw [List.drop_of_length_le (by rw [HN.out]; exact Nat.le_refl _)] at HR
      obtain ⟨zs, hzs⟩ : ∃ zs, l.map (·.2) = zs := ⟨_, rfl⟩
      have hzl : zs.length = k := by rw [← hzs, List.length_map]; exact HN.out
      have HG : Hid (tGood l bl ar = decide zs.Nodup) := by
        show _ = _
        unfold tGood
        rw [HR.out, hzs]
        rfl
      rw [hzs] at HA
      have HZL := Lib.hid hzl
      have HS := Lib.hid (tb_sort HA.out.1 HA.out.2 (by omega))
      clear hzs hzl HR hlt
      go_wp2_with fail
      go_at_call 42
      refine HS.out.mono ?_
      rintro e y ⟨rfl, hO, hG⟩
      have HB1 : Hid (Below w.heap.size w y) := HB.out.grown hG HB.out.size (fun j e => (HA.out.1.base j e).1)
      have hO2 : InO w.heap.size y u8 (sorted zs) := by
        show y.ownsRow _ _ _ _ _ _
        rw [sorted_len]
        exact hO
      have HBA := hO2.base
      have hc := tb_compact hO2 HA.out.2
      obtain ⟨m, hm⟩ : ∃ m, (Lib.compact (sorted zs)).length = m := ⟨_, rfl⟩
      rw [hm] at hc
      have HM : Hid (tGood l bl ar = ((m : Int) == (k : Int))) := by
        show _ = _
        rw [HG.out]
        have hh := sorted_compact zs
        rw [hm, HZL.out] at hh
        by_cases e : m = k
        · rw [decide_eq_true (hh.1 e), e]; simp
        · rw [decide_eq_false (fun x => e (hh.2 x))]
          symm
          simp
          omega
      have HC := Lib.hid hc
      clear hO hG hO2 HS HA HB hc hm HG
      go_wp2_with fail
      go_at_call 43
      refine HC.out.mono ?_
      rintro e z ⟨⟨a2, c2, rfl⟩, hG⟩
      have HB2 : Hid (Below w.heap.size w z) := HB1.out.grown hG HB1.out.size (fun j e => (HBA j e).1)
      clear hG HC HB1 HBA
      go_wp2_with fail
      go_ret
      exact ⟨by rw [HM.out]; rfl, HB2.out⟩
end Go.Proofs.Ytiidfffedoekiaa
