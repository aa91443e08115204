/- The document's Of. -/
import Derived.Test.YtajamblkjmafmaaRuPr
namespace Go.Proofs.Ytajamblkjmafmaa
open Go.RowKit
set_option linter.unusedVariables false
set_option linter.unusedSimpArgs false
attribute [-simp] Try.isAgg36 Try.zeroValue36
attribute [-go_sem] loadVar storeVar
attribute [local go_sem] loadVar_openR storeVar_openR zero_rns build_rns0 build_rns

set_option maxRecDepth 100000 in
set_option maxHeartbeats 8000000 in
/-- **Of**. -/
theorem rf15_of {w : World} {v : Value} {l : List Int} (h : Sl .i64 w v l) (h64 : ∀ x ∈ l, Is64 x) (hlen : l.length ≤ 500000) :
    Calls Try.prog 9 #[v] w fun e w' => ∃ u, e = .returned u ∧ RnO w.heap.size w' u (rnOf l) ∧ Below w.heap.size w w' := by
  obtain ⟨a, ca, rfl, ha1, ha2, hla, -⟩ := h
  obtain ⟨n, hn⟩ : ∃ n, l.length = n := ⟨_, rfl⟩
  have HN := Lib.hid hn
  rw [hn] at ha1 hlen ⊢
  have HLA := Lib.hid hla
  have H64 := Lib.hid h64
  have HLN := Lib.hid hlen
  clear hla hn ha1 ha2 h64
  go_enter Try.func9, Try.ntmps9
  go_wp2_with fail
  go_loopw [3, 4] (fun fv iv wr => ∃ k : Nat, k ≤ n ∧ iv = .int .i64 (k : Int) ∧ Hid (RnO w.heap.size wr fv (rnOf (l.take k))) ∧ Hid (Below w.heap.size w wr)) (fun _ iv _ => n - (intOf iv).toNat)
  case atStart => exact ⟨0, Nat.zero_le _, rfl, RnO.nil _ _, Below.refl _ _⟩
  case round =>
    obtain ⟨k, hk, rfl, HF, HB⟩ := hrel
    by_cases hlt : k < n
    · have g1 : (k : Int) < (n : Int) := by omega
      have HW : Hid (wrap64 ((k : Int) + 1) = (k : Int) + 1) := IntWalk.wrap64_in _ (by omega)
      obtain ⟨x, hx⟩ : ∃ x, l[k]? = some x := ⟨_, List.getElem?_eq_getElem (by rw [HN.out]; exact hlt)⟩
      obtain ⟨ba, oa, rfl, hC⟩ : ∃ ba oa, a = some ⟨ba, oa, none⟩ ∧ ∀ z : Ext wr, ∀ j, j < n → z.1.cell? ⟨ba, oa + j, none⟩ = some (.int .i64 (l[j]?.getD 0)) := by
        rcases HLA.out with e | ⟨ba, oa, rfl, h1, h2⟩
        · have := HN.out; rw [e] at this; simp at this; omega
        · exact ⟨ba, oa, rfl, fun z j hj => ((HB.out.trans (z.2.mono HB.out.size)).cell (p := ⟨ba, oa + j, none⟩) h1).trans (h2 j (by rw [HN.out]; exact hj))⟩
      have c1 : ∀ z : Ext wr, z.1.cell? ⟨ba, oa + k, none⟩ = some (.int .i64 x) := fun z => by rw [hC z k hlt, hx]; rfl
      have hx64 : Is64 x := H64.out x (List.mem_of_getElem? hx)
      have HX64 := Lib.hid hx64
      have HX := Lib.hid hx
      have HLT := Lib.hid hlt
      have HRL : Hid ((rnOf (l.take k)).length ≤ k) := by have := (rn_all (l.take k)).len; rw [List.length_take] at this; exact Nat.le_trans this (Nat.min_le_left _ _)
      clear hlt hx hx64
      by_cases h0 : 0 < k
      · obtain ⟨q, rfl⟩ : ∃ q, k = q + 1 := ⟨k - 1, by omega⟩
        obtain ⟨p, hp⟩ : ∃ p, l[q]? = some p := ⟨_, List.getElem?_eq_getElem (by rw [HN.out]; have := HLT.out; omega)⟩
        have c2 : ∀ z : Ext wr, z.1.cell? ⟨ba, oa + q, none⟩ = some (.int .i64 p) := fun z => by rw [hC z q (by have := HLT.out; omega), hp]; rfl
        have hp64 : Is64 p := H64.out p (List.mem_of_getElem? hp)
        have HS := Lib.hid (rnOf_succ hp HX.out)
        obtain ⟨A, f, c, hA, hc1, hc2, hAl⟩ := rnOf_last hp
        have HAA := Lib.hid hA
        have q1 : (q : Int) + 1 - 1 = (q : Int) := by omega
        have HQ : Hid (wrap64 ((q : Int) + 1 - 1) = (q : Int)) := by show _ = _; rw [q1]; exact IntWalk.wrap64_in _ (by have := HLT.out; omega)
        have HC1 := Lib.hid hc1
        have HC2 := Lib.hid hc2
        have HAL := Lib.hid hAl
        clear hC hp hA hc1 hc2 hAl h0
        unfold Is64 at hp64
        by_cases e1 : p < 4611686018427387904
        · have HWP : Hid (wrap64 (p + 1) = p + 1) := IntWalk.wrap64_in _ (by omega)
          have d1 : decide (p < 4611686018427387904) = true := by simpa using e1
          clear hp64
          by_cases e2 : x = p + 1
          · have HE : rnExt p x = true := by unfold rnExt; rw [d1, e2]; simp
            have d2 : (x == p + 1) = true := by simpa using e2
            have d5 : (x == wrap64 (p + 1)) = true := by rw [HWP.out]; exact d2
            rw [HE, if_pos rfl, HAA.out, rnInc_snoc] at HS
            clear e1 e2 HE
            go_wp2_with fail
            refine region_ext (by kernel_rfl) (by kernel_rfl) ?_
            repeat (go_big_quiet_step (fail))
            try (with_reducible refine wpQuiet_nil ?_)
            rintro ⟨z, hz⟩
            simp only
            have HBZ : Hid (Below w.heap.size w z) := HB.out.trans (hz.mono HB.out.size)
            have HFZ := Lib.hid (HF.out.below hz)
            have c0 : z.cell? ⟨ba, oa + (q + 1), none⟩ = some (.int .i64 x) := c1 ⟨z, hz⟩
            clear HF HB c1 c2
            have hF := HFZ.out
            rw [HAA.out] at hF
            obtain ⟨K, hK⟩ : ∃ K, A.length = K := ⟨_, rfl⟩
            obtain ⟨g, cap, W3, hv, d3, d4, hW3, HO, HB3⟩ := rn_grow hF HBZ.out (by have h1 := HC1.out; have h2 := HC2.out; have := HLT.out; unfold Is64; omega) hK
            subst hv
            have HWc : Hid (wrap64 (c + 1) = c + 1) := IntWalk.wrap64_in _ (by have h1 := HC1.out; have h2 := HC2.out; have := HLT.out; omega)
            have g4 : (K : Int) + 1 - 1 = (K : Int) := by omega
            have HWK : Hid (wrap64 ((K : Int) + 1 - 1) = (K : Int)) := by show _ = _; rw [g4]; exact IntWalk.wrap64_in _ (by have := HAL.out; have := HLT.out; omega)
            have hKb : K ≤ 500000 := by have := HAL.out; have := HLT.out; omega
            clear hF hK HFZ hz
            go_wp2_with fail
            rw [HWc.out, hW3]
            exact ⟨⟨q + 1 + 1, HLT.out, by simp, by rw [HS.out]; exact HO, HB3⟩, by have := HLT.out; simp [intOf]; omega⟩
          · have HE : rnExt p x = false := by unfold rnExt; rw [d1]; simp [e2]
            have d2 : (x == p + 1) = false := by simpa using e2
            have d5 : (x == wrap64 (p + 1)) = false := by rw [HWP.out]; exact d2
            rw [HE, if_neg (by decide)] at HS
            clear e1 e2 HE
            go_wp2_with fail
            refine region_ext (by kernel_rfl) (by kernel_rfl) ?_
            repeat (go_big_quiet_step (fail))
            try (with_reducible refine wpQuiet_nil ?_)
            rintro ⟨z, hz⟩
            simp only
            have HBZ : Hid (Below w.heap.size w z) := HB.out.trans (hz.mono HB.out.size)
            have HFZ := Lib.hid (HF.out.below hz)
            have c0 : z.cell? ⟨ba, oa + (q + 1), none⟩ = some (.int .i64 x) := c1 ⟨z, hz⟩
            clear HF HB c1 c2
            obtain ⟨W1, f2, W2, SB, HA, HF2, HB2⟩ := rn_more HFZ.out HBZ.out HX64.out (by have := HRL.out; have := HLT.out; omega)
            clear HFZ hz
            go_wp2_with (first | (refine gate_build ?_; refine wpList_build_run 23 1 #[(0, .tmp 49)] rfl rfl [(0, _)] _ rfl SB ?_) | (at_builtin; refine wpList_append_run (.tmp 44) (.tmp 50) 23 rfl rfl _ _ _ rfl rfl (HA.out _) ?_))
            exact ⟨⟨q + 1 + 1, HLT.out, by simp, by rw [HS.out]; exact HF2.out, HB2.out⟩, by have := HLT.out; simp [intOf]; omega⟩
        · have d1 : decide (p < 4611686018427387904) = false := by simpa using e1
          have HE : rnExt p x = false := by unfold rnExt; rw [d1]; simp
          rw [HE, if_neg (by decide)] at HS
          clear e1 HE hp64
          go_wp2_with fail
          refine region_ext (by kernel_rfl) (by kernel_rfl) ?_
          repeat (go_big_quiet_step (fail))
          try (with_reducible refine wpQuiet_nil ?_)
          rintro ⟨z, hz⟩
          simp only
          have HBZ : Hid (Below w.heap.size w z) := HB.out.trans (hz.mono HB.out.size)
          have HFZ := Lib.hid (HF.out.below hz)
          have c0 : z.cell? ⟨ba, oa + (q + 1), none⟩ = some (.int .i64 x) := c1 ⟨z, hz⟩
          clear HF HB c1 c2
          obtain ⟨W1, f2, W2, SB, HA, HF2, HB2⟩ := rn_more HFZ.out HBZ.out HX64.out (by have := HRL.out; have := HLT.out; omega)
          clear HFZ hz
          go_wp2_with (first | (refine gate_build ?_; refine wpList_build_run 23 1 #[(0, .tmp 49)] rfl rfl [(0, _)] _ rfl SB ?_) | (at_builtin; refine wpList_append_run (.tmp 44) (.tmp 50) 23 rfl rfl _ _ _ rfl rfl (HA.out _) ?_))
          exact ⟨⟨q + 1 + 1, HLT.out, by simp, by rw [HS.out]; exact HF2.out, HB2.out⟩, by have := HLT.out; simp [intOf]; omega⟩
      · obtain rfl : k = 0 := by omega
        have HS : Hid (rnOf (l.take (0 + 1)) = rnOf (l.take 0) ++ [(x, 1)]) := rnOf_zero HX.out
        clear h0 hC
        go_wp2_with fail
        refine region_ext (by kernel_rfl) (by kernel_rfl) ?_
        repeat (go_big_quiet_step (fail))
        try (with_reducible refine wpQuiet_nil ?_)
        rintro ⟨z, hz⟩
        simp only
        have HBZ : Hid (Below w.heap.size w z) := HB.out.trans (hz.mono HB.out.size)
        have HFZ := Lib.hid (HF.out.below hz)
        have c0 : z.cell? ⟨ba, oa, none⟩ = some (.int .i64 x) := c1 ⟨z, hz⟩
        clear HF HB c1 HX
        obtain ⟨W1, f2, W2, SB, HA, HF2, HB2⟩ := rn_more HFZ.out HBZ.out HX64.out (by have := HRL.out; have := HLT.out; omega)
        clear HFZ hz
        go_wp2_with (first | (refine gate_build ?_; refine wpList_build_run 23 1 #[(0, .tmp 49)] rfl rfl [(0, _)] _ rfl SB ?_) | (at_builtin; refine wpList_append_run (.tmp 44) (.tmp 50) 23 rfl rfl _ _ _ rfl rfl (HA.out _) ?_))
        exact ⟨⟨0 + 1, HLT.out, by simp, by rw [HS.out]; exact HF2.out, HB2.out⟩, by have := HLT.out; simp [intOf]; omega⟩
    · obtain rfl : k = n := by omega
      have HF3 : Hid (RnO w.heap.size wr u3 (rnOf l)) := by
        show RnO _ _ _ _
        have := HF.out
        rwa [List.take_of_length_le (by rw [HN.out]; exact Nat.le_refl _)] at this
      go_wp2_with fail
      go_ret
      exact ⟨_, rfl, HF3.out, HB.out⟩
end Go.Proofs.Ytajamblkjmafmaa
