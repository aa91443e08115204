/- The document's Blocks. -/
import Derived.Test.YtajamblkjmafmaaRuBl
namespace Go.Proofs.Ytajamblkjmafmaa
open Go.RowKit
set_option linter.unusedVariables false
set_option linter.unusedSimpArgs false
attribute [-simp] Try.isAgg36 Try.zeroValue36
attribute [-go_sem] loadVar storeVar
attribute [local go_sem] loadVar_openR storeVar_openR zero_rns build_rns0 build_rns

/-- What is kept of a list whose first ones are all that fit. -/
theorem cap_more {Z : List Int} {x : Int} (h : (Z.take 65536).length < 65536) : (Z ++ [x]).take 65536 = Z.take 65536 ++ [x] := by
  rw [List.length_take] at h
  rw [List.take_of_length_le (l := Z) (by omega), List.take_of_length_le (by rw [List.length_append, List.length_singleton]; omega)]
theorem cap_full {Z r : List Int} (h : ¬ (Z.take 65536).length < 65536) : (Z ++ r).take 65536 = Z.take 65536 := by
  rw [List.length_take] at h
  rw [List.take_append_of_le_length (by omega)]

set_option maxRecDepth 100000 in
set_option maxHeartbeats 8000000 in
/-- **Blocks**. -/
theorem rf15_blocks {w : World} {v : Value} {l : List (Int × Int)} (h : Prt w v l) (hlen : l.length ≤ 500000) :
    Calls Try.prog 12 #[v] w fun e w' => ∃ u, e = .returned u ∧ InO w.heap.size w' u (rnBlocks l) ∧ Below w.heap.size w w' := by
  have HP := Lib.hid h
  obtain ⟨pa, ca, rfl, -⟩ := h
  obtain ⟨n, hn⟩ : ∃ n, l.length = n := ⟨_, rfl⟩
  rw [hn] at HP hlen ⊢
  have HN := Lib.hid hn
  clear hn
  go_enter Try.func12, Try.ntmps12
  go_wp2_with fail
  go_loopw [3, 4] (fun bv iv wr => ∃ k : Nat, k ≤ n ∧ iv = .int .i64 (k : Int) ∧ Hid (InO w.heap.size wr bv ((rnBl (l.take k)).take 65536)) ∧ Hid (Below w.heap.size w wr)) (fun _ iv _ => n - (intOf iv).toNat)
  case atStart => exact ⟨0, Nat.zero_le _, rfl, InO.nil _ _, Below.refl _ _⟩
  case round =>
    obtain ⟨k, hk, rfl, HF, HB⟩ := hrel
    by_cases hlt : k < n
    · obtain ⟨p, hp⟩ : ∃ p, l[k]? = some p := ⟨_, List.getElem?_eq_getElem (by rw [HN.out]; exact hlt)⟩
      obtain ⟨bb, off, rfl, hbb, c1, c2⟩ := (HP.out.below HB.out).at hp
      have HSUC := Lib.hid (rnBl_succ hp)
      obtain ⟨t, ht⟩ : ∃ t, rnOk p = t := ⟨_, rfl⟩
      rw [ht] at HSUC
      have HGT := Lib.hid (fun i h => rnNums_take p i h)
      have HNL := Lib.hid (rnNums_len p)
      have hp64 := (HP.out.is _ (List.mem_of_getElem? hp))
      obtain ⟨f, c⟩ := p
      simp only [Is64] at c1 c2 hp64
      have g1 : (k : Int) < (n : Int) := by omega
      have HW : Hid (wrap64 ((k : Int) + 1) = (k : Int) + 1) := IntWalk.wrap64_in _ (by omega)
      have HLT := Lib.hid hlt
      have CC : Hid (∀ x : World, Below w.heap.size w x → x.cell? ⟨bb, off + k * 2, none⟩ = some (.int .i64 f) ∧ x.cell? ⟨bb, off + k * 2 + 1, none⟩ = some (.int .i64 c)) := fun x hx => by
        obtain ⟨b', o', e, -, h1, h2⟩ := (HP.out.below hx).at hp
        cases e
        exact ⟨h1, h2⟩
      unfold rnOk at ht
      simp only at ht
      clear hp hbb hlt
      by_cases q1 : f < 0
      · have e1 : decide (f < 0) = true := by simpa using q1
        obtain rfl : t = false := by rw [← ht, decide_eq_false (show ¬ 0 ≤ f by omega)]; rfl
        clear ht hp64
        go_wp2_with fail
        exact ⟨⟨k + 1, HLT.out, by simp, by show InO _ _ _ _; rw [HSUC.out]; simpa using HF.out, HB⟩, by have := HLT.out; simp [intOf]; omega⟩
      · have e1 : decide (f < 0) = false := by simpa using q1
        by_cases q2 : 65535 < f
        · have e2 : decide (f > 65535) = true := by simpa using q2
          obtain rfl : t = false := by rw [← ht, decide_eq_false (show ¬ f ≤ 65535 by omega)]; simp
          clear ht hp64
          go_wp2_with fail
          exact ⟨⟨k + 1, HLT.out, by simp, by show InO _ _ _ _; rw [HSUC.out]; simpa using HF.out, HB⟩, by have := HLT.out; simp [intOf]; omega⟩
        · have e2 : decide (f > 65535) = false := by simpa using q2
          by_cases q3 : c < 1
          · have e3 : decide (c < 1) = true := by simpa using q3
            obtain rfl : t = false := by rw [← ht, decide_eq_false (show ¬ 1 ≤ c by omega)]; simp
            clear ht hp64
            go_wp2_with fail
            exact ⟨⟨k + 1, HLT.out, by simp, by show InO _ _ _ _; rw [HSUC.out]; simpa using HF.out, HB⟩, by have := HLT.out; simp [intOf]; omega⟩
          · have e3 : decide (c < 1) = false := by simpa using q3
            by_cases q4 : 4096 < c
            · have e4 : decide (c > 4096) = true := by simpa using q4
              obtain rfl : t = false := by rw [← ht, decide_eq_false (show ¬ c ≤ 4096 by omega)]; simp
              clear ht hp64
              go_wp2_with fail
              exact ⟨⟨k + 1, HLT.out, by simp, by show InO _ _ _ _; rw [HSUC.out]; simpa using HF.out, HB⟩, by have := HLT.out; simp [intOf]; omega⟩
            · have e4 : decide (c > 4096) = false := by simpa using q4
              obtain rfl : t = true := by rw [← ht, decide_eq_true (show 0 ≤ f by omega), decide_eq_true (show f ≤ 65535 by omega), decide_eq_true (show 1 ≤ c by omega), decide_eq_true (show c ≤ 4096 by omega)]; rfl
              rw [if_pos rfl] at HSUC
              obtain ⟨m, rfl⟩ := Int.eq_ofNat_of_zero_le (show 0 ≤ c by omega)
              simp only [Int.toNat_natCast] at HNL HGT
              obtain ⟨Z, hZ⟩ : ∃ Z, rnBl (l.take k) = Z := ⟨_, rfl⟩
              rw [hZ] at HF HSUC
              obtain ⟨U, hU⟩ : ∃ U, rnNums (f, (m : Int)) = U := ⟨_, rfl⟩
              rw [hU] at HNL HSUC HGT
              clear hZ hU ht hp64
              go_wp2_with fail
              go_loopw [3, 5] (fun bv iv wr => ∃ i : Nat, i ≤ m ∧ iv = .int .i64 (i : Int) ∧ Hid (InO w.heap.size wr bv ((Z ++ U.take i).take 65536)) ∧ Hid (Below w.heap.size w wr)) (fun _ iv _ => m - (intOf iv).toNat)
              case atStart => exact ⟨0, Nat.zero_le _, rfl, by show InO _ _ _ _; simpa using HF.out, HB⟩
              case round =>
                clear c1 c2
                obtain ⟨i, hi, rfl, HF4, HB4⟩ := hrel
                obtain ⟨c1, c2⟩ := CC.out _ HB4.out
                by_cases hlt2 : i < m
                · have g2 : (i : Int) < (m : Int) := by omega
                  have HWI : Hid (wrap64 ((i : Int) + 1) = (i : Int) + 1) := IntWalk.wrap64_in _ (by omega)
                  have HWF : Hid (wrap64 (f + (i : Int)) = f + (i : Int)) := IntWalk.wrap64_in _ (by omega)
                  have HLT2 := Lib.hid hlt2
                  have HTK := Lib.hid (HGT.out i hlt2)
                  obtain ⟨ua, uc, hv⟩ := HF4.out.len
                  obtain ⟨M, hM⟩ : ∃ M, ((Z ++ U.take i).take 65536).length = M := ⟨_, rfl⟩
                  rw [hM] at hv
                  subst hv
                  have HM := Lib.hid hM
                  by_cases hL : M < 65536
                  · have e5 : decide ((M : Int) < 65536) = true := by simp; omega
                    obtain ⟨W1, f2, W4, SB, HA, HF5, HB5, -⟩ := bl_more HF4.out HB4.out (f + (i : Int)) (by omega)
                    have HC : Hid ((Z ++ U.take (i + 1)).take 65536 = (Z ++ U.take i).take 65536 ++ [f + (i : Int)]) := by
                      show _ = _
                      rw [HTK.out, ← List.append_assoc]
                      exact cap_more (by omega)
                    clear hlt2 hM
                    go_wp2_with (first | (refine gate_build ?_; refine wpList_build_run 22 1 #[(0, .tmp 63)] rfl rfl [(0, _)] _ rfl SB ?_) | (at_builtin; refine wpList_append_run (.tmp 56) (.tmp 64) 22 rfl rfl _ _ _ rfl rfl (HA.out _) ?_))
                    exact ⟨⟨i + 1, HLT2.out, by simp, by show InO _ _ _ _; rw [HC.out]; exact HF5.out, HB5⟩, by have := HLT2.out; simp [intOf]; omega⟩
                  · have e5 : decide ((M : Int) < 65536) = false := by simp; omega
                    have HC : Hid ((Z ++ U).take 65536 = (Z ++ U.take i).take 65536) := by
                      show _ = _
                      rw [← List.take_append_drop i U, ← List.append_assoc, List.take_append_drop]
                      exact cap_full (by omega)
                    clear hlt2 hM
                    go_wp2_with fail
                    exact ⟨⟨k + 1, HLT.out, by simp, by show InO _ _ _ _; rw [HSUC.out, HC.out]; exact HF4.out, HB4⟩, by have := HLT.out; simp [intOf]; omega⟩
                · obtain rfl : i = m := by omega
                  have HTA : Hid (U.take i = U) := List.take_of_length_le (by rw [HNL.out]; exact Nat.le_refl _)
                  rw [HTA.out] at HF4
                  go_wp2_with fail
                  exact ⟨⟨k + 1, HLT.out, by simp, by show InO _ _ _ _; rw [HSUC.out]; exact HF4.out, HB4⟩, by have := HLT.out; simp [intOf]; omega⟩
    · obtain rfl : k = n := by omega
      have HF3 : Hid (InO w.heap.size wr u3 (rnBlocks l)) := by
        show InO _ _ _ _
        have := HF.out
        rw [List.take_of_length_le (l := l) (by rw [HN.out]; exact Nat.le_refl _)] at this
        exact this
      go_wp2_with fail
      go_ret
      exact ⟨_, rfl, HF3.out, HB.out⟩
end Go.Proofs.Ytajamblkjmafmaa
