/- The developers' Blocks. -/
import Derived.Test.YtajamblkjmafmaaRuGd
namespace Go.Proofs.Ytajamblkjmafmaa
open Go.RowKit
set_option linter.unusedVariables false
set_option linter.unusedSimpArgs false
attribute [-simp] Try.isAgg36 Try.zeroValue36
attribute [-go_sem] loadVar storeVar
attribute [local go_sem] loadVar_openR storeVar_openR zero_rns build_rns0 build_rns

set_option maxRecDepth 100000 in
/-- One more number. -/
theorem bl_more {w wr : World} {v : Value} {zs : List Int} (HF : InO w.heap.size wr v zs) (HB : Below w.heap.size w wr) (x : Int) (hl : zs.length ≤ 900000) :
    ∃ W1 f2 W2, (Instr.buildSlice 22 1 #[(0, .int .i64 x)]).run Try.prog wr = .ok (.slice (some ⟨wr.heap.size, 0, none⟩) 1 1) W1 ∧
      Hid (∀ ty, (Builtin.append_ #[22, 22] ty #[v, .slice (some ⟨wr.heap.size, 0, none⟩) 1 1]).run Try.prog W1 = .ok f2 W2) ∧ Hid (InO w.heap.size W2 f2 (zs ++ [x])) ∧ Hid (Below w.heap.size w W2) ∧ Hid (wr.grownBy W2 v.ownBlock) := by
  obtain ⟨f2, W2, hr, h1, h2, -⟩ := in_append HF HB.size x hl
  obtain ⟨W1, hW1⟩ : ∃ W, wr.alloc (.cells #[.int .i64 x] 3) = W := ⟨_, rfl⟩
  have SB := slice_int1 wr x
  rw [hW1] at SB hr
  exact ⟨W1, f2, W2, SB, hr, h1, HB.grown h2 HB.size (fun j e => (HF.base j e).1), h2⟩
theorem InO.len {N : Nat} {w : World} {v : Value} {zs : List Int} (h : InO N w v zs) : ∃ a c, v = .slice a zs.length c := by
  rcases h.2 with ⟨rfl, h0⟩ | ⟨g, cap, cur, rfl, -⟩
  · exact ⟨none, 0, by rw [h0]⟩
  · exact ⟨_, _, rfl⟩

set_option maxRecDepth 100000 in
set_option maxHeartbeats 8000000 in
/-- **Blocks**. -/
theorem ru_blocks {w : World} {v : Value} {l : List (Int × Int)} (h : Prt w v l) (hlen : l.length ≤ 500000) :
    Calls Try.prog 11 #[v] w fun e w' => ∃ u, e = .returned u ∧ InO w.heap.size w' u (rnBlocks l) ∧ Below w.heap.size w w' := by
  have HP := Lib.hid h
  obtain ⟨pa, ca, rfl, -⟩ := h
  obtain ⟨n, hn⟩ : ∃ n, l.length = n := ⟨_, rfl⟩
  rw [hn] at HP hlen ⊢
  have HN := Lib.hid hn
  clear hn
  go_enter Try.func11, Try.ntmps11
  go_wp2_with fail
  go_step3
  go_wp2_with fail
  go_step3
  go_wp2_with fail
  go_loopw [3, 9] (fun bv iv wr => ∃ k : Nat, k ≤ n ∧ iv = .int .i64 (k : Int) ∧ Hid (InO w.heap.size wr bv (rnBl (l.take k))) ∧ Hid ((rnBl (l.take k)).length ≤ 65536) ∧ Hid (Below w.heap.size w wr)) (fun _ iv _ => n - (intOf iv).toNat)
  case atStart => exact ⟨0, Nat.zero_le _, rfl, InO.nil _ _, Nat.zero_le _, Below.refl _ _⟩
  case round =>
    obtain ⟨k, hk, rfl, HF, HL, HB⟩ := hrel
    by_cases hlt : k < n
    · obtain ⟨p, hp⟩ : ∃ p, l[k]? = some p := ⟨_, List.getElem?_eq_getElem (by rw [HN.out]; exact hlt)⟩
      obtain ⟨bb, off, rfl, hbb, c1, c2⟩ := (HP.out.below HB.out).at hp
      have HSUC := Lib.hid (rnBl_succ hp)
      have HSPL := Lib.hid (fun (ho : rnOk p = true) (i : Nat) => rnBl_split hp ho i)
      have hok := ru_ok p
      obtain ⟨t, ht⟩ : ∃ t, rnOk p = t := ⟨_, rfl⟩
      rw [ht] at HSUC hok
      have HT := Lib.hid ht
      have HGT := Lib.hid (fun i h => rnNums_take p i h)
      have HNL := Lib.hid (rnNums_len p)
      obtain ⟨f, c⟩ := p
      simp only at c1 c2 hok
      have g1 : (k : Int) < (n : Int) := by omega
      have HW : Hid (wrap64 ((k : Int) + 1) = (k : Int) + 1) := IntWalk.wrap64_in _ (by omega)
      have LD := load_rns c1 c2
      have ST := new_rns wr f c
      obtain ⟨W2, hW2⟩ : ∃ W2, wr.alloc (.cells #[.int .i64 f, .int .i64 c] 36) = W2 := ⟨_, rfl⟩
      rw [hW2] at ST
      have hb2 : Below wr.heap.size wr W2 := by rw [← hW2]; exact below_new wr _
      have hR : RowC W2 wr.heap.size 36 (prL f c) := by rw [← hW2]; exact RowC.new wr _ _
      have d1 : W2.cell? ⟨wr.heap.size, 0, none⟩ = some (.int .i64 f) := hR.cell 0 _ rfl
      have d2 : W2.cell? ⟨wr.heap.size, 1, none⟩ = some (.int .i64 c) := hR.cell 1 _ rfl
      have LD2 : (loadVar 36 ⟨wr.heap.size, 0, none⟩).run Try.prog W2 = .ok (.agg #[.int .i64 f, .int .i64 c]) W2 := load_rns d1 d2
      obtain ⟨B, hBn⟩ : ∃ B, wr.heap.size = B := ⟨_, rfl⟩
      have HB2 : Hid (Below w.heap.size w W2) := HB.out.trans (hb2.mono HB.out.size)
      have HF2 := Lib.hid (HF.out.below hb2)
      rw [hBn] at ST hR d1 d2 LD2
      have HR := Lib.hid hR
      have HOK := Lib.hid (hok W2)
      have HLT := Lib.hid hlt
      clear hp hbb c1 c2 hW2 HB hlt hb2 hR hok ht HF d1 d2
      go_wp2_with fail
      refine HOK.out.mono ?_
      rintro e y ⟨rfl, hby⟩
      have HB3 : Hid (Below w.heap.size w y) := HB2.out.trans (hby.mono HB2.out.size)
      have HF3 := Lib.hid (HF2.out.below hby)
      have HR3 := Lib.hid (HR.out.below hby)
      clear hby HB2 HF2 HR HOK LD LD2 ST hBn
      cases t with
      | false =>
        go_wp2_with fail
        exact ⟨⟨k + 1, HLT.out, by simp, by show InO _ _ _ _; rw [HSUC.out]; simpa using HF3.out, by show _ ≤ _; rw [HSUC.out]; simpa using HL.out, HB3⟩, by have := HLT.out; simp [intOf]; omega⟩
      | true =>
        rw [if_pos rfl] at HSUC
        have d1 : y.cell? ⟨B, 1, none⟩ = some (.int .i64 c) := HR3.out.cell 1 _ rfl
        have hcb := HT.out
        unfold rnOk at hcb
        simp only [Bool.and_eq_true, decide_eq_true_eq] at hcb
        obtain ⟨⟨⟨f0, f1⟩, hc1⟩, hc2⟩ := hcb
        obtain ⟨m, rfl⟩ := Int.eq_ofNat_of_zero_le (show 0 ≤ c by omega)
        simp only [Int.toNat_natCast] at HNL HGT
        obtain ⟨Z, hZ⟩ : ∃ Z, rnBl (l.take k) = Z := ⟨_, rfl⟩
        rw [hZ] at HF3 HL HSUC HSPL
        obtain ⟨U, hU⟩ : ∃ U, rnNums (f, (m : Int)) = U := ⟨_, rfl⟩
        rw [hU] at HNL HSUC HSPL HGT
        clear hZ hU hc1
        go_wp2_with fail
        go_loopw [3, 18] (fun bv iv wr => ∃ i : Nat, i ≤ m ∧ iv = .int .i64 (i : Int) ∧ Hid (InO w.heap.size wr bv (Z ++ U.take i)) ∧ Hid ((Z ++ U.take i).length ≤ 65536) ∧ Hid (RowC wr B 36 (prL f (m : Int))) ∧ Hid (Below w.heap.size w wr)) (fun _ iv _ => m - (intOf iv).toNat)
        case atStart => exact ⟨0, Nat.zero_le _, rfl, by show InO _ _ _ _; simpa using HF3.out, by show _ ≤ _; simpa using HL.out, HR3, HB3⟩
        case round =>
          rename_i z
          obtain ⟨i, hi, rfl, HF4, HL4, HR4, HB4⟩ := hrel
          by_cases hlt2 : i < m
          · have g2 : (i : Int) < (m : Int) := by omega
            have HWI : Hid (wrap64 ((i : Int) + 1) = (i : Int) + 1) := IntWalk.wrap64_in _ (by omega)
            have HWF : Hid (wrap64 (f + (i : Int)) = f + (i : Int)) := IntWalk.wrap64_in _ (by omega)
            have HLT2 := Lib.hid hlt2
            have HTK := Lib.hid (HGT.out i hlt2)
            obtain ⟨ua, uc, hv⟩ := HF4.out.len
            obtain ⟨M, hM⟩ : ∃ M, (Z ++ U.take i).length = M := ⟨_, rfl⟩
            rw [hM] at hv
            subst hv
            have HM := Lib.hid hM
            have d0 : wr.cell? ⟨B, 0, none⟩ = some (.int .i64 f) := HR4.out.cell 0 _ rfl
            by_cases hL : M = 65536
            · have e1 : ((M : Int) == 65536) = true := by rw [hL]; rfl
              have HF5 : Hid (InO w.heap.size wr (.slice ua M uc) (rnBlocks l)) := by
                show InO _ _ _ _
                obtain ⟨r, hr⟩ := HSPL.out HT.out i
                unfold rnBlocks
                rw [hr, List.take_append_of_le_length (by rw [HM.out]; omega), List.take_of_length_le (by rw [HM.out]; omega)]
                exact HF4.out
              clear hL hlt2
              go_wp2_with fail
              rw [Exit.noGoto_ret]
              go_ret
              exact ⟨_, rfl, HF5.out, HB4.out⟩
            · have e1 : ((M : Int) == 65536) = false := by simp; omega
              obtain ⟨W1, f2, W4, SB, HA, HF5, HB5, hG⟩ := bl_more HF4.out HB4.out (f + (i : Int)) (by have h1 := HL4.out; omega)
              have HR5 := Lib.hid (HR4.out.grown hG.out (row_ne HF4.out HR4.out (by decide)))
              have HL5 : Hid ((Z ++ U.take (i + 1)).length ≤ 65536) := by
                show _ ≤ _
                have h1 := HL4.out
                rw [HTK.out, ← List.append_assoc, List.length_append, List.length_singleton, HM.out]
                rw [HM.out] at h1
                omega
              clear hL hlt2 hG hM
              go_wp2_with (first | (refine gate_build ?_; refine wpList_build_run 22 1 #[(0, .tmp 28)] rfl rfl [(0, _)] _ rfl SB ?_) | (at_builtin; refine wpList_append_run (.tmp 24) (.tmp 29) 22 rfl rfl _ _ _ rfl rfl (HA.out _) ?_))
              exact ⟨⟨i + 1, HLT2.out, by simp, by show InO _ _ _ _; rw [HTK.out, ← List.append_assoc]; exact HF5.out, HL5, HR5, HB5⟩, by have := HLT2.out; simp [intOf]; omega⟩
          · obtain rfl : i = m := by omega
            have HTA : Hid (U.take i = U) := List.take_of_length_le (by rw [HNL.out]; exact Nat.le_refl _)
            rw [HTA.out] at HF4 HL4
            go_wp2_with fail
            exact ⟨⟨k + 1, HLT.out, by simp, by show InO _ _ _ _; rw [HSUC.out]; exact HF4.out, by show _ ≤ _; rw [HSUC.out]; exact HL4.out, HB4⟩, by have := HLT.out; simp [intOf]; omega⟩
    · obtain rfl : k = n := by omega
      have HF3 : Hid (InO w.heap.size wr u3 (rnBlocks l)) := by
        show InO _ _ _ _
        have := HF.out
        have h2 := HL.out
        rw [List.take_of_length_le (by rw [HN.out]; exact Nat.le_refl _)] at this h2
        unfold rnBlocks
        rw [List.take_of_length_le h2]
        exact this
      go_wp2_with fail
      rw [Exit.noGoto_ret]
      go_ret
      exact ⟨_, rfl, HF3.out, HB.out⟩
end Go.Proofs.Ytajamblkjmafmaa
