/- The document's Good. -/
import Derived.Test.YtlnkfphkgjcdiaaTbRf2
namespace Go.Proofs.Ytlnkfphkgjcdiaa
open Go.RowKit
set_option linter.unusedVariables false
set_option linter.unusedSimpArgs false
attribute [-simp] Try.isAgg29 Try.zeroValue29
attribute [-go_sem] loadVar storeVar
attribute [local go_sem] loadVar_openP storeVar_openP zero_prs build_prs0 build_prs

theorem nodup_snoc {l : List (Int × Int)} {k : Nat} {x y : Int} (hk : l[k]? = some (x, y)) (h1 : ((l.take k).map (·.2)).Nodup) (h2 : ∀ (j : Nat) (p : Int × Int), j < k → l[j]? = some p → p.2 ≠ y) : ((l.take (k + 1)).map (·.2)).Nodup := by
  rw [List.take_add_one, hk, List.map_append, List.nodup_append]
  refine ⟨h1, by simp, fun a ha b hb e => ?_⟩
  simp at hb
  subst hb
  subst e
  obtain ⟨p, hp, he⟩ := List.mem_map.1 ha
  obtain ⟨j, hj⟩ := List.getElem?_of_mem hp
  rw [List.getElem?_take] at hj
  split at hj
  · rename_i hjk
    exact h2 j p hjk hj he
  · cases hj
theorem nodup_not {l : List (Int × Int)} {j k : Nat} {p q : Int × Int} (hj : l[j]? = some p) (hk : l[k]? = some q) (hjk : j < k) (he : p.2 = q.2) : ¬ (l.map (·.2)).Nodup := fun h => by
  have h1 : (l.map (·.2))[j]? = some p.2 := by rw [List.getElem?_map, hj]; rfl
  have h2 : (l.map (·.2))[k]? = some q.2 := by rw [List.getElem?_map, hk]; rfl
  obtain ⟨a1, b1⟩ := List.getElem?_eq_some_iff.1 h1
  obtain ⟨a2, b2⟩ := List.getElem?_eq_some_iff.1 h2
  have := List.pairwise_iff_getElem.1 h j k a1 a2 hjk
  rw [b1, b2] at this
  exact this he

set_option maxRecDepth 100000 in
set_option maxHeartbeats 8000000 in
/-- The document's **Good**. -/
theorem rf_good {w : World} {v : Value} {l : List (Int × Int)} (h : Prt w v l) (bl ar : Int) (hlen : l.length ≤ 800000) :
    Calls Try.prog 13 #[v, .int .i64 bl, .int .i64 ar] w fun e w' => e = .returned (.bool (tGood l bl ar)) ∧ Below w.heap.size w w' := by
  have hmx : Try.prog.follows .mixedOrders = true := by kernel_rfl
  have HP := Lib.hid h
  obtain ⟨pa, ca, rfl, -⟩ := h
  obtain ⟨n, hn⟩ : ∃ n, l.length = n := ⟨_, rfl⟩
  rw [hn] at HP hlen ⊢
  have HN := Lib.hid hn
  clear hn
  go_enter Try.func13, Try.ntmps13
  go_wp2_with fail
  go_loopw [7] (fun iv wr => ∃ (k : Nat) (last : Int), k ≤ n ∧ iv = .int .i64 (k : Int) ∧ Hid (-1 ≤ last) ∧ Hid (0 < k → ∃ p, l[k - 1]? = some p ∧ p.1 = last) ∧ Hid (k = 0 → last = -1) ∧ Hid (tRise bl ar (-1) l = tRise bl ar last (l.drop k)) ∧ Hid (((l.take k).map (·.2)).Nodup) ∧ Hid (Below w.heap.size w wr)) (fun iv _ => n - (intOf iv).toNat)
  case atStart => exact ⟨0, -1, Nat.zero_le _, rfl, Int.le_refl _, fun h => absurd h (by omega), fun _ => rfl, rfl, (by show List.Nodup _; simp), Below.refl _ _⟩
  case round =>
    obtain ⟨k, last, hk, rfl, HL1, HLP, HL0, HR, HD, HB⟩ := hrel
    by_cases hlt : k < n
    · obtain ⟨p, hp⟩ : ∃ p, l[k]? = some p := ⟨_, List.getElem?_eq_getElem (by rw [HN.out]; exact hlt)⟩
      obtain ⟨bb, off, rfl, hbb, c1, c2⟩ := (HP.out.below HB.out).at hp
      obtain ⟨x0, y0⟩ := p
      simp only at c1 c2
      have HPK := Lib.hid hp
      have hst := tRise_step hp bl ar last
      rw [← HR.out] at hst
      have HST := Lib.hid hst
      have g1 : (k : Int) < (n : Int) := by omega
      have HW : Hid (wrap64 ((k : Int) + 1) = (k : Int) + 1) := IntWalk.wrap64_in _ (by omega)
      have HW2 : Hid (wrap64 ((k : Int) - 1) = (k : Int) - 1) := IntWalk.wrap64_in _ (by omega)
      have LD := load_prs c1 c2
      have ST := new_prs wr x0 y0
      obtain ⟨W2, hW2⟩ : ∃ W2, wr.alloc (.cells #[.int .i64 x0, .int .i64 y0] 29) = W2 := ⟨_, rfl⟩
      rw [hW2] at ST
      have hb2 : Below wr.heap.size wr W2 := by rw [← hW2]; exact below_new wr _
      have HRB : Hid (RowC W2 wr.heap.size 29 (prL x0 y0)) := by show RowC _ _ _ _; rw [← hW2]; exact RowC.new wr _ _
      have HB2 : Hid (Below w.heap.size w W2) := HB.out.trans (hb2.mono HB.out.size)
      obtain ⟨W, hW⟩ : ∃ W, W2.drew = W := ⟨_, rfl⟩
      have hbW : Below W2.heap.size W2 W := by rw [← hW]; exact (Below.refl _ W2).drew
      have HBW : Hid (Below w.heap.size w W) := HB2.out.trans (hbW.mono HB2.out.size)
      have HRW := Lib.hid (HRB.out.below hbW)
      obtain ⟨B, hBn⟩ : ∃ B, wr.heap.size = B := ⟨_, rfl⟩
      rw [hBn] at ST HRW HRB
      have d0 := HRW.out.cell 0 _ rfl
      have d1 := HRW.out.cell 1 _ rfl
      have HLT := Lib.hid hlt
      clear hp hbb c1 c2 hlt hb2 hst hW2 HB HRB hbW HR
      by_cases q1 : x0 < 0
      · have e1 : decide (x0 < 0) = true := by simpa using q1
        have hl := HL1.out
        have HG : Hid (tGood l bl ar = false) := by
          show _ = _
          unfold tGood
          rw [HST.out, show decide (last < x0) = false by simp; omega]
          simp
        go_wp2_with fail
        refine region_plan (fun x => x = W) 34 (.takes [0, 1, 2, 3, 4, 5, 6, 7, 8, 9, 10, 11, 12, 13, 14, 15, 16, 17, 18, 19, 20, 21, 22, 23, 24, 25, 26, 27, 28, 29, 30, 31, 32, 33] .leaf) hmx (by kernel_rfl) (by intro c x v a w h; cases x <;> exact h) hW ?_
        rw [hW]
        clear hW
        repeat (rw [wpPlan_takes_cons]; simp only [nth_zero, nth_succ]; go_big_quiet_step (fail); try (with_reducible refine wpQuiet_nil ?_); try rw [HD5.out])
        rw [wpPlan_takes_nil, wpPlan_leaf]
        simp only [List.drop_succ_cons, List.drop_zero]
        go_wp2_with fail
        go_ret
        exact ⟨by rw [HG.out]; rfl, HBW.out⟩
      · have e1 : decide (x0 < 0) = false := by simpa using q1
        by_cases q2 : bl ≤ x0
        · have e2 : decide (x0 ≥ bl) = true := by simpa using q2
          have HG : Hid (tGood l bl ar = false) := by
            show _ = _
            unfold tGood
            rw [HST.out, show decide (x0 < bl) = false by simp; omega]
            simp
          go_wp2_with fail
          refine region_plan (fun x => x = W) 34 (.takes [0, 1, 2, 3, 4, 5, 6, 7, 8, 9, 10, 11, 12, 13, 14, 15, 16, 17, 18, 19, 20, 21, 22, 23, 24, 25, 26, 27, 28, 29, 30, 31, 32, 33] .leaf) hmx (by kernel_rfl) (by intro c x v a w h; cases x <;> exact h) hW ?_
          rw [hW]
          clear hW
          repeat (rw [wpPlan_takes_cons]; simp only [nth_zero, nth_succ]; go_big_quiet_step (fail); try (with_reducible refine wpQuiet_nil ?_); try rw [HD5.out])
          rw [wpPlan_takes_nil, wpPlan_leaf]
          simp only [List.drop_succ_cons, List.drop_zero]
          go_wp2_with fail
          go_ret
          exact ⟨by rw [HG.out]; rfl, HBW.out⟩
        · have e2 : decide (x0 ≥ bl) = false := by simpa using q2
          by_cases q3 : y0 < 0
          · have e3 : decide (y0 < 0) = true := by simpa using q3
            have HG : Hid (tGood l bl ar = false) := by
              show _ = _
              unfold tGood
              rw [HST.out, show decide (0 ≤ y0) = false by simp; omega]
              simp
            go_wp2_with fail
            refine region_plan (fun x => x = W) 34 (.takes [0, 1, 2, 3, 4, 5, 6, 7, 8, 9, 10, 11, 12, 13, 14, 15, 16, 17, 18, 19, 20, 21, 22, 23, 24, 25, 26, 27, 28, 29, 30, 31, 32, 33] .leaf) hmx (by kernel_rfl) (by intro c x v a w h; cases x <;> exact h) hW ?_
            rw [hW]
            clear hW
            repeat (rw [wpPlan_takes_cons]; simp only [nth_zero, nth_succ]; go_big_quiet_step (fail); try (with_reducible refine wpQuiet_nil ?_); try rw [HD5.out])
            rw [wpPlan_takes_nil, wpPlan_leaf]
            simp only [List.drop_succ_cons, List.drop_zero]
            go_wp2_with fail
            go_ret
            exact ⟨by rw [HG.out]; rfl, HBW.out⟩
          · have e3 : decide (y0 < 0) = false := by simpa using q3
            by_cases q4 : ar ≤ y0
            · have e4 : decide (y0 ≥ ar) = true := by simpa using q4
              have HG : Hid (tGood l bl ar = false) := by
                show _ = _
                unfold tGood
                rw [HST.out, show decide (y0 < ar) = false by simp; omega]
                simp
              go_wp2_with fail
              refine region_plan (fun x => x = W) 34 (.takes [0, 1, 2, 3, 4, 5, 6, 7, 8, 9, 10, 11, 12, 13, 14, 15, 16, 17, 18, 19, 20, 21, 22, 23, 24, 25, 26, 27, 28, 29, 30, 31, 32, 33] .leaf) hmx (by kernel_rfl) (by intro c x v a w h; cases x <;> exact h) hW ?_
              rw [hW]
              clear hW
              repeat (rw [wpPlan_takes_cons]; simp only [nth_zero, nth_succ]; go_big_quiet_step (fail); try (with_reducible refine wpQuiet_nil ?_); try rw [HD5.out])
              rw [wpPlan_takes_nil, wpPlan_leaf]
              simp only [List.drop_succ_cons, List.drop_zero]
              go_wp2_with fail
              go_ret
              exact ⟨by rw [HG.out]; rfl, HBW.out⟩
            · have e4 : decide (y0 ≥ ar) = false := by simpa using q4
              by_cases hk0 : k = 0
              · have hl0 := HL0.out hk0
                have HX0 : Hid (-1 ≤ x0) := by show -1 ≤ x0; omega
                have HRN : Hid (tRise bl ar (-1) l = tRise bl ar x0 (l.drop (k + 1))) := by
                  show _ = _
                  rw [HST.out, show decide (last < x0) = true by simp; omega, show decide (x0 < bl) = true by simp; omega, show decide (0 ≤ y0) = true by simp; omega, show decide (y0 < ar) = true by simp; omega]
                  rfl
                have HD5 : Hid (decide (0 < k) = false) := by show _ = _; simp; omega
                have HK0 := Lib.hid hk0
                clear hl0 hk0
                go_wp2_with fail
                refine region_plan (fun x => x = W) 34 (.takes [0, 1, 2, 3, 4, 5, 6, 7, 8, 9, 10, 11, 12, 13, 14, 15, 16, 17, 18, 19, 20, 21, 22, 23, 24, 25, 26, 27, 28, 29, 30, 31, 32, 33] .leaf) hmx (by kernel_rfl) (by intro c x v a w h; cases x <;> exact h) hW ?_
                rw [hW]
                clear hW
                repeat (rw [wpPlan_takes_cons]; simp only [nth_zero, nth_succ]; go_big_quiet_step (fail); try (with_reducible refine wpQuiet_nil ?_); try rw [HD5.out])
                rw [wpPlan_takes_nil, wpPlan_leaf]
                simp only [List.drop_succ_cons, List.drop_zero]
                go_wp2_with fail
                go_loopw [9] (fun jv wr => ∃ j : Nat, j ≤ k ∧ jv = .int .i64 (j : Int) ∧ Hid (∀ (i : Nat) (p : Int × Int), i < j → l[i]? = some p → p.2 ≠ y0) ∧ Hid (Below W.heap.size W wr)) (fun jv _ => k - (intOf jv).toNat)
                case atStart => exact ⟨0, Nat.zero_le _, rfl, fun i p h => absurd h (by omega), Below.refl _ _⟩
                case round =>
                  obtain ⟨j, hj, rfl, HS, HBI⟩ := hrel
                  by_cases hjk : j < k
                  · obtain ⟨q, hq⟩ : ∃ q, l[j]? = some q := ⟨_, List.getElem?_eq_getElem (by rw [HN.out]; have := HLT.out; omega)⟩
                    have hbi : Below w.heap.size w wr := HBW.out.trans (HBI.out.mono HBW.out.size)
                    obtain ⟨bb', off', he, hbb, c1, c2⟩ := (HP.out.below hbi).at hq
                    obtain ⟨x1, y1⟩ := q
                    cases he
                    simp only at c1 c2
                    obtain ⟨V, hV⟩ : ∃ V, wr.drew = V := ⟨_, rfl⟩
                    have c3 : V.cell? ⟨bb, off + j * 2 + 1, none⟩ = some (.int .i64 y1) := by rw [← hV]; exact c2
                    have c4 : V.cell? ⟨B, 1, none⟩ = some (.int .i64 y0) := by rw [← hV]; exact (HRW.out.below HBI.out).cell 1 _ rfl
                    have HBV : Hid (Below W.heap.size W V) := by show Below _ _ _; rw [← hV]; exact HBI.out.drew
                    have g3 : (j : Int) < (k : Int) := by omega
                    have HQ := Lib.hid hq
                    have HJK := Lib.hid hjk
                    have gj : (j : Int) < (n : Int) := by have := HLT.out; omega
                    have HWJ : Hid (wrap64 ((j : Int) + 1) = (j : Int) + 1) := IntWalk.wrap64_in _ (by omega)
                    clear hq hbi hbb c1 c2 hjk
                    go_wp2_with fail
                    refine region_plan (fun x => x = V) 7 (.takes [0, 1, 2, 3, 4, 5, 6] .leaf) hmx (by kernel_rfl) (by intro c x v a w h; cases x <;> exact h) hV ?_
                    rw [hV]
                    clear hV
                    repeat (rw [wpPlan_takes_cons]; simp only [nth_zero, nth_succ]; go_big_quiet_step (fail); refine wpQuiet_nil ?_)
                    rw [wpPlan_takes_nil, wpPlan_leaf]
                    simp only [List.drop_succ_cons, List.drop_zero]
                    by_cases hy : y1 = y0
                    · have qy : (y1 == y0) = true := by simpa using hy
                      have HG : Hid (tGood l bl ar = false) := by
                        show _ = _
                        unfold tGood
                        rw [decide_eq_false (nodup_not HQ.out HPK.out HJK.out hy), Bool.and_false]
                      have HBF : Hid (Below w.heap.size w V) := HBW.out.trans (HBV.out.mono HBW.out.size)
                      clear hy
                      go_wp2_with fail
                      go_ret
                      exact ⟨by rw [HG.out]; rfl, HBF.out⟩
                    · have qy : (y1 == y0) = false := by simpa using hy
                      have HS1 : Hid (∀ (i : Nat) (p : Int × Int), i < j + 1 → l[i]? = some p → p.2 ≠ y0) := fun i p hi hp => by
                        by_cases e : i = j
                        · subst e; rw [HQ.out] at hp; cases hp; exact hy
                        · exact HS.out i p (by omega) hp
                      go_wp2_with fail
                      exact ⟨⟨j + 1, HJK.out, by simp, HS1, HBV⟩, by have := HJK.out; simp [intOf]; omega⟩
                  · have e : k = j := by omega
                    have HDN : Hid (((l.take (k + 1)).map (·.2)).Nodup) := nodup_snoc HPK.out HD.out (by rw [e]; exact HS.out)
                    have HBF : Hid (Below w.heap.size w wr) := HBW.out.trans (HBI.out.mono HBW.out.size)
                    have g5 : decide ((j : Int) < (k : Int)) = false := by simp; omega
                    have g6 : ¬ ((j : Int) < (k : Int)) := by omega
                    have HPK2 : Hid (∃ p, l[k + 1 - 1]? = some p ∧ p.1 = x0) := ⟨(x0, y0), HPK.out, rfl⟩
                    clear e
                    go_wp2_with fail
                    exact ⟨⟨k + 1, x0, HLT.out, by simp, HX0, fun _ => HPK2.out, fun h => by simp at h, HRN, HDN, HBF⟩, by have := HLT.out; simp [intOf]; omega⟩
              · obtain ⟨pp, hpp, hpl⟩ := HLP.out (by omega)
                obtain ⟨xp, yp⟩ := pp
                simp only at hpl
                subst hpl
                obtain ⟨bb', off', he, hbb, c1, c2⟩ := (HP.out.below HBW.out).at hpp
                cases he
                simp only at c1
                obtain ⟨m, hm⟩ : ∃ m, k - 1 = m := ⟨_, rfl⟩
                rw [hm] at c1
                have HD5 : Hid (decide (0 < k) = true) := by show _ = _; simp; omega
                have hkm : (k : Int) - 1 = (m : Int) := by omega
                have hmn : (m : Int) < (n : Int) := by omega
                clear hbb c2 hpp hm hk0
                by_cases q6 : x0 ≤ xp
                · have e6 : decide (x0 ≤ xp) = true := by simpa using q6
                  have HG : Hid (tGood l bl ar = false) := by
                    show _ = _
                    unfold tGood
                    rw [HST.out, show decide (xp < x0) = false by simp; omega]
                    simp
                  go_wp2_with fail
                  refine region_plan (fun x => x = W) 34 (.takes [0, 1, 2, 3, 4, 5, 6, 7, 8, 9, 10, 11, 12, 13, 14, 15, 16, 17, 18, 19, 20, 21, 22, 23, 24, 25, 26, 27, 28, 29, 30, 31, 32, 33] .leaf) hmx (by kernel_rfl) (by intro c x v a w h; cases x <;> exact h) hW ?_
                  rw [hW]
                  clear hW
                  repeat (rw [wpPlan_takes_cons]; simp only [nth_zero, nth_succ]; go_big_quiet_step (fail); try (with_reducible refine wpQuiet_nil ?_); try rw [HD5.out])
                  rw [wpPlan_takes_nil, wpPlan_leaf]
                  simp only [List.drop_succ_cons, List.drop_zero]
                  go_wp2_with fail
                  go_ret
                  exact ⟨by rw [HG.out]; rfl, HBW.out⟩
                · have e6 : decide (x0 ≤ xp) = false := by simpa using q6
                  have HX0 : Hid (-1 ≤ x0) := by show -1 ≤ x0; omega
                  have HRN : Hid (tRise bl ar (-1) l = tRise bl ar x0 (l.drop (k + 1))) := by
                    show _ = _
                    rw [HST.out, show decide (xp < x0) = true by simp; omega, show decide (x0 < bl) = true by simp; omega, show decide (0 ≤ y0) = true by simp; omega, show decide (y0 < ar) = true by simp; omega]
                    rfl
                  go_wp2_with fail
                  refine region_plan (fun x => x = W) 34 (.takes [0, 1, 2, 3, 4, 5, 6, 7, 8, 9, 10, 11, 12, 13, 14, 15, 16, 17, 18, 19, 20, 21, 22, 23, 24, 25, 26, 27, 28, 29, 30, 31, 32, 33] .leaf) hmx (by kernel_rfl) (by intro c x v a w h; cases x <;> exact h) hW ?_
                  rw [hW]
                  clear hW
                  repeat (rw [wpPlan_takes_cons]; simp only [nth_zero, nth_succ]; go_big_quiet_step (fail); try (with_reducible refine wpQuiet_nil ?_); try rw [HD5.out])
                  rw [wpPlan_takes_nil, wpPlan_leaf]
                  simp only [List.drop_succ_cons, List.drop_zero]
                  go_wp2_with fail
                  go_loopw [9] (fun jv wr => ∃ j : Nat, j ≤ k ∧ jv = .int .i64 (j : Int) ∧ Hid (∀ (i : Nat) (p : Int × Int), i < j → l[i]? = some p → p.2 ≠ y0) ∧ Hid (Below W.heap.size W wr)) (fun jv _ => k - (intOf jv).toNat)
                  case atStart => exact ⟨0, Nat.zero_le _, rfl, fun i p h => absurd h (by omega), Below.refl _ _⟩
                  case round =>
                    obtain ⟨j, hj, rfl, HS, HBI⟩ := hrel
                    by_cases hjk : j < k
                    · obtain ⟨q, hq⟩ : ∃ q, l[j]? = some q := ⟨_, List.getElem?_eq_getElem (by rw [HN.out]; have := HLT.out; omega)⟩
                      have hbi : Below w.heap.size w wr := HBW.out.trans (HBI.out.mono HBW.out.size)
                      obtain ⟨bb', off', he, hbb, c1, c2⟩ := (HP.out.below hbi).at hq
                      obtain ⟨x1, y1⟩ := q
                      cases he
                      simp only at c1 c2
                      obtain ⟨V, hV⟩ : ∃ V, wr.drew = V := ⟨_, rfl⟩
                      have c3 : V.cell? ⟨bb, off + j * 2 + 1, none⟩ = some (.int .i64 y1) := by rw [← hV]; exact c2
                      have c4 : V.cell? ⟨B, 1, none⟩ = some (.int .i64 y0) := by rw [← hV]; exact (HRW.out.below HBI.out).cell 1 _ rfl
                      have HBV : Hid (Below W.heap.size W V) := by show Below _ _ _; rw [← hV]; exact HBI.out.drew
                      have g3 : (j : Int) < (k : Int) := by omega
                      have HQ := Lib.hid hq
                      have HJK := Lib.hid hjk
                      have gj : (j : Int) < (n : Int) := by have := HLT.out; omega
                      have HWJ : Hid (wrap64 ((j : Int) + 1) = (j : Int) + 1) := IntWalk.wrap64_in _ (by omega)
                      clear hq hbi hbb c1 c2 hjk
                      go_wp2_with fail
                      refine region_plan (fun x => x = V) 7 (.takes [0, 1, 2, 3, 4, 5, 6] .leaf) hmx (by kernel_rfl) (by intro c x v a w h; cases x <;> exact h) hV ?_
                      rw [hV]
                      clear hV
                      repeat (rw [wpPlan_takes_cons]; simp only [nth_zero, nth_succ]; go_big_quiet_step (fail); refine wpQuiet_nil ?_)
                      rw [wpPlan_takes_nil, wpPlan_leaf]
                      simp only [List.drop_succ_cons, List.drop_zero]
                      by_cases hy : y1 = y0
                      · have qy : (y1 == y0) = true := by simpa using hy
                        have HG : Hid (tGood l bl ar = false) := by
                          show _ = _
                          unfold tGood
                          rw [decide_eq_false (nodup_not HQ.out HPK.out HJK.out hy), Bool.and_false]
                        have HBF : Hid (Below w.heap.size w V) := HBW.out.trans (HBV.out.mono HBW.out.size)
                        clear hy
                        go_wp2_with fail
                        go_ret
                        exact ⟨by rw [HG.out]; rfl, HBF.out⟩
                      · have qy : (y1 == y0) = false := by simpa using hy
                        have HS1 : Hid (∀ (i : Nat) (p : Int × Int), i < j + 1 → l[i]? = some p → p.2 ≠ y0) := fun i p hi hp => by
                          by_cases e : i = j
                          · subst e; rw [HQ.out] at hp; cases hp; exact hy
                          · exact HS.out i p (by omega) hp
                        go_wp2_with fail
                        exact ⟨⟨j + 1, HJK.out, by simp, HS1, HBV⟩, by have := HJK.out; simp [intOf]; omega⟩
                    · have e : k = j := by omega
                      have HDN : Hid (((l.take (k + 1)).map (·.2)).Nodup) := nodup_snoc HPK.out HD.out (by rw [e]; exact HS.out)
                      have HBF : Hid (Below w.heap.size w wr) := HBW.out.trans (HBI.out.mono HBW.out.size)
                      have g5 : decide ((j : Int) < (k : Int)) = false := by simp; omega
                      have g6 : ¬ ((j : Int) < (k : Int)) := by omega
                      have HPK2 : Hid (∃ p, l[k + 1 - 1]? = some p ∧ p.1 = x0) := ⟨(x0, y0), HPK.out, rfl⟩
                      clear e
                      go_wp2_with fail
                      exact ⟨⟨k + 1, x0, HLT.out, by simp, HX0, fun _ => HPK2.out, fun h => by simp at h, HRN, HDN, HBF⟩, by have := HLT.out; simp [intOf]; omega⟩
    · obtain rfl : k = n := by omega
      rw [List.take_of_length_le (by rw [HN.out]; exact Nat.le_refl _)] at HD
      rw [List.drop_of_length_le (by rw [HN.out]; exact Nat.le_refl _)] at HR
      have HG : Hid (tGood l bl ar = true) := by
        show _ = _
        unfold tGood
        rw [HR.out, decide_eq_true HD.out]
        rfl
      go_wp2_with fail
      go_ret
      exact ⟨by rw [HG.out]; rfl, HB.out⟩
end Go.Proofs.Ytlnkfphkgjcdiaa
