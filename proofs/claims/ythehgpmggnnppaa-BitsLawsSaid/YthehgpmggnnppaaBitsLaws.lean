/- Both sets together are the same in any order, a set with itself is itself, a number put in twice is in once; for every input. -/
import Derived.Test.YthehgpmggnnppaaBiWk
import Derived.Test.YthehgpmggnnppaaBiSet
import Derived.Test.YthehgpmggnnppaaArgSl
namespace Go.Proofs.Ythehgpmggnnppaa.bitsLaws
open Go.ChangeShapes Go.WideShapes Go.ChangeAt Go.RowKit
set_option linter.unusedVariables false

set_option maxRecDepth 100000 in
set_option maxHeartbeats 3000000 in
theorem walk (v0 v1 v2 : Value) (w : World) (w0 : Arg w 22 v0) (w1 : Arg w 22 v1) (w2 : Arg w 22 v2) :
    Calls Try.prog 5 #[v0, v1, v2] w fun e w' => e = .returned (.bool true) ∧ Below w.heap.size w w' := by
  have hmx : Try.prog.follows .mixedOrders = true := by kernel_rfl
  obtain ⟨a, la, ca, xa, rfl, hla, hma, hsa, hba⟩ := w0.bytes Try.underlying22 Try.underlying5 (by kernel_rfl)
  have HLa := Lib.hid hla
  have HSa := Lib.hid hsa
  have HBa := Lib.hid hba
  obtain ⟨b, lb, cb, xb, rfl, hlb, hmb, hsb, hbb⟩ := w1.bytes Try.underlying22 Try.underlying5 (by kernel_rfl)
  have HLb := Lib.hid hlb
  have HSb := Lib.hid hsb
  have HBb := Lib.hid hbb
  obtain ⟨c, lc, cc, xc, rfl, hlc, hmc, hsc, hbc⟩ := w2.bytes Try.underlying22 Try.underlying5 (by kernel_rfl)
  have HLc := Lib.hid hlc
  have HSc := Lib.hid hsc
  have HBc := Lib.hid hbc
  clear hla hlb hlc hsa hsb hsc hba hbb hbc w0 w1 w2
  by_cases h1 : 40 < la
  · have qa : (40 : Int) < (la : Int) := by omega
    go_enter Try.func5, Try.ntmps5
    go_wp2_with fail
    refine (bi_wakes _).mono ?_
    rintro e W1 ⟨rfl, b2⟩
    have F3 := Lib.hid (HSa.out.below b2)
    have F4 := Lib.hid (HSb.out.below b2)
    have F5 := Lib.hid (HSc.out.below b2)
    have B6 := Lib.hid b2
    clear HSa HSb HSc
    clear b2
    go_wp2_with fail
    go_ret
    exact ⟨rfl, B6.out⟩
  by_cases h2 : 40 < lb
  · have qa : ¬ (40 : Int) < (la : Int) := by omega
    have qb : (40 : Int) < (lb : Int) := by omega
    go_enter Try.func5, Try.ntmps5
    go_wp2_with fail
    refine (bi_wakes _).mono ?_
    rintro e W1 ⟨rfl, b2⟩
    have F3 := Lib.hid (HSa.out.below b2)
    have F4 := Lib.hid (HSb.out.below b2)
    have F5 := Lib.hid (HSc.out.below b2)
    have B6 := Lib.hid b2
    clear HSa HSb HSc
    clear b2
    go_wp2_with fail
    go_ret
    exact ⟨rfl, B6.out⟩
  by_cases h3 : 40 < lc
  · have qa : ¬ (40 : Int) < (la : Int) := by omega
    have qb : ¬ (40 : Int) < (lb : Int) := by omega
    have qc : (40 : Int) < (lc : Int) := by omega
    go_enter Try.func5, Try.ntmps5
    go_wp2_with fail
    refine (bi_wakes _).mono ?_
    rintro e W1 ⟨rfl, b2⟩
    have F3 := Lib.hid (HSa.out.below b2)
    have F4 := Lib.hid (HSb.out.below b2)
    have F5 := Lib.hid (HSc.out.below b2)
    have B6 := Lib.hid b2
    clear HSa HSb HSc
    clear b2
    go_wp2_with fail
    go_ret
    exact ⟨rfl, B6.out⟩
  have qa : ¬ (40 : Int) < (la : Int) := by omega
  have qb : ¬ (40 : Int) < (lb : Int) := by omega
  have qc : ¬ (40 : Int) < (lc : Int) := by omega
  have Na : Hid (xa.length ≤ 40) := by show _ ≤ _; rw [HLa.out]; omega
  have Nb : Hid (xb.length ≤ 40) := by show _ ≤ _; rw [HLb.out]; omega
  have Nc : Hid (xc.length ≤ 40) := by show _ ≤ _; rw [HLc.out]; omega
  clear h1 h2 h3
  go_enter Try.func5, Try.ntmps5
  go_wp2_with fail
  refine (bi_or _ _ _ _ _ HSb.out HSc.out HBb.out HBc.out (by have := Na.out; have := Nb.out; have := Nc.out; first | omega | (simp only [or_length]; omega)) (by have := Na.out; have := Nb.out; have := Nc.out; first | omega | (simp only [or_length]; omega))).mono ?_
  rintro e W1 ⟨v3, rfl, h4, b2⟩
  have F5 := Lib.hid (HSa.out.below b2)
  have F6 := Lib.hid (HSb.out.below b2)
  have F7 := Lib.hid (HSc.out.below b2)
  have B8 := Lib.hid b2
  clear HSa HSb HSc
  clear b2
  have F9 := Lib.hid h4
  clear h4
  go_wp2_with fail
  refine (bi_or _ _ _ _ _ F5.out F9.out HBa.out (or_bytes HBb.out HBc.out) (by have := Na.out; have := Nb.out; have := Nc.out; first | omega | (simp only [or_length]; omega)) (by have := Na.out; have := Nb.out; have := Nc.out; first | omega | (simp only [or_length]; omega))).mono ?_
  rintro e W10 ⟨v12, rfl, h13, b11⟩
  have F14 := Lib.hid (F5.out.below b11)
  have F15 := Lib.hid (F6.out.below b11)
  have F16 := Lib.hid (F7.out.below b11)
  have F17 := Lib.hid (F9.out.below b11)
  have B18 := Lib.hid (B8.out.trans (b11.mono B8.out.size))
  clear F5 F6 F7 F9 B8
  clear b11
  have F19 := Lib.hid h13
  clear h13
  clear F17
  go_wp2_with fail
  refine (bi_or _ _ _ _ _ F14.out F15.out HBa.out HBb.out (by have := Na.out; have := Nb.out; have := Nc.out; first | omega | (simp only [or_length]; omega)) (by have := Na.out; have := Nb.out; have := Nc.out; first | omega | (simp only [or_length]; omega))).mono ?_
  rintro e W20 ⟨v22, rfl, h23, b21⟩
  have F24 := Lib.hid (F14.out.below b21)
  have F25 := Lib.hid (F15.out.below b21)
  have F26 := Lib.hid (F16.out.below b21)
  have F27 := Lib.hid (F19.out.below b21)
  have B28 := Lib.hid (B18.out.trans (b21.mono B18.out.size))
  clear F14 F15 F16 F19 B18
  clear b21
  have F29 := Lib.hid h23
  clear h23
  go_wp2_with fail
  refine (bi_or _ _ _ _ _ F29.out F26.out (or_bytes HBa.out HBb.out) HBc.out (by have := Na.out; have := Nb.out; have := Nc.out; first | omega | (simp only [or_length]; omega)) (by have := Na.out; have := Nb.out; have := Nc.out; first | omega | (simp only [or_length]; omega))).mono ?_
  rintro e W30 ⟨v32, rfl, h33, b31⟩
  have F34 := Lib.hid (F24.out.below b31)
  have F35 := Lib.hid (F25.out.below b31)
  have F36 := Lib.hid (F26.out.below b31)
  have F37 := Lib.hid (F27.out.below b31)
  have F38 := Lib.hid (F29.out.below b31)
  have B39 := Lib.hid (B28.out.trans (b31.mono B28.out.size))
  clear F24 F25 F26 F27 F29 B28
  clear b31
  have F40 := Lib.hid h33
  clear h33
  clear F38
  rw [← or_assoc HBa.out HBb.out HBc.out] at F40
  go_wp2_with fail
  refine (bytes_yes _ _ _ _ F37.out F40.out).mono ?_
  rintro e w9 ⟨rfl, h41⟩
  obtain rfl := h41.symm
  clear F40
  go_wp2_with fail
  refine (bi_or _ _ _ _ _ F34.out F35.out HBa.out HBb.out (by have := Na.out; have := Nb.out; have := Nc.out; first | omega | (simp only [or_length]; omega)) (by have := Na.out; have := Nb.out; have := Nc.out; first | omega | (simp only [or_length]; omega))).mono ?_
  rintro e W42 ⟨v44, rfl, h45, b43⟩
  have F46 := Lib.hid (F34.out.below b43)
  have F47 := Lib.hid (F35.out.below b43)
  have F48 := Lib.hid (F36.out.below b43)
  have F49 := Lib.hid (F37.out.below b43)
  have B50 := Lib.hid (B39.out.trans (b43.mono B39.out.size))
  clear F34 F35 F36 F37 B39
  clear b43
  have F51 := Lib.hid h45
  clear h45
  go_wp2_with fail
  refine (bi_or _ _ _ _ _ F47.out F46.out HBb.out HBa.out (by have := Na.out; have := Nb.out; have := Nc.out; first | omega | (simp only [or_length]; omega)) (by have := Na.out; have := Nb.out; have := Nc.out; first | omega | (simp only [or_length]; omega))).mono ?_
  rintro e W52 ⟨v54, rfl, h55, b53⟩
  have F56 := Lib.hid (F46.out.below b53)
  have F57 := Lib.hid (F47.out.below b53)
  have F58 := Lib.hid (F48.out.below b53)
  have F59 := Lib.hid (F49.out.below b53)
  have F60 := Lib.hid (F51.out.below b53)
  have B61 := Lib.hid (B50.out.trans (b53.mono B50.out.size))
  clear F46 F47 F48 F49 F51 B50
  clear b53
  have F62 := Lib.hid h55
  clear h55
  rw [or_comm xb xa] at F62
  go_wp2_with fail
  refine (bytes_yes _ _ _ _ F60.out F62.out).mono ?_
  rintro e w9 ⟨rfl, h63⟩
  obtain rfl := h63.symm
  clear F60
  clear F62
  go_wp2_with fail
  refine (bi_or _ _ _ _ _ F56.out F56.out HBa.out HBa.out (by have := Na.out; have := Nb.out; have := Nc.out; first | omega | (simp only [or_length]; omega)) (by have := Na.out; have := Nb.out; have := Nc.out; first | omega | (simp only [or_length]; omega))).mono ?_
  rintro e W64 ⟨v66, rfl, h67, b65⟩
  have F68 := Lib.hid (F56.out.below b65)
  have F69 := Lib.hid (F57.out.below b65)
  have F70 := Lib.hid (F58.out.below b65)
  have F71 := Lib.hid (F59.out.below b65)
  have B72 := Lib.hid (B61.out.trans (b65.mono B61.out.size))
  clear F56 F57 F58 F59 B61
  clear b65
  have F73 := Lib.hid h67
  clear h67
  rw [or_self HBa.out] at F73
  go_wp2_with fail
  refine (bytes_yes _ _ _ _ F73.out F68.out).mono ?_
  rintro e w9 ⟨rfl, h74⟩
  obtain rfl := h74.symm
  clear F73
  go_wp2_with fail
  refine (bi_all _ _ _ F68.out HBa.out (by have := Na.out; have := Nb.out; have := Nc.out; first | omega | (simp only [or_length]; omega))).mono ?_
  rintro e W75 ⟨v77, rfl, h78, b76⟩
  have F79 := Lib.hid (F68.out.below b76)
  have F80 := Lib.hid (F69.out.below b76)
  have F81 := Lib.hid (F70.out.below b76)
  have F82 := Lib.hid (F71.out.below b76)
  have B83 := Lib.hid (B72.out.trans (b76.mono B72.out.size))
  clear F68 F69 F70 F71 B72
  clear b76
  have F84 := Lib.hid (sl_nat h78)
  clear h78
  obtain ⟨a85, c86, rfl, -, -, -, -⟩ := F84.out
  have HLN : Hid ((allB xa).length ≤ 320) := by show _ ≤ _; have := all_len xa; have := Na.out; omega
  obtain ⟨m, hm⟩ : ∃ m, (allB xa).length = m := ⟨_, rfl⟩
  have HSl : Hid (Sl .i64 W75 (.slice a85 m c86) ((allB xa).map (fun k : Nat => (k : Int)))) := by have := F84.out; rw [List.length_map, hm] at this; exact this
  clear F84
  rw [List.length_map, hm]
  rw [hm] at HLN
  have HM := Lib.hid hm
  have hm3 : m ≤ 320 := HLN.out
  clear hm
  go_wp2_with fail
  go_loopw [10] (fun i wr => ∃ k : Nat, k ≤ m ∧ i = .int .i64 (k : Int) ∧ Hid (Below W75.heap.size W75 wr)) (fun i _ => m - (intOf i).toNat)
  case atStart => exact ⟨0, Nat.zero_le _, rfl, Below.refl _ _⟩
  case round =>
    obtain ⟨k, hk, rfl, HE⟩ := hrel
    have F87 := Lib.hid (F79.out.below HE.out)
    have F88 := Lib.hid (F80.out.below HE.out)
    have F89 := Lib.hid (F81.out.below HE.out)
    have F90 := Lib.hid (F82.out.below HE.out)
    have F91 := Lib.hid (HSl.out.below HE.out)
    have B92 := Lib.hid (B83.out.trans (HE.out.mono B83.out.size))
    clear F79 F80 F81 F82 HSl B83
    by_cases hlt : k < m
    · have hlw := F91.out
      obtain ⟨e, hek⟩ : ∃ e, (allB xa)[k]? = some e := ⟨_, List.getElem?_eq_getElem (by rw [HM.out]; exact hlt)⟩
      have hin : bitAt xa e = true := mem_all.1 (List.mem_of_getElem? hek)
      have HIN := Lib.hid hin
      have he320 : e < 320 := by have := bit_in hin; have := Na.out; omega
      obtain ⟨gl, ol, rfl, hgl, hcl⟩ : ∃ gl ol, a85 = some ⟨gl, ol, none⟩ ∧ gl < wr.heap.size ∧ ∀ j, j < m → wr.cell? ⟨gl, ol + j, none⟩ = some (.int .i64 (((allB xa).map (fun k : Nat => (k : Int)))[j]?.getD 0)) := by
        obtain ⟨_, _, e1, _, _, hh, _⟩ := hlw
        simp only [Value.slice.injEq] at e1
        obtain ⟨rfl, _, rfl⟩ := e1
        rcases hh with hh | ⟨gl, ol, h1, h2, h3⟩
        · have := congrArg List.length hh; rw [List.length_map, HM.out] at this; simp at this; omega
        · exact ⟨gl, ol, h1, h2, fun j hj => h3 j (by rw [List.length_map, HM.out]; exact hj)⟩
      have c0 : ∀ y : Ext wr, y.1.cell? ⟨gl, ol + k, none⟩ = some (.int .i64 (e : Int)) := fun y => by
        rw [y.2.cell (p := ⟨gl, ol + k, none⟩) hgl, hcl k hlt, List.getElem?_map, hek]; rfl
      have HLT := Lib.hid hlt
      have g1 : (k : Int) < (m : Int) := by omega
      have HX : Hid (hasB (orB xa (orB xb xc)) (e : Int) = true) := by show _ = _; rw [has_nat, or_bit, HIN.out, Bool.true_or]
      have HW0 : Hid (withB xa (e : Int) = xa) := with_in HBa.out HIN.out
      clear hlw
      rcases Nat.eq_zero_or_pos k with h0 | h0
      · have HD : Hid (decide (0 < k) = false) := decide_eq_false (by omega)
        clear h0 hek hin hcl hlt hk
        go_wp2_with fail
        refine region_plan (fun x => ∃ y : Ext wr, x = y.1) 33 (.takes [0, 1, 2, 3, 4] (.one 5 (.takes [6, 7, 8, 9, 10, 11, 12, 14] (.one 13 (.one 15 (.takes [16, 17, 18, 19, 20, 21, 22, 23, 24, 25, 26, 27, 28, 29, 30, 31, 32] .leaf)))))) hmx (by kernel_rfl) (by intro c x v a w h; cases x <;> exact h) ⟨⟨wr.drew, (Below.refl _ wr).drew⟩, rfl⟩ ?_
        repeat (rw [wpPlan_takes_cons]; simp only [nth_zero, nth_succ]; go_big_quiet_step (fail); try (with_reducible refine wpQuiet_nil ?_))
        rw [wpPlan_takes_nil, wpPlan_one]
        simp only [nth_zero, nth_succ]
        go_wp2_with fail
        have hD : Below wr.heap.size wr wr.drew := (Below.refl _ wr).drew
        have F93 := Lib.hid (F87.out.below hD)
        have F94 := Lib.hid (F88.out.below hD)
        have F95 := Lib.hid (F89.out.below hD)
        have F96 := Lib.hid (F90.out.below hD)
        have F97 := Lib.hid (F91.out.below hD)
        have B98 := Lib.hid hD
        clear F87 F88 F89 F90 F91
        clear hD
        refine (bi_has _ _ (e : Int) (wf_i64 (by omega) (by omega)) _ F96.out (or_bytes HBa.out (or_bytes HBb.out HBc.out))).mono ?_
        rintro e W99 ⟨rfl, b100⟩
        have F101 := Lib.hid (F93.out.below b100)
        have F102 := Lib.hid (F94.out.below b100)
        have F103 := Lib.hid (F95.out.below b100)
        have F104 := Lib.hid (F96.out.below b100)
        have F105 := Lib.hid (F97.out.below b100)
        have B106 := Lib.hid (B98.out.trans (b100.mono B98.out.size))
        clear F93 F94 F95 F96 F97 B98
        clear b100
        rw [HX.out]
        go_wp2_with fail
        refine planPost_mk ⟨⟨W99, B106.out⟩, rfl⟩ ?_
        repeat (rw [wpPlan_takes_cons]; simp only [nth_zero, nth_succ]; go_big_quiet_step (fail); try (with_reducible refine wpQuiet_nil ?_))
        rw [wpPlan_takes_nil, wpPlan_one]
        simp only [nth_zero, nth_succ]
        go_wp2_with fail
        refine (bi_with _ _ (e : Int) (wf_i64 (by omega) (by omega)) _ F101.out HBa.out (by have := Na.out; omega)).mono ?_
        rintro e W107 ⟨v109, rfl, h110, b108⟩
        have F111 := Lib.hid (F101.out.below b108)
        have F112 := Lib.hid (F102.out.below b108)
        have F113 := Lib.hid (F103.out.below b108)
        have F114 := Lib.hid (F104.out.below b108)
        have F115 := Lib.hid (F105.out.below b108)
        have B116 := Lib.hid (B106.out.trans (b108.mono B106.out.size))
        clear F101 F102 F103 F104 F105 B106
        clear b108
        have F117 := Lib.hid h110
        clear h110
        rw [HW0.out] at F117
        go_wp2_with fail
        refine planPost_mk ⟨⟨W107, B116.out⟩, rfl⟩ ?_
        rw [wpPlan_one]
        simp only [nth_zero, nth_succ]
        go_wp2_with fail
        refine (bytes_yes _ _ _ _ F117.out F111.out).mono ?_
        rintro e w9 ⟨rfl, h118⟩
        obtain rfl := h118.symm
        go_wp2_with fail
        refine planPost_mk ⟨⟨W107, B116.out⟩, rfl⟩ ?_
        repeat (rw [wpPlan_takes_cons]; simp only [nth_zero, nth_succ]; go_big_quiet_step (fail); try (with_reducible refine wpQuiet_nil ?_))
        rw [HD.out]
        repeat (rw [wpPlan_takes_cons]; simp only [nth_zero, nth_succ]; go_big_quiet_step (fail); try (with_reducible refine wpQuiet_nil ?_))
        rw [wpPlan_takes_nil, wpPlan_leaf]
        simp only [List.drop_succ_cons, List.drop_zero]
        clear c0
        go_wp2_with fail
        all_goals first | exact ⟨⟨k + 1, HLT.out, by simp, HE.out.trans (B116.out.mono HE.out.size)⟩, bi_lt HLT.out⟩ | (exfalso; omega)
      · obtain ⟨j, hkj⟩ : ∃ j, j + 1 = k := ⟨k - 1, by omega⟩
        obtain ⟨d, hdj⟩ : ∃ d, (allB xa)[j]? = some d := ⟨_, List.getElem?_eq_getElem (by rw [HM.out]; omega)⟩
        have hde : d < e := by
          have hp := all_sorted xa
          rw [List.pairwise_iff_getElem] at hp
          have h1 : j < (allB xa).length := by rw [HM.out]; omega
          have h2 : k < (allB xa).length := by rw [HM.out]; omega
          have := hp j k h1 h2 (by omega)
          rw [List.getElem?_eq_getElem h1] at hdj; rw [List.getElem?_eq_getElem h2] at hek
          rw [Option.some.inj hdj, Option.some.inj hek] at this; exact this
        have c1 : ∀ y : Ext wr, y.1.cell? ⟨gl, ol + j, none⟩ = some (.int .i64 (d : Int)) := fun y => by
          rw [y.2.cell (p := ⟨gl, ol + j, none⟩) hgl, hcl j (by omega), List.getElem?_map, hdj]; rfl
        have HD : Hid (decide (0 < k) = true) := decide_eq_true (by omega)
        have hle : decide ((e : Int) ≤ (d : Int)) = false := decide_eq_false (by omega)
        have hq : (k : Int) - 1 = (j : Int) := by omega
        have hjm : (j : Int) < (m : Int) := by omega
        have hk1 : 1 ≤ (k : Int) := by omega
        clear h0 hek hin hcl hlt hk hdj hkj
        go_wp2_with fail
        refine region_plan (fun x => ∃ y : Ext wr, x = y.1) 33 (.takes [0, 1, 2, 3, 4] (.one 5 (.takes [6, 7, 8, 9, 10, 11, 12, 14] (.one 13 (.one 15 (.takes [16, 17, 18, 19, 20, 21, 22, 23, 24, 25, 26, 27, 28, 29, 30, 31, 32] .leaf)))))) hmx (by kernel_rfl) (by intro c x v a w h; cases x <;> exact h) ⟨⟨wr.drew, (Below.refl _ wr).drew⟩, rfl⟩ ?_
        repeat (rw [wpPlan_takes_cons]; simp only [nth_zero, nth_succ]; go_big_quiet_step (fail); try (with_reducible refine wpQuiet_nil ?_))
        rw [wpPlan_takes_nil, wpPlan_one]
        simp only [nth_zero, nth_succ]
        go_wp2_with fail
        have hD : Below wr.heap.size wr wr.drew := (Below.refl _ wr).drew
        have F93 := Lib.hid (F87.out.below hD)
        have F94 := Lib.hid (F88.out.below hD)
        have F95 := Lib.hid (F89.out.below hD)
        have F96 := Lib.hid (F90.out.below hD)
        have F97 := Lib.hid (F91.out.below hD)
        have B98 := Lib.hid hD
        clear F87 F88 F89 F90 F91
        clear hD
        refine (bi_has _ _ (e : Int) (wf_i64 (by omega) (by omega)) _ F96.out (or_bytes HBa.out (or_bytes HBb.out HBc.out))).mono ?_
        rintro e W99 ⟨rfl, b100⟩
        have F101 := Lib.hid (F93.out.below b100)
        have F102 := Lib.hid (F94.out.below b100)
        have F103 := Lib.hid (F95.out.below b100)
        have F104 := Lib.hid (F96.out.below b100)
        have F105 := Lib.hid (F97.out.below b100)
        have B106 := Lib.hid (B98.out.trans (b100.mono B98.out.size))
        clear F93 F94 F95 F96 F97 B98
        clear b100
        rw [HX.out]
        go_wp2_with fail
        refine planPost_mk ⟨⟨W99, B106.out⟩, rfl⟩ ?_
        repeat (rw [wpPlan_takes_cons]; simp only [nth_zero, nth_succ]; go_big_quiet_step (fail); try (with_reducible refine wpQuiet_nil ?_))
        rw [wpPlan_takes_nil, wpPlan_one]
        simp only [nth_zero, nth_succ]
        go_wp2_with fail
        refine (bi_with _ _ (e : Int) (wf_i64 (by omega) (by omega)) _ F101.out HBa.out (by have := Na.out; omega)).mono ?_
        rintro e W107 ⟨v109, rfl, h110, b108⟩
        have F111 := Lib.hid (F101.out.below b108)
        have F112 := Lib.hid (F102.out.below b108)
        have F113 := Lib.hid (F103.out.below b108)
        have F114 := Lib.hid (F104.out.below b108)
        have F115 := Lib.hid (F105.out.below b108)
        have B116 := Lib.hid (B106.out.trans (b108.mono B106.out.size))
        clear F101 F102 F103 F104 F105 B106
        clear b108
        have F117 := Lib.hid h110
        clear h110
        rw [HW0.out] at F117
        go_wp2_with fail
        refine planPost_mk ⟨⟨W107, B116.out⟩, rfl⟩ ?_
        rw [wpPlan_one]
        simp only [nth_zero, nth_succ]
        go_wp2_with fail
        refine (bytes_yes _ _ _ _ F117.out F111.out).mono ?_
        rintro e w9 ⟨rfl, h118⟩
        obtain rfl := h118.symm
        go_wp2_with fail
        refine planPost_mk ⟨⟨W107, B116.out⟩, rfl⟩ ?_
        repeat (rw [wpPlan_takes_cons]; simp only [nth_zero, nth_succ]; go_big_quiet_step (fail); try (with_reducible refine wpQuiet_nil ?_))
        rw [HD.out]
        repeat (rw [wpPlan_takes_cons]; simp only [nth_zero, nth_succ]; go_big_quiet_step (fail); try (with_reducible refine wpQuiet_nil ?_))
        rw [wpPlan_takes_nil, wpPlan_leaf]
        simp only [List.drop_succ_cons, List.drop_zero]
        clear c0 c1
        go_wp2_with fail
        all_goals first | exact ⟨⟨k + 1, HLT.out, by simp, HE.out.trans (B116.out.mono HE.out.size)⟩, bi_lt HLT.out⟩ | (exfalso; omega)
    · obtain rfl : k = m := by omega
      clear hlt hk
      go_wp2_with fail
      refine (bi_count _ _ _ F90.out (or_bytes HBa.out (or_bytes HBb.out HBc.out)) (by have := Na.out; have := Nb.out; have := Nc.out; first | omega | (simp only [or_length]; omega))).mono ?_
      rintro e W93 ⟨rfl, b94⟩
      have F95 := Lib.hid (F87.out.below b94)
      have F96 := Lib.hid (F88.out.below b94)
      have F97 := Lib.hid (F89.out.below b94)
      have F98 := Lib.hid (F90.out.below b94)
      have F99 := Lib.hid (F91.out.below b94)
      have B100 := Lib.hid (B92.out.trans (b94.mono B92.out.size))
      clear F87 F88 F89 F90 F91 B92
      clear b94
      go_wp2_with fail
      refine (bi_count _ _ _ F95.out HBa.out (by have := Na.out; have := Nb.out; have := Nc.out; first | omega | (simp only [or_length]; omega))).mono ?_
      rintro e W101 ⟨rfl, b102⟩
      have F103 := Lib.hid (F95.out.below b102)
      have F104 := Lib.hid (F96.out.below b102)
      have F105 := Lib.hid (F97.out.below b102)
      have F106 := Lib.hid (F98.out.below b102)
      have F107 := Lib.hid (F99.out.below b102)
      have B108 := Lib.hid (B100.out.trans (b102.mono B100.out.size))
      clear F95 F96 F97 F98 F99 B100
      clear b102
      have hcl2 : (allB xa).length ≤ (allB (orB xa (orB xb xc))).length := count_le _ _ (fun i hi => by rw [or_bit, hi, Bool.true_or])
      rw [HM.out] at hcl2 ⊢
      obtain ⟨n9, hn9⟩ : ∃ n9, (allB (orB xa (orB xb xc))).length = n9 := ⟨_, rfl⟩
      rw [hn9] at hcl2 ⊢
      have hcl3 : (k : Int) ≤ (n9 : Int) := by omega
      clear hn9 hcl2
      go_wp2_with fail
      refine (bi_count _ _ _ F103.out HBa.out (by have := Na.out; have := Nb.out; have := Nc.out; first | omega | (simp only [or_length]; omega))).mono ?_
      rintro e W109 ⟨rfl, b110⟩
      have F111 := Lib.hid (F103.out.below b110)
      have F112 := Lib.hid (F104.out.below b110)
      have F113 := Lib.hid (F105.out.below b110)
      have F114 := Lib.hid (F106.out.below b110)
      have F115 := Lib.hid (F107.out.below b110)
      have B116 := Lib.hid (B108.out.trans (b110.mono B108.out.size))
      clear F103 F104 F105 F106 F107 B108
      clear b110
      rw [HM.out]
      go_wp2_with fail
      refine (bi_wakes _).mono ?_
      rintro e W117 ⟨rfl, b118⟩
      have F119 := Lib.hid (F111.out.below b118)
      have F120 := Lib.hid (F112.out.below b118)
      have F121 := Lib.hid (F113.out.below b118)
      have F122 := Lib.hid (F114.out.below b118)
      have F123 := Lib.hid (F115.out.below b118)
      have B124 := Lib.hid (B116.out.trans (b118.mono B116.out.size))
      clear F111 F112 F113 F114 F115 B116
      clear b118
      go_wp2_with fail
      go_ret
      exact ⟨rfl, B124.out⟩

set_option maxRecDepth 100000 in
theorem lifted (os : Os) (started : os.Started) (H : Type) (enc : TypeId × Value → H) :
    ReturnsInHanded {} Try.checked os 5 .any (Rows.bitsLawsSpec.pre6 enc Try.prog Try.f5 Rows.bitsLawsRow.domain false) (Rows.bitsLawsSpec.post enc Try.prog Try.f5 false true false false) := by
  refine returnsInHanded_of_change (C := Try.checked) own started (by kernel_rfl) Try.func5
    (ChangeSpec.witness6 (enc := enc) (C := Try.checked) false ⟨#[], #[.slice none 0 0, .slice none 0 0, .slice none 0 0], []⟩ 8 (by kernel_rfl) (by kernel_rfl) (by kernel_rfl) (by kernel_rfl)) ?_
  intro W base args ds gs before hval0 hW hcnd _
  have hval : ∀ (j : Nat) t v, Try.f5.params[j]? = some t → args[j]? = some v → Value.okWide Try.prog W .any base t v := hval0
  have hW' := hW
  obtain ⟨p, q, hA0, hV, rfl, hfz, hnd⟩ := hW
  have hA : DataW.TrodAll enc Try.prog W 0 (fun _ => true) true Try.f5.params.toList args.toList ds p := hA0
  rw [Try.params5] at hA hval
  obtain ⟨v0, vs0, d0, ds0, p0, q0, hargs, rfl, rfl, h0, r0⟩ := trodAll_cons hA
  obtain ⟨v1, vs1, d1, ds1, p1, q1, rfl, rfl, rfl, h1, r1⟩ := trodAll_cons r0
  obtain ⟨v2, vs2, d2, ds2, p2, q2, rfl, rfl, rfl, h2, r2⟩ := trodAll_cons r1
  obtain ⟨rfl, rfl, rfl⟩ := trodAll_nil r2
  obtain rfl : args = #[v0, v1, v2] := by cases args; simp_all
  obtain ⟨rfl, rfl⟩ := trodVars_none hV
  have lt0 : ∀ x ∈ p0, x.block < W.heap.size := by obtain ⟨m, hm⟩ := h0; exact DataW.trod_lt m _ _ _ hm
  have a0 := Arg.mk (hval 0 22 v0 rfl rfl) h0
  have lt1 : ∀ x ∈ p1, x.block < W.heap.size := by obtain ⟨m, hm⟩ := h1; exact DataW.trod_lt m _ _ _ hm
  have a1 := Arg.mk (hval 1 22 v1 rfl rfl) h1
  have lt2 : ∀ x ∈ p2, x.block < W.heap.size := by obtain ⟨m, hm⟩ := h2; exact DataW.trod_lt m _ _ _ hm
  have a2 := Arg.mk (hval 2 22 v2 rfl rfl) h2
  clear hA0 hval0
  refine (walk v0 v1 v2 W a0 a1 a2).mono fun e W' ⟨he, bel⟩ => ?_
  subst he
  exact ⟨_, rfl, _, _, _, [], _, [], hW', trodAll_mk1 (shut_bool Try.underlying4 _), (trodAll_cons_mk (Below.trod laidOut (by kernel_rfl) (of_decide_eq_true (by kernel_rfl)) h0 bel lt0) (trodAll_cons_mk (Below.trod laidOut (by kernel_rfl) (of_decide_eq_true (by kernel_rfl)) h1 bel lt1) (trodAll_cons_mk (Below.trod laidOut (by kernel_rfl) (of_decide_eq_true (by kernel_rfl)) h2 bel lt2) trodAll_mk0))), rfl, bel.frame _, fun h => by cases h⟩

set_option maxRecDepth 100000 in
theorem over : Rows.bitsLawsRow.holds Try.pinned (OpenSpec.ofChange Rows.bitsLawsSpec) :=
  OpenClaim.holds_of_wide 5 Try.f5 rfl rfl rfl rfl rfl rfl rfl ⟨rfl, rfl, rfl, rfl, rfl⟩ rfl rfl rfl rfl rfl (by kernel_rfl) Try.func5 (by kernel_rfl)
    (of_decide_eq_true (by kernel_rfl)) (by unfold Func.isWrapper; first | (rw [if_pos (by decide +kernel)]; kernel_rfl) | (rw [if_neg (by decide +kernel)]; exact ⟨rfl, rfl⟩))
    (fun os started H enc _ => lifted os started H enc)

theorem proved : Rows.BitsLawsSaid := over
#print axioms proved
end Go.Proofs.Ythehgpmggnnppaa.bitsLaws
