/- What is put is found there, all others stay, and the table may be. -/
import Derived.Test.YtlnkfphkgjcdiaaTbTl
import Derived.Test.YtlnkfphkgjcdiaaTbPure
import Derived.Test.YtlnkfphkgjcdiaaArgSl
namespace Go.Proofs.Ytlnkfphkgjcdiaa.tablePuts
open Go.ChangeShapes Go.WideShapes Go.ChangeAt Go.RowKit
set_option linter.unusedVariables false
set_option linter.unusedSimpArgs false
attribute [-simp] Try.isAgg29 Try.zeroValue29 Try.isAgg34 Try.zeroValue34
attribute [-go_sem] loadVar storeVar
attribute [local go_sem] loadVar_openB storeVar_openB zero_prs build_prs0 build_prs zero_both build_both

set_option maxRecDepth 100000 in
set_option maxHeartbeats 20000000 in
theorem walk (v0 v1 : Value) (w : World) (w0 : Arg w 22 v0) (w1 : Arg w 41 v1) :
    Calls Try.prog 5 #[v0, v1] w fun e w' => e = .returned (.bool true) ∧ Below w.heap.size w w' := by
  have hmx : Try.prog.follows .mixedOrders = true := by kernel_rfl
  obtain ⟨l, hl⟩ := w0.prt
  obtain ⟨n0, n1, rfl, wn0, wn1⟩ := w1.two Try.underlying41 Try.underlying5 (by kernel_rfl) (by kernel_rfl)
  obtain ⟨ha0, ha1⟩ := bounds_u8 wn0
  obtain ⟨hb0, hb1⟩ := bounds_u8 wn1
  obtain ⟨W0, hW0⟩ : ∃ W, w.alloc (.cells #[.int .u8 n0, .int .u8 n1] 41) = W := ⟨_, rfl⟩
  have b0 := below_new w (.cells #[.int .u8 n0, .int .u8 n1] 41)
  have r0 : RowC W0 w.heap.size 41 [.int .u8 n0, .int .u8 n1] := by rw [← hW0]; exact RowC.new w _ _
  rw [hW0] at b0
  have HB0 := Lib.hid b0
  have HRN := Lib.hid r0
  have HL := Lib.hid (hl.below b0)
  obtain ⟨pl, cl, rfl, -⟩ := hl
  clear b0 r0 wn0 wn1 w0 w1
  by_cases hll : 64 < l.length
  · have qa : (64 : Int) < (l.length : Int) := by omega
    go_enter Try.func5, Try.ntmps5
    go_wp2_with fail
    refine (tb_wakes _).mono ?_
    rintro e W1 ⟨rfl, hbw⟩
    have HBE : Hid (Below w.heap.size w W1) := HB0.out.trans (hbw.mono HB0.out.size)
    clear hbw
    go_wp2_with fail
    go_ret
    exact ⟨rfl, HBE.out⟩
  have qa : ¬ (64 : Int) < (l.length : Int) := by omega
  have HG := Lib.hid (rf_good HL.out 64 200 (by omega))
  cases hg : tGood l 64 200 with
  | false =>
    rw [hg] at HG
    clear hg
    go_enter Try.func5, Try.ntmps5
    go_wp2_with fail
    go_at_call 13
    refine HG.out.mono ?_
    rintro e W1 ⟨rfl, hx1⟩
    have HB1 : Hid (Below w.heap.size w W1) := HB0.out.trans (hx1.mono HB0.out.size)
    clear hx1
    go_wp2_with fail
    refine (tb_wakes _).mono ?_
    rintro e W2 ⟨rfl, hbw⟩
    have HBE : Hid (Below w.heap.size w W2) := HB1.out.trans (hbw.mono HB1.out.size)
    clear hbw
    go_wp2_with fail
    go_ret
    exact ⟨rfl, HBE.out⟩
  | true =>
    rw [hg] at HG
    have HGD := Lib.hid hg
    clear hg
    go_enter Try.func5, Try.ntmps5
    go_wp2_with fail
    go_at_call 13
    refine HG.out.mono ?_
    rintro e W1 ⟨rfl, hx1⟩
    have HB1 : Hid (Below w.heap.size w W1) := HB0.out.trans (hx1.mono HB0.out.size)
    obtain ⟨W2, hW2⟩ : ∃ W, W1.drew = W := ⟨_, rfl⟩
    have b2 : Below W1.heap.size W1 W2 := by rw [← hW2]; exact (Below.refl _ W1).drew
    have hb2 : Below W0.heap.size W0 W2 := hx1.trans (b2.mono hx1.size)
    have HB2 : Hid (Below w.heap.size w W2) := HB0.out.trans (hb2.mono HB0.out.size)
    have HL2 := Lib.hid (HL.out.below hb2)
    have r2 := HRN.out.below hb2
    have c0 := r2.cell 0 _ rfl
    have c1 := r2.cell 1 _ rfl
    clear hx1 b2 hb2 r2 HRN HL HB1 HB0 HG
    go_wp2_with fail
    refine region_plan (fun x => x = W2) 9 (.takes [0, 1, 2, 3, 4, 5, 6, 7, 8] .leaf) hmx (by kernel_rfl) (by intro c x v a w h; cases x <;> exact h) hW2 ?_
    rw [hW2]
    clear hW2
    repeat (rw [wpPlan_takes_cons]; simp only [nth_zero, nth_succ]; go_big_quiet_step (fail); try (with_reducible refine wpQuiet_nil ?_))
    rw [wpPlan_takes_nil, wpPlan_leaf]
    simp only [List.drop_succ_cons, List.drop_zero]
    clear c0 c1
    obtain ⟨b, hb⟩ : ∃ x, n0 % 64 = x := ⟨_, rfl⟩
    obtain ⟨a, ha⟩ : ∃ x, 200 + n1 = x := ⟨_, rfl⟩
    rw [hb, ha]
    have hb64 : 0 ≤ b ∧ b < 64 := by omega
    have ha64 : 200 ≤ a ∧ a < 500 := by omega
    have hib : Is64 b := by unfold Is64; omega
    have hia : Is64 a := by unfold Is64; omega
    obtain ⟨f1, f2, f3, f4⟩ := puts_fact HGD.out hb64.1 hb64.2 ha64.1 ha64.2
    have HF1 := Lib.hid f1
    have HF2 := Lib.hid f2
    have HF3 := Lib.hid f3
    have HF4 := Lib.hid f4
    have HLN := Lib.hid (tPut_len l b a)
    have HP := Lib.hid (tb_put HL2.out b a hib hia (by omega))
    clear hb ha f1 f2 f3 f4 ha0 ha1 hb0 hb1 hb64 ha64 HGD
    go_wp2_with fail
    go_at_call 15
    refine HP.out.mono ?_
    rintro e W3 ⟨vm, rfl, hO, hb3⟩
    obtain ⟨M, hM⟩ : ∃ M, tPut l b a = M := ⟨_, rfl⟩
    rw [hM] at hO HF1 HF2 HF3 HF4 HLN
    obtain ⟨am, cm, rfl⟩ := hO.form
    obtain ⟨ml, hml⟩ : ∃ ml, M.length = ml := ⟨_, rfl⟩
    have HML := Lib.hid hml
    have hmlen : M.length ≤ 1000 := by
      have := tPut_le l b a
      rw [hM] at this
      omega
    have HB3 : Hid (Below w.heap.size w W3) := HB2.out.trans (hb3.mono HB2.out.size)
    have HL3 := Lib.hid (HL2.out.below hb3)
    have HM3 := Lib.hid hO.prt
    have HQ := Lib.hid (tb_find HM3.out b (by omega))
    rw [HF1.out, HF2.out] at HQ
    rw [hml] at HM3 HQ hmlen HLN ⊢
    clear hO hb3 HP HL2 HB2 hM hml HF1 HF2
    go_wp2_with fail
    go_at_call 8
    refine HQ.out.mono ?_
    rintro e W4 ⟨rfl, hb4⟩
    have HB4 : Hid (Below w.heap.size w W4) := HB3.out.trans (hb4.mono HB3.out.size)
    have HL4 := Lib.hid (HL3.out.below hb4)
    have HM4 := Lib.hid (HM3.out.below hb4)
    have HGC := Lib.hid (tb_good HM4.out 64 500 (by rw [HML.out]; omega))
    rw [HF3.out] at HGC
    clear hb4 HQ HB3 HL3 HM3 HF3
    go_wp2_with fail
    go_at_call 12
    refine HGC.out.mono ?_
    rintro e W5 ⟨rfl, hb5⟩
    have HB5 : Hid (Below w.heap.size w W5) := HB4.out.trans (hb5.mono HB4.out.size)
    have HL5 := Lib.hid (HL4.out.below hb5)
    have HM5 := Lib.hid (HM4.out.below hb5)
    clear hb5 HGC HB4 HL4 HM4
    obtain ⟨n, hn⟩ : ∃ n, l.length = n := ⟨_, rfl⟩
    have HN := Lib.hid hn
    rw [hn] at HL5 hll qa HLN ⊢
    clear hn
    go_wp2_with fail
    go_loopw [10] (fun iv wr => ∃ k : Nat, k ≤ n ∧ iv = .int .i64 (k : Int) ∧ Hid (Below W5.heap.size W5 wr)) (fun iv _ => n - (intOf iv).toNat)
    case atStart => exact ⟨0, Nat.zero_le _, rfl, Below.refl _ _⟩
    case round =>
      obtain ⟨k, hk, rfl, HBR⟩ := hrel
      by_cases hlt : k < n
      · obtain ⟨p, hp⟩ : ∃ p, l[k]? = some p := ⟨_, List.getElem?_eq_getElem (by rw [HN.out]; exact hlt)⟩
        obtain ⟨bl, ol, rfl, hbl, c1, c2⟩ := (HL5.out.below HBR.out).at hp
        obtain ⟨g1, g2⟩ := HF4.out p (List.mem_of_getElem? hp)
        obtain ⟨x0, y0⟩ := p
        simp only at c1 c2 g1 g2
        have hFQ := tb_find (HM5.out.below HBR.out) x0 (by rw [HML.out]; omega)
        rw [g1] at hFQ
        have HFQ := Lib.hid hFQ
        have g3 : (k : Int) < (n : Int) := by omega
        have HW : Hid (wrap64 ((k : Int) + 1) = (k : Int) + 1) := IntWalk.wrap64_in _ (by omega)
        have HLT := Lib.hid hlt
        have HP := Lib.hid hp
        clear hp hbl g1 hFQ hlt c2
        go_wp2_with fail
        go_at_call 8
        refine HFQ.out.mono ?_
        rintro e z ⟨rfl, hbz⟩
        have HBZ : Hid (Below W5.heap.size W5 z) := HBR.out.trans (hbz.mono HBR.out.size)
        obtain ⟨bl', ol', he, hbl', c3, c4⟩ := (HL5.out.below HBZ.out).at HP.out
        cases he
        simp only at c3 c4
        clear hbz hbl' c1 HFQ
        by_cases hxb : x0 = b
        · have q1 : (x0 != b) = false := by simpa using hxb
          have q2 : (x0 == b) = true := by simpa using hxb
          clear g2 hxb
          go_wp2_with fail
          exact ⟨⟨k + 1, HLT.out, by simp, HBZ⟩, by simp [intOf]; omega⟩
        · have q1 : (x0 != b) = true := by simpa using hxb
          have q2 : (x0 == b) = false := by simpa using hxb
          rw [g2 hxb]
          clear g2 hxb
          go_wp2_with fail
          exact ⟨⟨k + 1, HLT.out, by simp, HBZ⟩, by simp [intOf]; omega⟩
      · obtain rfl : k = n := by omega
        have hlw := HL5.out.below HBR.out
        have HFL := Lib.hid (tb_find hlw b (by rw [HN.out]; omega))
        have HBE : Hid (Below w.heap.size w wr) := HB5.out.trans (HBR.out.mono HB5.out.size)
        obtain ⟨had, hhad⟩ : ∃ had, (tFind l b).isSome = had := ⟨_, rfl⟩
        rw [hhad] at HFL HLN
        clear hlw hhad hlt
        go_wp2_with fail
        go_at_call 8
        refine HFL.out.mono ?_
        rintro e z ⟨rfl, hbz⟩
        have HBZ : Hid (Below w.heap.size w z) := HBE.out.trans (hbz.mono HBE.out.size)
        clear hbz HFL HBE
        cases had with
        | true =>
          have e0 : ml = k := HLN.out
          clear HLN
          subst e0
          go_wp2_with fail
          refine (tb_wakes _).mono ?_
          rintro e W9 ⟨rfl, hbw⟩
          have HBF : Hid (Below w.heap.size w W9) := HBZ.out.trans (hbw.mono HBZ.out.size)
          clear hbw
          go_wp2_with fail
          go_ret
          exact ⟨rfl, HBF.out⟩
        | false =>
          have e0 : ml = k + 1 := HLN.out
          clear HLN
          subst e0
          have q9 : (((k : Int) + 1) == (k : Int)) = false := by simp; omega
          go_wp2_with fail
          refine (tb_wakes _).mono ?_
          rintro e W9 ⟨rfl, hbw⟩
          have HBF : Hid (Below w.heap.size w W9) := HBZ.out.trans (hbw.mono HBZ.out.size)
          clear hbw
          go_wp2_with fail
          go_ret
          exact ⟨rfl, HBF.out⟩

set_option maxRecDepth 100000 in
theorem lifted (os : Os) (started : os.Started) (H : Type) (enc : TypeId × Value → H) :
    ReturnsInHanded {} Try.checked os 5 .any (Rows.tablePutsSpec.pre6 enc Try.prog Try.f5 Rows.tablePutsRow.domain false) (Rows.tablePutsSpec.post enc Try.prog Try.f5 false true false false) := by
  refine returnsInHanded_of_change (C := Try.checked) own started (by kernel_rfl) Try.func5
    (ChangeSpec.witness6 (enc := enc) (C := Try.checked) false ⟨#[], #[.slice none 0 0, .agg #[.int .u8 0, .int .u8 0]], []⟩ 8 (by kernel_rfl) (by kernel_rfl) (by kernel_rfl) (by kernel_rfl)) ?_
  intro W base args ds gs before hval0 hW hcnd _
  have hval : ∀ (j : Nat) t v, Try.f5.params[j]? = some t → args[j]? = some v → Value.okWide Try.prog W .any base t v := hval0
  have hW' := hW
  obtain ⟨p, q, hA0, hV, rfl, hfz, hnd⟩ := hW
  have hA : DataW.TrodAll enc Try.prog W 0 (fun _ => true) true Try.f5.params.toList args.toList ds p := hA0
  rw [Try.params5] at hA hval
  obtain ⟨v0, vs0, d0, ds0, p0, q0, hargs, rfl, rfl, h0, r0⟩ := trodAll_cons hA
  obtain ⟨v1, vs1, d1, ds1, p1, q1, rfl, rfl, rfl, h1, r1⟩ := trodAll_cons r0
  obtain ⟨rfl, rfl, rfl⟩ := trodAll_nil r1
  obtain rfl : args = #[v0, v1] := by cases args; simp_all
  obtain ⟨rfl, rfl⟩ := trodVars_none hV
  have lt0 : ∀ x ∈ p0, x.block < W.heap.size := by obtain ⟨m, hm⟩ := h0; exact DataW.trod_lt m _ _ _ hm
  have a0 := Arg.mk (hval 0 22 v0 rfl rfl) h0
  have lt1 : ∀ x ∈ p1, x.block < W.heap.size := by obtain ⟨m, hm⟩ := h1; exact DataW.trod_lt m _ _ _ hm
  have a1 := Arg.mk (hval 1 41 v1 rfl rfl) h1
  clear hA0 hval0
  refine (walk v0 v1 W a0 a1).mono fun e W' ⟨he, bel⟩ => ?_
  subst he
  exact ⟨_, rfl, _, _, _, [], _, [], hW', trodAll_mk1 (shut_bool Try.underlying4 _), (trodAll_cons_mk (Below.trod laidOut (by kernel_rfl) (of_decide_eq_true (by kernel_rfl)) h0 bel lt0) (trodAll_cons_mk (Below.trod laidOut (by kernel_rfl) (of_decide_eq_true (by kernel_rfl)) h1 bel lt1) trodAll_mk0)), rfl, bel.frame _, fun h => by cases h⟩

set_option maxRecDepth 100000 in
theorem over : Rows.tablePutsRow.holds Try.pinned (OpenSpec.ofChange Rows.tablePutsSpec) :=
  OpenClaim.holds_of_wide 5 Try.f5 rfl rfl rfl rfl rfl rfl rfl ⟨rfl, rfl, rfl, rfl, rfl⟩ rfl rfl rfl rfl rfl (by kernel_rfl) Try.func5 (by kernel_rfl)
    (of_decide_eq_true (by kernel_rfl)) (by unfold Func.isWrapper; first | (rw [if_pos (by decide +kernel)]; kernel_rfl) | (rw [if_neg (by decide +kernel)]; exact ⟨rfl, rfl⟩))
    (fun os started H enc _ => lifted os started H enc)

theorem proved : Rows.TablePutsSaid := over
#print axioms proved
end Go.Proofs.Ytlnkfphkgjcdiaa.tablePuts
