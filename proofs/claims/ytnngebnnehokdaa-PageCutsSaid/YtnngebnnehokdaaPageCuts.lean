/- Any bytes by pieces, and how many so many bytes have. -/
import Derived.Test.YtnngebnnehokdaaPgArg
import Derived.Test.YtnngebnnehokdaaPgAt
import Derived.Test.YtnngebnnehokdaaPgWakes
import Derived.Test.YtnngebnnehokdaaPgRows
import Derived.Test.YtnngebnnehokdaaQuiet
namespace Go.Proofs.Ytnngebnnehokdaa.pageCuts
open Go.ChangeShapes Go.WideShapes Go.ChangeAt Go.RowKit
set_option linter.unusedVariables false
attribute [-simp] Try.isAgg27 Try.zeroValue27 Try.isAgg23 Try.zeroValue23 Try.isAgg25 Try.zeroValue25 Try.isAgg33 Try.zeroValue33
attribute [-go_sem] loadVar storeVar run_equalIn_agg
attribute [local go_sem] zero_blk build_blk zero_bod zero_pg build_pg build_pg0 zero_sec loadVar_open5 storeVar_open5

set_option maxRecDepth 100000 in
set_option maxHeartbeats 4000000 in
theorem walk (v0 v1 : Value) (w : World) (w0 : Arg w 41 v0) (w1 : Arg w 3 v1) :
    Calls Try.prog 4 #[v0, v1] w fun e w' => e = .returned (.bool true) ∧ Below w.heap.size w w' := by
  obtain ⟨a0, len, cap, xs, rfl, hlen, hmax, hs, hb⟩ := w0.bytes Try.underlying41 Try.underlying5 (by kernel_rfl)
  obtain ⟨n, rfl, wn⟩ := w1.int Try.underlying3
  have hn := (wf_iff .i64 n).1 wn
  simp [IntKind.min, IntKind.max, IntKind.signed, IntKind.bits] at hn
  have HNB : Hid (-9223372036854775808 ≤ n ∧ n < 9223372036854775808) := by show _ ∧ _; omega
  have hl : len ≤ 9223372036854775807 := by unfold maxLen at hmax; omega
  have HS := Lib.hid hs
  have HB := Lib.hid hb
  have HL := Lib.hid hlen
  clear hs hb hlen hmax w0 w1 wn hn
  by_cases h0 : 5000 < len
  · have h0' : decide ((5000 : Int) < (len : Int)) = true := by simp; omega
    go_enter Try.func4, Try.ntmps4
    go_wp2_with fail
    go_at_call 14
    refine (pgWakes w).mono ?_
    rintro e w' ⟨rfl, hb⟩
    have HB2 := Lib.hid hb
    clear hb
    go_wp2_with fail
    go_ret
    exact ⟨rfl, HB2.out⟩
  · have h0' : decide ((5000 : Int) < (len : Int)) = false := by simp; omega
    have hl5 : len ≤ 5000 := by omega
    obtain ⟨m, hm⟩ : ∃ m, nPcs xs = m := ⟨_, rfl⟩
    have HM : Hid (m = (len + 47) / 48) := by show _ = _; rw [← hm, nPcs, HL.out]
    have hm1 : m ≤ 105 := by have := HM.out; omega
    have HCN : Hid (cnt (len : Int) = (m : Int)) := by show _ = _; rw [cnt_nat, HM.out]
    obtain ⟨vc, wc, HA, HO, BC⟩ := copy_lit w (.slice a0 len cap) xs HS.out (by have := HL.out; omega)
    have SC : Hid (Sl .u8 wc vc xs) := Sl.of_owns HO.out
    have hmo : Try.prog.follows .mixedOrders = true := by kernel_rfl
    clear HO
    go_enter Try.func4, Try.ntmps4
    go_wp2_with (at_builtin; refine wpList_append_run (.tmp 12) (.tmp 13) 41 rfl rfl _ _ _ rfl rfl HA.out ?_)
    clear HA h0' h0
    go_at_call 15
    refine (pgCut _ xs wc SC.out (by rw [HL.out]; omega)).mono ?_
    rintro e x1 ⟨v1, rfl, ho, hb⟩
    rw [hm] at ho
    obtain ⟨ra, c, rfl, hf⟩ := row_form ho
    have B1 : Hid (Below w.heap.size w x1) := BC.out.trans (hb.mono BC.out.size)
    have S1 := Lib.hid (HS.out.below B1.out)
    have HF := Lib.hid hf
    clear ho hb hf
    go_wp2_with fail
    go_at_call 16
    refine (refCut _ xs x1 S1.out (by rw [HL.out]; omega)).mono ?_
    rintro e x2 ⟨v2, rfl, ho, hb⟩
    rw [hm] at ho
    obtain ⟨rb, d, rfl, hf⟩ := row_form ho
    have B2 : Hid (Below w.heap.size w x2) := B1.out.trans (hb.mono B1.out.size)
    have HG := Lib.hid hf
    have HF2 : Hid (0 < m → ∃ g, ra = some ⟨g, 0, none⟩ ∧ g < x2.heap.size ∧ x2.rangeAt g 0 (rows xs m).flatten) := fun h => by
      obtain ⟨g, h1, h2, h3⟩ := HF.out h
      exact ⟨g, h1, Nat.lt_of_lt_of_le h2 hb.size, range_below hb h2 h3⟩
    clear ho hb hf HF S1 SC BC
    go_wp2_with fail
    go_at_call 17
    refine (pgCount n x2 HNB.out.1 HNB.out.2).mono ?_
    rintro e y ⟨rfl, hy⟩
    obtain rfl := hy.symm
    clear hy
    obtain ⟨q, hq⟩ : ∃ q, cnt n = q := ⟨_, rfl⟩
    rw [hq]
    go_wp2_with fail
    go_at_call 18
    refine (refCount n x2 HNB.out.1 HNB.out.2).mono ?_
    rintro e y ⟨rfl, hy⟩
    obtain rfl := hy.symm
    clear hy
    rw [hq]
    clear hq
    go_wp2_with fail
    go_at_call 17
    refine (pgCount (len : Int) x2 (by omega) (by omega)).mono ?_
    rintro e y ⟨rfl, hy⟩
    obtain rfl := hy.symm
    clear hy
    rw [HCN.out]
    go_wp2_with fail
    go_loopw [7] (fun i wr => ∃ k : Nat, k ≤ m ∧ i = .int .i64 k ∧ Hid (Below x2.heap.size x2 wr)) (fun i _ => m - (intOf i).toNat)
    case atStart => exact ⟨0, Nat.zero_le _, rfl, Below.refl _ _⟩
    case round =>
      obtain ⟨k, hk, rfl, HW⟩ := hrel
      by_cases hlt : k < m
      · have g1 : (k : Int) < (m : Int) := by omega
        have g2 : decide ((k : Int) < (m : Int)) = true := by simpa using g1
        obtain ⟨g, hra, hgl, hrg⟩ := HF2.out (by omega)
        obtain ⟨h, hrb, hhl, hrh⟩ := HG.out (by omega)
        subst hra
        subst hrb
        have hpl : (u8s (piece xs k)).length = 48 := by rw [u8s_length, piece_length]
        have L1 : ∀ y : Ext wr, (loadVar 23 ⟨g, k * 48, none⟩).run Try.prog y.1 = .ok (.agg (u8s (piece xs k)).toArray) y.1 := fun y =>
          load_bod (range_below (HW.out.trans (y.2.mono HW.out.size)) hgl (rows_piece xs m k hrg hlt)) hpl
        have L2 : ∀ y : Ext wr, (loadVar 23 ⟨h, k * 48, none⟩).run Try.prog y.1 = .ok (.agg (u8s (piece xs k)).toArray) y.1 := fun y =>
          load_bod (range_below (HW.out.trans (y.2.mono HW.out.size)) hhl (rows_piece xs m k hrh hlt)) hpl
        have EQ : (Op.equalIn 10000 23 (.agg (u8s (piece xs k)).toArray) (.agg (u8s (piece xs k)).toArray)).run Try.prog wr.drew = .ok true wr.drew := by
          rw [eq_bod (piece_length xs k) (piece_length xs k), alike_self]
        clear hrg hrh hpl
        go_wp2_with fail
        refine region_plan (fun x => ∃ y : Ext wr, x = y.1) 8 (.takes [0, 1, 2, 3, 4, 5, 6, 7] .leaf) hmo (by kernel_rfl) (by intro c x v a w h; cases x <;> exact h) ⟨⟨wr.drew, (Below.refl _ wr).drew⟩, rfl⟩ ?_
        repeat (rw [wpPlan_takes_cons]; simp only [nth_zero, nth_succ]; go_big_quiet_step (fail); refine wpQuiet_nil ?_)
        rw [wpPlan_takes_nil, wpPlan_leaf]
        simp only [List.drop_succ_cons, List.drop_zero]
        have HW2 : Hid (Below x2.heap.size x2 wr.drew) := HW.out.trans (((Below.refl _ wr).drew).mono HW.out.size)
        have HLT := Lib.hid hlt
        clear L1 L2
        go_wp2_with fail
        go_roundw
        case rel => exact ⟨k + 1, HLT.out, by go_num, HW2⟩
        case measure => have := HLT.out; simp [intOf]; omega
      · have g2 : decide ((k : Int) < (m : Int)) = false := by simp; omega
        have g1 : ¬ (k : Int) < (m : Int) := by omega
        go_wp2_with fail
        go_at_call 14
        refine (pgWakes wr).mono ?_
        rintro e w2 ⟨rfl, hb⟩
        have B3 : Hid (Below w.heap.size w w2) := (B2.out.trans (HW.out.mono B2.out.size)).trans (hb.mono (Nat.le_trans B2.out.size HW.out.size))
        clear hb
        go_wp2_with fail
        go_ret
        exact ⟨rfl, B3.out⟩

set_option maxRecDepth 100000 in
theorem lifted (os : Os) (started : os.Started) (H : Type) (enc : TypeId × Value → H) :
    ReturnsInHanded {} Try.checked os 4 .any (Rows.pageCutsSpec.pre6 enc Try.prog Try.f4 Rows.pageCutsRow.domain false) (Rows.pageCutsSpec.post enc Try.prog Try.f4 false true false false) := by
  refine returnsInHanded_of_change (C := Try.checked) own started (by kernel_rfl) Try.func4
    (ChangeSpec.witness6 (enc := enc) (C := Try.checked) false ⟨#[], #[.slice none 0 0, .int .i64 0], []⟩ 8 (by kernel_rfl) (by kernel_rfl) (by kernel_rfl) (by kernel_rfl)) ?_
  intro W base args ds gs before hval0 hW hcnd _
  have hval : ∀ (j : Nat) t v, Try.f4.params[j]? = some t → args[j]? = some v → Value.okWide Try.prog W .any base t v := hval0
  have hW' := hW
  obtain ⟨p, q, hA0, hV, rfl, hfz, hnd⟩ := hW
  have hA : DataW.TrodAll enc Try.prog W 0 (fun _ => true) true Try.f4.params.toList args.toList ds p := hA0
  rw [Try.params4] at hA hval
  obtain ⟨v0, vs0, d0, ds0, p0, q0, hargs, rfl, rfl, h0, r0⟩ := trodAll_cons hA
  obtain ⟨v1, vs1, d1, ds1, p1, q1, rfl, rfl, rfl, h1, r1⟩ := trodAll_cons r0
  obtain ⟨rfl, rfl, rfl⟩ := trodAll_nil r1
  obtain rfl : args = #[v0, v1] := by cases args; simp_all
  obtain ⟨rfl, rfl⟩ := trodVars_none hV
  have lt0 : ∀ x ∈ p0, x.block < W.heap.size := by obtain ⟨m, hm⟩ := h0; exact DataW.trod_lt m _ _ _ hm
  have a0 := Arg.mk (hval 0 41 v0 rfl rfl) h0
  have lt1 : ∀ x ∈ p1, x.block < W.heap.size := by obtain ⟨m, hm⟩ := h1; exact DataW.trod_lt m _ _ _ hm
  have a1 := Arg.mk (hval 1 3 v1 rfl rfl) h1
  clear hA0 hval0
  refine (walk v0 v1 W a0 a1).mono fun e W' ⟨he, bel⟩ => ?_
  subst he
  exact ⟨_, rfl, _, _, _, [], _, [], hW', trodAll_mk1 (shut_bool Try.underlying4 _), (trodAll_cons_mk (Below.trod laidOut (by kernel_rfl) (of_decide_eq_true (by kernel_rfl)) h0 bel lt0) (trodAll_cons_mk (Below.trod laidOut (by kernel_rfl) (of_decide_eq_true (by kernel_rfl)) h1 bel lt1) trodAll_mk0)), rfl, bel.frame _, fun h => by cases h⟩

theorem over : Rows.pageCutsRow.holds Try.pinned (OpenSpec.ofChange Rows.pageCutsSpec) :=
  OpenClaim.holds_of_wide 4 Try.f4 rfl rfl rfl rfl rfl rfl rfl ⟨rfl, rfl, rfl, rfl, rfl⟩ rfl rfl rfl rfl rfl (by kernel_rfl) Try.func4 (by kernel_rfl)
    (of_decide_eq_true (by kernel_rfl)) (by unfold Func.isWrapper; first | (rw [if_pos (by decide +kernel)]; kernel_rfl) | (rw [if_neg (by decide +kernel)]; exact ⟨rfl, rfl⟩))
    (fun os started H enc _ => lifted os started H enc)

theorem proved : Rows.PageCutsSaid := over
#print axioms proved
end Go.Proofs.Ytnngebnnehokdaa.pageCuts
