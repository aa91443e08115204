/- Each part of a marked sector stands at its place, the lowest byte first; two that differ have different bytes. -/
import Derived.Test.YtnngebnnehokdaaPgArg
import Derived.Test.YtnngebnnehokdaaPgAt
import Derived.Test.YtnngebnnehokdaaPgWakes
import Derived.Test.YtnngebnnehokdaaPgRows
import Derived.Test.YtnngebnnehokdaaPgOr
import Derived.Test.YtnngebnnehokdaaQuiet
namespace Go.Proofs.Ytnngebnnehokdaa.pagePlaces
open Go.ChangeShapes Go.WideShapes Go.ChangeAt Go.RowKit
set_option linter.unusedVariables false
attribute [-simp] Try.isAgg27 Try.zeroValue27 Try.isAgg23 Try.zeroValue23 Try.isAgg25 Try.zeroValue25 Try.isAgg33 Try.zeroValue33
attribute [-go_sem] loadVar storeVar run_equalIn_agg
attribute [local go_sem] zero_blk build_blk zero_bod zero_pg build_pg build_pg0 zero_sec loadVar_open5 storeVar_open5

set_option maxRecDepth 100000 in
set_option maxHeartbeats 4000000 in
theorem walk (v0 v1 : Value) (w : World) (w0 : Arg w 25 v0) (w1 : Arg w 25 v1) :
    Calls Try.prog 7 #[v0, v1] w fun e w' => e = .returned (.bool true) ∧ Below w.heap.size w w' := by
  obtain ⟨p, hp, -, rfl⟩ := w0.sec
  obtain ⟨q, hq, -, rfl⟩ := w1.sec
  have HP := Lib.hid hp
  have HQ := Lib.hid hq
  clear hp hq w0 w1
  obtain ⟨W1, hW1⟩ : ∃ W1, w.alloc (.cells p.cells.toArray 25) = W1 := ⟨_, rfl⟩
  obtain ⟨W, hW⟩ : ∃ W, W1.alloc (.cells q.cells.toArray 25) = W := ⟨_, rfl⟩
  have b0 : Below w.heap.size w W1 := by rw [← hW1]; exact below_new w _
  have b1 : Below W1.heap.size W1 W := by rw [← hW]; exact below_new W1 _
  have P0 : Hid (RowC W w.heap.size 25 p.cells) := by
    have h : RowC W1 w.heap.size 25 p.cells := by rw [← hW1]; exact RowC.new w _ _
    exact h.below b1
  have Q0 : Hid (RowC W W1.heap.size 25 q.cells) := by
    show RowC _ _ _ _
    rw [← hW]; exact RowC.new W1 _ _
  have B0 : Hid (Below w.heap.size w W) := b0.trans (b1.mono b0.size)
  have LP := P0.out.pg HP.out.len
  clear b0 b1
  by_cases hf : p.fits = true
  · have hE : Hid (p.code = u8s p.bytes ∧ p.codeE = 0) := by refine (?_ : _ ∧ _); unfold Sct.code Sct.codeE; rw [if_pos hf, if_pos hf]; exact ⟨rfl, rfl⟩
    have hfx := of_decide_eq_true hf
    have hof : Sct.of p.bytes = p := of_bytes HP.out ⟨hfx.2.1, hfx.2.2⟩
    have HFX : Hid (0 ≤ p.index ∧ p.index ≤ 65535) := ⟨hfx.2.1, hfx.2.2⟩
    have HOF := Lib.hid hof
    clear hf hfx hof
    go_enter Try.func7, Try.ntmps7
    go_wp2_with fail
    try rw [LP]
    try go_wp2_with fail
    clear LP hW hW1
    go_at_call 9
    refine (pgEncode p HP.out W).mono ?_
    rintro e x1 ⟨rfl, hb⟩
    rw [hE.out.1, hE.out.2]
    obtain ⟨x2, ST2, hr, hb2⟩ := new_blk x1 (isBlk_u8s (Sct.bytes_length HP.out))
    have b2 : Below W.heap.size W x2 := hb.trans (hb2.mono hb.size)
    have P2 := Lib.hid (P0.out.below b2)
    have Q2 := Lib.hid (Q0.out.below b2)
    have B2 : Hid (Below w.heap.size w x2) := B0.out.trans (b2.mono B0.out.size)
    have R2 := Lib.hid hr
    have LQ := Lib.hid (Q2.out.pg HQ.out.len)
    clear hr hb hb2 b2
    go_wp2_with fail
    clear ST2
    rw [LQ.out]
    go_wp2_with fail
    go_at_call 9
    refine (pgEncode q HQ.out x2).mono ?_
    rintro e x3 ⟨rfl, hb⟩
    obtain ⟨x4, ST4, hr, hb2⟩ := new_blk x3 (isBlk_code HQ.out)
    have b4 : Below x2.heap.size x2 x4 := hb.trans (hb2.mono hb.size)
    have P4 := Lib.hid (P2.out.below b4)
    have Q4 := Lib.hid (Q2.out.below b4)
    have R4 := Lib.hid (R2.out.below b4)
    have S4 := Lib.hid hr
    have B4 : Hid (Below w.heap.size w x4) := B2.out.trans (b4.mono B2.out.size)
    have hbb := Sct.bytes_bytes HP.out
    have hbl := Sct.bytes_length HP.out
    have hg : ∀ j, j < 64 → (u8s p.bytes)[j]? = some (.int .u8 (p.bytes[j]?.getD 0)) := fun j hj => by
      unfold u8s
      rw [List.getElem?_map, List.getElem?_eq_getElem (by omega)]
      rfl
    obtain ⟨y1, h1⟩ : ∃ y, p.bytes[1]?.getD 0 = y := ⟨_, rfl⟩
    obtain ⟨y2, h2⟩ : ∃ y, p.bytes[2]?.getD 0 = y := ⟨_, rfl⟩
    obtain ⟨y3, h3⟩ : ∃ y, p.bytes[3]?.getD 0 = y := ⟨_, rfl⟩
    obtain ⟨y4, h4⟩ : ∃ y, p.bytes[4]?.getD 0 = y := ⟨_, rfl⟩
    obtain ⟨y5, h5⟩ : ∃ y, p.bytes[5]?.getD 0 = y := ⟨_, rfl⟩
    obtain ⟨y6, h6⟩ : ∃ y, p.bytes[6]?.getD 0 = y := ⟨_, rfl⟩
    have v1 := hbb 1
    have v2 := hbb 2
    have v3 := hbb 3
    have v4 := hbb 4
    have v5 := hbb 5
    have v6 := hbb 6
    rw [h1] at v1
    rw [h2] at v2
    rw [h3] at v3
    rw [h4] at v4
    rw [h5] at v5
    rw [h6] at v6
    have d0 : x4.cell? ⟨x1.heap.size, 0, none⟩ = some (.int .u8 p.mark) := R4.out.cell 0 _ rfl
    have d1 : x4.cell? ⟨x1.heap.size, 1, none⟩ = some (.int .u8 y1) := by rw [← h1]; exact R4.out.cell 1 _ (hg 1 (by omega))
    have d2 : x4.cell? ⟨x1.heap.size, 2, none⟩ = some (.int .u8 y2) := by rw [← h2]; exact R4.out.cell 2 _ (hg 2 (by omega))
    have d3 : x4.cell? ⟨x1.heap.size, 3, none⟩ = some (.int .u8 y3) := by rw [← h3]; exact R4.out.cell 3 _ (hg 3 (by omega))
    have d4 : x4.cell? ⟨x1.heap.size, 4, none⟩ = some (.int .u8 y4) := by rw [← h4]; exact R4.out.cell 4 _ (hg 4 (by omega))
    have d5 : x4.cell? ⟨x1.heap.size, 5, none⟩ = some (.int .u8 y5) := by rw [← h5]; exact R4.out.cell 5 _ (hg 5 (by omega))
    have d6 : x4.cell? ⟨x1.heap.size, 6, none⟩ = some (.int .u8 y6) := by rw [← h6]; exact R4.out.cell 6 _ (hg 6 (by omega))
    have d63 : x4.cell? ⟨x1.heap.size, 63, none⟩ = some (.int .u8 0) := by
      have := R4.out.cell 63 _ (hg 63 (by omega))
      rwa [bytes_last HP.out] at this
    have c0 : x4.cell? ⟨w.heap.size, 0, none⟩ = some (.int .u8 p.mark) := P4.out.cell 0 _ rfl
    have c1 : x4.cell? ⟨w.heap.size, 1, none⟩ = some (.int .u32 p.seq) := P4.out.cell 1 _ rfl
    have c2 : x4.cell? ⟨w.heap.size, 2, none⟩ = some (.int .i64 p.index) := P4.out.cell 2 _ rfl
    have hSQ := of_seq HP.out HOF.out
    rw [h1, h2, h3, h4] at hSQ
    have hIX := of_ix HP.out HOF.out
    rw [h5, h6] at hIX
    obtain ⟨w10, w11⟩ := v1
    obtain ⟨w20, w21⟩ := v2
    obtain ⟨w30, w31⟩ := v3
    obtain ⟨w40, w41⟩ := v4
    obtain ⟨w50, w51⟩ := v5
    obtain ⟨w60, w61⟩ := v6
    clear hr hb hb2 b4 h1 h2 h3 h4 h5 h6 hg hbb hbl
    go_wp2_with fail
    clear d0 d1 d2 d3 d4 d5 d6 d63 c0 c1 c2 hSQ hIX w10 w11 w20 w21 w30 w31 w40 w41 w50 w51 w60 w61 ST4
    have hmo : Try.prog.follows .mixedOrders = true := by kernel_rfl
    go_loopw [9] (fun i wr => ∃ k : Nat, k ≤ 48 ∧ i = .int .i64 k ∧ Hid (Below x4.heap.size x4 wr)) (fun i _ => 48 - (intOf i).toNat)
    case atStart => exact ⟨0, Nat.zero_le _, rfl, Below.refl _ _⟩
    case round =>
      obtain ⟨k, hk, rfl, HW⟩ := hrel
      by_cases hlt : k < 48
      · have g1 : (k : Int) < 48 := by omega
        have g2 : decide ((k : Int) < 48) = true := by simpa using g1
        obtain ⟨z, hz⟩ : ∃ z, p.body[k]?.getD 0 = z := ⟨_, rfl⟩
        have hbl := Sct.bytes_length HP.out
        have e1 : (u8s p.bytes)[7 + k]? = some (.int .u8 z) := by
          rw [← hz, ← of_body HP.out HOF.out k hlt]
          unfold u8s
          rw [List.getElem?_map, List.getElem?_eq_getElem (by omega)]
          rfl
        have e2 : p.cells[3 + k]? = some (.int .u8 z) := by
          have hpl := HP.out.len
          rw [show p.cells = [.int .u8 p.mark, .int .u32 p.seq, .int .i64 p.index] ++ u8s p.body from rfl, List.getElem?_append_right (by simp), ← hz]
          unfold u8s
          rw [show 3 + k - [Value.int .u8 p.mark, .int .u32 p.seq, .int .i64 p.index].length = k from by simp, List.getElem?_map, List.getElem?_eq_getElem (by omega)]
          rfl
        have f1 : ∀ y : Ext wr, y.1.cell? ⟨x1.heap.size, 7 + k, none⟩ = some (.int .u8 z) := fun y => (R4.out.below (HW.out.trans (y.2.mono HW.out.size))).cell _ _ e1
        have f2 : ∀ y : Ext wr, y.1.cell? ⟨w.heap.size, 3 + k, none⟩ = some (.int .u8 z) := fun y => (P4.out.below (HW.out.trans (y.2.mono HW.out.size))).cell _ _ e2
        have HLT := Lib.hid hlt
        clear e1 e2 hbl hz
        go_wp2_with fail
        refine region_plan (fun x => ∃ y : Ext wr, x = y.1) 8 (.takes [0, 1, 2, 3, 4, 5, 6, 7] .leaf) hmo (by kernel_rfl) (by intro c x v a w h; cases x <;> exact h) ⟨⟨wr.drew, (Below.refl _ wr).drew⟩, rfl⟩ ?_
        repeat (rw [wpPlan_takes_cons]; simp only [nth_zero, nth_succ]; go_big_quiet_step (fail); refine wpQuiet_nil ?_)
        rw [wpPlan_takes_nil, wpPlan_leaf]
        simp only [List.drop_succ_cons, List.drop_zero]
        have HW2 : Hid (Below x4.heap.size x4 wr.drew) := HW.out.trans (((Below.refl _ wr).drew).mono HW.out.size)
        clear f1 f2
        go_wp2_with fail
        go_roundw
        case rel => exact ⟨k + 1, HLT.out, by go_num, HW2⟩
        case measure => have := HLT.out; simp [intOf]; omega
      · have g2 : decide ((k : Int) < 48) = false := by simp; omega
        have g1 : ¬ (k : Int) < 48 := by omega
        go_wp2_with fail
        have BW : Hid (Below w.heap.size w wr) := B4.out.trans (HW.out.mono B4.out.size)
        have P5 := Lib.hid (P4.out.below HW.out)
        have Q5 := Lib.hid (Q4.out.below HW.out)
        have R5 := Lib.hid (R4.out.below HW.out)
        have S5 := Lib.hid (S4.out.below HW.out)
        have W1c : Hid (∀ x : Ext wr, Calls Try.prog 14 #[] x.1 fun e w'' => e = .returned (.bool true) ∧ ∃ y : Ext wr, w'' = y.1) := fun x => calls_ext x (pgWakes x.1)
        by_cases hqf : q.fits = true
        · have hqx := of_decide_eq_true hqf
          have hoq : Sct.of q.bytes = q := of_bytes HQ.out ⟨hqx.2.1, hqx.2.2⟩
          have hqc : q.code = u8s q.bytes := by unfold Sct.code; rw [if_pos hqf]
          have hqe : q.codeE = 0 := by unfold Sct.codeE; rw [if_pos hqf]
          have hS6 : RowC wr x3.heap.size 27 (u8s q.bytes) := by rw [← hqc]; exact S5.out
          obtain ⟨β, hβ⟩ : ∃ β, sameS p q = β := ⟨_, rfl⟩
          have hβ2 : alike (u8s p.bytes) (u8s q.bytes) = β := by
            rw [← hβ, Bool.eq_iff_iff, alike_iff, sameS_iff]
            constructor
            · intro h
              rw [← HOF.out, ← hoq, u8s_inj h]
            · intro h
              rw [h]
          have L5 : ∀ x : Ext wr, (loadVar 27 ⟨x1.heap.size, 0, none⟩).run Try.prog x.1 = .ok (.agg (u8s p.bytes).toArray) x.1 := fun x => (R5.out.below x.2).blk (by rw [u8s_length]; exact Sct.bytes_length HP.out)
          have L7 : ∀ x : Ext wr, (loadVar 27 ⟨x3.heap.size, 0, none⟩).run Try.prog x.1 = .ok (.agg (u8s q.bytes).toArray) x.1 := fun x => (hS6.below x.2).blk (by rw [u8s_length]; exact Sct.bytes_length HQ.out)
          have L2 : ∀ x : Ext wr, (loadVar 25 ⟨w.heap.size, 0, none⟩).run Try.prog x.1 = .ok (.agg p.cells.toArray) x.1 := fun x => (P5.out.below x.2).pg HP.out.len
          have L3 : ∀ x : Ext wr, (loadVar 25 ⟨W1.heap.size, 0, none⟩).run Try.prog x.1 = .ok (.agg q.cells.toArray) x.1 := fun x => (Q5.out.below x.2).pg HQ.out.len
          have E1 : ∀ x : Ext wr, (Op.equalIn 10000 27 (.agg (u8s p.bytes).toArray) (.agg (u8s q.bytes).toArray)).run Try.prog x.1 = .ok β x.1 := fun x => by
            rw [← hβ2]; exact eq_blk (isBlk_u8s (Sct.bytes_length HP.out)) (isBlk_u8s (Sct.bytes_length HQ.out)) x.1
          have E2 : ∀ x : Ext wr, (Op.equalIn 10000 25 (.agg p.cells.toArray) (.agg q.cells.toArray)).run Try.prog x.1 = .ok β x.1 := fun x => by
            rw [← hβ]; exact eq_sec HP.out.len HQ.out.len x.1
          rw [hqc, hqe]
          clear hqx hoq hqc hqe hS6 hβ hβ2 hqf g1 g2
          refine region_ext (by kernel_rfl) (by kernel_rfl) ?_
          repeat (go_big_quiet_step (with_reducible (exact W1c.out _)))
          refine wpQuiet_nil ?_
          intro x
          have BX : Hid (Below w.heap.size w x.1) := BW.out.trans (x.2.mono BW.out.size)
          clear L5 L7 L2 L3 E1 E2 W1c
          go_wp2_with fail
          go_ret
          exact ⟨rfl, BX.out⟩
        · have hqe : q.codeE = 11 := by unfold Sct.codeE; rw [if_neg hqf]
          rw [hqe]
          clear hqe hqf g1 g2
          refine region_ext (by kernel_rfl) (by kernel_rfl) ?_
          repeat (go_big_quiet_step (with_reducible (exact W1c.out _)))
          refine wpQuiet_nil ?_
          intro x
          have BX : Hid (Below w.heap.size w x.1) := BW.out.trans (x.2.mono BW.out.size)
          go_wp2_with fail
          go_ret
          exact ⟨rfl, BX.out⟩
  · have hE : Hid (p.code = fillB 0 ∧ p.codeE = 11) := by refine (?_ : _ ∧ _); unfold Sct.code Sct.codeE; rw [if_neg hf, if_neg hf]; exact ⟨rfl, rfl⟩
    obtain ⟨mk, hmk⟩ : ∃ q, p.mark = q := ⟨_, rfl⟩
    obtain ⟨ix, hix⟩ : ∃ q, p.index = q := ⟨_, rfl⟩
    have hq : (mk == 0) = true ∨ ((mk == 0) = false ∧ decide (ix < 0) = true) ∨ ((mk == 0) = false ∧ decide (ix < 0) = false ∧ decide (65535 < ix) = true) := by
      have hfx : ¬ (p.mark ≠ 0 ∧ 0 ≤ p.index ∧ p.index ≤ 65535) := fun h => hf (decide_eq_true h)
      rw [hmk, hix] at hfx
      by_cases h0 : mk = 0
      · exact .inl (by simpa using h0)
      · by_cases h1 : ix < 0
        · exact .inr (.inl ⟨by simpa using h0, by simpa using h1⟩)
        · exact .inr (.inr ⟨by simpa using h0, by simpa using h1, by simp; omega⟩)
    have EM := Lib.hid hmk
    have EI := Lib.hid hix
    clear hf hmk hix
    go_enter Try.func7, Try.ntmps7
    go_wp2_with fail
    try rw [LP]
    try go_wp2_with fail
    clear LP hW hW1
    go_at_call 9
    refine (pgEncode p HP.out W).mono ?_
    rintro e x1 ⟨rfl, hb⟩
    rw [hE.out.1, hE.out.2]
    obtain ⟨x2, ST2, hr, hb2⟩ := new_blk x1 (isBlk_fill 0)
    have b2 : Below W.heap.size W x2 := hb.trans (hb2.mono hb.size)
    have P2 := Lib.hid (P0.out.below b2)
    have Q2 := Lib.hid (Q0.out.below b2)
    have B2 : Hid (Below w.heap.size w x2) := B0.out.trans (b2.mono B0.out.size)
    have LQ := Lib.hid (Q2.out.pg HQ.out.len)
    clear hr hb hb2 b2
    go_wp2_with fail
    clear ST2
    rw [LQ.out]
    go_wp2_with fail
    go_at_call 9
    refine (pgEncode q HQ.out x2).mono ?_
    rintro e x3 ⟨rfl, hb⟩
    obtain ⟨x4, ST4, hr, hb2⟩ := new_blk x3 (isBlk_code HQ.out)
    have b4 : Below x2.heap.size x2 x4 := hb.trans (hb2.mono hb.size)
    have P4 := P2.out.below b4
    have B4 : Hid (Below w.heap.size w x4) := B2.out.trans (b4.mono B2.out.size)
    have c0 : x4.cell? ⟨w.heap.size, 0, none⟩ = some (.int .u8 mk) := by rw [← EM.out]; exact P4.cell 0 _ rfl
    have c2 : x4.cell? ⟨w.heap.size, 2, none⟩ = some (.int .i64 ix) := by rw [← EI.out]; exact P4.cell 2 _ rfl
    obtain ⟨ec, hec⟩ : ∃ ec, q.codeE = ec := ⟨_, rfl⟩
    rw [hec]
    clear hr hb hb2 b4 P4 hec
    rcases hq with q0 | ⟨q0, q1⟩ | ⟨q0, q1, q2⟩
    all_goals
      go_wp2_with fail
      clear ST4 c0 c2
      go_at_call 14
      refine (pgWakes x4).mono ?_
      rintro e x5 ⟨rfl, hb⟩
      have B5 : Hid (Below w.heap.size w x5) := B4.out.trans (hb.mono B4.out.size)
      clear hb
      go_wp2_with fail
      go_ret
      exact ⟨rfl, B5.out⟩

set_option maxRecDepth 100000 in
theorem lifted (os : Os) (started : os.Started) (H : Type) (enc : TypeId × Value → H) :
    ReturnsInHanded {} Try.checked os 7 .any (Rows.pagePlacesSpec.pre6 enc Try.prog Try.f7 Rows.pagePlacesRow.domain false) (Rows.pagePlacesSpec.post enc Try.prog Try.f7 false true false false) := by
  refine returnsInHanded_of_change (C := Try.checked) own started (by kernel_rfl) Try.func7
    (ChangeSpec.witness6 (enc := enc) (C := Try.checked) false ⟨#[], #[.agg #[.int .u8 0, .int .u32 0, .int .i64 0, .int .u8 0, .int .u8 0, .int .u8 0, .int .u8 0, .int .u8 0, .int .u8 0, .int .u8 0, .int .u8 0, .int .u8 0, .int .u8 0, .int .u8 0, .int .u8 0, .int .u8 0, .int .u8 0, .int .u8 0, .int .u8 0, .int .u8 0, .int .u8 0, .int .u8 0, .int .u8 0, .int .u8 0, .int .u8 0, .int .u8 0, .int .u8 0, .int .u8 0, .int .u8 0, .int .u8 0, .int .u8 0, .int .u8 0, .int .u8 0, .int .u8 0, .int .u8 0, .int .u8 0, .int .u8 0, .int .u8 0, .int .u8 0, .int .u8 0, .int .u8 0, .int .u8 0, .int .u8 0, .int .u8 0, .int .u8 0, .int .u8 0, .int .u8 0, .int .u8 0, .int .u8 0, .int .u8 0, .int .u8 0], .agg #[.int .u8 0, .int .u32 0, .int .i64 0, .int .u8 0, .int .u8 0, .int .u8 0, .int .u8 0, .int .u8 0, .int .u8 0, .int .u8 0, .int .u8 0, .int .u8 0, .int .u8 0, .int .u8 0, .int .u8 0, .int .u8 0, .int .u8 0, .int .u8 0, .int .u8 0, .int .u8 0, .int .u8 0, .int .u8 0, .int .u8 0, .int .u8 0, .int .u8 0, .int .u8 0, .int .u8 0, .int .u8 0, .int .u8 0, .int .u8 0, .int .u8 0, .int .u8 0, .int .u8 0, .int .u8 0, .int .u8 0, .int .u8 0, .int .u8 0, .int .u8 0, .int .u8 0, .int .u8 0, .int .u8 0, .int .u8 0, .int .u8 0, .int .u8 0, .int .u8 0, .int .u8 0, .int .u8 0, .int .u8 0, .int .u8 0, .int .u8 0, .int .u8 0]], []⟩ 8 (by kernel_rfl) (by kernel_rfl) (by kernel_rfl) (by kernel_rfl)) ?_
  intro W base args ds gs before hval0 hW hcnd _
  have hval : ∀ (j : Nat) t v, Try.f7.params[j]? = some t → args[j]? = some v → Value.okWide Try.prog W .any base t v := hval0
  have hW' := hW
  obtain ⟨p, q, hA0, hV, rfl, hfz, hnd⟩ := hW
  have hA : DataW.TrodAll enc Try.prog W 0 (fun _ => true) true Try.f7.params.toList args.toList ds p := hA0
  rw [Try.params7] at hA hval
  obtain ⟨v0, vs0, d0, ds0, p0, q0, hargs, rfl, rfl, h0, r0⟩ := trodAll_cons hA
  obtain ⟨v1, vs1, d1, ds1, p1, q1, rfl, rfl, rfl, h1, r1⟩ := trodAll_cons r0
  obtain ⟨rfl, rfl, rfl⟩ := trodAll_nil r1
  obtain rfl : args = #[v0, v1] := by cases args; simp_all
  obtain ⟨rfl, rfl⟩ := trodVars_none hV
  have lt0 : ∀ x ∈ p0, x.block < W.heap.size := by obtain ⟨m, hm⟩ := h0; exact DataW.trod_lt m _ _ _ hm
  have a0 := Arg.mk (hval 0 25 v0 rfl rfl) h0
  have lt1 : ∀ x ∈ p1, x.block < W.heap.size := by obtain ⟨m, hm⟩ := h1; exact DataW.trod_lt m _ _ _ hm
  have a1 := Arg.mk (hval 1 25 v1 rfl rfl) h1
  clear hA0 hval0
  refine (walk v0 v1 W a0 a1).mono fun e W' ⟨he, bel⟩ => ?_
  subst he
  exact ⟨_, rfl, _, _, _, [], _, [], hW', trodAll_mk1 (shut_bool Try.underlying4 _), (trodAll_cons_mk (Below.trod laidOut (by kernel_rfl) (of_decide_eq_true (by kernel_rfl)) h0 bel lt0) (trodAll_cons_mk (Below.trod laidOut (by kernel_rfl) (of_decide_eq_true (by kernel_rfl)) h1 bel lt1) trodAll_mk0)), rfl, bel.frame _, fun h => by cases h⟩

theorem over : Rows.pagePlacesRow.holds Try.pinned (OpenSpec.ofChange Rows.pagePlacesSpec) :=
  OpenClaim.holds_of_wide 7 Try.f7 rfl rfl rfl rfl rfl rfl rfl ⟨rfl, rfl, rfl, rfl, rfl⟩ rfl rfl rfl rfl rfl (by kernel_rfl) Try.func7 (by kernel_rfl)
    (of_decide_eq_true (by kernel_rfl)) (by unfold Func.isWrapper; first | (rw [if_pos (by decide +kernel)]; kernel_rfl) | (rw [if_neg (by decide +kernel)]; exact ⟨rfl, rfl⟩))
    (fun os started H enc _ => lifted os started H enc)

theorem proved : Rows.PagePlacesSaid := over
#print axioms proved
end Go.Proofs.Ytnngebnnehokdaa.pagePlaces
