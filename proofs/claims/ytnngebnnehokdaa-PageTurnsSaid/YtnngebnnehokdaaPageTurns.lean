/- The marked sector of a marked sector's bytes is it; with any one byte turned there is none. -/
import Derived.Test.YtnngebnnehokdaaPgArg
import Derived.Test.YtnngebnnehokdaaPgAt
import Derived.Test.YtnngebnnehokdaaPgWakes
import Derived.Test.YtnngebnnehokdaaQuiet
import Derived.Test.YtnngebnnehokdaaMod
namespace Go.Proofs.Ytnngebnnehokdaa.pageTurns
open Go.ChangeShapes Go.WideShapes Go.ChangeAt Go.RowKit
set_option linter.unusedVariables false
attribute [-simp] Try.isAgg27 Try.zeroValue27 Try.isAgg23 Try.zeroValue23 Try.isAgg25 Try.zeroValue25 Try.isAgg33 Try.zeroValue33
attribute [-go_sem] loadVar storeVar run_equalIn_agg
attribute [local go_sem] zero_blk build_blk zero_bod zero_pg build_pg build_pg0 zero_sec loadVar_open5 storeVar_open5

set_option maxRecDepth 100000 in
set_option maxHeartbeats 4000000 in
theorem walk (v0 v1 v2 : Value) (w : World) (w0 : Arg w 25 v0) (w1 : Arg w 3 v1) (w2 : Arg w 5 v2) :
    Calls Try.prog 5 #[v0, v1, v2] w fun e w' => e = .returned (.bool true) ∧ Below w.heap.size w w' := by
  obtain ⟨p, hp, -, rfl⟩ := w0.sec
  obtain ⟨k, rfl, -⟩ := w1.int Try.underlying3
  obtain ⟨y, rfl, wy⟩ := w2.int Try.underlying5
  have hy := (wf_iff .u8 y).1 wy
  simp [IntKind.min, IntKind.max, IntKind.signed, IntKind.bits] at hy
  have HP := Lib.hid hp
  have HY : Hid (0 ≤ y ∧ y < 256) := by show _ ∧ _; omega
  clear hp hy wy w0 w1 w2
  obtain ⟨W, hW⟩ : ∃ W, w.alloc (.cells p.cells.toArray 25) = W := ⟨_, rfl⟩
  have B0 : Hid (Below w.heap.size w W) := by show Below _ _ _; rw [← hW]; exact below_new w _
  have P0 : Hid (RowC W w.heap.size 25 p.cells) := by
    show RowC _ _ _ _
    rw [← hW]; exact RowC.new w _ _
  have LP := P0.out.pg HP.out.len
  by_cases hf : p.fits = true
  · have hbl := Sct.bytes_length HP.out
    have hbb := Sct.bytes_bytes HP.out
    have hfx := of_decide_eq_true hf
    have hof : Sct.of p.bytes = p := of_bytes HP.out ⟨hfx.2.1, hfx.2.2⟩
    have hd0 : decS p.bytes = p ∧ decE p.bytes = 0 := by
      unfold decS decE decOk
      rw [hof, hf]
      simp
    obtain ⟨K, hK⟩ : ∃ K : Nat, modI k 64 = (K : Int) := ⟨(modI k 64).toNat, by have := (modI_bd (k := k) (n := 64) (by omega)).1; omega⟩
    have hK64 : K < 64 := by have := (modI_bd (k := k) (n := 64) (by omega)).2; omega
    have HM : Hid (∀ w : World, Calls Try.prog 19 #[.int .i64 k, .int .i64 64] w fun e w' => e = .returned (.int .i64 (K : Int)) ∧ w' = w) := by
      intro w
      have := mod_any k 64 w (by omega)
      rw [hK] at this
      exact this
    obtain ⟨v, hv⟩ : ∃ v, p.bytes[K]?.getD 0 = v := ⟨_, rfl⟩
    have hvb := hbb K
    rw [hv] at hvb
    obtain ⟨y', hy'⟩ : ∃ y', bits BinOp.xor IntKind.u8 v y = y' := ⟨_, rfl⟩
    have HY' := Lib.hid hy'
    have hyb : 0 ≤ y' ∧ y' < 256 := by rw [← hy']; exact u8_xor_bd hvb HY.out
    have hxe : y' = v ↔ y = 0 := by rw [← hy', u8_xor_eq hvb HY.out]
    have HD1 : Hid (y = 0 → decS (p.bytes.set K y') = p ∧ decE (p.bytes.set K y') = 0) := fun h => by
      have e : p.bytes.set K y' = p.bytes := by
        rw [hxe.2 h, ← hv, List.getElem?_eq_getElem (by omega)]
        exact List.set_getElem_self _
      rw [e]
      exact hd0
    have HD2 : Hid (y ≠ 0 → decS (p.bytes.set K y') = zsct ∧ decE (p.bytes.set K y') = 11) := fun h => by
      have hn := turned_none HP.out hK64 hyb (by rw [hv]; exact fun e => h (hxe.1 e))
      unfold decS decE decOk
      rw [decide_eq_false hn]
      simp
    have hcell : (u8s p.bytes)[K]? = some (.int .u8 v) := by
      unfold u8s
      rw [List.getElem?_map, List.getElem?_eq_getElem (by omega), ← hv, List.getElem?_eq_getElem (by omega)]
      rfl
    have HC := Lib.hid hcell
    have HYB := Lib.hid hyb
    have HBL := Lib.hid hbl
    have HBB := Lib.hid hbb
    have HD0 := Lib.hid hd0
    have hE : Hid (p.code = u8s p.bytes ∧ p.codeE = 0) := by refine (?_ : _ ∧ _); unfold Sct.code Sct.codeE; rw [if_pos hf, if_pos hf]; exact ⟨rfl, rfl⟩
    clear hbl hbb hfx hof hd0 hK hv hvb hy' hyb hxe hcell hf
    go_enter Try.func5, Try.ntmps5
    go_wp2_with fail
    try rw [LP]
    try go_wp2_with fail
    clear LP hW
    go_at_call 9
    refine (pgEncode p HP.out W).mono ?_
    rintro e x1 ⟨rfl, hb⟩
    rw [hE.out.1, hE.out.2]
    obtain ⟨x2, ST2, hr, hb2⟩ := new_blk x1 (isBlk_u8s HBL.out)
    have b2 : Below W.heap.size W x2 := hb.trans (hb2.mono hb.size)
    have B2 : Hid (Below w.heap.size w x2) := B0.out.trans (b2.mono B0.out.size)
    have P2 := Lib.hid (P0.out.below b2)
    have R2 := Lib.hid hr
    have G1 : Hid (w.heap.size ≤ x1.heap.size) := Nat.le_trans B0.out.size hb.size
    have L2 := hr.blk (by rw [u8s_length]; exact HBL.out)
    clear hr hb hb2 b2
    go_wp2_with fail
    clear L2 ST2
    go_at_call 11
    refine (pgDecode p.bytes HBB.out HBL.out x2).mono ?_
    rintro e x3 ⟨rfl, hb⟩
    rw [HD0.out.1, HD0.out.2]
    obtain ⟨x4, ST4, hr, hb2⟩ := new_pg x3 p HP.out.len
    have b4 : Below x2.heap.size x2 x4 := hb.trans (hb2.mono hb.size)
    have B4 : Hid (Below w.heap.size w x4) := B2.out.trans (b4.mono B2.out.size)
    have P4 := P2.out.below b4
    have R4 := Lib.hid (R2.out.below b4)
    have LP4 := Lib.hid (P4.pg HP.out.len)
    have LQ4 := Lib.hid (hr.pg HP.out.len)
    have EQ : (Op.equalIn 10000 25 (.agg p.cells.toArray) (.agg p.cells.toArray)).run Try.prog x4 = .ok true x4 := by
      rw [eq_sec HP.out.len HP.out.len, sameS_iff.2 rfl]
    clear hr hb hb2 b4 P4
    go_wp2_with fail
    clear ST4
    rw [LQ4.out]
    go_wp2_with fail
    rw [LP4.out]
    go_wp2_with fail
    clear EQ
    go_at_call 19
    refine (HM.out x4).mono ?_
    rintro e w' ⟨rfl, hx⟩
    obtain rfl := hx.symm
    clear hx
    have cK := R4.out.cell K _ HC.out
    have fK := R4.out.frozen K
    have k1 : (K : Int) < 64 := by omega
    have hy2 : bits BinOp.xor IntKind.u8 v y = y' := HY'.out
    obtain ⟨x5, hx5⟩ : ∃ x, x4.setCell ⟨x1.heap.size, K, none⟩ (.int .u8 y') = x := ⟨_, rfl⟩
    have R5 : RowC x5 x1.heap.size 27 (u8s (p.bytes.set K y')) := by
      rw [← hx5, show u8s (p.bytes.set K y') = (u8s p.bytes).set K (.int .u8 y') by unfold u8s; rw [List.map_set]]
      exact R4.out.set K _
    have hl5 : (p.bytes.set K y').length = 64 := by rw [List.length_set]; exact HBL.out
    have B5 : Hid (Below w.heap.size w x5) := by show Below _ _ _; rw [← hx5]; exact B4.out.setCell (p := ⟨x1.heap.size, K, none⟩) G1.out _
    have L5 := R5.blk (by rw [u8s_length]; exact hl5)
    have HL5 := Lib.hid hl5
    clear R5 hl5
    go_wp2_with fail
    clear L5 hx5 hy2 cK fK
    go_at_call 11
    refine (pgDecode (p.bytes.set K y') (HBB.out.set HYB.out) HL5.out x5).mono ?_
    rintro e x6 ⟨rfl, hb⟩
    by_cases hy0 : y = 0
    · rw [(HD1.out hy0).1, (HD1.out hy0).2]
      subst hy0
      obtain ⟨x7, ST7, hr, hb2⟩ := new_pg x6 p HP.out.len
      have B7 : Hid (Below w.heap.size w x7) := B5.out.trans ((hb.trans (hb2.mono hb.size)).mono B5.out.size)
      clear hr hb hb2
      go_wp2_with fail
      clear ST7
      go_at_call 14
      refine (pgWakes x7).mono ?_
      rintro e x8 ⟨rfl, hb⟩
      have B8 : Hid (Below w.heap.size w x8) := B7.out.trans (hb.mono B7.out.size)
      clear hb
      go_wp2_with fail
      go_ret
      exact ⟨rfl, B8.out⟩
    · rw [(HD2.out hy0).1, (HD2.out hy0).2]
      have hy3 : (y == 0) = false := by simpa using hy0
      obtain ⟨x7, ST7, hr, hb2⟩ := new_pg x6 zsct (by simp [zsct])
      have B7 : Hid (Below w.heap.size w x7) := B5.out.trans ((hb.trans (hb2.mono hb.size)).mono B5.out.size)
      have L7 := Lib.hid (hr.pg (p := zsct) (by simp [zsct]))
      have EQ : (Op.equalIn 10000 25 (.agg zsct.cells.toArray) (.agg zcs.toArray)).run Try.prog x7 = .ok true x7 := by
        rw [zcs_eq, eq_sec (p := zsct) (q := zsct) (by simp [zsct]) (by simp [zsct]), sameS_iff.2 rfl]
      clear hr hb hb2 hy0
      go_wp2_with fail
      clear ST7
      rw [L7.out]
      go_wp2_with fail
      clear EQ
      go_at_call 14
      refine (pgWakes x7).mono ?_
      rintro e x8 ⟨rfl, hb⟩
      have B8 : Hid (Below w.heap.size w x8) := B7.out.trans (hb.mono B7.out.size)
      clear hb
      go_wp2_with fail
      go_ret
      exact ⟨rfl, B8.out⟩
  · have hE : Hid (p.code = fillB 0 ∧ p.codeE = 11) := by refine (?_ : _ ∧ _); unfold Sct.code Sct.codeE; rw [if_neg hf, if_neg hf]; exact ⟨rfl, rfl⟩
    clear hf
    go_enter Try.func5, Try.ntmps5
    go_wp2_with fail
    try rw [LP]
    try go_wp2_with fail
    clear LP hW
    go_at_call 9
    refine (pgEncode p HP.out W).mono ?_
    rintro e x1 ⟨rfl, hb⟩
    rw [hE.out.1, hE.out.2]
    obtain ⟨x2, ST2, hr, hb2⟩ := new_blk x1 (isBlk_fill 0)
    have b2 : Below W.heap.size W x2 := hb.trans (hb2.mono hb.size)
    have B2 : Hid (Below w.heap.size w x2) := B0.out.trans (b2.mono B0.out.size)
    have L2 : (loadVar 27 ⟨x1.heap.size, 0, none⟩).run Try.prog x2 = .ok (.agg (fillB 0).toArray) x2 := hr.blk (isBlk_fill 0).length
    have EQ := eq_fill_z 0 x2
    clear hr hb hb2 b2
    go_wp2_with fail
    clear L2 ST2 EQ
    go_at_call 14
    refine (pgWakes x2).mono ?_
    rintro e x3 ⟨rfl, hb⟩
    have B3 : Hid (Below w.heap.size w x3) := B2.out.trans (hb.mono B2.out.size)
    clear hb
    go_wp2_with fail
    go_ret
    exact ⟨rfl, B3.out⟩

set_option maxRecDepth 100000 in
theorem lifted (os : Os) (started : os.Started) (H : Type) (enc : TypeId × Value → H) :
    ReturnsInHanded {} Try.checked os 5 .any (Rows.pageTurnsSpec.pre6 enc Try.prog Try.f5 Rows.pageTurnsRow.domain false) (Rows.pageTurnsSpec.post enc Try.prog Try.f5 false true false false) := by
  refine returnsInHanded_of_change (C := Try.checked) own started (by kernel_rfl) Try.func5
    (ChangeSpec.witness6 (enc := enc) (C := Try.checked) false ⟨#[], #[.agg #[.int .u8 0, .int .u32 0, .int .i64 0, .int .u8 0, .int .u8 0, .int .u8 0, .int .u8 0, .int .u8 0, .int .u8 0, .int .u8 0, .int .u8 0, .int .u8 0, .int .u8 0, .int .u8 0, .int .u8 0, .int .u8 0, .int .u8 0, .int .u8 0, .int .u8 0, .int .u8 0, .int .u8 0, .int .u8 0, .int .u8 0, .int .u8 0, .int .u8 0, .int .u8 0, .int .u8 0, .int .u8 0, .int .u8 0, .int .u8 0, .int .u8 0, .int .u8 0, .int .u8 0, .int .u8 0, .int .u8 0, .int .u8 0, .int .u8 0, .int .u8 0, .int .u8 0, .int .u8 0, .int .u8 0, .int .u8 0, .int .u8 0, .int .u8 0, .int .u8 0, .int .u8 0, .int .u8 0, .int .u8 0, .int .u8 0, .int .u8 0, .int .u8 0], .int .i64 0, .int .u8 0], []⟩ 8 (by kernel_rfl) (by kernel_rfl) (by kernel_rfl) (by kernel_rfl)) ?_
  intro W base args ds gs before hval0 hW hcnd _
  have hval : ∀ (j : Nat) t v, Try.f5.params[j]? = some t → args[j]? = some v → Value.okWide Try.prog W .any base t v := hval0
  have hW' := hW
  obtain ⟨p, q, hA0, hV, rfl, hfz, hnd⟩ := hW
  have hA : DataW.TrodAll enc Try.prog W 0 (fun _ => true) true Try.f5.params.toList args.toList ds p := hA0
  rw [Try.params5] at hA hval
  obtain ⟨v0, vs0, d0, ds0, p0, q0, hargs, rfl, rfl, h0, r0⟩ := trodAll_cons hA
  obtain ⟨v1, vs1, d1, ds1, p1, q1, rfl, rfl, rfl, h1, r1⟩ := trodAll_cons r0
  obtain ⟨v2, vs2, d2, ds2, p2, q2, rfl, rfl, rfl, h2, r2⟩ := trodAll_cons r1
  obtain ⟨rfl, rfl, rfl⟩ := trodAll_nil r2
  obtain rfl : args = #[v0, v1, v2] := by cases args; simp_all
  obtain ⟨rfl, rfl⟩ := trodVars_none hV
  have lt0 : ∀ x ∈ p0, x.block < W.heap.size := by obtain ⟨m, hm⟩ := h0; exact DataW.trod_lt m _ _ _ hm
  have a0 := Arg.mk (hval 0 25 v0 rfl rfl) h0
  have lt1 : ∀ x ∈ p1, x.block < W.heap.size := by obtain ⟨m, hm⟩ := h1; exact DataW.trod_lt m _ _ _ hm
  have a1 := Arg.mk (hval 1 3 v1 rfl rfl) h1
  have lt2 : ∀ x ∈ p2, x.block < W.heap.size := by obtain ⟨m, hm⟩ := h2; exact DataW.trod_lt m _ _ _ hm
  have a2 := Arg.mk (hval 2 5 v2 rfl rfl) h2
  clear hA0 hval0
  refine (walk v0 v1 v2 W a0 a1 a2).mono fun e W' ⟨he, bel⟩ => ?_
  subst he
  exact ⟨_, rfl, _, _, _, [], _, [], hW', trodAll_mk1 (shut_bool Try.underlying4 _), (trodAll_cons_mk (Below.trod laidOut (by kernel_rfl) (of_decide_eq_true (by kernel_rfl)) h0 bel lt0) (trodAll_cons_mk (Below.trod laidOut (by kernel_rfl) (of_decide_eq_true (by kernel_rfl)) h1 bel lt1) (trodAll_cons_mk (Below.trod laidOut (by kernel_rfl) (of_decide_eq_true (by kernel_rfl)) h2 bel lt2) trodAll_mk0))), rfl, bel.frame _, fun h => by cases h⟩

theorem over : Rows.pageTurnsRow.holds Try.pinned (OpenSpec.ofChange Rows.pageTurnsSpec) :=
  OpenClaim.holds_of_wide 5 Try.f5 rfl rfl rfl rfl rfl rfl rfl ⟨rfl, rfl, rfl, rfl, rfl⟩ rfl rfl rfl rfl rfl (by kernel_rfl) Try.func5 (by kernel_rfl)
    (of_decide_eq_true (by kernel_rfl)) (by unfold Func.isWrapper; first | (rw [if_pos (by decide +kernel)]; kernel_rfl) | (rw [if_neg (by decide +kernel)]; exact ⟨rfl, rfl⟩))
    (fun os started H enc _ => lifted os started H enc)

theorem proved : Rows.PageTurnsSaid := over
#print axioms proved
end Go.Proofs.Ytnngebnnehokdaa.pageTurns
