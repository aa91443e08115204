/- The bytes of any marked sector, the marked sector of any bytes, or that there is none. -/
import Derived.Test.YtnngebnnehokdaaPgArg
import Derived.Test.YtnngebnnehokdaaPgAt
import Derived.Test.YtnngebnnehokdaaPgWakes
import Derived.Test.YtnngebnnehokdaaQuiet
namespace Go.Proofs.Ytnngebnnehokdaa.pageCodes
open Go.ChangeShapes Go.WideShapes Go.ChangeAt Go.RowKit
set_option linter.unusedVariables false
attribute [-simp] Try.isAgg27 Try.zeroValue27 Try.isAgg23 Try.zeroValue23 Try.isAgg25 Try.zeroValue25 Try.isAgg33 Try.zeroValue33
attribute [-go_sem] loadVar storeVar run_equalIn_agg
attribute [local go_sem] zero_blk build_blk zero_bod zero_pg build_pg build_pg0 zero_sec loadVar_open5 storeVar_open5

set_option maxRecDepth 100000 in
set_option maxHeartbeats 4000000 in
theorem walk (v0 v1 : Value) (w : World) (w0 : Arg w 25 v0) (w1 : Arg w 27 v1) :
    Calls Try.prog 3 #[v0, v1] w fun e w' => e = .returned (.bool true) ∧ Below w.heap.size w w' := by
  obtain ⟨p, hp, -, rfl⟩ := w0.sec
  obtain ⟨bs, hl, hb, rfl⟩ := w1.blk
  have HP := Lib.hid hp
  have HBS := Lib.hid hb
  have HL := Lib.hid hl
  clear hp hb hl w0 w1
  obtain ⟨W1, hW1⟩ : ∃ W1, w.alloc (.cells p.cells.toArray 25) = W1 := ⟨_, rfl⟩
  obtain ⟨W, hW⟩ : ∃ W, W1.alloc (.cells (u8s bs).toArray 27) = W := ⟨_, rfl⟩
  have b0 : Below w.heap.size w W1 := by rw [← hW1]; exact below_new w _
  have b1 : Below W1.heap.size W1 W := by rw [← hW]; exact below_new W1 _
  have P0 : Hid (RowC W w.heap.size 25 p.cells) := by
    have h : RowC W1 w.heap.size 25 p.cells := by rw [← hW1]; exact RowC.new w _ _
    exact h.below b1
  have Q0 : Hid (RowC W W1.heap.size 27 (u8s bs)) := by
    show RowC _ _ _ _
    rw [← hW]; exact RowC.new W1 _ _
  have B0 : Hid (Below w.heap.size w W) := b0.trans (b1.mono b0.size)
  have LP := P0.out.pg HP.out.len
  clear b0 b1
  go_enter Try.func3, Try.ntmps3
  go_wp2_with fail
  try rw [LP]
  try go_wp2_with fail
  clear LP hW hW1
  go_at_call 9
  refine (pgEncode p HP.out W).mono ?_
  rintro e x1 ⟨rfl, hb⟩
  obtain ⟨x2, ST2, hr, hb2⟩ := new_blk x1 (isBlk_code HP.out)
  have b2 : Below W.heap.size W x2 := hb.trans (hb2.mono hb.size)
  have P2 := Lib.hid (P0.out.below b2)
  have Q2 := Lib.hid (Q0.out.below b2)
  have B2 : Hid (Below w.heap.size w x2) := B0.out.trans (b2.mono B0.out.size)
  have R2 := Lib.hid hr
  clear hr hb hb2 b2
  have c0 := P2.out.cell 0 _ rfl
  have c1 := P2.out.cell 1 _ rfl
  have c2 := P2.out.cell 2 _ rfl
  have c3 := P2.out.bod HP.out.len
  have BS := build_sec4 p.mark p.seq p.index (u8s p.body) (by rw [u8s_length]; exact HP.out.len) x2
  have BS2 : Hid ((Instr.build 33 #[(0, .int .u8 p.mark), (1, .int .u32 p.seq), (2, .int .i64 p.index), (3, .agg (u8s p.body).toArray)]).run Try.prog x2 = .ok (.agg p.cells.toArray) x2) := BS
  clear BS
  go_wp2_with ((with_reducible refine gate_struct 33 ?_); refine wpList_struct_run _ _ rfl rfl [(0, .int .u8 p.mark), (1, .int .u32 p.seq), (2, .int .i64 p.index), (3, .agg (u8s p.body).toArray)] _ rfl BS2.out ?_)
  clear c0 c1 c2 c3 BS2 ST2
  go_at_call 10
  refine (refEncode p HP.out x2).mono ?_
  rintro e x3 ⟨rfl, hb⟩
  obtain ⟨x4, ST4, hr, hb2⟩ := new_blk x3 (isBlk_code HP.out)
  have b4 : Below x2.heap.size x2 x4 := hb.trans (hb2.mono hb.size)
  have Q4 := Lib.hid (Q2.out.below b4)
  have R4 := Lib.hid (R2.out.below b4)
  have B4 : Hid (Below w.heap.size w x4) := B2.out.trans (b4.mono B2.out.size)
  have S4 := Lib.hid hr
  have L4 := Q4.out.blk (by rw [u8s_length]; exact HL.out)
  clear hr hb hb2 b4
  go_wp2_with fail
  clear ST4 L4
  go_at_call 11
  refine (pgDecode bs HBS.out HL.out x4).mono ?_
  rintro e x5 ⟨rfl, hb⟩
  have HD := Lib.hid (decS_ok HBS.out HL.out)
  obtain ⟨x6, ST6, hr, hb2⟩ := new_pg x5 (decS bs) HD.out.len
  have b6 : Below x4.heap.size x4 x6 := hb.trans (hb2.mono hb.size)
  have Q6 := Lib.hid (Q4.out.below b6)
  have R6 := Lib.hid (R4.out.below b6)
  have S6 := Lib.hid (S4.out.below b6)
  have B6 : Hid (Below w.heap.size w x6) := B4.out.trans (b6.mono B4.out.size)
  have T6 := Lib.hid hr
  have L6 := Q6.out.blk (by rw [u8s_length]; exact HL.out)
  clear hr hb hb2 b6
  go_wp2_with fail
  clear ST6 L6
  go_at_call 12
  refine (refDecode bs HBS.out HL.out x6).mono ?_
  rintro e x7 ⟨rfl, hb⟩
  obtain ⟨x8, ST8, hr, hb2⟩ := new_sec x7 (decS bs) HD.out.len
  have b8 : Below x6.heap.size x6 x8 := hb.trans (hb2.mono hb.size)
  have R8 := Lib.hid (R6.out.below b8)
  have S8 := Lib.hid (S6.out.below b8)
  have T8 := Lib.hid (T6.out.below b8)
  have B8 : Hid (Below w.heap.size w x8) := B6.out.trans (b8.mono B6.out.size)
  have U8 := Lib.hid hr
  have LR := R8.out.blk (isBlk_code HP.out).length
  have LS := S8.out.blk (isBlk_code HP.out).length
  have EQ : (Op.equalIn 10000 27 (.agg p.code.toArray) (.agg p.code.toArray)).run Try.prog x8 = .ok true x8 := by
    rw [← alike_self p.code]; exact eq_blk (isBlk_code HP.out) (isBlk_code HP.out) x8
  clear hr hb hb2 b8
  go_wp2_with fail
  clear LR LS EQ ST8
  rw [T8.out.pg HD.out.len]
  go_wp2_with fail
  rw [U8.out.sec HD.out.len]
  go_wp2_with fail
  go_at_call 13
  refine (same_any (decS bs) (decS bs) HD.out.len HD.out.len x8).mono ?_
  rintro e x9 ⟨rfl, hb⟩
  rw [sameS_iff.2 rfl]
  have B9 : Hid (Below w.heap.size w x9) := B8.out.trans (hb.mono B8.out.size)
  clear hb
  go_wp2_with fail
  go_at_call 14
  refine (pgWakes x9).mono ?_
  rintro e x10 ⟨rfl, hb⟩
  have B10 : Hid (Below w.heap.size w x10) := B9.out.trans (hb.mono B9.out.size)
  clear hb
  go_wp2_with fail
  go_ret
  exact ⟨rfl, B10.out⟩

set_option maxRecDepth 100000 in
theorem lifted (os : Os) (started : os.Started) (H : Type) (enc : TypeId × Value → H) :
    ReturnsInHanded {} Try.checked os 3 .any (Rows.pageCodesSpec.pre6 enc Try.prog Try.f3 Rows.pageCodesRow.domain false) (Rows.pageCodesSpec.post enc Try.prog Try.f3 false true false false) := by
  refine returnsInHanded_of_change (C := Try.checked) own started (by kernel_rfl) Try.func3
    (ChangeSpec.witness6 (enc := enc) (C := Try.checked) false ⟨#[], #[.agg #[.int .u8 0, .int .u32 0, .int .i64 0, .int .u8 0, .int .u8 0, .int .u8 0, .int .u8 0, .int .u8 0, .int .u8 0, .int .u8 0, .int .u8 0, .int .u8 0, .int .u8 0, .int .u8 0, .int .u8 0, .int .u8 0, .int .u8 0, .int .u8 0, .int .u8 0, .int .u8 0, .int .u8 0, .int .u8 0, .int .u8 0, .int .u8 0, .int .u8 0, .int .u8 0, .int .u8 0, .int .u8 0, .int .u8 0, .int .u8 0, .int .u8 0, .int .u8 0, .int .u8 0, .int .u8 0, .int .u8 0, .int .u8 0, .int .u8 0, .int .u8 0, .int .u8 0, .int .u8 0, .int .u8 0, .int .u8 0, .int .u8 0, .int .u8 0, .int .u8 0, .int .u8 0, .int .u8 0, .int .u8 0, .int .u8 0, .int .u8 0, .int .u8 0], .agg #[.int .u8 0, .int .u8 0, .int .u8 0, .int .u8 0, .int .u8 0, .int .u8 0, .int .u8 0, .int .u8 0, .int .u8 0, .int .u8 0, .int .u8 0, .int .u8 0, .int .u8 0, .int .u8 0, .int .u8 0, .int .u8 0, .int .u8 0, .int .u8 0, .int .u8 0, .int .u8 0, .int .u8 0, .int .u8 0, .int .u8 0, .int .u8 0, .int .u8 0, .int .u8 0, .int .u8 0, .int .u8 0, .int .u8 0, .int .u8 0, .int .u8 0, .int .u8 0, .int .u8 0, .int .u8 0, .int .u8 0, .int .u8 0, .int .u8 0, .int .u8 0, .int .u8 0, .int .u8 0, .int .u8 0, .int .u8 0, .int .u8 0, .int .u8 0, .int .u8 0, .int .u8 0, .int .u8 0, .int .u8 0, .int .u8 0, .int .u8 0, .int .u8 0, .int .u8 0, .int .u8 0, .int .u8 0, .int .u8 0, .int .u8 0, .int .u8 0, .int .u8 0, .int .u8 0, .int .u8 0, .int .u8 0, .int .u8 0, .int .u8 0, .int .u8 0]], []⟩ 8 (by kernel_rfl) (by kernel_rfl) (by kernel_rfl) (by kernel_rfl)) ?_
  intro W base args ds gs before hval0 hW hcnd _
  have hval : ∀ (j : Nat) t v, Try.f3.params[j]? = some t → args[j]? = some v → Value.okWide Try.prog W .any base t v := hval0
  have hW' := hW
  obtain ⟨p, q, hA0, hV, rfl, hfz, hnd⟩ := hW
  have hA : DataW.TrodAll enc Try.prog W 0 (fun _ => true) true Try.f3.params.toList args.toList ds p := hA0
  rw [Try.params3] at hA hval
  obtain ⟨v0, vs0, d0, ds0, p0, q0, hargs, rfl, rfl, h0, r0⟩ := trodAll_cons hA
  obtain ⟨v1, vs1, d1, ds1, p1, q1, rfl, rfl, rfl, h1, r1⟩ := trodAll_cons r0
  obtain ⟨rfl, rfl, rfl⟩ := trodAll_nil r1
  obtain rfl : args = #[v0, v1] := by cases args; simp_all
  obtain ⟨rfl, rfl⟩ := trodVars_none hV
  have lt0 : ∀ x ∈ p0, x.block < W.heap.size := by obtain ⟨m, hm⟩ := h0; exact DataW.trod_lt m _ _ _ hm
  have a0 := Arg.mk (hval 0 25 v0 rfl rfl) h0
  have lt1 : ∀ x ∈ p1, x.block < W.heap.size := by obtain ⟨m, hm⟩ := h1; exact DataW.trod_lt m _ _ _ hm
  have a1 := Arg.mk (hval 1 27 v1 rfl rfl) h1
  clear hA0 hval0
  refine (walk v0 v1 W a0 a1).mono fun e W' ⟨he, bel⟩ => ?_
  subst he
  exact ⟨_, rfl, _, _, _, [], _, [], hW', trodAll_mk1 (shut_bool Try.underlying4 _), (trodAll_cons_mk (Below.trod laidOut (by kernel_rfl) (of_decide_eq_true (by kernel_rfl)) h0 bel lt0) (trodAll_cons_mk (Below.trod laidOut (by kernel_rfl) (of_decide_eq_true (by kernel_rfl)) h1 bel lt1) trodAll_mk0)), rfl, bel.frame _, fun h => by cases h⟩

theorem over : Rows.pageCodesRow.holds Try.pinned (OpenSpec.ofChange Rows.pageCodesSpec) :=
  OpenClaim.holds_of_wide 3 Try.f3 rfl rfl rfl rfl rfl rfl rfl ⟨rfl, rfl, rfl, rfl, rfl⟩ rfl rfl rfl rfl rfl (by kernel_rfl) Try.func3 (by kernel_rfl)
    (of_decide_eq_true (by kernel_rfl)) (by unfold Func.isWrapper; first | (rw [if_pos (by decide +kernel)]; kernel_rfl) | (rw [if_neg (by decide +kernel)]; exact ⟨rfl, rfl⟩))
    (fun os started H enc _ => lifted os started H enc)

theorem proved : Rows.PageCodesSaid := over
#print axioms proved
end Go.Proofs.Ytnngebnnehokdaa.pageCodes
