/- Of no rig, or of a ring that it has not, Replay and Append tell ErrArg and nothing else, for every numbers. -/
import Derived.Test.YtfmgaakbfphpbaaG5
namespace Go.Proofs.Ytfmgaakbfphpbaa.ringNone
open Go.ChangeShapes Go.WideShapes Go.ChangeAt Go.RowKit
set_option linter.unusedVariables false
attribute [-simp] Try.isAgg59 Try.zeroValue59 Try.isAgg79 Try.zeroValue79 Try.isAgg102 Try.zeroValue102 Try.isAgg95 Try.zeroValue95 Try.isAgg81 Try.zeroValue81
attribute [-go_sem] loadVar storeVar run_equalIn_agg
attribute [local go_sem] zero_blk build_blk zero_bod build_bod zero_sec zero_imgR zero_imgD loadVar_open6 storeVar_open6

set_option maxRecDepth 100000 in
set_option maxHeartbeats 8000000 in
theorem walk (v0 v1 v2 : Value) (w : World) (w0 : Arg w 3 v0) (w1 : Arg w 3 v1) (w2 : Arg w 33 v2) :
    Calls Try.prog 5 #[v0, v1, v2] w fun e w' => e = .returned (.bool true) ∧ Below w.heap.size w w' := by
  obtain ⟨frm, rfl, wf⟩ := w0.int Try.underlying3
  obtain ⟨cnt, rfl, wc⟩ := w1.int Try.underlying3
  obtain ⟨seq, rfl, ws⟩ := w2.int Try.underlying33
  have BF := (wf_iff .i64 frm).1 wf
  simp [IntKind.min, IntKind.max, IntKind.signed, IntKind.bits] at BF
  have BC := (wf_iff .i64 cnt).1 wc
  simp [IntKind.min, IntKind.max, IntKind.signed, IntKind.bits] at BC
  have HW := Lib.hid (ringWakes ringOk)
  have HR1 : Hid (Calls Try.prog 15 #[.pointer none, .int .i64 frm, .int .i64 cnt, .int .i64 0, .int .u32 seq] w fun e w' => e = .returned (.tuple #[.agg #[.slice none 0 0, .int .i64 0, .int .u32 0], .int .i64 1]) ∧ Below w.heap.size w w') := ringOk.replay_nil frm cnt 0 seq w
  have HA1 : Hid (∀ (x : World) (g : Option Addr), Calls Try.prog 13 #[.pointer none, .int .i64 frm, .int .i64 cnt, .int .i64 0, .int .u32 seq, .slice g 1 1] x fun e w' => e = .returned (.tuple #[.int .i64 0, .int .i64 1]) ∧ Below x.heap.size x w') := fun x g => ringOk.append_nil frm cnt 0 seq x (a := g) (n := 1) (c := 1) (by omega)
  clear wf wc ws w0 w1 w2
  go_enter Try.func5, Try.ntmps5
  go_wp2_with fail
  refine HR1.out.mono ?_
  rintro e x1 ⟨rfl, hb1⟩
  have ST1 := store_newLD (w := x1) (a := .slice none 0 0) (b := .int .i64 0) (c := .int .u32 0) (a' := .slice none 0 0) (b' := .int .i64 0) (c' := .int .u32 0) ⟨rfl, rfl, rfl⟩
  obtain ⟨x2, hx2⟩ : ∃ x, x1.alloc (.cells #[.slice none 0 0, .int .i64 0, .int .u32 0] 48) = x := ⟨_, rfl⟩
  rw [hx2] at ST1
  have b2 : Below x1.heap.size x1 x2 := by rw [← hx2]; exact below_new x1 _
  have r2 : RowC x2 x1.heap.size 48 [.slice none 0 0, .int .i64 0, .int .u32 0] := by rw [← hx2]; exact RowC.new x1 _ _
  obtain ⟨B1, hB1⟩ : ∃ b, x1.heap.size = b := ⟨_, rfl⟩
  rw [hB1] at r2 ST1
  have R2 := Lib.hid r2
  have HB2 : Hid (Below w.heap.size w x2) := hb1.trans (b2.mono hb1.size)
  clear hb1 b2 r2 HR1
  go_wp2_with fail
  clear ST1 hB1 hx2
  refine (lawImage 1 1 _).mono ?_
  rintro e x3 ⟨rfl, hb3⟩
  obtain ⟨x4, hx4⟩ : ∃ x, x3.alloc (.cells (imgV 1 1).cells.toArray 81) = x := ⟨_, rfl⟩
  have SB : Hid ((Instr.buildSlice 38 1 #[(0, .agg (imgV 1 1).cells.toArray)]).run Try.prog x3 = .ok (.slice (some ⟨x3.heap.size, 0, none⟩) 1 1) x4) := by
    show _ = _
    rw [← hx4]
    exact slice_imgD x3 _ (Img.cells_length (by simp [imgV]))
  have b4 : Below x3.heap.size x3 x4 := by rw [← hx4]; exact below_new x3 _
  have b24 : Below x2.heap.size x2 x4 := hb3.trans (b4.mono hb3.size)
  have HB4 : Hid (Below w.heap.size w x4) := HB2.out.trans (b24.mono HB2.out.size)
  have R4 := Lib.hid (R2.out.below b24)
  clear hb3 b4 b24 hx4
  go_wp2_with (first | ((with_reducible refine gate_build ?_); refine wpList_build_run _ _ _ rfl rfl [(0, .agg (imgV 1 1).cells.toArray)] _ rfl SB.out ?_))
  clear SB
  refine (HA1.out _ _).mono ?_
  rintro e x5 ⟨rfl, hb5⟩
  have HB5 : Hid (Below w.heap.size w x5) := HB4.out.trans (hb5.mono HB4.out.size)
  have R5 := Lib.hid (R4.out.below hb5)
  clear hb5 HA1
  go_wp2_with fail
  refine (RAt.new 9 1 w x5 HB5.out (by omega) (by omega) (by omega) (by omega) (fun _ => False) (fun _ h => h.elim)).mono ?_
  rintro e x6 ⟨rb, p0, p1, rfl, a0, hb6⟩
  have A0 : Hid (RAt w x6 rb p0 p1 (newS 9 1) (fun _ => False)) := a0
  have R6 := Lib.hid (R5.out.below hb6)
  have c0 : x6.cell? ⟨B1, 0, none⟩ = some (.slice none 0 0) := R6.out.cell 0 _ rfl
  have HB6 : Hid (Below w.heap.size w x6) := AtR.bel A0.out
  clear a0 hb6
  by_cases h1 : 0 ≤ frm
  · have g1 : decide (0 ≤ frm) = true := by simpa using h1
    by_cases h2 : frm ≤ 9
    · have g2 : decide (frm ≤ 9) = true := by simpa using h2
      by_cases h3 : 2 ≤ cnt
      · have g3 : decide (2 ≤ cnt) = true := by simpa using h3
        by_cases h4 : cnt ≤ 9 - frm
        · have g4 : decide (cnt ≤ 9 - frm) = true := by simpa using h4
          go_wp2_with fail
          refine (HW.out _).mono ?_
          rintro e x7 ⟨rfl, hb7⟩
          have HB7 : Hid (Below w.heap.size w x7) := HB6.out.trans (hb7.mono HB6.out.size)
          clear hb7
          go_wp2_with fail
          go_ret
          exact ⟨rfl, HB7.out⟩
        · have g4 : decide (cnt ≤ 9 - frm) = false := by simpa using h4
          have HR2 : Hid (Calls Try.prog 15 #[.pointer (some ⟨rb, 0, none⟩), .int .i64 frm, .int .i64 cnt, .int .i64 0, .int .u32 seq] x6 fun e w' => e = .returned (.tuple #[.agg #[.slice none 0 0, .int .i64 0, .int .u32 0], .int .i64 1]) ∧ Below x6.heap.size x6 w') :=
            AtR.look A0.out (fun f h1 => ringOk.replay_no h1 (by show 9 ≤ 4096; omega) (seq := seq) (by show mayR 9 frm cnt 0 = false; exact decide_eq_false (by omega)))
          go_wp2_with fail
          refine HR2.out.mono ?_
          rintro e x7 ⟨rfl, hb7⟩
          have ST7 := store_newLD (w := x7) (a := .slice none 0 0) (b := .int .i64 0) (c := .int .u32 0) (a' := .slice none 0 0) (b' := .int .i64 0) (c' := .int .u32 0) ⟨rfl, rfl, rfl⟩
          obtain ⟨x8, hx8⟩ : ∃ x, x7.alloc (.cells #[.slice none 0 0, .int .i64 0, .int .u32 0] 48) = x := ⟨_, rfl⟩
          rw [hx8] at ST7
          have b8 : Below x7.heap.size x7 x8 := by rw [← hx8]; exact below_new x7 _
          have r8 : RowC x8 x7.heap.size 48 [.slice none 0 0, .int .i64 0, .int .u32 0] := by rw [← hx8]; exact RowC.new x7 _ _
          obtain ⟨B7, hB7⟩ : ∃ b, x7.heap.size = b := ⟨_, rfl⟩
          rw [hB7] at r8 ST7
          have b68 : Below x6.heap.size x6 x8 := hb7.trans (b8.mono hb7.size)
          have HB8 : Hid (Below w.heap.size w x8) := HB6.out.trans (b68.mono HB6.out.size)
          have d0 : x8.cell? ⟨B7, 0, none⟩ = some (.slice none 0 0) := r8.cell 0 _ rfl
          have d2 : x8.cell? ⟨B7, 2, none⟩ = some (.int .u32 0) := r8.cell 2 _ rfl
          have e0 : x8.cell? ⟨B1, 0, none⟩ = some (.slice none 0 0) := (R6.out.below b68).cell 0 _ rfl
          clear hb7 b8 r8 b68 c0 HR2
          go_wp2_with fail
          refine (HW.out _).mono ?_
          rintro e x9 ⟨rfl, hb9⟩
          have HB9 : Hid (Below w.heap.size w x9) := HB8.out.trans (hb9.mono HB8.out.size)
          clear hb9
          go_wp2_with fail
          go_ret
          exact ⟨rfl, HB9.out⟩
      · have g3 : decide (2 ≤ cnt) = false := by simpa using h3
        have HR2 : Hid (Calls Try.prog 15 #[.pointer (some ⟨rb, 0, none⟩), .int .i64 frm, .int .i64 cnt, .int .i64 0, .int .u32 seq] x6 fun e w' => e = .returned (.tuple #[.agg #[.slice none 0 0, .int .i64 0, .int .u32 0], .int .i64 1]) ∧ Below x6.heap.size x6 w') :=
          AtR.look A0.out (fun f h1 => ringOk.replay_no h1 (by show 9 ≤ 4096; omega) (seq := seq) (by show mayR 9 frm cnt 0 = false; exact decide_eq_false (by omega)))
        go_wp2_with fail
        refine HR2.out.mono ?_
        rintro e x7 ⟨rfl, hb7⟩
        have ST7 := store_newLD (w := x7) (a := .slice none 0 0) (b := .int .i64 0) (c := .int .u32 0) (a' := .slice none 0 0) (b' := .int .i64 0) (c' := .int .u32 0) ⟨rfl, rfl, rfl⟩
        obtain ⟨x8, hx8⟩ : ∃ x, x7.alloc (.cells #[.slice none 0 0, .int .i64 0, .int .u32 0] 48) = x := ⟨_, rfl⟩
        rw [hx8] at ST7
        have b8 : Below x7.heap.size x7 x8 := by rw [← hx8]; exact below_new x7 _
        have r8 : RowC x8 x7.heap.size 48 [.slice none 0 0, .int .i64 0, .int .u32 0] := by rw [← hx8]; exact RowC.new x7 _ _
        obtain ⟨B7, hB7⟩ : ∃ b, x7.heap.size = b := ⟨_, rfl⟩
        rw [hB7] at r8 ST7
        have b68 : Below x6.heap.size x6 x8 := hb7.trans (b8.mono hb7.size)
        have HB8 : Hid (Below w.heap.size w x8) := HB6.out.trans (b68.mono HB6.out.size)
        have d0 : x8.cell? ⟨B7, 0, none⟩ = some (.slice none 0 0) := r8.cell 0 _ rfl
        have d2 : x8.cell? ⟨B7, 2, none⟩ = some (.int .u32 0) := r8.cell 2 _ rfl
        have e0 : x8.cell? ⟨B1, 0, none⟩ = some (.slice none 0 0) := (R6.out.below b68).cell 0 _ rfl
        clear hb7 b8 r8 b68 c0 HR2
        go_wp2_with fail
        refine (HW.out _).mono ?_
        rintro e x9 ⟨rfl, hb9⟩
        have HB9 : Hid (Below w.heap.size w x9) := HB8.out.trans (hb9.mono HB8.out.size)
        clear hb9
        go_wp2_with fail
        go_ret
        exact ⟨rfl, HB9.out⟩
    · have g2 : decide (frm ≤ 9) = false := by simpa using h2
      have HR2 : Hid (Calls Try.prog 15 #[.pointer (some ⟨rb, 0, none⟩), .int .i64 frm, .int .i64 cnt, .int .i64 0, .int .u32 seq] x6 fun e w' => e = .returned (.tuple #[.agg #[.slice none 0 0, .int .i64 0, .int .u32 0], .int .i64 1]) ∧ Below x6.heap.size x6 w') :=
        AtR.look A0.out (fun f h1 => ringOk.replay_no h1 (by show 9 ≤ 4096; omega) (seq := seq) (by show mayR 9 frm cnt 0 = false; exact decide_eq_false (by omega)))
      go_wp2_with fail
      refine HR2.out.mono ?_
      rintro e x7 ⟨rfl, hb7⟩
      have ST7 := store_newLD (w := x7) (a := .slice none 0 0) (b := .int .i64 0) (c := .int .u32 0) (a' := .slice none 0 0) (b' := .int .i64 0) (c' := .int .u32 0) ⟨rfl, rfl, rfl⟩
      obtain ⟨x8, hx8⟩ : ∃ x, x7.alloc (.cells #[.slice none 0 0, .int .i64 0, .int .u32 0] 48) = x := ⟨_, rfl⟩
      rw [hx8] at ST7
      have b8 : Below x7.heap.size x7 x8 := by rw [← hx8]; exact below_new x7 _
      have r8 : RowC x8 x7.heap.size 48 [.slice none 0 0, .int .i64 0, .int .u32 0] := by rw [← hx8]; exact RowC.new x7 _ _
      obtain ⟨B7, hB7⟩ : ∃ b, x7.heap.size = b := ⟨_, rfl⟩
      rw [hB7] at r8 ST7
      have b68 : Below x6.heap.size x6 x8 := hb7.trans (b8.mono hb7.size)
      have HB8 : Hid (Below w.heap.size w x8) := HB6.out.trans (b68.mono HB6.out.size)
      have d0 : x8.cell? ⟨B7, 0, none⟩ = some (.slice none 0 0) := r8.cell 0 _ rfl
      have d2 : x8.cell? ⟨B7, 2, none⟩ = some (.int .u32 0) := r8.cell 2 _ rfl
      have e0 : x8.cell? ⟨B1, 0, none⟩ = some (.slice none 0 0) := (R6.out.below b68).cell 0 _ rfl
      clear hb7 b8 r8 b68 c0 HR2
      go_wp2_with fail
      refine (HW.out _).mono ?_
      rintro e x9 ⟨rfl, hb9⟩
      have HB9 : Hid (Below w.heap.size w x9) := HB8.out.trans (hb9.mono HB8.out.size)
      clear hb9
      go_wp2_with fail
      go_ret
      exact ⟨rfl, HB9.out⟩
  · have g1 : decide (0 ≤ frm) = false := by simpa using h1
    have HR2 : Hid (Calls Try.prog 15 #[.pointer (some ⟨rb, 0, none⟩), .int .i64 frm, .int .i64 cnt, .int .i64 0, .int .u32 seq] x6 fun e w' => e = .returned (.tuple #[.agg #[.slice none 0 0, .int .i64 0, .int .u32 0], .int .i64 1]) ∧ Below x6.heap.size x6 w') :=
      AtR.look A0.out (fun f h1 => ringOk.replay_no h1 (by show 9 ≤ 4096; omega) (seq := seq) (by show mayR 9 frm cnt 0 = false; exact decide_eq_false (by omega)))
    go_wp2_with fail
    refine HR2.out.mono ?_
    rintro e x7 ⟨rfl, hb7⟩
    have ST7 := store_newLD (w := x7) (a := .slice none 0 0) (b := .int .i64 0) (c := .int .u32 0) (a' := .slice none 0 0) (b' := .int .i64 0) (c' := .int .u32 0) ⟨rfl, rfl, rfl⟩
    obtain ⟨x8, hx8⟩ : ∃ x, x7.alloc (.cells #[.slice none 0 0, .int .i64 0, .int .u32 0] 48) = x := ⟨_, rfl⟩
    rw [hx8] at ST7
    have b8 : Below x7.heap.size x7 x8 := by rw [← hx8]; exact below_new x7 _
    have r8 : RowC x8 x7.heap.size 48 [.slice none 0 0, .int .i64 0, .int .u32 0] := by rw [← hx8]; exact RowC.new x7 _ _
    obtain ⟨B7, hB7⟩ : ∃ b, x7.heap.size = b := ⟨_, rfl⟩
    rw [hB7] at r8 ST7
    have b68 : Below x6.heap.size x6 x8 := hb7.trans (b8.mono hb7.size)
    have HB8 : Hid (Below w.heap.size w x8) := HB6.out.trans (b68.mono HB6.out.size)
    have d0 : x8.cell? ⟨B7, 0, none⟩ = some (.slice none 0 0) := r8.cell 0 _ rfl
    have d2 : x8.cell? ⟨B7, 2, none⟩ = some (.int .u32 0) := r8.cell 2 _ rfl
    have e0 : x8.cell? ⟨B1, 0, none⟩ = some (.slice none 0 0) := (R6.out.below b68).cell 0 _ rfl
    clear hb7 b8 r8 b68 c0 HR2
    go_wp2_with fail
    refine (HW.out _).mono ?_
    rintro e x9 ⟨rfl, hb9⟩
    have HB9 : Hid (Below w.heap.size w x9) := HB8.out.trans (hb9.mono HB8.out.size)
    clear hb9
    go_wp2_with fail
    go_ret
    exact ⟨rfl, HB9.out⟩

set_option maxRecDepth 100000 in
theorem lifted (os : Os) (started : os.Started) (H : Type) (enc : TypeId × Value → H) :
    ReturnsInHanded {} Try.checked os 5 .any (Rows.ringNoneSpec.pre6 enc Try.prog Try.f5 Rows.ringNoneRow.domain false) (Rows.ringNoneSpec.post enc Try.prog Try.f5 false true false false) := by
  refine returnsInHanded_of_change (C := Try.checked) own started (by kernel_rfl) Try.func5
    (ChangeSpec.witness6 (enc := enc) (C := Try.checked) false ⟨#[], #[.int .i64 0, .int .i64 0, .int .u32 0], []⟩ 8 (by kernel_rfl) (by kernel_rfl) (by kernel_rfl) (by kernel_rfl)) ?_
  intro W base args ds gs before hval0 hW hcnd _
  have hval : ∀ (j : Nat) t v, Try.f5.params[j]? = some t → args[j]? = some v → Value.okWide Try.prog W .any base t v := hval0
  have hW' := hW
  obtain ⟨p, q, hA0, hV, rfl, hfz, hnd⟩ := hW
  have hA : DataW.TrodAll enc Try.prog W 0 (fun _ => true) true Try.f5.params.toList args.toList ds p := hA0
  rw [Try.params5] at hA hval
  obtain ⟨v0, vs0, d0, ds0, p0, q0, hargs, rfl, rfl, h0, r0⟩ := trodAll_cons hA
  obtain ⟨v1, vs1, d1, ds1, p1, q1, rfl, rfl, rfl, h1, r1⟩ := trodAll_cons r0
  obtain ⟨v2, vs2, d2, ds2, p2, q2, rfl, rfl, rfl, h2, r2⟩ := trodAll_cons r1
  obtain ⟨rfl, rfl, rfl⟩ := trodAll_nil r2
  obtain rfl : args = #[v0, v1, v2] := by cases args; simp_all
  obtain ⟨rfl, rfl⟩ := trodVars_none hV
  have lt0 : ∀ x ∈ p0, x.block < W.heap.size := by obtain ⟨m, hm⟩ := h0; exact DataW.trod_lt m _ _ _ hm
  have a0 := Arg.mk (hval 0 3 v0 rfl rfl) h0
  have lt1 : ∀ x ∈ p1, x.block < W.heap.size := by obtain ⟨m, hm⟩ := h1; exact DataW.trod_lt m _ _ _ hm
  have a1 := Arg.mk (hval 1 3 v1 rfl rfl) h1
  have lt2 : ∀ x ∈ p2, x.block < W.heap.size := by obtain ⟨m, hm⟩ := h2; exact DataW.trod_lt m _ _ _ hm
  have a2 := Arg.mk (hval 2 33 v2 rfl rfl) h2
  clear hA0 hval0
  refine (walk v0 v1 v2 W a0 a1 a2).mono fun e W' ⟨he, bel⟩ => ?_
  subst he
  exact ⟨_, rfl, _, _, _, [], _, [], hW', trodAll_mk1 (shut_bool Try.underlying4 _), (trodAll_cons_mk (Below.trod laidOut (by kernel_rfl) (of_decide_eq_true (by kernel_rfl)) h0 bel lt0) (trodAll_cons_mk (Below.trod laidOut (by kernel_rfl) (of_decide_eq_true (by kernel_rfl)) h1 bel lt1) (trodAll_cons_mk (Below.trod laidOut (by kernel_rfl) (of_decide_eq_true (by kernel_rfl)) h2 bel lt2) trodAll_mk0))), rfl, bel.frame _, fun h => by cases h⟩

set_option maxRecDepth 100000 in
theorem over : Rows.ringNoneRow.holds Try.pinned (OpenSpec.ofChange Rows.ringNoneSpec) :=
  OpenClaim.holds_of_wide 5 Try.f5 rfl rfl rfl rfl rfl rfl rfl ⟨rfl, rfl, rfl, rfl, rfl⟩ rfl rfl rfl rfl rfl (by kernel_rfl) Try.func5 (by kernel_rfl)
    (of_decide_eq_true (by kernel_rfl)) (by unfold Func.isWrapper; first | (rw [if_pos (by decide +kernel)]; kernel_rfl) | (rw [if_neg (by decide +kernel)]; exact ⟨rfl, rfl⟩))
    (fun os started H enc _ => lifted os started H enc)

theorem proved : Rows.RingNoneSaid := over
#print axioms proved
end Go.Proofs.Ytfmgaakbfphpbaa.ringNone
