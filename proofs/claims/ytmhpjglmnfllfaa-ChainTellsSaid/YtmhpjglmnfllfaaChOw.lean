/- The document's own; the helpers Copy and Snaps. -/
import Derived.Test.YtmhpjglmnfllfaaChSt
import Derived.Test.YtmhpjglmnfllfaaChFn
import Derived.Test.YtmhpjglmnfllfaaTbRf2
import Derived.Test.YtmhpjglmnfllfaaKeep
namespace Go.Proofs.Ytmhpjglmnfllfaa
open Go.RowKit Go.Shelf
set_option linter.unusedVariables false
set_option linter.unusedSimpArgs false
attribute [-simp] Try.isAgg49 Try.zeroValue49 Try.isAgg52 Try.zeroValue52
attribute [-go_sem] loadVar storeVar
attribute [local go_sem] loadVar_openPS storeVar_openPS zero_sn build_sn build_sn2

set_option maxRecDepth 100000 in
theorem slice_u80 (w : World) : (Instr.buildSlice 35 0 #[]).run Try.prog w = .ok (.slice (some ⟨w.heap.size, 0, none⟩) 0 0) (w.alloc (.cells #[] 5)) := by kernel_rfl
theorem own_u80 (N : Nat) (w : World) (hN : N ≤ w.heap.size) : (w.alloc (.cells #[] 5)).ownsRow N 5 1 (.slice (some ⟨w.heap.size, 0, none⟩) 0 0) ([] : List Int).length (([] : List Int).map (Value.int .u8)) := World.ownsRow_lit w #[] 0 hN (by simp [maxLen]) rfl
set_option maxRecDepth 100000 in
set_option maxHeartbeats 8000000 in
theorem rf_own {w : World} {q : SV} {s : SN} (h : SnIs w q s) (hl1 : s.ch.length ≤ 100000) (hl2 : s.tb.length ≤ 100000) :
    Calls Try.prog 45 #[svV q] w fun e w' => ∃ q', e = .returned (svV q') ∧ SnF w.heap.size w' q' s ∧ Below w.heap.size w w' := by
  have hmx : Try.prog.follows .mixedOrders = true := by kernel_rfl
  obtain ⟨i, ⟨x, n, c⟩, ⟨y, m, d⟩⟩ := q
  have HI := Lib.hid h
  have HL1 := Lib.hid hl1
  have HL2 := Lib.hid hl2
  obtain ⟨B, hB⟩ : ∃ B, w.heap.size = B := ⟨_, rfl⟩
  have HSZ := Lib.hid hB
  obtain ⟨W, hW⟩ : ∃ W, (w.alloc (.cells #[.int .i64 i, .slice x n c, .slice y m d] 49)).alloc (.cells #[.int .i64 0, .slice none 0 0, .slice none 0 0] 49) = W := ⟨_, rfl⟩
  have bW : Below B w W := by rw [← hW, ← hB]; exact ((Below.refl _ w).alloc (Nat.le_refl _) _).alloc (by simp) _
  have hs : W.heap.size = B + 2 := by rw [← hW, ← hB]; simp
  have r1 : RowC W B 49 [.int .i64 i, .slice x n c, .slice y m d] := by rw [← hW, ← hB]; exact (RowC.new w _ _).below (below_new _ _)
  have r2 : RowC W (B + 1) 49 [.int .i64 0, .slice none 0 0, .slice none 0 0] := by
    rw [← hW, ← hB]
    have := RowC.new (w.alloc (.cells #[.int .i64 i, .slice x n c, .slice y m d] 49)) 49 [.int .i64 0, .slice none 0 0, .slice none 0 0]
    rwa [World.size_alloc] at this
  have c0 : ∀ z : Ext W, z.1.cell? ⟨B, 0, none⟩ = some (.int .i64 i) := fun z => (r1.below z.2).cell 0 _ rfl
  have c1 : ∀ z : Ext W, z.1.cell? ⟨B, 1, none⟩ = some (.slice x n c) := fun z => (r1.below z.2).cell 1 _ rfl
  have c2 : ∀ z : Ext W, z.1.cell? ⟨B, 2, none⟩ = some (.slice y m d) := fun z => (r1.below z.2).cell 2 _ rfl
  have HR := Lib.hid r2
  have HBW := Lib.hid bW
  have HS := Lib.hid hs
  have HCH : Hid (Sl .u8 W (.slice x n c) s.ch) := h.ch.below (by rw [hB]; exact bW)
  have HTB : Hid (Prt W (.slice y m d) s.tb) := h.tb.below (by rw [hB]; exact bW)
  have KW : Hid (Below W.heap.size W W.drew) := (Below.refl _ W).drew
  clear h bW hs r1 r2 hl1 hl2
  go_enter Try.func45, Try.ntmps45
  simp only [svV, slV]
  go_wp2_with fail
  try rw [hW]
  clear hW
  refine region_plan (fun x => ∃ y : Ext W, x = y.1) 11 (.takes [0, 1, 3, 4, 7, 8] (.two 2 6 (.two 5 6 (.one 6 (.one 9 (.takes [10] .leaf))) (.one 5 (.one 9 (.takes [10] .leaf)))) (.one 2 (.one 5 (.one 9 (.takes [10] .leaf)))))) hmx (by kernel_rfl) (by intro c x v a w h; cases x <;> exact h) ⟨⟨W.drew, KW.out⟩, rfl⟩ ?_
  repeat (rw [wpPlan_takes_cons]; simp only [nth_zero, nth_succ]; go_big_quiet_step (fail); refine wpQuiet_nil ?_)
  rw [wpPlan_takes_nil]
  clear c0 c1 c2
  obtain ⟨X0, hX0⟩ : ∃ X, W.drew = X := ⟨_, rfl⟩
  rw [hX0] at KW
  try rw [hX0]
  clear hX0
  rw [wpPlan_twoT]
  refine ⟨?_, ?_⟩
  · simp only [nth_zero, nth_succ]
    obtain ⟨X1, hX1⟩ : ∃ Y, X0.alloc (.cells #[] 5) = Y := ⟨_, rfl⟩
    have SX1 := slice_u80 X0
    have bX1 := below_new X0 (.cells #[] 5)
    have oX1 := own_u80 W.heap.size X0 KW.out.size
    rw [hX1] at SX1 bX1 oX1
    have KX1 : Hid (Below W.heap.size W X1) := KW.out.trans (bX1.mono KW.out.size)
    have OAX1 := Lib.hid oX1
    have SX1 := Lib.hid SX1
    clear hX1 bX1 oX1
    go_wp2_with ((with_reducible refine gate_build ?_); refine wpList_build_run 35 0 #[] rfl rfl [] _ rfl SX1.out ?_)
    refine planPost_mk ⟨⟨X1, KX1.out⟩, rfl⟩ ?_
    rw [wpPlan_twoT]
    refine ⟨?_, ?_⟩
    · simp only [nth_zero, nth_succ]
      obtain ⟨vX2, X2, hrX2, hoX2, hgX2⟩ := run_append_bytes W.heap.size X1 _ [] OAX1.out (.slice x n c) s.ch (HCH.out.below KX1.out) (by have := HL1.out; simp; omega) KX1.out.size
      have KX2 : Hid (Below W.heap.size W X2) := KX1.out.grown hgX2 KX1.out.size (fun j e => by
        obtain ⟨_, o2⟩ := OAX1.out
        rcases o2 with ⟨h, _⟩ | ⟨g, cap', cur, h, h1, _⟩
        · cases h
        · cases h; cases e; exact h1)
      obtain ⟨⟨xX2, nX2, cX2⟩, rfl, -⟩ := own_slV hoX2
      have OAX2 : Hid (X2.ownsRow W.heap.size 5 1 (.slice xX2 nX2 cX2) s.ch.length (s.ch.map (Value.int .u8))) := hoX2
      have hrX2 := Lib.hid hrX2
      simp only [slV] at hrX2
      clear hoX2 hgX2
      go_wp2_with (at_builtin; refine wpList_append_run (.tmp 5) (.tmp 7) 35 rfl rfl _ _ _ rfl rfl hrX2.out ?_)
      refine planPost_mk ⟨⟨X2, KX2.out⟩, rfl⟩ ?_
      rw [wpPlan_one]
      simp only [nth_zero, nth_succ]
      obtain ⟨X3, hX3⟩ : ∃ Y, X2.alloc (.cells #[] 52) = Y := ⟨_, rfl⟩
      have SX3 := slice_prs0 X2
      have bX3 := below_new X2 (.cells #[] 52)
      have oX3 := lit_none W.heap.size X2 KX2.out.size
      rw [hX3] at SX3 bX3 oX3
      have KX3 : Hid (Below W.heap.size W X3) := KX2.out.trans (bX3.mono KX2.out.size)
      have OBX3 := Lib.hid oX3
      have SX3 := Lib.hid SX3
      have OAX3 := Lib.hid (own_belowT OAX2.out bX3)
      clear hX3 bX3 oX3
      go_wp2_with ((with_reducible refine gate_build ?_); refine wpList_build_run 47 0 #[] rfl rfl [] _ rfl SX3.out ?_)
      refine planPost_mk ⟨⟨X3, KX3.out⟩, rfl⟩ ?_
      rw [wpPlan_one]
      simp only [nth_zero, nth_succ]
      obtain ⟨vX4, X4, hrX4, hoX4, hgX4, -⟩ := pr_append OBX3.out (HTB.out.below KX3.out) KX3.out.size (by have := HL2.out; simp; omega)
      rw [List.nil_append] at hoX4
      have KX4 : Hid (Below W.heap.size W X4) := KX3.out.grown hgX4 KX3.out.size (fun j e => (OBX3.out.base j e).1)
      obtain ⟨⟨xX4, nX4, cX4⟩, rfl, -⟩ := own_slV hoX4.1
      have OBX4 : Hid (PrO W.heap.size X4 (.slice xX4 nX4 cX4) s.tb) := hoX4
      have hrX4 := Lib.hid hrX4
      simp only [slV] at hrX4
      have OAX4 : Hid (X4.ownsRow W.heap.size 5 1 (slV (xX2, nX2, cX2)) s.ch.length (s.ch.map (Value.int .u8))) := OAX3.out.kept hgX4 (rows_ne OAX3.out OBX3.out.1 (by decide))
      clear hoX4 hgX4
      go_wp2_with (at_builtin; refine wpList_append_run (.tmp 9) (.tmp 11) 47 rfl rfl _ _ _ rfl rfl (hrX4.out _) ?_)
      refine planPost_mk ⟨⟨X4, KX4.out⟩, rfl⟩ ?_
      repeat (rw [wpPlan_takes_cons]; simp only [nth_zero, nth_succ]; go_big_quiet_step (fail); refine wpQuiet_nil ?_)
      rw [wpPlan_takes_nil, wpPlan_leaf]
      simp only [List.drop_succ_cons, List.drop_zero]
      obtain ⟨y3, ST, hy3, hg3⟩ := store_snC (i, (xX2, nX2, cX2), (xX4, nX4, cX4)) (HR.out.below KX4.out) rfl
      have RT := load_snC hy3
      simp only [svV, slV] at ST RT
      have hWB := HS.out
      have hV1 := KX4.out.size
      have HB3 : Hid (Below B w y3) := ((HBW.out.trans (KX4.out.mono (by omega))).grown hg3 (by omega) (fun k e => by cases e; omega))
      have HF : Hid (SnF B y3 (i, (xX2, nX2, cX2), (xX4, nX4, cX4)) s) := by
        have hrow := HR.out.below KX4.out
        have a1 := own_weak (M := B) OAX4.out (by omega)
        have a2 := OBX4.out.weak (M := B) (by omega)
        exact ⟨HI.out.id, a1.kept hg3 (.inr (row_ne a1 hrow (by decide))), ⟨a2.1.kept hg3 (.inr (row_ne a2.1 hrow (by decide))), a2.2⟩, HI.out.ok⟩
      clear hy3 hg3 hWB hV1
      go_wp2_with fail
      refine bodyPost_ret (results_cell rfl rfl RT) rfl ?_
      rw [HSZ.out]
      exact ⟨(i, (xX2, nX2, cX2), (xX4, nX4, cX4)), rfl, HF.out, HB3.out⟩
    · simp only [nth_zero, nth_succ]
      obtain ⟨X5, hX5⟩ : ∃ Y, X1.alloc (.cells #[] 52) = Y := ⟨_, rfl⟩
      have SX5 := slice_prs0 X1
      have bX5 := below_new X1 (.cells #[] 52)
      have oX5 := lit_none W.heap.size X1 KX1.out.size
      rw [hX5] at SX5 bX5 oX5
      have KX5 : Hid (Below W.heap.size W X5) := KX1.out.trans (bX5.mono KX1.out.size)
      have OBX5 := Lib.hid oX5
      have SX5 := Lib.hid SX5
      have OAX5 := Lib.hid (own_belowT OAX1.out bX5)
      clear hX5 bX5 oX5
      go_wp2_with ((with_reducible refine gate_build ?_); refine wpList_build_run 47 0 #[] rfl rfl [] _ rfl SX5.out ?_)
      refine planPost_mk ⟨⟨X5, KX5.out⟩, rfl⟩ ?_
      rw [wpPlan_one]
      simp only [nth_zero, nth_succ]
      obtain ⟨vX6, X6, hrX6, hoX6, hgX6⟩ := run_append_bytes W.heap.size X5 _ [] OAX5.out (.slice x n c) s.ch (HCH.out.below KX5.out) (by have := HL1.out; simp; omega) KX5.out.size
      have KX6 : Hid (Below W.heap.size W X6) := KX5.out.grown hgX6 KX5.out.size (fun j e => by
        obtain ⟨_, o2⟩ := OAX5.out
        rcases o2 with ⟨h, _⟩ | ⟨g, cap', cur, h, h1, _⟩
        · cases h
        · cases h; cases e; exact h1)
      obtain ⟨⟨xX6, nX6, cX6⟩, rfl, -⟩ := own_slV hoX6
      have OAX6 : Hid (X6.ownsRow W.heap.size 5 1 (.slice xX6 nX6 cX6) s.ch.length (s.ch.map (Value.int .u8))) := hoX6
      have hrX6 := Lib.hid hrX6
      simp only [slV] at hrX6
      have OBX6 : Hid (PrO W.heap.size X6 (.slice (some ⟨X1.heap.size, 0, none⟩) 0 0) []) := ⟨OBX5.out.1.kept hgX6 (rows_ne OBX5.out.1 OAX5.out (by decide)), OBX5.out.2⟩
      clear hoX6 hgX6
      go_wp2_with (at_builtin; refine wpList_append_run (.tmp 5) (.tmp 7) 35 rfl rfl _ _ _ rfl rfl hrX6.out ?_)
      refine planPost_mk ⟨⟨X6, KX6.out⟩, rfl⟩ ?_
      rw [wpPlan_one]
      simp only [nth_zero, nth_succ]
      obtain ⟨vX7, X7, hrX7, hoX7, hgX7, -⟩ := pr_append OBX6.out (HTB.out.below KX6.out) KX6.out.size (by have := HL2.out; simp; omega)
      rw [List.nil_append] at hoX7
      have KX7 : Hid (Below W.heap.size W X7) := KX6.out.grown hgX7 KX6.out.size (fun j e => (OBX6.out.base j e).1)
      obtain ⟨⟨xX7, nX7, cX7⟩, rfl, -⟩ := own_slV hoX7.1
      have OBX7 : Hid (PrO W.heap.size X7 (.slice xX7 nX7 cX7) s.tb) := hoX7
      have hrX7 := Lib.hid hrX7
      simp only [slV] at hrX7
      have OAX7 : Hid (X7.ownsRow W.heap.size 5 1 (slV (xX6, nX6, cX6)) s.ch.length (s.ch.map (Value.int .u8))) := OAX6.out.kept hgX7 (rows_ne OAX6.out OBX6.out.1 (by decide))
      clear hoX7 hgX7
      go_wp2_with (at_builtin; refine wpList_append_run (.tmp 9) (.tmp 11) 47 rfl rfl _ _ _ rfl rfl (hrX7.out _) ?_)
      refine planPost_mk ⟨⟨X7, KX7.out⟩, rfl⟩ ?_
      repeat (rw [wpPlan_takes_cons]; simp only [nth_zero, nth_succ]; go_big_quiet_step (fail); refine wpQuiet_nil ?_)
      rw [wpPlan_takes_nil, wpPlan_leaf]
      simp only [List.drop_succ_cons, List.drop_zero]
      obtain ⟨y3, ST, hy3, hg3⟩ := store_snC (i, (xX6, nX6, cX6), (xX7, nX7, cX7)) (HR.out.below KX7.out) rfl
      have RT := load_snC hy3
      simp only [svV, slV] at ST RT
      have hWB := HS.out
      have hV1 := KX7.out.size
      have HB3 : Hid (Below B w y3) := ((HBW.out.trans (KX7.out.mono (by omega))).grown hg3 (by omega) (fun k e => by cases e; omega))
      have HF : Hid (SnF B y3 (i, (xX6, nX6, cX6), (xX7, nX7, cX7)) s) := by
        have hrow := HR.out.below KX7.out
        have a1 := own_weak (M := B) OAX7.out (by omega)
        have a2 := OBX7.out.weak (M := B) (by omega)
        exact ⟨HI.out.id, a1.kept hg3 (.inr (row_ne a1 hrow (by decide))), ⟨a2.1.kept hg3 (.inr (row_ne a2.1 hrow (by decide))), a2.2⟩, HI.out.ok⟩
      clear hy3 hg3 hWB hV1
      go_wp2_with fail
      refine bodyPost_ret (results_cell rfl rfl RT) rfl ?_
      rw [HSZ.out]
      exact ⟨(i, (xX6, nX6, cX6), (xX7, nX7, cX7)), rfl, HF.out, HB3.out⟩
  · simp only [nth_zero, nth_succ]
    obtain ⟨X8, hX8⟩ : ∃ Y, X0.alloc (.cells #[] 52) = Y := ⟨_, rfl⟩
    have SX8 := slice_prs0 X0
    have bX8 := below_new X0 (.cells #[] 52)
    have oX8 := lit_none W.heap.size X0 KW.out.size
    rw [hX8] at SX8 bX8 oX8
    have KX8 : Hid (Below W.heap.size W X8) := KW.out.trans (bX8.mono KW.out.size)
    have OBX8 := Lib.hid oX8
    have SX8 := Lib.hid SX8
    clear hX8 bX8 oX8
    go_wp2_with ((with_reducible refine gate_build ?_); refine wpList_build_run 47 0 #[] rfl rfl [] _ rfl SX8.out ?_)
    refine planPost_mk ⟨⟨X8, KX8.out⟩, rfl⟩ ?_
    rw [wpPlan_one]
    simp only [nth_zero, nth_succ]
    obtain ⟨X9, hX9⟩ : ∃ Y, X8.alloc (.cells #[] 5) = Y := ⟨_, rfl⟩
    have SX9 := slice_u80 X8
    have bX9 := below_new X8 (.cells #[] 5)
    have oX9 := own_u80 W.heap.size X8 KX8.out.size
    rw [hX9] at SX9 bX9 oX9
    have KX9 : Hid (Below W.heap.size W X9) := KX8.out.trans (bX9.mono KX8.out.size)
    have OAX9 := Lib.hid oX9
    have SX9 := Lib.hid SX9
    have OBX9 := Lib.hid (OBX8.out.below bX9)
    clear hX9 bX9 oX9
    go_wp2_with ((with_reducible refine gate_build ?_); refine wpList_build_run 35 0 #[] rfl rfl [] _ rfl SX9.out ?_)
    refine planPost_mk ⟨⟨X9, KX9.out⟩, rfl⟩ ?_
    rw [wpPlan_one]
    simp only [nth_zero, nth_succ]
    obtain ⟨vX10, X10, hrX10, hoX10, hgX10⟩ := run_append_bytes W.heap.size X9 _ [] OAX9.out (.slice x n c) s.ch (HCH.out.below KX9.out) (by have := HL1.out; simp; omega) KX9.out.size
    have KX10 : Hid (Below W.heap.size W X10) := KX9.out.grown hgX10 KX9.out.size (fun j e => by
      obtain ⟨_, o2⟩ := OAX9.out
      rcases o2 with ⟨h, _⟩ | ⟨g, cap', cur, h, h1, _⟩
      · cases h
      · cases h; cases e; exact h1)
    obtain ⟨⟨xX10, nX10, cX10⟩, rfl, -⟩ := own_slV hoX10
    have OAX10 : Hid (X10.ownsRow W.heap.size 5 1 (.slice xX10 nX10 cX10) s.ch.length (s.ch.map (Value.int .u8))) := hoX10
    have hrX10 := Lib.hid hrX10
    simp only [slV] at hrX10
    have OBX10 : Hid (PrO W.heap.size X10 (.slice (some ⟨X0.heap.size, 0, none⟩) 0 0) []) := ⟨OBX9.out.1.kept hgX10 (rows_ne OBX9.out.1 OAX9.out (by decide)), OBX9.out.2⟩
    clear hoX10 hgX10
    go_wp2_with (at_builtin; refine wpList_append_run (.tmp 5) (.tmp 7) 35 rfl rfl _ _ _ rfl rfl hrX10.out ?_)
    refine planPost_mk ⟨⟨X10, KX10.out⟩, rfl⟩ ?_
    rw [wpPlan_one]
    simp only [nth_zero, nth_succ]
    obtain ⟨vX11, X11, hrX11, hoX11, hgX11, -⟩ := pr_append OBX10.out (HTB.out.below KX10.out) KX10.out.size (by have := HL2.out; simp; omega)
    rw [List.nil_append] at hoX11
    have KX11 : Hid (Below W.heap.size W X11) := KX10.out.grown hgX11 KX10.out.size (fun j e => (OBX10.out.base j e).1)
    obtain ⟨⟨xX11, nX11, cX11⟩, rfl, -⟩ := own_slV hoX11.1
    have OBX11 : Hid (PrO W.heap.size X11 (.slice xX11 nX11 cX11) s.tb) := hoX11
    have hrX11 := Lib.hid hrX11
    simp only [slV] at hrX11
    have OAX11 : Hid (X11.ownsRow W.heap.size 5 1 (slV (xX10, nX10, cX10)) s.ch.length (s.ch.map (Value.int .u8))) := OAX10.out.kept hgX11 (rows_ne OAX10.out OBX10.out.1 (by decide))
    clear hoX11 hgX11
    go_wp2_with (at_builtin; refine wpList_append_run (.tmp 9) (.tmp 11) 47 rfl rfl _ _ _ rfl rfl (hrX11.out _) ?_)
    refine planPost_mk ⟨⟨X11, KX11.out⟩, rfl⟩ ?_
    repeat (rw [wpPlan_takes_cons]; simp only [nth_zero, nth_succ]; go_big_quiet_step (fail); refine wpQuiet_nil ?_)
    rw [wpPlan_takes_nil, wpPlan_leaf]
    simp only [List.drop_succ_cons, List.drop_zero]
    obtain ⟨y3, ST, hy3, hg3⟩ := store_snC (i, (xX10, nX10, cX10), (xX11, nX11, cX11)) (HR.out.below KX11.out) rfl
    have RT := load_snC hy3
    simp only [svV, slV] at ST RT
    have hWB := HS.out
    have hV1 := KX11.out.size
    have HB3 : Hid (Below B w y3) := ((HBW.out.trans (KX11.out.mono (by omega))).grown hg3 (by omega) (fun k e => by cases e; omega))
    have HF : Hid (SnF B y3 (i, (xX10, nX10, cX10), (xX11, nX11, cX11)) s) := by
      have hrow := HR.out.below KX11.out
      have a1 := own_weak (M := B) OAX11.out (by omega)
      have a2 := OBX11.out.weak (M := B) (by omega)
      exact ⟨HI.out.id, a1.kept hg3 (.inr (row_ne a1 hrow (by decide))), ⟨a2.1.kept hg3 (.inr (row_ne a2.1 hrow (by decide))), a2.2⟩, HI.out.ok⟩
    clear hy3 hg3 hWB hV1
    go_wp2_with fail
    refine bodyPost_ret (results_cell rfl rfl RT) rfl ?_
    rw [HSZ.out]
    exact ⟨(i, (xX10, nX10, cX10), (xX11, nX11, cX11)), rfl, HF.out, HB3.out⟩
end Go.Proofs.Ytmhpjglmnfllfaa
