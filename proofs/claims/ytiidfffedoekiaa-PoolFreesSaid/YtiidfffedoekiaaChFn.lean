/- The developers' copied, joined, emptied. -/
import Derived.Test.YtiidfffedoekiaaChBx
import Derived.Test.YtiidfffedoekiaaOrd
import Derived.Test.YtiidfffedoekiaaQuiet
import Derived.Test.YtiidfffedoekiaaBiFn
import Derived.Test.YtiidfffedoekiaaTbMrg
namespace Go.Proofs.Ytiidfffedoekiaa
open Go.RowKit Go.Shelf
set_option linter.unusedVariables false
attribute [-simp] Try.isAgg39 Try.zeroValue39
attribute [-go_sem] loadVar storeVar
attribute [local go_sem] loadVar_openS storeVar_openS zero_sn build_sn build_sn2

set_option maxRecDepth 100000 in
set_option maxHeartbeats 4000000 in
theorem ch_copied {w : World} {q : SV} {s : SN} (h : SnIs w q s) (hl1 : s.ch.length ≤ 100000) (hl2 : s.tb.length ≤ 100000) :
    Calls Try.prog 37 #[svV q] w fun e w' => ∃ q', e = .returned (svV q') ∧ SnF w.heap.size w' q' s ∧ Below w.heap.size w w' := by
  have hmx : Try.prog.follows .mixedOrders = true := by kernel_rfl
  obtain ⟨i, ⟨x, n, c⟩, ⟨y, m, d⟩⟩ := q
  have HI := Lib.hid h
  obtain ⟨B, hB⟩ : ∃ B, w.heap.size = B := ⟨_, rfl⟩
  have HSZ := Lib.hid hB
  obtain ⟨W, hW⟩ : ∃ W, (w.alloc (.cells #[.int .i64 i, .slice x n c, .slice y m d] 39)).alloc (.cells #[.int .i64 0, .slice none 0 0, .slice none 0 0] 39) = W := ⟨_, rfl⟩
  have bW : Below B w W := by rw [← hW, ← hB]; exact ((Below.refl _ w).alloc (Nat.le_refl _) _).alloc (by simp) _
  have hs : W.heap.size = B + 2 := by rw [← hW, ← hB]; simp
  have r1 : RowC W B 39 [.int .i64 i, .slice x n c, .slice y m d] := by rw [← hW, ← hB]; exact (RowC.new w _ _).below (below_new _ _)
  have r2 : RowC W (B + 1) 39 [.int .i64 0, .slice none 0 0, .slice none 0 0] := by
    rw [← hW, ← hB]
    have := RowC.new (w.alloc (.cells #[.int .i64 i, .slice x n c, .slice y m d] 39)) 39 [.int .i64 0, .slice none 0 0, .slice none 0 0]
    rwa [World.size_alloc] at this
  have c0 : ∀ z : Ext W, z.1.cell? ⟨B, 0, none⟩ = some (.int .i64 i) := fun z => (r1.below z.2).cell 0 _ rfl
  have c1 : ∀ z : Ext W, z.1.cell? ⟨B, 1, none⟩ = some (.slice x n c) := fun z => (r1.below z.2).cell 1 _ rfl
  have c2 : ∀ z : Ext W, z.1.cell? ⟨B, 2, none⟩ = some (.slice y m d) := fun z => (r1.below z.2).cell 2 _ rfl
  have HR := Lib.hid r2
  have HBW := Lib.hid bW
  have HS := Lib.hid hs
  have HCL : Hid (∀ z : World, Below W.heap.size W z → Calls Try.prog 52 #[.slice x n c] z fun e w' => ∃ v', e = .returned v' ∧ w'.ownsRow z.heap.size 5 1 v' s.ch.length (s.ch.map (Value.int .u8)) ∧ Below z.heap.size z w') := fun z hz => bi_clone _ s.ch z ((h.ch.below (by rw [hB]; exact bW)).below hz) (by omega)
  have HCT : Hid (∀ z : World, Below W.heap.size W z → Calls Try.prog 53 #[.slice y m d] z fun e w' => ∃ u, e = .returned u ∧ PrO z.heap.size w' u s.tb ∧ Below z.heap.size z w') := fun z hz => tb_clone ((h.tb.below (by rw [hB]; exact bW)).below hz) (by omega)
  clear h bW hs r1 r2
  go_enter Try.func37, Try.ntmps37
  simp only [svV, slV]
  go_wp2_with fail
  try rw [hW]
  clear hW
  refine region_plan (fun x => ∃ y : Ext W, x = y.1) 9 (.takes [0, 1, 2, 3, 5, 6] (.one 4 (.one 7 (.takes [8] .leaf)))) hmx (by kernel_rfl) (by intro c x v a w h; cases x <;> exact h) ⟨⟨W.drew, (Below.refl _ W).drew⟩, rfl⟩ ?_
  repeat (rw [wpPlan_takes_cons]; simp only [nth_zero, nth_succ]; go_big_quiet_step (fail); refine wpQuiet_nil ?_)
  rw [wpPlan_takes_nil, wpPlan_one]
  simp only [nth_zero, nth_succ]
  go_wp2_with fail
  go_at_call 52
  refine (HCL.out W.drew (Below.refl _ W).drew).mono ?_
  rintro e y1 ⟨v1, rfl, ho1, hb1⟩
  have KB1 : Hid (Below W.heap.size W y1) := (Below.refl _ W).drew.trans hb1
  obtain ⟨⟨x1, n1, e1⟩, rfl, -⟩ := own_slV ho1
  simp only [slV] at ho1 ⊢
  have O1 := Lib.hid ho1
  clear ho1 hb1 HCL
  go_wp2_with fail
  refine planPost_mk ⟨⟨y1, KB1.out⟩, rfl⟩ ?_
  rw [wpPlan_one]
  simp only [nth_zero, nth_succ]
  go_wp2_with fail
  go_at_call 53
  refine (HCT.out y1 KB1.out).mono ?_
  rintro e y2 ⟨v2, rfl, ho2, hb2⟩
  have KB2 : Hid (Below W.heap.size W y2) := KB1.out.trans (hb2.mono KB1.out.size)
  obtain ⟨⟨x2, n2, e2⟩, rfl, -⟩ := own_slV ho2.1
  simp only [slV] at ho2 ⊢
  have O1' := Lib.hid (own_belowT O1.out hb2)
  have O2 := Lib.hid ho2
  have HY2 := Lib.hid hb2.size
  clear ho2 hb2 HCT O1
  go_wp2_with fail
  refine planPost_mk ⟨⟨y2, KB2.out⟩, rfl⟩ ?_
  repeat (rw [wpPlan_takes_cons]; simp only [nth_zero, nth_succ]; go_big_quiet_step (fail); refine wpQuiet_nil ?_)
  rw [wpPlan_takes_nil, wpPlan_leaf]
  simp only [List.drop_succ_cons, List.drop_zero]
  obtain ⟨y3, ST, hy3, hg3⟩ := store_snC (i, (x1, n1, e1), (x2, n2, e2)) (HR.out.below KB2.out) rfl
  have RT := load_snC hy3
  simp only [svV, slV] at ST RT
  have HB3 : Hid (Below B w y3) := ((HBW.out.trans (KB2.out.mono (by have := HS.out; omega))).grown hg3 (by have := KB2.out.size; have := HS.out; omega) (fun k e => by cases e; omega))
  have HF : Hid (SnF B y3 (i, (x1, n1, e1), (x2, n2, e2)) s) := by
    have hrow := HR.out.below KB2.out
    have hsw := HS.out
    have hy1s := KB1.out.size
    have a1 : y2.ownsRow B 5 1 (.slice x1 n1 e1) s.ch.length (s.ch.map (Value.int .u8)) := own_weak O1'.out (by simp; omega)
    have a2 : PrO B y2 (.slice x2 n2 e2) s.tb := O2.out.weak (by omega)
    exact ⟨HI.out.id, a1.kept hg3 (.inr (row_ne a1 hrow (by decide))), ⟨a2.1.kept hg3 (.inr (row_ne a2.1 hrow (by decide))), a2.2⟩, HI.out.ok⟩
  clear hy3 hg3
  go_wp2_with fail
  refine bodyPost_ret (results_cell rfl rfl RT) rfl ?_
  rw [HSZ.out]
  exact ⟨(i, (x1, n1, e1), (x2, n2, e2)), rfl, HF.out, HB3.out⟩
set_option maxRecDepth 100000 in
set_option maxHeartbeats 4000000 in
theorem ch_joined {w : World} {q p : SV} {s u : SN} (h : SnIs w q s) (k : SnIs w p u) (hl1 : s.ch.length ≤ 100000) (hl2 : s.tb.length ≤ 100000) (hk1 : u.ch.length ≤ 100000) (hk2 : u.tb.length ≤ 100000) :
    Calls Try.prog 38 #[svV q, svV p] w fun e w' => ∃ q', e = .returned (svV q') ∧ SnF w.heap.size w' q' (joinS s u) ∧ Below w.heap.size w w' := by
  have hmx : Try.prog.follows .mixedOrders = true := by kernel_rfl
  obtain ⟨i, ⟨x, n, c⟩, ⟨y, m, d⟩⟩ := q
  obtain ⟨i', ⟨x', n', c'⟩, ⟨y', m', d'⟩⟩ := p
  have HI := Lib.hid h.id
  have HOK : Hid ((joinS s u).Ok) := ⟨h.ok.id, or_bytes h.ok.ch k.ok.ch, tKeep_is _ _ _ h.ok.tb k.ok.tb⟩
  obtain ⟨B, hB⟩ : ∃ B, w.heap.size = B := ⟨_, rfl⟩
  have HSZ := Lib.hid hB
  obtain ⟨W, hW⟩ : ∃ W, ((w.alloc (.cells #[.int .i64 i, .slice x n c, .slice y m d] 39)).alloc (.cells #[.int .i64 i', .slice x' n' c', .slice y' m' d'] 39)).alloc (.cells #[.int .i64 0, .slice none 0 0, .slice none 0 0] 39) = W := ⟨_, rfl⟩
  have bW : Below B w W := by rw [← hW, ← hB]; exact (((Below.refl _ w).alloc (Nat.le_refl _) _).alloc (by simp) _).alloc (by simp; omega) _
  have hs : W.heap.size = B + 3 := by rw [← hW, ← hB]; simp
  have r1 : RowC W B 39 [.int .i64 i, .slice x n c, .slice y m d] := by rw [← hW, ← hB]; exact ((RowC.new w _ _).below (below_new _ _)).below (below_new _ _)
  have r2 : RowC W (B + 1) 39 [.int .i64 i', .slice x' n' c', .slice y' m' d'] := by
    rw [← hW, ← hB]
    have := RowC.new (w.alloc (.cells #[.int .i64 i, .slice x n c, .slice y m d] 39)) 39 [.int .i64 i', .slice x' n' c', .slice y' m' d']
    rw [World.size_alloc] at this
    exact this.below (below_new _ _)
  have r3 : RowC W (B + 2) 39 [.int .i64 0, .slice none 0 0, .slice none 0 0] := by
    rw [← hW, ← hB]
    have := RowC.new ((w.alloc (.cells #[.int .i64 i, .slice x n c, .slice y m d] 39)).alloc (.cells #[.int .i64 i', .slice x' n' c', .slice y' m' d'] 39)) 39 [.int .i64 0, .slice none 0 0, .slice none 0 0]
    simp only [World.size_alloc] at this
    exact this
  have g2 := r1.cell 2 _ rfl
  have g5 := r2.cell 2 _ rfl
  have HR1 := Lib.hid r1
  have HR2 := Lib.hid r2
  have HR := Lib.hid r3
  have HBW := Lib.hid bW
  have HS := Lib.hid hs
  have HM := Lib.hid (tb_merge (h.tb.below (by rw [hB]; exact bW)) (k.tb.below (by rw [hB]; exact bW)) (by omega) (by omega))
  have HCO : Hid (∀ z : World, Below W.heap.size W z → Calls Try.prog 16 #[.slice x n c, .slice x' n' c'] z fun e w' => ∃ v', e = .returned v' ∧ w'.ownsRow z.heap.size 5 1 v' (orB s.ch u.ch).length ((orB s.ch u.ch).map (Value.int .u8)) ∧ Below z.heap.size z w') := fun z hz => bi_orO _ _ _ _ z ((h.ch.below (by rw [hB]; exact bW)).below hz) ((k.ch.below (by rw [hB]; exact bW)).below hz) h.ok.ch k.ok.ch (by omega) (by omega)
  clear h k bW hs r1 r2 r3
  go_enter Try.func38, Try.ntmps38
  simp only [svV, slV]
  go_wp2_with fail
  try rw [hW]
  clear hW
  refine HM.out.mono ?_
  rintro e V ⟨v2, f2, rfl, ho2, -, hb2⟩
  obtain ⟨⟨x2, n2, e2⟩, rfl, -⟩ := own_slV ho2.1
  simp only [slV] at ho2 ⊢
  have c0 : ∀ z : Ext V, z.1.cell? ⟨B, 0, none⟩ = some (.int .i64 i) := fun z => ((HR1.out.below hb2).below z.2).cell 0 _ rfl
  have c1 : ∀ z : Ext V, z.1.cell? ⟨B, 1, none⟩ = some (.slice x n c) := fun z => ((HR1.out.below hb2).below z.2).cell 1 _ rfl
  have c2 : ∀ z : Ext V, z.1.cell? ⟨B + 1, 1, none⟩ = some (.slice x' n' c') := fun z => ((HR2.out.below hb2).below z.2).cell 1 _ rfl
  have O2 := Lib.hid ho2
  have HB2 := Lib.hid hb2
  have HRV := Lib.hid (HR.out.below hb2)
  clear ho2 hb2 HM HR1 HR2 HR g2 g5
  go_wp2_with fail
  refine region_plan (fun x => ∃ y : Ext V, x = y.1) 9 (.takes [0, 1, 2, 3, 4, 5, 7] (.one 6 (.takes [8] .leaf))) hmx (by kernel_rfl) (by intro c x v a w h; cases x <;> exact h) ⟨⟨V.drew, (Below.refl _ V).drew⟩, rfl⟩ ?_
  repeat (rw [wpPlan_takes_cons]; simp only [nth_zero, nth_succ]; go_big_quiet_step (fail); refine wpQuiet_nil ?_)
  rw [wpPlan_takes_nil, wpPlan_one]
  simp only [nth_zero, nth_succ]
  go_wp2_with fail
  go_at_call 16
  refine (HCO.out V.drew HB2.out.drew).mono ?_
  rintro e y1 ⟨v1, rfl, ho1, hb1⟩
  have KB1 : Hid (Below V.heap.size V y1) := (Below.refl _ V).drew.trans hb1
  obtain ⟨⟨x1, n1, e1⟩, rfl, -⟩ := own_slV ho1
  simp only [slV] at ho1 ⊢
  have O1 := Lib.hid ho1
  have O2' := Lib.hid (O2.out.below KB1.out)
  clear ho1 hb1 HCO O2
  go_wp2_with fail
  refine planPost_mk ⟨⟨y1, KB1.out⟩, rfl⟩ ?_
  repeat (rw [wpPlan_takes_cons]; simp only [nth_zero, nth_succ]; go_big_quiet_step (fail); refine wpQuiet_nil ?_)
  rw [wpPlan_takes_nil, wpPlan_leaf]
  simp only [List.drop_succ_cons, List.drop_zero]
  obtain ⟨y3, ST, hy3, hg3⟩ := store_snC (i, (x1, n1, e1), (x2, n2, e2)) (HRV.out.below KB1.out) rfl
  have RT := load_snC hy3
  simp only [svV, slV] at ST RT
  have hVW := HB2.out.size
  have hWB := HS.out
  have hV1 := KB1.out.size
  have HB3 : Hid (Below B w y3) := (((HBW.out.trans (HB2.out.mono (by omega))).trans (KB1.out.mono (by omega))).grown hg3 (by omega) (fun k e => by cases e; omega))
  have HF : Hid (SnF B y3 (i, (x1, n1, e1), (x2, n2, e2)) (joinS s u)) := by
    have hrow := HRV.out.below KB1.out
    have a1 : y1.ownsRow B 5 1 (.slice x1 n1 e1) (orB s.ch u.ch).length ((orB s.ch u.ch).map (Value.int .u8)) := own_weak O1.out (by simp; omega)
    have a2 : PrO B y1 (.slice x2 n2 e2) (tKeep s.tb s.tb u.tb) := O2'.out.weak (by omega)
    exact ⟨HI.out, a1.kept hg3 (.inr (row_ne a1 hrow (by decide))), ⟨a2.1.kept hg3 (.inr (row_ne a2.1 hrow (by decide))), a2.2⟩, HOK.out⟩
  clear hy3 hg3 hVW hWB hV1
  go_wp2_with fail
  refine bodyPost_ret (results_cell rfl rfl RT) rfl ?_
  rw [HSZ.out]
  exact ⟨(i, (x1, n1, e1), (x2, n2, e2)), rfl, HF.out, HB3.out⟩

set_option maxRecDepth 100000 in
set_option maxHeartbeats 4000000 in
theorem ch_emptied {w : World} {q : SV} {s : SN} (h : SnIs w q s) (hl1 : s.ch.length ≤ 100000) :
    Calls Try.prog 39 #[svV q] w fun e w' => ∃ q', e = .returned (svV q') ∧ SnF w.heap.size w' q' (emptyS s) ∧ Below w.heap.size w w' := by
  have hmx : Try.prog.follows .mixedOrders = true := by kernel_rfl
  obtain ⟨i0, hi, hz0, hz1, hz2⟩ := info_parts info_u8
  obtain ⟨i, ⟨x, n, c⟩, ⟨y, m, d⟩⟩ := q
  have HI := Lib.hid h.id
  obtain ⟨len, hle⟩ : ∃ len, s.ch.length = len := ⟨_, rfl⟩
  obtain rfl : n = len := by obtain ⟨a, ca, e, -⟩ := h.ch; simp only [slV, Value.slice.injEq] at e; omega
  have HOK : Hid ((emptyS s).Ok) := ⟨h.ok.id, fun j => by
    show 0 ≤ ((List.replicate s.ch.length (0 : Int))[j]?).getD 0 ∧ ((List.replicate s.ch.length (0 : Int))[j]?).getD 0 < 256
    rw [List.getElem?_replicate]
    split <;> decide, fun p hp => by cases hp⟩
  obtain ⟨B, hB⟩ : ∃ B, w.heap.size = B := ⟨_, rfl⟩
  have HSZ := Lib.hid hB
  obtain ⟨W, hW⟩ : ∃ W, (w.alloc (.cells #[.int .i64 i, .slice x n c, .slice y m d] 39)).alloc (.cells #[.int .i64 0, .slice none 0 0, .slice none 0 0] 39) = W := ⟨_, rfl⟩
  have bW : Below B w W := by rw [← hW, ← hB]; exact ((Below.refl _ w).alloc (Nat.le_refl _) _).alloc (by simp) _
  have hs : W.heap.size = B + 2 := by rw [← hW, ← hB]; simp
  have r1 : RowC W B 39 [.int .i64 i, .slice x n c, .slice y m d] := by rw [← hW, ← hB]; exact (RowC.new w _ _).below (below_new _ _)
  have r2 : RowC W (B + 1) 39 [.int .i64 0, .slice none 0 0, .slice none 0 0] := by
    rw [← hW, ← hB]
    have := RowC.new (w.alloc (.cells #[.int .i64 i, .slice x n c, .slice y m d] 39)) 39 [.int .i64 0, .slice none 0 0, .slice none 0 0]
    rwa [World.size_alloc] at this
  have c0 : ∀ z : Ext W, z.1.cell? ⟨B, 0, none⟩ = some (.int .i64 i) := fun z => (r1.below z.2).cell 0 _ rfl
  have c1 : ∀ z : Ext W, z.1.cell? ⟨B, 1, none⟩ = some (.slice x n c) := fun z => (r1.below z.2).cell 1 _ rfl
  have HR := Lib.hid r2
  have HBW := Lib.hid bW
  have HS := Lib.hid hs
  clear h bW hs r1 r2
  go_enter Try.func39, Try.ntmps39
  simp only [svV, slV]
  go_wp2_with fail
  try rw [hW]
  clear hW
  refine region_plan (fun x => ∃ y : Ext W, x = y.1) 7 (.takes [0, 1, 2, 3, 4] (.one 5 (.takes [6] .leaf))) hmx (by kernel_rfl) (by intro c x v a w h; cases x <;> exact h) ⟨⟨W.drew, (Below.refl _ W).drew⟩, rfl⟩ ?_
  repeat (rw [wpPlan_takes_cons]; simp only [nth_zero, nth_succ]; go_big_quiet_step (fail); refine wpQuiet_nil ?_)
  rw [wpPlan_takes_nil, wpPlan_one]
  simp only [nth_zero, nth_succ]
  go_wp2_with (at_make; refine wpList_make_full _ rfl _ _ 31 rfl W.drew.heap.size 5 i0 (.int .u8 0) 1 Try.underlying31 hi hz0 hz1 .i64 .i64 _ _ n rfl rfl rfl rfl (by rw [hz2]; omega) (by unfold maxLen; omega) (by simp) ?_; intro y1 hown1 hgrow1)
  rw [show (Value.int .u8 0).cells = #[.int .u8 0] from rfl, toList_madeCells_one, Nat.mul_one] at hown1
  have KB1 : Hid (Below W.heap.size W y1) := (Below.refl _ W).drew.trans ((Below.refl _ W.drew).grown hgrow1 (Nat.le_refl _) (fun k e => by cases e))
  have O1 : Hid (y1.ownsRow W.drew.heap.size 5 1 (.slice (some ⟨W.drew.heap.size, 0, none⟩) n n) (emptyS s).ch.length ((emptyS s).ch.map (Value.int .u8))) := by
    show World.ownsRow _ _ _ _ _ (List.replicate s.ch.length (0 : Int)).length ((List.replicate s.ch.length (0 : Int)).map _)
    rw [List.length_replicate, List.map_replicate, hle]
    exact hown1
  have O1 : Hid (y1.ownsRow W.heap.size 5 1 (.slice (some ⟨W.heap.size, 0, none⟩) n n) (emptyS s).ch.length ((emptyS s).ch.map (Value.int .u8))) := O1
  clear hown1 hgrow1
  refine planPost_mk ⟨⟨y1, KB1.out⟩, rfl⟩ ?_
  repeat (rw [wpPlan_takes_cons]; simp only [nth_zero, nth_succ]; go_big_quiet_step (fail); refine wpQuiet_nil ?_)
  rw [wpPlan_takes_nil, wpPlan_leaf]
  simp only [List.drop_succ_cons, List.drop_zero]
  obtain ⟨y3, ST, hy3, hg3⟩ := store_snC (i, (some ⟨W.heap.size, 0, none⟩, n, n), (none, 0, 0)) (HR.out.below KB1.out) rfl
  have RT := load_snC hy3
  simp only [svV, slV] at ST RT
  have hWB := HS.out
  have hV1 := KB1.out.size
  have HB3 : Hid (Below B w y3) := ((HBW.out.trans (KB1.out.mono (by omega))).grown hg3 (by omega) (fun k e => by cases e; omega))
  have HF : Hid (SnF B y3 (i, (some ⟨W.heap.size, 0, none⟩, n, n), (none, 0, 0)) (emptyS s)) := by
    have hrow := HR.out.below KB1.out
    have a1 : y1.ownsRow B 5 1 (.slice (some ⟨W.heap.size, 0, none⟩) n n) (emptyS s).ch.length ((emptyS s).ch.map (Value.int .u8)) := own_weak O1.out (by omega)
    exact ⟨HI.out, a1.kept hg3 (.inr (row_ne a1 hrow (by decide))), PrO.nil _ _, HOK.out⟩
  clear hy3 hg3 hWB hV1
  go_wp2_with fail
  refine bodyPost_ret (results_cell rfl rfl RT) rfl ?_
  rw [HSZ.out]
  exact ⟨(i, (some ⟨W.heap.size, 0, none⟩, n, n), (none, 0, 0)), rfl, HF.out, HB3.out⟩
end Go.Proofs.Ytiidfffedoekiaa
