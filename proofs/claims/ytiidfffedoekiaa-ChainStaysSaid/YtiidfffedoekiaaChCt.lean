/- The developers' Cut. -/
import Derived.Test.YtiidfffedoekiaaChSt
import Derived.Test.YtiidfffedoekiaaChFn
namespace Go.Proofs.Ytiidfffedoekiaa
open Go.RowKit Go.Shelf
set_option linter.unusedVariables false
set_option linter.unusedSimpArgs false
attribute [-simp] Try.isAgg39 Try.zeroValue39
attribute [-go_sem] loadVar storeVar
attribute [local go_sem] loadVar_openS storeVar_openS zero_sn
attribute [local go_sem] Oper.semAt_some

set_option maxRecDepth 100000 in
set_option maxHeartbeats 8000000 in
theorem ch_cut {w : World} {v : Value} {l : List SN} (h : Snp w v l) (hK : Lens 1000 l) (i : Int) :
    Calls Try.prog 13 #[v, .int .i64 i] w fun e w' => ∃ u, e = .returned u ∧ SnO w.heap.size w' u (cCut l i) ∧ Below w.heap.size w w' := by
  have hmx : Try.prog.follows .mixedOrders = true := by kernel_rfl
  obtain ⟨r, h⟩ := h
  have HS := Lib.hid h
  have HKL := Lib.hid hK
  obtain ⟨a, cap, rfl, h1, h2, -⟩ := h
  obtain ⟨len, hle⟩ : ∃ len, l.length = len := ⟨_, rfl⟩
  have HL := Lib.hid hle
  have hlen : len ≤ 1000 := by have := hK.1; omega
  obtain ⟨B, hB⟩ : ∃ B, w.heap.size = B := ⟨_, rfl⟩
  have HSZ := Lib.hid hB
  rw [hle] at HS h1 ⊢
  refine (callsIn_wide (n := 3)).1 ?_
  refine callsIn_of_wp_marks Try.func13 rfl trivial ?_ rfl
  simp only [Try.ntmps13, List.size_toArray, List.length_cons, List.length_nil, Nat.reduceAdd, Nat.reduceSub, Array.replicate_succ, Array.replicate_zero, List.push_toArray, List.append_toArray, List.nil_append, List.cons_append]
  obtain ⟨X, hX⟩ : ∃ X, ((w.alloc (.cells #[.int .i64 i] 3)).alloc (.cells #[.slice none 0 0] 22)).alloc (.cells #[.slice none 0 0] 22) = X := ⟨_, rfl⟩
  have hXs : X.heap.size = B + 3 := by rw [← hX, ← hB]; simp
  have hXb : Below B w X := by rw [← hX, ← hB]; exact (((Below.refl _ w).alloc (Nat.le_refl _) _).alloc (by simp) _).alloc (by simp; omega) _
  have k1 : RowC X B 3 [.int .i64 i] := by rw [← hX, ← hB]; exact ((RowC.new w _ _).below (below_new _ _)).below (below_new _ _)
  have k2 : RowC X (B + 1) 22 [.slice none 0 0] := by
    rw [← hX, ← hB]
    have := RowC.new (w.alloc (.cells #[.int .i64 i] 3)) 22 [.slice none 0 0]
    rw [World.size_alloc] at this
    exact this.below (below_new _ _)
  have k5 : RowC X (B + 2) 22 [slV (none, 0, 0)] := by
    rw [← hX, ← hB]
    have := RowC.new ((w.alloc (.cells #[.int .i64 i] 3)).alloc (.cells #[.slice none 0 0] 22)) 22 [.slice none 0 0]
    simp only [World.size_alloc] at this
    exact this
  have SX := SpX.new 0 (len : Int) (.slice a len cap) hXb (by omega)
  rw [hXs] at SX
  obtain ⟨W0, hW0⟩ : ∃ W0, ((X.alloc (.cells #[.slice a len cap] 22)).alloc (.cells #[.int .i64 0] 3)).alloc (.cells #[.int .i64 (len : Int)] 3) = W0 := ⟨_, rfl⟩
  have hWs : W0.heap.size = B + 6 := by rw [← hW0]; simp [hXs]
  have bX : Below X.heap.size X W0 := by rw [← hW0]; exact (((Below.refl _ X).alloc (Nat.le_refl _) _).alloc (by simp) _).alloc (by simp; omega) _
  rw [hW0] at SX
  have k3 := k1.below bX
  have k4 := k2.below bX
  have k6 := k5.below bX
  clear k1 k2 k5 bX hXb h1 h2
  gi_wp2_with (refine ⟨trivial, ?_⟩; gi_at_call 36; refine (span_in _ _ trivial rfl _ _ _ _ _ _).mono ?_; rintro e w' ⟨rfl, rfl⟩)
  try rw [hX]
  try rw [hW0]
  try rw [hXs]
  clear hX hW0
  have HW := Lib.hid hWs
  have hm : hiOf l (len : Int) - loOf 0 = len := by rw [← hle, hiOf_all, loOf_zero]; rfl
  have hseq := span1_seq 2 (by omega) (B + 3 + 1) (B + 3 + 2) (B + 3) 0 (len : Int) (.slice a len cap) r l W0
  rw [hm, loOf_zero] at hseq
  refine wpIn_rangeFunc_num (n := 3) rfl (by omega) (gf := 51) (lb := #[.pointer (some ⟨B + 3 + 1, 0, none⟩), .pointer (some ⟨B + 3 + 2, 0, none⟩), .pointer (some ⟨B + 3, 0, none⟩)]) rfl trivial (enters_of Try.func51 (by kernel_rfl) rfl)
    hseq (Below.refl _ _) (fun _ => rfl)
    (fun k W => ∃ u : SlV, RowC W B 3 [.int .i64 i] ∧ RowC W (B + 1) 22 [.slice none 0 0] ∧ RowC W (B + 2) 22 [slV u] ∧ SnO B W (slV u) (l.take k) ∧ (i < 0 ∨ (k : Int) ≤ i) ∧ SpX B (B + 3) 0 (len : Int) (.slice a len cap) w W)
    (fun c k W => c = .ret ∧ ∃ u : SlV, RowC W (B + 1) 22 [slV u] ∧ SnO B W (slV u) (cCut l i) ∧ Below B w W)
    ?hR ?hI ?hIx ⟨_, k3, k4, k6, by rw [List.take_zero]; exact SnO.nil _ _, by omega, SX⟩
    (fun k a' W => ∃ C q u, B + 5 < C ∧ r[k]? = some q ∧ RowC W C 39 (svL q) ∧ RowC W (B + 2) 22 [slV u] ∧ (slV u).ownBlock ≠ some C ∧ a' = { tmps := #[.slice a len cap, .int .i64 i, undef, .pointer (some ⟨B, 0, none⟩), .pointer (some ⟨B + 1, 0, none⟩), .pointer (some ⟨B + 2, 0, none⟩), .int .i64 (k : Int), .pointer (some ⟨C, 0, none⟩), .slice a len cap, .slice a len cap, .int .i64 (len : Int), .func (.func 51) #[] #[.pointer (some ⟨B + 3 + 1, 0, none⟩), .pointer (some ⟨B + 3 + 2, 0, none⟩), .pointer (some ⟨B + 3, 0, none⟩)], .int .i64 (k : Int), svV q, undef, undef, undef, undef, undef, undef, undef, undef, undef, undef, undef, undef, undef, undef], defers := [] })
    ?hAx ?assign ?body ?done ?stop
  case hR =>
    rintro k W ⟨u, _, _, _, _, _, h3⟩
    exact h3.spb HSZ.out HS.out
  case hI =>
    intro s Y Z row ⟨u, g1, gn, g2, g3, gi, g4⟩ hg hr
    exact ⟨u, rowC_own g1 hg hr, rowC_own gn hg hr, rowC_own g2 hg hr, g3.own hg hr, gi, g4.own (by omega) hg (by omega) hr⟩
  case hIx =>
    intro c s Y Z row ⟨g0, u, g1, g2, g3⟩ hg hr
    exact ⟨g0, u, rowC_own g1 hg hr, g2.own hg hr, below_own g3 (by omega) hg (fun r e => ⟨by have := (hr r e).1; omega, (hr r e).2⟩)⟩
  case hAx =>
    rintro k a' _ Y Z row ⟨C, q, u, f1, f2, f3, f5, f6, f4⟩ hg hr
    exact ⟨C, q, u, f1, f2, rowC_own f3 hg hr, rowC_own f5 hg hr, f6, f4⟩
  case assign =>
    rintro lp k W K hkm ⟨u, g1, gn, g2, g3, gi, g4⟩ hK
    obtain ⟨q, s, hq, hs, -⟩ := snR_at HS.out (k := k) (by rw [HL.out]; exact hkm)
    have ST := new_sn W q
    have HZ : Hid (B + 5 < W.heap.size) := g4.bj.lt
    have hK := hK _ _ (keepsFrom_below (below_new W (.cells (svL q).toArray 39))) ⟨u, g1.below (below_new W _), gn.below (below_new W _), g2.below (below_new W _), g3.below (below_new W _), gi, g4.alloc (by have := HZ.out; omega) _⟩ ⟨W.heap.size, q, u, HZ.out, hq, RowC.new W _ _, g2.below (below_new W _), (fun e => by have := (g3.base _ e).2; omega), rfl⟩
    rw [encS_at 0 (by rw [Nat.zero_add]; exact hq), Nat.zero_add]
    clear g1 gn g2 g3 g4 gi hq hs
    gi_wp2
    exact hK
  case body =>
    rintro lp k a' W _ _ hkm ⟨u, g1, gn, g2, g3, gi, g4⟩ ⟨C, q, u', hC, hq, hx, hu', hne, rfl⟩
    obtain ⟨q', s, hq', hs, hqs⟩ := snR_at HS.out (k := k) (by rw [HL.out]; exact hkm)
    obtain rfl : q' = q := by rw [hq] at hq'; cases hq'; rfl
    have huu : slV u' = slV u := by
      have e1 := hu'.cell 0 _ rfl
      rw [g2.cell 0 _ rfl] at e1
      exact (Option.some.inj e1).symm
    rw [huu] at hne
    have hsm := List.mem_of_getElem? hs
    have hls := HKL.out.2 s hsm
    have HZ : Hid (B + 5 < W.heap.size) := g4.bj.lt
    have HSI := Lib.hid (hqs.below (W' := W) (by rw [HSZ.out]; exact g4.be))
    have G2 := Lib.hid g2
    have G1 := Lib.hid g1
    have GN := Lib.hid gn
    have G3 := Lib.hid g3
    have G4 := Lib.hid g4
    have HX := Lib.hid hx
    have HNE := Lib.hid hne
    have d0 := g1.cell 0 _ rfl
    have hkl : k ≤ 1000 := by omega
    have hlo : (l.take k).length ≤ 1000 := by rw [List.length_take]; omega
    have c0 : ∀ z : Kp2 W (B + 2) C, z.1.cell? ⟨B + 2, 0, none⟩ = some (slV u) := fun z => (z.fst g2).cell 0 _ rfl
    have c1 : ∀ z : Kp2 W (B + 2) C, (loadVar 39 ⟨C, 0, none⟩).run Try.prog z.1 = .ok (svV q') z.1 := fun z => load_snC (z.snd hx)
    by_cases hki : (k : Int) = i
    · have q1 : ((k : Int) == i) = true := by simpa using hki
      have HD : Hid (cCut l i = l.take k ++ [emptyS s]) := by show _ = _; rw [← hki]; exact cCut_at hs
      have HCP := Lib.hid (ch_emptied (w := W.drew) (q := q') (s := s) (HSI.out.below (Below.refl _ W).drew) (by omega))
      clear g1 gn g2 g3 g4 gi hq hq' hs hqs hx hu' hne huu hsm hls hki
      gi_wp2
      refine region_plan_round (fun x => ∃ y : Kp2 W (B + 2) C, x = y.1) 5 (.takes [0, 1] (.one 2 (.one 3 (.one 4 .leaf)))) (letsOut_thenC (letsOut_thenC (letsOut_inBlock letsOut_num))) (by kernel_rfl) hmx (by kernel_rfl) (by intro c x v a w h; exact (h : False).elim) ⟨⟨W.drew, rfl, rfl⟩, rfl⟩ ?_
      rw [wpPlan_takes_cons]; simp only [nth_zero, nth_succ]; go_big_quiet_step (fail); refine wpQuiet_nil ?_
      rw [wpPlan_takes_cons]; simp only [nth_zero, nth_succ]; go_big_quiet_step (fail); refine wpQuiet_nil ?_
      clear c0 c1
      rw [wpPlan_takes_nil, wpPlan_one]
      simp only [nth_zero, nth_succ]
      go_wp2_with fail
      go_at_call 39
      refine HCP.out.mono ?_
      rintro e y1 ⟨q2, rfl, hF, hb⟩
      have hb0 : Below W.heap.size W y1 := (Below.refl _ W).drew.trans hb
      have hK1 := Kp2.below (B := B + 2) (C := C) (W := W) (x := W) ⟨rfl, rfl⟩ G2.out.lt HX.out.lt hb0
      have HBel := Lib.hid hb0
      have HF1 := Lib.hid (hF.weak (M := B) (by have := HZ.out; simp; omega))
      have O1 := G3.out.below hb0
      have S1 := slice_sn1 y1 q2
      obtain ⟨v3, y3, hA, O3, hg3⟩ := sn_append O1 (by have := hb0.size; have := HZ.out; omega) HF1.out (by omega)
      obtain ⟨Y2, hY2⟩ : ∃ Y, y1.alloc (.cells (svL q2).toArray 39) = Y := ⟨_, rfl⟩
      have bY2 : Below y1.heap.size y1 Y2 := by rw [← hY2]; exact below_new _ _
      rw [hY2] at S1 hA
      have hK2 := Kp2.below hK1 (by have := G2.out.lt; have := hb0.size; omega) (by have := HX.out.lt; have := hb0.size; omega) bY2
      have hob1 : (slV u).ownBlock ≠ some (B + 2) := O1.ne (G2.out.below hb0) (by decide)
      have hK3 := Kp2.grown hK1 (by have := G2.out.lt; have := hb0.size; omega) (by have := HX.out.lt; have := hb0.size; omega) hg3 hob1 HNE.out
      have HK1 := Lib.hid hK1
      have HK2 := Lib.hid hK2
      have HK3 := Lib.hid hK3
      have HO1 := Lib.hid O1
      have HO3 := Lib.hid O3
      have HG3 := Lib.hid hg3
      have HA := Lib.hid hA
      have HS1 := Lib.hid S1
      have HR3 : Hid (RowC y3 (B + 2) 22 [slV u]) := hK3.1.trans G2.out
      clear hF hb hb0 hK1 O1 S1 O3 hg3 hY2 bY2 hK2 hob1 hK3 hA HCP
      obtain ⟨⟨vx, vn, vc⟩, rfl, -⟩ := HO3.out.isSl
      go_wp2_with fail
      refine planPost_mk ⟨⟨y1, HK1.out⟩, rfl⟩ ?_
      rw [wpPlan_one]
      simp only [nth_zero, nth_succ]
      go_wp2_with (refine gate_build ?_; refine wpList_build_run 22 1 #[(0, .tmp 19)] rfl rfl [(0, svV q2)] _ rfl HS1.out ?_)
      refine planPost_mk ⟨⟨Y2, HK2.out⟩, rfl⟩ ?_
      rw [wpPlan_one]
      simp only [nth_zero, nth_succ]
      go_wp2_with (at_builtin; refine wpList_append_run (.tmp 17) (.tmp 20) 22 rfl rfl _ _ _ rfl rfl (HA.out _) ?_)
      refine planPost_mk ⟨⟨y3, HK3.out⟩, rfl⟩ ?_
      rw [wpPlan_leaf]
      simp only [List.drop_succ_cons, List.drop_zero]
      have f3 := HR3.out.frozen 0
      have d3 := HR3.out.cell 0 _ rfl
      have HR4 : Hid (RowC y3 (B + 1) 22 [.slice none 0 0]) := (GN.out.below HBel.out).grown HG3.out (HO1.out.ne (GN.out.below HBel.out) (by decide))
      have f4 := HR4.out.frozen 0
      have d4 := HR4.out.cell 0 _ rfl
      simp only [slV]
      go_wp2_with fail
      gi_wp2
      have hy3 : Below B w y3 := (G4.out.be.trans (HBel.out.mono (by have := HZ.out; omega))).grown HG3.out (by have := HBel.out.size; have := HZ.out; omega) (fun k e => (HO1.out.base k e).1)
      refine ⟨keepsFrom_trans (keepsFrom_below HBel.out) (keepsFrom_trans (keepsFrom_sn HO1.out HG3.out) (keepsFrom_cells HR4.out (grownBy_setCellJ y3 (B + 1) 0 _))), rfl, (vx, vn, vc), HR4.out.set 0 _, ?_, set_below hy3 (by omega) 0 _⟩
      rw [HD.out]
      exact HO3.out.setB HR4.out (by decide) (by decide) (by decide) 0 _
    · have q1 : ((k : Int) == i) = false := by simpa using hki
      have HD := Lib.hid (take_at hs)
      have HI2 : Hid (i < 0 ∨ ((k + 1 : Nat) : Int) ≤ i) := by show _ ∨ _; omega
      have HCP := Lib.hid (ch_copied (w := W.drew) (q := q') (s := s) (HSI.out.below (Below.refl _ W).drew) (by omega) (by omega))
      clear g1 gn g2 g3 g4 gi hq hq' hs hqs hx hu' hne huu hsm hls hki
      gi_wp2
      refine region_plan_round (fun x => ∃ y : Kp2 W (B + 2) C, x = y.1) 5 (.takes [0, 1] (.one 2 (.one 3 (.one 4 .leaf)))) (letsOut_inBlock letsOut_num) (by kernel_rfl) hmx (by kernel_rfl) (by intro c x v a w h; exact (h : False).elim) ⟨⟨W.drew, rfl, rfl⟩, rfl⟩ ?_
      rw [wpPlan_takes_cons]; simp only [nth_zero, nth_succ]; go_big_quiet_step (fail); refine wpQuiet_nil ?_
      rw [wpPlan_takes_cons]; simp only [nth_zero, nth_succ]; go_big_quiet_step (fail); refine wpQuiet_nil ?_
      clear c0 c1
      rw [wpPlan_takes_nil, wpPlan_one]
      simp only [nth_zero, nth_succ]
      go_wp2_with fail
      go_at_call 37
      refine HCP.out.mono ?_
      rintro e y1 ⟨q2, rfl, hF, hb⟩
      have hb0 : Below W.heap.size W y1 := (Below.refl _ W).drew.trans hb
      have hK1 := Kp2.below (B := B + 2) (C := C) (W := W) (x := W) ⟨rfl, rfl⟩ G2.out.lt HX.out.lt hb0
      have HBel := Lib.hid hb0
      have HF1 := Lib.hid (hF.weak (M := B) (by have := HZ.out; simp; omega))
      have O1 := G3.out.below hb0
      have S1 := slice_sn1 y1 q2
      obtain ⟨v3, y3, hA, O3, hg3⟩ := sn_append O1 (by have := hb0.size; have := HZ.out; omega) HF1.out (by omega)
      obtain ⟨Y2, hY2⟩ : ∃ Y, y1.alloc (.cells (svL q2).toArray 39) = Y := ⟨_, rfl⟩
      have bY2 : Below y1.heap.size y1 Y2 := by rw [← hY2]; exact below_new _ _
      rw [hY2] at S1 hA
      have hK2 := Kp2.below hK1 (by have := G2.out.lt; have := hb0.size; omega) (by have := HX.out.lt; have := hb0.size; omega) bY2
      have hob1 : (slV u).ownBlock ≠ some (B + 2) := O1.ne (G2.out.below hb0) (by decide)
      have hK3 := Kp2.grown hK1 (by have := G2.out.lt; have := hb0.size; omega) (by have := HX.out.lt; have := hb0.size; omega) hg3 hob1 HNE.out
      have HK1 := Lib.hid hK1
      have HK2 := Lib.hid hK2
      have HK3 := Lib.hid hK3
      have HO1 := Lib.hid O1
      have HO3 := Lib.hid O3
      have HG3 := Lib.hid hg3
      have HA := Lib.hid hA
      have HS1 := Lib.hid S1
      have HR3 : Hid (RowC y3 (B + 2) 22 [slV u]) := hK3.1.trans G2.out
      clear hF hb hb0 hK1 O1 S1 O3 hg3 hY2 bY2 hK2 hob1 hK3 hA HCP
      obtain ⟨⟨vx, vn, vc⟩, rfl, -⟩ := HO3.out.isSl
      go_wp2_with fail
      refine planPost_mk ⟨⟨y1, HK1.out⟩, rfl⟩ ?_
      rw [wpPlan_one]
      simp only [nth_zero, nth_succ]
      go_wp2_with (refine gate_build ?_; refine wpList_build_run 22 1 #[(0, .tmp 24)] rfl rfl [(0, svV q2)] _ rfl HS1.out ?_)
      refine planPost_mk ⟨⟨Y2, HK2.out⟩, rfl⟩ ?_
      rw [wpPlan_one]
      simp only [nth_zero, nth_succ]
      go_wp2_with (at_builtin; refine wpList_append_run (.tmp 22) (.tmp 25) 22 rfl rfl _ _ _ rfl rfl (HA.out _) ?_)
      refine planPost_mk ⟨⟨y3, HK3.out⟩, rfl⟩ ?_
      rw [wpPlan_leaf]
      simp only [List.drop_succ_cons, List.drop_zero]
      have f3 := HR3.out.frozen 0
      have d3 := HR3.out.cell 0 _ rfl
      simp only [slV]
      go_wp2_with fail
      have hy3 : Below B w y3 := (G4.out.be.trans (HBel.out.mono (by have := HZ.out; omega))).grown HG3.out (by have := HBel.out.size; have := HZ.out; omega) (fun k e => (HO1.out.base k e).1)
      have hsx : SpX B (B + 3) 0 (len : Int) (.slice a len cap) w y3 := (G4.out.below (by have := HZ.out; omega) HBel.out).grownRow (by have := HBel.out.size; have := HZ.out; omega) HO1.out (Nat.le_refl _) HG3.out
      have hg1 : RowC y3 B 3 [.int .i64 i] := (G1.out.below HBel.out).grown HG3.out (HO1.out.ne (G1.out.below HBel.out) (by decide))
      have hgn : RowC y3 (B + 1) 22 [.slice none 0 0] := (GN.out.below HBel.out).grown HG3.out (HO1.out.ne (GN.out.below HBel.out) (by decide))
      refine ⟨keepsFrom_trans (keepsFrom_below HBel.out) (keepsFrom_trans (keepsFrom_sn HO1.out HG3.out) (keepsFrom_cells HR3.out (grownBy_setCellJ y3 (B + 2) 0 _))), (vx, vn, vc), set_other hg1 (by omega) 0 _, set_other hgn (by omega) 0 _, HR3.out.set 0 _, ?_, HI2.out, hsx.set (by omega) (by omega) 0 _⟩
      rw [HD.out]
      exact HO3.out.setB HR3.out (by decide) (by decide) (by decide) 0 _
  case done =>
    rintro D W hD ⟨u, g1, gn, g2, g3, gi, g4⟩ hK
    obtain ⟨ux, un, uc⟩ := u
    simp only [slV] at g2 g3
    have d3 := g2.cell 0 _ rfl
    have f3 := gn.frozen 0
    have d4 := gn.cell 0 _ rfl
    have E1 : Hid (cCut l i = l.take len) := by show _ = _; rw [List.take_of_length_le (by rw [HL.out]; exact Nat.le_refl _), cCut_before (by rw [HL.out]; exact gi)]
    have HKF : Hid (KeepsFrom 0 W (W.setCell ⟨B + 1, 0, none⟩ (.slice ux un uc))) := keepsFrom_cells gn (grownBy_setCellJ W (B + 1) 0 _)
    have GN := Lib.hid gn
    have G3 := Lib.hid g3
    have G4 := Lib.hid g4
    have HK := Lib.hid hK
    clear g1 gn g2 g3 g4 gi hK
    gi_wp2
    have hK2 := HKF.out.same D _ (Nat.zero_le _) HK.out rfl
    refine ⟨by simp, .inl ⟨_, _, rfl, run_takeDeferred hK2, ?_⟩⟩
    have hg2 := grownBy_putObj' (W.setCell ⟨B + 1, 0, none⟩ (.slice ux un uc)) D (.deferred none)
    have hy2 : RowC _ (B + 1) 22 [slV (ux, un, uc)] := rowC_own (N := 0) (GN.out.set 0 (.slice ux un uc)) hg2 (fun r e => by cases e; exact ⟨Nat.zero_le _, _, hK2, rfl⟩)
    refine ⟨_, results_cell rfl rfl (load_sl1 hy2 (.inl rfl)), _, rfl, ?_, ?_⟩
    · rw [HSZ.out, E1.out]
      exact (G3.out.setB GN.out (by decide) (by decide) (by decide) 0 _).own (M := 0) hg2 (fun r e => by cases e; exact ⟨Nat.zero_le _, _, hK2, rfl⟩)
    · rw [HSZ.out]
      exact (set_below G4.out.be (by omega) 0 _).trans (belowK_b (w := w) (by omega) _ D _ _ (by have := HW.out; have := HSZ.out; omega) hK2 rfl rfl)
  case stop =>
    rintro D c k W hD _ ⟨rfl, u, g1, g2, g3⟩ hK
    have G1 := Lib.hid g1
    have G2 := Lib.hid g2
    have G3 := Lib.hid g3
    have HK := Lib.hid hK
    clear g1 g2 g3 hK
    gi_wp2
    refine ⟨by simp, .inl ⟨_, _, rfl, run_takeDeferred HK.out, ?_⟩⟩
    have hg2 := grownBy_putObj' W D (.deferred none)
    have hy2 := rowC_own (N := 0) G1.out hg2 (fun r e => by cases e; exact ⟨Nat.zero_le _, _, HK.out, rfl⟩)
    refine ⟨_, results_cell rfl rfl (load_sl1 hy2 (.inl rfl)), _, rfl, ?_, ?_⟩
    · rw [HSZ.out]
      exact G2.out.own (M := 0) hg2 (fun r e => by cases e; exact ⟨Nat.zero_le _, _, HK.out, rfl⟩)
    · rw [HSZ.out]
      exact G3.out.trans (belowK_b (w := w) (by omega) W D _ _ (by have := HW.out; have := HSZ.out; omega) HK.out rfl rfl)
end Go.Proofs.Ytiidfffedoekiaa
