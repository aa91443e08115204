/- The developers' Drop. -/
import Derived.Test.YtiidfffedoekiaaChSt
import Derived.Test.YtiidfffedoekiaaChFn
namespace Go.Proofs.Ytiidfffedoekiaa
open Go.RowKit Go.Shelf
set_option linter.unusedVariables false
set_option linter.unusedSimpArgs false
attribute [-simp] Try.isAgg39 Try.zeroValue39
attribute [-go_sem] loadVar storeVar
attribute [local go_sem] loadVar_openS storeVar_openS zero_sn
attribute [local go_sem] Oper.semAt_some

theorem drop_other {l : List SN} {i : Int} {k : Nat} {s : SN} (h : l[k]? = some s) (hi : (k : Int) ≠ i) : cDrop (l.take (k + 1)) i = cDrop (l.take k) i ++ [s] := by
  have hk := (List.getElem?_eq_some_iff.1 h).1
  rw [take_at h, cDrop_other s (by rw [List.length_take, Nat.min_eq_left (by omega)]; exact fun e => hi e.symm)]
theorem drop_zero {l : List SN} {s : SN} (h : l[0]? = some s) : cDrop (l.take (0 + 1)) ((0 : Nat) : Int) = cDrop (l.take 0) ((0 : Nat) : Int) := by
  rw [take_at h, List.take_zero]; rfl
theorem drop_here {l : List SN} {k : Nat} {s p : SN} (h : l[k + 1]? = some s) (hp : l[k]? = some p) : cDrop (l.take (k + 1 + 1)) ((k + 1 : Nat) : Int) = (l.take (k + 1)).set k (joinS p s) ∧ cDrop (l.take (k + 1)) ((k + 1 : Nat) : Int) = l.take (k + 1) := by
  have hk := (List.getElem?_eq_some_iff.1 h).1
  have hl : (l.take (k + 1)).length = k + 1 := by rw [List.length_take]; omega
  refine ⟨?_, cDrop_before (.inr (by rw [hl]; exact Int.le_refl _))⟩
  have := cDrop_here (a := l.take (k + 1)) s (by omega)
  rw [hl, Nat.add_sub_cancel, List.getElem?_take, if_pos (by omega), hp] at this
  rw [take_at h]
  exact this

set_option maxRecDepth 100000 in
set_option maxHeartbeats 8000000 in
theorem ch_drop {w : World} {v : Value} {l : List SN} (h : Snp w v l) (hK : Lens 1000 l) (i : Int) :
    Calls Try.prog 12 #[v, .int .i64 i] w fun e w' => ∃ u, e = .returned u ∧ SnO w.heap.size w' u (cDrop l i) ∧ Below w.heap.size w w' := by
  have hmx : Try.prog.follows .mixedOrders = true := by kernel_rfl
  obtain ⟨r, h⟩ := h
  have HS := Lib.hid h
  have HKL := Lib.hid hK
  obtain ⟨a, cap, rfl, h1, h2, -⟩ := h
  obtain ⟨len, hle⟩ : ∃ len, l.length = len := ⟨_, rfl⟩
  have HL := Lib.hid hle
  have hlen : len ≤ 1000 := by have := hK.1; omega
  obtain ⟨B, hB⟩ : ∃ B, w.heap.size = B := ⟨_, rfl⟩
  have HSZ := Lib.hid hB
  rw [hle] at HS h1 ⊢
  refine (callsIn_wide (n := 3)).1 ?_
  refine callsIn_of_wp_marks Try.func12 rfl trivial ?_ rfl
  simp only [Try.ntmps12, List.size_toArray, List.length_cons, List.length_nil, Nat.reduceAdd, Nat.reduceSub, Array.replicate_succ, Array.replicate_zero, List.push_toArray, List.append_toArray, List.nil_append, List.cons_append]
  obtain ⟨X, hX⟩ : ∃ X, (w.alloc (.cells #[.int .i64 i] 3)).alloc (.cells #[.slice none 0 0] 22) = X := ⟨_, rfl⟩
  have hXs : X.heap.size = B + 2 := by rw [← hX, ← hB]; simp
  have hXb : Below B w X := by rw [← hX, ← hB]; exact ((Below.refl _ w).alloc (Nat.le_refl _) _).alloc (by simp) _
  have k1 : RowC X B 3 [.int .i64 i] := by rw [← hX, ← hB]; exact (RowC.new w _ _).below (below_new _ _)
  have k2 : RowC X (B + 1) 22 [slV (none, 0, 0)] := by
    rw [← hX, ← hB]
    have := RowC.new (w.alloc (.cells #[.int .i64 i] 3)) 22 [.slice none 0 0]
    rwa [World.size_alloc] at this
  have SX := SpX.new 0 (len : Int) (.slice a len cap) hXb (by omega)
  rw [hXs] at SX
  obtain ⟨W0, hW0⟩ : ∃ W0, ((X.alloc (.cells #[.slice a len cap] 22)).alloc (.cells #[.int .i64 0] 3)).alloc (.cells #[.int .i64 (len : Int)] 3) = W0 := ⟨_, rfl⟩
  have hWs : W0.heap.size = B + 5 := by rw [← hW0]; simp [hXs]
  have bX : Below X.heap.size X W0 := by rw [← hW0]; exact (((Below.refl _ X).alloc (Nat.le_refl _) _).alloc (by simp) _).alloc (by simp; omega) _
  rw [hW0] at SX
  have k3 := k1.below bX
  have k4 := k2.below bX
  clear k1 k2 bX hXb h1 h2
  gi_wp2_with (refine ⟨trivial, ?_⟩; gi_at_call 36; refine (span_in _ _ trivial rfl _ _ _ _ _ _).mono ?_; rintro e w' ⟨rfl, rfl⟩)
  try rw [hX]
  try rw [hW0]
  try rw [hXs]
  clear hX hW0
  have HW := Lib.hid hWs
  have hm : hiOf l (len : Int) - loOf 0 = len := by rw [← hle, hiOf_all, loOf_zero]; rfl
  have hseq := span1_seq 2 (by omega) (B + 2 + 1) (B + 2 + 2) (B + 2) 0 (len : Int) (.slice a len cap) r l W0
  rw [hm, loOf_zero] at hseq
  refine wpIn_rangeFunc_num (n := 3) rfl (by omega) (gf := 51) (lb := #[.pointer (some ⟨B + 2 + 1, 0, none⟩), .pointer (some ⟨B + 2 + 2, 0, none⟩), .pointer (some ⟨B + 2, 0, none⟩)]) rfl trivial (enters_of Try.func51 (by kernel_rfl) rfl)
    hseq (Below.refl _ _) (fun _ => rfl)
    (fun k W => ∃ u : SlV, RowC W B 3 [.int .i64 i] ∧ RowC W (B + 1) 22 [slV u] ∧ SnO B W (slV u) (cDrop (l.take k) i) ∧ SpX B (B + 2) 0 (len : Int) (.slice a len cap) w W)
    (fun c k W => False)
    ?hR ?hI (fun c s Y Z row h => h.elim) ⟨_, k3, k4, by rw [List.take_zero, cDrop_before (by simp; omega)]; exact SnO.nil _ _, SX⟩
    (fun k a' W => ∃ C q u, B + 4 < C ∧ r[k]? = some q ∧ RowC W C 39 (svL q) ∧ RowC W (B + 1) 22 [slV u] ∧ (slV u).ownBlock ≠ some C ∧ a' = { tmps := #[.slice a len cap, .int .i64 i, undef, .pointer (some ⟨B, 0, none⟩), .slice none 0 0, .pointer (some ⟨B + 1, 0, none⟩), .int .i64 (k : Int), .pointer (some ⟨C, 0, none⟩), .slice a len cap, .slice a len cap, .int .i64 (len : Int), .func (.func 51) #[] #[.pointer (some ⟨B + 2 + 1, 0, none⟩), .pointer (some ⟨B + 2 + 2, 0, none⟩), .pointer (some ⟨B + 2, 0, none⟩)], .int .i64 (k : Int), svV q, undef, undef, undef, undef, undef, undef, undef, undef, undef, undef, undef, undef, undef, undef, undef, undef, undef, undef, undef, undef, undef, undef, undef, undef], defers := [] })
    ?hAx ?assign ?body ?done ?stop
  case hR =>
    rintro k W ⟨u, _, _, _, h3⟩
    exact h3.spb HSZ.out HS.out
  case hI =>
    intro s Y Z row ⟨u, g1, g2, g3, g4⟩ hg hr
    exact ⟨u, rowC_own g1 hg hr, rowC_own g2 hg hr, g3.own hg hr, g4.own (by omega) hg (by omega) hr⟩
  case hAx =>
    rintro k a' _ Y Z row ⟨C, q, u, f1, f2, f3, f5, f6, f4⟩ hg hr
    exact ⟨C, q, u, f1, f2, rowC_own f3 hg hr, rowC_own f5 hg hr, f6, f4⟩
  case assign =>
    rintro lp k W K hkm ⟨u, g1, g2, g3, g4⟩ hK
    obtain ⟨q, s, hq, hs, -⟩ := snR_at HS.out (k := k) (by rw [HL.out]; exact hkm)
    have ST := new_sn W q
    have HZ : Hid (B + 4 < W.heap.size) := g4.bj.lt
    have hK := hK _ _ (keepsFrom_below (below_new W (.cells (svL q).toArray 39))) ⟨u, g1.below (below_new W _), g2.below (below_new W _), g3.below (below_new W _), g4.alloc (by have := HZ.out; omega) _⟩ ⟨W.heap.size, q, u, HZ.out, hq, RowC.new W _ _, g2.below (below_new W _), (fun e => by have := (g3.base _ e).2; omega), rfl⟩
    rw [encS_at 0 (by rw [Nat.zero_add]; exact hq), Nat.zero_add]
    clear g1 g2 g3 g4 hq hs
    gi_wp2
    exact hK
  case body =>
    rintro lp k a' W _ _ hkm ⟨u, g1, g2, g3, g4⟩ ⟨C, q, u', hC, hq, hx, hu', hne, rfl⟩
    obtain ⟨q', s, hq', hs, hqs⟩ := snR_at HS.out (k := k) (by rw [HL.out]; exact hkm)
    obtain rfl : q' = q := by rw [hq] at hq'; cases hq'; rfl
    have huu : slV u' = slV u := by
      have e1 := hu'.cell 0 _ rfl
      rw [g2.cell 0 _ rfl] at e1
      exact (Option.some.inj e1).symm
    rw [huu] at hne
    have hsm := List.mem_of_getElem? hs
    have hls := HKL.out.2 s hsm
    have HZ : Hid (B + 4 < W.heap.size) := g4.bj.lt
    have HSI := Lib.hid (hqs.below (W' := W) (by rw [HSZ.out]; exact g4.be))
    have G2 := Lib.hid g2
    have G1 := Lib.hid g1
    have G3 := Lib.hid g3
    have G4 := Lib.hid g4
    have HX := Lib.hid hx
    have HNE := Lib.hid hne
    have HU := Lib.hid huu
    have d0 := g1.cell 0 _ rfl
    have hkl : k ≤ 1000 := by omega
    by_cases hki : (k : Int) = i
    · have q1 : ((k : Int) != i) = false := by simpa using hki
      cases k with
      | zero =>
        have HD : Hid (cDrop (l.take (0 + 1)) i = cDrop (l.take 0) i) := by show _ = _; rw [← hki]; exact drop_zero hs
        clear g1 g2 g3 g4 hq hq' hs hqs hx hu' hne huu hsm hls hki
        gi_wp2
        exact ⟨KeepsFrom.refl _ _, u, G1.out, G2.out, by rw [HD.out]; exact G3.out, G4.out⟩
      | succ k =>
        obtain ⟨p, hp⟩ : ∃ p, l[k]? = some p := ⟨_, List.getElem?_eq_getElem (by have := HL.out; omega)⟩
        obtain ⟨hd1, hd2⟩ := drop_here hs hp
        rw [hki] at hd1 hd2
        have HD : Hid (cDrop (l.take (k + 1 + 1)) i = (l.take (k + 1)).set k (joinS p s)) := hd1
        rw [hd2] at g3
        have hltk : (l.take (k + 1)).length = k + 1 := by rw [List.length_take]; have := HL.out; omega
        have G3 := Lib.hid g3
        have hpl := HKL.out.2 p (List.mem_of_getElem? hp)
        obtain ⟨g, gc, qk, hug, hg1, hg2, hgs, hqk, e1, e2, e3⟩ := g3.open (k := k) (s := p) (by rw [List.getElem?_take, if_pos (by omega)]; exact hp)
        rw [hltk] at hug hg1
        have HUG := Lib.hid hug
        have c0 : ∀ z : Ext W, z.1.cell? ⟨B + 1, 0, none⟩ = some (.slice (some ⟨g, 0, none⟩) (k + 1) gc) := fun z => by rw [← hug]; exact (g2.below z.2).cell 0 _ rfl
        have c1 : ∀ z : Ext W, (loadVar 39 ⟨C, 0, none⟩).run Try.prog z.1 = .ok (svV q') z.1 := fun z => load_snC (hx.below z.2)
        have c2 : ∀ z : Ext W, (loadVar 39 ⟨g, k * 3, none⟩).run Try.prog z.1 = .ok (svV qk) z.1 := fun z => load_sn ((z.2.cell (p := ⟨g, k * 3, none⟩) hgs).trans e1) ((z.2.cell (p := ⟨g, k * 3 + 1, none⟩) hgs).trans e2) ((z.2.cell (p := ⟨g, k * 3 + 2, none⟩) hgs).trans e3)
        have HJ := Lib.hid (ch_joined (w := W.drew) (hqk.is.below (Below.refl _ W).drew) (HSI.out.below (Below.refl _ W).drew) (by omega) (by omega) (by omega) (by omega))
        have b1 : (k : Int) < ((k + 1 : Nat) : Int) := by omega
        have b2 : ((k + 1 : Nat) : Int) ≤ (gc : Int) := by omega
        have b3 : (0 : Int) < (k : Int) + 1 := by omega
        have hltk' := Lib.hid hltk
        have hki' : i = (k : Int) + 1 := by omega
        clear g1 g2 g3 g4 hq hq' hs hqs hx hu' hne huu hsm hls hki hp hd1 hd2 hpl hug hg1 hg2 hgs hqk e1 e2 e3 hltk
        gi_wp2
        refine region_plan_round (fun x => ∃ y : Ext W, x = y.1) 11 (.takes [0, 1, 2, 3, 4, 5, 6, 7, 8] (.one 9 (.takes [10] .leaf))) (letsOut_inBlock (letsOut_inBlock letsOut_num)) (by kernel_rfl) hmx (by kernel_rfl) (by intro c x v a w h; exact (h : False).elim) ⟨⟨W.drew, (Below.refl _ W).drew⟩, rfl⟩ ?_
        repeat (rw [wpPlan_takes_cons]; simp only [nth_zero, nth_succ]; go_big_quiet_step (fail); refine wpQuiet_nil ?_)
        clear c0 c1 c2
        rw [wpPlan_takes_nil, wpPlan_one]
        simp only [nth_zero, nth_succ]
        go_wp2_with fail
        go_at_call 38
        refine HJ.out.mono ?_
        rintro e y1 ⟨q2, rfl, hF, hb⟩
        have hb0 : Below W.heap.size W y1 := (Below.refl _ W).drew.trans hb
        have HBel := Lib.hid hb0
        have HF1 := Lib.hid (hF.weak (M := B) (by have := HZ.out; simp; omega))
        have O1 := G3.out.below hb0
        obtain ⟨g', gc', y3, hv', -, -, ST, O3, hg3⟩ := sn_store O1 (k := k) (by rw [hltk'.out]; omega) HF1.out
        rw [HUG.out] at hv'
        obtain rfl : g = g' := by simp only [Value.slice.injEq, Option.some.injEq, Addr.mk.injEq] at hv'; exact hv'.1.1
        have HO1 := Lib.hid O1
        have HO3 := Lib.hid O3
        have HG3 := Lib.hid hg3
        clear hF hb hb0 O1 O3 hg3 hv' HJ
        go_wp2_with fail
        refine planPost_mk ⟨⟨y1, HBel.out⟩, rfl⟩ ?_
        repeat (rw [wpPlan_takes_cons]; simp only [nth_zero, nth_succ]; go_big_quiet_step (fail); refine wpQuiet_nil ?_)
        rw [wpPlan_takes_nil, wpPlan_leaf]
        simp only [List.drop_succ_cons, List.drop_zero]
        go_wp2_with fail
        have hy3 : Below B w y3 := (G4.out.be.trans (HBel.out.mono (by have := HZ.out; omega))).grown HG3.out (by have := HBel.out.size; have := HZ.out; omega) (fun k e => (HO1.out.base k e).1)
        have hsx : SpX B (B + 2) 0 (len : Int) (.slice a len cap) w y3 := (G4.out.below (by have := HZ.out; omega) HBel.out).grownRow (by have := HBel.out.size; have := HZ.out; omega) HO1.out (Nat.le_refl _) HG3.out
        refine ⟨keepsFrom_trans (keepsFrom_below HBel.out) (keepsFrom_sn HO1.out HG3.out), u, (G1.out.below HBel.out).grown HG3.out (HO1.out.ne (G1.out.below HBel.out) (by decide)), (G2.out.below HBel.out).grown HG3.out (HO1.out.ne (G2.out.below HBel.out) (by decide)), ?_, hsx⟩
        rw [HD.out]
        exact HO3.out
    · have q1 : ((k : Int) != i) = true := by simpa using hki
      have HD := Lib.hid (drop_other hs hki)
      have c0 : ∀ z : Kp2 W (B + 1) C, z.1.cell? ⟨B + 1, 0, none⟩ = some (slV u) := fun z => (z.fst g2).cell 0 _ rfl
      have c1 : ∀ z : Kp2 W (B + 1) C, (loadVar 39 ⟨C, 0, none⟩).run Try.prog z.1 = .ok (svV q') z.1 := fun z => load_snC (z.snd hx)
      have HCP := Lib.hid (ch_copied (w := W.drew) (q := q') (s := s) (HSI.out.below (Below.refl _ W).drew) (by omega) (by omega))
      have hlo : (cDrop (l.take k) i).length ≤ 1000 := by have := cDrop_len (l.take k) i; rw [List.length_take] at this; omega
      clear g1 g2 g3 g4 hq hq' hs hqs hx hu' hne huu hsm hls hki
      gi_wp2
      refine region_plan_round (fun x => ∃ y : Kp2 W (B + 1) C, x = y.1) 5 (.takes [0, 1] (.one 2 (.one 3 (.one 4 .leaf)))) (letsOut_inBlock (letsOut_inBlock letsOut_num)) (by kernel_rfl) hmx (by kernel_rfl) (by intro c x v a w h; exact (h : False).elim) ⟨⟨W.drew, rfl, rfl⟩, rfl⟩ ?_
      rw [wpPlan_takes_cons]; simp only [nth_zero, nth_succ]; go_big_quiet_step (fail); refine wpQuiet_nil ?_
      rw [wpPlan_takes_cons]; simp only [nth_zero, nth_succ]; go_big_quiet_step (fail); refine wpQuiet_nil ?_
      clear c0 c1
      rw [wpPlan_takes_nil, wpPlan_one]
      simp only [nth_zero, nth_succ]
      go_wp2_with fail
      go_at_call 37
      refine HCP.out.mono ?_
      rintro e y1 ⟨q2, rfl, hF, hb⟩
      have hb0 : Below W.heap.size W y1 := (Below.refl _ W).drew.trans hb
      have hK1 := Kp2.below (B := B + 1) (C := C) (W := W) (x := W) ⟨rfl, rfl⟩ G2.out.lt HX.out.lt hb0
      have HBel := Lib.hid hb0
      have HF1 := Lib.hid (hF.weak (M := B) (by have := HZ.out; simp; omega))
      have O1 := G3.out.below hb0
      have S1 := slice_sn1 y1 q2
      obtain ⟨v3, y3, hA, O3, hg3⟩ := sn_append O1 (by have := hb0.size; have := HZ.out; omega) HF1.out (by omega)
      obtain ⟨Y2, hY2⟩ : ∃ Y, y1.alloc (.cells (svL q2).toArray 39) = Y := ⟨_, rfl⟩
      have bY2 : Below y1.heap.size y1 Y2 := by rw [← hY2]; exact below_new _ _
      rw [hY2] at S1 hA
      have hK2 := Kp2.below hK1 (by have := G2.out.lt; have := hb0.size; omega) (by have := HX.out.lt; have := hb0.size; omega) bY2
      have hob1 : (slV u).ownBlock ≠ some (B + 1) := O1.ne (G2.out.below hb0) (by decide)
      have hK3 := Kp2.grown hK1 (by have := G2.out.lt; have := hb0.size; omega) (by have := HX.out.lt; have := hb0.size; omega) hg3 hob1 HNE.out
      have HK1 := Lib.hid hK1
      have HK2 := Lib.hid hK2
      have HK3 := Lib.hid hK3
      have HO1 := Lib.hid O1
      have HO3 := Lib.hid O3
      have HG3 := Lib.hid hg3
      have HA := Lib.hid hA
      have HS1 := Lib.hid S1
      have HR3 : Hid (RowC y3 (B + 1) 22 [slV u]) := hK3.1.trans G2.out
      clear hF hb hb0 hK1 O1 S1 O3 hg3 hY2 bY2 hK2 hob1 hK3 hA HCP
      obtain ⟨⟨vx, vn, vc⟩, rfl, -⟩ := HO3.out.isSl
      go_wp2_with fail
      refine planPost_mk ⟨⟨y1, HK1.out⟩, rfl⟩ ?_
      rw [wpPlan_one]
      simp only [nth_zero, nth_succ]
      go_wp2_with (refine gate_build ?_; refine wpList_build_run 22 1 #[(0, .tmp 20)] rfl rfl [(0, svV q2)] _ rfl HS1.out ?_)
      refine planPost_mk ⟨⟨Y2, HK2.out⟩, rfl⟩ ?_
      rw [wpPlan_one]
      simp only [nth_zero, nth_succ]
      go_wp2_with (at_builtin; refine wpList_append_run (.tmp 18) (.tmp 21) 22 rfl rfl _ _ _ rfl rfl (HA.out _) ?_)
      refine planPost_mk ⟨⟨y3, HK3.out⟩, rfl⟩ ?_
      rw [wpPlan_leaf]
      simp only [List.drop_succ_cons, List.drop_zero]
      have f3 := HR3.out.frozen 0
      have d3 := HR3.out.cell 0 _ rfl
      simp only [slV]
      go_wp2_with fail
      have hy3 : Below B w y3 := (G4.out.be.trans (HBel.out.mono (by have := HZ.out; omega))).grown HG3.out (by have := HBel.out.size; have := HZ.out; omega) (fun k e => (HO1.out.base k e).1)
      have hsx : SpX B (B + 2) 0 (len : Int) (.slice a len cap) w y3 := (G4.out.below (by have := HZ.out; omega) HBel.out).grownRow (by have := HBel.out.size; have := HZ.out; omega) HO1.out (Nat.le_refl _) HG3.out
      have hg1 : RowC y3 B 3 [.int .i64 i] := (G1.out.below HBel.out).grown HG3.out (HO1.out.ne (G1.out.below HBel.out) (by decide))
      refine ⟨keepsFrom_trans (keepsFrom_below HBel.out) (keepsFrom_trans (keepsFrom_sn HO1.out HG3.out) (keepsFrom_cells HR3.out (grownBy_setCellJ y3 (B + 1) 0 _))), (vx, vn, vc), set_other hg1 (by omega) 0 _, HR3.out.set 0 _, ?_, hsx.set (by omega) (by omega) 0 _⟩
      rw [HD.out]
      exact HO3.out.setB HR3.out (by decide) (by decide) (by decide) 0 _
  case done =>
    rintro D W hD ⟨u, g1, g2, g3, g4⟩ hK
    have d3 := g2.cell 0 _ rfl
    have G3 := Lib.hid g3
    have G4 := Lib.hid g4
    have HK := Lib.hid hK
    clear g1 g2 g3 g4 hK
    gi_wp2
    refine ⟨by simp, .inl ⟨_, _, rfl, run_takeDeferred HK.out, ?_⟩⟩
    have hg2 := grownBy_putObj' W D (.deferred none)
    refine ⟨_, results_tmp rfl _ _ _, _, rfl, ?_, ?_⟩
    · have := G3.out
      rw [List.take_of_length_le (by rw [HL.out]; exact Nat.le_refl _)] at this
      rw [HSZ.out]
      exact this.own (M := 0) hg2 (fun r e => by cases e; exact ⟨Nat.zero_le _, _, HK.out, rfl⟩)
    · rw [HSZ.out]
      exact G4.out.be.trans (belowK_b (w := w) (by omega) W D _ _ (by have := HW.out; have := HSZ.out; omega) HK.out rfl rfl)
  case stop =>
    rintro D c k W hD _ h hK
    exact h.elim
end Go.Proofs.Ytiidfffedoekiaa
