/- The developers' Holder. -/
import Derived.Test.YtiidfffedoekiaaChBx
import Derived.Test.YtiidfffedoekiaaTbSea
namespace Go.Proofs.Ytiidfffedoekiaa
open Go.RowKit Go.Shelf
set_option linter.unusedVariables false
attribute [-simp] Try.isAgg39 Try.zeroValue39
attribute [-go_sem] loadVar storeVar
attribute [local go_sem] loadVar_openS storeVar_openS zero_sn
attribute [local go_sem] Oper.semAt_some

def hAt (o : Option Int) : Int := o.getD 0
set_option maxRecDepth 100000 in
set_option maxHeartbeats 4000000 in
theorem ch_holder {w : World} {v : Value} {l : List SN} (h : Snp w v l) (hK : Lens 1000 l) (i b : Int) :
    Calls Try.prog 15 #[v, .int .i64 i, .int .i64 b] w fun e w' => e = .returned (.tuple #[.int .i64 (hAt (cHold l i b)), .bool (cHold l i b).isSome]) ∧ Below w.heap.size w w' := by
  obtain ⟨r, h⟩ := h
  have HS := Lib.hid h
  have HKL := Lib.hid hK
  obtain ⟨a, cap, rfl, h1, h2, -⟩ := h
  obtain ⟨len, hle⟩ : ∃ len, l.length = len := ⟨_, rfl⟩
  have HL := Lib.hid hle
  obtain ⟨B, hB⟩ : ∃ B, w.heap.size = B := ⟨_, rfl⟩
  have HSZ := Lib.hid hB
  rw [hle] at HS h1 ⊢
  obtain ⟨X, hX⟩ : ∃ X, ((w.alloc (.cells #[.int .i64 b] 3)).alloc (.cells #[.int .i64 0] 3)).alloc (.cells #[.bool false] 4) = X := ⟨_, rfl⟩
  have hXs : X.heap.size = B + 3 := by rw [← hX, ← hB]; simp
  have hXb : Below B w X := by rw [← hX, ← hB]; exact (((Below.refl _ w).alloc (Nat.le_refl _) _).alloc (by simp) _).alloc (by simp; omega) _
  have k1 : RowC X B 3 [.int .i64 b] := by rw [← hX, ← hB]; exact ((RowC.new w _ _).below (below_new _ _)).below (below_new _ _)
  have k2 : RowC X (B + 1) 3 [.int .i64 0] := by
    rw [← hX, ← hB]
    have := RowC.new (w.alloc (.cells #[.int .i64 b] 3)) 3 [.int .i64 0]
    rw [World.size_alloc] at this
    exact this.below (below_new _ _)
  have k3 : RowC X (B + 2) 4 [.bool false] := by
    rw [← hX, ← hB]
    have := RowC.new ((w.alloc (.cells #[.int .i64 b] 3)).alloc (.cells #[.int .i64 0] 3)) 4 [.bool false]
    simp only [World.size_alloc] at this
    exact this
  by_cases hi : i < 0
  · have q0 : decide (i < 0) = true := by simpa using hi
    have e0 : cHold l i b = none := by unfold cHold; rw [if_pos hi]
    have f2 := k2.frozen 0
    have f3 := k3.frozen 0
    have c2 := k2.cell 0 _ rfl
    have c3 := k3.cell 0 _ rfl
    have s2 : RowC (X.setCell ⟨B + 1, 0, none⟩ (.int .i64 0)) (B + 2) 4 [.bool false] := set_other k3 (by omega) 0 _
    have f4 := s2.frozen 0
    have c4 := s2.cell 0 _ rfl
    have s3 := k2.set 0 (.int .i64 0)
    have R1 : RowC ((X.setCell ⟨B + 1, 0, none⟩ (.int .i64 0)).setCell ⟨B + 2, 0, none⟩ (.bool false)) (B + 1) 3 [.int .i64 0] := set_other s3 (by omega) 0 _
    have R2 : RowC ((X.setCell ⟨B + 1, 0, none⟩ (.int .i64 0)).setCell ⟨B + 2, 0, none⟩ (.bool false)) (B + 2) 4 [.bool false] := s2.set 0 (.bool false)
    have HB2 : Hid (Below B w ((X.setCell ⟨B + 1, 0, none⟩ (.int .i64 0)).setCell ⟨B + 2, 0, none⟩ (.bool false))) := set_below (set_below hXb (by omega) 0 _) (by omega) 0 _
    have L1 := Lib.hid (load_int1 R1)
    have L2 := Lib.hid (load_bool1 R2)
    rw [e0]
    clear k1 k2 k3 hXb s2 s3 R1 R2 h1 h2 e0
    go_enter Try.func15, Try.ntmps15
    go_wp2_with fail
    refine bodyPost_ret (results_two rfl rfl rfl L1.out L2.out) rfl ?_
    rw [HSZ.out]
    exact ⟨rfl, HB2.out⟩
  · have q0 : decide (i < 0) = false := by simpa using hi
    obtain ⟨lo, hlo⟩ : ∃ lo : Nat, i = (lo : Int) := ⟨i.toNat, by omega⟩
    subst hlo
    have e0 : cHold l lo b = firstT (l.drop lo) b := by unfold cHold; rw [if_neg hi]; rfl
    refine (callsIn_wide (n := 3)).1 ?_
    refine callsIn_of_wp_marks Try.func15 rfl trivial ?_ rfl
    simp only [Try.ntmps15, List.size_toArray, List.length_cons, List.length_nil, Nat.reduceAdd, Nat.reduceSub, Array.replicate_succ, Array.replicate_zero, List.push_toArray, List.append_toArray, List.nil_append, List.cons_append]
    have SX := SpX.new (lo : Int) (len : Int) (.slice a len cap) hXb (by omega)
    rw [hXs] at SX
    obtain ⟨W0, hW0⟩ : ∃ W0, ((X.alloc (.cells #[.slice a len cap] 22)).alloc (.cells #[.int .i64 (lo : Int)] 3)).alloc (.cells #[.int .i64 (len : Int)] 3) = W0 := ⟨_, rfl⟩
    have hWs : W0.heap.size = B + 6 := by rw [← hW0]; simp [hXs]
    have bX : Below X.heap.size X W0 := by rw [← hW0]; exact (((Below.refl _ X).alloc (Nat.le_refl _) _).alloc (by simp) _).alloc (by simp; omega) _
    rw [hW0] at SX
    have k4 := k1.below bX
    have k5 := k2.below bX
    have k6 := k3.below bX
    clear k1 k2 k3 bX hXb h1 h2
    gi_wp2_with (refine ⟨trivial, ?_⟩; gi_at_call 36; refine (span_in _ _ trivial rfl _ _ _ _ _ _).mono ?_; rintro e w' ⟨rfl, rfl⟩)
    try rw [hX]
    try rw [hW0]
    try rw [hXs]
    clear hX hW0
    have HW := Lib.hid hWs
    have hseq := span1_seq 2 (by omega) (B + 3 + 1) (B + 3 + 2) (B + 3) (lo : Int) (len : Int) (.slice a len cap) r l W0
    obtain ⟨m, hm⟩ : ∃ m, hiOf l (len : Int) - lo = m := ⟨_, rfl⟩
    rw [show loOf (lo : Int) = lo from rfl, hm] at hseq
    have HIN : Hid (∀ k, k < m → lo + k < l.length) := fun k hk => by have := hiOf_le l (len : Int); omega
    have HEND : Hid (l.length ≤ lo + m) := by rw [← hle, hiOf_all] at hm; show _ ≤ _; omega
    clear hm
    refine wpIn_rangeFunc_num (n := 3) rfl (by omega) (gf := 51) (lb := #[.pointer (some ⟨B + 3 + 1, 0, none⟩), .pointer (some ⟨B + 3 + 2, 0, none⟩), .pointer (some ⟨B + 3, 0, none⟩)]) rfl trivial (enters_of Try.func51 (by kernel_rfl) rfl)
      hseq (Below.refl _ _) (fun _ => rfl)
      (fun k W => RowC W B 3 [.int .i64 b] ∧ RowC W (B + 1) 3 [.int .i64 0] ∧ RowC W (B + 2) 4 [.bool false] ∧ SpX B (B + 3) (lo : Int) (len : Int) (.slice a len cap) w W ∧ cHold l lo b = firstT (l.drop (lo + k)) b)
      (fun c k W => c = .ret ∧ RowC W (B + 1) 3 [.int .i64 (hAt (cHold l lo b))] ∧ RowC W (B + 2) 4 [.bool (cHold l lo b).isSome] ∧ Below B w W)
      ?hR ?hI ?hIx ⟨k4, k5, k6, SX, e0⟩
      (fun k a' W => ∃ C q, B + 5 < C ∧ r[lo + k]? = some q ∧ RowC W C 39 (svL q) ∧ a' = { tmps := #[.slice a len cap, .int .i64 (lo : Int), .int .i64 b, undef, undef, .pointer (some ⟨B, 0, none⟩), .pointer (some ⟨B + 1, 0, none⟩), .pointer (some ⟨B + 2, 0, none⟩), undef, .pointer (some ⟨C, 0, none⟩), undef, undef, .int .i64 (lo : Int), .bool false, .slice a len cap, .int .i64 (lo : Int), .slice a len cap, .int .i64 (len : Int), .func (.func 51) #[] #[.pointer (some ⟨B + 3 + 1, 0, none⟩), .pointer (some ⟨B + 3 + 2, 0, none⟩), .pointer (some ⟨B + 3, 0, none⟩)], .int .i64 ((lo + k : Nat) : Int), svV q, undef, undef, undef, undef, undef, undef, undef, undef, undef], defers := [] })
      ?hAx ?assign ?body ?done ?stop
    case hR =>
      intro k W ⟨_, _, _, h3, _⟩
      exact h3.spb HSZ.out HS.out
    case hI =>
      intro s Y Z row ⟨g1, g2, g3, g4, g5⟩ hg hr
      exact ⟨rowC_own g1 hg hr, rowC_own g2 hg hr, rowC_own g3 hg hr, g4.own (by omega) hg (by omega) hr, g5⟩
    case hIx =>
      intro c s Y Z row ⟨g1, g2, g3, g4⟩ hg hr
      exact ⟨g1, rowC_own g2 hg hr, rowC_own g3 hg hr, below_own g4 (by omega) hg (fun r e => ⟨by have := (hr r e).1; omega, (hr r e).2⟩)⟩
    case hAx =>
      rintro k a' _ Y Z row ⟨C, q, f1, f2, f3, f4⟩ hg hr
      exact ⟨C, q, f1, f2, rowC_own f3 hg hr, f4⟩
    case assign =>
      rintro lp k W K hkm ⟨g1, g2, g3, g4, g5⟩ hK
      obtain ⟨q, s, hq, hs, -⟩ := snR_at HS.out (k := lo + k) (HIN.out k hkm)
      have ST := new_sn W q
      have HZ : Hid (B + 5 < W.heap.size) := g4.bj.lt
      have hK := hK _ _ (keepsFrom_below (below_new W (.cells (svL q).toArray 39))) ⟨g1.below (below_new W _), g2.below (below_new W _), g3.below (below_new W _), g4.alloc (by have := HZ.out; omega) _, g5⟩ ⟨W.heap.size, q, HZ.out, hq, RowC.new W _ _, rfl⟩
      rw [encS_at lo hq]
      clear g1 g2 g3 g4 hq hs
      gi_wp2
      exact hK
    case body =>
      rintro lp k a' W _ _ hkm ⟨g1, g2, g3, g4, g5⟩ ⟨C, q, hC, hq, hx, rfl⟩
      obtain ⟨q', s, hq', hs, hqs⟩ := snR_at HS.out (k := lo + k) (HIN.out k hkm)
      obtain rfl : q' = q := by rw [hq] at hq'; cases hq'; rfl
      have e1 := firstT_at (b := b) hs
      have hsm := List.mem_of_getElem? hs
      have d1 := hx.cell 2 _ rfl
      have d2 := g1.cell 0 _ rfl
      have HF := Lib.hid (tb_find (hqs.tb.below (by rw [HSZ.out]; exact g4.be)) b (by have := (HKL.out.2 s hsm).2; omega))
      have G1 := Lib.hid g1
      have G2 := Lib.hid g2
      have G3 := Lib.hid g3
      have G4 := Lib.hid g4
      have HZ : Hid (B + 5 < W.heap.size) := g4.bj.lt
      obtain ⟨T, hT⟩ : ∃ T, s.tb = T := ⟨_, rfl⟩
      rw [hT] at HF e1
      cases hc : (tFind T b).isSome with
      | true =>
        rw [hc] at HF e1
        rw [if_pos rfl] at e1
        have E1 : Hid (cHold l lo b = some (tAt T b)) := g5.trans e1
        clear hc hqs hs hq hq' e1 g1 g2 g3 g4 g5 hx hsm hT
        gi_step
        gi_step
        gi_step
        refine region_seq_roundC (letsOut_thenC (letsOut_inBlock letsOut_num)) (by kernel_rfl) ?_
        go_wp2_with fail
        refine HF.out.mono ?_
        rintro e y ⟨rfl, hb⟩
        have p2 := G2.out.below hb
        have p3 := G3.out.below hb
        have f2 := p2.frozen 0
        have c2 := p2.cell 0 _ rfl
        have s2 : RowC (y.setCell ⟨B + 1, 0, none⟩ (.int .i64 (tAt T b))) (B + 2) 4 [.bool false] := set_other p3 (by omega) 0 _
        have f4 := s2.frozen 0
        have c4 := s2.cell 0 _ rfl
        have R1 : Hid (RowC ((y.setCell ⟨B + 1, 0, none⟩ (.int .i64 (tAt T b))).setCell ⟨B + 2, 0, none⟩ (.bool true)) (B + 1) 3 [.int .i64 (tAt T b)]) := set_other (p2.set 0 _) (by omega) 0 _
        have R2 : Hid (RowC ((y.setCell ⟨B + 1, 0, none⟩ (.int .i64 (tAt T b))).setCell ⟨B + 2, 0, none⟩ (.bool true)) (B + 2) 4 [.bool true]) := s2.set 0 _
        have HKF : Hid (KeepsFrom W0.heap.size W ((y.setCell ⟨B + 1, 0, none⟩ (.int .i64 (tAt T b))).setCell ⟨B + 2, 0, none⟩ (.bool true))) := keepsFrom_trans (keepsFrom_below hb) (keepsFrom_trans (keepsFrom_cells p2 (grownBy_setCellJ y (B + 1) 0 _)) (keepsFrom_cells s2 (grownBy_setCellJ _ (B + 2) 0 _)))
        have HB2 : Hid (Below B w ((y.setCell ⟨B + 1, 0, none⟩ (.int .i64 (tAt T b))).setCell ⟨B + 2, 0, none⟩ (.bool true))) := set_below (set_below (G4.out.be.trans (hb.mono (by have := HZ.out; omega))) (by omega) 0 _) (by omega) 0 _
        clear hb p2 p3 s2
        go_wp2_with fail
        gi_wp2
        refine ⟨HKF.out, rfl, ?_, ?_, HB2.out⟩
        · rw [E1.out]; exact R1.out
        · rw [E1.out]; exact R2.out
      | false =>
        rw [hc] at HF e1
        rw [if_neg (by decide)] at e1
        have E1 := Lib.hid (g5.trans e1)
        clear hc hqs hs hq hq' e1 g1 g2 g3 g4 g5 hx hsm hT
        gi_step
        gi_step
        gi_step
        refine region_seq_roundC (letsOut_thenC (letsOut_inBlock letsOut_num)) (by kernel_rfl) ?_
        go_wp2_with fail
        refine HF.out.mono ?_
        rintro e y ⟨rfl, hb⟩
        have HB := Lib.hid hb
        clear hb
        go_wp2_with fail
        gi_wp2
        exact ⟨keepsFrom_below HB.out, G1.out.below HB.out, G2.out.below HB.out, G3.out.below HB.out, G4.out.below (by have := HZ.out; omega) HB.out, E1.out⟩
    case done =>
      rintro D W hD ⟨g1, g2, g3, g4, g5⟩ hK
      have E1 : Hid (cHold l lo b = none) := g5.trans (firstT_end HEND.out)
      have f2 := g2.frozen 0
      have c2 := g2.cell 0 _ rfl
      have s2 : RowC (W.setCell ⟨B + 1, 0, none⟩ (.int .i64 0)) (B + 2) 4 [.bool false] := set_other g3 (by omega) 0 _
      have f4 := s2.frozen 0
      have c4 := s2.cell 0 _ rfl
      have R1 : Hid (RowC ((W.setCell ⟨B + 1, 0, none⟩ (.int .i64 0)).setCell ⟨B + 2, 0, none⟩ (.bool false)) (B + 1) 3 [.int .i64 0]) := set_other (g2.set 0 _) (by omega) 0 _
      have R2 : Hid (RowC ((W.setCell ⟨B + 1, 0, none⟩ (.int .i64 0)).setCell ⟨B + 2, 0, none⟩ (.bool false)) (B + 2) 4 [.bool false]) := s2.set 0 _
      have HKF : Hid (KeepsFrom 0 W ((W.setCell ⟨B + 1, 0, none⟩ (.int .i64 0)).setCell ⟨B + 2, 0, none⟩ (.bool false))) := keepsFrom_trans (keepsFrom_cells g2 (grownBy_setCellJ W (B + 1) 0 _)) (keepsFrom_cells s2 (grownBy_setCellJ _ (B + 2) 0 _))
      have G4 := Lib.hid g4
      have HK := Lib.hid hK
      clear g1 g2 g3 g4 g5 hK s2
      gi_wp2
      have hK2 := HKF.out.same D _ (Nat.zero_le _) HK.out rfl
      refine ⟨by simp, .inl ⟨_, _, rfl, run_takeDeferred hK2, ?_⟩⟩
      have hg2 := grownBy_putObj' ((W.setCell ⟨B + 1, 0, none⟩ (.int .i64 0)).setCell ⟨B + 2, 0, none⟩ (.bool false)) D (.deferred none)
      have hy1 := rowC_own (N := 0) R1.out hg2 (fun r e => by cases e; exact ⟨Nat.zero_le _, _, hK2, rfl⟩)
      have hy2 := rowC_own (N := 0) R2.out hg2 (fun r e => by cases e; exact ⟨Nat.zero_le _, _, hK2, rfl⟩)
      refine ⟨_, results_two rfl rfl rfl (load_int1 hy1) (load_bool1 hy2), by rw [E1.out]; rfl, ?_⟩
      rw [HSZ.out]
      exact (set_below (set_below G4.out.be (by omega) 0 _) (by omega) 0 _).trans (belowK_b (w := w) (by omega) _ D _ _ (by have := HW.out; have := HSZ.out; omega) hK2 rfl rfl)
    case stop =>
      rintro D c k W hD _ ⟨rfl, g2, g3, g4⟩ hK
      have G2 := Lib.hid g2
      have G3 := Lib.hid g3
      have G4 := Lib.hid g4
      have HK := Lib.hid hK
      clear g2 g3 g4 hK
      gi_wp2
      refine ⟨by simp, .inl ⟨_, _, rfl, run_takeDeferred HK.out, ?_⟩⟩
      have hg2 := grownBy_putObj' W D (.deferred none)
      have hy1 := rowC_own (N := 0) G2.out hg2 (fun r e => by cases e; exact ⟨Nat.zero_le _, _, HK.out, rfl⟩)
      have hy2 := rowC_own (N := 0) G3.out hg2 (fun r e => by cases e; exact ⟨Nat.zero_le _, _, HK.out, rfl⟩)
      refine ⟨_, results_two rfl rfl rfl (load_int1 hy1) (load_bool1 hy2), rfl, ?_⟩
      rw [HSZ.out]
      exact G4.out.trans (belowK_b (w := w) (by omega) W D _ _ (by have := HW.out; have := HSZ.out; omega) HK.out rfl rfl)
end Go.Proofs.Ytiidfffedoekiaa
