/- The developers' Index. -/
import Derived.Test.YtiidfffedoekiaaChBx
namespace Go.Proofs.Ytiidfffedoekiaa
open Go.RowKit Go.Shelf
set_option linter.unusedVariables false
attribute [-simp] Try.isAgg39 Try.zeroValue39
attribute [-go_sem] loadVar storeVar
attribute [local go_sem] loadVar_openS storeVar_openS zero_sn
attribute [local go_sem] Oper.semAt_some

set_option maxRecDepth 100000 in
set_option maxHeartbeats 4000000 in
theorem ch_index {w : World} {v : Value} {l : List SN} (h : Snp w v l) (id : Int) :
    Calls Try.prog 34 #[v, .int .i64 id] w fun e w' => e = .returned (.int .i64 (cIndex l id)) ∧ Below w.heap.size w w' := by
  obtain ⟨r, h⟩ := h
  have HS := Lib.hid h
  obtain ⟨a, cap, rfl, h1, h2, -⟩ := h
  obtain ⟨len, hle⟩ : ∃ len, l.length = len := ⟨_, rfl⟩
  have HL := Lib.hid hle
  obtain ⟨B, hB⟩ : ∃ B, w.heap.size = B := ⟨_, rfl⟩
  have HSZ := Lib.hid hB
  rw [hle] at HS h1 ⊢
  refine (callsIn_wide (n := 3)).1 ?_
  refine callsIn_of_wp_marks Try.func34 rfl trivial ?_ rfl
  simp only [Try.ntmps34, List.size_toArray, List.length_cons, List.length_nil, Nat.reduceAdd, Nat.reduceSub, Array.replicate_succ, Array.replicate_zero, List.push_toArray, List.append_toArray, List.nil_append, List.cons_append]
  obtain ⟨X, hX⟩ : ∃ X, (w.alloc (.cells #[.int .i64 id] 3)).alloc (.cells #[.int .i64 0] 3) = X := ⟨_, rfl⟩
  have hXs : X.heap.size = B + 2 := by rw [← hX, ← hB]; simp
  have hXb : Below B w X := by rw [← hX, ← hB]; exact ((Below.refl _ w).alloc (Nat.le_refl _) _).alloc (by simp) _
  have k1 : RowC X B 3 [.int .i64 id] := by rw [← hX, ← hB]; exact (RowC.new w _ _).below (below_new _ _)
  have k2 : RowC X (B + 1) 3 [.int .i64 0] := by
    rw [← hX, ← hB]
    have := RowC.new (w.alloc (.cells #[.int .i64 id] 3)) 3 [.int .i64 0]
    rwa [World.size_alloc] at this
  have SX := SpX.new 0 (len : Int) (.slice a len cap) hXb (by omega)
  rw [hXs] at SX
  obtain ⟨W0, hW0⟩ : ∃ W0, ((X.alloc (.cells #[.slice a len cap] 22)).alloc (.cells #[.int .i64 0] 3)).alloc (.cells #[.int .i64 (len : Int)] 3) = W0 := ⟨_, rfl⟩
  have hWs : W0.heap.size = B + 5 := by rw [← hW0]; simp [hXs]
  have bX : Below X.heap.size X W0 := by rw [← hW0]; exact (((Below.refl _ X).alloc (Nat.le_refl _) _).alloc (by simp) _).alloc (by simp; omega) _
  rw [hW0] at SX
  have k3 := k1.below bX
  have k4 := k2.below bX
  clear k1 k2 bX hXb h1 h2
  gi_wp2_with (refine ⟨trivial, ?_⟩; gi_at_call 36; refine (span_in _ _ trivial rfl _ _ _ _ _ _).mono ?_; rintro e w' ⟨rfl, rfl⟩)
  try rw [hX]
  try rw [hW0]
  try rw [hXs]
  clear hX hW0
  have HW := Lib.hid hWs
  have hm : hiOf l (len : Int) - loOf 0 = len := by rw [← hle, hiOf_all, loOf_zero]; rfl
  have hseq := span1_seq 2 (by omega) (B + 2 + 1) (B + 2 + 2) (B + 2) 0 (len : Int) (.slice a len cap) r l W0
  rw [hm, loOf_zero] at hseq
  refine wpIn_rangeFunc_num (n := 3) rfl (by omega) (gf := 51) (lb := #[.pointer (some ⟨B + 2 + 1, 0, none⟩), .pointer (some ⟨B + 2 + 2, 0, none⟩), .pointer (some ⟨B + 2, 0, none⟩)]) rfl trivial (enters_of Try.func51 (by kernel_rfl) rfl)
    hseq (Below.refl _ _) (fun _ => rfl)
    (fun k W => RowC W B 3 [.int .i64 id] ∧ RowC W (B + 1) 3 [.int .i64 0] ∧ SpX B (B + 2) 0 (len : Int) (.slice a len cap) w W ∧ cIndex l id = firstId (l.drop k) id k)
    (fun c k W => c = .ret ∧ RowC W (B + 1) 3 [.int .i64 (cIndex l id)] ∧ Below B w W)
    ?hR ?hI ?hIx ⟨k3, k4, SX, rfl⟩
    (fun k a' W => ∃ C q, B + 4 < C ∧ r[k]? = some q ∧ RowC W C 39 (svL q) ∧ a' = { tmps := #[.slice a len cap, .int .i64 id, undef, .pointer (some ⟨B, 0, none⟩), .pointer (some ⟨B + 1, 0, none⟩), .int .i64 (k : Int), .pointer (some ⟨C, 0, none⟩), .slice a len cap, .slice a len cap, .int .i64 (len : Int), .func (.func 51) #[] #[.pointer (some ⟨B + 2 + 1, 0, none⟩), .pointer (some ⟨B + 2 + 2, 0, none⟩), .pointer (some ⟨B + 2, 0, none⟩)], .int .i64 (k : Int), svV q, undef, undef, undef, undef, undef], defers := [] })
    ?hAx ?assign ?body ?done ?stop
  case hR =>
    intro k W ⟨_, _, h3, _⟩
    exact h3.spb HSZ.out HS.out
  case hI =>
    intro s Y Z row ⟨g1, g2, g3, g4⟩ hg hr
    exact ⟨rowC_own g1 hg hr, rowC_own g2 hg hr, g3.own (by omega) hg (by omega) hr, g4⟩
  case hIx =>
    intro c s Y Z row ⟨g1, g2, g3⟩ hg hr
    exact ⟨g1, rowC_own g2 hg hr, below_own g3 (by omega) hg (fun r e => ⟨by have := (hr r e).1; omega, (hr r e).2⟩)⟩
  case hAx =>
    rintro k a' _ Y Z row ⟨C, q, f1, f2, f3, f4⟩ hg hr
    exact ⟨C, q, f1, f2, rowC_own f3 hg hr, f4⟩
  case assign =>
    rintro lp k W K hkm ⟨g1, g2, g3, g4⟩ hK
    obtain ⟨q, s, hq, hs, -⟩ := snR_at HS.out (k := k) (by rw [HL.out]; exact hkm)
    have ST := new_sn W q
    have HZ : Hid (B + 4 < W.heap.size) := g3.bj.lt
    have hK := hK _ _ (keepsFrom_below (below_new W (.cells (svL q).toArray 39))) ⟨g1.below (below_new W _), g2.below (below_new W _), g3.alloc (by have := HZ.out; omega) _, g4⟩ ⟨W.heap.size, q, HZ.out, hq, RowC.new W _ _, rfl⟩
    rw [encS_at 0 (by rw [Nat.zero_add]; exact hq), Nat.zero_add]
    clear g1 g2 g3 g4 hq hs
    gi_wp2
    exact hK
  case body =>
    rintro lp k a' W _ _ hkm ⟨g1, g2, g3, g4⟩ ⟨C, q, hC, hq, hx, rfl⟩
    obtain ⟨q', s, hq', hs, hqs⟩ := snR_at HS.out (k := k) (by rw [HL.out]; exact hkm)
    obtain rfl : q' = q := by rw [hq] at hq'; cases hq'; rfl
    have e1 := firstId_at (id := id) hs
    have d1 := hx.cell 0 _ rfl
    have d2 := g1.cell 0 _ rfl
    have f2 := g2.frozen 0
    have d3 := g2.cell 0 _ rfl
    have hid := hqs.id
    have G2 := Lib.hid g2
    have HKF : Hid (∀ u, KeepsFrom W0.heap.size W (W.setCell ⟨B + 1, 0, none⟩ u)) := fun u => keepsFrom_cells g2 (grownBy_setCellJ W (B + 1) 0 u)
    have G1 := Lib.hid g1
    have G3 := Lib.hid g3
    by_cases hc : s.id = id
    · rw [if_pos hc] at e1
      have q1 : (q'.1 == id) = true := by rw [hid]; simpa using hc
      have E1 : Hid (cIndex l id = (k : Int)) := g4.trans e1
      clear hc hid hqs hs hq hq' e1 g1 g2 g3 g4 hx
      gi_wp2
      refine ⟨HKF.out _, rfl, ?_, set_below G3.out.be (by omega) _ _⟩
      rw [E1.out]
      exact G2.out.set 0 _
    · rw [if_neg hc] at e1
      have q1 : (q'.1 == id) = false := by rw [hid]; simpa using hc
      have E1 := Lib.hid (g4.trans e1)
      clear hc hid hqs hs hq hq' e1 g1 g2 g3 g4 hx
      gi_wp2
      exact ⟨KeepsFrom.refl _ _, G1.out, G2.out, G3.out, E1.out⟩
  case done =>
    rintro D W hD ⟨g1, g2, g3, g4⟩ hK
    have E1 : Hid (cIndex l id = -1) := g4.trans (firstId_end (by rw [HL.out]; exact Nat.le_refl _))
    have d3 := g2.cell 0 _ rfl
    have f2 := g2.frozen 0
    have G2 := Lib.hid g2
    have G3 := Lib.hid g3
    have HK := Lib.hid hK
    have HKF : Hid (KeepsFrom 0 W (W.setCell ⟨B + 1, 0, none⟩ (.int .i64 (-1)))) := keepsFrom_cells g2 (grownBy_setCellJ W (B + 1) 0 _)
    clear g1 g2 g3 g4 hK
    gi_wp2
    have hK2 := HKF.out.same D _ (Nat.zero_le _) HK.out rfl
    refine ⟨by simp, .inl ⟨_, _, rfl, run_takeDeferred hK2, ?_⟩⟩
    have hg2 := grownBy_putObj' (W.setCell ⟨B + 1, 0, none⟩ (.int .i64 (-1))) D (.deferred none)
    have hy2 : RowC _ (B + 1) 3 [.int .i64 (-1)] := rowC_own (N := 0) (G2.out.set 0 (.int .i64 (-1))) hg2 (fun r e => by cases e; exact ⟨Nat.zero_le _, _, hK2, rfl⟩)
    refine ⟨_, results_cell rfl rfl (load_int1 hy2), by rw [E1.out], ?_⟩
    rw [HSZ.out]
    exact (set_below G3.out.be (by omega) 0 _).trans (belowK_b (w := w) (by omega) _ D _ _ (by have := HW.out; have := HSZ.out; omega) hK2 rfl rfl)
  case stop =>
    rintro D c k W hD _ ⟨rfl, g2, g3⟩ hK
    have G2 := Lib.hid g2
    have G3 := Lib.hid g3
    have HK := Lib.hid hK
    clear g2 g3 hK
    gi_wp2
    refine ⟨by simp, .inl ⟨_, _, rfl, run_takeDeferred HK.out, ?_⟩⟩
    have hg2 := grownBy_putObj' W D (.deferred none)
    have hy2 := rowC_own (N := 0) G2.out hg2 (fun r e => by cases e; exact ⟨Nat.zero_le _, _, HK.out, rfl⟩)
    refine ⟨_, results_cell rfl rfl (load_int1 hy2), rfl, ?_⟩
    rw [HSZ.out]
    exact G3.out.trans (belowK_b (w := w) (by omega) W D _ _ (by have := HW.out; have := HSZ.out; omega) HK.out rfl rfl)
end Go.Proofs.Ytiidfffedoekiaa
