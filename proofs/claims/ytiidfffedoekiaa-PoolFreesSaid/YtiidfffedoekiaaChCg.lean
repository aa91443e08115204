/- The developers' Changed. -/
import Derived.Test.YtiidfffedoekiaaChBx
namespace Go.Proofs.Ytiidfffedoekiaa
open Go.RowKit Go.Shelf
set_option linter.unusedVariables false
attribute [-simp] Try.isAgg39 Try.zeroValue39
attribute [-go_sem] loadVar storeVar
attribute [local go_sem] loadVar_openS storeVar_openS zero_sn
attribute [local go_sem] Oper.semAt_some

theorem chg_step {l : List SN} {lo k : Nat} {s : SN} (h : l[lo + k]? = some s) : chB ((l.take (lo + (k + 1))).drop lo) = orB (chB ((l.take (lo + k)).drop lo)) s.ch := by
  rw [show lo + (k + 1) = lo + k + 1 by omega, take_at h, List.drop_append_of_le_length (by have := (List.getElem?_eq_some_iff.1 h).1; rw [List.length_take]; omega), chB_snoc]
theorem chg_zero {l : List SN} {lo : Nat} : chB ((l.take (lo + 0)).drop lo) = [] := by
  rw [List.drop_of_length_le (by rw [List.length_take]; omega)]; rfl
theorem chg_end {l : List SN} {i j : Int} : chB ((l.take (loOf i + (hiOf l j - loOf i))).drop (loOf i)) = cChg l i j := by
  unfold cChg
  by_cases h : loOf i ≤ hiOf l j
  · rw [show loOf i + (hiOf l j - loOf i) = hiOf l j by omega]
  · rw [List.drop_of_length_le (by rw [List.length_take]; omega), List.drop_of_length_le (by rw [List.length_take]; omega)]
theorem chg_ok {l : List SN} (hl : ∀ s ∈ l, s.Ok) (m lo : Nat) : IsBytes (chB ((l.take m).drop lo)) := chB_bytes _ fun s hs => (hl s (List.mem_of_mem_take (List.mem_of_mem_drop hs))).ch
theorem chg_len {l : List SN} {K : Nat} (hl : Lens K l) (m lo : Nat) : (chB ((l.take m).drop lo)).length ≤ K := chB_len _ fun s hs => (hl.2 s (List.mem_of_mem_take (List.mem_of_mem_drop hs))).1

set_option maxRecDepth 100000 in
set_option maxHeartbeats 4000000 in
theorem ch_changed {w : World} {v : Value} {l : List SN} (h : Snp w v l) (hK : Lens 1000 l) (i j : Int) :
    Calls Try.prog 17 #[v, .int .i64 i, .int .i64 j] w fun e w' => ∃ u, e = .returned u ∧ w'.ownsRow w.heap.size 5 1 u (cChg l i j).length ((cChg l i j).map (Value.int .u8)) ∧ Below w.heap.size w w' := by
  obtain ⟨r, h⟩ := h
  have HS := Lib.hid h
  have HO := Lib.hid h.ok
  have HKL := Lib.hid hK
  obtain ⟨a, cap, rfl, h1, h2, -⟩ := h
  obtain ⟨len, hle⟩ : ∃ len, l.length = len := ⟨_, rfl⟩
  have HL := Lib.hid hle
  obtain ⟨B, hB⟩ : ∃ B, w.heap.size = B := ⟨_, rfl⟩
  have HSZ := Lib.hid hB
  rw [hle] at HS h1 ⊢
  refine (callsIn_wide (n := 3)).1 ?_
  refine callsIn_of_wp_marks Try.func17 rfl trivial ?_ rfl
  simp only [Try.ntmps17, List.size_toArray, List.length_cons, List.length_nil, Nat.reduceAdd, Nat.reduceSub, Array.replicate_succ, Array.replicate_zero, List.push_toArray, List.append_toArray, List.nil_append, List.cons_append]
  obtain ⟨X, hX⟩ : ∃ X, w.alloc (.cells #[.slice none 0 0] 31) = X := ⟨_, rfl⟩
  have hXs : X.heap.size = B + 1 := by rw [← hX, ← hB]; simp
  have hXb : Below B w X := by rw [← hX, ← hB]; exact (Below.refl _ w).alloc (Nat.le_refl _) _
  have k1 : RowC X B 31 [slV (none, 0, 0)] := by rw [← hX, ← hB]; exact RowC.new w _ _
  have SX := SpX.new i j (.slice a len cap) hXb (by omega)
  rw [hXs] at SX
  obtain ⟨W0, hW0⟩ : ∃ W0, ((X.alloc (.cells #[.slice a len cap] 22)).alloc (.cells #[.int .i64 i] 3)).alloc (.cells #[.int .i64 j] 3) = W0 := ⟨_, rfl⟩
  have hWs : W0.heap.size = B + 4 := by rw [← hW0]; simp [hXs]
  have bX : Below X.heap.size X W0 := by rw [← hW0]; exact (((Below.refl _ X).alloc (Nat.le_refl _) _).alloc (by simp) _).alloc (by simp; omega) _
  rw [hW0] at SX
  have k3 := k1.below bX
  clear k1 bX hXb h1 h2
  gi_wp2_with (refine ⟨trivial, ?_⟩; gi_at_call 36; refine (span_in _ _ trivial rfl _ _ _ _ _ _).mono ?_; rintro e w' ⟨rfl, rfl⟩)
  try rw [hX]
  try rw [hW0]
  try rw [hXs]
  clear hX hW0
  have HW := Lib.hid hWs
  have hseq := span1_seq 2 (by omega) (B + 1 + 1) (B + 1 + 2) (B + 1) i j (.slice a len cap) r l W0
  obtain ⟨lo, hlo⟩ : ∃ lo, loOf i = lo := ⟨_, rfl⟩
  obtain ⟨m, hm⟩ : ∃ m, hiOf l j - loOf i = m := ⟨_, rfl⟩
  have HEND : Hid (chB ((l.take (lo + m)).drop lo) = cChg l i j) := by show _ = _; rw [← hlo, ← hm]; exact chg_end
  have HIN : Hid (∀ k, k < m → lo + k < l.length) := fun k hk => by have := hiOf_le l j; omega
  rw [hm, hlo] at hseq
  clear hlo hm
  refine wpIn_rangeFunc_num (n := 3) rfl (by omega) (gf := 51) (lb := #[.pointer (some ⟨B + 1 + 1, 0, none⟩), .pointer (some ⟨B + 1 + 2, 0, none⟩), .pointer (some ⟨B + 1, 0, none⟩)]) rfl trivial (enters_of Try.func51 (by kernel_rfl) rfl)
    hseq (Below.refl _ _) (fun _ => rfl)
    (fun k W => ∃ u : SlV, RowC W B 31 [slV u] ∧ W.ownsRow B 5 1 (slV u) (chB ((l.take (lo + k)).drop lo)).length ((chB ((l.take (lo + k)).drop lo)).map (Value.int .u8)) ∧ SpX B (B + 1) i j (.slice a len cap) w W)
    (fun c k W => False)
    ?hR ?hI (fun c s Y Z row h => h.elim) ⟨_, k3, by rw [chg_zero]; exact World.ownsRow_nil _ _ _ _, SX⟩
    (fun k a' W => ∃ C q, B + 3 < C ∧ r[lo + k]? = some q ∧ RowC W C 39 (svL q) ∧ a' = { tmps := #[.slice a len cap, .int .i64 i, .int .i64 j, undef, undef, undef, .slice none 0 0, .pointer (some ⟨B, 0, none⟩), undef, .pointer (some ⟨C, 0, none⟩), .slice a len cap, .int .i64 i, .int .i64 j, .func (.func 51) #[] #[.pointer (some ⟨B + 1 + 1, 0, none⟩), .pointer (some ⟨B + 1 + 2, 0, none⟩), .pointer (some ⟨B + 1, 0, none⟩)], .int .i64 ((lo + k : Nat) : Int), svV q, undef, undef, undef, undef, undef], defers := [] })
    ?hAx ?assign ?body ?done ?stop
  case hR =>
    rintro k W ⟨u, _, _, h3⟩
    exact h3.spb HSZ.out HS.out
  case hI =>
    intro s Y Z row ⟨u, g1, g2, g3⟩ hg hr
    exact ⟨u, rowC_own g1 hg hr, row_own g2 hg hr, g3.own (by omega) hg (by omega) hr⟩
  case hAx =>
    rintro k a' _ Y Z row ⟨C, q, f1, f2, f3, f4⟩ hg hr
    exact ⟨C, q, f1, f2, rowC_own f3 hg hr, f4⟩
  case assign =>
    rintro lp k W K hkm ⟨u, g1, g2, g3⟩ hK
    obtain ⟨q, s, hq, hs, -⟩ := snR_at HS.out (k := lo + k) (HIN.out k hkm)
    have ST := new_sn W q
    have HZ : Hid (B + 3 < W.heap.size) := g3.bj.lt
    have hK := hK _ _ (keepsFrom_below (below_new W (.cells (svL q).toArray 39))) ⟨u, g1.below (below_new W _), own_belowT g2 (below_new W _), g3.alloc (by have := HZ.out; omega) _⟩ ⟨W.heap.size, q, HZ.out, hq, RowC.new W _ _, rfl⟩
    rw [encS_at lo hq]
    clear g1 g2 g3 hq hs
    gi_wp2
    exact hK
  case body =>
    rintro lp k a' W _ _ hkm ⟨u, g1, g2, g3⟩ ⟨C, q, hC, hq, hx, rfl⟩
    obtain ⟨q', s, hq', hs, hqs⟩ := snR_at HS.out (k := lo + k) (HIN.out k hkm)
    obtain rfl : q' = q := by rw [hq] at hq'; cases hq'; rfl
    have d1 := hx.cell 1 _ rfl
    have d2 := g1.cell 0 _ rfl
    have hsm := List.mem_of_getElem? hs
    have HOR := Lib.hid (bi_orO (slV u) (slV q'.2.1) _ _ W (Sl.of_owns g2) (hqs.ch.below (by rw [HSZ.out]; exact g3.be)) (chg_ok HO.out _ _) (HO.out s hsm).ch (by have := chg_len HKL.out (lo + k) lo; omega) (by have := (HKL.out.2 s hsm).1; omega))
    have HST := Lib.hid (chg_step hs)
    have HZ : Hid (B + 3 < W.heap.size) := g3.bj.lt
    have G1 := Lib.hid g1
    have G3 := Lib.hid g3
    clear hqs hs hq hq' g1 g2 g3 hx hsm
    gi_step
    gi_step
    refine region_seq_roundC (letsOut_inBlock letsOut_num) (by kernel_rfl) ?_
    go_wp2_with fail
    go_at_call 16
    refine HOR.out.mono ?_
    rintro e y ⟨v', rfl, ho, hb⟩
    obtain ⟨⟨xx, nn, cc⟩, rfl, -⟩ := own_slV ho
    change y.ownsRow _ _ _ (.slice xx nn cc) _ _ at ho
    show _
    simp only [slV]
    have hg1 := G1.out.below hb
    have hf := hg1.frozen 0
    have d3 := hg1.cell 0 _ rfl
    have HO' := Lib.hid ho
    have HG1 := Lib.hid hg1
    have HBB := Lib.hid hb
    clear ho hb hg1 HOR
    go_wp2_with fail
    refine ⟨keepsFrom_trans (keepsFrom_below HBB.out) (keepsFrom_cells HG1.out (grownBy_setCellJ y B 0 _)), (xx, nn, cc), HG1.out.set 0 _, ?_, (G3.out.below (by have := HZ.out; omega) HBB.out).set (Nat.le_refl _) (by omega) 0 _⟩
    rw [HST.out]
    exact own_weak (own_setB HO'.out HG1.out (by decide) 0 _) (by have := HZ.out; omega)
  case done =>
    rintro D W hD ⟨u, g1, g2, g3⟩ hK
    have d3 := g1.cell 0 _ rfl
    have G2 := Lib.hid g2
    have G3 := Lib.hid g3
    have HK := Lib.hid hK
    clear g1 g2 g3 hK
    gi_wp2
    refine ⟨by simp, .inl ⟨_, _, rfl, run_takeDeferred HK.out, ?_⟩⟩
    have hg2 := grownBy_putObj' W D (.deferred none)
    refine ⟨_, results_tmp rfl _ _ _, _, rfl, ?_, ?_⟩
    · rw [← HEND.out, HSZ.out]
      exact row_own (M := 0) G2.out hg2 (fun r e => by cases e; exact ⟨Nat.zero_le _, _, HK.out, rfl⟩)
    · rw [HSZ.out]
      exact G3.out.be.trans (belowK_b (w := w) (by omega) W D _ _ (by have := HW.out; have := HSZ.out; omega) HK.out rfl rfl)
  case stop =>
    rintro D c k W hD _ h hK
    exact h.elim
end Go.Proofs.Ytiidfffedoekiaa
