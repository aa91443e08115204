/- The ground of the proofs, part 4. -/
import Derived.Test.YtfihpljgbghogaaGreatJC3
import Derived.Shelf.Slices.In.SortNone
/- The program's state: the pairs that bytes tell, collected out of a range function. -/
namespace Go.Proofs.YtfihpljgbghogaaGreat
open Go.RowKit Go.Shelf Go.Lib
set_option linter.unusedVariables false
set_option linter.unusedSimpArgs false
attribute [-simp] Tryz.isAgg54 Tryz.zeroValue54
attribute [-go_sem] loadVar storeVar
attribute [local go_sem] loadVar_openP storeVar_openP zero_prs build_prs
attribute [local go_sem] Oper.semAt_some
/-- The item number j. -/
def encPd (l : List (Int × Int)) (j : Nat) : Array Value := #[.agg #[.int .i64 (l[j]?.getD (0, 0)).1, .int .i64 (l[j]?.getD (0, 0)).2]]
/-- What the box of the range function holds. -/
structure PdB (Bb : Nat) (v : Value) (bs : List Int) (W : World) : Prop where
  cl : W.cell? ⟨Bb, 0, none⟩ = some v
  sl : Sl .u8 W v bs
set_option maxRecDepth 100000 in
set_option maxHeartbeats 1000000 in
theorem pld_in (F : Fence) (n : Nat) (hf : F.fn 69) (hro : F.round = none) (a : Option Addr) (len cap : Nat) (w : World) :
    CallsIn F n Tryz.prog 69 #[.slice a len cap] w fun e w' => e = .returned (.func (.func 102) #[] #[.pointer (some ⟨w.heap.size, 0, none⟩)]) ∧
      w' = w.alloc (.cells #[.slice a len cap] 31) := by
  refine callsIn_of_wp Tryz.func69 rfl hf ?_ hro
  simp only [Tryz.ntmps69, List.size_toArray, List.length_cons, List.length_nil, Nat.reduceAdd, Nat.reduceSub, Array.replicate_succ, Array.replicate_zero, List.push_toArray, List.append_toArray, List.nil_append, List.cons_append]
  gi_wp2
  go_ret
  exact ⟨rfl, rfl⟩
theorem prFrom_pre (bs : List Int) {k : Nat} (h : k ≤ bs.length) : ∃ R, prFrom 0 bs = prFrom 0 (bs.take k) ++ R := by
  have := prFrom_append (bs.take k) (bs.drop k) 0
  rw [List.take_append_drop] at this
  exact ⟨_, this⟩

set_option maxRecDepth 100000 in
set_option maxHeartbeats 2000000 in
theorem pld1_seq (n : Nat) (hn : 1 ≤ n) (Bb : Nat) (v : Value) (bs : List Int) (hb : IsBytes bs) (hl : bs.length ≤ 1000) (w : World) :
    SeqNum Fence.wide n Tryz.prog 102 #[.pointer (some ⟨Bb, 0, none⟩)] (encPd (prFrom 0 bs)) (PdB Bb v bs) (prFrom 0 bs).length w := by
  intro lp J Jx W hW hJR _ _ hY h0
  have hR0 := hJR 0 W h0
  have HJR := Lib.hid hJR
  have HY := Lib.hid hY
  have HB := Lib.hid hb
  obtain ⟨a, cap, rfl, -⟩ := id hR0.sl
  obtain ⟨len, hle⟩ : ∃ len, bs.length = len := ⟨_, rfl⟩
  rw [hle] at hl HJR
  have HL := Lib.hid hle
  have hcl := hR0.cl
  rw [hle] at hcl
  have H0 : Hid (J (prFrom 0 (bs.take 0)).length W) := h0
  clear hR0 hY hJR hW hle h0 hb
  refine callsIn_of_wp Tryz.func102 rfl trivial ?_ rfl
  simp only [Tryz.ntmps102, List.size_toArray, List.length_cons, List.length_nil, Nat.reduceAdd, Nat.reduceSub, Array.replicate_succ, Array.replicate_zero, List.push_toArray, List.append_toArray, List.nil_append, List.cons_append]
  gi_wp2
  clear hcl
  gi_loopw [8] (fun iv wr => ∃ k : Nat, k ≤ len ∧ iv = .int .i64 (k : Int) ∧ Hid (J (prFrom 0 (bs.take k)).length wr)) (fun iv _ => len - (intOf iv).toNat)
  case atStart => exact ⟨0, Nat.zero_le _, rfl, H0⟩
  case round =>
    obtain ⟨k, hk, rfl, HJ⟩ := hrel
    by_cases hkm : k < len
    · have g1 : (k : Int) < (len : Int) := by omega
      have HKM := Lib.hid hkm
      obtain ⟨y, hy, hy8⟩ := byte_of bs HB.out k
      have hkl : k < bs.length := by rw [HL.out]; exact hkm
      obtain ⟨ba, oa, rfl, hbb, hcs⟩ : ∃ b o, a = some ⟨b, o, none⟩ ∧ b < wr.heap.size ∧ wr.cell? ⟨b, o + k, none⟩ = some (.int .u8 (y : Int)) := by
        obtain ⟨a', cap', e, h1, h2, h3, h4⟩ := (HJR.out _ wr HJ.out).sl
        cases e
        rcases h3 with h3 | ⟨b, o, rfl, h5, h6⟩
        · rw [h3] at hkl; exact absurd hkl (Nat.not_lt_zero _)
        · exact ⟨b, o, rfl, h5, by rw [← hy]; exact h6 k hkl⟩
      have HPS := Lib.hid (prFrom_succ hkl)
      obtain ⟨R, hR⟩ := prFrom_pre bs (show k + 1 ≤ bs.length by omega)
      rw [hy] at HPS
      have HRR := Lib.hid hR
      have HME : Hid (∀ x : World, Calls Tryz.prog 66 #[.int .u8 (y : Int)] x fun e w' => e = .returned (.int .i64 (plA (y : Int))) ∧ w' = x) := fun x => sg_meant y hy8 x
      by_cases h0 : y = 0
      · subst h0
        have HJ2 : Hid (J (prFrom 0 (bs.take (k + 1))).length wr) := by
          show J _ _
          rw [HPS.out, if_neg (by omega), List.append_nil]
          exact HJ.out
        have e0 : plA ((0 : Nat) : Int) = -1 := rfl
        rw [e0] at HME
        clear hkm hkl hR hy e0 hbb
        gi_wp2_with (refine ⟨trivial, ?_⟩; gi_at_call 66; refine (callsIn_wide.2 (HME.out _)).mono ?_; rintro e W5 ⟨rfl, rfl⟩; gi_wp2; refine ⟨fun _ h => (by cases h), ?_⟩)
        exact ⟨⟨k + 1, HKM.out, by simp, HJ2⟩, by have := HKM.out; simp [intOf]; omega⟩
      · have hN : (prFrom 0 (bs.take k)).length < (prFrom 0 bs).length := by
          rw [hR, HPS.out, if_pos (by omega)]
          simp only [List.length_append, List.length_cons, List.length_nil]
          omega
        have hat : (prFrom 0 bs)[(prFrom 0 (bs.take k)).length]? = some ((k : Int), plA (y : Int)) := by
          rw [hR, HPS.out, if_pos (by omega), List.append_assoc, List.getElem?_append_right (Nat.le_refl _), Nat.sub_self]
          rfl
        have HLN : Hid ((prFrom 0 (bs.take (k + 1))).length = (prFrom 0 (bs.take k)).length + 1) := by
          show _ = _
          rw [HPS.out, if_pos (by omega), List.length_append]; rfl
        have HNL := Lib.hid hN
        have hy0 := HY.out _ wr hN HJ.out
        unfold encPd at hy0
        rw [hat] at hy0
        simp only [Option.getD_some] at hy0
        obtain ⟨z, hz⟩ : ∃ z, plA (y : Int) = z := ⟨_, rfl⟩
        have hz1 : z ≠ -1 := by rw [← hz]; unfold plA; split <;> omega
        have q1 : (z != -1) = true := by simpa using hz1
        have q2 : (z == -1) = false := by simpa using hz1
        rw [hz] at HME hy0
        obtain ⟨fn, tmps, assign, body, hyy, hRR⟩ := hy0
        clear hkm hkl hR hy hN hat hz hz1 hbb
        gi_wp2_with (refine ⟨trivial, ?_⟩; gi_at_call 66; refine (callsIn_wide.2 (HME.out _)).mono ?_; rintro e W5 ⟨rfl, rfl⟩)
        refine hRR.mono ?_
        rintro e W3 (⟨rfl, hJ3⟩ | ⟨rfl, hJx3⟩)
        · have HJ3 : Hid (J (prFrom 0 (bs.take (k + 1))).length W3) := by show J _ _; rw [HLN.out]; exact hJ3
          clear hJ3
          gi_wp2
          go_roundw
          case rel => exact ⟨k + 1, HKM.out, by simp, HJ3⟩
          case measure => have := HKM.out; simp [intOf]; omega
        · have HJ3 := Lib.hid hJx3
          clear hJx3
          gi_wp2
          refine bodyPost_ret (results_none rfl _ _ _) rfl ?_
          exact ⟨⟨_, rfl⟩, .inr ⟨_, HNL.out, HJ3.out⟩⟩
    · obtain rfl : k = len := by omega
      have g1 : ¬ (k : Int) < (k : Int) := by omega
      have HJ2 : Hid (J (prFrom 0 bs).length wr) := by
        have := HJ.out
        rw [List.take_of_length_le (by rw [HL.out]; exact Nat.le_refl _)] at this
        exact this
      clear hkm
      gi_wp2
      go_end0
      exact ⟨⟨_, rfl⟩, .inl HJ2.out⟩
end Go.Proofs.YtfihpljgbghogaaGreat

/- The program's state: pairs collected. -/
namespace Go.Proofs.YtfihpljgbghogaaGreat
open Go.RowKit Go.Shelf Go.Lib
set_option linter.unusedVariables false
set_option linter.unusedSimpArgs false
attribute [-simp] Tryz.isAgg54 Tryz.zeroValue54
attribute [-go_sem] loadVar storeVar
attribute [local go_sem] loadVar_openP storeVar_openP zero_prs build_prs
attribute [local go_sem] Oper.semAt_some
set_option maxRecDepth 100000 in
set_option maxHeartbeats 4000000 in
theorem sg_appendSeq {w : World} {v : Value} {bs : List Int} (Bb : Nat) (hbb : Bb < w.heap.size) (hP : PdB Bb v bs w) (hb : IsBytes bs) (hl : bs.length ≤ 1000) :
    Calls Tryz.prog 101 #[.slice none 0 0, .func (.func 102) #[] #[.pointer (some ⟨Bb, 0, none⟩)]] w fun e w' => ∃ u, e = .returned u ∧ PrO w.heap.size w' u (prFrom 0 bs) ∧ Below w.heap.size w w' := by
  obtain ⟨B, hB⟩ : ∃ B, w.heap.size = B := ⟨_, rfl⟩
  have HSZ := Lib.hid hB
  have HPP := Lib.hid hP
  have HBB := Lib.hid hbb
  obtain ⟨L, hL⟩ : ∃ L, prFrom 0 bs = L := ⟨_, rfl⟩
  have HLL := Lib.hid hL
  have HLn : Hid (L.length ≤ 1000) := by show _ ≤ _; rw [← hL]; have := prFrom_len bs 0; omega
  have HIS : Hid (∀ p ∈ L, Is64 p.1 ∧ Is64 p.2) := fun p hp => by
    rw [← hL] at hp
    obtain ⟨j, x, hj, hx, rfl⟩ := (prFrom_mem bs 0 p).1 hp
    have hjl := (List.getElem?_eq_some_iff.1 hj).1
    have hx8 := hb j
    rw [hj] at hx8
    simp only [Option.getD_some] at hx8
    unfold Is64 plA
    simp only
    split <;> omega
  obtain ⟨W0, hW0⟩ : ∃ W0, w.alloc (.cells #[.slice none 0 0] 26) = W0 := ⟨_, rfl⟩
  have hWs : W0.heap.size = B + 1 := by rw [← hW0, ← hB]; simp
  have bW : Below B w W0 := by rw [← hW0, ← hB]; exact below_new _ _
  have r1 : RowC W0 B 26 [slV (none, 0, 0)] := by rw [← hW0, ← hB]; exact RowC.new _ _ _
  have HW := Lib.hid hWs
  have I0 : Hid (RowC W0 B 26 [slV (none, 0, 0)] ∧ PrO B W0 (slV (none, 0, 0)) (L.take 0) ∧ Below B w W0) := ⟨r1, PrO.nil _ _, bW⟩
  have hseq := pld1_seq 2 (by omega) Bb v bs hb hl W0
  rw [hL] at hseq ⊢
  clear r1 bW hP hL hbb
  refine (callsIn_wide (n := 3)).1 ?_
  refine callsIn_of_wp_marks Tryz.func101 rfl trivial ?_ rfl
  simp only [Tryz.ntmps101, List.size_toArray, List.length_cons, List.length_nil, Nat.reduceAdd, Nat.reduceSub, Array.replicate_succ, Array.replicate_zero, List.push_toArray, List.append_toArray, List.nil_append, List.cons_append]
  gi_wp2_with fail
  try rw [hW0]
  try rw [hB]
  clear hW0
  refine wpIn_rangeFunc_num (n := 3) rfl (by omega) (gf := 102) (lb := #[.pointer (some ⟨Bb, 0, none⟩)]) rfl trivial (enters_of Tryz.func102 (by kernel_rfl) rfl)
    hseq (Below.refl _ _) (fun _ => rfl)
    (fun k W => ∃ u : SlV, RowC W B 26 [slV u] ∧ PrO B W (slV u) (L.take k) ∧ Below B w W)
    (fun c k W => False)
    ?hR ?hI (fun c s Y Z row h => h.elim) ⟨_, I0.out⟩
    (fun k a' W => ∃ C p, B < C ∧ L[k]? = some p ∧ RowC W C 54 [.int .i64 p.1, .int .i64 p.2] ∧ a' = { tmps := #[.slice none 0 0, .func (.func 102) #[] #[.pointer (some ⟨Bb, 0, none⟩)], .pointer (some ⟨B, 0, none⟩), undef, .slice none 0 0, .pointer (some ⟨C, 0, none⟩), .func (.func 102) #[] #[.pointer (some ⟨Bb, 0, none⟩)], .agg #[.int .i64 p.1, .int .i64 p.2], undef, undef, undef, undef, undef], defers := [] })
    ?hAx ?assign ?body ?done ?stop
  case hR =>
    rintro k W ⟨u, g1, g2, g3⟩
    exact ⟨(g3.cell (p := ⟨Bb, 0, none⟩) (by rw [← HSZ.out]; exact HBB.out)).trans HPP.out.cl, HPP.out.sl.below (by rw [HSZ.out]; exact g3)⟩
  case hI =>
    intro s Y Z row ⟨u, g1, g2, g3⟩ hg hr
    refine ⟨u, rowC_own g1 hg hr, ⟨row_own g2.1 hg hr, g2.2⟩, below_own g3 (by omega) hg (fun r e => ⟨by have := (hr r e).1; have := HW.out; have := HSZ.out; omega, (hr r e).2⟩)⟩
  case hAx =>
    rintro k a' _ Y Z row ⟨C, p, f1, f2, f3, f4⟩ hg hr
    exact ⟨C, p, f1, f2, rowC_own f3 hg hr, f4⟩
  case assign =>
    rintro lp k W K hkm ⟨u, g1, g2, g3⟩ hK
    obtain ⟨p, hp⟩ : ∃ p, L[k]? = some p := ⟨_, List.getElem?_eq_getElem hkm⟩
    have ST := new_prs W p.1 p.2
    have hK := hK _ _ (keepsFrom_below (below_new W (.cells #[.int .i64 p.1, .int .i64 p.2] 54))) ⟨u, g1.below (below_new W _), g2.below (below_new W _), g3.trans ((below_new W _).mono (by have := g3.size; omega))⟩ ⟨W.heap.size, p, g1.lt, hp, RowC.new W _ _, rfl⟩
    unfold encPd
    rw [hp]
    simp only [Option.getD_some]
    clear g1 g2 g3 hp
    gi_wp2
    exact hK
  case body =>
    rintro lp k a' W _ _ hkm ⟨u, g1, g2, g3⟩ ⟨C, p, hC, hp, hx, rfl⟩
    obtain ⟨p1, p2⟩ := p
    have HTK := Lib.hid (take_at hp)
    have d2 := g1.cell 0 _ rfl
    have LD := load_prs (hx.cell 0 _ rfl) (hx.cell 1 _ rfl)
    have hpi := HIS.out _ (List.mem_of_getElem? hp)
    have bY := below_new W (.cells #[.int .i64 p1, .int .i64 p2] 54)
    have SB := Lib.hid (slice_prs W p1 p2)
    obtain ⟨v3, y3, hA, O3, hg3, -⟩ := pr_append (g2.below bY) (PrO.one W (p1, p2) hpi).prt (by have := g3.size; have := bY.size; omega) (by rw [List.length_take]; have := HLn.out; simp; omega)
    obtain ⟨⟨xx, nn, cc⟩, rfl, -⟩ := own_slV O3.1
    skip
    obtain ⟨Y2, hY2⟩ : ∃ Y, W.alloc (.cells #[.int .i64 p1, .int .i64 p2] 54) = Y := ⟨_, rfl⟩
    rw [hY2] at SB hA hg3 bY
    have o1 : PrO B Y2 (slV u) (L.take k) := g2.below bY
    have K1 : RowC y3 B 26 [slV u] := (g1.below bY).grown hg3 (row_ne o1.1 (g1.below bY) (by decide))
    have HK1 := Lib.hid K1
    have f0 := K1.frozen 0
    have e0 := K1.cell 0 _ rfl
    have HKF : Hid (KeepsFrom W0.heap.size W y3) := keepsFrom_trans (keepsFrom_below bY) (keepsFrom_row o1.1 hg3)
    have HO3 : Hid (PrO B y3 (slV (xx, nn, cc)) (L.take (k + 1))) := by show PrO _ _ _ _; rw [HTK.out]; exact O3
    have HB3 : Hid (Below B w y3) := (g3.trans (bY.mono (by have := g3.size; omega))).grown hg3 (by have := g3.size; have := bY.size; omega) (own_block o1.1)
    have HA := Lib.hid hA
    simp only [slV] at HA e0 d2
    clear g1 g2 g3 hx bY hA O3 hg3 o1 K1 hp hpi hY2
    gi_step
    gi_step
    refine region_seq_roundC (letsOut_inBlock letsOut_num) (by kernel_rfl) ?_
    go_wp2_with (first | (with_reducible refine gate_build ?_; refine wpList_build_run 26 1 #[(0, .tmp 9)] rfl rfl [(0, .agg #[.int .i64 p1, .int .i64 p2])] _ rfl SB.out ?_) | (at_builtin; refine wpList_append_run (.tmp 8) (.tmp 10) 26 rfl rfl _ _ _ rfl rfl (HA.out _) ?_))
    have HKQ : KeepsFrom (B + 1) W y3 := by have := HKF.out; rwa [HW.out] at this
    exact ⟨keepsFrom_trans HKQ (keepsFrom_cells HK1.out (grownBy_setCellJ y3 B 0 _)), xx, nn, cc, HK1.out.set 0 _, ⟨own_setB HO3.out.1 HK1.out (by decide) 0 _, HO3.out.2⟩, set_below HB3.out (Nat.le_refl _) 0 _⟩
  case done =>
    rintro D W hD ⟨u, g1, g2, g3⟩ hK
    have d3 := g1.cell 0 _ rfl
    have G2 := Lib.hid g2
    have G3 := Lib.hid g3
    have HK := Lib.hid hK
    clear g1 g2 g3 hK
    gi_wp2
    refine ⟨by simp, .inl ⟨_, _, rfl, run_takeDeferred HK.out, ?_⟩⟩
    have hg2 := grownBy_putObj' W D (.deferred none)
    refine ⟨_, results_tmp rfl _ _ _, _, rfl, ?_, ?_⟩
    · have := row_own (M := 0) G2.out.1 hg2 (fun r e => by cases e; exact ⟨Nat.zero_le _, _, HK.out, rfl⟩)
      have h2 := G2.out.2
      rw [List.take_length] at this h2
      rw [HSZ.out]
      exact ⟨this, h2⟩
    · rw [HSZ.out]
      exact G3.out.trans (belowK_b (w := w) (by omega) W D _ _ (by have := HW.out; have := HSZ.out; omega) HK.out rfl rfl)
  case stop =>
    rintro D c k W hD _ h hK
    exact h.elim
set_option maxRecDepth 100000 in
set_option maxHeartbeats 2000000 in
theorem sg_collect {w : World} {v : Value} {bs : List Int} (Bb : Nat) (hbb : Bb < w.heap.size) (hP : PdB Bb v bs w) (hb : IsBytes bs) (hl : bs.length ≤ 1000) :
    Calls Tryz.prog 68 #[.func (.func 102) #[] #[.pointer (some ⟨Bb, 0, none⟩)]] w fun e w' => ∃ u, e = .returned u ∧ PrO w.heap.size w' u (prFrom 0 bs) ∧ Below w.heap.size w w' := by
  have HP := Lib.hid (sg_appendSeq Bb hbb hP hb hl)
  clear hP hb hl hbb
  go_enter Tryz.func68, Tryz.ntmps68
  go_wp2_with fail
  refine HP.out.mono ?_
  rintro e w1 ⟨v', rfl, ho, hB⟩
  have HO := Lib.hid ho
  have HB := Lib.hid hB
  clear ho hB HP
  go_wp2_with fail
  go_ret
  exact ⟨_, rfl, HO.out, HB.out⟩
set_option maxRecDepth 100000 in
/-- **Pairs of bytes**, in one call and the next. -/
theorem sg_placed (a : Option Addr) (len cap : Nat) (w : World) : Calls Tryz.prog 69 #[.slice a len cap] w fun e w' => e = .returned (.func (.func 102) #[] #[.pointer (some ⟨w.heap.size, 0, none⟩)]) ∧ w' = w.alloc (.cells #[.slice a len cap] 31) :=
  callsIn_wide.1 (pld_in Fence.wide 3 trivial rfl a len cap w)
end Go.Proofs.YtfihpljgbghogaaGreat

/- The document's Encode of a state. -/
namespace Go.Proofs.YtfihpljgbghogaaGreat
open Go.RowKit Go.Shelf Go.Lib
set_option linter.unusedVariables false
set_option linter.unusedSimpArgs false
attribute [-simp] Tryz.isAgg51 Tryz.zeroValue51 Tryz.isAgg54 Tryz.zeroValue54 Tryz.isAgg30 Tryz.zeroValue30
attribute [-go_sem] loadVar storeVar
attribute [local go_sem] loadVar_openQ storeVar_openQ zero_sn zero_prs zero_st build_sn build_sn2
theorem own_weakB {W x : World} {v : Value} {bs : List Int} {N : Nat} (h : x.ownsRow N 5 1 v bs.length (u8s bs)) (hN : W.heap.size ≤ N) : OwnB W x v bs := by
  refine ⟨h.1, ?_⟩
  rcases h.2 with h' | ⟨g, cap, cur, e, h1, h2⟩
  · exact .inl h'
  · exact .inr ⟨g, cap, cur, e, Nat.le_trans hN h1, h2⟩
theorem PrIn.plOk {g : SG} {ps : List (Int × Int)} (h : PrIn g ps) : PlOk g.b ps := fun p hp => by
  have a := h.rng p hp
  have b := h.val p hp
  exact ⟨a.1, a.2, b.1, by omega⟩
theorem dirt_rng {g : SG} (hg : g.Ok) {d : List Int} (h : sDirty g d = true) : ∀ x ∈ d, -1 ≤ x ∧ x < 64 := fun x hx => by
  have hb := hg.b64
  unfold sDirty at h
  rw [Bool.and_eq_true, List.all_eq_true] at h
  obtain ⟨i, hi, rfl⟩ := List.getElem_of_mem hx
  have := h.2 i (List.mem_range.2 hi)
  unfold dirtAt at this
  rw [List.getElem?_eq_getElem hi] at this
  simp at this
  omega
theorem kd_rng {g : SG} {s : ST} (h : sGood g s = true) : 0 ≤ s.kd ∧ s.kd ≤ 2 := by
  unfold sGood at h
  rw [Bool.and_eq_true] at h
  have := h.2
  unfold sPlan at this
  by_cases a : s.kd = 0
  · omega
  · by_cases b : s.kd = 1
    · omega
    · by_cases c : s.kd = 2
      · omega
      · rw [if_neg a, if_neg b, if_neg c] at this
        cases this
set_option maxRecDepth 100000 in
theorem OwnB.appG {W x : World} {v u : Value} {xs bs : List Int} (h : OwnB W x v xs) (hb : Below W.heap.size W x) (hu : Sl .u8 x u bs) (hl : xs.length + bs.length ≤ 1000000) :
    ∃ v' x', Hid ((Builtin.append_ #[31, 31] 31 #[v, u]).run Tryz.prog x = .ok v' x') ∧ Hid (OwnB W x' v' (xs ++ bs)) ∧ Hid (Below W.heap.size W x') ∧ x.grownBy x' v.ownBlock := by
  obtain ⟨v', x', r1, r2, r3⟩ := run_append_bytes W.heap.size x v xs h u bs hu (by omega) hb.size
  exact ⟨v', x', r1, r2, hb.grown r3 hb.size (fun k e => (h.lt k e).1), r3⟩
theorem Sl.grownR {y y' : World} {a : Option Addr} {n c : Nat} {bs : List Int} {row : Option Nat} (h : Sl .u8 y (.slice a n c) bs) (hg : y.grownBy y' row) (hne : bs ≠ [] → ∀ p, a = some p → row ≠ some p.block) : Sl .u8 y' (.slice a n c) bs := by
  obtain ⟨a', cap, e, h1, h2, h3, h4⟩ := h
  cases e
  refine ⟨a, c, rfl, h1, h2, ?_, h4⟩
  rcases h3 with h3 | ⟨b, off, rfl, h5, h6⟩
  · exact .inl h3
  · by_cases hb : bs = []
    · exact .inl hb
    · exact .inr ⟨b, off, rfl, Nat.lt_of_lt_of_le h5 hg.size, fun j hj => (World.cell?_of_block (a := ⟨b, off + j, none⟩) (hg.block b h5 (fun e => hne hb _ rfl e.symm))).trans (h6 j hj)⟩
theorem Sl.blk {y : World} {a : Option Addr} {n c : Nat} {bs : List Int} (h : Sl .u8 y (.slice a n c) bs) (hb : bs ≠ []) : ∀ p, a = some p → p.block < y.heap.size := by
  obtain ⟨a', cap, e, h1, h2, h3, h4⟩ := h
  cases e
  rcases h3 with h3 | ⟨b, off, rfl, h5, h6⟩
  · exact absurd h3 hb
  · intro p hp
    cases hp
    exact h5
theorem sEnc_is (g : SG) (d : List Int) (l : List SN) (nx kd id : Int) (ps : List (Int × Int)) : sEnc g ⟨d, l, nx, kd, id, ps⟩ = ((putL nx 4 ++ [(l.length : Int), kd] ++ putL id 4) ++ d.map (· + 1)) ++ (sSnaps g l).flatten ++ sPlaces g.b ps := by
  simp [sEnc, List.append_assoc]
theorem snaps_succ (g : SG) (l : List SN) {k : Nat} (hk : k < 8) : ((sSnaps g l).take (k + 1)).flatten = ((sSnaps g l).take k).flatten ++ sSnapB g (l[k]?.getD (noS g)) := by
  have h : (sSnaps g l)[k]? = some (sSnapB g (l[k]?.getD (noS g))) := by
    unfold sSnaps
    rw [List.getElem?_map, List.getElem?_range hk]
    rfl
  rw [take_at h, List.flatten_append]
  simp
theorem snaps_all (g : SG) (l : List SN) : (sSnaps g l).take 8 = sSnaps g l := List.take_of_length_le (by unfold sSnaps; simp)
set_option maxRecDepth 100000 in
theorem build_sn1 (x : Option Addr) (n c : Nat) (w : World) : (Instr.build 51 #[(1, .slice x n c)]).run Tryz.prog w = .ok (svV (0, (x, n, c), (none, 0, 0))) w := by kernel_rfl
/-- Worlds in which a row of cells lies. -/
def RowT (C : Nat) (t : TypeId) (L : List Value) : Type := {x : World // RowC x C t L}
set_option maxRecDepth 100000 in
set_option maxHeartbeats 2000000 in
/-- **New** of bits, and where its row lies. -/
theorem rf_newP (n : Int) (h1 : 1 ≤ n) (h2 : n ≤ 4096) (w : World) : Calls Tryz.prog 28 #[.int .i64 n] w fun e w' => e = .returned (.slice (some ⟨w.heap.size, 0, none⟩) (sizeB n) (sizeB n)) ∧ Sl .u8 w' (.slice (some ⟨w.heap.size, 0, none⟩) (sizeB n) (sizeB n)) (List.replicate (sizeB n) 0) ∧ Below w.heap.size w w' := by
  obtain ⟨i0, hi, hz0, hz1, hz2⟩ := info_parts info_u8
  obtain ⟨s, hs⟩ : ∃ s, sizeB n = s := ⟨_, rfl⟩
  have e : (n + 7) / 8 = (s : Int) := by rw [← hs, sizeB, if_neg (by omega)]; omega
  rw [hs]
  clear hs
  have hs : s ≤ 512 := by omega
  have g1 : decide (n < 1) = false := by simp; omega
  have g2 : decide (4096 < n) = false := by simp; omega
  go_enter Tryz.func28, Tryz.ntmps28
  go_wp2_with (at_make; refine wpList_make_full _ rfl _ _ 31 rfl w.heap.size 5 i0 (.int .u8 0) 1 Tryz.underlying31 hi hz0 hz1 .i64 .i64 _ _ s rfl rfl e e (by rw [hz2]; omega) (by unfold maxLen; omega) (by simp) ?_; intro w1 hown1 hgrow1)
  go_ret
  refine ⟨rfl, ?_, (Below.refl _ w).grown hgrow1 (Nat.le_refl _) (fun k e => by cases e)⟩
  rw [show (Value.int .u8 0).cells = #[.int .u8 0] from rfl, toList_madeCells_one, Nat.mul_one] at hown1
  have := Sl.of_owns (bs := List.replicate s 0) (by rw [List.length_replicate, List.map_replicate]; exact hown1)
  exact this
attribute [local go_sem] build_sn1
/-- What Encode answers. -/
def EncR (g : SG) (s : ST) (N : Nat) (w' : World) (u : Value) (c : Int) : Prop := (sGood g s = true → c = 0 ∧ w'.ownsRow N 5 1 u (sEnc g s).length (u8s (sEnc g s))) ∧ (sGood g s = false → c = 11 ∧ u = .slice none 0 0)
theorem lit2_sl (x : World) (a b : Int) : Sl .u8 (x.alloc (.cells #[.int .u8 a, .int .u8 b] 5)) (.slice (some ⟨x.heap.size, 0, none⟩) 2 2) [a, b] :=
  Sl.of_owns (World.ownsRow_lit (base := x.heap.size) x #[.int .u8 a, .int .u8 b] 2 (Nat.le_refl _) (by simp [maxLen]) rfl)
theorem lit1_sl (x : World) (a : Int) : Sl .u8 (x.alloc (.cells #[.int .u8 a] 5)) (.slice (some ⟨x.heap.size, 0, none⟩) 1 1) [a] :=
  Sl.of_owns (World.ownsRow_lit (base := x.heap.size) x #[.int .u8 a] 1 (Nat.le_refl _) (by simp [maxLen]) rfl)

set_option maxRecDepth 100000 in
set_option maxHeartbeats 4000000 in
/-- **Encode**. -/
theorem rf14_encode {w : World} {q : PS} {d : List Int} {l : List SN} {ps : List (Int × Int)} (g : SG) (hg : g.Ok) (r : Int) (hr : (g.geo r).good) (hd : Sl .i64 w (slV q.d) d) (h : StIs w q l ps) (hK : Lens 1000 l) (hp : ps.length ≤ 1000) :
    Calls Tryz.prog 8 #[.agg (g.v r), stV q] w fun e w' => ∃ u c, e = .returned (.tuple #[u, .int .i64 c]) ∧ EncR g ⟨d, l, q.nx, q.kd, q.id, ps⟩ w.heap.size w' u c ∧ Below w.heap.size w w' := by
  have hmx : Tryz.prog.follows .mixedOrders = true := by kernel_rfl
  have HQ := Lib.hid h
  have HD0 := Lib.hid hd
  have HGD : Hid (∀ x : World, Below w.heap.size w x → Calls Tryz.prog 14 #[.agg (g.v r), stV q] x fun e w' => e = .returned (.bool (sGood g ⟨d, l, q.nx, q.kd, q.id, ps⟩)) ∧ Below x.heap.size x w') := fun x hx => rf14_good g hg r hr (HD0.out.below hx) (HQ.out.below hx) hK hp
  have HPLC : Hid (∀ (x : World) (u : Value) (pl : List (Int × Int)), Prt x u pl → pl.length ≤ 1000 → PlOk g.b pl → Calls Tryz.prog 29 #[.agg (g.v r), u] x fun e w' => ∃ u', e = .returned u' ∧ w'.ownsRow x.heap.size 5 1 u' g.b ((sPlaces g.b pl).map (Value.int .u8)) ∧ Below x.heap.size x w') := fun x u pl h1 h2 h3 => rf14_places g hg r h1 h2 h3
  have HGK := Lib.hid hg
  obtain ⟨⟨qd, qdn, qdc⟩, ⟨qs, qsn, qsc⟩, nx, kd, id, ⟨qp, qpn, qpc⟩⟩ := q
  have hsn := h.sn
  simp only [stV, stL, slV] at *
  obtain ⟨B, hB⟩ : ∃ B, w.heap.size = B := ⟨_, rfl⟩
  obtain ⟨W1, hW1⟩ : ∃ W, w.alloc (.cells (g.v r) 23) = W := ⟨_, rfl⟩
  obtain ⟨W2, hW2⟩ : ∃ W, W1.alloc (.cells #[.slice qd qdn qdc, .slice qs qsn qsc, .int .i64 nx, .int .i64 kd, .int .i64 id, .slice qp qpn qpc] 30) = W := ⟨_, rfl⟩
  have s1 : W1.heap.size = B + 1 := by rw [← hW1, ← hB]; simp
  have r1 : RowC W1 B 23 [.int .i64 (g.b : Int), .int .i64 (g.s : Int), .int .i64 (g.y : Int), .int .i64 (g.a : Int), .int .i64 r] := by rw [← hW1, ← hB]; exact RowC.new _ _ _
  have r2 : RowC W2 (B + 1) 30 (stL ⟨(qd, qdn, qdc), (qs, qsn, qsc), nx, kd, id, (qp, qpn, qpc)⟩) := by rw [← hW2, ← s1]; exact RowC.new _ _ _
  have b1 : Below B w W1 := by rw [← hW1, ← hB]; exact below_new _ _
  have b2 : Below W1.heap.size W1 W2 := by rw [← hW2]; exact below_new _ _
  have hBF : Below B w W2 := b1.trans (b2.mono (by omega))
  have HBs : B ≤ W2.heap.size := by rw [← hB]; exact hBF.size
  have HBF : Hid (∀ x : World, Below W2.heap.size W2 x → Below B w x) := fun x hx => hBF.trans (hx.mono HBs)
  have KR : Hid (∀ x : World, Below W2.heap.size W2 x → x.cell? ⟨B, 0, none⟩ = some (.int .i64 (g.b : Int)) ∧ x.cell? ⟨B, 1, none⟩ = some (.int .i64 (g.s : Int)) ∧ x.cell? ⟨B, 2, none⟩ = some (.int .i64 (g.y : Int)) ∧ x.cell? ⟨B, 3, none⟩ = some (.int .i64 (g.a : Int)) ∧ x.cell? ⟨B, 4, none⟩ = some (.int .i64 r) ∧
      x.cell? ⟨B + 1, 0, none⟩ = some (.slice qd qdn qdc) ∧ x.cell? ⟨B + 1, 1, none⟩ = some (.slice qs qsn qsc) ∧ x.cell? ⟨B + 1, 2, none⟩ = some (.int .i64 nx) ∧ x.cell? ⟨B + 1, 3, none⟩ = some (.int .i64 kd) ∧ x.cell? ⟨B + 1, 4, none⟩ = some (.int .i64 id) ∧ x.cell? ⟨B + 1, 5, none⟩ = some (.slice qp qpn qpc)) := fun x hx => by
    have t1 := (r1.below b2).below hx
    have t2 := r2.below hx
    exact ⟨t1.cell 0 _ rfl, t1.cell 1 _ rfl, t1.cell 2 _ rfl, t1.cell 3 _ rfl, t1.cell 4 _ rfl, t2.cell 0 _ rfl, t2.cell 1 _ rfl, t2.cell 2 _ rfl, t2.cell 3 _ rfl, t2.cell 4 _ rfl, t2.cell 5 _ rfl⟩
  have KLS : Hid (∀ x : World, Below W2.heap.size W2 x → (loadVar 30 ⟨B + 1, 0, none⟩).run Tryz.prog x = .ok (.agg #[.slice qd qdn qdc, .slice qs qsn qsc, .int .i64 nx, .int .i64 kd, .int .i64 id, .slice qp qpn qpc]) x) := fun x hx => load_stC (r2.below hx)
  have KSn : Hid (∀ x : World, Below W2.heap.size W2 x → Snp x (.slice qs qsn qsc) l) := fun x hx => hsn.below (by rw [hB]; exact HBF.out x hx)
  have HSN : Hid (qsn = l.length) := by obtain ⟨r', a', c', e, -⟩ := hsn; cases e; rfl
  have hqs : qsn ≤ 1000 := by rw [HSN.out]; exact hK.1
  have KPr : Hid (∀ x : World, Below W2.heap.size W2 x → Prt x (.slice qp qpn qpc) ps) := fun x hx => HQ.out.pr.below (by rw [hB]; exact HBF.out x hx)
  obtain ⟨hqdn, hqdm, hdc⟩ := hd.cellI
  have HDN := Lib.hid hqdn
  have HDC : Hid (0 < qdn → ∃ b o, qd = some ⟨b, o, none⟩ ∧ ∀ x : World, Below W2.heap.size W2 x → ∀ j, j < qdn → x.cell? ⟨b, o + j, none⟩ = some (.int .i64 (d[j]?.getD 0))) := fun h0 => by
    obtain ⟨b, o, e, h⟩ := hdc h0
    exact ⟨b, o, e, fun x hx j hj => h x (by rw [hB]; exact HBF.out x hx) j hj⟩
  have HKL := Lib.hid hK
  have HPLn := Lib.hid hp
  have HSZ := Lib.hid hB
  rw [hB] at HGD ⊢
  clear h hsn hK hp r1 r2 b1 b2 hBF hd hr HBs hdc hqdn hqdm hg
  unfold SG.v at *
  obtain ⟨v1, hv1⟩ : ∃ u, sGood g ⟨d, l, nx, kd, id, ps⟩ = u := ⟨_, rfl⟩
  have HV1 := Lib.hid hv1
  rw [hv1] at HGD
  clear hv1
  obtain ⟨k0, k1, k2, k3, k4, k5, k6, k7, k8, k9, k10⟩ := KR.out W2 (Below.refl _ _)
  have LS := KLS.out W2 (Below.refl _ _)
  go_enter Tryz.func8, Tryz.ntmps8
  go_wp2_with fail
  refine (HGD.out W2 (HBF.out _ (Below.refl _ _))).mono ?_
  rintro e x1 ⟨rfl, hx1⟩
  have HB1 := Lib.hid hx1
  have HGO : Hid (Below B w x1) := HBF.out _ HB1.out
  clear hx1 k0 k1 k2 k3 k4 k5 k6 k7 k8 k9 k10 LS
  cases v1 with
  | false =>
    go_wp2_with fail
    refine bodyPost_ret (results_tmp2 rfl _ _ _) rfl ?_
    exact ⟨_, _, rfl, ⟨fun h => absurd h (by rw [HV1.out]; decide), fun _ => ⟨rfl, rfl⟩⟩, HGO.out⟩
  | true =>
    have HIn := Lib.hid (good_in HGK.out HV1.out)
    have hkd := kd_rng HV1.out
    have hn0 := HIn.out.nx0
    have hn1 := HIn.out.nx1
    have hi0 := HIn.out.id0
    have hi1 := HIn.out.id1
    have hsl : qsn ≤ 8 := by rw [HSN.out]; exact HIn.out.sl
    simp only at hkd hn0 hn1 hi0 hi1
    obtain ⟨kd0, kd1⟩ := hkd
    have HPut : Hid (∀ (x : World) (n : Int), 0 ≤ n → n ≤ 1000001 → Calls Tryz.prog 27 #[.int .u64 n, .int .i64 4] x fun e w' => ∃ v, e = .returned v ∧ w'.ownsRow x.heap.size 5 1 v 4 ((putL n 4).map (Value.int .u8)) ∧ Below x.heap.size x w') := fun x n h0 h1 => refPut_some n 4 x (by omega) (by omega) h0 (by omega)
    clear hqs
    go_wp2_with fail
    go_cut [6] from 14 (fun s6 wx => Hid (OwnB W2 wx s6 (putL nx 4 ++ [(qsn : Int), kd])) ∧ Hid (Below W2.heap.size W2 wx))
    case first =>
      have d0 : ∀ y : Ext W2, y.1.cell? ⟨B + 1, 2, none⟩ = some (.int .i64 nx) := fun y => (KR.out y.1 y.2).2.2.2.2.2.2.2.1
      have d1 : ∀ y : Ext W2, y.1.cell? ⟨B + 1, 1, none⟩ = some (.slice qs qsn qsc) := fun y => (KR.out y.1 y.2).2.2.2.2.2.2.1
      have d2 : ∀ y : Ext W2, y.1.cell? ⟨B + 1, 3, none⟩ = some (.int .i64 kd) := fun y => (KR.out y.1 y.2).2.2.2.2.2.2.2.2.1
      have HBd : Hid (Below W2.heap.size W2 x1.drew) := HB1.out.drew
      have HN0 := Lib.hid hn0
      have HN1 := Lib.hid hn1
      refine region_plan (fun x => ∃ y : Ext W2, x = y.1) 14 (.takes [0, 1, 2, 4, 5, 6, 7, 8, 9, 10, 11] (.two 3 12 (.one 12 (.one 13 .leaf)) (.one 3 (.one 13 .leaf)))) hmx (by kernel_rfl) (by intro c x v a w h; cases x <;> exact h) ⟨⟨x1.drew, HBd.out⟩, rfl⟩ ?_
      repeat (rw [wpPlan_takes_cons]; simp only [nth_zero, nth_succ]; go_big_quiet_step (fail); refine wpQuiet_nil ?_)
      rw [wpPlan_takes_nil]
      clear d0 d1 d2
      refine ⟨?_, ?_⟩
      · simp only [nth_zero, nth_succ]
        go_wp2_with fail
        go_at_call 27
        refine (HPut.out x1.drew nx HN0.out HN1.out).mono ?_
        rintro e x2 ⟨v4, rfl, hrow, hb⟩
        have K2 : Hid (Below W2.heap.size W2 x2) := HBd.out.trans (hb.mono HBd.out.size)
        have O2 : Hid (OwnB W2 x2 v4 (putL nx 4)) := own_weakB (by rw [putL_length]; exact hrow) HBd.out.size
        clear hrow hb
        go_wp2_with fail
        refine planPost_mk ⟨⟨x2, K2.out⟩, rfl⟩ ?_
        rw [wpPlan_one]
        have S3 := lit2_sl x2 (qsn : Int) kd
        have b3 := below_new x2 (.cells #[.int .u8 (qsn : Int), .int .u8 kd] 5)
        obtain ⟨x3, hx3⟩ : ∃ x, x2.alloc (.cells #[.int .u8 (qsn : Int), .int .u8 kd] 5) = x := ⟨_, rfl⟩
        rw [hx3] at S3 b3
        have K3 : Hid (Below W2.heap.size W2 x3) := K2.out.trans (b3.mono K2.out.size)
        obtain ⟨v5, x4, R4, O4, K4⟩ := (O2.out.below b3).app K3.out S3 (by simp [putL_length])
        simp only [nth_zero, nth_succ]
        clear S3 b3
        go_wp2_with fail
        try rw [hx3]
        refine planPost_mk ⟨⟨x3, K3.out⟩, rfl⟩ ?_
        clear hx3
        rw [wpPlan_one]
        simp only [nth_zero, nth_succ]
        refine wpList_append_run (.tmp 17) (.tmp 26) 31 rfl rfl _ _ _ rfl rfl R4.out ?_
        go_wp2_with fail
        refine planPost_mk ⟨⟨x4, K4.out⟩, rfl⟩ ?_
        rw [wpPlan_leaf]
        simp only [List.drop_succ_cons, List.drop_zero]
        go_wp2_with fail
        go_meet
        exact ⟨O4, K4⟩
      · have b3 := below_new x1.drew (.cells #[.int .u8 (qsn : Int), .int .u8 kd] 5)
        have S3 := lit2_sl x1.drew (qsn : Int) kd
        obtain ⟨x3, hx3⟩ : ∃ x, x1.drew.alloc (.cells #[.int .u8 (qsn : Int), .int .u8 kd] 5) = x := ⟨_, rfl⟩
        rw [hx3] at S3 b3
        have HS3 := Lib.hid S3
        have K3 : Hid (Below W2.heap.size W2 x3) := HBd.out.trans (b3.mono HBd.out.size)
        clear S3 b3
        simp only [nth_zero, nth_succ]
        go_wp2_with fail
        try rw [hx3]
        refine planPost_mk ⟨⟨x3, K3.out⟩, rfl⟩ ?_
        clear hx3
        rw [wpPlan_one]
        simp only [nth_zero, nth_succ]
        go_wp2_with fail
        go_at_call 27
        refine (HPut.out x3 nx HN0.out HN1.out).mono ?_
        rintro e x2 ⟨v4, rfl, hrow, hb⟩
        have K2 : Hid (Below W2.heap.size W2 x2) := K3.out.trans (hb.mono K3.out.size)
        have O2 : Hid (OwnB W2 x2 v4 (putL nx 4)) := own_weakB (by rw [putL_length]; exact hrow) K3.out.size
        obtain ⟨v5, x4, R4, O4, K4⟩ := O2.out.app K2.out (HS3.out.below hb) (by simp [putL_length])
        clear hrow hb
        go_wp2_with fail
        refine planPost_mk ⟨⟨x2, K2.out⟩, rfl⟩ ?_
        rw [wpPlan_one]
        simp only [nth_zero, nth_succ]
        refine wpList_append_run (.tmp 17) (.tmp 26) 31 rfl rfl _ _ _ rfl rfl R4.out ?_
        go_wp2_with fail
        refine planPost_mk ⟨⟨x4, K4.out⟩, rfl⟩ ?_
        rw [wpPlan_leaf]
        simp only [List.drop_succ_cons, List.drop_zero]
        go_wp2_with fail
        go_meet
        exact ⟨O4, K4⟩
    case rest =>
      obtain ⟨HO1, HB2⟩ := hcut
      obtain ⟨k0, k1, k2, k3, k4, k5, k6, k7, k8, k9, k10⟩ := KR.out _ HB2.out
      go_wp2_with fail
      refine (HPut.out wc id hi0 (by omega)).mono ?_
      rintro e x5 ⟨v6, rfl, hrow, hb⟩
      obtain ⟨v7, x6, R6, O6, K6⟩ := (HO1.out.below hb).app (HB2.out.trans (hb.mono HB2.out.size)) (Sl.of_owns (bs := putL id 4) (by rw [putL_length]; exact hrow)) (by simp [putL_length])
      clear hrow hb k0 k1 k2 k3 k4 k5 k6 k7 k8 k9 k10
      go_wp2_with (at_builtin; refine wpList_append_run (.tmp 28) (.tmp 33) 31 rfl rfl _ _ _ rfl rfl R6.out ?_)
      obtain ⟨H, hH⟩ : ∃ H, putL nx 4 ++ [(qsn : Int), kd] ++ putL id 4 = H := ⟨_, rfl⟩
      have HH := Lib.hid hH
      have hHl : Hid (H.length = 10) := by show _ = _; rw [← hH]; simp [putL_length]
      rw [hH] at O6
      have hdr := dirt_rng HGK.out (by have := HV1.out; unfold sGood at this; simp only [Bool.and_eq_true] at this; exact this.1.1.1.1.1)
      have HDR := Lib.hid hdr
      have hqd : qdn ≤ 32 := by
        have h1 := HIn.out.dl
        have h2 : g.slots ≤ 32 := by
          have e1 := HGK.out.s8
          have e2 := HGK.out.y4
          have : g.s * g.y ≤ 8 * 4 := Nat.mul_le_mul e1 e2
          exact this
        have h3 := HDN.out
        simp only at h1
        omega
      clear hH hdr R6 HO1 HB2
      go_loopw [6, 7] (fun bv iv wr => ∃ k : Nat, k ≤ qdn ∧ iv = .int .i64 (k : Int) ∧ Hid (OwnB W2 wr bv (H ++ (d.take k).map (· + 1))) ∧ Hid (Below W2.heap.size W2 wr)) (fun _ iv _ => qdn - (intOf iv).toNat)
      case atStart => exact ⟨0, Nat.zero_le _, rfl, by rw [List.take_zero, List.map_nil, List.append_nil]; exact O6, K6⟩
      case round =>
        clear O6 K6
        obtain ⟨k, hk, rfl, HO, HB3⟩ := hrel
        have c0 := (KR.out _ HB3.out).2.2.2.2.2.1
        by_cases hlt : k < qdn
        · have q1 : (k : Int) < (qdn : Int) := by omega
          have HLT := Lib.hid hlt
          obtain ⟨x, hx⟩ : ∃ x, d[k]? = some x := ⟨_, List.getElem?_eq_getElem (by rw [← HDN.out]; exact hlt)⟩
          obtain ⟨r0, r1⟩ := HDR.out x (List.mem_of_getElem? hx)
          obtain ⟨db, dof, rfl, hcc⟩ := HDC.out (by omega)
          have c1 := hcc _ HB3.out k hlt
          rw [hx] at c1
          simp only [Option.getD_some] at c1
          have S3 := lit1_sl wr (x + 1)
          have b3 := below_new wr (.cells #[.int .u8 (x + 1)] 5)
          obtain ⟨x3, hx3⟩ : ∃ y, wr.alloc (.cells #[.int .u8 (x + 1)] 5) = y := ⟨_, rfl⟩
          rw [hx3] at S3 b3
          have K3 : Hid (Below W2.heap.size W2 x3) := HB3.out.trans (b3.mono HB3.out.size)
          obtain ⟨v8, x4, R8, O8, K8⟩ := (HO.out.below b3).app K3.out S3 (by have := hHl.out; rw [List.length_append, this, List.length_map, List.length_take]; simp; omega)
          have O9 : Hid (OwnB W2 x4 v8 (H ++ (d.take (k + 1)).map (· + 1))) := by
            have := O8.out
            rw [List.append_assoc] at this
            show OwnB _ _ _ _
            rw [take_at hx, List.map_append]
            exact this
          clear hx hcc S3 b3 O8 hlt K3
          go_wp2_with (at_builtin; refine wpList_append_run (.tmp 42) (.tmp 50) 31 rfl rfl _ _ _ rfl rfl R8.out ?_)
          exact ⟨⟨k + 1, HLT.out, by simp, O9, K8⟩, by have := HLT.out; simp [intOf]; omega⟩
        · obtain rfl : k = qdn := by omega
          have O9 : Hid (OwnB W2 wr u6 (H ++ d.map (· + 1))) := by
            have := HO.out
            rw [List.take_of_length_le (by rw [HDN.out]; exact Nat.le_refl _)] at this
            exact this
          clear hlt HO
          go_wp2_with fail
          obtain ⟨H2, hH2⟩ : ∃ H2, H ++ d.map (· + 1) = H2 := ⟨_, rfl⟩
          have HH2 := Lib.hid hH2
          have HL2 : Hid (H2.length ≤ 42) := by
            show _ ≤ _
            rw [← hH2, List.length_append, hHl.out, List.length_map, ← HDN.out]
            omega
          rw [hH2] at O9
          obtain ⟨n9, hn9⟩ : ∃ n, sizeB (g.b : Int) = n := ⟨_, rfl⟩
          have HN9 := Lib.hid hn9
          have hgb1 := HGK.out.b1
          have hgb2 := HGK.out.b64
          have HNew : Hid (∀ x : World, Calls Tryz.prog 28 #[.int .i64 (g.b : Int)] x fun e w' => e = .returned (.slice (some ⟨x.heap.size, 0, none⟩) n9 n9) ∧ Sl .u8 w' (.slice (some ⟨x.heap.size, 0, none⟩) n9 n9) (List.replicate n9 0) ∧ Below x.heap.size x w') := fun x => by
            have := rf_newP (g.b : Int) (by omega) (by omega) x
            rw [hn9] at this
            exact this
          have HGB : Hid (g.b ≤ 64) := hgb2
          have HLenS : Hid (∀ k, (((sSnaps g l).take k).flatten).length ≤ 1000) := fun k => by
            have h1 := flat_len (m := g.step) ((sSnaps g l).take k) (fun y hy => snaps_len (fun t ht => (HIn.out.sn t ht).ch) y (List.mem_of_mem_take hy))
            have h2 : ((sSnaps g l).take k).length ≤ 8 := by rw [List.length_take]; unfold sSnaps; simp; omega
            have h3 : g.step ≤ 76 := by
              unfold SG.step SG.n9
              have : sizeB (g.b : Int) ≤ 8 := by unfold sizeB; rw [if_neg (by omega)]; omega
              omega
            have h4 := Nat.mul_le_mul h2 h3
            omega
          clear hH2 hn9 hgb1 hgb2 c0
          go_loopw [6, 8] (fun bv iv wr2 => ∃ k : Nat, k ≤ 8 ∧ iv = .int .i64 (k : Int) ∧ Hid (OwnB W2 wr2 bv (H2 ++ ((sSnaps g l).take k).flatten)) ∧ Hid (Below W2.heap.size W2 wr2)) (fun _ iv _ => 8 - (intOf iv).toNat)
          case atStart => exact ⟨0, Nat.zero_le _, rfl, by rw [List.take_zero, List.flatten_nil, List.append_nil]; exact O9, HB3⟩
          case round =>
            clear O9 HB3
            obtain ⟨k, hk, rfl, HO, HB4⟩ := hrel
            obtain ⟨k0, k1, k2, k3, k4, k5, k6, k7, k8, k9, k10⟩ := KR.out _ HB4.out
            by_cases hlt : k < 8
            · have q1 : (k : Int) < 8 := by omega
              have HLT := Lib.hid hlt
              obtain ⟨s, hs⟩ : ∃ s, l[k]?.getD (noS g) = s := ⟨_, rfl⟩
              have HSk := Lib.hid hs
              clear hs hlt
              go_wp2_with fail
              refine (HNew.out wr).mono ?_
              rintro e y1 ⟨rfl, hs8, hb8⟩
              have ST := new_sn y1 (0, (some ⟨wr.heap.size, 0, none⟩, n9, n9), (none, 0, 0))
              obtain ⟨Y, hY⟩ : ∃ Y, y1.alloc (.cells (svL (0, (some ⟨wr.heap.size, 0, none⟩, n9, n9), (none, 0, 0))).toArray 51) = Y := ⟨_, rfl⟩
              have bY : Below y1.heap.size y1 Y := by rw [← hY]; exact below_new _ _
              have rY : RowC Y y1.heap.size 51 (svL (0, (some ⟨wr.heap.size, 0, none⟩, n9, n9), (none, 0, 0))) := by rw [← hY]; exact RowC.new y1 _ _
              rw [hY] at ST
              obtain ⟨C, hC⟩ : ∃ C, y1.heap.size = C := ⟨_, rfl⟩
              have HCN : Hid (wr.heap.size ≤ C) := by show _ ≤ _; rw [← hC]; exact hb8.size
              have HCY : Hid (C ≤ Y.heap.size) := by show _ ≤ _; rw [← hC]; exact bY.size
              have bW : Below wr.heap.size wr Y := hb8.trans (bY.mono hb8.size)
              have HBW := Lib.hid bW
              have HBY : Hid (Below W2.heap.size W2 Y) := HB4.out.trans (bW.mono HB4.out.size)
              have HOY : Hid (OwnB W2 Y u6 (H2 ++ ((sSnaps g l).take k).flatten)) := HO.out.below bW
              have HS8 : Hid (Sl .u8 Y (.slice (some ⟨wr.heap.size, 0, none⟩) n9 n9) (List.replicate n9 0)) := hs8.below bY
              rw [hC] at ST rY
              simp only [svV, slV] at ST
              have RY := Lib.hid rY
              clear rY bY hY bW hs8 hb8 k0 k1 k2 k3 k4 k5 k6 k7 k8 k9 k10
              have k6 := (KR.out _ HBY.out).2.2.2.2.2.2.1
              go_upto_if 64 with (fail)
              go_cut [64] from 65 to 69 (fun s64 wx => ∃ (i1 : Int) (a1 a2 : Option Addr) (n1 c1 n2 c2 : Nat), Hid (RowC wx C 51 (svL (i1, (a1, n1, c1), (a2, n2, c2)))) ∧ Hid (i1 = s.id) ∧ Hid (Sl .u8 wx (.slice a1 n1 c1) s.ch) ∧ Hid (s.ch ≠ [] → ∀ p, a1 = some p → p.block < W2.heap.size ∨ wr.heap.size ≤ p.block) ∧ Hid (∀ x : World, Below W2.heap.size W2 x → Prt x (.slice a2 n2 c2) s.tb) ∧ Hid (OwnB W2 wx u6 (H2 ++ ((sSnaps g l).take k).flatten)) ∧ Hid (Below wr.heap.size wr wx))
              case first =>
                clear ST
                by_cases hin : k < qsn
                · have q2 : (k : Int) < (qsn : Int) := by omega
                  obtain ⟨s', hs'⟩ : ∃ s', l[k]? = some s' := ⟨_, List.getElem?_eq_getElem (by rw [← HSN.out]; exact hin)⟩
                  have HSS : Hid (s' = s) := by have := HSk.out; rw [hs'] at this; exact this
                  obtain ⟨rr, hS⟩ := KSn.out W2 (Below.refl _ _)
                  have hSY := hS.below HBY.out
                  obtain ⟨b, off, qv, rfl, hb, hrr, hq, e0, e1, e2⟩ := hSY.at hs'
                  have LD := load_sn e0 e1 e2
                  obtain ⟨Z, hST2, hRZ, hgZ⟩ := store_snC qv RY.out rfl
                  obtain ⟨b', off', q', -, -, hrr', hq', -, -, -⟩ := hS.at hs'
                  obtain rfl : qv = q' := by rw [hrr] at hrr'; exact Option.some.inj hrr'
                  obtain ⟨i1, ⟨a1, n1, c1⟩, ⟨a2, n2, c2⟩⟩ := qv
                  simp only [svV, slV] at LD hST2
                  have hwY : wr.heap.size ≤ Y.heap.size := Nat.le_trans HCN.out HCY.out
                  have hZ : Below wr.heap.size wr Z := HBW.out.grown hgZ hwY (fun j e => by cases e; exact HCN.out)
                  have HZ := Lib.hid hZ
                  have HZ2 : Hid (Below W2.heap.size W2 Z) := HB4.out.trans (hZ.mono HB4.out.size)
                  have HOZ : Hid (OwnB W2 Z u6 (H2 ++ ((sSnaps g l).take k).flatten)) := HO.out.below hZ
                  have HQ2 := Lib.hid hq'
                  have HRZ := Lib.hid hRZ
                  clear hZ hwY hRZ hgZ hq' hrr hrr' hq e0 e1 e2 hb hS hSY hs' hin RY HOY
                  go_wp2_with fail
                  go_meet
                  have hE := HSS.out
                  exact ⟨i1, a1, a2, n1, c1, n2, c2, HRZ, by rw [← hE]; exact HQ2.out.id, by rw [← hE]; exact HQ2.out.ch.below HZ2.out, by rw [← hE]; exact fun hn p hp => .inl (HQ2.out.ch.blk hn p hp), by rw [← hE]; exact fun x hx => HQ2.out.tb.below hx, HOZ, HZ⟩
                · have q2 : ¬ (k : Int) < (qsn : Int) := by omega
                  have q3 : decide (k < qsn) = false := by simpa using hin
                  have HSS : Hid (s = noS g) := by
                    have := HSk.out
                    rw [List.getElem?_eq_none (by rw [← HSN.out]; omega)] at this
                    exact this.symm
                  clear hin
                  go_wp2_with fail
                  go_meet
                  have hE := HSS.out
                  exact ⟨0, some ⟨wr.heap.size, 0, none⟩, none, n9, n9, 0, 0, RY, by rw [hE]; rfl, by rw [hE]; show Sl .u8 Y _ (List.replicate (sizeB (g.b : Int)) 0); rw [HN9.out]; exact HS8.out, fun hn p hp => by cases hp; exact .inr (Nat.le_refl _), by rw [hE]; exact fun x hx => Prt.nil x, HOY, HBW⟩
              case rest =>
                obtain ⟨i1, a1, a2, n1, c1, n2, c2, HRC, HID, HCH, HPB, HPT, HOW, HBX⟩ := hcut
                have HSin : Hid (0 ≤ s.id ∧ s.id ≤ 1000000 ∧ s.ch.length ≤ 8 ∧ PlOk g.b s.tb ∧ s.tb.length ≤ 1000) := by
                  have hn9 : g.n9 ≤ 8 := by unfold SG.n9 sizeB; have := HGB.out; have := HGK.out.b1; rw [if_neg (by omega)]; omega
                  have hk := HSk.out
                  cases hl : l[k]? with
                  | none =>
                    rw [hl] at hk
                    rw [← hk]
                    exact ⟨Int.le_refl 0, by show (0 : Int) ≤ 1000000; decide, by show (noS g).ch.length ≤ 8; rw [noS_len]; exact hn9, fun p hp => (by cases hp), Nat.zero_le _⟩
                  | some s' =>
                    rw [hl] at hk
                    have hk2 : s' = s := hk
                    subst hk2
                    have hm := List.mem_of_getElem? hl
                    have h := HIn.out.sn s' hm
                    exact ⟨h.id0, h.id1, by rw [h.ch]; exact hn9, h.tb.plOk, (HKL.out.2 s' hm).2⟩
                have j0 : 0 ≤ i1 := by rw [HID.out]; exact HSin.out.1
                have j1 : i1 ≤ 1000000 := by rw [HID.out]; exact HSin.out.2.1
                have HJ0 := Lib.hid j0
                have HJ1 := Lib.hid j1
                have HB6 : Hid (Below W2.heap.size W2 wc) := HB4.out.trans (HBX.out.mono HB4.out.size)
                have HB7 : Hid (Below W2.heap.size W2 wc.drew) := HB6.out.drew
                have HRCd : Hid (RowC wc.drew C 51 (svL (i1, (a1, n1, c1), (a2, n2, c2)))) := HRC.out.below (Below.refl _ wc).drew
                have HOWd : Hid (OwnB W2 wc.drew u6 (H2 ++ ((sSnaps g l).take k).flatten)) := HOW.out.below (Below.refl _ wc).drew
                have HCHd : Hid (Sl .u8 wc.drew (.slice a1 n1 c1) s.ch) := HCH.out.below (Below.refl _ wc).drew
                have d0 : ∀ y : RowT C 51 (svL (i1, (a1, n1, c1), (a2, n2, c2))), y.1.cell? ⟨C, 0, none⟩ = some (.int .i64 i1) := fun y => y.2.cell 0 _ rfl
                have d1 : ∀ y : RowT C 51 (svL (i1, (a1, n1, c1), (a2, n2, c2))), y.1.cell? ⟨C, 1, none⟩ = some (.slice a1 n1 c1) := fun y => y.2.cell 1 _ rfl
                haveI : Nonempty (RowT C 51 (svL (i1, (a1, n1, c1), (a2, n2, c2)))) := ⟨⟨wc, HRC.out⟩⟩
                have HUB : Hid (∀ j, u6.ownBlock = some j → j < wr.heap.size) := fun j e => (HO.out.lt j e).2
                clear HRC HOW HCH ST k6
                go_wp2_with fail
                refine region_plan (fun x => ∃ y : RowT C 51 (svL (i1, (a1, n1, c1), (a2, n2, c2))), x = y.1) 9 (.takes [0, 1, 2, 3, 6, 7] (.one 4 (.one 5 (.one 8 .leaf)))) hmx (by kernel_rfl) (by intro c x v a w h; cases x <;> exact h) ⟨⟨wc.drew, HRCd.out⟩, rfl⟩ ?_
                repeat (rw [wpPlan_takes_cons]; simp only [nth_zero, nth_succ]; go_big_quiet_step (fail); refine wpQuiet_nil ?_)
                clear d0 d1
                rw [wpPlan_takes_nil, wpPlan_one]
                simp only [nth_zero, nth_succ]
                go_wp2_with fail
                go_at_call 27
                refine (HPut.out wc.drew i1 HJ0.out (by have := HJ1.out; omega)).mono ?_
                rintro e x2 ⟨v9, rfl, hrow, hb⟩
                have K2 : Hid (Below W2.heap.size W2 x2) := HB7.out.trans (hb.mono HB7.out.size)
                have hO2 := HOWd.out.below hb
                have hR2 := HRCd.out.below hb
                have hC2 := HCHd.out.below hb
                have HR2 := Lib.hid hR2
                obtain ⟨v10, x3, R3, O3, K3, g3⟩ := hO2.appG K2.out (Sl.of_owns (bs := putL i1 4) (by rw [putL_length]; exact hrow)) (by rw [List.length_append, putL_length]; have := HL2.out; have := HLenS.out k; omega)
                have HR3 : Hid (RowC x3 C 51 (svL (i1, (a1, n1, c1), (a2, n2, c2)))) := hR2.grown g3 (row_ne hO2 hR2 (by decide))
                have hC3 : Sl .u8 x3 (.slice a1 n1 c1) s.ch := hC2.grownR g3 (fun hn p hp e => by
                  have h1 := (hO2.lt _ e).1
                  have h2 := HUB.out _ e
                  rcases HPB.out hn p hp with h | h <;> omega)
                obtain ⟨v11, x4, R4, O4, K4, g4⟩ := O3.out.appG K3.out hC3 (by rw [List.length_append, List.length_append, putL_length]; have := HL2.out; have := HLenS.out k; have := HSin.out.2.2.1; omega)
                have HR4 : Hid (RowC x4 C 51 (svL (i1, (a1, n1, c1), (a2, n2, c2)))) := HR3.out.grown g4 (row_ne O3.out HR3.out (by decide))
                clear hO2 hR2 hC2 hC3 g3 g4 hrow hb
                go_wp2_with fail
                refine planPost_mk ⟨⟨x2, HR2.out⟩, rfl⟩ ?_
                rw [wpPlan_one]
                simp only [nth_zero, nth_succ]
                refine wpList_append_run (.tmp 70) (.tmp 74) 31 rfl rfl _ _ _ rfl rfl R3.out ?_
                go_wp2_with fail
                refine planPost_mk ⟨⟨x3, HR3.out⟩, rfl⟩ ?_
                rw [wpPlan_one]
                simp only [nth_zero, nth_succ]
                refine wpList_append_run (.tmp 75) (.tmp 77) 31 rfl rfl _ _ _ rfl rfl R4.out ?_
                go_wp2_with fail
                refine planPost_mk ⟨⟨x4, HR4.out⟩, rfl⟩ ?_
                rw [wpPlan_leaf]
                simp only [List.drop_succ_cons, List.drop_zero]
                clear R3 R4 O3 HR2 HR3
                obtain ⟨k0, k1, k2, k3, k4, k5, k6, k7, k8, k9, k10⟩ := KR.out _ K4.out
                have e2 := HR4.out.cell 2 _ rfl
                simp only [slV] at e2
                go_wp2_with fail
                refine (HPLC.out x4 (.slice a2 n2 c2) s.tb (HPT.out x4 K4.out) HSin.out.2.2.2.2 HSin.out.2.2.2.1).mono ?_
                rintro e x5 ⟨v12, rfl, hrow, hb⟩
                obtain ⟨v13, x6, R6, O6, K6, -⟩ := (O4.out.below hb).appG (K4.out.trans (hb.mono K4.out.size)) (Sl.of_owns (bs := sPlaces g.b s.tb) (by rw [places_len]; exact hrow)) (by rw [List.length_append, List.length_append, List.length_append, putL_length, places_len]; have := HL2.out; have := HLenS.out k; have := HSin.out.2.2.1; have := HGB.out; omega)
                have O7 : Hid (OwnB W2 x6 v13 (H2 ++ ((sSnaps g l).take (k + 1)).flatten)) := by
                  show OwnB _ _ _ _
                  rw [snaps_succ g l HLT.out, HSk.out]
                  have := O6.out
                  rw [HID.out] at this
                  simpa [sSnapB, List.append_assoc] using this
                clear hrow hb O6 k0 k1 k2 k3 k4 k5 k6 k7 k8 k9 k10 e2
                go_wp2_with (at_builtin; refine wpList_append_run (.tmp 79) (.tmp 83) 31 rfl rfl _ _ _ rfl rfl R6.out ?_)
                exact ⟨⟨k + 1, HLT.out, by simp, O7, K6⟩, by have := HLT.out; simp [intOf]; omega⟩
            · obtain rfl : k = 8 := by omega
              clear hlt
              go_wp2_with fail
              refine (HPLC.out wr (.slice qp qpn qpc) ps (KPr.out _ HB4.out) HPLn.out HIn.out.pr.plOk).mono ?_
              rintro e x5 ⟨v12, rfl, hrow, hb⟩
              obtain ⟨v13, x6, R6, O6, K6, -⟩ := (HO.out.below hb).appG (HB4.out.trans (hb.mono HB4.out.size)) (Sl.of_owns (bs := sPlaces g.b ps) (by rw [places_len]; exact hrow)) (by rw [List.length_append, places_len]; have := HL2.out; have := HLenS.out 8; have := HGB.out; omega)
              have HE : Hid (OwnB W2 x6 v13 (sEnc g ⟨d, l, nx, kd, id, ps⟩)) := by
                show OwnB _ _ _ _
                rw [sEnc_is, ← HSN.out, HH.out, HH2.out]
                have := O6.out
                rw [snaps_all] at this
                exact this
              have HG6 : Hid (Below B w x6) := HBF.out _ K6.out
              have HWB : Hid (B ≤ W2.heap.size) := by have := (HBF.out W2 (Below.refl _ _)).size; rw [HSZ.out] at this; exact this
              clear hrow hb k0 k1 k2 k3 k4 k5 k6 k7 k8 k9 k10
              go_wp2_with (at_builtin; refine wpList_append_run (.tmp 85) (.tmp 90) 31 rfl rfl _ _ _ rfl rfl R6.out ?_)
              refine bodyPost_ret (results_tmp2 rfl _ _ _) rfl ?_
              refine ⟨_, _, rfl, ⟨fun _ => ⟨rfl, ?_⟩, fun h => absurd h (by rw [HV1.out]; decide)⟩, HG6.out⟩
              have h := HE.out
              refine ⟨h.1, ?_⟩
              rcases h.2 with h' | ⟨gg, cap, cur, e, h1, h2⟩
              · exact .inl h'
              · exact .inr ⟨gg, cap, cur, e, Nat.le_trans HWB.out h1, h2⟩
end Go.Proofs.YtfihpljgbghogaaGreat

/- The document's First. -/
namespace Go.Proofs.YtfihpljgbghogaaGreat
open Go.RowKit Go.Shelf Go.Lib
set_option linter.unusedVariables false
set_option linter.unusedSimpArgs false
attribute [-simp] Tryz.isAgg51 Tryz.zeroValue51 Tryz.isAgg54 Tryz.zeroValue54 Tryz.isAgg30 Tryz.zeroValue30
attribute [-go_sem] loadVar storeVar
set_option maxRecDepth 100000 in
theorem build_st0 (w : World) : (Instr.build 30 #[]).run Tryz.prog w = .ok (.agg #[.slice none 0 0, .slice none 0 0, .int .i64 0, .int .i64 0, .int .i64 0, .slice none 0 0]) w := by kernel_rfl
set_option maxRecDepth 100000 in
theorem build_st1 (a : Int) (w : World) : (Instr.build 30 #[(2, .int .i64 a)]).run Tryz.prog w = .ok (.agg #[.slice none 0 0, .slice none 0 0, .int .i64 a, .int .i64 0, .int .i64 0, .slice none 0 0]) w := by kernel_rfl
attribute [local go_sem] loadVar_openQ storeVar_openQ zero_sn zero_prs zero_st build_st0 build_st1
set_option maxRecDepth 100000 in
theorem store_stC {x : World} {B : Nat} {old : List Value} (q : PS) (hr : RowC x B 30 old) (ho : old.length = 6) :
    ∃ y, (storeVar 30 ⟨B, 0, none⟩ (stV q)).run Tryz.prog x = .ok () y ∧ RowC y B 30 (stL q) ∧ x.grownBy y (some B) := by
  refine ⟨_, run_storeVar_row x B _ _ old.toArray (stL q).toArray hr size_st (by simpa [stL] using ho) (by kernel_rfl), setRow_heap x B _ _ _ _ hr, ?_⟩
  exact ⟨rfl, rfl, rfl, by rw [setRow_size]; exact Nat.le_refl _, fun k _ hk => setRow_other x B k _ (fun e => hk (by rw [e]))⟩
def noQ : PS := ⟨(none, 0, 0), (none, 0, 0), 0, 0, 0, (none, 0, 0)⟩

set_option maxRecDepth 100000 in
set_option maxHeartbeats 4000000 in
/-- **First** of no sizes. -/
theorem rf14_firstN {w : World} (G : Geo) (hb : ¬ G.good) :
    Calls Tryz.prog 12 #[.agg G.v] w fun e w' => e = .returned (.tuple #[stV noQ, .int .i64 1]) ∧ Below w.heap.size w w' := by
  obtain ⟨gb, gs, gy, ga, gr⟩ := G
  have HG : Hid (∀ x : World, Calls Tryz.prog 33 #[.agg (Geo.v ⟨gb, gs, gy, ga, gr⟩)] x fun e w' => e = .returned (.bool false) ∧ Below x.heap.size x w') := fun x =>
    (refGood7 ⟨gb, gs, gy, ga, gr⟩ x).mono fun e y hy => ⟨by rw [hy.1, decide_eq_false hb], hy.2⟩
  clear hb
  unfold Geo.v at *
  simp only at *
  obtain ⟨B, hB⟩ : ∃ B, w.heap.size = B := ⟨_, rfl⟩
  obtain ⟨W1, hW1⟩ : ∃ W, w.alloc (.cells #[.int .i64 gb, .int .i64 gs, .int .i64 gy, .int .i64 ga, .int .i64 gr] 23) = W := ⟨_, rfl⟩
  obtain ⟨W2, hW2⟩ : ∃ W, W1.alloc (.cells #[.slice none 0 0, .slice none 0 0, .int .i64 0, .int .i64 0, .int .i64 0, .slice none 0 0] 30) = W := ⟨_, rfl⟩
  have s1 : W1.heap.size = B + 1 := by rw [← hW1, ← hB]; simp
  have r1 : RowC W1 B 23 [.int .i64 gb, .int .i64 gs, .int .i64 gy, .int .i64 ga, .int .i64 gr] := by rw [← hW1, ← hB]; exact RowC.new _ _ _
  have r2 : RowC W2 (B + 1) 30 (stL noQ) := by rw [← hW2, ← s1]; exact RowC.new _ _ _
  have b1 : Below B w W1 := by rw [← hW1, ← hB]; exact below_new _ _
  have b2 : Below W1.heap.size W1 W2 := by rw [← hW2]; exact below_new _ _
  have HB : Hid (Below B w W2) := b1.trans (b2.mono (by omega))
  have HR2 := Lib.hid r2
  have t1 := r1.below b2
  have k0 := t1.cell 0 _ rfl
  have k1 := t1.cell 1 _ rfl
  have k2 := t1.cell 2 _ rfl
  have k3 := t1.cell 3 _ rfl
  have k4 := t1.cell 4 _ rfl
  have HS2 : Hid (B ≤ W2.heap.size) := by show B ≤ _; rw [← hB]; exact HB.out.size
  rw [hB]
  clear r1 b1 b2 t1 r2
  go_enter Tryz.func12, Tryz.ntmps12
  go_wp2_with fail
  refine (HG.out W2).mono ?_
  rintro e y ⟨rfl, hy⟩
  obtain ⟨z, hS, hRz, hgz⟩ := store_stC noQ (HR2.out.below hy) rfl
  have HZ : Hid (Below B w z) := (HB.out.trans (hy.mono HS2.out)).grown hgz (Nat.le_trans HS2.out hy.size) (fun j e => by cases e; exact Nat.le_succ B)
  have HRz := Lib.hid hRz
  simp only [stV, stL, slV, noQ] at hS
  clear hy k0 k1 k2 k3 k4 hRz hgz
  go_wp2_with fail
  exact bodyPost_ret (results_cell2 rfl rfl (load_stC HRz.out)) rfl ⟨rfl, HZ.out⟩

set_option maxRecDepth 100000 in
set_option maxHeartbeats 4000000 in
/-- **First**. -/
theorem rf14_first {w : World} (g : SG) (hg : g.Ok) (r : Int) (hr : (g.geo r).good) :
    Calls Tryz.prog 12 #[.agg (g.v r)] w fun e w' => ∃ x n c, e = .returned (.tuple #[stV ⟨(x, n, c), (none, 0, 0), 1, 0, 0, (none, 0, 0)⟩, .int .i64 0]) ∧ InO w.heap.size w' (.slice x n c) (List.replicate g.slots (-1)) ∧ Below w.heap.size w w' := by
  have HG : Hid (∀ x : World, Calls Tryz.prog 33 #[.agg (g.v r)] x fun e w' => e = .returned (.bool true) ∧ Below x.heap.size x w') := fun x => good_doc hr x
  have h3 := hg.s1
  have h4 := hg.s8
  have h5 := hg.y1
  have h6 := hg.y4
  obtain ⟨Z, hz⟩ : ∃ Z, g.s * g.y = Z := ⟨_, rfl⟩
  have hzi : (g.s : Int) * (g.y : Int) = (Z : Int) := by rw [← hz]; simp
  have hz32 : Z ≤ 32 := by rw [← hz]; exact Nat.le_trans (Nat.mul_le_mul h4 h6) (by decide)
  have HZ : Hid (g.slots = Z) := hz
  rw [HZ.out]
  obtain ⟨B, hB⟩ : ∃ B, w.heap.size = B := ⟨_, rfl⟩
  obtain ⟨W1, hW1⟩ : ∃ W, w.alloc (.cells (g.v r) 23) = W := ⟨_, rfl⟩
  obtain ⟨W2, hW2⟩ : ∃ W, W1.alloc (.cells #[.slice none 0 0, .slice none 0 0, .int .i64 0, .int .i64 0, .int .i64 0, .slice none 0 0] 30) = W := ⟨_, rfl⟩
  have s1 : W1.heap.size = B + 1 := by rw [← hW1, ← hB]; simp
  have s2 : W2.heap.size = B + 2 := by rw [← hW2, World.size_alloc, s1]
  have r1 : RowC W1 B 23 [.int .i64 (g.b : Int), .int .i64 (g.s : Int), .int .i64 (g.y : Int), .int .i64 (g.a : Int), .int .i64 r] := by rw [← hW1, ← hB]; exact RowC.new _ _ _
  have r2 : RowC W2 (B + 1) 30 (stL noQ) := by rw [← hW2, ← s1]; exact RowC.new _ _ _
  have b1 : Below B w W1 := by rw [← hW1, ← hB]; exact below_new _ _
  have b2 : Below W1.heap.size W1 W2 := by rw [← hW2]; exact below_new _ _
  have HB : Hid (Below B w W2) := b1.trans (b2.mono (by omega))
  have HR1 : Hid (RowC W2 B 23 [.int .i64 (g.b : Int), .int .i64 (g.s : Int), .int .i64 (g.y : Int), .int .i64 (g.a : Int), .int .i64 r]) := r1.below b2
  have HR2 := Lib.hid r2
  have HS2 := Lib.hid s2
  have t1 := HR1.out
  have k0 := t1.cell 0 _ rfl
  have k1 := t1.cell 1 _ rfl
  have k2 := t1.cell 2 _ rfl
  have k3 := t1.cell 3 _ rfl
  have k4 := t1.cell 4 _ rfl
  rw [hB]
  clear r1 b1 b2 t1 r2 hz hg hr
  unfold SG.v at *
  go_enter Tryz.func12, Tryz.ntmps12
  go_wp2_with fail
  refine (HG.out W2).mono ?_
  rintro e x1 ⟨rfl, hx1⟩
  have ST := new_st x1 ⟨(none, 0, 0), (none, 0, 0), 1, 0, 0, (none, 0, 0)⟩
  obtain ⟨X, hX⟩ : ∃ X, x1.alloc (.cells (stL ⟨(none, 0, 0), (none, 0, 0), 1, 0, 0, (none, 0, 0)⟩).toArray 30) = X := ⟨_, rfl⟩
  have bX : Below x1.heap.size x1 X := by rw [← hX]; exact below_new _ _
  have rX : RowC X x1.heap.size 30 (stL ⟨(none, 0, 0), (none, 0, 0), 1, 0, 0, (none, 0, 0)⟩) := by rw [← hX]; exact RowC.new x1 _ _
  rw [hX] at ST
  obtain ⟨C, hC⟩ : ∃ C, x1.heap.size = C := ⟨_, rfl⟩
  have HC2 : Hid (B + 2 ≤ C) := by show _ ≤ _; rw [← hC, ← s2]; exact hx1.size
  have bW : Below W2.heap.size W2 X := hx1.trans (bX.mono hx1.size)
  have HI1 : Hid (RowC X B 23 [.int .i64 (g.b : Int), .int .i64 (g.s : Int), .int .i64 (g.y : Int), .int .i64 (g.a : Int), .int .i64 r]) := HR1.out.below bW
  have HI2 : Hid (RowC X (B + 1) 30 (stL noQ)) := HR2.out.below bW
  have HI5 : Hid (Below B w X) := HB.out.trans (bW.mono (by omega))
  rw [hC] at ST rX
  have HI3 : Hid (RowC X C 30 [.slice none 0 0, .slice none 0 0, .int .i64 1, .int .i64 0, .int .i64 0, .slice none 0 0]) := rX
  simp only [stV, stL, slV] at ST
  clear hx1 rX bX bW hX k0 k1 k2 k3 k4
  go_wp2_with fail
  go_loopw [5] (fun iv wr => ∃ (k : Nat) (x : Option Addr) (n c : Nat), k ≤ Z ∧ iv = .int .i64 (k : Int) ∧ Hid (RowC wr B 23 [.int .i64 (g.b : Int), .int .i64 (g.s : Int), .int .i64 (g.y : Int), .int .i64 (g.a : Int), .int .i64 r]) ∧ Hid (RowC wr (B + 1) 30 (stL noQ)) ∧ Hid (RowC wr C 30 [.slice x n c, .slice none 0 0, .int .i64 1, .int .i64 0, .int .i64 0, .slice none 0 0]) ∧ Hid (InO (C + 1) wr (.slice x n c) (List.replicate k (-1))) ∧ Hid (Below B w wr)) (fun iv _ => Z - (intOf iv).toNat)
  case atStart => exact ⟨0, none, 0, 0, Nat.zero_le _, rfl, HI1, HI2, HI3, InO.nil _ _, HI5⟩
  case round =>
    clear HI1 HI2 HI3 HI5 ST
    obtain ⟨k, x, n, c, hk, rfl, I1, I2, I3, I4, I5⟩ := hrel
    have c1 := I1.out.cell 1 _ rfl
    have c2 := I1.out.cell 2 _ rfl
    by_cases hlt : k < Z
    · have q1 : (k : Int) < (Z : Int) := by omega
      have HLT := Lib.hid hlt
      have d0 := I3.out.cell 0 _ rfl
      have hcs := I3.out.lt
      obtain ⟨v', y, hA, hI, hg, -⟩ := in_append I4.out (by omega) (-1) (by rw [List.length_replicate]; omega)
      obtain ⟨x', c', rfl, -⟩ := row_lenT hI
      have hne : ∀ j, j ≤ C → (Value.slice x n c).ownBlock ≠ some j := fun j hj e => by have := (I4.out.base j e).1; omega
      have J1 := I1.out.grown hg (hne B (by have := HC2.out; omega))
      have J2 := I2.out.grown hg (hne (B + 1) (by have := HC2.out; omega))
      have J3 := I3.out.grown hg (hne C (Nat.le_refl _))
      have J5 := I5.out.grown hg (by have := HC2.out; omega) (fun j e => by have := (I4.out.base j e).1; have := HC2.out; omega)
      obtain ⟨m', hm'⟩ : ∃ m, (List.replicate k (-1 : Int) ++ [-1]).length = m := ⟨_, rfl⟩
      rw [hm'] at hA hI
      have gS := grownBy_setCellJ y C 0 (.slice x' m' c')
      have O1 : Hid (RowC (y.setCell ⟨C, 0, none⟩ (.slice x' m' c')) B 23 [.int .i64 (g.b : Int), .int .i64 (g.s : Int), .int .i64 (g.y : Int), .int .i64 (g.a : Int), .int .i64 r]) := J1.grown gS (fun e => by have := HC2.out; simp at e; omega)
      have O2 : Hid (RowC (y.setCell ⟨C, 0, none⟩ (.slice x' m' c')) (B + 1) 30 (stL noQ)) := J2.grown gS (fun e => by have := HC2.out; simp at e; omega)
      have O3 : Hid (RowC (y.setCell ⟨C, 0, none⟩ (.slice x' m' c')) C 30 [.slice x' m' c', .slice none 0 0, .int .i64 1, .int .i64 0, .int .i64 0, .slice none 0 0]) := J3.set 0 _
      have O4 : Hid (InO (C + 1) (y.setCell ⟨C, 0, none⟩ (.slice x' m' c')) (.slice x' m' c') (List.replicate (k + 1) (-1))) := by
        show InO _ _ _ _
        rw [List.replicate_succ']
        exact own_setB hI J3 (by decide) 0 _
      have O5 : Hid (Below B w (y.setCell ⟨C, 0, none⟩ (.slice x' m' c'))) := J5.setCell (p := ⟨C, 0, none⟩) (by have := HC2.out; show B ≤ C; omega) _
      have e0 := J3.cell 0 _ rfl
      have f0 := J3.frozen 0
      have HA := Lib.hid hA
      clear hA hI hg hne J1 J2 J3 J5 gS hm' hlt
      go_wp2_with (first | (at_builtin; refine wpList_append_run (.tmp 21) (.tmp 22) 24 rfl rfl _ _ _ rfl rfl (HA.out _) ?_))
      exact ⟨⟨k + 1, x', m', c', HLT.out, by simp, O1, O2, O3, O4, O5⟩, by have := HLT.out; simp [intOf]; omega⟩
    · obtain rfl : k = Z := by omega
      have LS := load_stC (q := ⟨(x, n, c), (none, 0, 0), 1, 0, 0, (none, 0, 0)⟩) I3.out
      obtain ⟨y, hS, hRy, hgy⟩ := store_stC ⟨(x, n, c), (none, 0, 0), 1, 0, 0, (none, 0, 0)⟩ I2.out rfl
      have HRy := Lib.hid hRy
      have O4 : Hid (InO B y (.slice x n c) (List.replicate k (-1))) := by
        have h := World.ownsRow.kept I4.out hgy (.inr (row_ne I4.out I2.out (by decide)))
        refine ⟨h.1, ?_⟩
        rcases h.2 with h' | ⟨gg, cap, cur, e, h1, h2⟩
        · exact .inl h'
        · exact .inr ⟨gg, cap, cur, e, by have := HC2.out; omega, h2⟩
      have O5 : Hid (Below B w y) := I5.out.grown hgy (by have := I2.out.lt; omega) (fun j e => by cases e; exact Nat.le_succ B)
      simp only [stV, stL, slV] at LS hS
      clear hlt hRy hgy
      go_wp2_with fail
      exact bodyPost_ret (results_cell2 rfl rfl (load_stC HRy.out)) rfl ⟨x, n, c, rfl, O4.out, O5.out⟩
end Go.Proofs.YtfihpljgbghogaaGreat

/- What Decode reads, part by part (plain). -/
namespace Go.Proofs.YtfihpljgbghogaaGreat
open Go.RowKit
set_option linter.unusedVariables false
theorem seg_len {bs : List Int} {a n : Nat} (h : a + n ≤ bs.length) : (seg bs a n).length = n := by
  unfold seg
  rw [List.length_take, List.length_drop]
  omega
theorem seg_get {bs : List Int} {a n k : Nat} (h : k < n) : (seg bs a n)[k]? = bs[a + k]? := by
  unfold seg
  rw [List.getElem?_take, if_pos h, List.getElem?_drop]
theorem seg_all {bs : List Int} {a n : Nat} (h : bs.length = a + n) : seg bs a n = bs.drop a := by
  unfold seg
  exact List.take_of_length_le (by rw [List.length_drop]; omega)
theorem SG.at_zero (g : SG) : g.at 0 = 10 + g.slots := by unfold SG.at; omega
theorem SG.at_succ (g : SG) (i : Nat) : g.at (i + 1) = g.at i + (4 + g.n9 + g.b) := by unfold SG.at SG.step; rw [Nat.add_mul]; omega
theorem SG.at_end (g : SG) : g.at 8 + g.b = g.bts := by unfold SG.at SG.bts; omega
theorem SG.at_le (g : SG) {i : Nat} (h : i < 8) : g.at i + (4 + g.n9 + g.b) + g.b ≤ g.bts := by
  have h1 := g.at_succ i
  have h2 : g.at (i + 1) ≤ g.at 8 := by
    unfold SG.at
    have := Nat.mul_le_mul_right g.step (show i + 1 ≤ 8 by omega)
    omega
  have := g.at_end
  omega
/-- The dirty slots read so far. -/
def dirtK (g : SG) (bs : List Int) (k : Nat) : List Int := ((seg bs 10 g.slots).take k).map (· - 1)
theorem dirtK_zero (g : SG) (bs : List Int) : dirtK g bs 0 = [] := by unfold dirtK; simp
theorem dirtK_succ (g : SG) {bs : List Int} {k : Nat} (hk : k < g.slots) (hl : 10 + g.slots ≤ bs.length) : dirtK g bs (k + 1) = dirtK g bs k ++ [(bs[10 + k]?.getD 0) - 1] := by
  unfold dirtK
  have h : (seg bs 10 g.slots)[k]? = some (bs[10 + k]?.getD 0) := by
    rw [seg_get hk, List.getElem?_eq_getElem (show 10 + k < bs.length by omega)]
    rfl
  rw [take_at h, List.map_append]
  rfl
theorem dirtK_all (g : SG) {bs : List Int} (hl : 10 + g.slots ≤ bs.length) : dirtK g bs g.slots = (seg bs 10 g.slots).map (· - 1) := by
  unfold dirtK
  rw [List.take_of_length_le (by rw [seg_len hl]; exact Nat.le_refl _)]
/-- The snapshots read so far: of i blocks of bytes, as many as byte 4 says. -/
def snK (g : SG) (bs : List Int) (i : Nat) : List SN := (List.range (min i (bs[4]?.getD 0).toNat)).map fun i => sSnapR g (seg bs (g.at i) g.step)
theorem snK_zero (g : SG) (bs : List Int) : snK g bs 0 = [] := by unfold snK; simp
theorem snK_in (g : SG) {bs : List Int} {i : Nat} (h : i < (bs[4]?.getD 0).toNat) : snK g bs (i + 1) = snK g bs i ++ [sSnapR g (seg bs (g.at i) g.step)] := by
  unfold snK
  rw [Nat.min_eq_left (by omega), Nat.min_eq_left (by omega), List.range_succ, List.map_append]
  rfl
theorem snK_out (g : SG) {bs : List Int} {i : Nat} (h : (bs[4]?.getD 0).toNat ≤ i) : snK g bs (i + 1) = snK g bs i := by
  unfold snK
  rw [Nat.min_eq_right (by omega), Nat.min_eq_right (by omega)]
theorem snK_all (g : SG) {bs : List Int} (h : (bs[4]?.getD 0).toNat ≤ 8) : snK g bs 8 = (List.range (bs[4]?.getD 0).toNat).map fun i => sSnapR g (seg bs (g.at i) g.step) := by
  unfold snK
  rw [Nat.min_eq_right h]
/-- All of it. -/
theorem parse_is (g : SG) {bs : List Int} (hl : bs.length = g.bts) (h4 : (bs[4]?.getD 0).toNat ≤ 8) : sParse g bs = ⟨dirtK g bs g.slots, snK g bs 8, getL (seg bs 0 4), bs[5]?.getD 0, getL (seg bs 6 4), prFrom 0 (bs.drop (g.at 8))⟩ := by
  unfold sParse
  rw [dirtK_all g (by have := g.at_end; have := g.at_zero; rw [hl]; unfold SG.bts; omega), snK_all g h4, seg_all (a := g.at 8) (n := g.b) (by rw [hl]; exact g.at_end.symm)]
end Go.Proofs.YtfihpljgbghogaaGreat

/- The program's state: numbers, bytes and snapshots read. -/
namespace Go.Proofs.YtfihpljgbghogaaGreat
open Go.RowKit Go.Shelf Go.Lib
set_option linter.unusedVariables false
set_option linter.unusedSimpArgs false
theorem getL_lt {bs : List Int} (h : IsBytes bs) {k : Nat} (hk : k ≤ 4) (hl : bs.length = k) : 0 ≤ getL bs ∧ getL bs < 4294967296 := by
  have h1 := getN_bd bs h (nPlaces (bs.length : Int))
  unfold getL
  have h2 : nPlaces (bs.length : Int) ≤ 4 := by unfold nPlaces; rw [hl]; split <;> omega
  refine ⟨h1.1, Int.lt_of_lt_of_le h1.2 ?_⟩
  generalize nPlaces (bs.length : Int) = m at h2
  match m, h2 with
  | 0, _ => decide
  | 1, _ => decide
  | 2, _ => decide
  | 3, _ => decide
  | 4, _ => decide
  | m + 5, h => omega
theorem isB_take {bs : List Int} (h : IsBytes bs) (k : Nat) : IsBytes (bs.take k) := fun j => by
  rw [List.getElem?_take]
  split
  · exact h j
  · exact ⟨by simp, by simp⟩
theorem isB_drop {bs : List Int} (h : IsBytes bs) (k : Nat) : IsBytes (bs.drop k) := fun j => by
  rw [List.getElem?_drop]
  exact h (k + j)
set_option maxRecDepth 100000 in
set_option maxHeartbeats 2000000 in
/-- **number**. -/
theorem sg_number {N : Nat} (rb : Nat) (bs : List Int) (k : Nat) (w : World) (hr : Rdr w N rb bs) (hB : IsBytes bs) (hk : k ≤ bs.length) (hk4 : k ≤ 4) :
    Calls Tryz.prog 64 #[.pointer (some ⟨rb, 0, none⟩), .int .i64 (k : Int)] w fun e w' => e = .returned (.int .i64 (getL (bs.take k))) ∧ Rdr w' N rb (bs.drop k) ∧ w.grownBy w' (some rb) := by
  have HN := Lib.hid (num_yes rb bs k w hr hB hk)
  obtain ⟨z, hz⟩ : ∃ z, getL (bs.take k) = z := ⟨_, rfl⟩
  obtain ⟨z0, z1⟩ := getL_lt (isB_take hB k) hk4 (by rw [List.length_take]; omega)
  rw [hz] at HN z0 z1 ⊢
  clear hr hB hz
  go_enter Tryz.func64, Tryz.ntmps64
  go_wp2_with fail
  refine HN.out.mono ?_
  rintro e w1 ⟨rfl, h1, h2⟩
  have H1 := Lib.hid h1
  have H2 := Lib.hid h2
  clear h1 h2 HN
  go_wp2_with fail
  go_ret
  exact ⟨rfl, H1.out, H2.out⟩
set_option maxRecDepth 100000 in
set_option maxHeartbeats 2000000 in
/-- **taken**. -/
theorem sg_taken {N : Nat} (rb : Nat) (bs : List Int) (k : Nat) (w : World) (hr : Rdr w N rb bs) (hk : k ≤ bs.length) (hcap : bs.length ≤ 100000) :
    Calls Tryz.prog 65 #[.pointer (some ⟨rb, 0, none⟩), .int .i64 (k : Int)] w fun e w' =>
      ∃ g, e = .returned (.slice (some ⟨g, 0, none⟩) k k) ∧ w'.ownsRow w.heap.size 5 1 (.slice (some ⟨g, 0, none⟩) k k) (bs.take k).length ((bs.take k).map (Value.int .u8)) ∧ Rdr w' N rb (bs.drop k) ∧ w.grownBy w' (some rb) := by
  have HN := Lib.hid (take_yes rb bs k w hr hk (by omega))
  have hlk : (bs.take k).length = k := by rw [List.length_take]; omega
  have HLK := Lib.hid hlk
  have hkm : k ≤ maxLen := by unfold maxLen; omega
  have HKM := Lib.hid hkm
  clear hr hlk hkm
  go_enter Tryz.func65, Tryz.ntmps65
  go_wp2_with fail
  refine HN.out.mono ?_
  rintro e w1 ⟨g, rfl, hg, hrow, h1, h2⟩
  have H1 := Lib.hid h1
  have H2 := Lib.hid h2
  have HO : Hid (w1.ownsRow w.heap.size 5 1 (.slice (some ⟨g, 0, none⟩) k k) (bs.take k).length ((bs.take k).map (Value.int .u8))) := by
    have := row_owns hrow hg (by rw [HLK.out]; exact HKM.out)
    rw [HLK.out] at this ⊢
    exact this
  clear hg hrow h1 h2 HN
  go_wp2_with fail
  go_ret
  exact ⟨_, rfl, HO.out, H1.out, H2.out⟩

attribute [-simp] Tryz.isAgg51 Tryz.zeroValue51 Tryz.isAgg54 Tryz.zeroValue54 Tryz.isAgg30 Tryz.zeroValue30
attribute [-go_sem] loadVar storeVar
attribute [local go_sem] loadVar_openQ storeVar_openQ zero_sn zero_prs zero_st build_sn
theorem isB_seg {bs : List Int} (h : IsBytes bs) (a n : Nat) : IsBytes (seg bs a n) := isB_take (isB_drop h a) n
/-- One snapshot of the first bytes. -/
theorem snapR_zero (g : SG) (bs : List Int) : sSnapR g (seg bs 0 g.step) = ⟨getL (bs.take 4), (bs.drop 4).take g.n9, prFrom 0 (((bs.drop 4).drop g.n9).take g.b)⟩ := by
  unfold sSnapR
  have e : ∀ o n, o + n ≤ g.step → seg (seg bs 0 g.step) o n = seg bs o n := fun o n h => by rw [seg_seg bs h, Nat.zero_add]
  rw [e 0 4 (by unfold SG.step; omega), e 4 g.n9 (by unfold SG.step; omega), e (4 + g.n9) g.b (by unfold SG.step; omega)]
  unfold seg
  rw [List.drop_zero, List.drop_drop]

set_option maxRecDepth 100000 in
set_option maxHeartbeats 4000000 in
/-- **readSnap**. -/
theorem sg_readSnap {N : Nat} (rb : Nat) (bs : List Int) (w : World) (g : SG) (hg : g.Ok) (r0 : Int) (hr : Rdr w N rb bs) (hB : IsBytes bs) (hl : g.step ≤ bs.length) (hcap : bs.length ≤ 1000) :
    Calls Tryz.prog 67 #[.pointer (some ⟨rb, 0, none⟩), .agg (g.v r0)] w fun e w' =>
      ∃ q : SV, e = .returned (svV q) ∧ SnF w.heap.size w' q (sSnapR g (seg bs 0 g.step)) ∧ Rdr w' N rb (bs.drop g.step) ∧ w.grownBy w' (some rb) := by
  have hmx : Tryz.prog.follows .mixedOrders = true := by kernel_rfl
  have hrb : rb < N ∧ N ≤ w.heap.size := by obtain ⟨b, off, cap, h0, h1, h2, h3, h4, h5⟩ := hr; exact h5
  obtain ⟨B, hBB⟩ : ∃ B, w.heap.size = B := ⟨_, rfl⟩
  obtain ⟨W1, hW1⟩ : ∃ W, w.alloc (.cells (g.v r0) 23) = W := ⟨_, rfl⟩
  obtain ⟨W2, hW2⟩ : ∃ W, W1.alloc (.cells #[.int .i64 0, .slice none 0 0, .slice none 0 0] 51) = W := ⟨_, rfl⟩
  have s1 : W1.heap.size = B + 1 := by rw [← hW1, ← hBB]; simp
  have r1 : RowC W1 B 23 [.int .i64 (g.b : Int), .int .i64 (g.s : Int), .int .i64 (g.y : Int), .int .i64 (g.a : Int), .int .i64 r0] := by rw [← hW1, ← hBB]; exact RowC.new _ _ _
  have r2 : RowC W2 (B + 1) 51 [.int .i64 0, .slice none 0 0, .slice none 0 0] := by rw [← hW2, ← s1]; exact RowC.new _ _ _
  have b1 : Below B w W1 := by rw [← hW1, ← hBB]; exact below_new _ _
  have b2 : Below W1.heap.size W1 W2 := by rw [← hW2]; exact below_new _ _
  have hBF : Below w.heap.size w W2 := by rw [hBB]; exact b1.trans (b2.mono (by omega))
  have gd : Below w.heap.size w W2.drew := hBF.drew
  have HG0 : Hid (w.grownBy W2.drew (some rb)) := grown_below gd _
  have R0 : Hid (Rdr W2.drew N rb bs) := hr.kept (grown_below gd none) (fun r e => by cases e)
  have HR1 : Hid (RowC W2.drew B 23 [.int .i64 (g.b : Int), .int .i64 (g.s : Int), .int .i64 (g.y : Int), .int .i64 (g.a : Int), .int .i64 r0]) := (r1.below b2).below (Below.refl _ W2).drew
  have HR2 : Hid (RowC W2.drew (B + 1) 51 [.int .i64 0, .slice none 0 0, .slice none 0 0]) := r2.below (Below.refl _ W2).drew
  have HRB : Hid (rb < B) := by show _ < _; omega
  have HNB : Hid (N ≤ B) := by show _ ≤ _; omega
  have HZ0 : Hid (B + 2 ≤ W2.drew.heap.size) := by show _ ≤ W2.heap.size; rw [← hW2]; simp [s1]
  have d0 : ∀ y : RowT B 23 [.int .i64 (g.b : Int), .int .i64 (g.s : Int), .int .i64 (g.y : Int), .int .i64 (g.a : Int), .int .i64 r0], y.1.cell? ⟨B, 0, none⟩ = some (.int .i64 (g.b : Int)) := fun y => y.2.cell 0 _ rfl
  haveI : Nonempty (RowT B 23 [.int .i64 (g.b : Int), .int .i64 (g.s : Int), .int .i64 (g.y : Int), .int .i64 (g.a : Int), .int .i64 r0]) := ⟨⟨W2.drew, HR1.out⟩⟩
  have HSZ := Lib.hid hBB
  have HBY := Lib.hid hB
  have HLL : Hid (4 + g.n9 + g.b ≤ bs.length) := hl
  have HCAP := Lib.hid hcap
  have hn9 := sizeB_le64 hg
  have hgb := hg.b64
  have HNW : Hid (∀ x : World, Calls Tryz.prog 25 #[.int .i64 (g.b : Int)] x fun e w' => ∃ v, e = .returned v ∧ Sl .u8 w' v (List.replicate g.n9 0) ∧ Below x.heap.size x w') := fun x => bi_new (g.b : Int) x
  obtain ⟨n9, hn9e⟩ : ∃ n, g.n9 = n := ⟨_, rfl⟩
  have HN9 := Lib.hid hn9e
  have hn98 : n9 ≤ 8 := by rw [← hn9e]; exact hn9
  rw [hn9e] at HNW HLL
  have HSR : Hid (sSnapR g (seg bs 0 g.step) = ⟨getL (bs.take 4), (bs.drop 4).take n9, prFrom 0 (((bs.drop 4).drop n9).take g.b)⟩) := by show _ = _; rw [snapR_zero, hn9e]
  have HST : Hid (bs.drop g.step = ((bs.drop 4).drop n9).drop g.b) := by show _ = _; unfold SG.step; rw [List.drop_drop, List.drop_drop, hn9e, Nat.add_assoc]
  clear hr hB hl hcap r1 r2 b1 b2 hBF gd hn9 hn9e hg hrb
  unfold SG.v at *
  go_enter Tryz.func67, Tryz.ntmps67
  go_wp2_with fail
  refine region_plan (fun x => ∃ z : RowT B 23 [.int .i64 (g.b : Int), .int .i64 (g.s : Int), .int .i64 (g.y : Int), .int .i64 (g.a : Int), .int .i64 r0], x = z.1) 14 (.takes [0, 2, 3, 4, 8, 9, 10] (.one 1 (.one 5 (.takes [6] (.one 7 (.one 11 (.one 12 (.one 13 .leaf)))))))) hmx (by kernel_rfl) (by intro c x v a w h; cases x <;> exact h) ⟨⟨W2.drew, HR1.out⟩, rfl⟩ ?_
  repeat (rw [wpPlan_takes_cons]; simp only [nth_zero, nth_succ]; go_big_quiet_step (fail); refine wpQuiet_nil ?_)
  clear d0
  rw [wpPlan_takes_nil, wpPlan_one]
  simp only [nth_zero, nth_succ]
  go_wp2_with fail
  go_at_call 64
  refine (sg_number rb bs 4 W2.drew R0.out HBY.out (by have := HLL.out; omega) (Nat.le_refl _)).mono ?_
  rintro e x1 ⟨rfl, hr1, hg1⟩
  have G1 : Hid (w.grownBy x1 (some rb)) := grown_trans HG0.out hg1
  have A1 : Hid (RowC x1 B 23 [.int .i64 (g.b : Int), .int .i64 (g.s : Int), .int .i64 (g.y : Int), .int .i64 (g.a : Int), .int .i64 r0]) := HR1.out.grown hg1 (by have := HRB.out; simp; omega)
  have C1 : Hid (RowC x1 (B + 1) 51 [.int .i64 0, .slice none 0 0, .slice none 0 0]) := HR2.out.grown hg1 (by have := HRB.out; simp; omega)
  have R1 := Lib.hid hr1
  have Z1 : Hid (B + 2 ≤ x1.heap.size) := by have := HZ0.out; have := hg1.size; show _ ≤ _; omega
  obtain ⟨z, hz⟩ : ∃ z, getL (bs.take 4) = z := ⟨_, rfl⟩
  have HZZ := Lib.hid hz
  have HZB : Hid (0 ≤ z ∧ z < 4294967296) := by rw [← hz]; exact getL_lt (isB_take HBY.out 4) (Nat.le_refl _) (by rw [List.length_take]; have := HLL.out; omega)
  rw [hz]
  clear hr1 hg1 hz
  go_wp2_with fail
  refine planPost_mk ⟨⟨x1, A1.out⟩, rfl⟩ ?_
  rw [wpPlan_one]
  simp only [nth_zero, nth_succ]
  go_wp2_with fail
  go_at_call 25
  refine (HNW.out x1).mono ?_
  rintro e x2 ⟨v2, rfl, hv2, hb2⟩
  obtain ⟨z2, c2, rfl⟩ : ∃ a c, v2 = .slice a n9 c := by obtain ⟨a, c, e, -⟩ := hv2; rw [List.length_replicate] at e; exact ⟨a, c, e⟩
  have hg2 := grown_below hb2 (some rb)
  have G2 : Hid (w.grownBy x2 (some rb)) := grown_trans G1.out hg2
  have A2 : Hid (RowC x2 B 23 [.int .i64 (g.b : Int), .int .i64 (g.s : Int), .int .i64 (g.y : Int), .int .i64 (g.a : Int), .int .i64 r0]) := A1.out.below hb2
  have C2 : Hid (RowC x2 (B + 1) 51 [.int .i64 0, .slice none 0 0, .slice none 0 0]) := C1.out.below hb2
  have R2 : Hid (Rdr x2 N rb (bs.drop 4)) := R1.out.below (grown_below hb2 none)
  have Z2 : Hid (B + 2 ≤ x2.heap.size) := by have := Z1.out; have := hb2.size; show _ ≤ _; omega
  clear hv2 hb2 hg2
  go_wp2_with fail
  refine planPost_mk ⟨⟨x2, A2.out⟩, rfl⟩ ?_
  repeat (rw [wpPlan_takes_cons]; simp only [nth_zero, nth_succ]; go_big_quiet_step (fail); refine wpQuiet_nil ?_)
  rw [wpPlan_takes_nil, wpPlan_one]
  simp only [nth_zero, nth_succ]
  go_wp2_with fail
  go_at_call 65
  refine (sg_taken rb (bs.drop 4) n9 x2 R2.out (by have := HLL.out; rw [List.length_drop]; omega) (by have := HCAP.out; rw [List.length_drop]; omega)).mono ?_
  rintro e x3 ⟨q3, rfl, ho3, hr3, hg3⟩
  have G3 : Hid (w.grownBy x3 (some rb)) := grown_trans G2.out hg3
  have A3 : Hid (RowC x3 B 23 [.int .i64 (g.b : Int), .int .i64 (g.s : Int), .int .i64 (g.y : Int), .int .i64 (g.a : Int), .int .i64 r0]) := A2.out.grown hg3 (by have := HRB.out; simp; omega)
  have C3 : Hid (RowC x3 (B + 1) 51 [.int .i64 0, .slice none 0 0, .slice none 0 0]) := C2.out.grown hg3 (by have := HRB.out; simp; omega)
  have R3 := Lib.hid hr3
  have Z3 : Hid (B + 2 ≤ x3.heap.size) := by have := Z2.out; have := hg3.size; show _ ≤ _; omega
  have O3 : Hid (x3.ownsRow B 5 1 (.slice (some ⟨q3, 0, none⟩) n9 n9) ((bs.drop 4).take n9).length (((bs.drop 4).take n9).map (Value.int .u8))) := own_weak ho3 (by have := Z2.out; omega)
  clear hr3 hg3 ho3
  go_wp2_with fail
  refine planPost_mk ⟨⟨x3, A3.out⟩, rfl⟩ ?_
  rw [wpPlan_one]
  simp only [nth_zero, nth_succ]
  go_wp2_with fail
  go_at_call 65
  refine (sg_taken rb ((bs.drop 4).drop n9) g.b x3 R3.out (by have := HLL.out; rw [List.length_drop, List.length_drop]; omega) (by have := HCAP.out; rw [List.length_drop, List.length_drop]; omega)).mono ?_
  rintro e x4 ⟨q4, rfl, ho4, hr4, hg4⟩
  have G4 : Hid (w.grownBy x4 (some rb)) := grown_trans G3.out hg4
  have A4 : Hid (RowC x4 B 23 [.int .i64 (g.b : Int), .int .i64 (g.s : Int), .int .i64 (g.y : Int), .int .i64 (g.a : Int), .int .i64 r0]) := A3.out.grown hg4 (by have := HRB.out; simp; omega)
  have C4 : Hid (RowC x4 (B + 1) 51 [.int .i64 0, .slice none 0 0, .slice none 0 0]) := C3.out.grown hg4 (by have := HRB.out; simp; omega)
  have R4 := Lib.hid hr4
  have Z4 : Hid (B + 2 ≤ x4.heap.size) := by have := Z3.out; have := hg4.size; show _ ≤ _; omega
  have O4 : Hid (x4.ownsRow B 5 1 (.slice (some ⟨q3, 0, none⟩) n9 n9) ((bs.drop 4).take n9).length (((bs.drop 4).take n9).map (Value.int .u8))) := O3.out.kept hg4 (.inr (R3.out.not_row O3.out))
  have S4 : Hid (Sl .u8 x4 (.slice (some ⟨q4, 0, none⟩) g.b g.b) (((bs.drop 4).drop n9).take g.b)) := Sl.of_owns ho4
  clear hr4 hg4 ho4
  go_wp2_with fail
  refine planPost_mk ⟨⟨x4, A4.out⟩, rfl⟩ ?_
  rw [wpPlan_one]
  simp only [nth_zero, nth_succ]
  go_wp2_with fail
  go_at_call 69
  refine (sg_placed _ _ _ x4).mono ?_
  obtain ⟨x5, hx5⟩ : ∃ x, x4.alloc (.cells #[.slice (some ⟨q4, 0, none⟩) g.b g.b] 31) = x := ⟨_, rfl⟩
  rintro e x5' ⟨rfl, h5'⟩
  obtain rfl : x5' = x5 := h5'.trans hx5
  have b5 : Below x4.heap.size x4 x5' := by rw [← hx5]; exact below_new _ _
  have hP : PdB x4.heap.size (.slice (some ⟨q4, 0, none⟩) g.b g.b) (((bs.drop 4).drop n9).take g.b) x5' := ⟨by rw [← hx5]; exact (RowC.new x4 31 [.slice (some ⟨q4, 0, none⟩) g.b g.b]).cell 0 _ rfl, S4.out.below b5⟩
  have h5s : x4.heap.size < x5'.heap.size := by rw [← hx5]; simp
  have HCL := Lib.hid (sg_collect x4.heap.size h5s hP (isB_take (isB_drop (isB_drop HBY.out 4) n9) g.b) (by rw [List.length_take]; omega))
  have G5 : Hid (w.grownBy x5' (some rb)) := grown_trans G4.out (grown_below b5 _)
  have A5 : Hid (RowC x5' B 23 [.int .i64 (g.b : Int), .int .i64 (g.s : Int), .int .i64 (g.y : Int), .int .i64 (g.a : Int), .int .i64 r0]) := A4.out.below b5
  have C5 : Hid (RowC x5' (B + 1) 51 [.int .i64 0, .slice none 0 0, .slice none 0 0]) := C4.out.below b5
  have R5 := Lib.hid (R4.out.below (grown_below b5 none))
  have Z5 : Hid (B + 2 ≤ x5'.heap.size) := by have := Z4.out; have := b5.size; show _ ≤ _; omega
  have O5 := Lib.hid (own_belowT O4.out b5)
  clear h5' hx5 b5 hP h5s
  go_wp2_with fail
  refine planPost_mk ⟨⟨x5', A5.out⟩, rfl⟩ ?_
  rw [wpPlan_one]
  simp only [nth_zero, nth_succ]
  go_wp2_with fail
  go_at_call 68
  refine HCL.out.mono ?_
  rintro e x6 ⟨v6, rfl, ho6, hb6⟩
  obtain ⟨⟨pa, pn, pc⟩, rfl, -⟩ := own_slV ho6.1
  have G6 : Hid (w.grownBy x6 (some rb)) := grown_trans G5.out (grown_below hb6 _)
  have A6 : Hid (RowC x6 B 23 [.int .i64 (g.b : Int), .int .i64 (g.s : Int), .int .i64 (g.y : Int), .int .i64 (g.a : Int), .int .i64 r0]) := A5.out.below hb6
  have C6 : Hid (RowC x6 (B + 1) 51 [.int .i64 0, .slice none 0 0, .slice none 0 0]) := C5.out.below hb6
  have R6 := Lib.hid (R5.out.below (grown_below hb6 none))
  have Z6 : Hid (B + 2 ≤ x6.heap.size) := by have := Z5.out; have := hb6.size; show _ ≤ _; omega
  have O6 := Lib.hid (own_belowT O5.out hb6)
  have P6 : Hid (PrO B x6 (slV (pa, pn, pc)) (prFrom 0 (((bs.drop 4).drop n9).take g.b))) := ho6.weak (by have := Z5.out; omega)
  clear ho6 hb6 HCL
  simp only [slV]
  go_wp2_with fail
  refine planPost_mk ⟨⟨x6, A6.out⟩, rfl⟩ ?_
  rw [wpPlan_leaf]
  simp only [List.drop_succ_cons, List.drop_zero]
  obtain ⟨y, hST, hRy, hgy⟩ := store_snC (z, (some ⟨q3, 0, none⟩, n9, n9), (pa, pn, pc)) C6.out rfl
  have HLD := Lib.hid (load_snC hRy)
  have G7 : Hid (w.grownBy y (some rb)) := G6.out.andThen hgy (fun j e => by cases e; left; have := HSZ.out; omega)
  have R7 : Hid (Rdr y N rb (bs.drop g.step)) := by
    show Rdr _ _ _ _
    rw [HST.out]
    exact R6.out.kept hgy (fun r e => by
      cases e
      obtain ⟨b, off, cap, h0, h1, h2, h3, h4, h5⟩ := R0.out
      have h6 := HRB.out
      have h7 : N ≤ B := HNB.out
      omega)
  have F7 : Hid (SnF B y (z, (some ⟨q3, 0, none⟩, n9, n9), (pa, pn, pc)) (sSnapR g (seg bs 0 g.step))) := by
    show SnF _ _ _ _
    rw [HSR.out]
    refine ⟨HZZ.out.symm, O6.out.kept hgy (.inr (row_ne O6.out C6.out (by decide))), ⟨P6.out.1.kept hgy (.inr (row_ne P6.out.1 C6.out (by decide))), P6.out.2⟩, ⟨?_, isB_take (isB_drop HBY.out 4) n9, P6.out.2⟩⟩
    show Is64 (getL (bs.take 4))
    rw [HZZ.out]
    have := HZB.out
    constructor <;> omega
  simp only [svV, slV] at hST HLD
  clear hRy hgy
  go_wp2_with fail
  refine bodyPost_ret (results_cell rfl rfl HLD.out) rfl ?_
  exact ⟨_, rfl, by rw [HSZ.out]; exact F7.out, R7.out, G7.out⟩
end Go.Proofs.YtfihpljgbghogaaGreat

/- The document's geometry: Of, Slot, Area. -/
namespace Go.Proofs.YtfihpljgbghogaaGreat
open Go.RowKit Go.Shelf
set_option linter.unusedVariables false
attribute [-simp] Tryz.isAgg67 Tryz.zeroValue67
attribute [-go_sem] loadVar storeVar
set_option maxRecDepth 100000 in
theorem zero_szs (w : World) : (zeroValue 67).run Tryz.prog w = .ok (.agg (szL 0 0 0 0 0 0 0 0).toArray) w := by kernel_rfl
set_option maxRecDepth 100000 in
theorem build_szs0 (w : World) : (Instr.build 67 #[]).run Tryz.prog w = .ok (.agg (szL 0 0 0 0 0 0 0 0).toArray) w := by kernel_rfl
set_option maxRecDepth 100000 in
theorem build_szs3 (a c d : Int) (w : World) : (Instr.build 67 #[(0, .int .i64 a), (2, .int .i64 c), (3, .int .i64 d)]).run Tryz.prog w = .ok (.agg (szL a 0 c d 0 0 0 0).toArray) w := by kernel_rfl
attribute [local go_sem] loadVar_openG storeVar_openG zero_szs build_szs0
/-- What Of tells. -/
def Geo.szl (g : Geo) : List Value := if g.good then szL g.bts g.pgs g.slots 2 (2 + g.r) (2 + g.r + g.pgs) (2 + g.r + g.pgs + g.slots) (g.b + g.a) else szL 0 0 0 0 0 0 0 0

section
set_option maxRecDepth 100000
set_option maxHeartbeats 8000000
set_option maxRecDepth 100000 in
theorem refOf (g : Geo) (w : World) : Calls Tryz.prog 34 #[.agg g.v] w fun e w' => e = .returned (.agg g.szl.toArray) ∧ Below w.heap.size w w' := by
  have hmx : Tryz.prog.follows .mixedOrders = true := by kernel_rfl
  obtain ⟨V, hV⟩ : ∃ V, w.alloc (.cells g.v 23) = V := ⟨_, rfl⟩
  have r : RowC V w.heap.size 23 g.cs := by rw [← hV]; exact RowC.new w _ _
  have hb0 : Below w.heap.size w V := by rw [← hV]; exact below_new w _
  obtain ⟨W, hW⟩ : ∃ W, V.alloc (.cells (szL 0 0 0 0 0 0 0 0).toArray 67) = W := ⟨_, rfl⟩
  have hb1 : Below V.heap.size V W := by rw [← hW]; exact below_new V _
  have rz : RowC W V.heap.size 67 (szL 0 0 0 0 0 0 0 0) := by rw [← hW]; exact RowC.new V _ _
  have r := r.below hb1
  have HB : Hid (Below w.heap.size w W) := hb0.trans (hb1.mono hb0.size)
  have HV : Hid (w.heap.size ≤ V.heap.size) := hb0.size
  obtain ⟨B, hB⟩ : ∃ b, w.heap.size = b := ⟨_, rfl⟩
  obtain ⟨Z, hZ⟩ : ∃ b, V.heap.size = b := ⟨_, rfl⟩
  rw [hZ] at rz HV
  have HVW : Hid (w.heap.size ≤ Z) := HV
  rw [hB] at r
  have HR := Lib.hid r
  have HLG : Hid (∀ x, Below W.heap.size W x → (loadVar 23 ⟨B, 0, none⟩).run Tryz.prog x = .ok (.agg g.v) x) := fun x hx => load_geo (r.below hx)
  have HRZ := Lib.hid rz
  have L0 := load_geo r
  have HG := Lib.hid (fun x => refGood7 g x)
  clear r rz hb0 hb1
  by_cases hg : g.good
  · have hgd : decide g.good = true := by simpa using hg
    have e1 : g.szl = szL g.bts g.pgs g.slots 2 (2 + g.r) (2 + g.r + g.pgs) (2 + g.r + g.pgs + g.slots) (g.b + g.a) := by unfold Geo.szl; rw [if_pos hg]
    rw [hgd] at HG
    obtain ⟨b1, b2, b3, b4, b5, b6⟩ := Geo.bounds hg.1
    have HBT := Lib.hid (fun x => refBts g hg.1 x)
    have HCN := Lib.hid (fun x => refCount g.bts x (by omega) (by omega))
    have g1 := hg.1
    obtain ⟨h1, h2, h3, h4, h5, h6, h7, h8⟩ := g1
    have h9 := hg.2.1
    have h10 := hg.2.2
    rw [e1]
    have hpg : cnt g.bts = g.pgs := rfl
    rw [hpg] at HCN
    obtain ⟨P, hP⟩ : ∃ n, g.pgs = n := ⟨_, rfl⟩
    obtain ⟨T, hT⟩ : ∃ n, g.bts = n := ⟨_, rfl⟩
    obtain ⟨M, hM⟩ : ∃ n, g.slots = n := ⟨_, rfl⟩
    obtain ⟨bb, hbb⟩ : ∃ n, g.b = n := ⟨_, rfl⟩
    obtain ⟨ss, hss⟩ : ∃ n, g.s = n := ⟨_, rfl⟩
    obtain ⟨yy, hyy⟩ : ∃ n, g.y = n := ⟨_, rfl⟩
    obtain ⟨aa, haa⟩ : ∃ n, g.a = n := ⟨_, rfl⟩
    obtain ⟨rr, hrr⟩ : ∃ n, g.r = n := ⟨_, rfl⟩
    have hsy : ss * yy = M := by rw [← hss, ← hyy, ← hM]; rfl
    have HC : Hid (∀ x, Below W.heap.size W x → x.cell? ⟨B, 0, none⟩ = some (.int .i64 bb) ∧ x.cell? ⟨B, 1, none⟩ = some (.int .i64 ss) ∧ x.cell? ⟨B, 2, none⟩ = some (.int .i64 yy) ∧ x.cell? ⟨B, 3, none⟩ = some (.int .i64 aa) ∧ x.cell? ⟨B, 4, none⟩ = some (.int .i64 rr)) := fun x hx => by
      have r := HR.out.below hx
      have k0 := r.cell 0 _ rfl
      have k1 := r.cell 1 _ rfl
      have k2 := r.cell 2 _ rfl
      have k3 := r.cell 3 _ rfl
      have k4 := r.cell 4 _ rfl
      rw [hbb] at k0
      rw [hss] at k1
      rw [hyy] at k2
      rw [haa] at k3
      rw [hrr] at k4
      exact ⟨k0, k1, k2, k3, k4⟩
    rw [hP, hT] at HCN
    rw [hT] at HBT
    rw [hP, hT, hM, hbb, haa, hrr]
    rw [hM] at b1 b2
    rw [hT] at b3 b4
    rw [hP] at b5 b6 h9
    rw [hbb] at h1 h2
    rw [hss] at h3 h4
    rw [hyy] at h5 h6
    rw [haa] at h7 h8
    rw [hrr] at h9 h10
    clear e1 hgd hpg hP hT hM hbb hss hyy haa hrr hg
    go_enter Tryz.func34, Tryz.ntmps34
    go_wp2_with fail
    go_at_call 33
    refine (HG.out _).mono ?_
    rintro e x ⟨rfl, hbx⟩
    have HX := Lib.hid hbx
    have LG : ∀ z : Ext x, (loadVar 23 ⟨B, 0, none⟩).run Tryz.prog z.1 = .ok (.agg g.v) z.1 := fun z => HLG.out z.1 (hbx.trans (z.2.mono hbx.size))
    have C1 : ∀ z : Ext x, z.1.cell? ⟨B, 1, none⟩ = some (.int .i64 ss) := fun z => (HC.out z.1 (hbx.trans (z.2.mono hbx.size))).2.1
    have C2 : ∀ z : Ext x, z.1.cell? ⟨B, 2, none⟩ = some (.int .i64 yy) := fun z => (HC.out z.1 (hbx.trans (z.2.mono hbx.size))).2.2.1
    clear hbx L0
    go_wp2_with fail
    refine region_plan (fun u => ∃ y : Ext x, u = y.1) 9 (.takes [0, 2, 3, 4, 5, 6] (.two 1 8 (.two 7 8 (.one 8 .leaf) (.one 7 .leaf)) (.one 1 (.one 7 .leaf)))) hmx (by kernel_rfl) (by intro c x v a w h; cases x <;> exact h) ⟨⟨x.drew, (Below.refl _ x).drew⟩, rfl⟩ ?_
    repeat (rw [wpPlan_takes_cons]; simp only [nth_zero, nth_succ]; go_big_quiet_step (fail); refine wpQuiet_nil ?_)
    rw [wpPlan_takes_nil]
    clear LG C1 C2
    obtain ⟨X, hX⟩ : ∃ X, x.drew = X := ⟨_, rfl⟩
    have HXX : Hid (Below x.heap.size x X) := by show Below _ _ _; rw [← hX]; exact (Below.refl _ x).drew
    rw [hX]
    clear hX
    refine ⟨?_, ?_⟩
    · simp only [nth_zero, nth_succ]
      go_wp2_with fail
      go_at_call 72
      refine (HBT.out _).mono ?_
      rintro e x1 ⟨rfl, hbq⟩
      have HX1 : Hid (Below x.heap.size x x1) := HXX.out.trans (hbq.mono HXX.out.size)
      clear hbq
      go_wp2_with fail
      refine planPost_mk ⟨⟨x1, HX1.out⟩, rfl⟩ ?_
      have B3 : Hid ((Instr.build 67 #[(0, .int .i64 T), (2, .int .i64 M), (3, .int .i64 2)]).run Tryz.prog x1 = .ok (.agg (szL T 0 M 2 0 0 0 0).toArray) x1) := build_szs3 T M 2 x1
      obtain ⟨x2, hx2⟩ : ∃ y, x1.alloc (.cells (szL 0 0 0 0 0 0 0 0).toArray 67) = y := ⟨_, rfl⟩
      have HX2 : Hid (Below x.heap.size x x2) := HX1.out.trans (by rw [← hx2]; exact (below_new x1 _).mono HX1.out.size)
      have B3' : Hid ((Instr.build 67 #[(0, .int .i64 T), (2, .int .i64 M), (3, .int .i64 2)]).run Tryz.prog x2 = .ok (.agg (szL T 0 M 2 0 0 0 0).toArray) x2) := build_szs3 T M 2 x2
      obtain ⟨y0, ST, hk, hbk⟩ := new_szs x1 T 0 M 2 0 0 0 0
      obtain ⟨Bk, hBk⟩ : ∃ b, x1.heap.size = b := ⟨_, rfl⟩
      rw [hx2, hBk] at ST
      rw [hBk] at hk
      have RK := Lib.hid hk
      have HKW : Hid (W.heap.size ≤ Bk) := by show _ ≤ _; rw [← hBk]; exact Nat.le_trans HX.out.size HX1.out.size
      have HBY : Hid (Below W.heap.size W y0) := HX.out.trans ((HX1.out.trans (hbk.mono HX1.out.size)).mono HX.out.size)
      have HST := Lib.hid ST
      clear hk hbk ST
      refine ⟨?_, ?_⟩
      · simp only [nth_zero, nth_succ]
        refine wpList_struct_run _ _ rfl rfl [(0, .int .i64 T), (2, .int .i64 M), (3, .int .i64 2)] _ rfl B3.out ?_
        refine wpList_nil ?_
        refine planPost_mk ⟨⟨x1, HX1.out⟩, rfl⟩ ?_
        rw [wpPlan_one]
        simp only [nth_zero, nth_succ]
        go_wp2_with fail
        try rw [hx2]
        refine planPost_mk ⟨⟨x2, HX2.out⟩, rfl⟩ ?_
        rw [wpPlan_leaf]
        simp only [List.drop_succ_cons, List.drop_zero]
        have ST := HST.out
        obtain ⟨y1, h1'⟩ : ∃ y, y0.setCell ⟨Bk, 1, none⟩ (.int .i64 P) = y := ⟨_, rfl⟩
        obtain ⟨y2, h2'⟩ : ∃ y, y1.setCell ⟨Bk, 4, none⟩ (.int .i64 (2 + rr)) = y := ⟨_, rfl⟩
        obtain ⟨y3, h3'⟩ : ∃ y, y2.setCell ⟨Bk, 5, none⟩ (.int .i64 (2 + rr + P)) = y := ⟨_, rfl⟩
        obtain ⟨y4, h4'⟩ : ∃ y, y3.setCell ⟨Bk, 6, none⟩ (.int .i64 (2 + rr + P + M)) = y := ⟨_, rfl⟩
        obtain ⟨y5, h5'⟩ : ∃ y, y4.setCell ⟨Bk, 7, none⟩ (.int .i64 (bb + aa)) = y := ⟨_, rfl⟩
        have k0 := RK.out
        have k1 : RowC y1 Bk 67 (szL T P M 2 0 0 0 0) := by rw [← h1']; exact k0.set 1 _
        have k2 : RowC y2 Bk 67 (szL T P M 2 (2 + rr) 0 0 0) := by rw [← h2']; exact k1.set 4 _
        have k3 : RowC y3 Bk 67 (szL T P M 2 (2 + rr) (2 + rr + P) 0 0) := by rw [← h3']; exact k2.set 5 _
        have k4 : RowC y4 Bk 67 (szL T P M 2 (2 + rr) (2 + rr + P) (2 + rr + P + M) 0) := by rw [← h4']; exact k3.set 6 _
        have k5 : RowC y5 Bk 67 (szL T P M 2 (2 + rr) (2 + rr + P) (2 + rr + P + M) (bb + aa)) := by rw [← h5']; exact k4.set 7 _
        have e1' : y0.grownBy y1 (some Bk) := by rw [← h1']; exact grownBy_cell y0 Bk 1 _
        have e2' : y1.grownBy y2 (some Bk) := by rw [← h2']; exact grownBy_cell y1 Bk 4 _
        have e3' : y2.grownBy y3 (some Bk) := by rw [← h3']; exact grownBy_cell y2 Bk 5 _
        have e4' : y3.grownBy y4 (some Bk) := by rw [← h4']; exact grownBy_cell y3 Bk 6 _
        have e5' : y4.grownBy y5 (some Bk) := by rw [← h5']; exact grownBy_cell y4 Bk 7 _
        have bw : ∀ y, y0.grownBy y (some Bk) → Below W.heap.size W y := fun y hg => HBY.out.grown hg HBY.out.size (fun j e => by cases e; exact HKW.out)
        have q1 := bw y1 e1'
        have q2 := bw y2 (e1'.trans e2')
        have q3 := bw y3 ((e1'.trans e2').trans e3')
        have q4 := bw y4 (((e1'.trans e2').trans e3').trans e4')
        have q5 := bw y5 ((((e1'.trans e2').trans e3').trans e4').trans e5')
        have a0 : y0.cell? ⟨Bk, 0, none⟩ = some (.int .i64 T) := k0.cell 0 _ rfl
        have a01 : y0.cell? ⟨Bk, 1, none⟩ = some (.int .i64 0) := k0.cell 1 _ rfl
        have a0' := k0.frozen 1
        have a1 : y1.cell? ⟨Bk, 3, none⟩ = some (.int .i64 2) := k1.cell 3 _ rfl
        have a11 : y1.cell? ⟨Bk, 4, none⟩ = some (.int .i64 0) := k1.cell 4 _ rfl
        have a1' := k1.frozen 4
        have a12 := (HC.out y1 q1).2.2.2.2
        have a2 : y2.cell? ⟨Bk, 4, none⟩ = some (.int .i64 (2 + rr)) := k2.cell 4 _ rfl
        have a21 : y2.cell? ⟨Bk, 1, none⟩ = some (.int .i64 P) := k2.cell 1 _ rfl
        have a22 : y2.cell? ⟨Bk, 5, none⟩ = some (.int .i64 0) := k2.cell 5 _ rfl
        have a2' := k2.frozen 5
        have a3 : y3.cell? ⟨Bk, 5, none⟩ = some (.int .i64 (2 + rr + P)) := k3.cell 5 _ rfl
        have a31 : y3.cell? ⟨Bk, 2, none⟩ = some (.int .i64 M) := k3.cell 2 _ rfl
        have a32 : y3.cell? ⟨Bk, 6, none⟩ = some (.int .i64 0) := k3.cell 6 _ rfl
        have a3' := k3.frozen 6
        have a4 := (HC.out y4 q4).1
        have a41 := (HC.out y4 q4).2.2.2.1
        have a42 : y4.cell? ⟨Bk, 7, none⟩ = some (.int .i64 0) := k4.cell 7 _ rfl
        have a4' := k4.frozen 7
        have l5 := load_szs k5
        obtain ⟨y6, ST6, hr6, hg6⟩ := store_szs (a := T) (b := P) (c := M) (d := 2) (e := 2 + rr) (f := 2 + rr + P) (h := 2 + rr + P + M) (i := bb + aa) (HRZ.out.below q5) rfl
        have LD6 := load_szs hr6
        have q6 : Below w.heap.size w y6 := (HB.out.trans (q5.mono HB.out.size)).grown hg6 (HB.out.trans (q5.mono HB.out.size)).size (fun j e => by cases e; exact HVW.out)
        have HQ6 := Lib.hid q6
        clear k0 k1 k2 k3 k4 k5 e1' e2' e3' e4' e5' bw q1 q2 q3 q4 q5 q6 hr6 hg6
        go_wp2_with fail
        go_at_call 71
        refine (HCN.out y0).mono ?_
        rintro e zz ⟨rfl, hz⟩
        obtain rfl := hz.symm
        clear hz
        go_wp2_with fail
        refine bodyPost_ret (results_cell rfl rfl LD6) rfl ⟨rfl, HQ6.out⟩
      · simp only [nth_zero, nth_succ]
        go_wp2_with fail
        try rw [hx2]
        refine planPost_mk ⟨⟨x2, HX2.out⟩, rfl⟩ ?_
        rw [wpPlan_one]
        simp only [nth_zero, nth_succ]
        refine wpList_struct_run _ _ rfl rfl [(0, .int .i64 T), (2, .int .i64 M), (3, .int .i64 2)] _ rfl B3'.out ?_
        refine wpList_nil ?_
        refine planPost_mk ⟨⟨x2, HX2.out⟩, rfl⟩ ?_
        rw [wpPlan_leaf]
        simp only [List.drop_succ_cons, List.drop_zero]
        have ST := HST.out
        obtain ⟨y1, h1'⟩ : ∃ y, y0.setCell ⟨Bk, 1, none⟩ (.int .i64 P) = y := ⟨_, rfl⟩
        obtain ⟨y2, h2'⟩ : ∃ y, y1.setCell ⟨Bk, 4, none⟩ (.int .i64 (2 + rr)) = y := ⟨_, rfl⟩
        obtain ⟨y3, h3'⟩ : ∃ y, y2.setCell ⟨Bk, 5, none⟩ (.int .i64 (2 + rr + P)) = y := ⟨_, rfl⟩
        obtain ⟨y4, h4'⟩ : ∃ y, y3.setCell ⟨Bk, 6, none⟩ (.int .i64 (2 + rr + P + M)) = y := ⟨_, rfl⟩
        obtain ⟨y5, h5'⟩ : ∃ y, y4.setCell ⟨Bk, 7, none⟩ (.int .i64 (bb + aa)) = y := ⟨_, rfl⟩
        have k0 := RK.out
        have k1 : RowC y1 Bk 67 (szL T P M 2 0 0 0 0) := by rw [← h1']; exact k0.set 1 _
        have k2 : RowC y2 Bk 67 (szL T P M 2 (2 + rr) 0 0 0) := by rw [← h2']; exact k1.set 4 _
        have k3 : RowC y3 Bk 67 (szL T P M 2 (2 + rr) (2 + rr + P) 0 0) := by rw [← h3']; exact k2.set 5 _
        have k4 : RowC y4 Bk 67 (szL T P M 2 (2 + rr) (2 + rr + P) (2 + rr + P + M) 0) := by rw [← h4']; exact k3.set 6 _
        have k5 : RowC y5 Bk 67 (szL T P M 2 (2 + rr) (2 + rr + P) (2 + rr + P + M) (bb + aa)) := by rw [← h5']; exact k4.set 7 _
        have e1' : y0.grownBy y1 (some Bk) := by rw [← h1']; exact grownBy_cell y0 Bk 1 _
        have e2' : y1.grownBy y2 (some Bk) := by rw [← h2']; exact grownBy_cell y1 Bk 4 _
        have e3' : y2.grownBy y3 (some Bk) := by rw [← h3']; exact grownBy_cell y2 Bk 5 _
        have e4' : y3.grownBy y4 (some Bk) := by rw [← h4']; exact grownBy_cell y3 Bk 6 _
        have e5' : y4.grownBy y5 (some Bk) := by rw [← h5']; exact grownBy_cell y4 Bk 7 _
        have bw : ∀ y, y0.grownBy y (some Bk) → Below W.heap.size W y := fun y hg => HBY.out.grown hg HBY.out.size (fun j e => by cases e; exact HKW.out)
        have q1 := bw y1 e1'
        have q2 := bw y2 (e1'.trans e2')
        have q3 := bw y3 ((e1'.trans e2').trans e3')
        have q4 := bw y4 (((e1'.trans e2').trans e3').trans e4')
        have q5 := bw y5 ((((e1'.trans e2').trans e3').trans e4').trans e5')
        have a0 : y0.cell? ⟨Bk, 0, none⟩ = some (.int .i64 T) := k0.cell 0 _ rfl
        have a01 : y0.cell? ⟨Bk, 1, none⟩ = some (.int .i64 0) := k0.cell 1 _ rfl
        have a0' := k0.frozen 1
        have a1 : y1.cell? ⟨Bk, 3, none⟩ = some (.int .i64 2) := k1.cell 3 _ rfl
        have a11 : y1.cell? ⟨Bk, 4, none⟩ = some (.int .i64 0) := k1.cell 4 _ rfl
        have a1' := k1.frozen 4
        have a12 := (HC.out y1 q1).2.2.2.2
        have a2 : y2.cell? ⟨Bk, 4, none⟩ = some (.int .i64 (2 + rr)) := k2.cell 4 _ rfl
        have a21 : y2.cell? ⟨Bk, 1, none⟩ = some (.int .i64 P) := k2.cell 1 _ rfl
        have a22 : y2.cell? ⟨Bk, 5, none⟩ = some (.int .i64 0) := k2.cell 5 _ rfl
        have a2' := k2.frozen 5
        have a3 : y3.cell? ⟨Bk, 5, none⟩ = some (.int .i64 (2 + rr + P)) := k3.cell 5 _ rfl
        have a31 : y3.cell? ⟨Bk, 2, none⟩ = some (.int .i64 M) := k3.cell 2 _ rfl
        have a32 : y3.cell? ⟨Bk, 6, none⟩ = some (.int .i64 0) := k3.cell 6 _ rfl
        have a3' := k3.frozen 6
        have a4 := (HC.out y4 q4).1
        have a41 := (HC.out y4 q4).2.2.2.1
        have a42 : y4.cell? ⟨Bk, 7, none⟩ = some (.int .i64 0) := k4.cell 7 _ rfl
        have a4' := k4.frozen 7
        have l5 := load_szs k5
        obtain ⟨y6, ST6, hr6, hg6⟩ := store_szs (a := T) (b := P) (c := M) (d := 2) (e := 2 + rr) (f := 2 + rr + P) (h := 2 + rr + P + M) (i := bb + aa) (HRZ.out.below q5) rfl
        have LD6 := load_szs hr6
        have q6 : Below w.heap.size w y6 := (HB.out.trans (q5.mono HB.out.size)).grown hg6 (HB.out.trans (q5.mono HB.out.size)).size (fun j e => by cases e; exact HVW.out)
        have HQ6 := Lib.hid q6
        clear k0 k1 k2 k3 k4 k5 e1' e2' e3' e4' e5' bw q1 q2 q3 q4 q5 q6 hr6 hg6
        go_wp2_with fail
        go_at_call 71
        refine (HCN.out y0).mono ?_
        rintro e zz ⟨rfl, hz⟩
        obtain rfl := hz.symm
        clear hz
        go_wp2_with fail
        refine bodyPost_ret (results_cell rfl rfl LD6) rfl ⟨rfl, HQ6.out⟩
    · simp only [nth_zero, nth_succ]
      obtain ⟨x1, hx1⟩ : ∃ y, X.alloc (.cells (szL 0 0 0 0 0 0 0 0).toArray 67) = y := ⟨_, rfl⟩
      have hrz : RowC x1 X.heap.size 67 (szL 0 0 0 0 0 0 0 0) := by rw [← hx1]; exact RowC.new X _ _
      have HX1 : Hid (Below x.heap.size x x1) := HXX.out.trans (by rw [← hx1]; exact (below_new X _).mono HXX.out.size)
      obtain ⟨Bk, hBk⟩ : ∃ b, X.heap.size = b := ⟨_, rfl⟩
      rw [hBk] at hrz
      have HKW : Hid (W.heap.size ≤ Bk) := by show _ ≤ _; rw [← hBk]; exact Nat.le_trans HX.out.size HXX.out.size
      have HRK := Lib.hid hrz
      clear hrz
      go_wp2_with fail
      try rw [hx1]
      refine planPost_mk ⟨⟨x1, HX1.out⟩, rfl⟩ ?_
      clear hx1
      rw [wpPlan_one]
      simp only [nth_zero, nth_succ]
      go_wp2_with fail
      go_at_call 72
      refine (HBT.out _).mono ?_
      rintro e x2 ⟨rfl, hbq⟩
      have HX2 : Hid (Below x.heap.size x x2) := HX1.out.trans (hbq.mono HX1.out.size)
      have B3 : Hid ((Instr.build 67 #[(0, .int .i64 T), (2, .int .i64 M), (3, .int .i64 2)]).run Tryz.prog x2 = .ok (.agg (szL T 0 M 2 0 0 0 0).toArray) x2) := build_szs3 T M 2 x2
      obtain ⟨y0, ST, hk, hgk⟩ := store_szs (a := T) (b := 0) (c := M) (d := 2) (e := 0) (f := 0) (h := 0) (i := 0) (HRK.out.below hbq) rfl
      have RK := Lib.hid hk
      have hb2 := HX.out.trans (HX2.out.mono HX.out.size)
      have HBY : Hid (Below W.heap.size W y0) := hb2.grown hgk hb2.size (fun j e => by cases e; exact HKW.out)
      have HST := Lib.hid ST
      clear hbq hk hgk hb2 ST
      go_wp2_with fail
      refine planPost_mk ⟨⟨x2, HX2.out⟩, rfl⟩ ?_
      rw [wpPlan_one]
      simp only [nth_zero, nth_succ]
      refine wpList_struct_run _ _ rfl rfl [(0, .int .i64 T), (2, .int .i64 M), (3, .int .i64 2)] _ rfl B3.out ?_
      refine wpList_nil ?_
      refine planPost_mk ⟨⟨x2, HX2.out⟩, rfl⟩ ?_
      rw [wpPlan_leaf]
      simp only [List.drop_succ_cons, List.drop_zero]
      have ST := HST.out
      obtain ⟨y1, h1'⟩ : ∃ y, y0.setCell ⟨Bk, 1, none⟩ (.int .i64 P) = y := ⟨_, rfl⟩
      obtain ⟨y2, h2'⟩ : ∃ y, y1.setCell ⟨Bk, 4, none⟩ (.int .i64 (2 + rr)) = y := ⟨_, rfl⟩
      obtain ⟨y3, h3'⟩ : ∃ y, y2.setCell ⟨Bk, 5, none⟩ (.int .i64 (2 + rr + P)) = y := ⟨_, rfl⟩
      obtain ⟨y4, h4'⟩ : ∃ y, y3.setCell ⟨Bk, 6, none⟩ (.int .i64 (2 + rr + P + M)) = y := ⟨_, rfl⟩
      obtain ⟨y5, h5'⟩ : ∃ y, y4.setCell ⟨Bk, 7, none⟩ (.int .i64 (bb + aa)) = y := ⟨_, rfl⟩
      have k0 := RK.out
      have k1 : RowC y1 Bk 67 (szL T P M 2 0 0 0 0) := by rw [← h1']; exact k0.set 1 _
      have k2 : RowC y2 Bk 67 (szL T P M 2 (2 + rr) 0 0 0) := by rw [← h2']; exact k1.set 4 _
      have k3 : RowC y3 Bk 67 (szL T P M 2 (2 + rr) (2 + rr + P) 0 0) := by rw [← h3']; exact k2.set 5 _
      have k4 : RowC y4 Bk 67 (szL T P M 2 (2 + rr) (2 + rr + P) (2 + rr + P + M) 0) := by rw [← h4']; exact k3.set 6 _
      have k5 : RowC y5 Bk 67 (szL T P M 2 (2 + rr) (2 + rr + P) (2 + rr + P + M) (bb + aa)) := by rw [← h5']; exact k4.set 7 _
      have e1' : y0.grownBy y1 (some Bk) := by rw [← h1']; exact grownBy_cell y0 Bk 1 _
      have e2' : y1.grownBy y2 (some Bk) := by rw [← h2']; exact grownBy_cell y1 Bk 4 _
      have e3' : y2.grownBy y3 (some Bk) := by rw [← h3']; exact grownBy_cell y2 Bk 5 _
      have e4' : y3.grownBy y4 (some Bk) := by rw [← h4']; exact grownBy_cell y3 Bk 6 _
      have e5' : y4.grownBy y5 (some Bk) := by rw [← h5']; exact grownBy_cell y4 Bk 7 _
      have bw : ∀ y, y0.grownBy y (some Bk) → Below W.heap.size W y := fun y hg => HBY.out.grown hg HBY.out.size (fun j e => by cases e; exact HKW.out)
      have q1 := bw y1 e1'
      have q2 := bw y2 (e1'.trans e2')
      have q3 := bw y3 ((e1'.trans e2').trans e3')
      have q4 := bw y4 (((e1'.trans e2').trans e3').trans e4')
      have q5 := bw y5 ((((e1'.trans e2').trans e3').trans e4').trans e5')
      have a0 : y0.cell? ⟨Bk, 0, none⟩ = some (.int .i64 T) := k0.cell 0 _ rfl
      have a01 : y0.cell? ⟨Bk, 1, none⟩ = some (.int .i64 0) := k0.cell 1 _ rfl
      have a0' := k0.frozen 1
      have a1 : y1.cell? ⟨Bk, 3, none⟩ = some (.int .i64 2) := k1.cell 3 _ rfl
      have a11 : y1.cell? ⟨Bk, 4, none⟩ = some (.int .i64 0) := k1.cell 4 _ rfl
      have a1' := k1.frozen 4
      have a12 := (HC.out y1 q1).2.2.2.2
      have a2 : y2.cell? ⟨Bk, 4, none⟩ = some (.int .i64 (2 + rr)) := k2.cell 4 _ rfl
      have a21 : y2.cell? ⟨Bk, 1, none⟩ = some (.int .i64 P) := k2.cell 1 _ rfl
      have a22 : y2.cell? ⟨Bk, 5, none⟩ = some (.int .i64 0) := k2.cell 5 _ rfl
      have a2' := k2.frozen 5
      have a3 : y3.cell? ⟨Bk, 5, none⟩ = some (.int .i64 (2 + rr + P)) := k3.cell 5 _ rfl
      have a31 : y3.cell? ⟨Bk, 2, none⟩ = some (.int .i64 M) := k3.cell 2 _ rfl
      have a32 : y3.cell? ⟨Bk, 6, none⟩ = some (.int .i64 0) := k3.cell 6 _ rfl
      have a3' := k3.frozen 6
      have a4 := (HC.out y4 q4).1
      have a41 := (HC.out y4 q4).2.2.2.1
      have a42 : y4.cell? ⟨Bk, 7, none⟩ = some (.int .i64 0) := k4.cell 7 _ rfl
      have a4' := k4.frozen 7
      have l5 := load_szs k5
      obtain ⟨y6, ST6, hr6, hg6⟩ := store_szs (a := T) (b := P) (c := M) (d := 2) (e := 2 + rr) (f := 2 + rr + P) (h := 2 + rr + P + M) (i := bb + aa) (HRZ.out.below q5) rfl
      have LD6 := load_szs hr6
      have q6 : Below w.heap.size w y6 := (HB.out.trans (q5.mono HB.out.size)).grown hg6 (HB.out.trans (q5.mono HB.out.size)).size (fun j e => by cases e; exact HVW.out)
      have HQ6 := Lib.hid q6
      clear k0 k1 k2 k3 k4 k5 e1' e2' e3' e4' e5' bw q1 q2 q3 q4 q5 q6 hr6 hg6
      go_wp2_with fail
      go_at_call 71
      refine (HCN.out y0).mono ?_
      rintro e zz ⟨rfl, hz⟩
      obtain rfl := hz.symm
      clear hz
      go_wp2_with fail
      refine bodyPost_ret (results_cell rfl rfl LD6) rfl ⟨rfl, HQ6.out⟩
  · have hgd : decide g.good = false := by simpa using hg
    have e1 : g.szl = szL 0 0 0 0 0 0 0 0 := by unfold Geo.szl; rw [if_neg hg]
    rw [hgd] at HG
    rw [e1]
    clear hg hgd e1
    go_enter Tryz.func34, Tryz.ntmps34
    go_wp2_with fail
    go_at_call 33
    refine (HG.out _).mono ?_
    rintro e x ⟨rfl, hbx⟩
    obtain ⟨y6, ST6, hr6, hg6⟩ := store_szs (a := 0) (b := 0) (c := 0) (d := 0) (e := 0) (f := 0) (h := 0) (i := 0) (HRZ.out.below hbx) rfl
    have LD6 := load_szs hr6
    have hb2 := HB.out.trans (hbx.mono HB.out.size)
    have HQ6 : Hid (Below w.heap.size w y6) := hb2.grown hg6 hb2.size (fun j e => by cases e; exact HVW.out)
    clear hbx hr6 hg6 hb2 L0
    go_wp2_with fail
    refine bodyPost_ret (results_cell rfl rfl LD6) rfl ⟨rfl, HQ6.out⟩
end
end Go.Proofs.YtfihpljgbghogaaGreat

/- The document's Decode of a state. -/
namespace Go.Proofs.YtfihpljgbghogaaGreat
open Go.RowKit Go.Shelf Go.Lib
set_option linter.unusedVariables false
set_option linter.unusedSimpArgs false
attribute [-simp] Tryz.isAgg51 Tryz.zeroValue51 Tryz.isAgg54 Tryz.zeroValue54 Tryz.isAgg30 Tryz.zeroValue30 Tryz.isAgg67 Tryz.zeroValue67
attribute [-go_sem] loadVar storeVar
theorem loadVar_openD (t : TypeId) (h : t ≠ 51) (h' : t ≠ 54) (h'' : t ≠ 30) (h3 : t ≠ 67) (a : Addr) : loadVar t a = (do if ← isAgg t then pure (.agg (← loadCells a (← sizeOf t))) else load a) := rfl
theorem storeVar_openD (t : TypeId) (h : t ≠ 51) (h' : t ≠ 54) (h'' : t ≠ 30) (h3 : t ≠ 67) (a : Addr) (v : Value) : storeVar t a v = (do
    if v.cells.size ≠ (← sizeOf t) then stuck "storeVar: the value has not the size of the variable"
    storeCells a v.cells.toList) := rfl
set_option maxRecDepth 100000 in
theorem build_pl2 (a b : Int) (w : World) : (Instr.build 28 #[(0, .int .i64 a), (1, .int .i64 b)]).run Tryz.prog w = .ok (.agg #[.int .i64 a, .int .i64 b, .slice none 0 0]) w := by kernel_rfl
set_option maxRecDepth 100000 in
theorem build_st2 (a b c : Int) (w : World) : (Instr.build 30 #[(2, .int .i64 a), (3, .agg #[.int .i64 b, .int .i64 c, .slice none 0 0])]).run Tryz.prog w = .ok (.agg #[.slice none 0 0, .slice none 0 0, .int .i64 a, .int .i64 b, .int .i64 c, .slice none 0 0]) w := by kernel_rfl
attribute [local go_sem] loadVar_openD storeVar_openD zero_sn zero_prs zero_st zero_szs build_st0 build_pl2 build_st2 build_sn
/-- What Decode answers. -/
def DecR (g : SG) (bs : List Int) (N : Nat) (w' : World) (q : PS) (c : Int) : Prop := match sDec g bs with
  | some s => c = 0 ∧ q.nx = s.nx ∧ q.kd = s.kd ∧ q.id = s.id ∧ InO N w' (slV q.d) s.d ∧ SnO N w' (slV q.sn) s.sn ∧ PrO N w' (slV q.pr) s.pr
  | none => c = 11 ∧ q = noQ
theorem decR_none {g : SG} {bs : List Int} (h : sDec g bs = none) (N : Nat) (w' : World) : DecR g bs N w' noQ 11 := by
  unfold DecR
  rw [h]
  exact ⟨rfl, rfl⟩
theorem geo_bts {g : SG} (hg : g.Ok) (r : Int) : (g.geo r).bts = (g.bts : Int) := by
  unfold Geo.bts SG.geo SG.bts SG.step SG.n9 SG.slots sizeB
  have h1 := hg.b1
  have h2 := hg.b64
  rw [if_neg (by omega)]
  simp only
  rw [← Int.natCast_mul]
  omega
theorem geo_slots (g : SG) (r : Int) : (g.geo r).slots = (g.slots : Int) := by
  unfold Geo.slots SG.geo SG.slots
  simp

set_option maxRecDepth 100000 in
set_option maxHeartbeats 4000000 in
/-- **Decode** where the sizes are no good. -/
theorem rf14_decodeN {w : World} {v : Value} (G : Geo) (hb : ¬ G.good) :
    Calls Tryz.prog 10 #[.agg G.v, v] w fun e w' => e = .returned (.tuple #[stV noQ, .int .i64 1]) ∧ Below w.heap.size w w' := by
  obtain ⟨gb, gs, gy, ga, gr⟩ := G
  have HG : Hid (∀ x : World, Calls Tryz.prog 33 #[.agg (Geo.v ⟨gb, gs, gy, ga, gr⟩)] x fun e w' => e = .returned (.bool false) ∧ Below x.heap.size x w') := fun x =>
    (refGood7 ⟨gb, gs, gy, ga, gr⟩ x).mono fun e y hy => ⟨by rw [hy.1, decide_eq_false hb], hy.2⟩
  clear hb
  unfold Geo.v at *
  simp only at *
  obtain ⟨B, hB⟩ : ∃ B, w.heap.size = B := ⟨_, rfl⟩
  obtain ⟨W1, hW1⟩ : ∃ W, w.alloc (.cells #[.int .i64 gb, .int .i64 gs, .int .i64 gy, .int .i64 ga, .int .i64 gr] 23) = W := ⟨_, rfl⟩
  obtain ⟨W2, hW2⟩ : ∃ W, W1.alloc (.cells #[.slice none 0 0, .slice none 0 0, .int .i64 0, .int .i64 0, .int .i64 0, .slice none 0 0] 30) = W := ⟨_, rfl⟩
  have s1 : W1.heap.size = B + 1 := by rw [← hW1, ← hB]; simp
  have r1 : RowC W1 B 23 [.int .i64 gb, .int .i64 gs, .int .i64 gy, .int .i64 ga, .int .i64 gr] := by rw [← hW1, ← hB]; exact RowC.new _ _ _
  have r2 : RowC W2 (B + 1) 30 (stL noQ) := by rw [← hW2, ← s1]; exact RowC.new _ _ _
  have b1 : Below B w W1 := by rw [← hW1, ← hB]; exact below_new _ _
  have b2 : Below W1.heap.size W1 W2 := by rw [← hW2]; exact below_new _ _
  have HB : Hid (Below B w W2) := b1.trans (b2.mono (by omega))
  have HR2 := Lib.hid r2
  have t1 := r1.below b2
  have k0 := t1.cell 0 _ rfl
  have k1 := t1.cell 1 _ rfl
  have k2 := t1.cell 2 _ rfl
  have k3 := t1.cell 3 _ rfl
  have k4 := t1.cell 4 _ rfl
  have HS2 : Hid (B ≤ W2.heap.size) := by show B ≤ _; rw [← hB]; exact HB.out.size
  rw [hB]
  clear r1 b1 b2 t1 r2
  go_enter Tryz.func10, Tryz.ntmps10
  go_wp2_with fail
  refine (HG.out W2).mono ?_
  rintro e y ⟨rfl, hy⟩
  obtain ⟨z, hS, hRz, hgz⟩ := store_stC noQ (HR2.out.below hy) rfl
  have HZ : Hid (Below B w z) := (HB.out.trans (hy.mono HS2.out)).grown hgz (Nat.le_trans HS2.out hy.size) (fun j e => by cases e; exact Nat.le_succ B)
  have HRz := Lib.hid hRz
  simp only [stV, stL, slV, noQ] at hS
  clear hy k0 k1 k2 k3 k4 hRz hgz
  go_wp2_with fail
  exact bodyPost_ret (results_cell2 rfl rfl (load_stC HRz.out)) rfl ⟨rfl, HZ.out⟩

end Go.Proofs.YtfihpljgbghogaaGreat

/- The developers' fits and complete. -/
namespace Go.Proofs.YtfihpljgbghogaaGreat
open Go.RowKit Go.Shelf
set_option linter.unusedVariables false
set_option linter.unusedSimpArgs false
attribute [-simp] Tryz.isAgg51 Tryz.zeroValue51 Tryz.isAgg54 Tryz.zeroValue54
attribute [-go_sem] loadVar storeVar
attribute [local go_sem] loadVar_openPS storeVar_openPS zero_sn zero_prs

set_option maxRecDepth 100000 in
set_option maxHeartbeats 4000000 in
theorem ch_complete {w : World} {q : SV} {s : SN} (h : SnIs w q s) (hl1 : s.ch.length ≤ 100000) :
    Calls Tryz.prog 79 #[svV q] w fun e w' => e = .returned (.bool (fullS s)) ∧ Below w.heap.size w w' := by
  have hmx : Tryz.prog.follows .mixedOrders = true := by kernel_rfl
  obtain ⟨i, ⟨x, n, c⟩, ⟨y, m, d⟩⟩ := q
  obtain rfl : m = s.tb.length := by obtain ⟨a, ca, e, -⟩ := h.tb; simp only [slV, Value.slice.injEq] at e; omega
  obtain ⟨tl, htl⟩ : ∃ tl, s.tb.length = tl := ⟨_, rfl⟩
  rw [htl] at h ⊢
  obtain ⟨B, hB⟩ : ∃ B, w.heap.size = B := ⟨_, rfl⟩
  have HSZ := Lib.hid hB
  obtain ⟨W, hW⟩ : ∃ W, w.alloc (.cells #[.int .i64 i, .slice x n c, .slice y tl d] 51) = W := ⟨_, rfl⟩
  have bW : Below B w W := by rw [← hW, ← hB]; exact (Below.refl _ w).alloc (Nat.le_refl _) _
  have r1 : RowC W B 51 [.int .i64 i, .slice x n c, .slice y tl d] := by rw [← hW, ← hB]; exact RowC.new w _ _
  have hs : W.heap.size = B + 1 := by rw [← hW, ← hB]; simp
  have c1 : ∀ z : Ext W, z.1.cell? ⟨B, 1, none⟩ = some (.slice x n c) := fun z => (r1.below z.2).cell 1 _ rfl
  have c2 : ∀ z : Ext W, z.1.cell? ⟨B, 2, none⟩ = some (.slice y tl d) := fun z => (r1.below z.2).cell 2 _ rfl
  have HBW := Lib.hid bW
  have HS := Lib.hid hs
  obtain ⟨cn, hcn⟩ : ∃ cn, (allB s.ch).length = cn := ⟨_, rfl⟩
  have HE : Hid (fullS s = ((cn : Int) == (tl : Int))) := by
    show _ = _
    unfold fullS
    rw [hcn, htl, Bool.eq_iff_iff]
    simp
    omega
  have HC : Hid (∀ z : World, Below W.heap.size W z → Calls Tryz.prog 110 #[.slice x n c] z fun e w' => e = .returned (.int .i64 (cn : Int)) ∧ Below z.heap.size z w') := fun z hz => by
    rw [← hcn]
    exact bi_count _ s.ch z ((h.ch.below (by rw [hB]; exact bW)).below hz) h.ok.ch (by omega)
  rw [HE.out]
  clear h bW r1 hs hcn
  go_enter Tryz.func79, Tryz.ntmps79
  simp only [svV, slV]
  go_wp2_with fail
  try rw [hW]
  clear hW
  refine region_plan (fun x => ∃ y : Ext W, x = y.1) 7 (.takes [0, 1, 3, 4, 5] (.one 2 (.takes [6] .leaf))) hmx (by kernel_rfl) (by intro c x v a w h; cases x <;> exact h) ⟨⟨W.drew, (Below.refl _ W).drew⟩, rfl⟩ ?_
  repeat (rw [wpPlan_takes_cons]; simp only [nth_zero, nth_succ]; go_big_quiet_step (fail); refine wpQuiet_nil ?_)
  rw [wpPlan_takes_nil, wpPlan_one]
  simp only [nth_zero, nth_succ]
  go_wp2_with fail
  go_at_call 110
  refine (HC.out W.drew (Below.refl _ W).drew).mono ?_
  rintro e y1 ⟨rfl, hb1⟩
  have KB1 : Hid (Below W.heap.size W y1) := (Below.refl _ W).drew.trans hb1
  clear hb1 HC
  go_wp2_with fail
  refine planPost_mk ⟨⟨y1, KB1.out⟩, rfl⟩ ?_
  repeat (rw [wpPlan_takes_cons]; simp only [nth_zero, nth_succ]; go_big_quiet_step (fail); refine wpQuiet_nil ?_)
  rw [wpPlan_takes_nil, wpPlan_leaf]
  simp only [List.drop_succ_cons, List.drop_zero]
  go_wp2_with fail
  go_ret
  refine ⟨by first | rfl | simp, ?_⟩
  rw [HSZ.out]
  exact HBW.out.trans (KB1.out.mono (by have := HS.out; omega))

set_option maxRecDepth 100000 in
set_option maxHeartbeats 8000000 in
theorem ch_fits {w : World} {q : SV} {s : SN} (h : SnIs w q s) (hl1 : s.ch.length ≤ 100000) (hl2 : s.tb.length ≤ 100000) (bl ar : Int) :
    Calls Tryz.prog 78 #[svV q, .int .i64 bl, .int .i64 ar] w fun e w' => e = .returned (.bool (fitS s bl ar)) ∧ Below w.heap.size w w' := by
  obtain ⟨i, ⟨x, n, c⟩, ⟨y, m, d⟩⟩ := q
  obtain rfl : m = s.tb.length := by obtain ⟨a, ca, e, -⟩ := h.tb; simp only [slV, Value.slice.injEq] at e; omega
  obtain ⟨tl, htl⟩ : ∃ tl, s.tb.length = tl := ⟨_, rfl⟩
  rw [htl] at h hl2 ⊢
  obtain ⟨B, hB⟩ : ∃ B, w.heap.size = B := ⟨_, rfl⟩
  have HSZ := Lib.hid hB
  have HTL := Lib.hid htl
  obtain ⟨W, hW⟩ : ∃ W, w.alloc (.cells #[.int .i64 i, .slice x n c, .slice y tl d] 51) = W := ⟨_, rfl⟩
  have bW : Below B w W := by rw [← hW, ← hB]; exact (Below.refl _ w).alloc (Nat.le_refl _) _
  have r1 : RowC W B 51 [.int .i64 i, .slice x n c, .slice y tl d] := by rw [← hW, ← hB]; exact RowC.new w _ _
  have hs : W.heap.size = B + 1 := by rw [← hW, ← hB]; simp
  have c1 := r1.cell 1 _ rfl
  have c2 := r1.cell 2 _ rfl
  have HR := Lib.hid r1
  have HBW := Lib.hid bW
  have HS := Lib.hid hs
  have HSN := Lib.hid (h.below (W' := W) (by rw [hB]; exact bW))
  have HG := Lib.hid (bi_good _ s.ch bl W HSN.out.ch h.ok.ch (by omega))
  have hok := Lib.hid h.ok
  have htbl : Hid (s.tb.length ≤ 800000) := by show _ ≤ _; omega
  have hch : Hid (s.ch.length ≤ 100000) := hl1
  clear h bW r1 hs htl hl1
  go_enter Tryz.func78, Tryz.ntmps78
  simp only [svV, slV]
  cases hgc : goodB s.ch bl with
  | false =>
    rw [hgc] at HG
    have HE : Hid (fitS s bl ar = false) := by show _ = _; unfold fitS; rw [hgc]; rfl
    rw [HE.out]
    clear hgc
    go_wp2_with fail
    refine HG.out.mono ?_
    rintro e y1 ⟨rfl, hb1⟩
    have HB1 := Lib.hid hb1
    clear hb1
    go_wp2_with fail
    go_ret
    refine ⟨rfl, ?_⟩
    rw [HSZ.out]
    exact HBW.out.trans (HB1.out.mono (by have := HS.out; omega))
  | true =>
    rw [hgc] at HG
    have HGC := Lib.hid hgc
    clear hgc
    go_wp2_with fail
    refine HG.out.mono ?_
    rintro e y1 ⟨rfl, hb1⟩
    have HR1 := Lib.hid (HR.out.below hb1)
    have c3 := HR1.out.cell 2 _ rfl
    have HT := Lib.hid (tb_good (HSN.out.tb.below hb1) bl ar htbl.out)
    have HB1 : Hid (Below B w y1) := HBW.out.trans (hb1.mono (by have := HS.out; omega))
    have hy1s := hb1.size
    have HSN1 := Lib.hid (HSN.out.below hb1)
    have HYS : Hid (B + 1 ≤ y1.heap.size) := by have := HS.out; show _ ≤ _; omega
    clear hb1 hy1s HG HSN c1 c2
    cases htg : tGood s.tb bl ar with
    | false =>
      rw [htg] at HT
      have HE : Hid (fitS s bl ar = false) := by show _ = _; unfold fitS; rw [HGC.out, htg]; rfl
      clear htg
      go_wp2_with fail
      refine HT.out.mono ?_
      rintro e y2 ⟨rfl, hb2⟩
      have HB2 := Lib.hid hb2
      clear hb2
      go_wp2_with fail
      go_ret
      refine ⟨by rw [HE.out]; try rfl, ?_⟩
      rw [HSZ.out]
      exact HB1.out.trans (HB2.out.mono (by have := HYS.out; omega))
    | true =>
      rw [htg] at HT
      have HE0 : Hid (fitS s bl ar = s.tb.all fun p => hasB s.ch p.1) := by show _ = _; unfold fitS; rw [HGC.out, htg]; rfl
      clear htg
      go_wp2_with fail
      refine HT.out.mono ?_
      rintro e y2 ⟨rfl, hb2⟩
      have HR2 := Lib.hid (HR1.out.below hb2)
      have c4 := HR2.out.cell 2 _ rfl
      have HB2 : Hid (Below B w y2) := HB1.out.trans (hb2.mono (by have := HYS.out; omega))
      have HSN2 := Lib.hid (HSN1.out.below hb2)
      have HYS2 : Hid (B + 1 ≤ y2.heap.size) := by have := HYS.out; have := hb2.size; show _ ≤ _; omega
      clear hb2 HT HSN1 c3 HR1 HB1
      go_wp2_with fail
      go_loopw [25] (fun iv wr => ∃ k : Nat, k ≤ tl ∧ iv = .int .i64 (k : Int) ∧ Hid (∀ p ∈ s.tb.take k, hasB s.ch p.1 = true) ∧ Hid (Below y2.heap.size y2 wr)) (fun iv _ => tl - (intOf iv).toNat)
      case atStart => exact ⟨0, Nat.zero_le _, rfl, (fun p hp => by cases hp), Below.refl _ _⟩
      case round =>
        obtain ⟨k, hk, rfl, HP, HB3⟩ := hrel
        by_cases hlt : k < tl
        · obtain ⟨p, hp⟩ : ∃ p, s.tb[k]? = some p := ⟨_, List.getElem?_eq_getElem (by rw [HTL.out]; exact hlt)⟩
          have hsn : s.tb.take (k + 1) = s.tb.take k ++ [p] := take_at hp
          have hpm := List.mem_of_getElem? hp
          obtain ⟨bb, off, rfl, hbb, d1, d2⟩ := (HSN2.out.tb.below HB3.out).at hp
          obtain ⟨x0, y0⟩ := p
          simp only at d1 d2
          have hx0 : (Lit.int .i64 x0).wf = true := wf_i64 (hok.out.tb _ hpm).1.1 (hok.out.tb _ hpm).1.2
          have HSN' := Lib.hid hsn
          have g1 : (k : Int) < (tl : Int) := by omega
          have HW : Hid (wrap64 ((k : Int) + 1) = (k : Int) + 1) := IntWalk.wrap64_in _ (by omega)
          have LD := load_prs d1 d2
          have ST := new_prs wr x0 y0
          obtain ⟨W2, hW2⟩ : ∃ W2, wr.alloc (.cells #[.int .i64 x0, .int .i64 y0] 54) = W2 := ⟨_, rfl⟩
          rw [hW2] at ST
          have hb2 : Below wr.heap.size wr W2 := by rw [← hW2]; exact below_new wr _
          have e1 : W2.cell? ⟨wr.heap.size, 0, none⟩ = some (.int .i64 x0) := by rw [← hW2]; exact (RowC.new wr 54 [.int .i64 x0, .int .i64 y0]).cell 0 _ rfl
          have e2 : W2.cell? ⟨B, 1, none⟩ = some (.slice x n c) := ((HR2.out.below HB3.out).below hb2).cell 1 _ rfl
          have HH := Lib.hid (bi_has _ s.ch x0 hx0 W2 ((HSN2.out.ch.below HB3.out).below hb2) hok.out.ch)
          have HB4 : Hid (Below y2.heap.size y2 W2) := HB3.out.trans (hb2.mono HB3.out.size)
          obtain ⟨N, hN⟩ : ∃ N, wr.heap.size = N := ⟨_, rfl⟩
          rw [hN] at ST e1
          have HLT := Lib.hid hlt
          cases hhb : hasB s.ch x0 with
          | false =>
            rw [hhb] at HH
            have HE : Hid ((s.tb.all fun p => hasB s.ch p.1) = false) := by
              show _ = _
              rw [List.all_eq_false]
              exact ⟨_, hpm, by simp [hhb]⟩
            clear hhb hp hsn hpm hbb d1 d2 hx0 hW2 hb2 HB3 HP hlt
            go_wp2_with fail
            refine HH.out.mono ?_
            rintro e y3 ⟨rfl, hb3⟩
            have HB5 : Hid (Below B w y3) := HB2.out.trans ((HB4.out.trans (hb3.mono HB4.out.size)).mono (by have := HYS2.out; omega))
            clear hb3
            go_wp2_with fail
            refine bodyPost_ret (results_tmp rfl _ _ _) rfl ?_
            refine ⟨by rw [HE0.out, HE.out]; try rfl, ?_⟩
            rw [HSZ.out]
            exact HB5.out
          | true =>
            rw [hhb] at HH
            have HHB : Hid (∀ p ∈ s.tb.take (k + 1), hasB s.ch p.1 = true) := fun p hp => by
              rw [HSN'.out] at hp
              rcases List.mem_append.1 hp with hp | hp
              · exact HP.out p hp
              · rw [List.mem_singleton.1 hp]; exact hhb
            clear hhb hp hsn hpm hbb d1 d2 hx0 hW2 hb2 HB3 HP hlt
            go_wp2_with fail
            refine HH.out.mono ?_
            rintro e y3 ⟨rfl, hb3⟩
            have HB5 : Hid (Below y2.heap.size y2 y3) := HB4.out.trans (hb3.mono HB4.out.size)
            clear hb3
            go_wp2_with fail
            exact ⟨⟨k + 1, HLT.out, by simp, HHB, HB5⟩, by have := HLT.out; simp [intOf]; omega⟩
        · obtain rfl : k = tl := by omega
          have HE : Hid ((s.tb.all fun p => hasB s.ch p.1) = true) := by
            have := HP.out
            rw [List.take_of_length_le (by rw [HTL.out]; exact Nat.le_refl _)] at this
            show _ = _
            rw [List.all_eq_true]
            exact this
          have HB5 : Hid (Below B w wr) := HB2.out.trans (HB3.out.mono (by have := HYS2.out; omega))
          clear HP HB3
          go_wp2_with fail
          refine bodyPost_ret (results_tmp rfl _ _ _) rfl ?_
          refine ⟨by rw [HE0.out, HE.out]; try rfl, ?_⟩
          rw [HSZ.out]
          exact HB5.out
end Go.Proofs.YtfihpljgbghogaaGreat

/- A region that draws its order, in an iterator of one's own: what only reads is taken ahead, then the rest as it stands, inside the wide fence. No program is named. -/
namespace Go.Proofs.YtfihpljgbghogaaGreat
open Go.RowKit
set_option linter.unusedVariables false

section
variable {P : Program} {ops : Array Oper} {Q : Exit → Act → World → Prop} {md : Region.Mode} {S : World → Prop} {m : Nat}

/-- None of these. -/
def NoExit : Exit → Act → World → Prop := fun _ _ _ => False
end
end Go.Proofs.YtfihpljgbghogaaGreat

/- A region that draws its order and whose head neither panics nor leaves: the walk asks nothing of the post, and the head may be all of it. No program is named. -/
namespace Go.Proofs.YtfihpljgbghogaaGreat
open Go.RowKit
set_option linter.unusedVariables false

section
variable {P : Program} {ops : Array Oper} {Q : Exit → Act → World → Prop} {md : Region.Mode} {S : World → Prop}

theorem wp_noExit {o : Oper} {a : Act} {w : World} {K : Act → World → Prop} (h : o.wp P a w K NoExit) : o.wp P a w K Q := by
  unfold Oper.wp at *
  generalize (execOp a.eval o).run P w = r at *
  cases r with
  | ok n w' =>
    cases n <;> simp only [Oper.upon] at h ⊢ <;>
      first
        | exact h
        | exact Calls.mono h (fun e w'' he => by cases e <;> first | exact he | exact he.elim | (obtain ⟨a', w', h'⟩ := he; exact h'.elim))
  | halt x w' => cases x <;> simp only [Oper.upon] at h ⊢ <;> first | exact h | exact h.elim
theorem wpOp_noExit {i : Nat} {K : Act → World → Prop} {a : Act} {w : World} (h : wpOp P ops NoExit i K a w) : wpOp P ops Q i K a w := by
  unfold wpOp at *
  cases ho : ops[i]? with
  | none => simpa [ho] using h
  | some o =>
    simp only [ho] at h ⊢
    by_cases hw : Region.wanted o (yielded ops a.tmps) = true
    · simp only [hw, if_true] at h ⊢
      rcases h with h | ⟨_, _, _, h'⟩
      · exact .inl (wp_noExit h)
      · exact h'.elim
    · simp only [hw] at h ⊢
      exact h
theorem wpAnyM_noExit {n : Nat} {L : Array Bool → Act → World → Prop} : ∀ (f : Nat) (listed : Array Bool) (a : Act) (w : World), wpAnyM P md ops NoExit S n L f listed a w → wpAnyM P md ops Q S n L f listed a w
  | 0, _, _, _, h => h
  | f + 1, _, _, _, h => ⟨h.1, fun i hi => ⟨(h.2 i hi).1, wpOp_mono (fun a' w' h' => ⟨h'.1, wpAnyM_noExit f _ a' w' h'.2⟩) (wpOp_noExit (h.2 i hi).2)⟩⟩

/-- What waits for the head waits, as long as one of the head is left. -/
def Waits (md : Region.Mode) (ops : Array Oper) (n : Nat) : Prop := ∀ (listed : Array Bool) (i : Nat), HeadInv md ops n listed → i < n → listed.getD i true = false → ∀ j ∈ Region.ready md ops listed, j < n

theorem waits_tail {n : Nat} (hs : Region.sinkB md ops n = true) (hc : Region.chainB md ops n = true) (hn : n < ops.size) : Waits md ops n := fun listed i inv hin hun j hj => by
  rcases Nat.lt_or_ge j n with h | h
  · exact h
  · exact absurd hj (tail_waits hs hc hn inv _ i rfl hin hun j h)
theorem waits_all : Waits md ops ops.size := fun listed i _ _ _ j hj => by
  obtain ⟨_, oj, hoj, _⟩ := mem_ready.1 hj
  exact (Array.getElem?_eq_some_iff.1 hoj).1

theorem wpAnyM_firstN {n i : Nat} {oi : Oper} {v : Value} {L : Array Bool → Act → World → Prop} (hi : ops[i]? = some oi) (hsel : ∀ (j : Nat) (o : Oper) cs b, ops[j]? = some o → o.op ≠ .select cs b)
    (hT : Waits md ops n) (hin : i < n)
    (hdone : ∀ listed a w, L listed a w → ∀ j ∈ Region.ready md ops listed, n ≤ j) :
    ∀ (f : Nat) (listed : Array Bool) (a : Act) (w : World), HeadInv md ops n listed →
      (∀ j oj, ops[j]? = some oj → j ≠ i → listed.getD j true = false → (∀ e ∈ oj.after, Region.binds md e = true → e.on ≠ i) → oi.apart ops oj = true) →
      i ∈ Region.ready md ops listed → YieldsIf P ops S oi v a → S w →
      wpAnyM P md ops NoExit S n L f (listed.setIfInBounds i true) (a.put oi.dst v) w → wpAnyM P md ops NoExit S n L (f + 1) listed a w := by
  intro f
  induction f with
  | zero =>
    intro listed a w inv _ hr hy hS H
    have hun := (mem_ready.1 hr).1
    refine ⟨fun h => (by rw [h] at hr; cases hr), fun j hj => ?_⟩
    have hjn : j < n := hT listed i inv hin hun j hj
    refine ⟨hjn, ?_⟩
    by_cases hji : j = i
    · subst hji; exact hy.wpOp hi hS ⟨hS, H⟩
    · have := hdone _ _ _ H j (ready_mono hj hji)
      omega
  | succ f ih =>
    intro listed a w inv hfree hr hy hS H
    have hun := (mem_ready.1 hr).1
    refine ⟨fun h => (by rw [h] at hr; cases hr), fun j hj => ?_⟩
    have hjn : j < n := hT listed i inv hin hun j hj
    refine ⟨hjn, ?_⟩
    by_cases hji : j = i
    · subst hji; exact hy.wpOp hi hS ⟨hS, H⟩
    · have h1 := (H.2 j (ready_mono hj hji)).2
      obtain ⟨hjun, oj, hoj, hall⟩ := mem_ready.1 hj
      have hnot : ∀ e ∈ oj.after, Region.binds md e = true → e.on ≠ i := fun e he hb heq => by
        have h1 := hall e he hb
        rw [heq, getD_both hun] at h1
        cases h1
      have h2 := wpOp_putIf hoj (hfree j oj hoj hji hjun hnot) (fun cs b => hsel i oi cs b hi) (fun cs b => hsel j oj cs b hoj) (fun c a w h => h) hy h1
      have hfree' : ∀ k ok, ops[k]? = some ok → k ≠ i → (listed.setIfInBounds j true).getD k true = false →
          (∀ e ∈ ok.after, Region.binds md e = true → e.on ≠ i) → oi.apart ops ok = true := fun k ok hk hki hun hno => by
        refine hfree k ok hk hki ?_ hno
        by_cases hjk : j = k
        · subst hjk; exact hjun
        · rw [getD_set_ne true hjk] at hun; exact hun
      refine wpOp_mono (fun a' w' h3 => ⟨h3.2.1, ih (listed.setIfInBounds j true) a' w' (inv.set hj hjn) hfree' (ready_mono hr (Ne.symm hji)) h3.1 h3.2.1 ?_⟩) h2
      rw [Array.setIfInBounds_comm _ _ hji]
      exact h3.2.2

/-- The walk: the head has no way out. -/
def wpPlanN (P : Program) (l : List Oper) (Q : Exit → Act → World → Prop) (S : World → Prop) (n : Nat) : Plan → Act → World → Prop
  | .leaf, a, w => wpList P l.toArray Q (l.drop n) a w
  | .take i next, a, w => wpQuiet P l.toArray S (fun a' => wpPlanN P l Q S n next a' w) [nth l i] a
  | .one i next, a, w => wpList P l.toArray (planPost S NoExit (wpPlanN P l Q S n next)) [nth l i] a w
  | .two i j n1 n2, a, w => wpList P l.toArray (planPost S NoExit (wpPlanN P l Q S n n1)) [nth l i] a w ∧ wpList P l.toArray (planPost S NoExit (wpPlanN P l Q S n n2)) [nth l j] a w

theorem wpPlanN_leaf {l : List Oper} {n : Nat} {a : Act} {w : World} : wpPlanN P l Q S n .leaf a w = wpList P l.toArray Q (l.drop n) a w := rfl
theorem wpPlanN_one {l : List Oper} {n i : Nat} {p : Plan} {a : Act} {w : World} : wpPlanN P l Q S n (.one i p) a w = wpList P l.toArray (planPost S NoExit (wpPlanN P l Q S n p)) [nth l i] a w := rfl
theorem wpPlanN_takes_nil {l : List Oper} {n : Nat} {p : Plan} {a : Act} {w : World} : wpPlanN P l Q S n (.takes [] p) a w = wpPlanN P l Q S n p a w := rfl
theorem wpPlanN_takes_cons {l : List Oper} {n i : Nat} {is : List Nat} {p : Plan} {a : Act} {w : World} : wpPlanN P l Q S n (.takes (i :: is) p) a w = wpQuiet P l.toArray S (fun a' => wpPlanN P l Q S n (.takes is p) a' w) [nth l i] a := rfl

theorem wpAnyM_planN {l : List Oper} {n : Nat} (hsel : Region.noSelect l.toArray = true) (hT : Waits md l.toArray n) (hn : n ≤ l.length) :
    ∀ (p : Plan) (f : Nat) (listed : Array Bool) (a : Act) (w : World), HeadInv md l.toArray n listed → planB md l n p f listed = true → S w → wpPlanN P l Q S n p a w →
      wpAnyM P md l.toArray NoExit S n (fun listed' a' w' => Region.seqB md l.toArray (l.length - n) n listed' = true ∧ wpList P l.toArray Q (l.drop n) a' w') f listed a w := by
  intro p
  induction p with
  | leaf =>
    intro f listed a w inv hB hS h
    simp only [planB, Bool.and_eq_true, decide_eq_true_eq] at hB
    obtain ⟨rfl, hB⟩ := hB
    exact ⟨hB, h⟩
  | take i next ih =>
    intro f listed a w inv hB hS h
    simp only [planB, Bool.and_eq_true, decide_eq_true_eq] at hB
    obtain ⟨⟨⟨⟨⟨hf, hin⟩, hrd⟩, hr⟩, hfr⟩, hB⟩ := hB
    obtain ⟨f, rfl⟩ : ∃ g, f = g + 1 := ⟨f - 1, by omega⟩
    have ho : l.toArray[i]? = some (nth l i) := by simpa using nth_get l i (by omega)
    have hr' : i ∈ Region.ready md l.toArray listed := by simpa using hr
    simp only [wpPlanN, wpQuiet] at h
    obtain ⟨v, hy, hK⟩ := yieldsIf_of_quiet (i := i) hrd ⟨w, hS⟩ h
    exact wpAnyM_firstN ho (Region.noSelect_spec hsel) hT hin (fun listed a w hL => seqB_ready hL.1) f listed a w inv (Region.free_spec ho hfr) hr' hy hS
      (ih f _ _ w (inv.set hr' hin) (by simpa using hB) hS hK)
  | one i next ih =>
    intro f listed a w inv hB hS h
    simp only [planB, Bool.and_eq_true, decide_eq_true_eq] at hB
    obtain ⟨⟨⟨hf, hin⟩, hr⟩, hB⟩ := hB
    obtain ⟨f, rfl⟩ : ∃ g, f = g + 1 := ⟨f - 1, by omega⟩
    refine ⟨by rw [hr]; simp, fun j hj => ?_⟩
    have hj' := hj
    rw [hr] at hj
    obtain rfl : j = i := by simpa using hj
    exact ⟨hin, wpOp_mono (fun a' w' h' => ⟨h'.1, ih f _ _ w' (inv.set hj' hin) (by simpa using hB) h'.1 h'.2⟩) (wpOp_of_one (by omega) h)⟩
  | two i k n1 n2 ih1 ih2 =>
    intro f listed a w inv hB hS h
    simp only [planB, Bool.and_eq_true, decide_eq_true_eq] at hB
    obtain ⟨⟨⟨⟨⟨hf, hin⟩, hkn⟩, hr⟩, hB1⟩, hB2⟩ := hB
    obtain ⟨f, rfl⟩ : ∃ g, f = g + 1 := ⟨f - 1, by omega⟩
    obtain ⟨g1, g2⟩ := h
    refine ⟨by rw [hr]; simp, fun j hj => ?_⟩
    have hj' := hj
    rw [hr] at hj
    rcases (by simpa using hj : j = i ∨ j = k) with rfl | rfl
    · exact ⟨hin, wpOp_mono (fun a' w' h' => ⟨h'.1, ih1 f _ _ w' (inv.set hj' hin) (by simpa using hB1) h'.1 h'.2⟩) (wpOp_of_one (by omega) g1)⟩
    · exact ⟨hkn, wpOp_mono (fun a' w' h' => ⟨h'.1, ih2 f _ _ w' (inv.set hj' hkn) (by simpa using hB2) h'.1 h'.2⟩) (wpOp_of_one (by omega) g2)⟩

/-- May the region be gone so? The head may be all of it. -/
def planOkN (l : List Oper) (n : Nat) (p : Plan) : Bool :=
  Region.noSelect l.toArray && (decide (n = l.length) || (decide (n < l.length) && Region.sinkB .any l.toArray n && Region.chainB .any l.toArray n)) && planB .any l n p n (Array.replicate l.length false)

theorem wpAny_planN {l : List Oper} {a : Act} {w : World} (S : World → Prop) (n : Nat) (p : Plan) (hB : planOkN l n p = true) (hS : S w)
    (h : wpPlanN P l Q S n p a w) : wpAny P .any l.toArray Q l.toArray.size (Array.replicate l.toArray.size false) a w := by
  simp only [planOkN, Bool.and_eq_true, Bool.or_eq_true, decide_eq_true_eq] at hB
  obtain ⟨⟨hsel, hnn⟩, hp⟩ := hB
  have hn : n ≤ l.length := by omega
  have hT : Waits .any l.toArray n := by
    rcases hnn with rfl | ⟨⟨hn, hs⟩, hc⟩
    · have := waits_all (md := .any) (ops := l.toArray)
      simpa using this
    · exact waits_tail hs hc (by simpa using hn)
  have inv0 : HeadInv .any l.toArray n (Array.replicate l.toArray.size false) :=
    ⟨by simp, fun j oj _ hl => (by rw [getD_replicate_false] at hl; cases hl), fun t _ ht => getD_in (by simpa using ht) (getD_replicate_false _ _)⟩
  have H := wpAnyM_planN (md := .any) hsel hT hn p n _ a w inv0 (by simpa using hp) hS h
  have := wpAny_of_M (g := l.length - n) (fun listed a' w' hL => by
    have := wpAny_of_seq (md := .any) (Q' := Q) (l.drop n) n listed a' w' (fun j => by simp [List.getElem?_drop]) (by rw [List.length_drop]; exact hL.1) hL.2
    rwa [List.length_drop] at this) _ _ _ _ (wpAnyM_noExit (Q := Q) _ _ _ _ H)
  rw [show n + (l.length - n) = l.toArray.size by simp; omega] at this
  exact this

/-- **A REGION THAT DRAWS, its head with no way out.** -/
theorem region_planN {id : Nat} {a : Act} {w : World} {l : List Oper} (S : World → Prop) (n : Nat) (p : Plan) (hm : P.follows .mixedOrders = true) (hB : planOkN l n p = true) (hS : S w.drew)
    (h : wpPlanN P l Q S n p a w.drew) : (Code.region id l.toArray true).wp P Q a w :=
  wp_region_any hm (wpAny_planN S n p hB hS h)
end
end Go.Proofs.YtfihpljgbghogaaGreat

/- The developers' Good. -/
namespace Go.Proofs.YtfihpljgbghogaaGreat
open Go.RowKit Go.Shelf
set_option linter.unusedVariables false
set_option linter.unusedSimpArgs false
attribute [-simp] Tryz.isAgg51 Tryz.zeroValue51 Tryz.isAgg54 Tryz.zeroValue54
attribute [-go_sem] loadVar storeVar
attribute [local go_sem] loadVar_openPS storeVar_openPS zero_sn zero_prs
attribute [local go_sem] Oper.semAt_some

theorem InO.setLow {N B' : Nat} {x : World} {v : Value} {zs : List Int} (h : InO N x v zs) (hB : B' < N) (j : Nat) (u : Value) : InO N (x.setCell ⟨B', j, none⟩ u) v zs := h.kept (grownBy_setCellJ x B' j u) (.inr fun e => by have := (h.base _ e).1; omega)
theorem InO.own {N M : Nat} {x y : World} {v : Value} {zs : List Int} {row : Option Nat} (h : InO N x v zs) (hg : x.grownBy y row) (hr : ∀ r, row = some r → M ≤ r ∧ ∃ o : Obj, x.heap[r]? = some o ∧ o.isCells = false) : InO N y v zs := row_own h hg hr
set_option maxRecDepth 100000 in
/-- Sort and Compact of numbers of one's own, none too. -/
theorem in_sort {N : Nat} {w : World} {v : Value} {zs : List Int} (h : InO N w v zs) (hlen : zs.length ≤ 1000000) :
    Calls Tryz.prog 80 #[v] w fun e w' => e = .returned (.tuple #[]) ∧ InO N w' v (sorted zs) ∧ w.grownBy w' v.ownBlock := by
  by_cases hv : v = .slice none 0 0
  · subst hv
    have h0 : zs = [] := by
      rcases h.2 with ⟨_, e⟩ | ⟨g, cap, cur, e, _⟩
      · exact List.eq_nil_of_length_eq_zero e
      · cases e
    subst h0
    refine (Any.slices_Sort_int_none sortLaid none 0 w).mono ?_
    rintro e w' ⟨rfl, rfl⟩
    exact ⟨rfl, by rw [show sorted ([] : List Int) = [] from by simp [sorted]]; exact h, World.grownBy.refl _ _⟩
  · refine (tb_sort h hv hlen).mono ?_
    rintro e w' ⟨rfl, ho, hg⟩
    refine ⟨rfl, ?_, hg⟩
    show w'.ownsRow _ _ _ _ _ _
    rw [sorted_len]
    exact ho
set_option maxRecDepth 100000 in
theorem in_compact {N : Nat} {w : World} {v : Value} {zs : List Int} (h : InO N w v zs) :
    Calls Tryz.prog 81 #[v] w fun e w' => (∃ a cap, e = .returned (.slice a (Lib.compact zs).length cap)) ∧ w.grownBy w' v.ownBlock := by
  by_cases hv : v = .slice none 0 0
  · subst hv
    have h0 : zs = [] := by
      rcases h.2 with ⟨_, e⟩ | ⟨g, cap, cur, e, _⟩
      · exact List.eq_nil_of_length_eq_zero e
      · cases e
    subst h0
    refine (laid_slices_Compact_int_empty none 0 w).mono ?_
    rintro e w' ⟨rfl, rfl⟩
    exact ⟨⟨_, _, rfl⟩, World.grownBy.refl _ _⟩
  · exact tb_compact h hv

theorem list_round_build {l₀ n : Nat} {P : Program} {ops : Array Oper} {Q : Exit → Act → World → Prop} {rest : List Oper} {a : Act} {w : World} {dst : Option Tmp} {ty t : TypeId} {len : Nat} {parts : Array (Nat × Operand)} {pos : String} {after : Array Edge} {guard : Option (Nat × Bool)}
    (hL : ¬ LetsOut Q) (hd : ∀ o ∈ rest, ∀ c, o.op ≠ .defer c) (h : wpList P ops Q ({ dst := dst, op := .buildSlice t len parts, type := ty, pos := pos, after := after, guard := guard } :: rest) a w) :
    wpListIn (Fence.wide.inRound l₀) n P ops Q ({ dst := dst, op := .buildSlice t len parts, type := ty, pos := pos, after := after, guard := guard } :: rest) a w :=
  list_roundC hL _ a w (fun o ho => by
    rcases List.mem_cons.1 ho with rfl | ho
    · intro c e; cases e
    · exact hd o ho) h
/-- What a round keeps. -/
structure GdI (B M : Nat) (bl ar last : Int) (a : Option Addr) (len cap : Nat) (w W x : World) : Prop where
  g0 : RowC x B 25 [.slice a len cap]
  g1 : RowC x (B + 1) 3 [.int .i64 bl]
  g2 : RowC x (B + 2) 3 [.int .i64 ar]
  g3 : RowC x (B + 3) 4 [.bool false]
  g4 : RowC x (B + 4) 3 [.int .i64 last]
  g7 : SpX B (B + 6) 0 (len : Int) (.slice a len cap) w x
  kf : KeepsFrom M W x
theorem GdI.low {B M : Nat} {bl ar last : Int} {a : Option Addr} {len cap : Nat} {w W x y : World} (h : GdI B M bl ar last a len cap w W x) (hb : Below (B + 9) x y) (hk : KeepsFrom M x y) : GdI B M bl ar last a len cap w W y :=
  ⟨h.g0.belowN hb (by omega), h.g1.belowN hb (by omega), h.g2.belowN hb (by omega), h.g3.belowN hb (by omega), h.g4.belowN hb (by omega), ⟨h.g7.bl.belowN hb (by omega), h.g7.bi.belowN hb (by omega), h.g7.bj.belowN hb (by omega), h.g7.be.trans (hb.mono (by omega))⟩, keepsFrom_trans h.kf hk⟩
theorem GdI.set4 {B M : Nat} {bl ar last : Int} {a : Option Addr} {len cap : Nat} {w W x : World} (h : GdI B M bl ar last a len cap w W x) (z : Int) : GdI B M bl ar z a len cap w W (x.setCell ⟨B + 4, 0, none⟩ (.int .i64 z)) :=
  ⟨set_other h.g0 (by omega) 0 _, set_other h.g1 (by omega) 0 _, set_other h.g2 (by omega) 0 _, set_other h.g3 (by omega) 0 _, h.g4.set 0 _, h.g7.set (by omega) (by omega) 0 _, keepsFrom_trans h.kf (keepsFrom_cells h.g4 (grownBy_setCellJ x (B + 4) 0 _))⟩
theorem GdI.set5 {B M : Nat} {bl ar last : Int} {a : Option Addr} {len cap : Nat} {w W x : World} {c : List Value} {t : TypeId} (h : GdI B M bl ar last a len cap w W x) (hr : RowC x (B + 5) t c) (v : Value) : GdI B M bl ar last a len cap w W (x.setCell ⟨B + 5, 0, none⟩ v) :=
  ⟨set_other h.g0 (by omega) 0 _, set_other h.g1 (by omega) 0 _, set_other h.g2 (by omega) 0 _, set_other h.g3 (by omega) 0 _, set_other h.g4 (by omega) 0 _, h.g7.set (by omega) (by omega) 0 _, keepsFrom_trans h.kf (keepsFrom_cells hr (grownBy_setCellJ x (B + 5) 0 _))⟩

set_option maxRecDepth 100000 in
set_option maxHeartbeats 8000000 in
theorem ch_good {w : World} {v : Value} {l : List SN} (h : Snp w v l) (hK : Lens 1000 l) (bl ar : Int) :
    Calls Tryz.prog 40 #[v, .int .i64 bl, .int .i64 ar] w fun e w' => e = .returned (.bool (cGood l bl ar)) ∧ Below w.heap.size w w' := by
  have hmx : Tryz.prog.follows .mixedOrders = true := by kernel_rfl
  obtain ⟨r, h⟩ := h
  have HS := Lib.hid h
  have HKL := Lib.hid hK
  obtain ⟨a, cap, rfl, h1, h2, -⟩ := h
  obtain ⟨len, hle⟩ : ∃ len, l.length = len := ⟨_, rfl⟩
  have HL := Lib.hid hle
  obtain ⟨B, hB⟩ : ∃ B, w.heap.size = B := ⟨_, rfl⟩
  have HSZ := Lib.hid hB
  rw [hle] at HS h1 ⊢
  obtain ⟨Y, hY⟩ : ∃ Y, (((w.alloc (.cells #[.slice a len cap] 25)).alloc (.cells #[.int .i64 bl] 3)).alloc (.cells #[.int .i64 ar] 3)).alloc (.cells #[.bool false] 4) = Y := ⟨_, rfl⟩
  have hYs : Y.heap.size = B + 4 := by rw [← hY, ← hB]; simp
  have hYb : Below B w Y := by rw [← hY, ← hB]; exact ((((Below.refl _ w).alloc (Nat.le_refl _) _).alloc (by simp) _).alloc (by simp; omega) _).alloc (by simp; omega) _
  have y0 : RowC Y B 25 [.slice a len cap] := by rw [← hY, ← hB]; exact (((RowC.new w _ _).below (below_new _ _)).below (below_new _ _)).below (below_new _ _)
  have y1 : RowC Y (B + 1) 3 [.int .i64 bl] := by
    rw [← hY, ← hB]
    have := RowC.new (w.alloc (.cells #[.slice a len cap] 25)) 3 [.int .i64 bl]
    rw [World.size_alloc] at this
    exact (this.below (below_new _ _)).below (below_new _ _)
  have y2 : RowC Y (B + 2) 3 [.int .i64 ar] := by
    rw [← hY, ← hB]
    have := RowC.new ((w.alloc (.cells #[.slice a len cap] 25)).alloc (.cells #[.int .i64 bl] 3)) 3 [.int .i64 ar]
    simp only [World.size_alloc] at this
    exact this.below (below_new _ _)
  have y3 : RowC Y (B + 3) 4 [.bool false] := by
    rw [← hY, ← hB]
    have := RowC.new (((w.alloc (.cells #[.slice a len cap] 25)).alloc (.cells #[.int .i64 bl] 3)).alloc (.cells #[.int .i64 ar] 3)) 4 [.bool false]
    simp only [World.size_alloc] at this
    exact this
  have c0 := y0.cell 0 _ rfl
  by_cases hi : 8 < len
  · have q0 : decide ((len : Int) > 8) = true := by simp; omega
    have E0 : Hid (cGood l bl ar = false) := by show _ = _; unfold cGood; rw [hle, decide_eq_false (by omega)]; rfl
    have f3 := y3.frozen 0
    have c3 := y3.cell 0 _ rfl
    have R1 := Lib.hid (y3.set 0 (.bool false))
    have HB2 : Hid (Below B w (Y.setCell ⟨B + 3, 0, none⟩ (.bool false))) := set_below hYb (by omega) 0 _
    have g1 : (len : Int) > 8 := by omega
    clear y0 y1 y2 y3 hYb h1 h2
    go_enter Tryz.func40, Tryz.ntmps40
    go_wp2_with fail
    refine bodyPost_ret (results_cell rfl rfl (load_bool1 R1.out)) rfl ?_
    rw [HSZ.out]
    exact ⟨by rw [E0.out], HB2.out⟩
  · have q0 : decide ((len : Int) > 8) = false := by simp; omega
    have hlen8 : len ≤ 8 := by omega
    have g1 : ¬ (len : Int) > 8 := by omega
    refine (callsIn_wide (n := 3)).1 ?_
    refine callsIn_of_wp_marks Tryz.func40 rfl trivial ?_ rfl
    simp only [Tryz.ntmps40, List.size_toArray, List.length_cons, List.length_nil, Nat.reduceAdd, Nat.reduceSub, Array.replicate_succ, Array.replicate_zero, List.push_toArray, List.append_toArray, List.nil_append, List.cons_append]
    obtain ⟨X, hX⟩ : ∃ X, (Y.alloc (.cells #[.int .i64 0] 3)).alloc (.cells #[.slice none 0 0] 24) = X := ⟨_, rfl⟩
    have hXs : X.heap.size = B + 6 := by rw [← hX]; simp [hYs]
    have hYX : Below Y.heap.size Y X := by rw [← hX]; exact ((Below.refl _ Y).alloc (Nat.le_refl _) _).alloc (by simp) _
    have hXb : Below B w X := hYb.trans (hYX.mono (by omega))
    have x4 : RowC X (B + 4) 3 [.int .i64 0] := by rw [← hX, ← hYs]; exact (RowC.new Y _ _).below (below_new _ _)
    have x5 : RowC X (B + 5) 24 [slV (none, 0, 0)] := by
      rw [← hX]
      have := RowC.new (Y.alloc (.cells #[.int .i64 0] 3)) 24 [.slice none 0 0]
      rw [World.size_alloc, hYs] at this
      exact this
    have SX := SpX.new 0 (len : Int) (.slice a len cap) hXb (by omega)
    rw [hXs] at SX
    obtain ⟨W0, hW0⟩ : ∃ W0, ((X.alloc (.cells #[.slice a len cap] 25)).alloc (.cells #[.int .i64 0] 3)).alloc (.cells #[.int .i64 (len : Int)] 3) = W0 := ⟨_, rfl⟩
    have hWs : W0.heap.size = B + 9 := by rw [← hW0]; simp [hXs]
    have bX : Below X.heap.size X W0 := by rw [← hW0]; exact (((Below.refl _ X).alloc (Nat.le_refl _) _).alloc (by simp) _).alloc (by simp; omega) _
    rw [hW0] at SX
    have z0 := (y0.below hYX).below bX
    have z1 := (y1.below hYX).below bX
    have z2 := (y2.below hYX).below bX
    have z3 := (y3.below hYX).below bX
    have z4 := x4.below bX
    have z5 := x5.below bX
    have xc : X.cell? ⟨B, 0, none⟩ = some (.slice a len cap) := (y0.below hYX).cell 0 _ rfl
    clear y0 y1 y2 y3 x4 x5 bX hXb hYX hYb h1 h2
    gi_wp2_with (refine ⟨trivial, ?_⟩; gi_at_call 77; refine (span_in _ _ trivial rfl _ _ _ _ _ _).mono ?_; rintro e w' ⟨rfl, rfl⟩)
    try rw [hX]
    try rw [hW0]
    try rw [hXs]
    clear hX hW0 hY c0 xc
    have HW := Lib.hid hWs
    have hm : hiOf l (len : Int) - loOf 0 = len := by rw [← hle, hiOf_all, loOf_zero]; rfl
    have hseq := span1_seq 2 (by omega) (B + 6 + 1) (B + 6 + 2) (B + 6) 0 (len : Int) (.slice a len cap) r l W0
    rw [hm, loOf_zero] at hseq
    refine wpIn_rangeFunc_num (n := 3) rfl (by omega) (gf := 107) (lb := #[.pointer (some ⟨B + 6 + 1, 0, none⟩), .pointer (some ⟨B + 6 + 2, 0, none⟩), .pointer (some ⟨B + 6, 0, none⟩)]) rfl trivial (enters_of Tryz.func107 (by kernel_rfl) rfl)
      hseq (Below.refl _ _) (fun _ => rfl)
      (fun k W => ∃ (last : Int) (u : SlV), RowC W B 25 [.slice a len cap] ∧ RowC W (B + 1) 3 [.int .i64 bl] ∧ RowC W (B + 2) 3 [.int .i64 ar] ∧ RowC W (B + 3) 4 [.bool false] ∧ RowC W (B + 4) 3 [.int .i64 last] ∧ RowC W (B + 5) 24 [slV u] ∧ InO (B + 9) W (slV u) (cAts (l.take k)) ∧ SpX B (B + 6) 0 (len : Int) (.slice a len cap) w W ∧ cRise bl ar 0 l = cRise bl ar last (l.drop k))
      (fun c k W => c = .ret ∧ RowC W (B + 3) 4 [.bool (cGood l bl ar)] ∧ Below B w W)
      ?hR ?hI ?hIx ⟨0, _, z0, z1, z2, z3, z4, z5, InO.nil _ _, SX, rfl⟩
      (fun k a' W => ∃ C q, B + 8 < C ∧ r[k]? = some q ∧ RowC W C 51 (svL q) ∧ a' = { tmps := #[.slice a len cap, .int .i64 bl, .int .i64 ar, .pointer (some ⟨B, 0, none⟩), .pointer (some ⟨B + 1, 0, none⟩), .pointer (some ⟨B + 2, 0, none⟩), .pointer (some ⟨B + 3, 0, none⟩), .pointer (some ⟨B + 4, 0, none⟩), .pointer (some ⟨B + 5, 0, none⟩), .int .i64 (k : Int), .pointer (some ⟨C, 0, none⟩), undef, undef, .slice a len cap, .int .i64 (len : Int), .bool false, .slice a len cap, .slice a len cap, .int .i64 (len : Int), .func (.func 107) #[] #[.pointer (some ⟨B + 6 + 1, 0, none⟩), .pointer (some ⟨B + 6 + 2, 0, none⟩), .pointer (some ⟨B + 6, 0, none⟩)], .int .i64 (k : Int), svV q, undef, undef, undef, undef, undef, undef, undef, undef, undef, undef, undef, undef, undef, undef, undef, undef, undef, undef, undef, undef, undef, undef, undef, undef, undef, undef, undef, undef, undef, undef, undef, undef, undef, undef, undef, undef, undef, undef, undef, undef, undef, undef, undef, undef, undef, undef, undef, undef, undef], defers := [] })
      ?hAx ?assign ?body ?done ?stop
    case hR =>
      rintro k W ⟨last, u, _, _, _, _, _, _, _, h3, _⟩
      exact h3.spb HSZ.out HS.out
    case hI =>
      intro s Y Z row ⟨last, u, g0, g1, g2, g3, g4, g5, g6, g7, g8⟩ hg hr
      exact ⟨last, u, rowC_own g0 hg hr, rowC_own g1 hg hr, rowC_own g2 hg hr, rowC_own g3 hg hr, rowC_own g4 hg hr, rowC_own g5 hg hr, g6.own hg hr, g7.own (by omega) hg (by omega) hr, g8⟩
    case hIx =>
      intro c s Y Z row ⟨g1, g2, g3⟩ hg hr
      exact ⟨g1, rowC_own g2 hg hr, below_own g3 (by omega) hg (fun r e => ⟨by have := (hr r e).1; omega, (hr r e).2⟩)⟩
    case hAx =>
      rintro k a' _ Y Z row ⟨C, q, f1, f2, f3, f4⟩ hg hr
      exact ⟨C, q, f1, f2, rowC_own f3 hg hr, f4⟩
    case assign =>
      rintro lp k W K hkm ⟨last, u, g0, g1, g2, g3, g4, g5, g6, g7, g8⟩ hK
      obtain ⟨q, s, hq, hs, -⟩ := snR_at HS.out (k := k) (by rw [HL.out]; exact hkm)
      have ST := new_sn W q
      have HZ : Hid (B + 8 < W.heap.size) := g7.bj.lt
      have hK := hK _ _ (keepsFrom_below (below_new W (.cells (svL q).toArray 51))) ⟨last, u, g0.below (below_new W _), g1.below (below_new W _), g2.below (below_new W _), g3.below (below_new W _), g4.below (below_new W _), g5.below (below_new W _), g6.below (below_new W _), g7.alloc (by have := HZ.out; omega) _, g8⟩ ⟨W.heap.size, q, HZ.out, hq, RowC.new W _ _, rfl⟩
      rw [encS_at 0 (by rw [Nat.zero_add]; exact hq), Nat.zero_add]
      clear g0 g1 g2 g3 g4 g5 g6 g7 hq hs
      gi_wp2
      exact hK
    case body =>
      clear SX z0 z1 z2 z3 z4 z5 hseq hm q0 hi
      rintro lp k a' W _ _ hkm ⟨last, u, g0, g1, g2, g3, g4, g5, g6, g7, g8⟩ ⟨C, q, hC, hq, hx, rfl⟩
      obtain ⟨q', s, hq', hs, hqs⟩ := snR_at HS.out (k := k) (by rw [HL.out]; exact hkm)
      obtain rfl : q' = q := by rw [hq] at hq'; cases hq'; rfl
      obtain ⟨sid, ⟨x, n, c⟩, ⟨ty, tn, tc⟩⟩ := q'
      have hsm := List.mem_of_getElem? hs
      have hls := HKL.out.2 s hsm
      have hst := cRise_at hs bl ar last
      rw [← g8] at hst
      have HSID : Hid (s.id = sid) := hqs.id.symm
      have HST := Lib.hid hst
      have HZ : Hid (B + 8 < W.heap.size) := g7.bj.lt
      have HSI := Lib.hid (hqs.below (W' := W) (by rw [HSZ.out]; exact g7.be))
      have G0 := Lib.hid g0
      have G1 := Lib.hid g1
      have G2 := Lib.hid g2
      have G3 := Lib.hid g3
      have G4 := Lib.hid g4
      have G5 := Lib.hid g5
      have G6 := Lib.hid g6
      have G7 := Lib.hid g7
      have HX := Lib.hid hx
      have d0 : W.cell? ⟨C, 0, none⟩ = some (.int .i64 sid) := hx.cell 0 _ rfl
      have d1 := g4.cell 0 _ rfl
      have d3 := g3.cell 0 _ rfl
      have f3 := g3.frozen 0
      have HTK := Lib.hid (take_at hs)
      have HKF3 : Hid (KeepsFrom W0.heap.size W (W.setCell ⟨B + 3, 0, none⟩ (.bool false))) := keepsFrom_cells g3 (grownBy_setCellJ W (B + 3) 0 _)
      have HB3 : Hid (Below B w (W.setCell ⟨B + 3, 0, none⟩ (.bool false))) := set_below g7.be (by omega) 0 _
      have HR3 := Lib.hid (g3.set 0 (.bool false))
      simp only [svV, slV]
      by_cases q1 : sid ≤ last
      · have e1 : decide (sid ≤ last) = true := by simpa using q1
        have HG : Hid (cGood l bl ar = false) := by
          show _ = _
          unfold cGood
          rw [HST.out, HSID.out, show decide (last < sid) = false by simp; omega]
          simp
        clear g0 g1 g2 g3 g4 g5 g6 g7 g8 hq hq' hs hqs hx hsm hls hst
        gi_step
        gi_step
        gi_step
        gi_step
        refine region_seq_roundC ?lo (by kernel_rfl) ?_
        case lo => repeat (first | exact letsOut_inBlock letsOut_num | refine letsOut_thenC ?_)
        go_wp2_with fail
        gi_wp2
        refine ⟨HKF3.out, rfl, ?_, HB3.out⟩
        rw [HG.out]
        exact HR3.out
      · have e1 : decide (sid ≤ last) = false := by simpa using q1
        by_cases q2 : sid > 1000000
        · have e2 : decide (sid > 1000000) = true := by simpa using q2
          have HG : Hid (cGood l bl ar = false) := by
            show _ = _
            unfold cGood
            rw [HST.out, HSID.out, show decide (sid ≤ 1000000) = false by simp; omega]
            simp
          clear g0 g1 g2 g3 g4 g5 g6 g7 g8 hq hq' hs hqs hx hsm hls hst
          gi_step
          gi_step
          gi_step
          gi_step
          refine region_seq_roundC ?lo (by kernel_rfl) ?_
          case lo => repeat (first | exact letsOut_inBlock letsOut_num | refine letsOut_thenC ?_)
          go_wp2_with fail
          gi_wp2
          refine ⟨HKF3.out, rfl, ?_, HB3.out⟩
          rw [HG.out]
          exact HR3.out
        · have e2 : decide (sid > 1000000) = false := by simpa using q2
          have HTN : Hid (s.tb.length = tn) := by obtain ⟨a', ca', e, -⟩ := hqs.tb; simp only [slV, Value.slice.injEq] at e; show _ = _; omega
          have HTB : Hid (∀ z : World, Below B w z → Prt z (.slice ty tn tc) s.tb) := fun z hz => hqs.tb.below (by rw [HSZ.out]; exact hz)
          have htn : tn ≤ 1000 := by have := HTN.out; omega
          have HAL : Hid ((cAts (l.take k)).length ≤ 8000 ∧ s.tb.length ≤ 1000) := by
            have h1 := cAts_len (K := 1000) (l.take k) (fun t ht => (HKL.out.2 t (List.mem_of_mem_take ht)).2)
            rw [List.length_take] at h1
            exact ⟨by omega, hls.2⟩
          have LDX := load_snC hx
          have HXX := Lib.hid hx
          have g1c := g1.cell 0 _ rfl
          have g2c := g2.cell 0 _ rfl
          have HF := Lib.hid (ch_fits (q := (sid, (x, n, c), (ty, tn, tc))) HSI.out (by omega) (by omega) bl ar)
          obtain ⟨fb, hfb⟩ : ∃ fb, fitS s bl ar = fb := ⟨_, rfl⟩
          rw [hfb] at HF
          have HFB := Lib.hid hfb
          have HIW : Hid (GdI B W0.heap.size bl ar last a len cap w W W) := ⟨g0, g1, g2, g3, g4, g7, KeepsFrom.refl _ _⟩
          simp only [svV, slV] at HF LDX
          cases fb with
          | false =>
            have HG : Hid (cGood l bl ar = false) := by
              show _ = _
              unfold cGood
              rw [HST.out, HFB.out]
              simp
            clear g0 g1 g2 g3 g4 g5 g6 g7 g8 hq hq' hs hqs hx hsm hls hst hfb
            gi_step
            gi_step
            gi_step
            gi_step
            refine region_seq_roundC ?lo (by kernel_rfl) ?_
            case lo => repeat (first | exact letsOut_inBlock letsOut_num | refine letsOut_thenC ?_)
            go_wp2_with fail
            refine HF.out.mono ?_
            rintro e z ⟨rfl, hz⟩
            have f3z := (G3.out.below hz).frozen 0
            have HKFz : Hid (KeepsFrom W0.heap.size W (z.setCell ⟨B + 3, 0, none⟩ (.bool false))) := keepsFrom_trans (keepsFrom_below hz) (keepsFrom_cells (G3.out.below hz) (grownBy_setCellJ z (B + 3) 0 _))
            have HBz : Hid (Below B w (z.setCell ⟨B + 3, 0, none⟩ (.bool false))) := set_below (G7.out.be.trans (hz.mono (by have := HZ.out; omega))) (by omega) 0 _
            have HRz : Hid (RowC (z.setCell ⟨B + 3, 0, none⟩ (.bool false)) (B + 3) 4 [.bool false]) := (G3.out.below hz).set 0 _
            have c3z := (G3.out.below hz).cell 0 _ rfl
            go_wp2_with fail
            gi_wp2
            refine ⟨HKFz.out, rfl, ?_, HBz.out⟩
            rw [HG.out]
            exact HRz.out
          | true =>
            have HCO := fun (z : World) (hz : Below W.heap.size W z) => ch_complete (w := z) (q := (sid, (x, n, c), (ty, tn, tc))) (HSI.out.below hz) (by omega)
            simp only [svV, slV] at HCO
            have HCO := Lib.hid HCO
            have HTK2 := HTK
            by_cases q4 : (k : Int) < (len : Int) - 1
            · have e4' : decide ((k : Int) < (len : Int) - 1) = true := by simpa using q4
              have HN : Hid ((decide (l.length ≤ k + 1)) = false) := by have := HL.out; show _ = _; simp; omega
              obtain ⟨cb, hcb⟩ : ∃ cb, fullS s = cb := ⟨_, rfl⟩
              have HCB := Lib.hid hcb
              have g8' : (len : Int) ≤ 8 := by omega
              clear g0 g1 g2 g3 g4 g5 g6 g7 g8 hq hq' hs hqs hx hsm hls hst hfb hcb
              gi_step
              gi_step
              gi_step
              gi_step
              refine region_seq_roundC ?lo (by kernel_rfl) ?_
              case lo => repeat (first | exact letsOut_inBlock letsOut_num | refine letsOut_thenC ?_)
              go_wp2_with fail
              refine HF.out.mono ?_
              rintro e y1 ⟨rfl, hy⟩
              have l0 := (G0.out.below hy).cell 0 _ rfl
              have LDY := load_snC (HXX.out.below hy)
              simp only [svV, slV] at LDY
              have HYB := Lib.hid hy
              clear hy HF
              go_wp2_with fail
              gi_step
              gi_step
              gi_step
              gi_step
              gi_step
              gi_step
              refine region_seq_roundC ?lo2 (by kernel_rfl) ?_
              case lo2 => repeat (first | exact letsOut_inBlock letsOut_num | refine letsOut_thenC ?_)
              have HC1 := Lib.hid (HCO.out y1 HYB.out)
              rw [HCB.out] at HC1
              clear HCO
              cases cb with
              | false =>
                have HG : Hid (cGood l bl ar = false) := by
                  show _ = _
                  unfold cGood
                  rw [HST.out, HN.out, HCB.out]
                  simp
                go_wp2_with fail
                refine HC1.out.mono ?_
                rintro e z ⟨rfl, hz0⟩
                have hz : Below W.heap.size W z := HYB.out.trans (hz0.mono HYB.out.size)
                clear hz0 HC1 l0 LDY
                have f3z := (G3.out.below hz).frozen 0
                have HKFz : Hid (KeepsFrom W0.heap.size W (z.setCell ⟨B + 3, 0, none⟩ (.bool false))) := keepsFrom_trans (keepsFrom_below hz) (keepsFrom_cells (G3.out.below hz) (grownBy_setCellJ z (B + 3) 0 _))
                have HBz : Hid (Below B w (z.setCell ⟨B + 3, 0, none⟩ (.bool false))) := set_below (G7.out.be.trans (hz.mono (by have := HZ.out; omega))) (by omega) 0 _
                have HRz : Hid (RowC (z.setCell ⟨B + 3, 0, none⟩ (.bool false)) (B + 3) 4 [.bool false]) := (G3.out.below hz).set 0 _
                have c3z := (G3.out.below hz).cell 0 _ rfl
                go_wp2_with fail
                gi_wp2
                refine ⟨HKFz.out, rfl, ?_, HBz.out⟩
                rw [HG.out]
                exact HRz.out
              | true =>
                have HG : Hid (cRise bl ar 0 l = cRise bl ar sid (l.drop (k + 1))) := by
                  show _ = _
                  rw [HST.out, HSID.out, show decide (last < sid) = true by simp; omega, show decide (sid ≤ 1000000) = true by simp; omega, HFB.out, HCB.out]
                  simp
                go_wp2_with fail
                refine HC1.out.mono ?_
                rintro e z ⟨rfl, hz0⟩
                have HZB : Hid (Below W.heap.size W z) := HYB.out.trans (hz0.mono HYB.out.size)
                have HGI : Hid (GdI B W0.heap.size bl ar last a len cap w W z) := HIW.out.low (HZB.out.mono (by have := HZ.out; omega)) (keepsFrom_below HZB.out)
                clear hz0 HC1 l0 LDY
                have HI1 : Hid (GdI B W0.heap.size bl ar sid a len cap w W (z.setCell ⟨B + 4, 0, none⟩ (.int .i64 sid))) := HGI.out.set4 sid
                obtain ⟨z1, hz1⟩ : ∃ z1, z.setCell ⟨B + 4, 0, none⟩ (.int .i64 sid) = z1 := ⟨_, rfl⟩
                have hzx : RowC z C 51 (svL (sid, (x, n, c), (ty, tn, tc))) := HXX.out.below HZB.out
                have hz4 := HGI.out.g4
                have hz5 : RowC z (B + 5) 24 [slV u] := G5.out.below HZB.out
                have e0 := hzx.cell 0 _ rfl
                have e4 := hz4.cell 0 _ rfl
                have e4f := hz4.frozen 0
                have e2 : z1.cell? ⟨C, 2, none⟩ = some (.slice ty tn tc) := by rw [← hz1]; exact (set_other hzx (by omega) 0 _).cell 2 _ rfl
                have H5 : Hid (RowC z1 (B + 5) 24 [slV u]) := by show RowC _ _ _ _; rw [← hz1]; exact set_other hz5 (by omega) 0 _
                have H6 : Hid (InO (B + 9) z1 (slV u) (cAts (l.take k) ++ (s.tb.take 0).map (·.2))) := by
                  show InO _ _ _ _
                  rw [← hz1, List.take_zero, List.map_nil, List.append_nil]
                  exact (G6.out.below HZB.out).setLow (by omega) 0 _
                have HZS : Hid (B + 9 ≤ z1.heap.size) := by have := HZ.out; have := HZB.out.size; show _ ≤ _; rw [← hz1]; have := (KeepsWalks.setCell z ⟨B + 4, 0, none⟩ (.int .i64 sid)).size; omega
                rw [hz1] at HI1
                clear hzx hz4 hz5
                go_wp2_with fail
                gi_wp2
                try rw [hz1]
                clear hz1
                gi_loopw [53] (fun iv wr => ∃ (j : Nat) (u' : SlV), j ≤ tn ∧ iv = .int .i64 (j : Int) ∧ Hid (RowC wr (B + 5) 24 [slV u']) ∧ Hid (InO (B + 9) wr (slV u') (cAts (l.take k) ++ (s.tb.take j).map (·.2))) ∧ Hid (GdI B W0.heap.size bl ar sid a len cap w W wr) ∧ Hid (B + 9 ≤ wr.heap.size)) (fun iv _ => tn - (intOf iv).toNat)
                case atStart => exact ⟨0, u, Nat.zero_le _, rfl, H5, H6, HI1, HZS⟩
                case round =>
                  obtain ⟨j, u', hj, rfl, K5, K6, KI, KZ⟩ := hrel
                  by_cases hlt : j < tn
                  · obtain ⟨p, hp⟩ : ∃ p, s.tb[j]? = some p := ⟨_, List.getElem?_eq_getElem (by rw [HTN.out]; exact hlt)⟩
                    have hsn : s.tb.take (j + 1) = s.tb.take j ++ [p] := take_at hp
                    obtain ⟨bb, off, rfl, hbb, p1, p2⟩ := (HTB.out wr KI.out.g7.be).at hp
                    obtain ⟨x0, y0⟩ := p
                    simp only at p1 p2
                    have HSN := Lib.hid hsn
                    have g1 : (j : Int) < (tn : Int) := by omega
                    have HWr : Hid (wrap64 ((j : Int) + 1) = (j : Int) + 1) := IntWalk.wrap64_in _ (by omega)
                    have LD := load_prs p1 p2
                    have ST := new_prs wr x0 y0
                    obtain ⟨W2, hW2⟩ : ∃ W2, wr.alloc (.cells #[.int .i64 x0, .int .i64 y0] 54) = W2 := ⟨_, rfl⟩
                    rw [hW2] at ST
                    have hb2 : Below wr.heap.size wr W2 := by rw [← hW2]; exact below_new wr _
                    have hR : RowC W2 wr.heap.size 54 (prL x0 y0) := by rw [← hW2]; exact RowC.new wr _ _
                    have r1 : W2.cell? ⟨wr.heap.size, 1, none⟩ = some (.int .i64 y0) := hR.cell 1 _ rfl
                    have r5 := K5.out.below hb2
                    have r5c := r5.cell 0 _ rfl
                    have o5 := K6.out.below hb2
                    obtain ⟨f2, W4, hr, o6, gg, -⟩ := in_append o5 (by have := hb2.size; have := KZ.out; omega) y0 (by have := HAL.out; simp only [List.length_append, List.length_map, List.length_take]; omega)
                    have HAP := Lib.hid hr
                    have hb4 : Below (B + 9) W2 W4 := (Below.refl _ W2).grown gg (by have := hb2.size; have := KZ.out; omega) (fun i e => (o5.base i e).1)
                    have hkf4 : KeepsFrom W0.heap.size wr W4 := keepsFrom_trans (keepsFrom_below hb2) (keepsFrom_row o5 gg)
                    have r6 : RowC W4 (B + 5) 24 [slV u'] := r5.belowN hb4 (by omega)
                    have r6c := r6.cell 0 _ rfl
                    have r6f := r6.frozen 0
                    obtain ⟨⟨fx, fn', fc⟩, rfl, -⟩ := own_slV o6
                    simp only [slV] at HAP o6
                    have KI4 : Hid (GdI B W0.heap.size bl ar sid a len cap w W (W4.setCell ⟨B + 5, 0, none⟩ (.slice fx fn' fc))) := (KI.out.low ((hb2.mono KZ.out).trans hb4) hkf4).set5 r6 _
                    have R7 : Hid (RowC (W4.setCell ⟨B + 5, 0, none⟩ (.slice fx fn' fc)) (B + 5) 24 [slV (fx, fn', fc)]) := r6.set 0 _
                    have O7 : Hid (InO (B + 9) (W4.setCell ⟨B + 5, 0, none⟩ (.slice fx fn' fc)) (slV (fx, fn', fc)) (cAts (l.take k) ++ (s.tb.take (j + 1)).map (·.2))) := by
                      show World.ownsRow _ _ _ _ _ _ _
                      rw [HSN.out, List.map_append, ← List.append_assoc]
                      exact own_setB o6 r6 (by decide) 0 _
                    have S7 : Hid (B + 9 ≤ (W4.setCell ⟨B + 5, 0, none⟩ (.slice fx fn' fc)).heap.size) := by have := KZ.out; have := hb2.size; have := hb4.size; have := (KeepsWalks.setCell W4 ⟨B + 5, 0, none⟩ (.slice fx fn' fc)).size; show _ ≤ _; omega
                    obtain ⟨W3, hW3⟩ : ∃ W3, W2.alloc (.cells #[.int .i64 y0] 3) = W3 := ⟨_, rfl⟩
                    have SB : Hid ((Instr.buildSlice 24 1 #[(0, .int .i64 y0)]).run Tryz.prog W2 = .ok (.slice (some ⟨W2.heap.size, 0, none⟩) 1 1) W3) := by show _ = _; rw [← hW3]; exact slice_int1 W2 y0
                    rw [hW3] at HAP
                    obtain ⟨NN, hNN⟩ : ∃ NN, wr.heap.size = NN := ⟨_, rfl⟩
                    rw [hNN] at ST r1
                    have HLT := Lib.hid hlt
                    obtain ⟨ux, un, uc⟩ := u'
                    simp only [slV] at HAP r5c r6c
                    clear hp hsn hbb p1 p2 hW2 hb2 hR r5 o5 hr o6 gg hb4 hkf4 r6 hW3 hlt K5 K6 KI HSN
                    gi_wp2_with (with_reducible refine list_round_build ?lo4 ?hd4 ?_)
                    case lo4 => repeat (first | exact letsOut_num | refine letsOut_thenC ?_ | refine letsOut_inBlock ?_)
                    case hd4 => intro o ho c; simp only [List.mem_cons, List.mem_nil_iff, or_false] at ho; rcases ho with rfl | rfl <;> simp
                    go_wp2_with (first | ((with_reducible refine gate_build ?_); refine wpList_build_run 24 1 #[(0, .tmp 59)] rfl rfl [(0, .int .i64 y0)] _ rfl SB.out ?_) | (at_builtin; refine wpList_append_run (.tmp 57) (.tmp 60) 24 rfl rfl _ _ _ rfl rfl (HAP.out _) ?_))
                    gi_wp2
                    go_roundw
                    case rel => exact ⟨j + 1, (fx, fn', fc), HLT.out, by simp, R7, O7, KI4, S7⟩
                    case measure => have := HLT.out; simp [intOf]; omega
                  · obtain rfl : j = tn := by omega
                    have HTA : Hid (cAts (l.take (k + 1)) = cAts (l.take k) ++ (s.tb.take j).map (·.2)) := by
                      show _ = _
                      rw [HTK.out, cAts_snoc, List.take_of_length_le (l := s.tb) (by rw [HTN.out]; exact Nat.le_refl _)]
                    have HG5 := K5
                    clear K5
                    gi_wp2
                    refine ⟨KI.out.kf, sid, u', KI.out.g0, KI.out.g1, KI.out.g2, KI.out.g3, KI.out.g4, HG5.out, ?_, KI.out.g7, HG.out⟩
                    rw [HTA.out]
                    exact K6.out
            · have e4' : decide ((k : Int) < (len : Int) - 1) = false := by simpa using q4
              have HN : Hid ((decide (l.length ≤ k + 1)) = true) := by have := HL.out; show _ = _; simp; omega
              have g8' : (len : Int) ≤ 8 := by omega
              clear g0 g1 g2 g3 g4 g5 g6 g7 g8 hq hq' hs hqs hx hsm hls hst hfb
              gi_step
              gi_step
              gi_step
              gi_step
              refine region_seq_roundC ?lo (by kernel_rfl) ?_
              case lo => repeat (first | exact letsOut_inBlock letsOut_num | refine letsOut_thenC ?_)
              go_wp2_with fail
              refine HF.out.mono ?_
              rintro e y1 ⟨rfl, hy⟩
              have l0 := (G0.out.below hy).cell 0 _ rfl
              have LDY := load_snC (HXX.out.below hy)
              simp only [svV, slV] at LDY
              have HYB := Lib.hid hy
              clear hy HF
              go_wp2_with fail
              gi_step
              gi_step
              gi_step
              gi_step
              gi_step
              gi_step
              refine region_seq_roundC ?lo2 (by kernel_rfl) ?_
              case lo2 => repeat (first | exact letsOut_inBlock letsOut_num | refine letsOut_thenC ?_)
              have HG : Hid (cRise bl ar 0 l = cRise bl ar sid (l.drop (k + 1))) := by
                show _ = _
                rw [HST.out, HSID.out, show decide (last < sid) = true by simp; omega, show decide (sid ≤ 1000000) = true by simp; omega, HFB.out, HN.out]
                simp
              obtain ⟨z, hzy⟩ : ∃ z, z = y1 := ⟨_, rfl⟩
              subst hzy
              have HZB : Hid (Below W.heap.size W z) := HYB.out
              have HGI : Hid (GdI B W0.heap.size bl ar last a len cap w W z) := HIW.out.low (HZB.out.mono (by have := HZ.out; omega)) (keepsFrom_below HZB.out)
              have HI1 : Hid (GdI B W0.heap.size bl ar sid a len cap w W (z.setCell ⟨B + 4, 0, none⟩ (.int .i64 sid))) := HGI.out.set4 sid
              obtain ⟨z1, hz1⟩ : ∃ z1, z.setCell ⟨B + 4, 0, none⟩ (.int .i64 sid) = z1 := ⟨_, rfl⟩
              have hzx : RowC z C 51 (svL (sid, (x, n, c), (ty, tn, tc))) := HXX.out.below HZB.out
              have hz4 := HGI.out.g4
              have hz5 : RowC z (B + 5) 24 [slV u] := G5.out.below HZB.out
              have e0 := hzx.cell 0 _ rfl
              have e4 := hz4.cell 0 _ rfl
              have e4f := hz4.frozen 0
              have e2 : z1.cell? ⟨C, 2, none⟩ = some (.slice ty tn tc) := by rw [← hz1]; exact (set_other hzx (by omega) 0 _).cell 2 _ rfl
              have H5 : Hid (RowC z1 (B + 5) 24 [slV u]) := by show RowC _ _ _ _; rw [← hz1]; exact set_other hz5 (by omega) 0 _
              have H6 : Hid (InO (B + 9) z1 (slV u) (cAts (l.take k) ++ (s.tb.take 0).map (·.2))) := by
                show InO _ _ _ _
                rw [← hz1, List.take_zero, List.map_nil, List.append_nil]
                exact (G6.out.below HZB.out).setLow (by omega) 0 _
              have HZS : Hid (B + 9 ≤ z1.heap.size) := by have := HZ.out; have := HZB.out.size; show _ ≤ _; rw [← hz1]; have := (KeepsWalks.setCell z ⟨B + 4, 0, none⟩ (.int .i64 sid)).size; omega
              rw [hz1] at HI1
              clear hzx hz4 hz5
              go_wp2_with fail
              gi_wp2
              try rw [hz1]
              clear hz1
              gi_loopw [53] (fun iv wr => ∃ (j : Nat) (u' : SlV), j ≤ tn ∧ iv = .int .i64 (j : Int) ∧ Hid (RowC wr (B + 5) 24 [slV u']) ∧ Hid (InO (B + 9) wr (slV u') (cAts (l.take k) ++ (s.tb.take j).map (·.2))) ∧ Hid (GdI B W0.heap.size bl ar sid a len cap w W wr) ∧ Hid (B + 9 ≤ wr.heap.size)) (fun iv _ => tn - (intOf iv).toNat)
              case atStart => exact ⟨0, u, Nat.zero_le _, rfl, H5, H6, HI1, HZS⟩
              case round =>
                obtain ⟨j, u', hj, rfl, K5, K6, KI, KZ⟩ := hrel
                by_cases hlt : j < tn
                · obtain ⟨p, hp⟩ : ∃ p, s.tb[j]? = some p := ⟨_, List.getElem?_eq_getElem (by rw [HTN.out]; exact hlt)⟩
                  have hsn : s.tb.take (j + 1) = s.tb.take j ++ [p] := take_at hp
                  obtain ⟨bb, off, rfl, hbb, p1, p2⟩ := (HTB.out wr KI.out.g7.be).at hp
                  obtain ⟨x0, y0⟩ := p
                  simp only at p1 p2
                  have HSN := Lib.hid hsn
                  have g1 : (j : Int) < (tn : Int) := by omega
                  have HWr : Hid (wrap64 ((j : Int) + 1) = (j : Int) + 1) := IntWalk.wrap64_in _ (by omega)
                  have LD := load_prs p1 p2
                  have ST := new_prs wr x0 y0
                  obtain ⟨W2, hW2⟩ : ∃ W2, wr.alloc (.cells #[.int .i64 x0, .int .i64 y0] 54) = W2 := ⟨_, rfl⟩
                  rw [hW2] at ST
                  have hb2 : Below wr.heap.size wr W2 := by rw [← hW2]; exact below_new wr _
                  have hR : RowC W2 wr.heap.size 54 (prL x0 y0) := by rw [← hW2]; exact RowC.new wr _ _
                  have r1 : W2.cell? ⟨wr.heap.size, 1, none⟩ = some (.int .i64 y0) := hR.cell 1 _ rfl
                  have r5 := K5.out.below hb2
                  have r5c := r5.cell 0 _ rfl
                  have o5 := K6.out.below hb2
                  obtain ⟨f2, W4, hr, o6, gg, -⟩ := in_append o5 (by have := hb2.size; have := KZ.out; omega) y0 (by have := HAL.out; simp only [List.length_append, List.length_map, List.length_take]; omega)
                  have HAP := Lib.hid hr
                  have hb4 : Below (B + 9) W2 W4 := (Below.refl _ W2).grown gg (by have := hb2.size; have := KZ.out; omega) (fun i e => (o5.base i e).1)
                  have hkf4 : KeepsFrom W0.heap.size wr W4 := keepsFrom_trans (keepsFrom_below hb2) (keepsFrom_row o5 gg)
                  have r6 : RowC W4 (B + 5) 24 [slV u'] := r5.belowN hb4 (by omega)
                  have r6c := r6.cell 0 _ rfl
                  have r6f := r6.frozen 0
                  obtain ⟨⟨fx, fn', fc⟩, rfl, -⟩ := own_slV o6
                  simp only [slV] at HAP o6
                  have KI4 : Hid (GdI B W0.heap.size bl ar sid a len cap w W (W4.setCell ⟨B + 5, 0, none⟩ (.slice fx fn' fc))) := (KI.out.low ((hb2.mono KZ.out).trans hb4) hkf4).set5 r6 _
                  have R7 : Hid (RowC (W4.setCell ⟨B + 5, 0, none⟩ (.slice fx fn' fc)) (B + 5) 24 [slV (fx, fn', fc)]) := r6.set 0 _
                  have O7 : Hid (InO (B + 9) (W4.setCell ⟨B + 5, 0, none⟩ (.slice fx fn' fc)) (slV (fx, fn', fc)) (cAts (l.take k) ++ (s.tb.take (j + 1)).map (·.2))) := by
                    show World.ownsRow _ _ _ _ _ _ _
                    rw [HSN.out, List.map_append, ← List.append_assoc]
                    exact own_setB o6 r6 (by decide) 0 _
                  have S7 : Hid (B + 9 ≤ (W4.setCell ⟨B + 5, 0, none⟩ (.slice fx fn' fc)).heap.size) := by have := KZ.out; have := hb2.size; have := hb4.size; have := (KeepsWalks.setCell W4 ⟨B + 5, 0, none⟩ (.slice fx fn' fc)).size; show _ ≤ _; omega
                  obtain ⟨W3, hW3⟩ : ∃ W3, W2.alloc (.cells #[.int .i64 y0] 3) = W3 := ⟨_, rfl⟩
                  have SB : Hid ((Instr.buildSlice 24 1 #[(0, .int .i64 y0)]).run Tryz.prog W2 = .ok (.slice (some ⟨W2.heap.size, 0, none⟩) 1 1) W3) := by show _ = _; rw [← hW3]; exact slice_int1 W2 y0
                  rw [hW3] at HAP
                  obtain ⟨NN, hNN⟩ : ∃ NN, wr.heap.size = NN := ⟨_, rfl⟩
                  rw [hNN] at ST r1
                  have HLT := Lib.hid hlt
                  obtain ⟨ux, un, uc⟩ := u'
                  simp only [slV] at HAP r5c r6c
                  clear hp hsn hbb p1 p2 hW2 hb2 hR r5 o5 hr o6 gg hb4 hkf4 r6 hW3 hlt K5 K6 KI HSN
                  gi_wp2_with (with_reducible refine list_round_build ?lo4 ?hd4 ?_)
                  case lo4 => repeat (first | exact letsOut_num | refine letsOut_thenC ?_ | refine letsOut_inBlock ?_)
                  case hd4 => intro o ho c; simp only [List.mem_cons, List.mem_nil_iff, or_false] at ho; rcases ho with rfl | rfl <;> simp
                  go_wp2_with (first | ((with_reducible refine gate_build ?_); refine wpList_build_run 24 1 #[(0, .tmp 59)] rfl rfl [(0, .int .i64 y0)] _ rfl SB.out ?_) | (at_builtin; refine wpList_append_run (.tmp 57) (.tmp 60) 24 rfl rfl _ _ _ rfl rfl (HAP.out _) ?_))
                  gi_wp2
                  go_roundw
                  case rel => exact ⟨j + 1, (fx, fn', fc), HLT.out, by simp, R7, O7, KI4, S7⟩
                  case measure => have := HLT.out; simp [intOf]; omega
                · obtain rfl : j = tn := by omega
                  have HTA : Hid (cAts (l.take (k + 1)) = cAts (l.take k) ++ (s.tb.take j).map (·.2)) := by
                    show _ = _
                    rw [HTK.out, cAts_snoc, List.take_of_length_le (l := s.tb) (by rw [HTN.out]; exact Nat.le_refl _)]
                  have HG5 := K5
                  clear K5
                  gi_wp2
                  refine ⟨KI.out.kf, sid, u', KI.out.g0, KI.out.g1, KI.out.g2, KI.out.g3, KI.out.g4, HG5.out, ?_, KI.out.g7, HG.out⟩
                  rw [HTA.out]
                  exact K6.out
    case done =>
      rintro D W hD ⟨last, u, g0, g1, g2, g3, g4, g5, g6, g7, g8⟩ hK
      clear SX z0 z1 z2 z3 z4 z5 hseq hm q0 hi
      rw [List.take_of_length_le (by rw [HL.out]; exact Nat.le_refl _)] at g6
      rw [cRise_end (by rw [HL.out]; exact Nat.le_refl _)] at g8
      obtain ⟨zs, hzs⟩ : ∃ zs, cAts l = zs := ⟨_, rfl⟩
      rw [hzs] at g6
      have hzl : zs.length ≤ 8000 := by
        rw [← hzs]
        have := cAts_len (K := 1000) l (fun t ht => (HKL.out.2 t ht).2)
        omega
      have HGD : Hid (cGood l bl ar = decide zs.Nodup) := by
        show _ = _
        unfold cGood
        rw [g8, hzs, decide_eq_true (by omega)]
        rfl
      have HSO := Lib.hid (in_sort g6 (by omega))
      have HZ : Hid (B + 8 < W.heap.size) := g7.bj.lt
      have d5 := g5.cell 0 _ rfl
      have G3 := Lib.hid g3
      have G5 := Lib.hid g5
      have G6 := Lib.hid g6
      have G7 := Lib.hid g7.be
      have HK := Lib.hid hK
      obtain ⟨ux, un, uc⟩ := u
      have hun : un = zs.length := by
        rcases g6.2 with ⟨e, e0⟩ | ⟨g, cap', cur, e, -⟩ <;> simp only [slV, Value.slice.injEq] at e <;> omega
      simp only [slV] at d5
      have HUN := Lib.hid hun
      clear g0 g1 g2 g3 g4 g5 g6 g7 g8 hK hzs hun
      gi_wp2_with (refine ⟨trivial, ?_⟩; gi_at_call 80; refine (callsIn_wide.2 HSO.out).mono ?_; rintro e y ⟨rfl, hO, hG⟩)
      have HYB : Hid (Below (B + 9) W y) := (Below.refl _ W).grown hG (by have := HZ.out; omega) (fun k e => (G6.out.base k e).1)
      have HKF1 : Hid (KeepsFrom 0 W y) := keepsFrom_row G6.out hG
      have r5 : RowC y (B + 5) 24 [.slice ux un uc] := G5.out.belowN HYB.out (by omega)
      have r3 : RowC y (B + 3) 4 [.bool false] := G3.out.belowN HYB.out (by omega)
      have HO := Lib.hid hO
      have HR5 := Lib.hid r5
      have HR3 := Lib.hid r3
      have c5 : ∀ z : Kp2 y (B + 5) (B + 3), z.1.cell? ⟨B + 5, 0, none⟩ = some (.slice ux un uc) := fun z => (z.fst r5).cell 0 _ rfl
      have hc := in_compact (w := y.drew) (v := .slice ux un uc) (zs := sorted zs) (own_belowT hO (Below.refl _ y).drew)
      obtain ⟨m, hm⟩ : ∃ m, (Lib.compact (sorted zs)).length = m := ⟨_, rfl⟩
      rw [hm] at hc
      have HM : Hid (cGood l bl ar = ((m : Int) == (un : Int))) := by
        show _ = _
        rw [HGD.out]
        have hh := sorted_compact zs
        rw [hm] at hh
        have hu := HUN.out
        by_cases e : m = zs.length
        · rw [decide_eq_true (hh.1 e), e, hu]; simp
        · rw [decide_eq_false (fun x => e (hh.2 x))]
          symm
          simp
          omega
      have HC := Lib.hid hc
      clear hO hG HSO hc hm r5 r3 d5
      refine wpIn_wide.2 (region_planN (fun x => ∃ z : Kp2 y (B + 5) (B + 3), x = z.1) 6 (.takes [0, 3, 4] (.one 1 (.takes [2, 5] .leaf))) hmx (by kernel_rfl) ⟨⟨y.drew, rfl, rfl⟩, rfl⟩ ?_)
      repeat (rw [wpPlanN_takes_cons]; simp only [nth_zero, nth_succ]; go_big_quiet_step (fail); refine wpQuiet_nil ?_)
      clear c5
      rw [wpPlanN_takes_nil, wpPlanN_one]
      simp only [nth_zero, nth_succ]
      go_wp2_with fail
      go_at_call 81
      refine HC.out.mono ?_
      rintro e z ⟨⟨a2, c2, rfl⟩, hG2⟩
      have hb2 : Below (B + 9) y z := (Below.refl _ y).drew.grown hG2 (by have := HYB.out.size; have := HZ.out; simp; omega) (fun k e => ((HO.out).base k e).1)
      have HKF2 : Hid (KeepsFrom 0 W z) := keepsFrom_trans HKF1.out (keepsFrom_trans (keepsFrom_below (Below.refl _ y).drew) (keepsFrom_row (own_belowT HO.out (Below.refl _ y).drew) hG2))
      have HR3z : Hid (RowC z (B + 3) 4 [.bool false]) := HR3.out.belowN hb2 (by omega)
      have hK2 : z.heap[B + 5]? = y.heap[B + 5]? ∧ z.heap[B + 3]? = y.heap[B + 3]? := ⟨hb2.block _ (by omega), hb2.block _ (by omega)⟩
      have HK2 := Lib.hid hK2
      have HBZ : Hid (Below B w z) := G7.out.trans ((HYB.out.trans hb2).mono (by omega))
      clear hG2 hb2 hK2 HC
      go_wp2_with fail
      refine planPost_mk ⟨⟨z, HK2.out⟩, rfl⟩ ?_
      repeat (rw [wpPlanN_takes_cons]; simp only [nth_zero, nth_succ]; go_big_quiet_step (fail); refine wpQuiet_nil ?_)
      rw [wpPlanN_takes_nil, wpPlanN_leaf]
      simp only [List.drop_succ_cons, List.drop_zero]
      have f3 := HR3z.out.frozen 0
      have c3 := HR3z.out.cell 0 _ rfl
      go_wp2_with fail
      have HKF3 : Hid (KeepsFrom 0 W (z.setCell ⟨B + 3, 0, none⟩ (.bool ((m : Int) == (un : Int))))) := keepsFrom_trans HKF2.out (keepsFrom_cells HR3z.out (grownBy_setCellJ z (B + 3) 0 _))
      have HRF : Hid (RowC (z.setCell ⟨B + 3, 0, none⟩ (.bool ((m : Int) == (un : Int)))) (B + 3) 4 [.bool ((m : Int) == (un : Int))]) := HR3z.out.set 0 _
      have HBF : Hid (Below B w (z.setCell ⟨B + 3, 0, none⟩ (.bool ((m : Int) == (un : Int))))) := set_below HBZ.out (by omega) 0 _
      obtain ⟨ZZ, hZZ⟩ : ∃ ZZ, z.setCell ⟨B + 3, 0, none⟩ (.bool ((m : Int) == (un : Int))) = ZZ := ⟨_, rfl⟩
      rw [hZZ] at HKF3 HRF HBF
      try rw [show B + 1 + 1 + 1 = B + 3 by omega]
      rw [hZZ]
      clear hZZ
      gi_wp2
      have hK2 := HKF3.out.same D _ (Nat.zero_le _) HK.out rfl
      refine ⟨by simp, .inl ⟨_, _, rfl, run_takeDeferred hK2, ?_⟩⟩
      have hg2 := grownBy_putObj' ZZ D (.deferred none)
      have hy2 := rowC_own (N := 0) HRF.out hg2 (fun r e => by cases e; exact ⟨Nat.zero_le _, _, hK2, rfl⟩)
      refine ⟨_, results_cell rfl rfl (load_bool1 hy2), by rw [HM.out], ?_⟩
      rw [HSZ.out]
      exact HBF.out.trans (belowK_b (w := w) (by omega) _ D _ _ (by have := HW.out; have := HSZ.out; omega) hK2 rfl rfl)
    case stop =>
      rintro D c k W hD _ ⟨rfl, g2, g3⟩ hK
      have G2 := Lib.hid g2
      have G3 := Lib.hid g3
      have HK := Lib.hid hK
      clear g2 g3 hK
      gi_wp2
      refine ⟨by simp, .inl ⟨_, _, rfl, run_takeDeferred HK.out, ?_⟩⟩
      have hg2 := grownBy_putObj' W D (.deferred none)
      have hy2 := rowC_own (N := 0) G2.out hg2 (fun r e => by cases e; exact ⟨Nat.zero_le _, _, HK.out, rfl⟩)
      refine ⟨_, results_cell rfl rfl (load_bool1 hy2), rfl, ?_⟩
      rw [HSZ.out]
      exact G3.out.trans (belowK_b (w := w) (by omega) W D _ _ (by have := HW.out; have := HSZ.out; omega) HK.out rfl rfl)
end Go.Proofs.YtfihpljgbghogaaGreat

/- The program's state: read back from bytes. -/
namespace Go.Proofs.YtfihpljgbghogaaGreat
open Go.RowKit Go.Shelf Go.Lib
set_option linter.unusedVariables false
set_option linter.unusedSimpArgs false
attribute [-simp] Tryz.isAgg51 Tryz.zeroValue51 Tryz.isAgg54 Tryz.zeroValue54 Tryz.isAgg30 Tryz.zeroValue30
attribute [-go_sem] loadVar storeVar
attribute [local go_sem] loadVar_openQ storeVar_openQ zero_sn zero_prs zero_st build_sn
/-- The dirty slots as the program reads them. -/
def dirtP (g : SG) (bs : List Int) (k : Nat) : List Int := ((seg bs 10 g.slots).take k).map plA
theorem dirtP_zero (g : SG) (bs : List Int) : dirtP g bs 0 = [] := by unfold dirtP; simp
theorem dirtP_succ (g : SG) {bs : List Int} {k : Nat} (hk : k < g.slots) (hl : 10 + g.slots ≤ bs.length) : dirtP g bs (k + 1) = dirtP g bs k ++ [plA (bs[10 + k]?.getD 0)] := by
  unfold dirtP
  have h : (seg bs 10 g.slots)[k]? = some (bs[10 + k]?.getD 0) := by
    rw [seg_get hk, List.getElem?_eq_getElem (show 10 + k < bs.length by omega)]
    rfl
  rw [take_at h, List.map_append]
  rfl
theorem InO.low {M : Nat} {W W' : World} {v : Value} {zs : List Int} {row : Option Nat} (h : InO M W v zs) (hg : W.grownBy W' row) (hr : ∀ j, row = some j → j < M) : InO M W' v zs :=
  World.ownsRow.kept h hg (by
    by_cases e : v.ownBlock = none
    · exact .inl e
    · refine .inr fun e2 => ?_
      obtain ⟨j, hj⟩ := Option.ne_none_iff_exists'.1 e
      have h1 := (h.base j hj).1
      have h2 := hr j (by rw [← e2]; exact hj)
      omega)
theorem own_low {M e sz n : Nat} {W W' : World} {v : Value} {xs : List Value} {row : Option Nat} (h : W.ownsRow M e sz v n xs) (hg : W.grownBy W' row) (hr : ∀ j, row = some j → j < M) : W'.ownsRow M e sz v n xs :=
  h.kept hg (by
    by_cases e : v.ownBlock = none
    · exact .inl e
    · refine .inr fun e2 => ?_
      obtain ⟨j, hj⟩ := Option.ne_none_iff_exists'.1 e
      have h1 := (h.lt j hj).1
      have h2 := hr j (by rw [← e2]; exact hj)
      omega)
theorem SnO.low {M : Nat} {W W' : World} {v : Value} {l : List SN} {row : Option Nat} (h : SnO M W v l) (hg : W.grownBy W' row) (hr : ∀ j, row = some j → j < M) : SnO M W' v l := by
  obtain ⟨r, h1, h2, h3⟩ := h
  exact ⟨r, h1, own_low h2 hg hr, fun j q s a b => ⟨(h3 j q s a b).id, own_low (h3 j q s a b).ch hg hr, ⟨own_low (h3 j q s a b).tb.1 hg hr, (h3 j q s a b).tb.2⟩, (h3 j q s a b).ok⟩⟩
theorem PrO.low {M : Nat} {W W' : World} {v : Value} {l : List (Int × Int)} {row : Option Nat} (h : PrO M W v l) (hg : W.grownBy W' row) (hr : ∀ j, row = some j → j < M) : PrO M W' v l := ⟨own_low h.1 hg hr, h.2⟩
/-- What lies there while a state is read. -/
structure RdI (B E N rb : Nat) (G : List Value) (w : World) (q : PS) (rest dl : List Int) (sl : List SN) (W : World) : Prop where
  g0 : RowC W B 23 G
  g1 : RowC W (B + 1) 30 (stL noQ)
  ge : RowC W E 30 (stL q)
  rd : Rdr W N rb rest
  dd : InO (E + 1) W (slV q.d) dl
  ss : SnO (E + 1) W (slV q.sn) sl
  be : Below B w W
  n1 : B + 1 < rb
  n2 : rb < N
  n3 : N ≤ E
  n4 : E < W.heap.size
variable {B E N rb : Nat} {G : List Value} {w W W' : World} {q : PS} {rest dl : List Int} {sl : List SN}
theorem RdI.step (h : RdI B E N rb G w q rest dl sl W) {rest' : List Int} (hg : W.grownBy W' (some rb)) (hr : Rdr W' N rb rest') : RdI B E N rb G w q rest' dl sl W' := by
  have n1 := h.n1
  have n2 := h.n2
  have n3 := h.n3
  have n4 := h.n4
  exact ⟨h.g0.grown hg (by simp; omega), h.g1.grown hg (by simp; omega), h.ge.grown hg (by simp; omega), hr, h.dd.low hg (fun j e => by cases e; omega), h.ss.low hg (fun j e => by cases e; omega), h.be.grown hg (by omega) (fun j e => by cases e; omega), h.n1, h.n2, h.n3, Nat.lt_of_lt_of_le n4 hg.size⟩
theorem RdI.below (h : RdI B E N rb G w q rest dl sl W) (hb : Below W.heap.size W W') : RdI B E N rb G w q rest dl sl W' := by
  have n1 := h.n1
  have n2 := h.n2
  have n3 := h.n3
  have n4 := h.n4
  exact ⟨h.g0.below hb, h.g1.below hb, h.ge.below hb, h.rd.below (grown_below hb none), h.dd.below hb, h.ss.below hb, h.be.trans (hb.mono (by omega)), h.n1, h.n2, h.n3, Nat.lt_of_lt_of_le n4 hb.size⟩
/-- A cell of the state is set. -/
theorem RdI.set (h : RdI B E N rb G w q rest dl sl W) (j : Nat) (v : Value) {q' : PS} {dl' : List Int} {sl' : List SN} (hq : (stL q).set j v = stL q') (hd : InO (E + 1) (W.setCell ⟨E, j, none⟩ v) (slV q'.d) dl') (hs : SnO (E + 1) (W.setCell ⟨E, j, none⟩ v) (slV q'.sn) sl') :
    RdI B E N rb G w q' rest dl' sl' (W.setCell ⟨E, j, none⟩ v) := by
  have n1 := h.n1
  have n2 := h.n2
  have n3 := h.n3
  have n4 := h.n4
  have hg := grownBy_setCellJ W E j v
  exact ⟨set_other h.g0 (by omega) j v, set_other h.g1 (by omega) j v, by rw [← hq]; exact h.ge.set j v, h.rd.kept hg (fun r e => by cases e; omega), hd, hs, set_below h.be (by omega) j v, h.n1, h.n2, h.n3, Nat.lt_of_lt_of_le n4 hg.size⟩
theorem RdI.set0 (h : RdI B E N rb G w q rest dl sl W) (j : Nat) (v : Value) {q' : PS} (hq : (stL q).set j v = stL q') (e1 : q'.d = q.d) (e2 : q'.sn = q.sn) : RdI B E N rb G w q' rest dl sl (W.setCell ⟨E, j, none⟩ v) := by
  have hg := grownBy_setCellJ W E j v
  exact h.set j v hq (by rw [e1]; exact h.dd.low hg (fun j e => by cases e; omega)) (by rw [e2]; exact h.ss.low hg (fun j e => by cases e; omega))
/-- What lies above grows. -/
theorem RdI.high (h : RdI B E N rb G w q rest dl sl W) {row : Option Nat} (hg : W.grownBy W' row) (hr : ∀ j, row = some j → E + 1 ≤ j) {q' : PS} {dl' : List Int} {sl' : List SN} (hd : InO (E + 1) W' (slV q.d) dl) (hs : SnO (E + 1) W' (slV q.sn) sl) : RdI B E N rb G w q rest dl sl W' := by
  have n1 := h.n1
  have n2 := h.n2
  have n3 := h.n3
  have n4 := h.n4
  have ne : ∀ j, j ≤ E → row ≠ some j := fun j hj e => by have := hr j e; omega
  exact ⟨h.g0.grown hg (ne _ (by omega)), h.g1.grown hg (ne _ (by omega)), h.ge.grown hg (ne _ (by omega)), h.rd.kept hg (fun r e => by have := hr r e; omega), hd, hs, h.be.grown hg (by omega) (fun j e => by have := hr j e; omega), h.n1, h.n2, h.n3, Nat.lt_of_lt_of_le n4 hg.size⟩
/-- A row above grows, and a cell of the state is set. -/
theorem RdI.put (h : RdI B E N rb G w q rest dl sl W) {row : Option Nat} {Y : World} (hg : W.grownBy Y row) (hr : ∀ j, row = some j → E + 1 ≤ j) (j : Nat) (v : Value) {q' : PS} {dl' : List Int} {sl' : List SN} (hq : (stL q).set j v = stL q')
    (hd : InO (E + 1) (Y.setCell ⟨E, j, none⟩ v) (slV q'.d) dl') (hs : SnO (E + 1) (Y.setCell ⟨E, j, none⟩ v) (slV q'.sn) sl') : RdI B E N rb G w q' rest dl' sl' (Y.setCell ⟨E, j, none⟩ v) := by
  have n1 := h.n1
  have n2 := h.n2
  have n3 := h.n3
  have n4 := h.n4
  have ne : ∀ j, j ≤ E → row ≠ some j := fun j hj e => by have := hr j e; omega
  have h2 := grownBy_setCellJ Y E j v
  exact ⟨set_other (h.g0.grown hg (ne _ (by omega))) (by omega) j v, set_other (h.g1.grown hg (ne _ (by omega))) (by omega) j v, by rw [← hq]; exact (h.ge.grown hg (ne _ (Nat.le_refl _))).set j v, (h.rd.kept hg (fun r e => by have := hr r e; omega)).kept h2 (fun r e => by cases e; omega), hd, hs, set_below (h.be.grown hg (by omega) (fun j e => by have := hr j e; omega)) (by omega) j v, h.n1, h.n2, h.n3, Nat.lt_of_lt_of_le (Nat.lt_of_lt_of_le n4 hg.size) h2.size⟩
theorem seg_drop (bs : List Int) (a n : Nat) : seg (bs.drop a) 0 n = seg bs a n := by unfold seg; rw [List.drop_zero]
theorem take_one1 {bs : List Int} {k : Nat} (h : k < bs.length) : (bs.drop k).take 1 = [bs[k]?.getD 0] := by
  rw [List.drop_eq_getElem_cons h, List.getElem?_eq_getElem h]
  rfl
/-- **What read tells.** -/
structure ReadR (g : SG) (bs : List Int) (M : Nat) (W : World) (q : PS) : Prop where
  nx : q.nx = getL (seg bs 0 4)
  kd : q.kd = bs[5]?.getD 0
  id : q.id = getL (seg bs 6 4)
  dd : InO M W (slV q.d) (dirtP g bs g.slots)
  ss : SnO M W (slV q.sn) (snK g bs 8)
  pr : PrO M W (slV q.pr) (prFrom 0 (seg bs (g.at 8) g.b))

set_option maxRecDepth 100000 in
set_option maxHeartbeats 4000000 in
/-- **read**. -/
theorem sg_read {w : World} {v : Value} {bs : List Int} (g : SG) (hg : g.Ok) (r0 : Int) (hv : Sl .u8 w v bs) (hB : IsBytes bs) (hl : bs.length = g.bts) :
    Calls Tryz.prog 31 #[.agg (g.v r0), v] w fun e w' => ∃ q : PS, e = .returned (stV q) ∧ ReadR g bs w.heap.size w' q ∧ Below w.heap.size w w' := by
  have hmx : Tryz.prog.follows .mixedOrders = true := by kernel_rfl
  have hn9 := sizeB_le64 hg
  have hgb := hg.b64
  have hsl : g.slots ≤ 32 := Nat.le_trans (Nat.mul_le_mul hg.s8 hg.y4) (by decide)
  have hcap : bs.length ≤ 1000 := by
    rw [hl]
    unfold SG.bts SG.step SG.n9
    omega
  have HLE : Hid (∀ i, i < 8 → g.at i + (4 + g.n9 + g.b) + g.b ≤ bs.length) := fun i hi => by rw [hl]; exact g.at_le hi
  have HEN : Hid (g.at 8 + g.b = bs.length) := by show _ = _; rw [hl]; exact g.at_end
  have HBY := Lib.hid hB
  have HCAP := Lib.hid hcap
  have HGO := Lib.hid hg
  obtain ⟨B, hBB⟩ : ∃ B, w.heap.size = B := ⟨_, rfl⟩
  have HSZ := Lib.hid hBB
  obtain ⟨W1, hW1⟩ : ∃ W, w.alloc (.cells (g.v r0) 23) = W := ⟨_, rfl⟩
  obtain ⟨W2, hW2⟩ : ∃ W, W1.alloc (.cells #[.slice none 0 0, .slice none 0 0, .int .i64 0, .int .i64 0, .int .i64 0, .slice none 0 0] 30) = W := ⟨_, rfl⟩
  have s1 : W1.heap.size = B + 1 := by rw [← hW1, ← hBB]; simp
  have s2 : W2.heap.size = B + 2 := by rw [← hW2, World.size_alloc, s1]
  have r1 : RowC W1 B 23 [.int .i64 (g.b : Int), .int .i64 (g.s : Int), .int .i64 (g.y : Int), .int .i64 (g.a : Int), .int .i64 r0] := by rw [← hW1, ← hBB]; exact RowC.new _ _ _
  have r2 : RowC W2 (B + 1) 30 (stL noQ) := by rw [← hW2, ← s1]; exact RowC.new _ _ _
  have b1 : Below B w W1 := by rw [← hW1, ← hBB]; exact below_new _ _
  have b2 : Below W1.heap.size W1 W2 := by rw [← hW2]; exact below_new _ _
  have hBF : Below B w W2 := b1.trans (b2.mono (by omega))
  have HBF := Lib.hid hBF
  have HR1 : Hid (RowC W2 B 23 [.int .i64 (g.b : Int), .int .i64 (g.s : Int), .int .i64 (g.y : Int), .int .i64 (g.a : Int), .int .i64 r0]) := r1.below b2
  have HR2 := Lib.hid r2
  have HS2 := Lib.hid s2
  have HNR := Lib.hid (newReader_any v bs W2 (hv.below (by rw [hBB]; exact hBF)) (by omega))
  clear r1 r2 b1 b2 hBF hv hB hl hg
  obtain ⟨GL, hGL⟩ : ∃ GL : List Value, [.int .i64 (g.b : Int), .int .i64 (g.s : Int), .int .i64 (g.y : Int), .int .i64 (g.a : Int), .int .i64 r0] = GL := ⟨_, rfl⟩
  rw [hGL] at HR1
  have HGL := Lib.hid hGL
  clear hGL
  unfold SG.v at *
  go_enter Tryz.func31, Tryz.ntmps31
  go_wp2_with fail
  refine HNR.out.mono ?_
  rintro e x1 ⟨rb, rfl, hrb, hrd, hb1⟩
  obtain ⟨x2, hx2⟩ : ∃ x, x1.alloc (.cells #[.slice none 0 0, .slice none 0 0, .int .i64 0, .int .i64 0, .int .i64 0, .slice none 0 0] 30) = x := ⟨_, rfl⟩
  obtain ⟨N, hN⟩ : ∃ N, x1.heap.size = N := ⟨_, rfl⟩
  have b2 : Below x1.heap.size x1 x2 := by rw [← hx2]; exact below_new _ _
  have I0 : RdI B N N rb GL w noQ bs [] [] x2 := by
    refine ⟨(HR1.out.below hb1).below b2, (HR2.out.below hb1).below b2, by rw [← hx2, ← hN]; exact RowC.new x1 30 (stL noQ), by rw [hN] at hrd; exact hrd.below (grown_below b2 none), InO.nil _ _, SnO.nil _ _, (HBF.out.trans (hb1.mono (by have := HS2.out; omega))).trans (b2.mono (by have := hb1.size; have := HS2.out; omega)), by have := HS2.out; omega, ?_, Nat.le_refl _, by rw [← hx2, ← hN]; simp⟩
    obtain ⟨b, off, cap, h0, h1, h2, h3, h4, h5, h6⟩ := hrd
    omega
  have HI0 := Lib.hid I0
  clear hrb hrd hb1 b2 HNR I0
  go_wp2_with fail
  refine (sg_number rb bs 4 x2 HI0.out.rd HBY.out (by have := HEN.out; have := g.at_zero; have := HLE.out 0 (by omega); omega) (Nat.le_refl _)).mono ?_
  rintro e x3 ⟨rfl, hr3, hg3⟩
  have J3 := HI0.out.step hg3 hr3
  obtain ⟨nx, hnx⟩ : ∃ z, getL (bs.take 4) = z := ⟨_, rfl⟩
  have HNX : Hid (nx = getL (seg bs 0 4)) := by show _ = _; rw [← hnx]; rfl
  rw [hnx]
  have f0 := J3.ge.frozen 2
  have e0 := J3.ge.cell 2 _ rfl
  have HBL : Hid (10 + g.slots ≤ bs.length) := by have := g.at_zero; have := HLE.out 0 (by omega); show _ ≤ _; have := HGO.out.b1; omega
  have I4 : Hid (RdI B N N rb GL w ⟨(none, 0, 0), (none, 0, 0), nx, 0, 0, (none, 0, 0)⟩ (bs.drop 4) [] [] (x3.setCell ⟨N, 2, none⟩ (.int .i64 nx))) := J3.set0 2 _ rfl rfl rfl
  clear hr3 hg3 J3 hnx HI0
  go_wp2_with fail
  refine (sg_number rb (bs.drop 4) 1 _ I4.out.rd (isB_drop HBY.out 4) (by rw [List.length_drop]; have := HBL.out; omega) (by omega)).mono ?_
  rintro e x5 ⟨rfl, hr5, hg5⟩
  obtain ⟨ct, hct, hct8⟩ := byte_of bs HBY.out 4
  rw [take_one1 (by have := HBL.out; omega), getL_one, hct]
  have I5 : Hid (RdI B N N rb GL w ⟨(none, 0, 0), (none, 0, 0), nx, 0, 0, (none, 0, 0)⟩ (bs.drop 5) [] [] x5) := by
    have := I4.out.step hg5 hr5
    rw [List.drop_drop] at this
    exact this
  have HCT := Lib.hid hct
  clear hr5 hg5 I4 hct f0 e0
  go_wp2_with fail
  refine (sg_number rb (bs.drop 5) 1 _ I5.out.rd (isB_drop HBY.out 5) (by rw [List.length_drop]; have := HBL.out; omega) (by omega)).mono ?_
  rintro e x6 ⟨rfl, hr6, hg6⟩
  obtain ⟨kd, hkd, hkd8⟩ := byte_of bs HBY.out 5
  rw [take_one1 (by have := HBL.out; omega), getL_one, hkd]
  have J6 := I5.out.step hg6 hr6
  rw [List.drop_drop] at J6
  have HKD := Lib.hid hkd
  have f0 := J6.ge.frozen 3
  have e0 := J6.ge.cell 3 _ rfl
  have I6 : Hid (RdI B N N rb GL w ⟨(none, 0, 0), (none, 0, 0), nx, (kd : Int), 0, (none, 0, 0)⟩ (bs.drop 6) [] [] (x6.setCell ⟨N, 3, none⟩ (.int .i64 (kd : Int)))) := J6.set0 3 _ rfl rfl rfl
  clear hr6 hg6 I5 J6 hkd
  go_wp2_with fail
  refine (sg_number rb (bs.drop 6) 4 _ I6.out.rd (isB_drop HBY.out 6) (by rw [List.length_drop]; have := HBL.out; omega) (by omega)).mono ?_
  rintro e x7 ⟨rfl, hr7, hg7⟩
  obtain ⟨id, hid⟩ : ∃ z, getL ((bs.drop 6).take 4) = z := ⟨_, rfl⟩
  have HID : Hid (id = getL (seg bs 6 4)) := by show _ = _; rw [← hid]; rfl
  rw [hid]
  have J7 := I6.out.step hg7 hr7
  rw [List.drop_drop] at J7
  clear f0 e0
  have f0 := J7.ge.frozen 4
  have e0 := J7.ge.cell 4 _ rfl
  have I7 : Hid (RdI B N N rb GL w ⟨(none, 0, 0), (none, 0, 0), nx, (kd : Int), id, (none, 0, 0)⟩ (bs.drop 10) [] [] (x7.setCell ⟨N, 4, none⟩ (.int .i64 id))) := J7.set0 4 _ rfl rfl rfl
  obtain ⟨x8, hx8⟩ : ∃ x, x7.setCell ⟨N, 4, none⟩ (.int .i64 id) = x := ⟨_, rfl⟩
  rw [hx8] at I7
  have hG8 := I7.out.g0
  rw [← HGL.out] at hG8
  have c0 := hG8.cell 0 _ rfl
  have c1 := hG8.cell 1 _ rfl
  have c2 := hG8.cell 2 _ rfl
  have c3 := hG8.cell 3 _ rfl
  have c4 := hG8.cell 4 _ rfl
  have HSC : Hid (Calls Tryz.prog 38 #[.agg #[.int .i64 (g.b : Int), .int .i64 (g.s : Int), .int .i64 (g.y : Int), .int .i64 (g.a : Int), .int .i64 r0]] x8 fun e w' => e = .returned (.int .i64 (g.slots : Int)) ∧ Below x8.heap.size x8 w') := sg_slots g HGO.out r0 x8
  obtain ⟨Z, hZ⟩ : ∃ Z, g.slots = Z := ⟨_, rfl⟩
  have HZ := Lib.hid hZ
  rw [hZ] at HSC HBL hsl
  clear hr7 hg7 I6 J7 hid hG8 hZ
  go_wp2_with fail
  refine HSC.out.mono ?_
  rintro e x9 ⟨rfl, hb9⟩
  have I9 := Lib.hid (I7.out.below hb9)
  clear hb9 c0 c1 c2 c3 c4 HSC I7 f0 e0 hx8
  go_wp2_with fail
  refine (sg_taken rb (bs.drop 10) Z x9 I9.out.rd (by rw [List.length_drop]; have := HBL.out; omega) (by rw [List.length_drop]; have := HCAP.out; omega)).mono ?_
  rintro e xa ⟨qa, rfl, hoa, hra, hga⟩
  have IA : Hid (RdI B N N rb GL w ⟨(none, 0, 0), (none, 0, 0), nx, (kd : Int), id, (none, 0, 0)⟩ (bs.drop (10 + Z)) [] [] xa) := by
    have := I9.out.step hga hra
    rw [List.drop_drop] at this
    exact this
  have HOA : Hid (xa.ownsRow (N + 1) 5 1 (.slice (some ⟨qa, 0, none⟩) Z Z) ((bs.drop 10).take Z).length (((bs.drop 10).take Z).map (Value.int .u8))) := own_weak hoa (by have := I9.out.n4; omega)
  have HLA : Hid (((bs.drop 10).take Z).length = Z) := by show _ = _; rw [List.length_take, List.length_drop]; have := HBL.out; omega
  clear hoa hra hga I9
  go_wp2_with fail
  go_loopw [32] (fun iv wr => ∃ (k : Nat) (x : Option Addr) (n c : Nat), k ≤ Z ∧ iv = .int .i64 (k : Int) ∧ Hid (RdI B N N rb GL w ⟨(x, n, c), (none, 0, 0), nx, (kd : Int), id, (none, 0, 0)⟩ (bs.drop (10 + Z)) (dirtP g bs k) [] wr) ∧ Hid (wr.ownsRow (N + 1) 5 1 (.slice (some ⟨qa, 0, none⟩) Z Z) ((bs.drop 10).take Z).length (((bs.drop 10).take Z).map (Value.int .u8)))) (fun iv _ => Z - (intOf iv).toNat)
  case atStart => exact ⟨0, none, 0, 0, Nat.zero_le _, rfl, by rw [dirtP_zero]; exact IA, HOA⟩
  case round =>
    clear IA HOA
    obtain ⟨k, x, n, c, hk, rfl, HI, HO⟩ := hrel
    by_cases hlt : k < Z
    · have q1 : (k : Int) < (Z : Int) := by omega
      have HLT := Lib.hid hlt
      obtain ⟨y, hy, hy8⟩ := byte_of bs HBY.out (10 + k)
      have cb : wr.cell? ⟨qa, k, none⟩ = some (.int .u8 (y : Int)) := by
        have h1 := HO.out
        rw [HLA.out] at h1
        have := bi_cell h1 k hlt
        rw [List.getElem?_take, if_pos hlt, List.getElem?_drop, hy] at this
        exact this
      have HES := Lib.hid (dirtP_succ g (bs := bs) (k := k) (by rw [HZ.out]; exact hlt) (by rw [HZ.out]; have := HBL.out; omega))
      rw [hy] at HES
      obtain ⟨z, hz⟩ : ∃ z, plA (y : Int) = z := ⟨_, rfl⟩
      have HME : Hid (Calls Tryz.prog 66 #[.int .u8 (y : Int)] wr.drew fun e w' => e = .returned (.int .i64 z) ∧ w' = wr.drew) := by rw [← hz]; exact sg_meant y hy8 wr.drew
      rw [hz] at HES
      have bd : Below wr.heap.size wr wr.drew := (Below.refl _ wr).drew
      have ID := HI.out.below bd
      have od := own_belowT HO.out bd
      have hlen : (dirtP g bs k).length ≤ 900000 := by unfold dirtP; rw [List.length_map, List.length_take]; have := hsl; omega
      obtain ⟨v', y', hA, hI, hg', -⟩ := in_append (w := wr.drew) ID.dd ID.n4 z hlen
      rw [← HES.out] at hI
      obtain ⟨⟨x', n', c'⟩, rfl, -⟩ := own_slV hI
      obtain ⟨X1, hX1⟩ : ∃ X, wr.drew.alloc (.cells #[.int .i64 z] 3) = X := ⟨_, rfl⟩
      have b1 : Below wr.drew.heap.size wr.drew X1 := by rw [← hX1]; exact below_new _ _
      rw [hX1] at hA
      have KD := Lib.hid ID.ge
      have KX := Lib.hid (ID.ge.below b1)
      have hEg : RowC y' N 30 (stL ⟨(x, n, c), (none, 0, 0), nx, (kd : Int), id, (none, 0, 0)⟩) := ID.ge.grown hg' (row_ne ID.dd ID.ge (by decide))
      have KY := Lib.hid hEg
      have f0 := hEg.frozen 0
      have e0 := hEg.cell 0 _ rfl
      have I2 : Hid (RdI B N N rb GL w ⟨(x', n', c'), (none, 0, 0), nx, (kd : Int), id, (none, 0, 0)⟩ (bs.drop (10 + Z)) (dirtP g bs (k + 1)) [] (y'.setCell ⟨N, 0, none⟩ (slV (x', n', c')))) :=
        ID.put hg' (fun j e => (ID.dd.base j e).1) 0 _ rfl (own_setB hI hEg (by decide) 0 _) (SnO.nil _ _)
      have O2 : Hid ((y'.setCell ⟨N, 0, none⟩ (slV (x', n', c'))).ownsRow (N + 1) 5 1 (.slice (some ⟨qa, 0, none⟩) Z Z) ((bs.drop 10).take Z).length (((bs.drop 10).take Z).map (Value.int .u8))) := own_setB (od.kept hg' (rows_ne od ID.dd (by decide))) hEg (by decide) 0 _
      have d0 : ∀ q : RowT N 30 (stL ⟨(x, n, c), (none, 0, 0), nx, (kd : Int), id, (none, 0, 0)⟩), q.1.cell? ⟨N, 0, none⟩ = some (.slice x n c) := fun q => q.2.cell 0 _ rfl
      haveI : Nonempty (RowT N 30 (stL ⟨(x, n, c), (none, 0, 0), nx, (kd : Int), id, (none, 0, 0)⟩)) := ⟨⟨wr.drew, KD.out⟩⟩
      have HA := Lib.hid hA
      simp only [slV] at HA e0 I2 O2
      clear hA hI hg' hEg ID od bd b1 hy hz hlt HO HI hlen
      go_wp2_with fail
      refine region_plan (fun z => ∃ q : RowT N 30 (stL ⟨(x, n, c), (none, 0, 0), nx, (kd : Int), id, (none, 0, 0)⟩), z = q.1) 7 (.takes [0, 1, 2] (.one 3 (.one 4 (.one 5 (.takes [6] .leaf))))) hmx (by kernel_rfl) (by intro c x v a w h; cases x <;> exact h) ⟨⟨wr.drew, KD.out⟩, rfl⟩ ?_
      repeat (rw [wpPlan_takes_cons]; simp only [nth_zero, nth_succ]; go_big_quiet_step (fail); refine wpQuiet_nil ?_)
      clear d0
      rw [wpPlan_takes_nil, wpPlan_one]
      simp only [nth_zero, nth_succ]
      go_wp2_with fail
      go_at_call 66
      refine HME.out.mono ?_
      rintro e y2 ⟨rfl, rfl⟩
      go_wp2_with fail
      refine planPost_mk ⟨⟨_, KD.out⟩, rfl⟩ ?_
      rw [wpPlan_one]
      simp only [nth_zero, nth_succ]
      go_wp2_with fail
      try rw [hX1]
      refine planPost_mk ⟨⟨X1, KX.out⟩, rfl⟩ ?_
      clear hX1
      rw [wpPlan_one]
      simp only [nth_zero, nth_succ]
      refine wpList_append_run (.tmp 37) (.tmp 40) 24 rfl rfl _ _ _ rfl rfl (HA.out _) ?_
      go_wp2_with fail
      refine planPost_mk ⟨⟨y', KY.out⟩, rfl⟩ ?_
      repeat (rw [wpPlan_takes_cons]; simp only [nth_zero, nth_succ]; go_big_quiet_step (fail); refine wpQuiet_nil ?_)
      rw [wpPlan_takes_nil, wpPlan_leaf]
      simp only [List.drop_succ_cons, List.drop_zero]
      go_wp2_with fail
      exact ⟨⟨k + 1, x', n', c', HLT.out, by simp, I2, O2⟩, by have := HLT.out; simp [intOf]; omega⟩
    · obtain rfl : k = Z := by omega
      have HD : Hid (dirtP g bs k = dirtP g bs g.slots) := by show _ = _; rw [HZ.out]
      rw [HD.out] at HI
      clear hlt HO
      go_wp2_with fail
      have HZ0 : Hid (bs.drop (10 + k) = bs.drop (g.at 0)) := by show _ = _; rw [g.at_zero, HZ.out]
      rw [HZ0.out] at HI
      have HCN : Hid ((bs[4]?.getD 0).toNat = ct) := by show _ = _; rw [HCT.out]; simp
      go_loopw [44] (fun iv wr => ∃ (j : Nat) (sx : Option Addr) (sn sc : Nat), j ≤ 8 ∧ iv = .int .i64 (j : Int) ∧ Hid (RdI B N N rb GL w ⟨(x, n, c), (sx, sn, sc), nx, (kd : Int), id, (none, 0, 0)⟩ (bs.drop (g.at j)) (dirtP g bs g.slots) (snK g bs j) wr)) (fun iv _ => 8 - (intOf iv).toNat)
      case atStart => exact ⟨0, none, 0, 0, Nat.zero_le _, rfl, by rw [snK_zero]; exact HI⟩
      case round =>
        clear HI
        obtain ⟨j, sx, sn, sc, hj, rfl, HI⟩ := hrel
        have hG := HI.out.g0
        rw [← HGL.out] at hG
        have c0 := hG.cell 0 _ rfl
        by_cases hlt : j < 8
        · have q1 : (j : Int) < 8 := by omega
          have HLT := Lib.hid hlt
          have c1 := hG.cell 1 _ rfl
          have c2 := hG.cell 2 _ rfl
          have c3 := hG.cell 3 _ rfl
          have c4 := hG.cell 4 _ rfl
          have hll := HLE.out j hlt
          have HRS : Hid (Calls Tryz.prog 67 #[.pointer (some ⟨rb, 0, none⟩), .agg #[.int .i64 (g.b : Int), .int .i64 (g.s : Int), .int .i64 (g.y : Int), .int .i64 (g.a : Int), .int .i64 r0]] wr fun e w' => ∃ q : SV, e = .returned (svV q) ∧ SnF wr.heap.size w' q (sSnapR g (seg bs (g.at j) g.step)) ∧ Rdr w' N rb (bs.drop (g.at (j + 1))) ∧ wr.grownBy w' (some rb)) := by
            have := sg_readSnap rb (bs.drop (g.at j)) wr g HGO.out r0 HI.out.rd (isB_drop HBY.out _) (by rw [List.length_drop]; unfold SG.step; omega) (by rw [List.length_drop]; have := HCAP.out; omega)
            rw [seg_drop, List.drop_drop, show g.at j + g.step = g.at (j + 1) by rw [g.at_succ]; rfl] at this
            exact this
          clear hG hlt hll
          go_wp2_with fail
          refine HRS.out.mono ?_
          rintro e y1 ⟨⟨i1, ⟨a1, n1, c1'⟩, ⟨a2, n2, c2'⟩⟩, rfl, hF, hr1, hg1⟩
          have I1 := HI.out.step hg1 hr1
          have ST := new_sn y1 (i1, (a1, n1, c1'), (a2, n2, c2'))
          obtain ⟨Y, hY⟩ : ∃ Y, y1.alloc (.cells (svL (i1, (a1, n1, c1'), (a2, n2, c2'))).toArray 51) = Y := ⟨_, rfl⟩
          have bY : Below y1.heap.size y1 Y := by rw [← hY]; exact below_new _ _
          have rY : RowC Y y1.heap.size 51 (svL (i1, (a1, n1, c1'), (a2, n2, c2'))) := by rw [← hY]; exact RowC.new y1 _ _
          rw [hY] at ST
          obtain ⟨C, hC⟩ : ∃ C, y1.heap.size = C := ⟨_, rfl⟩
          have I2 := Lib.hid (I1.below bY)
          have F2 : Hid (SnF (N + 1) Y (i1, (a1, n1, c1'), (a2, n2, c2')) (sSnapR g (seg bs (g.at j) g.step))) := (hF.weak (by have := HI.out.n4; omega)).below bY
          rw [hC] at ST rY
          have LD := load_snC rY
          simp only [svV, slV] at ST LD ⊢
          have RY := Lib.hid rY
          clear c0 c1 c2 c3 c4 HRS hF hr1 hg1 I1 bY rY hY HI
          by_cases hin : j < ct
          · have q2 : (j : Int) < (ct : Int) := by omega
            have HSK : Hid (snK g bs (j + 1) = snK g bs j ++ [sSnapR g (seg bs (g.at j) g.step)]) := snK_in g (by rw [HCN.out]; exact hin)
            have k1 := I2.out.ge.cell 1 _ rfl
            have S1 := slice_sn1 Y (i1, (a1, n1, c1'), (a2, n2, c2'))
            obtain ⟨v3, y3, hA, O3, hg3⟩ := sn_append I2.out.ss I2.out.n4 F2.out (by unfold snK; rw [List.length_map, List.length_range]; have := Nat.min_le_left j (bs[4]?.getD 0).toNat; omega)
            rw [← HSK.out] at O3
            obtain ⟨⟨s3x, s3n, s3c⟩, rfl⟩ : ∃ q : SlV, v3 = slV q := by obtain ⟨r, -, h, -⟩ := O3; obtain ⟨q, e, -⟩ := own_slV h; exact ⟨q, e⟩
            have hEg : RowC y3 N 30 (stL ⟨(x, n, c), (sx, sn, sc), nx, (kd : Int), id, (none, 0, 0)⟩) := I2.out.ge.grown hg3 (I2.out.ss.ne I2.out.ge (by decide))
            have hdn : InO (N + 1) y3 (slV (x, n, c)) (dirtP g bs g.slots) := by
              obtain ⟨r, -, h, -⟩ := I2.out.ss
              exact World.ownsRow.kept I2.out.dd hg3 (rows_ne I2.out.dd h (by decide))
            have f0 := hEg.frozen 1
            have e0 := hEg.cell 1 _ rfl
            have I3 : Hid (RdI B N N rb GL w ⟨(x, n, c), (s3x, s3n, s3c), nx, (kd : Int), id, (none, 0, 0)⟩ (bs.drop (g.at (j + 1))) (dirtP g bs g.slots) (snK g bs (j + 1)) (y3.setCell ⟨N, 1, none⟩ (slV (s3x, s3n, s3c)))) :=
              I2.out.put hg3 (fun j e => (I2.out.ss.base j e).1) 1 _ rfl (own_setB hdn hEg (by decide) 1 _) (O3.low (grownBy_setCellJ y3 N 1 _) (fun j e => by cases e; omega))
            obtain ⟨Y2, hY2⟩ : ∃ Z, Y.alloc (.cells (svL (i1, (a1, n1, c1'), (a2, n2, c2'))).toArray 51) = Z := ⟨_, rfl⟩
            rw [hY2] at hA S1
            have HA := Lib.hid hA
            have HS1 := Lib.hid S1
            simp only [svV, slV] at HA HS1 e0 I3 k1
            clear hA S1 hY2 O3 hg3 hEg hdn hin
            go_wp2_with (first | (with_reducible refine gate_build ?_; refine wpList_build_run 25 1 #[(0, .tmp 55)] rfl rfl [(0, .agg #[.int .i64 i1, .slice a1 n1 c1', .slice a2 n2 c2'])] _ rfl HS1.out ?_) | (at_builtin; refine wpList_append_run (.tmp 54) (.tmp 56) 25 rfl rfl _ _ _ rfl rfl (HA.out _) ?_))
            exact ⟨⟨j + 1, s3x, s3n, s3c, HLT.out, by simp, I3⟩, by have := HLT.out; simp [intOf]; omega⟩
          · have q2 : ¬ (j : Int) < (ct : Int) := by omega
            have q3 : decide (j < ct) = false := by simpa using hin
            have HSK : Hid (snK g bs (j + 1) = snK g bs j) := snK_out g (by rw [HCN.out]; omega)
            have I3 : Hid (RdI B N N rb GL w ⟨(x, n, c), (sx, sn, sc), nx, (kd : Int), id, (none, 0, 0)⟩ (bs.drop (g.at (j + 1))) (dirtP g bs g.slots) (snK g bs (j + 1)) Y) := by rw [HSK.out]; exact I2
            clear hin LD
            go_wp2_with fail
            exact ⟨⟨j + 1, sx, sn, sc, HLT.out, by simp, I3⟩, by have := HLT.out; simp [intOf]; omega⟩
        · obtain rfl : j = 8 := by omega
          have hlb : (bs.drop (g.at 8)).length = g.b := by rw [List.length_drop]; have := HEN.out; omega
          have HLB := Lib.hid hlb
          have HTK := Lib.hid (sg_taken rb (bs.drop (g.at 8)) g.b wr HI.out.rd (by rw [hlb]; exact Nat.le_refl _) (by rw [hlb]; omega))
          clear hG hlt hlb
          go_wp2_with fail
          refine HTK.out.mono ?_
          rintro e y1 ⟨qb, rfl, hob, hrb, hgb1⟩
          have I1 := Lib.hid (HI.out.step hgb1 hrb)
          have S1 : Hid (Sl .u8 y1 (.slice (some ⟨qb, 0, none⟩) g.b g.b) ((bs.drop (g.at 8)).take g.b)) := Sl.of_owns hob
          clear hob hrb hgb1 HTK c0 HI
          go_wp2_with fail
          go_at_call 69
          refine (sg_placed _ _ _ y1).mono ?_
          obtain ⟨y2, hy2⟩ : ∃ x, y1.alloc (.cells #[.slice (some ⟨qb, 0, none⟩) g.b g.b] 31) = x := ⟨_, rfl⟩
          rintro e y2' ⟨rfl, h2'⟩
          obtain rfl : y2' = y2 := h2'.trans hy2
          have b2 : Below y1.heap.size y1 y2' := by rw [← hy2]; exact below_new _ _
          have hP : PdB y1.heap.size (.slice (some ⟨qb, 0, none⟩) g.b g.b) ((bs.drop (g.at 8)).take g.b) y2' := ⟨by rw [← hy2]; exact (RowC.new y1 31 [.slice (some ⟨qb, 0, none⟩) g.b g.b]).cell 0 _ rfl, S1.out.below b2⟩
          have h2s : y1.heap.size < y2'.heap.size := by rw [← hy2]; simp
          have HCL := Lib.hid (sg_collect y1.heap.size h2s hP (isB_take (isB_drop HBY.out _) g.b) (by rw [List.length_take]; omega))
          have I2 := Lib.hid (I1.out.below b2)
          clear h2' hy2 b2 hP h2s I1 S1
          go_wp2_with fail
          go_at_call 68
          refine HCL.out.mono ?_
          rintro e y3 ⟨v3, rfl, ho3, hb3⟩
          obtain ⟨⟨pa, pn, pc⟩, rfl, -⟩ := own_slV ho3.1
          have J3 := I2.out.below hb3
          have P3 : PrO (N + 1) y3 (slV (pa, pn, pc)) (prFrom 0 (seg bs (g.at 8) g.b)) := ho3.weak I2.out.n4
          have f0 := J3.ge.frozen 5
          have e0 := J3.ge.cell 5 _ rfl
          have I3 : RdI B N N rb GL w ⟨(x, n, c), (sx, sn, sc), nx, (kd : Int), id, (pa, pn, pc)⟩ (bs.drop (g.at 8)|>.drop g.b) (dirtP g bs g.slots) (snK g bs 8) (y3.setCell ⟨N, 5, none⟩ (slV (pa, pn, pc))) := J3.set0 5 _ rfl rfl rfl
          have P4 : PrO (N + 1) (y3.setCell ⟨N, 5, none⟩ (slV (pa, pn, pc))) (slV (pa, pn, pc)) (prFrom 0 (seg bs (g.at 8) g.b)) := P3.low (grownBy_setCellJ y3 N 5 _) (fun j e => by cases e; omega)
          obtain ⟨Z4, hZ4⟩ : ∃ Z, y3.setCell ⟨N, 5, none⟩ (slV (pa, pn, pc)) = Z := ⟨_, rfl⟩
          rw [hZ4] at I3 P4
          obtain ⟨z, hST, hRz, hgz⟩ := store_stC ⟨(x, n, c), (sx, sn, sc), nx, (kd : Int), id, (pa, pn, pc)⟩ I3.g1 rfl
          have LS := load_stC I3.ge
          have HLD := Lib.hid (load_stC hRz)
          have n1 := I3.n1
          have n2 := I3.n2
          have n3 := I3.n3
          have n4 := I3.n4
          have FD : Hid (InO B z (slV (x, n, c)) (dirtP g bs g.slots)) := own_weak (I3.dd.low hgz (fun j e => by cases e; omega)) (by omega)
          have FS : Hid (SnO B z (slV (sx, sn, sc)) (snK g bs 8)) := by
            obtain ⟨r, h1, h2, h3⟩ := I3.ss.low hgz (fun j e => by cases e; omega)
            exact ⟨r, h1, own_weak h2 (by omega), fun j q s a b => (h3 j q s a b).weak (by omega)⟩
          have FP : Hid (PrO B z (slV (pa, pn, pc)) (prFrom 0 (seg bs (g.at 8) g.b))) := (P4.low hgz (fun j e => by cases e; omega)).weak (by omega)
          have FB : Hid (Below B w z) := I3.be.grown hgz (by omega) (fun j e => by cases e; omega)
          simp only [stV, stL, slV] at hST LS HLD e0 hZ4 ⊢
          clear J3 P3 I3 P4 hRz hgz n1 n2 n3 n4 ho3 hb3 HCL I2
          go_wp2_with fail
          refine bodyPost_ret (results_cell rfl rfl HLD.out) rfl ?_
          exact ⟨⟨(x, n, c), (sx, sn, sc), nx, (kd : Int), id, (pa, pn, pc)⟩, rfl, ⟨HNX.out, HKD.out.symm, HID.out, by rw [HSZ.out]; exact FD.out, by rw [HSZ.out]; exact FS.out, by rw [HSZ.out]; exact FP.out⟩, by rw [HSZ.out]; exact FB.out⟩
end Go.Proofs.YtfihpljgbghogaaGreat

/- The program's range function over the places of the blocks. -/
namespace Go.Proofs.YtfihpljgbghogaaGreat
open Go.RowKit Go.Shelf Go.Lib
set_option linter.unusedVariables false
set_option linter.unusedSimpArgs false
/-- Where a block stands: its place, or -1. -/
def plG (ps : List (Int × Int)) (k : Nat) : Int := match ps.find? (fun p => p.1 == (k : Int)) with
  | some p => p.2
  | none => -1
/-- So many pairs lie ahead of block k. -/
def Ahead (ps : List (Int × Int)) (k j : Nat) : Prop := j ≤ ps.length ∧ (∀ i p, i < j → ps[i]? = some p → p.1 < (k : Int)) ∧ (∀ i p, j ≤ i → ps[i]? = some p → (k : Int) ≤ p.1)
theorem ahead_zero {ps : List (Int × Int)} (h : ∀ p ∈ ps, 0 ≤ p.1) : Ahead ps 0 0 := ⟨Nat.zero_le _, fun i p hi => absurd hi (Nat.not_lt_zero _), fun i p _ hp => h p (List.mem_of_getElem? hp)⟩
theorem asc_lt {ps : List (Int × Int)} (ha : Asc ps) {i j : Nat} {p q : Int × Int} (hp : ps[i]? = some p) (hq : ps[j]? = some q) (h : i < j) : p.1 < q.1 := by
  obtain ⟨h1, rfl⟩ := List.getElem?_eq_some_iff.1 hp
  obtain ⟨h2, rfl⟩ := List.getElem?_eq_some_iff.1 hq
  exact List.pairwise_iff_getElem.1 ha i j h1 h2 h
theorem plG_hit {ps : List (Int × Int)} (ha : Asc ps) {k : Nat} {p : Int × Int} (hp : p ∈ ps) (e : p.1 = (k : Int)) : plG ps k = p.2 := by
  unfold plG
  cases h : ps.find? (fun p => p.1 == (k : Int)) with
  | none =>
    have := List.find?_eq_none.1 h p hp
    simp [e] at this
  | some q =>
    have hq := List.find?_some h
    have hm := List.mem_of_find?_eq_some h
    have e2 : q.1 = (k : Int) := by simpa using hq
    obtain ⟨i, hi⟩ := List.getElem?_of_mem hp
    obtain ⟨j, hj⟩ := List.getElem?_of_mem hm
    rcases Nat.lt_trichotomy i j with h1 | h1 | h1
    · have := asc_lt ha hi hj h1; omega
    · subst h1; rw [hi] at hj; cases hj; rfl
    · have := asc_lt ha hj hi h1; omega
theorem plG_miss {ps : List (Int × Int)} {k : Nat} (h : ∀ p ∈ ps, p.1 ≠ (k : Int)) : plG ps k = -1 := by
  unfold plG
  rw [List.find?_eq_none.2 (fun p hp => by simpa using h p hp)]
theorem ahead_hit {ps : List (Int × Int)} (ha : Asc ps) {k j : Nat} {p : Int × Int} (h : Ahead ps k j) (hp : ps[j]? = some p) (e : p.1 = (k : Int)) : Ahead ps (k + 1) (j + 1) ∧ plG ps k = p.2 := by
  obtain ⟨h1, h2, h3⟩ := h
  refine ⟨⟨(List.getElem?_eq_some_iff.1 hp).1, fun i q hi hq => ?_, fun i q hi hq => ?_⟩, plG_hit ha (List.mem_of_getElem? hp) e⟩
  · by_cases c : i = j
    · subst c; rw [hp] at hq; cases hq; omega
    · have := h2 i q (by omega) hq; omega
  · have := asc_lt ha hp hq (by omega); omega
theorem ahead_miss {ps : List (Int × Int)} (ha : Asc ps) {k j : Nat} (h : Ahead ps k j) (hn : ∀ p, ps[j]? = some p → p.1 ≠ (k : Int)) : Ahead ps (k + 1) j ∧ plG ps k = -1 := by
  obtain ⟨h1, h2, h3⟩ := h
  have key : ∀ i q, j ≤ i → ps[i]? = some q → ((k + 1 : Nat) : Int) ≤ q.1 := fun i q hi hq => by
    have a := h3 i q hi hq
    by_cases c : i = j
    · subst c; have := hn q hq; omega
    · have hil := (List.getElem?_eq_some_iff.1 hq).1
      have hj := List.getElem?_eq_getElem (l := ps) (i := j) (by omega)
      have b := h3 j _ (Nat.le_refl _) hj
      have := asc_lt ha hj hq (by omega)
      omega
  refine ⟨⟨h1, fun i q hi hq => by have := h2 i q hi hq; omega, key⟩, plG_miss fun p hp => ?_⟩
  obtain ⟨i, hi⟩ := List.getElem?_of_mem hp
  by_cases c : i < j
  · have := h2 i p c hi; omega
  · have := key i p (by omega) hi; omega
def plRow (ps : List (Int × Int)) (k : Nat) : List Int := (List.range k).map fun i => plV (plG ps i)
theorem plRow_succ (ps : List (Int × Int)) (k : Nat) : plRow ps (k + 1) = plRow ps k ++ [plV (plG ps k)] := by unfold plRow; rw [List.range_succ, List.map_append]; rfl
theorem plRow_len (ps : List (Int × Int)) (k : Nat) : (plRow ps k).length = k := by unfold plRow; simp
theorem plRow_all {b : Nat} {ps : List (Int × Int)} (ha : Asc ps) (hr : ∀ p ∈ ps, 0 ≤ p.1 ∧ p.1 < (b : Int)) : plRow ps b = sPlaces b ps := by
  apply List.ext_getElem?
  intro j
  by_cases hj : j < b
  · obtain ⟨c1, c2⟩ := places_get ha hr hj
    unfold plRow
    rw [List.getElem?_map, List.getElem?_range hj]
    show some (plV (plG ps j)) = _
    by_cases hq : ∃ q ∈ ps, q.1 = (j : Int)
    · obtain ⟨q, hq, e⟩ := hq
      rw [c1 q hq e, plG_hit ha hq e]
    · have hn : ∀ q ∈ ps, q.1 ≠ (j : Int) := fun q hq2 e => hq ⟨q, hq2, e⟩
      rw [c2 hn, plG_miss hn]
      rfl
  · rw [List.getElem?_eq_none (by rw [plRow_len]; omega), List.getElem?_eq_none (by rw [places_len]; omega)]
theorem plG_rng {b : Nat} {ps : List (Int × Int)} (h : PlOk b ps) (k : Nat) : -1 ≤ plG ps k ∧ plG ps k ≤ 255 ∧ plG ps k ≠ 254 := by
  unfold plG
  cases e : ps.find? (fun p => p.1 == (k : Int)) with
  | none => exact ⟨by decide, by decide, by decide⟩
  | some q =>
    have := h q (List.mem_of_find?_eq_some e)
    show -1 ≤ q.2 ∧ q.2 ≤ 255 ∧ q.2 ≠ 254
    omega

attribute [-simp] Tryz.isAgg54 Tryz.zeroValue54
attribute [local go_sem] Oper.semAt_some
/-- The item number k. -/
def encG (ps : List (Int × Int)) (k : Nat) : Array Value := #[.int .i64 (plG ps k)]
/-- What the boxes of the range function hold. -/
structure PlB (Bl Bb : Nat) (v : Value) (b : Int) (ps : List (Int × Int)) (W : World) : Prop where
  cl : W.cell? ⟨Bl, 0, none⟩ = some v
  cb : W.cell? ⟨Bb, 0, none⟩ = some (.int .i64 b)
  pr : Prt W v ps
set_option maxRecDepth 100000 in
set_option maxHeartbeats 1000000 in
theorem plc_in (F : Fence) (n : Nat) (hf : F.fn 60) (hro : F.round = none) (a : Option Addr) (len cap : Nat) (b : Int) (w : World) :
    CallsIn F n Tryz.prog 60 #[.slice a len cap, .int .i64 b] w fun e w' => e = .returned (.func (.func 98) #[] #[.pointer (some ⟨w.heap.size, 0, none⟩), .pointer (some ⟨w.heap.size + 1, 0, none⟩)]) ∧
      w' = (w.alloc (.cells #[.slice a len cap] 26)).alloc (.cells #[.int .i64 b] 3) := by
  refine callsIn_of_wp Tryz.func60 rfl hf ?_ hro
  simp only [Tryz.ntmps60, List.size_toArray, List.length_cons, List.length_nil, Nat.reduceAdd, Nat.reduceSub, Array.replicate_succ, Array.replicate_zero, List.push_toArray, List.append_toArray, List.nil_append, List.cons_append]
  gi_wp2
  go_ret
  exact ⟨rfl, rfl⟩

set_option maxRecDepth 100000 in
set_option maxHeartbeats 2000000 in
theorem plc1_seq (n : Nat) (hn : 1 ≤ n) (Bl Bb : Nat) (v : Value) (b : Nat) (hb : b ≤ 64) (ps : List (Int × Int)) (hp : ps.length ≤ 1000) (ha : Asc ps) (hps : ∀ p ∈ ps, 0 ≤ p.1) (w : World) :
    SeqNum Fence.wide n Tryz.prog 98 #[.pointer (some ⟨Bl, 0, none⟩), .pointer (some ⟨Bb, 0, none⟩)] (encG ps) (PlB Bl Bb v (b : Int) ps) b w := by
  intro lp J Jx W hW hJR hAB _ hY h0
  have HAB := Lib.hid hAB
  have hR0 := hJR 0 W h0
  have HJR := Lib.hid hJR
  have HY := Lib.hid hY
  obtain ⟨a, cap, rfl, hc1, hc2, -⟩ := id hR0.pr
  obtain ⟨len, hle⟩ : ∃ len, ps.length = len := ⟨_, rfl⟩
  rw [hle] at hc1 hp HJR
  have HL := Lib.hid hle
  have hcl := hR0.cl
  have hcb := hR0.cb
  rw [hle] at hcl
  have HA := Lib.hid ha
  have HP0 := Lib.hid (ahead_zero hps)
  have HCC : Hid (len ≤ cap ∧ cap ≤ maxLen) := ⟨hc1, hc2⟩
  have HRA : Hid (0 < len → ∃ bb off, a = some ⟨bb, off, none⟩) := fun h => by
    obtain ⟨bb, off, e, -⟩ := hR0.pr.at (k := 0) (List.getElem?_eq_getElem (by omega))
    exact ⟨bb, off, e⟩
  clear hR0 hY hJR hW hle ha hps hc1 hc2 hAB
  refine callsIn_of_wp Tryz.func98 rfl trivial ?_ rfl
  simp only [Tryz.ntmps98, List.size_toArray, List.length_cons, List.length_nil, Nat.reduceAdd, Nat.reduceSub, Array.replicate_succ, Array.replicate_zero, List.push_toArray, List.append_toArray, List.nil_append, List.cons_append]
  gi_wp2
  clear hcl hcb
  gi_loopw [4, 9] (fun rv iv wr => ∃ (k j : Nat) (ra : Option Addr), k ≤ b ∧ iv = .int .i64 (k : Int) ∧ rv = .slice ra (len - j) (cap - j) ∧ Hid (Ahead ps k j) ∧ Hid (j ≤ len) ∧ Hid (j < len → ∃ bb off, a = some ⟨bb, off, none⟩ ∧ ra = some ⟨bb, off + j * 2, none⟩) ∧ J k wr) (fun _ iv _ => b - (intOf iv).toNat)
  case atStart => exact ⟨0, 0, a, Nat.zero_le _, rfl, rfl, HP0, Nat.zero_le _, (fun h => by obtain ⟨bb, off, e⟩ := HRA.out h; exact ⟨bb, off, e, by rw [e, Nat.zero_mul, Nat.add_zero]⟩), h0⟩
  case round =>
    obtain ⟨k, j, ra, hk, rfl, rfl, HAh, HJL, HAd, hJs⟩ := hrel
    have HJ0 := Lib.hid hJs
    by_cases hkm : k < b
    · have g1 : (k : Int) < (b : Int) := by omega
      have HKM := Lib.hid hkm
      have hW1 : Hid (wrap64 ((k : Int) + 1) = (k : Int) + 1) := IntWalk.wrap64_in _ (by omega)
      have hy0 := HY.out k wr hkm hJs
      unfold encG at hy0
      obtain ⟨m, hm⟩ : ∃ m, len - j = m := ⟨_, rfl⟩
      obtain ⟨d, hd⟩ : ∃ d, cap - j = d := ⟨_, rfl⟩
      rw [hm, hd]
      have HM := Lib.hid hm
      have HD := Lib.hid hd
      have hdm : d ≤ maxLen := by have := HCC.out.2; omega
      have hmd : m ≤ d := by have := HCC.out.1; omega
      clear hm hd
      by_cases h0m : m = 0
      · subst h0m
        obtain ⟨hA2, hG⟩ := ahead_miss HA.out HAh.out (fun p hp => by
          have := (List.getElem?_eq_some_iff.1 hp).1
          have h1 := HM.out
          have h2 := HL.out
          omega)
        have HA2 := Lib.hid hA2
        rw [hG] at hy0
        obtain ⟨fn, tmps, assign, body, hy, hRR⟩ := hy0
        clear hA2 hG hkm hJs
        gi_wp2
        refine hRR.mono ?_
        rintro e W3 (⟨rfl, hJ3⟩ | ⟨rfl, hJx3⟩)
        · have HJ3 := Lib.hid hJ3
          clear hJ3
          gi_wp2
          go_roundw
          case rel => exact ⟨k + 1, j, ra, HKM.out, by simp, by rw [HM.out, HD.out], HA2, HJL, HAd, HJ3.out⟩
          case measure => have := HKM.out; simp [intOf]; omega
        · have HJ3 := Lib.hid hJx3
          clear hJx3
          gi_wp2
          refine bodyPost_ret (results_none rfl _ _ _) rfl ?_
          exact ⟨⟨_, rfl⟩, .inr ⟨k + 1, HKM.out, HJ3.out⟩⟩
      · have hjl : j < len := by have := HM.out; omega
        obtain ⟨bb, off, rfl, rfl⟩ := HAd.out hjl
        obtain ⟨p, hpj⟩ : ∃ p, ps[j]? = some p := ⟨_, List.getElem?_eq_getElem (by rw [HL.out]; exact hjl)⟩
        obtain ⟨bb', off', e', hbb, d1, d2⟩ := (HJR.out k wr hJs).pr.at hpj
        cases e'
        obtain ⟨x0, y0⟩ := p
        simp only at d1 d2
        have g3 : decide ((m : Int) > 0) = true := by simp; omega
        have g2 : (m : Int) > 0 := by omega
        have g6 : 0 < m := by omega
        have hP2 := HJR.out k wr hJs
        by_cases hx : x0 = (k : Int)
        · subst hx
          obtain ⟨hA2, hG⟩ := ahead_hit HA.out HAh.out hpj rfl
          have HA2 := Lib.hid hA2
          rw [hG] at hy0
          simp only at hy0
          have q1 : ∀ z : Ext wr, z.1.cell? ⟨bb, off + j * 2, none⟩ = some (.int .i64 (k : Int)) := fun z => (z.cell hbb).trans d1
          have q2 : ∀ z : Ext wr, z.1.cell? ⟨bb, off + j * 2 + 1, none⟩ = some (.int .i64 y0) := fun z => (z.cell hbb).trans d2
          have g4 : ((k : Int) == (k : Int)) = true := by simp
          have g5 : ¬ m = 0 := h0m
          have hm1 : 1 ≤ m := g6
          clear hA2 hkm hJs hpj hy0 HAd hjl hP2 h0m
          have HGG := Lib.hid hG
          clear hG
          gi_wp2
          refine wpIn_wide.2 ?_
          refine region_ext (by kernel_rfl) (by kernel_rfl) ?_
          repeat (go_big_quiet_step (fail))
          try (with_reducible refine wpQuiet_nil ?_)
          intro z
          obtain ⟨x, hzx⟩ : ∃ x, z.1 = x := ⟨_, rfl⟩
          have hbx : Below wr.heap.size wr x := by rw [← hzx]; exact z.2
          rw [hzx]
          have hJx : J k x := HAB.out k wr x none HJ0.out (grown_below hbx none) (fun r e => by cases e)
          have hy0 := HY.out k x HKM.out hJx
          unfold encG at hy0
          rw [HGG.out] at hy0
          obtain ⟨fn, tmps, assign, body, hy, hRR⟩ := hy0
          have hmd2 : m ≤ d := hmd
          clear hzx hbx hJx q1 q2
          gi_wp2
          all_goals (
            refine hRR.mono ?_
            rintro e W3 (⟨rfl, hJ3⟩ | ⟨rfl, hJx3⟩)
            · have HJ3 := Lib.hid hJ3
              clear hJ3
              gi_wp2
              go_roundw
              case rel => exact ⟨k + 1, j + 1, _, HKM.out, by simp, by first | (rw [show len - (j + 1) = m - 1 by have := HM.out; omega, show cap - (j + 1) = d - 1 by have := HD.out; omega]; done) | (rw [show len - (j + 1) = m - 1 by have := HM.out; omega, show cap - (j + 1) = 0 by have := HD.out; omega]; done), HA2, by have := HM.out; show j + 1 ≤ len; omega, (fun h => by first | (exfalso; have := HM.out; have := HD.out; omega) | exact ⟨bb, off, rfl, by simp only [Option.some.injEq, Addr.mk.injEq, and_true, true_and]; omega⟩), HJ3.out⟩
              case measure => have := HKM.out; simp [intOf]; omega
            · have HJ3 := Lib.hid hJx3
              clear hJx3
              gi_wp2
              refine bodyPost_ret (results_none rfl _ _ _) rfl ?_
              exact ⟨⟨_, rfl⟩, .inr ⟨k + 1, HKM.out, HJ3.out⟩⟩)
        · obtain ⟨hA2, hG⟩ := ahead_miss HA.out HAh.out (fun q hq => by rw [hpj] at hq; cases hq; exact hx)
          have HA2 := Lib.hid hA2
          rw [hG] at hy0
          obtain ⟨fn, tmps, assign, body, hy, hRR⟩ := hy0
          have g4 : (x0 == (k : Int)) = false := by simpa using hx
          have g5 : ¬ x0 = (k : Int) := hx
          clear hA2 hG hkm hJs hpj hx hjl hP2
          gi_wp2
          refine hRR.mono ?_
          rintro e W3 (⟨rfl, hJ3⟩ | ⟨rfl, hJx3⟩)
          · have HJ3 := Lib.hid hJ3
            clear hJ3
            gi_wp2
            go_roundw
            case rel => exact ⟨k + 1, j, _, HKM.out, by simp, by rw [HM.out, HD.out], HA2, HJL, HAd, HJ3.out⟩
            case measure => have := HKM.out; simp [intOf]; omega
          · have HJ3 := Lib.hid hJx3
            clear hJx3
            gi_wp2
            refine bodyPost_ret (results_none rfl _ _ _) rfl ?_
            exact ⟨⟨_, rfl⟩, .inr ⟨k + 1, HKM.out, HJ3.out⟩⟩
    · obtain rfl : k = b := by omega
      have g1 : ¬ (k : Int) < (k : Int) := by omega
      clear hJs hkm
      gi_wp2
      go_end0
      exact ⟨⟨_, rfl⟩, .inl HJ0.out⟩
end Go.Proofs.YtfihpljgbghogaaGreat

