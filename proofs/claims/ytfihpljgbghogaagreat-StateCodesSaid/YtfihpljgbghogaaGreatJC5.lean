/- The ground of the proofs, part 5. -/
import Derived.Test.YtfihpljgbghogaaGreatJC4
import Derived.Lib.JoinLaws
import Derived.Maps.AppendAt
import Derived.Shelf.Bits.Mul64
import Derived.Test.YtfihpljgbghogaaGreatProg
import Derived.Laws.CopyRow
/- The program's state: the bytes of places. -/
namespace Go.Proofs.YtfihpljgbghogaaGreat
open Go.RowKit Go.Shelf Go.Lib
set_option linter.unusedVariables false
set_option linter.unusedSimpArgs false
theorem wpListIn_make_run {F : Fence} {n : Nat} {P : Program} {w w' : World} {ops : Array Oper} {rest : List Oper} {o : Oper} {a : Act} {Q : Exit → Act → World → Prop}
    (hg : o.guard = none) (l c : Operand) (t : TypeId) (hop : o.op = Op.makeSlice t l c) (vl vc v' : Value) (hl : a.eval l = vl) (hc : a.eval c = vc)
    (hrun : (Instr.makeSlice t vl vc).run P w = .ok v' w') (h : wpListIn F n P ops Q rest (a.put o.dst v') w') : wpListIn F n P ops Q (o :: rest) a w := by
  refine wpListIn_plain hg fun K hK' => ?_
  unfold Oper.wpIn
  refine ⟨?_, ?_⟩
  · simp [Oper.about, hop]
  · rw [Oper.semAt_plain F _ _ (by rw [hop]; intro c hc'; cases hc')]
    simp [execOp, hop, hl, hc, hrun, Result.andThen]
    exact hK' _ _ h
set_option maxRecDepth 100000 in
theorem room_u8 (c : Nat) (hc : c ≤ 1000) (w : World) : (Instr.makeSlice 31 (.int .i64 0) (.int .i64 (c : Int))).run Tryz.prog w = .ok (.slice (some ⟨w.heap.size, 0, none⟩) 0 c) (w.alloc (.cells (madeCells #[.int .u8 0] c) 5)) :=
  run_make_room 31 5 (.int .u8 0) 1 Tryz.underlying31 info_u8 rfl .i64 .i64 c (by omega) (by omega) w
attribute [local go_sem] Oper.semAt_some

set_option maxRecDepth 100000 in
set_option maxHeartbeats 4000000 in
/-- **codes**. -/
theorem sg_codes {w : World} {v : Value} {ps : List (Int × Int)} (h : Prt w v ps) (hp : ps.length ≤ 1000) (b : Nat) (hb : b ≤ 64) (ha : Asc ps) (hok : PlOk b ps) :
    Calls Tryz.prog 26 #[v, .int .i64 (b : Int)] w fun e w' => ∃ u, e = .returned u ∧ w'.ownsRow w.heap.size 5 1 u b ((sPlaces b ps).map (Value.int .u8)) ∧ Below w.heap.size w w' := by
  have hmx : Tryz.prog.follows .mixedOrders = true := by kernel_rfl
  have HPT := Lib.hid h
  obtain ⟨a, len, cap, rfl⟩ : ∃ a n c, v = .slice a n c := by obtain ⟨a, c, e, -⟩ := h; exact ⟨a, _, c, e⟩
  have HEND : Hid (plRow ps b = sPlaces b ps) := plRow_all ha (fun p hp => ⟨(hok p hp).1, (hok p hp).2.1⟩)
  have HRG := Lib.hid (plG_rng hok)
  have hps : ∀ p ∈ ps, 0 ≤ p.1 := fun p hp => (hok p hp).1
  obtain ⟨B, hB⟩ : ∃ B, w.heap.size = B := ⟨_, rfl⟩
  have HSZ := Lib.hid hB
  obtain ⟨X0, hX0⟩ : ∃ X, w.alloc (.cells (madeCells #[.int .u8 0] b) 5) = X := ⟨_, rfl⟩
  have RM := room_u8 b (by omega) w
  have o0 : OwnB w X0 (.slice (some ⟨B, 0, none⟩) 0 b) [] := by
    rw [← hX0, ← hB]
    exact World.ownsRow_made (base := w.heap.size) (e := 5) (size := 1) w _ b (Nat.le_refl _) (by unfold maxLen; omega) (by simp [madeCells])
  rw [hX0, hB] at RM
  have hX0s : X0.heap.size = B + 1 := by rw [← hX0, ← hB]; simp
  have hX0b : Below B w X0 := by rw [← hX0, ← hB]; exact below_new _ _
  obtain ⟨X, hX⟩ : ∃ X, X0.alloc (.cells #[.slice (some ⟨B, 0, none⟩) 0 b] 31) = X := ⟨_, rfl⟩
  have hXs : X.heap.size = B + 2 := by rw [← hX]; simp [hX0s]
  have bX0 : Below X0.heap.size X0 X := by rw [← hX]; exact below_new _ _
  have r1 : RowC X (B + 1) 31 [slV (some ⟨B, 0, none⟩, 0, b)] := by rw [← hX, ← hX0s]; exact RowC.new _ _ _
  obtain ⟨W0, hW0⟩ : ∃ W0, (X.alloc (.cells #[.slice a len cap] 26)).alloc (.cells #[.int .i64 (b : Int)] 3) = W0 := ⟨_, rfl⟩
  have hWs : W0.heap.size = B + 4 := by rw [← hW0]; simp [hXs]
  have bX : Below X.heap.size X W0 := by rw [← hW0]; exact ((Below.refl _ X).alloc (Nat.le_refl _) _).alloc (by simp) _
  have r2 : RowC W0 (B + 2) 26 [.slice a len cap] := by rw [← hW0, ← hXs]; exact (RowC.new X _ _).below (below_new _ _)
  have r3 : RowC W0 (B + 3) 3 [.int .i64 (b : Int)] := by
    rw [← hW0]
    have := RowC.new (X.alloc (.cells #[.slice a len cap] 26)) 3 [.int .i64 (b : Int)]
    rw [World.size_alloc, hXs] at this
    exact this
  have I0 : Hid (RowC W0 (B + 1) 31 [slV (some ⟨B, 0, none⟩, 0, b)] ∧ OwnB w W0 (slV (some ⟨B, 0, none⟩, 0, b)) (plRow ps 0) ∧ RowC W0 (B + 2) 26 [.slice a len cap] ∧ RowC W0 (B + 3) 3 [.int .i64 (b : Int)] ∧ Below B w W0) :=
    ⟨r1.below bX, (o0.below bX0).below bX, r2, r3, (hX0b.trans (bX0.mono (by omega))).trans (bX.mono (by omega))⟩
  have HW := Lib.hid hWs
  clear o0 hX0b bX0 r1 bX r2 r3 h
  refine (callsIn_wide (n := 3)).1 ?_
  refine callsIn_of_wp_marks Tryz.func26 rfl trivial ?_ rfl
  simp only [Tryz.ntmps26, List.size_toArray, List.length_cons, List.length_nil, Nat.reduceAdd, Nat.reduceSub, Array.replicate_succ, Array.replicate_zero, List.push_toArray, List.append_toArray, List.nil_append, List.cons_append]
  gi_wp2_with (first | (gi_at_make; refine wpListIn_make_run rfl _ _ 31 rfl _ _ _ rfl rfl RM ?_) | (refine ⟨trivial, ?_⟩; gi_at_call 60; refine (plc_in _ _ trivial rfl _ _ _ _ _).mono ?_; rintro e w' ⟨rfl, rfl⟩))
  try rw [hX]
  try rw [hW0]
  try rw [hXs]
  clear hX hW0 RM hX0 hX0s hXs
  have hseq := plc1_seq 2 (by omega) (B + 2) (B + 2 + 1) (.slice a len cap) b hb ps hp ha hps W0
  clear ha hps hok
  refine wpIn_rangeFunc_num (n := 3) rfl (by omega) (gf := 98) (lb := #[.pointer (some ⟨B + 2, 0, none⟩), .pointer (some ⟨B + 2 + 1, 0, none⟩)]) rfl trivial (enters_of Tryz.func98 (by kernel_rfl) rfl)
    hseq (Below.refl _ _) (fun _ => rfl)
    (fun k W => ∃ u : SlV, RowC W (B + 1) 31 [slV u] ∧ OwnB w W (slV u) (plRow ps k) ∧ RowC W (B + 2) 26 [.slice a len cap] ∧ RowC W (B + 3) 3 [.int .i64 (b : Int)] ∧ Below B w W)
    (fun c k W => False)
    ?hR ?hI (fun c s Y Z row h => h.elim) ⟨_, I0.out⟩
    (fun k a' W => a' = { tmps := #[.slice a len cap, .int .i64 (b : Int), undef, undef, .slice none 0 0, .pointer (some ⟨B + 1, 0, none⟩), .int .i64 (plG ps k), .int .i64 (b : Int), .slice (some ⟨B, 0, none⟩) 0 b, .slice a len cap, .int .i64 (b : Int), .func (.func 98) #[] #[.pointer (some ⟨B + 2, 0, none⟩), .pointer (some ⟨B + 2 + 1, 0, none⟩)], .int .i64 (plG ps k), undef, undef, undef, undef, undef, undef], defers := [] })
    ?hAx ?assign ?body ?done ?stop
  case hR =>
    rintro k W ⟨u, g1, g2, g3, g4, g5⟩
    exact ⟨g3.cell 0 _ rfl, g4.cell 0 _ rfl, HPT.out.below (by rw [HSZ.out]; exact g5)⟩
  case hI =>
    intro s Y Z row ⟨u, g1, g2, g3, g4, g5⟩ hg hr
    refine ⟨u, rowC_own g1 hg hr, row_own g2 hg hr, rowC_own g3 hg hr, rowC_own g4 hg hr, below_own g5 (by omega) hg (fun r e => ⟨by have := (hr r e).1; have := HW.out; have := HSZ.out; omega, (hr r e).2⟩)⟩
  case hAx =>
    rintro k a' _ Y Z row f hg hr
    exact f
  case assign =>
    rintro lp k W K hkm ⟨u, g⟩ hK
    have hK := hK _ _ (keepsFrom_below (Below.refl _ W)) ⟨u, g⟩ rfl
    unfold encG
    clear g
    gi_wp2
    exact hK
  case body =>
    rintro lp k a' W _ _ hkm ⟨u, g1, g2, g3, g4, g5⟩ rfl
    have G1 := Lib.hid g1
    have G2 := Lib.hid g2
    have G3 := Lib.hid g3
    have G4 := Lib.hid g4
    have G5 := Lib.hid g5
    have HST := Lib.hid (plRow_succ ps k)
    have HPL : Hid ((plRow ps k).length ≤ 64) := by show _ ≤ _; rw [plRow_len]; omega
    obtain ⟨x, hx⟩ : ∃ x, plG ps k = x := ⟨_, rfl⟩
    have hxr := HRG.out k
    rw [hx] at hxr HST ⊢
    obtain ⟨y, hy⟩ : ∃ y, plV x = y := ⟨_, rfl⟩
    have HCD := Lib.hid (sg_code x hxr.1 hxr.2.1 hxr.2.2 W.drew)
    rw [hy] at HST HCD
    have gd : Below W.heap.size W W.drew := (Below.refl _ W).drew
    obtain ⟨X1, hX1⟩ : ∃ X, W.drew.alloc (.cells #[.int .u8 y] 5) = X := ⟨_, rfl⟩
    have bX1 : Below W.drew.heap.size W.drew X1 := by rw [← hX1]; exact below_new _ _
    have gW : Below B w X1 := (g5.trans (gd.mono (by have := g5.size; omega))).trans (bX1.mono (by have := g5.size; have := gd.size; omega))
    have o1 : OwnB w X1 (slV u) (plRow ps k) := (g2.below gd).below bX1
    obtain ⟨q, x2, hA, hO, hB2, hg2⟩ := OwnB.appG (u := .slice (some ⟨W.drew.heap.size, 0, none⟩) 1 1) (bs := [y]) o1 (by rw [HSZ.out]; exact gW) (by rw [← hX1]; exact lit1_sl W.drew y) (by have := HPL.out; simp; omega)
    rw [← HST.out] at hO
    obtain ⟨⟨xx, nn, cc⟩, rfl, -⟩ := own_slV hO.out
    have KD : Hid (RowC W.drew (B + 1) 31 [slV u]) := g1.below gd
    have KX1 : Hid (RowC X1 (B + 1) 31 [slV u]) := (g1.below gd).below bX1
    have kx2 : RowC x2 (B + 1) 31 [slV u] := KX1.out.grown hg2 (row_ne o1 KX1.out (by decide))
    have KX2 := Lib.hid kx2
    have K3 : Hid (RowC x2 (B + 2) 26 [.slice a len cap]) := ((g3.below gd).below bX1).grown hg2 (row_ne o1 ((g3.below gd).below bX1) (by decide))
    have K4 : Hid (RowC x2 (B + 3) 3 [.int .i64 (b : Int)]) := ((g4.below gd).below bX1).grown hg2 (row_ne o1 ((g4.below gd).below bX1) (by decide))
    have HKF : Hid (KeepsFrom W0.heap.size W x2) := keepsFrom_trans (keepsFrom_below (gd.trans (bX1.mono gd.size))) (keepsFrom_row o1 hg2)
    have f0 := kx2.frozen 0
    have e0 := kx2.cell 0 _ rfl
    have d0 : ∀ z : RowT (B + 1) 31 [slV u], z.1.cell? ⟨B + 1, 0, none⟩ = some (slV u) := fun z => z.2.cell 0 _ rfl
    haveI : Nonempty (RowT (B + 1) 31 [slV u]) := ⟨⟨W.drew, KD.out⟩⟩
    have HN : Hid (W.drew.heap.size = W.drew.heap.size) := rfl
    clear g1 g2 g3 g4 g5 gd bX1 gW o1 hg2 kx2 hx hy hxr
    gi_wp2
    refine region_plan_round (fun x => ∃ z : RowT (B + 1) 31 [slV u], x = z.1) 5 (.takes [0, 1] (.one 2 (.one 3 (.one 4 .leaf)))) (letsOut_inBlock letsOut_num) (by kernel_rfl) hmx (by kernel_rfl) (by intro c x v a w h; exact (h : False).elim) ⟨⟨W.drew, KD.out⟩, rfl⟩ ?_
    repeat (rw [wpPlan_takes_cons]; simp only [nth_zero, nth_succ]; go_big_quiet_step (fail); refine wpQuiet_nil ?_)
    clear d0
    rw [wpPlan_takes_nil, wpPlan_one]
    simp only [nth_zero, nth_succ]
    go_wp2_with fail
    go_at_call 24
    refine HCD.out.mono ?_
    rintro e y2 ⟨rfl, rfl⟩
    go_wp2_with fail
    refine planPost_mk ⟨⟨_, KD.out⟩, rfl⟩ ?_
    rw [wpPlan_one]
    simp only [nth_zero, nth_succ]
    go_wp2_with fail
    try rw [hX1]
    refine planPost_mk ⟨⟨X1, KX1.out⟩, rfl⟩ ?_
    clear hX1
    rw [wpPlan_one]
    simp only [nth_zero, nth_succ]
    refine wpList_append_run (.tmp 13) (.tmp 16) 31 rfl rfl _ _ _ rfl rfl (hA.out) ?_
    go_wp2_with fail
    refine planPost_mk ⟨⟨x2, KX2.out⟩, rfl⟩ ?_
    rw [wpPlan_leaf]
    simp only [List.drop_succ_cons, List.drop_zero]
    simp only [slV] at e0 ⊢
    go_wp2_with fail
    exact ⟨keepsFrom_trans HKF.out (keepsFrom_cells KX2.out (grownBy_setCellJ x2 (B + 1) 0 _)), (xx, nn, cc), KX2.out.set 0 _, own_setB hO.out KX2.out (by decide) 0 _, set_other K3.out (by omega) 0 _, set_other K4.out (by omega) 0 _, set_below (by have := hB2.out; rw [HSZ.out] at this; exact this) (by omega) 0 _⟩
  case done =>
    rintro D W hD ⟨u, g1, g2, g3, g4, g5⟩ hK
    have d3 := g1.cell 0 _ rfl
    have G2 := Lib.hid g2
    have G5 := Lib.hid g5
    have HK := Lib.hid hK
    clear g1 g2 g3 g4 g5 hK
    gi_wp2
    refine ⟨by simp, .inl ⟨_, _, rfl, run_takeDeferred HK.out, ?_⟩⟩
    have hg2 := grownBy_putObj' W D (.deferred none)
    refine ⟨_, results_tmp rfl _ _ _, _, rfl, ?_, ?_⟩
    · have := row_own (M := 0) G2.out hg2 (fun r e => by cases e; exact ⟨Nat.zero_le _, _, HK.out, rfl⟩)
      rw [HEND.out, places_len] at this
      exact this
    · rw [HSZ.out]
      exact G5.out.trans (belowK_b (w := w) (by omega) W D _ _ (by have := HW.out; have := HSZ.out; omega) HK.out rfl rfl)
  case stop =>
    rintro D c k W hD _ h hK
    exact h.elim
end Go.Proofs.YtfihpljgbghogaaGreat

/- The program's state: the next number, pairs that rise, what is held. -/
namespace Go.Proofs.YtfihpljgbghogaaGreat
open Go.RowKit Go.Shelf Go.Lib
set_option linter.unusedVariables false
set_option linter.unusedSimpArgs false
attribute [-simp] Tryz.isAgg51 Tryz.zeroValue51 Tryz.isAgg54 Tryz.zeroValue54 Tryz.isAgg30 Tryz.zeroValue30
attribute [-go_sem] loadVar storeVar
attribute [local go_sem] loadVar_openQ storeVar_openQ zero_sn zero_prs zero_st

set_option maxRecDepth 100000 in
set_option maxHeartbeats 4000000 in
/-- **goodNext**. -/
theorem sg_next {w : World} {q : PS} {l : List SN} (h : Snp w (slV q.sn) l) (hK : l.length ≤ 1000) :
    Calls Tryz.prog 41 #[stV q] w fun e w' => e = .returned (.bool (l.all (fun t => decide (t.id < q.nx)) && decide (1 ≤ q.nx ∧ q.nx ≤ 1000001))) ∧ Below w.heap.size w w' := by
  obtain ⟨⟨qd, qdn, qdc⟩, ⟨qs, qsn, qsc⟩, nx, kd, id, ⟨qp, qpn, qpc⟩⟩ := q
  obtain ⟨r, h⟩ := h
  have HS0 := Lib.hid h
  obtain ⟨a, cap, e, h1, h2, -⟩ := h
  simp only [slV] at e
  cases e
  obtain ⟨len, hle⟩ : ∃ len, l.length = len := ⟨_, rfl⟩
  simp only [stV, stL, slV] at *
  rw [hle] at HS0 h1 hK ⊢
  have HL := Lib.hid hle
  obtain ⟨B, hB⟩ : ∃ B, w.heap.size = B := ⟨_, rfl⟩
  obtain ⟨W, hW⟩ : ∃ W, w.alloc (.cells #[.slice qd qdn qdc, .slice qs len qsc, .int .i64 nx, .int .i64 kd, .int .i64 id, .slice qp qpn qpc] 30) = W := ⟨_, rfl⟩
  have r1 : RowC W B 30 (stL ⟨(qd, qdn, qdc), (qs, len, qsc), nx, kd, id, (qp, qpn, qpc)⟩) := by rw [← hW, ← hB]; exact RowC.new _ _ _
  have b1 : Below B w W := by rw [← hW, ← hB]; exact below_new _ _
  have HB := Lib.hid b1
  have HSZ := Lib.hid hB
  have HWB : Hid (B ≤ W.heap.size) := by show B ≤ W.heap.size; have := b1.size; omega
  have KR : Hid (∀ x : World, Below W.heap.size W x → x.cell? ⟨B, 1, none⟩ = some (.slice qs len qsc) ∧ x.cell? ⟨B, 2, none⟩ = some (.int .i64 nx)) := fun x hx => ⟨(r1.below hx).cell 1 _ rfl, (r1.below hx).cell 2 _ rfl⟩
  have KS : Hid (∀ x : World, Below W.heap.size W x → SnR x (.slice qs len qsc) r l) := fun x hx => HS0.out.below (by rw [hB]; exact b1.trans (hx.mono HWB.out))
  obtain ⟨k1, -⟩ := KR.out W (Below.refl _ _)
  clear r1 b1 h1 h2 hle HS0
  go_enter Tryz.func41, Tryz.ntmps41
  go_wp2_with fail
  go_loopw [8] (fun iv wr => ∃ k : Nat, k ≤ len ∧ iv = .int .i64 (k : Int) ∧ Hid (∀ t ∈ l.take k, t.id < nx) ∧ Hid (Below W.heap.size W wr)) (fun iv _ => len - (intOf iv).toNat)
  case atStart => exact ⟨0, Nat.zero_le _, rfl, (fun t ht => by cases ht), Below.refl _ _⟩
  case round =>
    clear k1
    obtain ⟨k, hk, rfl, HP, HBw⟩ := hrel
    by_cases hlt : k < len
    · have q1 : (k : Int) < (len : Int) := by omega
      have HLT := Lib.hid hlt
      obtain ⟨s, hs⟩ : ∃ s, l[k]? = some s := ⟨_, List.getElem?_eq_getElem (by rw [HL.out]; exact hlt)⟩
      have HTK := Lib.hid (take_at hs)
      have HMm := Lib.hid (List.mem_of_getElem? hs)
      obtain ⟨bb, off, ⟨i0, ⟨x1, n1, c1⟩, ⟨x2, n2, c2⟩⟩, rfl, hbb, hrk, hsn, d0, d1, d2⟩ := (KS.out _ HBw.out).at hs
      have HID : Hid (i0 = s.id) := hsn.id
      have LD := load_sn d0 d1 d2
      have ST := new_sn wr (i0, (x1, n1, c1), (x2, n2, c2))
      obtain ⟨W2, hW2⟩ : ∃ W2, wr.alloc (.cells (svL (i0, (x1, n1, c1), (x2, n2, c2))).toArray 51) = W2 := ⟨_, rfl⟩
      have bW2 : Below wr.heap.size wr W2 := by rw [← hW2]; exact below_new wr _
      have e0 : W2.cell? ⟨wr.heap.size, 0, none⟩ = some (.int .i64 i0) := by rw [← hW2]; exact (RowC.new wr 51 (svL (i0, (x1, n1, c1), (x2, n2, c2)))).cell 0 _ rfl
      have HB2 : Hid (Below W.heap.size W W2) := HBw.out.trans (bW2.mono HBw.out.size)
      obtain ⟨-, e2⟩ := KR.out W2 HB2.out
      rw [hW2] at ST
      obtain ⟨N, hN⟩ : ∃ N, wr.heap.size = N := ⟨_, rfl⟩
      rw [hN] at ST e0
      simp only [svV, slV] at LD ST
      clear hs hbb hrk hsn d0 d1 d2 bW2 hW2 hlt
      by_cases hc : nx ≤ i0
      · have g0 : decide (nx ≤ i0) = true := by simpa using hc
        have HE : Hid ((l.all (fun t => decide (t.id < nx)) && decide (1 ≤ nx ∧ nx ≤ 1000001)) = false) := by
          show _ = _
          have : l.all (fun t => decide (t.id < nx)) = false := by
            rw [List.all_eq_false]
            exact ⟨s, HMm.out, by rw [← HID.out]; simp; omega⟩
          rw [this]; rfl
        clear hc
        go_wp2_with fail
        go_ret
        rw [HE.out]
        exact ⟨rfl, by rw [HSZ.out]; exact HB.out.trans (HB2.out.mono HWB.out)⟩
      · have g0 : decide (nx ≤ i0) = false := by simpa using hc
        have HQ : Hid (∀ t ∈ l.take (k + 1), t.id < nx) := fun t ht => by
          rw [HTK.out] at ht
          rcases List.mem_append.1 ht with ht | ht
          · exact HP.out t ht
          · rw [List.mem_singleton.1 ht, ← HID.out]; omega
        clear hc
        go_wp2_with fail
        exact ⟨⟨k + 1, HLT.out, by simp, HQ, HB2⟩, by have := HLT.out; simp [intOf]; omega⟩
    · obtain rfl : k = len := by omega
      have HE : Hid ((l.all (fun t => decide (t.id < nx)) && decide (1 ≤ nx ∧ nx ≤ 1000001)) = decide (1 ≤ nx ∧ nx ≤ 1000001)) := by
        show _ = _
        have : l.all (fun t => decide (t.id < nx)) = true := by
          rw [List.all_eq_true]
          intro t ht
          have h := HP.out t (by rw [List.take_of_length_le (by rw [HL.out]; exact Nat.le_refl _)]; exact ht)
          simpa using h
        rw [this]; rfl
      obtain ⟨-, e2⟩ := KR.out wr HBw.out
      have HWI := Lib.hid (sg_within nx 1 1000001 wr)
      obtain ⟨tv, htv⟩ : ∃ tv, decide (1 ≤ nx ∧ nx ≤ 1000001) = tv := ⟨_, rfl⟩
      have HE2 : Hid ((l.all (fun t => decide (t.id < nx)) && decide (1 ≤ nx ∧ nx ≤ 1000001)) = tv) := by show _ = _; rw [HE.out, htv]
      rw [htv] at HWI
      clear hlt htv HE
      go_wp2_with fail
      refine HWI.out.mono ?_
      rintro e y ⟨rfl, rfl⟩
      go_wp2_with fail
      go_ret
      rw [HE2.out]
      exact ⟨rfl, by rw [HSZ.out]; exact HB.out.trans (HBw.out.mono HWB.out)⟩

set_option maxRecDepth 100000 in
set_option maxHeartbeats 4000000 in
/-- **rising**. -/
theorem sg_rising {w : World} {v : Value} {ps : List (Int × Int)} (h : Prt w v ps) (hp : ps.length ≤ 1000) (b : Nat) (hb1 : 1 ≤ b) (hb2 : b ≤ 64) :
    Calls Tryz.prog 83 #[v, .int .i64 (b : Int)] w fun e w' => e = .returned (.bool (gRise b ps)) ∧ Below w.heap.size w w' := by
  have HPT := Lib.hid h
  obtain ⟨a, cap, rfl, h1, h2, -⟩ := h
  obtain ⟨len, hle⟩ : ∃ len, ps.length = len := ⟨_, rfl⟩
  rw [hle] at HPT h1 hp ⊢
  have HL := Lib.hid hle
  have HIS := Lib.hid HPT.out.is
  clear h1 h2 hle
  go_enter Tryz.func83, Tryz.ntmps83
  go_wp2_with fail
  go_loopw [5, 10] (fun lv iv wr => ∃ k : Nat, k ≤ len ∧ iv = .int .i64 (k : Int) ∧ lv = .int .i64 (leastK ps k) ∧ Hid (∀ i, i < k → riseAt b ps i = true) ∧ Hid (Below w.heap.size w wr)) (fun _ iv _ => len - (intOf iv).toNat)
  case atStart => exact ⟨0, Nat.zero_le _, rfl, rfl, (fun t ht => absurd ht (Nat.not_lt_zero _)), Below.refl _ _⟩
  case round =>
    obtain ⟨k, hk, rfl, rfl, HP, HBw⟩ := hrel
    by_cases hlt : k < len
    · have q1 : (k : Int) < (len : Int) := by omega
      have HLT := Lib.hid hlt
      obtain ⟨p, hs⟩ : ∃ s, ps[k]? = some s := ⟨_, List.getElem?_eq_getElem (by rw [HL.out]; exact hlt)⟩
      have HRT := Lib.hid (rise_test hs HP.out)
      have HLS := Lib.hid (least_succ hs)
      obtain ⟨bb, off, rfl, hbb, d1, d2⟩ := (HPT.out.below HBw.out).at hs
      obtain ⟨x0, y0⟩ := p
      simp only at d1 d2
      have LD := load_prs d1 d2
      have ST := new_prs wr x0 y0
      obtain ⟨W2, hW2⟩ : ∃ W2, wr.alloc (.cells #[.int .i64 x0, .int .i64 y0] 54) = W2 := ⟨_, rfl⟩
      rw [hW2] at ST
      have bW2 : Below wr.heap.size wr W2 := by rw [← hW2]; exact below_new wr _
      have e1 : W2.cell? ⟨wr.heap.size, 0, none⟩ = some (.int .i64 x0) := by rw [← hW2]; exact (RowC.new wr 54 [.int .i64 x0, .int .i64 y0]).cell 0 _ rfl
      have HB2 : Hid (Below w.heap.size w W2) := HBw.out.trans (bW2.mono HBw.out.size)
      obtain ⟨N, hN⟩ : ∃ N, wr.heap.size = N := ⟨_, rfl⟩
      rw [hN] at ST e1
      obtain ⟨le, hle⟩ : ∃ le, leastK ps k = le := ⟨_, rfl⟩
      rw [hle] at HRT ⊢
      simp only at HRT HLS
      obtain ⟨tv, htv⟩ : ∃ tv, decide (le ≤ x0 ∧ x0 ≤ (b : Int) - 1) = tv := ⟨_, rfl⟩
      have HWI := Lib.hid (sg_within x0 le ((b : Int) - 1) W2)
      have HX0 := Lib.hid (HIS.out _ (List.mem_of_getElem? hs))
      rw [htv] at HRT HWI
      clear hs hbb d1 d2 bW2 hW2 hlt hle
      cases tv with
      | false =>
        have HE : Hid (gRise b ps = false) := rise_no (by rw [HL.out]; exact HLT.out) HRT.out
        clear htv
        go_wp2_with fail
        refine HWI.out.mono ?_
        rintro e y ⟨rfl, rfl⟩
        go_wp2_with fail
        go_ret
        rw [HE.out]
        exact ⟨rfl, HB2.out⟩
      | true =>
        have hx0 : x0 ≤ (b : Int) - 1 := (of_decide_eq_true htv).2
        have hx1 : -9223372036854775808 ≤ x0 := HX0.out.1.1
        have HQ : Hid (∀ i, i < k + 1 → riseAt b ps i = true) := fun i hi => by
          by_cases e : i = k
          · subst e; exact HRT.out
          · exact HP.out i (by omega)
        clear htv
        go_wp2_with fail
        refine HWI.out.mono ?_
        rintro e y ⟨rfl, rfl⟩
        go_wp2_with fail
        exact ⟨⟨k + 1, HLT.out, by simp, by rw [HLS.out], HQ, HB2⟩, by have := HLT.out; simp [intOf]; omega⟩
    · obtain rfl : k = len := by omega
      have HE : Hid (gRise b ps = true) := rise_yes fun i hi => HP.out i (by rw [HL.out] at hi; exact hi)
      clear hlt
      go_wp2_with fail
      go_ret
      rw [HE.out]
      exact ⟨rfl, HBw.out⟩

set_option maxRecDepth 100000 in
set_option maxHeartbeats 4000000 in
/-- **complete**. -/
theorem sg_complete {w : World} {v : Value} {l : List SN} (h : Snp w v l) (hK : Lens 1000 l) :
    Calls Tryz.prog 86 #[v] w fun e w' => e = .returned (.bool (gFull l)) ∧ Below w.heap.size w w' := by
  have hmx : Tryz.prog.follows .mixedOrders = true := by kernel_rfl
  obtain ⟨r, h⟩ := h
  have HS0 := Lib.hid h
  obtain ⟨a, cap, rfl, h1, h2, -⟩ := h
  obtain ⟨len, hle⟩ : ∃ len, l.length = len := ⟨_, rfl⟩
  have hk := hK.1
  rw [hle] at HS0 h1 hk ⊢
  by_cases h0 : len = 0
  · subst h0
    have : l = [] := List.length_eq_zero_iff.1 hle
    subst this
    clear hle HS0 hK h1
    go_enter Tryz.func86, Tryz.ntmps86
    go_wp2_with fail
    go_ret
    exact ⟨rfl, Below.refl _ _⟩
  · have hlt : len - 1 < l.length := by omega
    obtain ⟨s, hs⟩ : ∃ s, l[len - 1]? = some s := ⟨_, List.getElem?_eq_getElem hlt⟩
    have hks := hK.2 s (List.mem_of_getElem? hs)
    have HGF : Hid (gFull l = fullS s) := by
      show _ = _
      have e : l.getLast? = some s := by rw [List.getLast?_eq_getElem?, hle]; exact hs
      unfold gFull
      rw [e]
    obtain ⟨m, hm⟩ : ∃ m, len - 1 = m := ⟨_, rfl⟩
    obtain rfl : len = m + 1 := by omega
    rw [hm] at hs
    obtain ⟨bb, off, ⟨i0, ⟨x1, n1, c1⟩, ⟨x2, n2, c2⟩⟩, rfl, hbb, hrk, hsn, d0, d1, d2⟩ := HS0.out.at hs
    obtain rfl : n2 = s.tb.length := by obtain ⟨a, ca, e, -⟩ := hsn.tb; simp only [slV, Value.slice.injEq] at e; omega
    obtain ⟨tl, htl⟩ : ∃ tl, s.tb.length = tl := ⟨_, rfl⟩
    rw [htl] at d0 d1 d2 hks hsn
    have LD := load_sn d0 d1 d2
    have ST := new_sn w (i0, (x1, n1, c1), (x2, tl, c2))
    obtain ⟨W, hW⟩ : ∃ W, w.alloc (.cells (svL (i0, (x1, n1, c1), (x2, tl, c2))).toArray 51) = W := ⟨_, rfl⟩
    have bW : Below w.heap.size w W := by rw [← hW]; exact below_new w _
    have r1 : RowC W w.heap.size 51 [.int .i64 i0, .slice x1 n1 c1, .slice x2 tl c2] := by rw [← hW]; exact RowC.new w _ _
    rw [hW] at ST
    have HC : Hid (∀ z : Ext W, Calls Tryz.prog 110 #[.slice x1 n1 c1] z.1 fun e w' => e = .returned (.int .i64 ((allB s.ch).length : Int)) ∧ ∃ y : Ext W, w' = y.1) := fun z =>
      calls_ext z (bi_count _ s.ch z.1 ((hsn.ch.below bW).below z.2) hsn.ok.ch (by omega))
    obtain ⟨N, hN⟩ : ∃ N, w.heap.size = N := ⟨_, rfl⟩
    have HBW : Hid (Below N w W) := by show Below _ _ _; rw [← hN]; exact bW
    rw [hN] at ST r1
    have cc1 : ∀ z : Ext W, z.1.cell? ⟨N, 1, none⟩ = some (.slice x1 n1 c1) := fun z => (r1.below z.2).cell 1 _ rfl
    have cc2 : ∀ z : Ext W, z.1.cell? ⟨N, 2, none⟩ = some (.slice x2 tl c2) := fun z => (r1.below z.2).cell 2 _ rfl
    have HNW : Hid (N ≤ W.heap.size) := by show N ≤ _; have := HBW.out.size; omega
    obtain ⟨cn, hcn⟩ : ∃ cn, (allB s.ch).length = cn := ⟨_, rfl⟩
    have HFS : Hid (fullS s = ((cn : Int) == (tl : Int))) := by
      show _ = _
      unfold fullS
      rw [hcn, htl, Bool.eq_iff_iff]
      simp
      omega
    rw [hcn] at HC
    simp only [svV, slV] at LD ST
    have HSZ := Lib.hid hN
    have g0 : ¬ ((m + 1 : Nat) : Int) = 0 := by omega
    have g1 : (((m + 1 : Nat) : Int) == 0) = false := by simp; omega
    have g2 : ((m + 1 : Nat) : Int) - 1 = (m : Int) := by omega
    clear hs hm hle h0 hlt hbb hrk d0 d1 d2 bW hW hsn htl hcn hks hK HS0
    go_enter Tryz.func86, Tryz.ntmps86
    go_wp2_with fail
    refine region_ext (by kernel_rfl) (by kernel_rfl) ?_
    repeat (go_big_quiet_step (with_reducible (first | exact HC.out _)))
    try (with_reducible refine wpQuiet_nil ?_)
    intro y
    have HYB : Hid (Below N w y.1) := HBW.out.trans (y.2.mono HNW.out)
    clear cc1 cc2 LD ST
    go_wp2_with fail
    go_ret
    rw [HGF.out, HFS.out]
    exact ⟨rfl, by rw [HSZ.out]; exact HYB.out⟩
end Go.Proofs.YtfihpljgbghogaaGreat

/- The program's state: what is held, and whether pairs are held, or apart. -/
namespace Go.Proofs.YtfihpljgbghogaaGreat
open Go.RowKit Go.Shelf Go.Lib
set_option linter.unusedVariables false
set_option linter.unusedSimpArgs false
attribute [-simp] Tryz.isAgg51 Tryz.zeroValue51 Tryz.isAgg54 Tryz.zeroValue54 Tryz.isAgg30 Tryz.zeroValue30
attribute [-go_sem] loadVar storeVar
attribute [local go_sem] loadVar_openQ storeVar_openQ zero_sn zero_prs zero_st
theorem sizeB_le200 {g : SG} (hg : g.Ok) : sizeB (g.a : Int) ≤ 25 := by
  have := hg.a200
  unfold sizeB
  split <;> omega

set_option maxRecDepth 100000 in
set_option maxHeartbeats 4000000 in
/-- **allHeld**. -/
theorem sg_allHeld {w : World} {v u : Value} {ps : List (Int × Int)} {bs : List Int} (h : Prt w v ps) (hp : ps.length ≤ 1000) (hu : Sl .u8 w u bs) (hb : IsBytes bs) :
    Calls Tryz.prog 84 #[v, u] w fun e w' => e = .returned (.bool (gHeld bs ps)) ∧ Below w.heap.size w w' := by
  have HPT := Lib.hid h
  have HU := Lib.hid hu
  have HBB := Lib.hid hb
  obtain ⟨a, cap, rfl, h1, h2, -⟩ := h
  obtain ⟨len, hle⟩ : ∃ len, ps.length = len := ⟨_, rfl⟩
  rw [hle] at HPT h1 hp ⊢
  have HL := Lib.hid hle
  have HIS := Lib.hid HPT.out.is
  clear h1 h2 hle hu hb
  go_enter Tryz.func84, Tryz.ntmps84
  go_wp2_with fail
  go_loopw [9] (fun iv wr => ∃ k : Nat, k ≤ len ∧ iv = .int .i64 (k : Int) ∧ Hid (∀ p ∈ ps.take k, hasB bs p.2 = true) ∧ Hid (Below w.heap.size w wr)) (fun iv _ => len - (intOf iv).toNat)
  case atStart => exact ⟨0, Nat.zero_le _, rfl, (fun t ht => by cases ht), Below.refl _ _⟩
  case round =>
    obtain ⟨k, hk, rfl, HP, HBw⟩ := hrel
    by_cases hlt : k < len
    · have q1 : (k : Int) < (len : Int) := by omega
      have HLT := Lib.hid hlt
      obtain ⟨p, hs⟩ : ∃ s, ps[k]? = some s := ⟨_, List.getElem?_eq_getElem (by rw [HL.out]; exact hlt)⟩
      have HTK := Lib.hid (take_at hs)
      have HMm := Lib.hid (List.mem_of_getElem? hs)
      obtain ⟨bb, off, rfl, hbb, d1, d2⟩ := (HPT.out.below HBw.out).at hs
      obtain ⟨x0, y0⟩ := p
      simp only at d1 d2
      have LD := load_prs d1 d2
      have ST := new_prs wr x0 y0
      obtain ⟨W2, hW2⟩ : ∃ W2, wr.alloc (.cells #[.int .i64 x0, .int .i64 y0] 54) = W2 := ⟨_, rfl⟩
      rw [hW2] at ST
      have bW2 : Below wr.heap.size wr W2 := by rw [← hW2]; exact below_new wr _
      have e1 : W2.cell? ⟨wr.heap.size, 1, none⟩ = some (.int .i64 y0) := by rw [← hW2]; exact (RowC.new wr 54 [.int .i64 x0, .int .i64 y0]).cell 1 _ rfl
      have HB2 : Hid (Below w.heap.size w W2) := HBw.out.trans (bW2.mono HBw.out.size)
      obtain ⟨N, hN⟩ : ∃ N, wr.heap.size = N := ⟨_, rfl⟩
      rw [hN] at ST e1
      have HX0 := Lib.hid (HIS.out _ HMm.out)
      obtain ⟨tv, htv⟩ : ∃ tv, hasB bs y0 = tv := ⟨_, rfl⟩
      have HHS : Hid (Calls Tryz.prog 75 #[u, .int .i64 y0] W2 fun e w' => e = .returned (.bool tv) ∧ Below W2.heap.size W2 w') := by
        have := bi_has u bs y0 (wf_i64 HX0.out.2.1 HX0.out.2.2) W2 (HU.out.below HB2.out) HBB.out
        rw [htv] at this
        exact this
      clear hs hbb d1 d2 bW2 hW2 hlt
      cases tv with
      | false =>
        have HE : Hid (gHeld bs ps = false) := by
          show _ = _
          unfold gHeld
          rw [List.all_eq_false]
          exact ⟨_, HMm.out, by simp [htv]⟩
        clear htv
        go_wp2_with fail
        refine HHS.out.mono ?_
        rintro e y ⟨rfl, hy⟩
        have HB3 : Hid (Below w.heap.size w y) := HB2.out.trans (hy.mono HB2.out.size)
        clear hy
        go_wp2_with fail
        go_ret
        rw [HE.out]
        exact ⟨rfl, HB3.out⟩
      | true =>
        have HQ : Hid (∀ p ∈ ps.take (k + 1), hasB bs p.2 = true) := fun p hp => by
          rw [HTK.out] at hp
          rcases List.mem_append.1 hp with hp | hp
          · exact HP.out p hp
          · rw [List.mem_singleton.1 hp]; exact htv
        clear htv
        go_wp2_with fail
        refine HHS.out.mono ?_
        rintro e y ⟨rfl, hy⟩
        have HB3 : Hid (Below w.heap.size w y) := HB2.out.trans (hy.mono HB2.out.size)
        clear hy
        go_wp2_with fail
        exact ⟨⟨k + 1, HLT.out, by simp, HQ, HB3⟩, by have := HLT.out; simp [intOf]; omega⟩
    · obtain rfl : k = len := by omega
      have HE : Hid (gHeld bs ps = true) := by
        show _ = _
        unfold gHeld
        rw [List.all_eq_true]
        intro p hp
        exact HP.out p (by rw [List.take_of_length_le (by rw [HL.out]; exact Nat.le_refl _)]; exact hp)
      clear hlt
      go_wp2_with fail
      go_ret
      rw [HE.out]
      exact ⟨rfl, HBw.out⟩

set_option maxRecDepth 100000 in
set_option maxHeartbeats 4000000 in
/-- **held**. -/
theorem sg_held {w : World} {v : Value} {l : List SN} (g : SG) (hg : g.Ok) (r0 : Int) (h : Snp w v l) (hK : Lens 1000 l) :
    Calls Tryz.prog 85 #[.agg (g.v r0), v] w fun e w' => ∃ u, e = .returned u ∧ Sl .u8 w' u (heldS g l) ∧ Below w.heap.size w w' := by
  obtain ⟨r, h⟩ := h
  have HS0 := Lib.hid h
  obtain ⟨a, cap, rfl, h1, h2, -⟩ := h
  obtain ⟨len, hle⟩ : ∃ len, l.length = len := ⟨_, rfl⟩
  have hk0 := hK.1
  have HKL := Lib.hid hK
  rw [hle] at HS0 h1 hk0 ⊢
  have HL := Lib.hid hle
  obtain ⟨B, hB⟩ : ∃ B, w.heap.size = B := ⟨_, rfl⟩
  obtain ⟨W, hW⟩ : ∃ W, w.alloc (.cells (g.v r0) 23) = W := ⟨_, rfl⟩
  have hrow : RowC W B 23 [.int .i64 (g.b : Int), .int .i64 (g.s : Int), .int .i64 (g.y : Int), .int .i64 (g.a : Int), .int .i64 r0] := by rw [← hW, ← hB]; exact RowC.new _ _ _
  have b1 : Below B w W := by rw [← hW, ← hB]; exact below_new _ _
  have HB := Lib.hid b1
  have HSZ := Lib.hid hB
  have HWB : Hid (B ≤ W.heap.size) := by show B ≤ W.heap.size; have := b1.size; omega
  have KS : Hid (∀ x : World, Below W.heap.size W x → SnR x (.slice a len cap) r l) := fun x hx => HS0.out.below (by rw [hB]; exact b1.trans (hx.mono HWB.out))
  have c3 := hrow.cell 3 _ rfl
  have HNW := Lib.hid (bi_new (g.a : Int) W)
  have hlz : Hid ((List.replicate (sizeB (g.a : Int)) (0 : Int)).length ≤ 25) := by show _ ≤ _; rw [List.length_replicate]; exact sizeB_le200 hg
  obtain ⟨zs, hzs⟩ : ∃ zs, List.replicate (sizeB (g.a : Int)) (0 : Int) = zs := ⟨_, rfl⟩
  have HZB : Hid (IsBytes zs) := by show IsBytes _; rw [← hzs]; exact bi_zeros _
  have HHD : Hid (heldS g l = addB zs (cAts l)) := by show _ = _; unfold heldS; rw [hzs]
  rw [hzs] at HNW hlz
  have HLen : Hid (∀ xs, (addB zs xs).length ≤ 140737488355328) := fun xs => by rw [addB_len]; exact Nat.le_trans hlz.out (by decide)
  unfold SG.v at *
  clear hrow b1 h1 h2 hle HS0 hzs hlz hg hK
  go_enter Tryz.func85, Tryz.ntmps85
  go_wp2_with fail
  refine HNW.out.mono ?_
  rintro e x1 ⟨v0, rfl, hv0, hx1⟩
  have HV0 := Lib.hid hv0
  have H1 : Hid (Below W.heap.size W x1) := hx1
  clear hv0 hx1 c3 HNW
  go_wp2_with fail
  go_loopw [5, 15] (fun sv iv wr => ∃ k : Nat, k ≤ len ∧ iv = .int .i64 (k : Int) ∧ Hid (Sl .u8 wr sv (addB zs (cAts (l.take k)))) ∧ Hid (Below W.heap.size W wr)) (fun _ iv _ => len - (intOf iv).toNat)
  case atStart => exact ⟨0, Nat.zero_le _, rfl, HV0, H1⟩
  case round =>
    obtain ⟨k, hk, rfl, HSV, HBw⟩ := hrel
    by_cases hlt : k < len
    · have q1 : (k : Int) < (len : Int) := by omega
      have HLT := Lib.hid hlt
      obtain ⟨s, hs⟩ : ∃ s, l[k]? = some s := ⟨_, List.getElem?_eq_getElem (by rw [HL.out]; exact hlt)⟩
      have HTK : Hid (cAts (l.take (k + 1)) = cAts (l.take k) ++ s.tb.map (·.2)) := by show _ = _; rw [take_at hs, cAts_snoc]
      have htl0 := (HKL.out.2 s (List.mem_of_getElem? hs)).2
      obtain ⟨bb, off, ⟨i0, ⟨x1, n1, c1⟩, ⟨x2, n2, c2⟩⟩, rfl, hbb, hrk, hsn, d0, d1, d2⟩ := (KS.out _ HBw.out).at hs
      obtain rfl : n2 = s.tb.length := by obtain ⟨a, ca, e, -⟩ := hsn.tb; simp only [slV, Value.slice.injEq] at e; omega
      obtain ⟨tl, htl⟩ : ∃ tl, s.tb.length = tl := ⟨_, rfl⟩
      rw [htl] at d0 d1 d2 htl0 hsn
      have LD := load_sn d0 d1 d2
      have ST := new_sn wr (i0, (x1, n1, c1), (x2, tl, c2))
      obtain ⟨W2, hW2⟩ : ∃ W2, wr.alloc (.cells (svL (i0, (x1, n1, c1), (x2, tl, c2))).toArray 51) = W2 := ⟨_, rfl⟩
      have bW2 : Below wr.heap.size wr W2 := by rw [← hW2]; exact below_new wr _
      have e2 : W2.cell? ⟨wr.heap.size, 2, none⟩ = some (.slice x2 tl c2) := by rw [← hW2]; exact (RowC.new wr 51 (svL (i0, (x1, n1, c1), (x2, tl, c2)))).cell 2 _ rfl
      have HB2 : Hid (Below W.heap.size W W2) := HBw.out.trans (bW2.mono HBw.out.size)
      have HPT : Hid (Prt W2 (.slice x2 tl c2) s.tb) := hsn.tb.below bW2
      have HSV2 : Hid (Sl .u8 W2 u5 (addB zs (cAts (l.take k)))) := HSV.out.below bW2
      have HIS := Lib.hid HPT.out.is
      have HTL := Lib.hid htl
      rw [hW2] at ST
      obtain ⟨N, hN⟩ : ∃ N, wr.heap.size = N := ⟨_, rfl⟩
      rw [hN] at ST e2
      simp only [svV, slV] at LD ST
      clear hs hbb hrk hsn d0 d1 d2 bW2 hW2 hlt htl HSV
      go_wp2_with fail
      go_loopw [5, 22] (fun sv jv wq => ∃ j : Nat, j ≤ tl ∧ jv = .int .i64 (j : Int) ∧ Hid (Sl .u8 wq sv (addB zs (cAts (l.take k) ++ (s.tb.take j).map (·.2)))) ∧ Hid (Below W2.heap.size W2 wq)) (fun _ jv _ => tl - (intOf jv).toNat)
      case atStart => exact ⟨0, Nat.zero_le _, rfl, by simpa using HSV2, Below.refl _ _⟩
      case round =>
        clear LD ST e2
        obtain ⟨j, hj, rfl, HSW, HBq⟩ := hrel
        by_cases hlt : j < tl
        · have q2 : (j : Int) < (tl : Int) := by omega
          have HLT2 := Lib.hid hlt
          obtain ⟨p, hs⟩ : ∃ p, s.tb[j]? = some p := ⟨_, List.getElem?_eq_getElem (by rw [HTL.out]; exact hlt)⟩
          have HX0 := Lib.hid (HIS.out _ (List.mem_of_getElem? hs))
          have HTJ : Hid (cAts (l.take k) ++ (s.tb.take (j + 1)).map (·.2) = (cAts (l.take k) ++ (s.tb.take j).map (·.2)) ++ [p.2]) := by
            show _ = _
            rw [take_at hs, List.map_append, List.append_assoc]
            rfl
          obtain ⟨bb, off, rfl, hbb, d1, d2⟩ := (HPT.out.below HBq.out).at hs
          obtain ⟨x0, y0⟩ := p
          simp only at d1 d2
          have LD := load_prs d1 d2
          have ST := new_prs wr x0 y0
          obtain ⟨W4, hW4⟩ : ∃ W2, wr.alloc (.cells #[.int .i64 x0, .int .i64 y0] 54) = W2 := ⟨_, rfl⟩
          rw [hW4] at ST
          have bW4 : Below wr.heap.size wr W4 := by rw [← hW4]; exact below_new wr _
          have e1 : W4.cell? ⟨wr.heap.size, 1, none⟩ = some (.int .i64 y0) := by rw [← hW4]; exact (RowC.new wr 54 [.int .i64 x0, .int .i64 y0]).cell 1 _ rfl
          have HB4 : Hid (Below W2.heap.size W2 W4) := HBq.out.trans (bW4.mono HBq.out.size)
          have HWT := Lib.hid (bi_with u5 _ y0 (wf_i64 HX0.out.2.1 HX0.out.2.2) W4 (HSW.out.below bW4) (addB_bytes _ _ HZB.out) (HLen.out _))
          rw [← addB_snoc] at HWT
          obtain ⟨M, hM⟩ : ∃ N, wr.heap.size = N := ⟨_, rfl⟩
          rw [hM] at ST e1
          clear hs hbb d1 d2 bW4 hW4 hlt HSW
          go_wp2_with fail
          refine HWT.out.mono ?_
          rintro e x3 ⟨v3, rfl, hv3, hx3⟩
          have HS3 : Hid (Sl .u8 x3 v3 (addB zs (cAts (l.take k) ++ (s.tb.take (j + 1)).map (·.2)))) := by show Sl _ _ _ _; rw [HTJ.out]; exact hv3
          have HB5 : Hid (Below W2.heap.size W2 x3) := HB4.out.trans (hx3.mono HB4.out.size)
          clear hv3 hx3 HWT
          go_wp2_with fail
          exact ⟨⟨j + 1, HLT2.out, by simp, HS3, HB5⟩, by have := HLT2.out; simp [intOf]; omega⟩
        · obtain rfl : j = tl := by omega
          have HS3 : Hid (Sl .u8 wr u5 (addB zs (cAts (l.take (k + 1))))) := by
            have := HSW.out
            rw [List.take_of_length_le (l := s.tb) (by rw [HTL.out]; exact Nat.le_refl _), ← HTK.out] at this
            exact this
          have HB5 : Hid (Below W.heap.size W wr) := HB2.out.trans (HBq.out.mono HB2.out.size)
          clear hlt
          go_wp2_with fail
          exact ⟨⟨k + 1, HLT.out, by simp, HS3, HB5⟩, by have := HLT.out; simp [intOf]; omega⟩
    · obtain rfl : k = len := by omega
      have HS3 : Hid (Sl .u8 wr u5 (heldS g l)) := by
        have := HSV.out
        rw [List.take_of_length_le (by rw [HL.out]; exact Nat.le_refl _), ← HHD.out] at this
        exact this
      clear hlt
      go_wp2_with fail
      go_ret
      exact ⟨_, rfl, HS3.out, by rw [HSZ.out]; exact HB.out.trans (HBw.out.mono HWB.out)⟩

set_option maxRecDepth 100000 in
set_option maxHeartbeats 4000000 in
/-- **allApart**. -/
theorem sg_allApart {w : World} {v u : Value} {ps : List (Int × Int)} {bs : List Int} (g : SG) (hg : g.Ok) (r0 : Int) (h : Prt w v ps) (hp : ps.length ≤ 1000) (hu : Sl .u8 w u bs) (hb : IsBytes bs) (hbl : bs.length ≤ 1000) :
    Calls Tryz.prog 87 #[.agg (g.v r0), v, u] w fun e w' => e = .returned (.bool (gApart g bs ps)) ∧ Below w.heap.size w w' := by
  have HPT := Lib.hid h
  have HU := Lib.hid hu
  have HBB := Lib.hid hb
  have HBL := Lib.hid hbl
  have ha := hg.a200
  obtain ⟨a, cap, rfl, h1, h2, -⟩ := h
  obtain ⟨len, hle⟩ : ∃ len, ps.length = len := ⟨_, rfl⟩
  rw [hle] at HPT h1 hp ⊢
  have HL := Lib.hid hle
  have HIS := Lib.hid HPT.out.is
  obtain ⟨B, hB⟩ : ∃ B, w.heap.size = B := ⟨_, rfl⟩
  obtain ⟨W, hW⟩ : ∃ W, w.alloc (.cells (g.v r0) 23) = W := ⟨_, rfl⟩
  have hrow : RowC W B 23 [.int .i64 (g.b : Int), .int .i64 (g.s : Int), .int .i64 (g.y : Int), .int .i64 (g.a : Int), .int .i64 r0] := by rw [← hW, ← hB]; exact RowC.new _ _ _
  have b1 : Below B w W := by rw [← hW, ← hB]; exact below_new _ _
  have HB := Lib.hid b1
  have HSZ := Lib.hid hB
  have HWB : Hid (B ≤ W.heap.size) := by show B ≤ W.heap.size; have := b1.size; omega
  have KP : Hid (∀ x : World, Below W.heap.size W x → Prt x (.slice a len cap) ps) := fun x hx => HPT.out.below (by rw [hB]; exact b1.trans (hx.mono HWB.out))
  have KC : Hid (∀ x : World, Below W.heap.size W x → x.cell? ⟨B, 3, none⟩ = some (.int .i64 (g.a : Int))) := fun x hx => (hrow.below hx).cell 3 _ rfl
  have HU0 : Hid (Sl .u8 W u bs) := HU.out.below (by rw [hB]; exact b1)
  have HLen : Hid (∀ k, (apSeen bs ps k).length ≤ 140737488355328) := fun k => by rw [apS_len]; exact Nat.le_trans HBL.out (by decide)
  unfold SG.v at *
  clear h1 h2 hle hu hb hbl hrow b1 HPT HU hg
  go_enter Tryz.func87, Tryz.ntmps87
  go_wp2_with fail
  go_loopw [7, 13] (fun sv iv wr => ∃ k : Nat, k ≤ len ∧ iv = .int .i64 (k : Int) ∧ Hid (Sl .u8 wr sv (apSeen bs ps k)) ∧ Hid (∀ i, i < k → apB g bs ps i = true) ∧ Hid (Below W.heap.size W wr)) (fun _ iv _ => len - (intOf iv).toNat)
  case atStart => exact ⟨0, Nat.zero_le _, rfl, by rw [apS_zero]; exact HU0, (fun t ht => absurd ht (Nat.not_lt_zero _)), Below.refl _ _⟩
  case round =>
    obtain ⟨k, hk, rfl, HSV, HP, HBw⟩ := hrel
    by_cases hlt : k < len
    · have q1 : (k : Int) < (len : Int) := by omega
      have HLT := Lib.hid hlt
      obtain ⟨p, hs⟩ : ∃ s, ps[k]? = some s := ⟨_, List.getElem?_eq_getElem (by rw [HL.out]; exact hlt)⟩
      have HX0 := Lib.hid (HIS.out _ (List.mem_of_getElem? hs))
      obtain ⟨bb, off, rfl, hbb, d1, d2⟩ := (KP.out _ HBw.out).at hs
      obtain ⟨x0, y0⟩ := p
      have HAP := Lib.hid (apB_is (g := g) (set := bs) hs)
      have HSK : Hid (y0 = 255 → apSeen bs ps (k + 1) = apSeen bs ps k) := fun e => apS_skip bs hs e
      have HPU : Hid (y0 ≠ 255 → apSeen bs ps (k + 1) = withB (apSeen bs ps k) y0) := fun e => apS_put bs hs e
      simp only at d1 d2
      have LD := load_prs d1 d2
      have ST := new_prs wr x0 y0
      obtain ⟨W2, hW2⟩ : ∃ W2, wr.alloc (.cells #[.int .i64 x0, .int .i64 y0] 54) = W2 := ⟨_, rfl⟩
      rw [hW2] at ST
      have bW2 : Below wr.heap.size wr W2 := by rw [← hW2]; exact below_new wr _
      have hNr : RowC W2 wr.heap.size 54 [.int .i64 x0, .int .i64 y0] := by rw [← hW2]; exact RowC.new wr _ _
      have HB2 : Hid (Below W.heap.size W W2) := HBw.out.trans (bW2.mono HBw.out.size)
      have HSV2 : Hid (Sl .u8 W2 u7 (apSeen bs ps k)) := HSV.out.below bW2
      obtain ⟨N, hN⟩ : ∃ N, wr.heap.size = N := ⟨_, rfl⟩
      rw [hN] at ST hNr
      have HNR := Lib.hid hNr
      have e1 := hNr.cell 1 _ rfl
      have e3 := KC.out W2 HB2.out
      clear hs hbb d1 d2 bW2 hW2 hlt HSV hNr
      simp only at HAP
      by_cases h5 : y0 = 255
      · have g5 : (y0 == 255) = true := by simpa using h5
        have HQ : Hid (∀ i, i < k + 1 → apB g bs ps i = true) := fun i hi => by
          by_cases e : i = k
          · subst e; rw [HAP.out, g5]; rfl
          · exact HP.out i (by omega)
        have HS3 : Hid (Sl .u8 W2 u7 (apSeen bs ps (k + 1))) := by show Sl _ _ _ _; rw [HSK.out h5]; exact HSV2.out
        clear h5
        go_wp2_with fail
        exact ⟨⟨k + 1, HLT.out, by simp, HS3, HQ, HB2⟩, by have := HLT.out; simp [intOf]; omega⟩
      · have g5 : (y0 == 255) = false := by simpa using h5
        have H5 := Lib.hid h5
        obtain ⟨tv, htv⟩ : ∃ tv, decide (0 ≤ y0 ∧ y0 ≤ (g.a : Int) - 1) = tv := ⟨_, rfl⟩
        obtain ⟨hv, hhv⟩ : ∃ hv, hasB (apSeen bs ps k) y0 = hv := ⟨_, rfl⟩
        have HWI := Lib.hid (sg_within y0 0 ((g.a : Int) - 1) W2)
        have HHS : Hid (Calls Tryz.prog 75 #[u7, .int .i64 y0] W2 fun e w' => e = .returned (.bool hv) ∧ Below W2.heap.size W2 w') := by
          have := bi_has u7 (apSeen bs ps k) y0 (wf_i64 HX0.out.2.1 HX0.out.2.2) W2 HSV2.out (apS_bytes HBB.out ps k)
          rw [hhv] at this
          exact this
        rw [g5, htv, hhv] at HAP
        rw [htv] at HWI
        clear htv hhv h5
        cases tv with
        | false =>
          have HE : Hid (gApart g bs ps = false) := apart_no (by rw [HL.out]; exact HLT.out) HAP.out
          go_wp2_with fail
          refine HWI.out.mono ?_
          rintro e y ⟨rfl, rfl⟩
          go_wp2_with fail
          go_ret
          rw [HE.out]
          exact ⟨rfl, by rw [HSZ.out]; exact HB.out.trans (HB2.out.mono HWB.out)⟩
        | true =>
          cases hv with
          | true =>
            have HE : Hid (gApart g bs ps = false) := apart_no (by rw [HL.out]; exact HLT.out) HAP.out
            go_wp2_with fail
            refine HWI.out.mono ?_
            rintro e y ⟨rfl, rfl⟩
            go_wp2_with fail
            refine HHS.out.mono ?_
            rintro e y2 ⟨rfl, hy2⟩
            have HB3 : Hid (Below W.heap.size W y2) := HB2.out.trans (hy2.mono HB2.out.size)
            clear hy2
            go_wp2_with fail
            go_ret
            rw [HE.out]
            exact ⟨rfl, by rw [HSZ.out]; exact HB.out.trans (HB3.out.mono HWB.out)⟩
          | false =>
            have HQ : Hid (∀ i, i < k + 1 → apB g bs ps i = true) := fun i hi => by
              by_cases e : i = k
              · subst e; rw [HAP.out]; rfl
              · exact HP.out i (by omega)
            go_wp2_with fail
            refine HWI.out.mono ?_
            rintro e y ⟨rfl, rfl⟩
            go_wp2_with fail
            refine HHS.out.mono ?_
            rintro e y2 ⟨rfl, hy2⟩
            have HB3 : Hid (Below W.heap.size W y2) := HB2.out.trans (hy2.mono HB2.out.size)
            have f1 := (HNR.out.below hy2).cell 1 _ rfl
            have HWT := Lib.hid (bi_with u7 (apSeen bs ps k) y0 (wf_i64 HX0.out.2.1 HX0.out.2.2) y2 (HSV2.out.below hy2) (apS_bytes HBB.out ps k) (HLen.out _))
            rw [← HPU.out H5.out] at HWT
            clear hy2 e1 e3 HHS HWI
            go_wp2_with fail
            refine HWT.out.mono ?_
            rintro e x3 ⟨v3, rfl, hv3, hx3⟩
            have HS3 : Hid (Sl .u8 x3 v3 (apSeen bs ps (k + 1))) := hv3
            have HB5 : Hid (Below W.heap.size W x3) := HB3.out.trans (hx3.mono HB3.out.size)
            clear hv3 hx3 HWT
            go_wp2_with fail
            exact ⟨⟨k + 1, HLT.out, by simp, HS3, HQ, HB5⟩, by have := HLT.out; simp [intOf]; omega⟩
    · obtain rfl : k = len := by omega
      have HE : Hid (gApart g bs ps = true) := apart_yes fun i hi => HP.out i (by rw [HL.out] at hi; exact hi)
      clear hlt
      go_wp2_with fail
      go_ret
      rw [HE.out]
      exact ⟨rfl, by rw [HSZ.out]; exact HB.out.trans (HBw.out.mono HWB.out)⟩
end Go.Proofs.YtfihpljgbghogaaGreat

/- The developers' Index. -/
namespace Go.Proofs.YtfihpljgbghogaaGreat
open Go.RowKit Go.Shelf
set_option linter.unusedVariables false
attribute [-simp] Tryz.isAgg51 Tryz.zeroValue51
attribute [-go_sem] loadVar storeVar
attribute [local go_sem] loadVar_openS storeVar_openS zero_sn
attribute [local go_sem] Oper.semAt_some

set_option maxRecDepth 100000 in
set_option maxHeartbeats 4000000 in
theorem ch_index {w : World} {v : Value} {l : List SN} (h : Snp w v l) (id : Int) :
    Calls Tryz.prog 82 #[v, .int .i64 id] w fun e w' => e = .returned (.int .i64 (cIndex l id)) ∧ Below w.heap.size w w' := by
  obtain ⟨r, h⟩ := h
  have HS := Lib.hid h
  obtain ⟨a, cap, rfl, h1, h2, -⟩ := h
  obtain ⟨len, hle⟩ : ∃ len, l.length = len := ⟨_, rfl⟩
  have HL := Lib.hid hle
  obtain ⟨B, hB⟩ : ∃ B, w.heap.size = B := ⟨_, rfl⟩
  have HSZ := Lib.hid hB
  rw [hle] at HS h1 ⊢
  refine (callsIn_wide (n := 3)).1 ?_
  refine callsIn_of_wp_marks Tryz.func82 rfl trivial ?_ rfl
  simp only [Tryz.ntmps82, List.size_toArray, List.length_cons, List.length_nil, Nat.reduceAdd, Nat.reduceSub, Array.replicate_succ, Array.replicate_zero, List.push_toArray, List.append_toArray, List.nil_append, List.cons_append]
  obtain ⟨X, hX⟩ : ∃ X, (w.alloc (.cells #[.int .i64 id] 3)).alloc (.cells #[.int .i64 0] 3) = X := ⟨_, rfl⟩
  have hXs : X.heap.size = B + 2 := by rw [← hX, ← hB]; simp
  have hXb : Below B w X := by rw [← hX, ← hB]; exact ((Below.refl _ w).alloc (Nat.le_refl _) _).alloc (by simp) _
  have k1 : RowC X B 3 [.int .i64 id] := by rw [← hX, ← hB]; exact (RowC.new w _ _).below (below_new _ _)
  have k2 : RowC X (B + 1) 3 [.int .i64 0] := by
    rw [← hX, ← hB]
    have := RowC.new (w.alloc (.cells #[.int .i64 id] 3)) 3 [.int .i64 0]
    rwa [World.size_alloc] at this
  have SX := SpX.new 0 (len : Int) (.slice a len cap) hXb (by omega)
  rw [hXs] at SX
  obtain ⟨W0, hW0⟩ : ∃ W0, ((X.alloc (.cells #[.slice a len cap] 25)).alloc (.cells #[.int .i64 0] 3)).alloc (.cells #[.int .i64 (len : Int)] 3) = W0 := ⟨_, rfl⟩
  have hWs : W0.heap.size = B + 5 := by rw [← hW0]; simp [hXs]
  have bX : Below X.heap.size X W0 := by rw [← hW0]; exact (((Below.refl _ X).alloc (Nat.le_refl _) _).alloc (by simp) _).alloc (by simp; omega) _
  rw [hW0] at SX
  have k3 := k1.below bX
  have k4 := k2.below bX
  clear k1 k2 bX hXb h1 h2
  gi_wp2_with (refine ⟨trivial, ?_⟩; gi_at_call 77; refine (span_in _ _ trivial rfl _ _ _ _ _ _).mono ?_; rintro e w' ⟨rfl, rfl⟩)
  try rw [hX]
  try rw [hW0]
  try rw [hXs]
  clear hX hW0
  have HW := Lib.hid hWs
  have hm : hiOf l (len : Int) - loOf 0 = len := by rw [← hle, hiOf_all, loOf_zero]; rfl
  have hseq := span1_seq 2 (by omega) (B + 2 + 1) (B + 2 + 2) (B + 2) 0 (len : Int) (.slice a len cap) r l W0
  rw [hm, loOf_zero] at hseq
  refine wpIn_rangeFunc_num (n := 3) rfl (by omega) (gf := 107) (lb := #[.pointer (some ⟨B + 2 + 1, 0, none⟩), .pointer (some ⟨B + 2 + 2, 0, none⟩), .pointer (some ⟨B + 2, 0, none⟩)]) rfl trivial (enters_of Tryz.func107 (by kernel_rfl) rfl)
    hseq (Below.refl _ _) (fun _ => rfl)
    (fun k W => RowC W B 3 [.int .i64 id] ∧ RowC W (B + 1) 3 [.int .i64 0] ∧ SpX B (B + 2) 0 (len : Int) (.slice a len cap) w W ∧ cIndex l id = firstId (l.drop k) id k)
    (fun c k W => c = .ret ∧ RowC W (B + 1) 3 [.int .i64 (cIndex l id)] ∧ Below B w W)
    ?hR ?hI ?hIx ⟨k3, k4, SX, rfl⟩
    (fun k a' W => ∃ C q, B + 4 < C ∧ r[k]? = some q ∧ RowC W C 51 (svL q) ∧ a' = { tmps := #[.slice a len cap, .int .i64 id, undef, .pointer (some ⟨B, 0, none⟩), .pointer (some ⟨B + 1, 0, none⟩), .int .i64 (k : Int), .pointer (some ⟨C, 0, none⟩), .slice a len cap, .slice a len cap, .int .i64 (len : Int), .func (.func 107) #[] #[.pointer (some ⟨B + 2 + 1, 0, none⟩), .pointer (some ⟨B + 2 + 2, 0, none⟩), .pointer (some ⟨B + 2, 0, none⟩)], .int .i64 (k : Int), svV q, undef, undef, undef, undef, undef], defers := [] })
    ?hAx ?assign ?body ?done ?stop
  case hR =>
    intro k W ⟨_, _, h3, _⟩
    exact h3.spb HSZ.out HS.out
  case hI =>
    intro s Y Z row ⟨g1, g2, g3, g4⟩ hg hr
    exact ⟨rowC_own g1 hg hr, rowC_own g2 hg hr, g3.own (by omega) hg (by omega) hr, g4⟩
  case hIx =>
    intro c s Y Z row ⟨g1, g2, g3⟩ hg hr
    exact ⟨g1, rowC_own g2 hg hr, below_own g3 (by omega) hg (fun r e => ⟨by have := (hr r e).1; omega, (hr r e).2⟩)⟩
  case hAx =>
    rintro k a' _ Y Z row ⟨C, q, f1, f2, f3, f4⟩ hg hr
    exact ⟨C, q, f1, f2, rowC_own f3 hg hr, f4⟩
  case assign =>
    rintro lp k W K hkm ⟨g1, g2, g3, g4⟩ hK
    obtain ⟨q, s, hq, hs, -⟩ := snR_at HS.out (k := k) (by rw [HL.out]; exact hkm)
    have ST := new_sn W q
    have HZ : Hid (B + 4 < W.heap.size) := g3.bj.lt
    have hK := hK _ _ (keepsFrom_below (below_new W (.cells (svL q).toArray 51))) ⟨g1.below (below_new W _), g2.below (below_new W _), g3.alloc (by have := HZ.out; omega) _, g4⟩ ⟨W.heap.size, q, HZ.out, hq, RowC.new W _ _, rfl⟩
    rw [encS_at 0 (by rw [Nat.zero_add]; exact hq), Nat.zero_add]
    clear g1 g2 g3 g4 hq hs
    gi_wp2
    exact hK
  case body =>
    rintro lp k a' W _ _ hkm ⟨g1, g2, g3, g4⟩ ⟨C, q, hC, hq, hx, rfl⟩
    obtain ⟨q', s, hq', hs, hqs⟩ := snR_at HS.out (k := k) (by rw [HL.out]; exact hkm)
    obtain rfl : q' = q := by rw [hq] at hq'; cases hq'; rfl
    have e1 := firstId_at (id := id) hs
    have d1 := hx.cell 0 _ rfl
    have d2 := g1.cell 0 _ rfl
    have f2 := g2.frozen 0
    have d3 := g2.cell 0 _ rfl
    have hid := hqs.id
    have G2 := Lib.hid g2
    have HKF : Hid (∀ u, KeepsFrom W0.heap.size W (W.setCell ⟨B + 1, 0, none⟩ u)) := fun u => keepsFrom_cells g2 (grownBy_setCellJ W (B + 1) 0 u)
    have G1 := Lib.hid g1
    have G3 := Lib.hid g3
    by_cases hc : s.id = id
    · rw [if_pos hc] at e1
      have q1 : (q'.1 == id) = true := by rw [hid]; simpa using hc
      have E1 : Hid (cIndex l id = (k : Int)) := g4.trans e1
      clear hc hid hqs hs hq hq' e1 g1 g2 g3 g4 hx
      gi_wp2
      refine ⟨HKF.out _, rfl, ?_, set_below G3.out.be (by omega) _ _⟩
      rw [E1.out]
      exact G2.out.set 0 _
    · rw [if_neg hc] at e1
      have q1 : (q'.1 == id) = false := by rw [hid]; simpa using hc
      have E1 := Lib.hid (g4.trans e1)
      clear hc hid hqs hs hq hq' e1 g1 g2 g3 g4 hx
      gi_wp2
      exact ⟨KeepsFrom.refl _ _, G1.out, G2.out, G3.out, E1.out⟩
  case done =>
    rintro D W hD ⟨g1, g2, g3, g4⟩ hK
    have E1 : Hid (cIndex l id = -1) := g4.trans (firstId_end (by rw [HL.out]; exact Nat.le_refl _))
    have d3 := g2.cell 0 _ rfl
    have f2 := g2.frozen 0
    have G2 := Lib.hid g2
    have G3 := Lib.hid g3
    have HK := Lib.hid hK
    have HKF : Hid (KeepsFrom 0 W (W.setCell ⟨B + 1, 0, none⟩ (.int .i64 (-1)))) := keepsFrom_cells g2 (grownBy_setCellJ W (B + 1) 0 _)
    clear g1 g2 g3 g4 hK
    gi_wp2
    have hK2 := HKF.out.same D _ (Nat.zero_le _) HK.out rfl
    refine ⟨by simp, .inl ⟨_, _, rfl, run_takeDeferred hK2, ?_⟩⟩
    have hg2 := grownBy_putObj' (W.setCell ⟨B + 1, 0, none⟩ (.int .i64 (-1))) D (.deferred none)
    have hy2 : RowC _ (B + 1) 3 [.int .i64 (-1)] := rowC_own (N := 0) (G2.out.set 0 (.int .i64 (-1))) hg2 (fun r e => by cases e; exact ⟨Nat.zero_le _, _, hK2, rfl⟩)
    refine ⟨_, results_cell rfl rfl (load_int1 hy2), by rw [E1.out], ?_⟩
    rw [HSZ.out]
    exact (set_below G3.out.be (by omega) 0 _).trans (belowK_b (w := w) (by omega) _ D _ _ (by have := HW.out; have := HSZ.out; omega) hK2 rfl rfl)
  case stop =>
    rintro D c k W hD _ ⟨rfl, g2, g3⟩ hK
    have G2 := Lib.hid g2
    have G3 := Lib.hid g3
    have HK := Lib.hid hK
    clear g2 g3 hK
    gi_wp2
    refine ⟨by simp, .inl ⟨_, _, rfl, run_takeDeferred HK.out, ?_⟩⟩
    have hg2 := grownBy_putObj' W D (.deferred none)
    have hy2 := rowC_own (N := 0) G2.out hg2 (fun r e => by cases e; exact ⟨Nat.zero_le _, _, HK.out, rfl⟩)
    refine ⟨_, results_cell rfl rfl (load_int1 hy2), rfl, ?_⟩
    rw [HSZ.out]
    exact G3.out.trans (belowK_b (w := w) (by omega) W D _ _ (by have := HW.out; have := HSZ.out; omega) HK.out rfl rfl)
end Go.Proofs.YtfihpljgbghogaaGreat

/- The document's Slot and Area; what the developers' geometry promises. -/
namespace Go.Proofs.YtfihpljgbghogaaGreat
open Go.RowKit Go.Shelf
set_option linter.unusedVariables false
attribute [-simp] Tryz.isAgg67 Tryz.zeroValue67
attribute [-go_sem] loadVar storeVar
attribute [local go_sem] loadVar_openG storeVar_openG zero_szs build_szs0

section
set_option maxRecDepth 100000
set_option maxHeartbeats 4000000
end
/-- All numbers of a geometry are numbers. -/
def Geo.In (g : Geo) : Prop := ∀ n ∈ [g.b, g.s, g.y, g.a, g.r], -9223372036854775808 ≤ n ∧ n ≤ 9223372036854775807
end Go.Proofs.YtfihpljgbghogaaGreat

/- The developers' geometry: within, the slots, the bytes, Good, Bytes, Pages. -/
namespace Go.Proofs.YtfihpljgbghogaaGreat
open Go.RowKit Go.Shelf
set_option linter.unusedVariables false
attribute [-go_sem] loadVar storeVar
attribute [local go_sem] loadVar_openG storeVar_openG

section
set_option maxRecDepth 100000
set_option maxHeartbeats 4000000
set_option maxRecDepth 100000 in
theorem gmWithin (n lo hi : Int) (w : World) : Calls Tryz.prog 61 #[.int .i64 n, .int .i64 lo, .int .i64 hi] w fun e w' => e = .returned (.bool (decide (lo ≤ n ∧ n ≤ hi))) ∧ w' = w := by
  obtain ⟨z, hz⟩ : ∃ z, decide (lo ≤ n ∧ n ≤ hi) = z := ⟨_, rfl⟩
  by_cases h1 : lo ≤ n
  · have g1 : decide (lo ≤ n) = true := by simpa using h1
    have g1' : decide (n ≥ lo) = true := g1
    have g2 : decide (n ≤ hi) = z := by rw [← hz]; simp [h1]
    rw [hz]
    clear hz
    go_enter Tryz.func61, Tryz.ntmps61
    go_wp2_with fail
    go_ret
    first | exact ⟨rfl, rfl⟩ | exact ⟨by rw [← g2], rfl⟩ | exact ⟨by rw [g2], rfl⟩
  · have g1 : decide (lo ≤ n) = false := by simpa using h1
    have g1' : decide (n ≥ lo) = false := g1
    have hzz : z = false := by rw [← hz]; simp [h1]
    rw [hz, hzz]
    clear hz hzz
    go_enter Tryz.func61, Tryz.ntmps61
    go_wp2_with fail
    go_ret
    exact ⟨rfl, rfl⟩
set_option maxRecDepth 100000 in
theorem gmSlots (g : Geo) (hs : g.shape) (w : World) : Calls Tryz.prog 96 #[.agg g.v] w fun e w' => e = .returned (.int .i64 g.slots) ∧ Below w.heap.size w w' := by
  obtain ⟨b1, b2, b3, b4, b5, b6⟩ := Geo.bounds hs
  have HBT : Hid (g.slots = g.s * g.y) := rfl
  obtain ⟨W, hW⟩ : ∃ W, w.alloc (.cells g.v 23) = W := ⟨_, rfl⟩
  have r : RowC W w.heap.size 23 g.cs := by rw [← hW]; exact RowC.new w _ _
  have HB : Hid (Below w.heap.size w W) := by show Below _ _ _; rw [← hW]; exact below_new w _
  have c1 := r.cell 1 _ rfl
  have c2 := r.cell 2 _ rfl
  obtain ⟨h1, h2, h3, h4, h5, h6, h7, h8⟩ := hs
  have m1 : 1 ≤ g.s * g.y := b1
  have m2 : g.s * g.y ≤ 32 := b2
  obtain ⟨s, hs⟩ : ∃ n, g.s = n := ⟨_, rfl⟩
  obtain ⟨y, hy⟩ : ∃ n, g.y = n := ⟨_, rfl⟩
  obtain ⟨m, hm⟩ : ∃ n, s * y = n := ⟨_, rfl⟩
  rw [hs, hy] at m1 m2 HBT
  rw [hs] at c1 h3 h4
  rw [hy] at c2 h5 h6
  rw [hm] at m1 m2 HBT
  clear r b1 b2 b3 b4 b5 b6 h7 h8 h1 h2 hs hy
  go_enter Tryz.func96, Tryz.ntmps96
  go_wp2_with fail
  go_ret
  rw [HBT.out]
  exact ⟨rfl, HB.out⟩
set_option maxRecDepth 100000 in
theorem gmState (g : Geo) (hs : g.shape) (w : World) : Calls Tryz.prog 52 #[.agg g.v] w fun e w' => e = .returned (.int .i64 g.bts) ∧ Below w.heap.size w w' := by
  have SC := fun x => gmSlots g hs x
  obtain ⟨b1, b2, b3, b4, b5, b6⟩ := Geo.bounds hs
  have HBT : Hid (g.bts = 10 + g.slots + g.b + 8 * (4 + (g.b + 7) / 8 + g.b)) := rfl
  obtain ⟨W, hW⟩ : ∃ W, w.alloc (.cells g.v 23) = W := ⟨_, rfl⟩
  have r : RowC W w.heap.size 23 g.cs := by rw [← hW]; exact RowC.new w _ _
  have HB : Hid (Below w.heap.size w W) := by show Below _ _ _; rw [← hW]; exact below_new w _
  obtain ⟨B, hB⟩ : ∃ b, w.heap.size = b := ⟨_, rfl⟩
  rw [hB] at r
  have LG : ∀ x : Ext W, (loadVar 23 ⟨B, 0, none⟩).run Tryz.prog x.1 = .ok (.agg g.v) x.1 := fun x => load_geo (r.below x.2)
  obtain ⟨h1, h2, h3, h4, h5, h6, h7, h8⟩ := hs
  obtain ⟨b, hb⟩ : ∃ n, g.b = n := ⟨_, rfl⟩
  obtain ⟨m, hm⟩ : ∃ n, g.slots = n := ⟨_, rfl⟩
  obtain ⟨k, hk⟩ : ∃ n, (b + 7).tdiv 8 = n := ⟨_, rfl⟩
  have c0 : ∀ x : Ext W, x.1.cell? ⟨B, 0, none⟩ = some (.int .i64 b) := fun x => by rw [← hb]; exact (r.below x.2).cell 0 _ rfl
  have d0 : W.cell? ⟨B, 0, none⟩ = some (.int .i64 b) := by rw [← hb]; exact r.cell 0 _ rfl
  rw [hb] at h1 h2
  rw [hb, hm] at HBT
  rw [hm] at b1 b2
  have C1 : Hid (∀ x : Ext W, Calls Tryz.prog 96 #[.agg g.v] x.1 fun e w'' => e = .returned (.int .i64 m) ∧ ∃ y : Ext W, w'' = y.1) := fun x => calls_ext x (by rw [← hm]; exact SC x.1)
  have hk2 : (b + 7) / 8 = k := by rw [← hk, Int.tdiv_eq_ediv_of_nonneg (by omega)]
  have hk3 : 1 ≤ k ∧ k ≤ 8 := by omega
  have HK2 := Lib.hid hk2
  obtain ⟨k1, k2⟩ := hk3
  clear r b3 b4 b5 b6 h3 h4 h5 h6 h7 h8 hb hm hk2 SC
  go_enter Tryz.func52, Tryz.ntmps52
  go_wp2_with fail
  refine region_ext (by kernel_rfl) (by kernel_rfl) ?_
  repeat (go_big_quiet_step (with_reducible (first | exact C1.out _)))
  refine wpQuiet_nil ?_
  intro x
  have HX : Hid (Below w.heap.size w x.1) := HB.out.trans (x.2.mono HB.out.size)
  clear LG c0 d0
  go_wp2_with fail
  go_ret
  refine ⟨?_, HX.out⟩
  rw [HBT.out, HK2.out]
  first
    | rfl
    | exact congrArg (fun x => Ending.returned (Value.int .i64 x)) (by omega)
set_option maxRecDepth 100000 in
theorem gmGood (g : Geo) (hi : g.In) (w : World) : Calls Tryz.prog 30 #[.agg g.v] w fun e w' => e = .returned (.bool (decide g.good)) ∧ Below w.heap.size w w' := by
  obtain ⟨W, hW⟩ : ∃ W, w.alloc (.cells g.v 23) = W := ⟨_, rfl⟩
  have r : RowC W w.heap.size 23 g.cs := by rw [← hW]; exact RowC.new w _ _
  have HB : Hid (Below w.heap.size w W) := by show Below _ _ _; rw [← hW]; exact below_new w _
  obtain ⟨B, hB⟩ : ∃ b, w.heap.size = b := ⟨_, rfl⟩
  rw [hB] at r
  have LG : ∀ x : Ext W, (loadVar 23 ⟨B, 0, none⟩).run Tryz.prog x.1 = .ok (.agg g.v) x.1 := fun x => load_geo (r.below x.2)
  have c0 : ∀ x : Ext W, x.1.cell? ⟨B, 0, none⟩ = some (.int .i64 g.b) := fun x => (r.below x.2).cell 0 _ rfl
  have c1 : ∀ x : Ext W, x.1.cell? ⟨B, 1, none⟩ = some (.int .i64 g.s) := fun x => (r.below x.2).cell 1 _ rfl
  have c2 : ∀ x : Ext W, x.1.cell? ⟨B, 2, none⟩ = some (.int .i64 g.y) := fun x => (r.below x.2).cell 2 _ rfl
  have c3 : ∀ x : Ext W, x.1.cell? ⟨B, 3, none⟩ = some (.int .i64 g.a) := fun x => (r.below x.2).cell 3 _ rfl
  have c4 : ∀ x : Ext W, x.1.cell? ⟨B, 4, none⟩ = some (.int .i64 g.r) := fun x => (r.below x.2).cell 4 _ rfl
  have CW : ∀ (n lo hi : Int) (z : Bool), decide (lo ≤ n ∧ n ≤ hi) = z → Hid (∀ x : Ext W, Calls Tryz.prog 61 #[.int .i64 n, .int .i64 lo, .int .i64 hi] x.1 fun e w'' => e = .returned (.bool z) ∧ ∃ y : Ext W, w'' = y.1) := fun n lo hi z hz x => by
    rw [← hz]
    exact (gmWithin n lo hi x.1).mono fun e w'' ⟨h1, h2⟩ => ⟨h1, x, h2⟩
  obtain ⟨z1, e1⟩ : ∃ z, decide (1 ≤ g.b ∧ g.b ≤ 64) = z := ⟨_, rfl⟩
  obtain ⟨z2, e2⟩ : ∃ z, decide (1 ≤ g.s ∧ g.s ≤ 8) = z := ⟨_, rfl⟩
  obtain ⟨z3, e3⟩ : ∃ z, decide (1 ≤ g.y ∧ g.y ≤ 4) = z := ⟨_, rfl⟩
  obtain ⟨z4, e4⟩ : ∃ z, decide (0 ≤ g.a ∧ g.a ≤ 200) = z := ⟨_, rfl⟩
  have C1 := CW _ _ _ _ e1
  have C2 := CW _ _ _ _ e2
  have C3 := CW _ _ _ _ e3
  have C4 := CW _ _ _ _ e4
  by_cases hs : g.shape
  · obtain ⟨b1, b2, b3, b4, b5, b6⟩ := Geo.bounds hs
    obtain ⟨h1, h2, h3, h4, h5, h6, h7, h8⟩ := hs
    obtain rfl : z1 = true := by rw [← e1]; exact decide_eq_true ⟨h1, h2⟩
    obtain rfl : z2 = true := by rw [← e2]; exact decide_eq_true ⟨h3, h4⟩
    obtain rfl : z3 = true := by rw [← e3]; exact decide_eq_true ⟨h5, h6⟩
    obtain rfl : z4 = true := by rw [← e4]; exact decide_eq_true ⟨h7, h8⟩
    obtain ⟨z5, e5⟩ : ∃ z, decide (g.pgs + 2 ≤ g.r ∧ g.r ≤ 256) = z := ⟨_, rfl⟩
    have C5 := CW _ _ _ _ e5
    have C6 : Hid (∀ x : Ext W, Calls Tryz.prog 52 #[.agg g.v] x.1 fun e w'' => e = .returned (.int .i64 g.bts) ∧ ∃ y : Ext W, w'' = y.1) := fun x => calls_ext x (gmState g ⟨h1, h2, h3, h4, h5, h6, h7, h8⟩ x.1)
    have C7 : Hid (∀ x : Ext W, Calls Tryz.prog 62 #[.int .i64 g.bts] x.1 fun e w'' => e = .returned (.int .i64 g.pgs) ∧ ∃ y : Ext W, w'' = y.1) := fun x => (pgCount g.bts x.1 (by omega) (by omega)).mono fun e w'' ⟨h1, h2⟩ => ⟨h1, x, h2⟩
    have hg : Hid (decide g.good = z5) := by
      show _ = _
      rw [← e5, decide_eq_decide]
      exact ⟨fun h => h.2, fun h => ⟨⟨h1, h2, h3, h4, h5, h6, h7, h8⟩, h⟩⟩
    obtain ⟨P, hP⟩ : ∃ n, g.pgs = n := ⟨_, rfl⟩
    obtain ⟨T, hT⟩ : ∃ n, g.bts = n := ⟨_, rfl⟩
    obtain ⟨R, hR⟩ : ∃ n, g.r = n := ⟨_, rfl⟩
    rw [hP, hT] at C7
    rw [hT] at C6
    rw [hP, hR] at C5
    rw [hR] at c4
    rw [hP] at b5 b6
    clear r b1 b2 b3 b4 hP hT hR e1 e2 e3 e4 e5 CW hi h1 h2 h3 h4 h5 h6 h7 h8
    go_enter Tryz.func30, Tryz.ntmps30
    go_wp2_with fail
    refine region_ext (by kernel_rfl) (by kernel_rfl) ?_
    repeat (go_big_quiet_step (with_reducible (first | exact C1.out _ | exact C2.out _ | exact C3.out _ | exact C4.out _ | exact C5.out _ | exact C6.out _ | exact C7.out _)))
    refine wpQuiet_nil ?_
    intro x
    have HX : Hid (Below w.heap.size w x.1) := HB.out.trans (x.2.mono HB.out.size)
    clear LG c0 c1 c2 c3 c4
    go_wp2_with fail
    go_ret
    rw [hg.out]
    exact ⟨rfl, HX.out⟩
  · have hg : Hid (decide g.good = false) := decide_eq_false (fun h => hs h.1)
    have hc : z1 = false ∨ (z1 = true ∧ z2 = false) ∨ (z1 = true ∧ z2 = true ∧ z3 = false) ∨ (z1 = true ∧ z2 = true ∧ z3 = true ∧ z4 = false) := by
      cases z1 with
      | false => exact .inl rfl
      | true =>
        cases z2 with
        | false => exact .inr (.inl ⟨rfl, rfl⟩)
        | true =>
          cases z3 with
          | false => exact .inr (.inr (.inl ⟨rfl, rfl, rfl⟩))
          | true =>
            cases z4 with
            | false => exact .inr (.inr (.inr ⟨rfl, rfl, rfl, rfl⟩))
            | true =>
              have a1 := of_decide_eq_true e1
              have a2 := of_decide_eq_true e2
              have a3 := of_decide_eq_true e3
              have a4 := of_decide_eq_true e4
              exact absurd ⟨a1.1, a1.2, a2.1, a2.2, a3.1, a3.2, a4⟩ hs
    clear e1 e2 e3 e4 CW hi hs r
    rcases hc with rfl | ⟨rfl, rfl⟩ | ⟨rfl, rfl, rfl⟩ | ⟨rfl, rfl, rfl, rfl⟩
    all_goals
      go_enter Tryz.func30, Tryz.ntmps30
      go_wp2_with fail
      refine region_ext (by kernel_rfl) (by kernel_rfl) ?_
      repeat (go_big_quiet_step (with_reducible (first | exact C1.out _ | exact C2.out _ | exact C3.out _ | exact C4.out _)))
      refine wpQuiet_nil ?_
      intro x
      have HX : Hid (Below w.heap.size w x.1) := HB.out.trans (x.2.mono HB.out.size)
      clear LG c0 c1 c2 c3 c4
      go_wp2_with fail
      go_ret
      rw [hg.out]
      exact ⟨rfl, HX.out⟩
set_option maxRecDepth 100000 in
theorem gmBytes (g : Geo) (hi : g.In) (w : World) : Calls Tryz.prog 19 #[.agg g.v] w fun e w' => e = .returned (.int .i64 g.oB) ∧ Below w.heap.size w w' := by
  obtain ⟨W, hW⟩ : ∃ W, w.alloc (.cells g.v 23) = W := ⟨_, rfl⟩
  have r : RowC W w.heap.size 23 g.cs := by rw [← hW]; exact RowC.new w _ _
  have HB : Hid (Below w.heap.size w W) := by show Below _ _ _; rw [← hW]; exact below_new w _
  obtain ⟨B, hB⟩ : ∃ b, w.heap.size = b := ⟨_, rfl⟩
  rw [hB] at r
  have HR := Lib.hid r
  have HG := Lib.hid (gmGood g hi W)
  have L0 := load_geo r
  clear r hi
  by_cases hg : g.good
  · have HS := Lib.hid (gmState g hg.1)
    have hv : Hid (g.oB = g.bts) := if_pos hg
    rw [decide_eq_true hg] at HG
    clear hg
    go_enter Tryz.func19, Tryz.ntmps19
    go_wp2_with fail
    refine HG.out.mono ?_
    rintro e x ⟨rfl, hb⟩
    have L1 := load_geo (HR.out.below hb)
    have HBX : Hid (Below w.heap.size w x) := HB.out.trans (hb.mono HB.out.size)
    clear hb L0
    go_wp2_with fail
    refine (HS.out _).mono ?_
    rintro e y ⟨rfl, hb⟩
    have HBY : Hid (Below w.heap.size w y) := HBX.out.trans (hb.mono HBX.out.size)
    clear hb L1
    go_wp2_with fail
    go_ret
    rw [hv.out]
    exact ⟨rfl, HBY.out⟩
  · have hv : Hid (g.oB = 0) := if_neg hg
    rw [decide_eq_false hg] at HG
    clear hg
    go_enter Tryz.func19, Tryz.ntmps19
    go_wp2_with fail
    refine HG.out.mono ?_
    rintro e x ⟨rfl, hb⟩
    have HBX : Hid (Below w.heap.size w x) := HB.out.trans (hb.mono HB.out.size)
    clear hb L0
    go_wp2_with fail
    go_ret
    rw [hv.out]
    exact ⟨rfl, HBX.out⟩
end
end Go.Proofs.YtfihpljgbghogaaGreat

/- The program's state: goodPlan and Good. -/
namespace Go.Proofs.YtfihpljgbghogaaGreat
open Go.RowKit Go.Shelf Go.Lib
set_option linter.unusedVariables false
set_option linter.unusedSimpArgs false
attribute [-simp] Tryz.isAgg51 Tryz.zeroValue51 Tryz.isAgg54 Tryz.zeroValue54 Tryz.isAgg30 Tryz.zeroValue30
attribute [-go_sem] loadVar storeVar
attribute [local go_sem] loadVar_openQ storeVar_openQ zero_sn zero_prs zero_st

set_option maxRecDepth 100000 in
set_option maxHeartbeats 4000000 in
/-- **goodPlan**, where the snapshots may be. -/
theorem sg_plan {w : World} {q : PS} {l : List SN} {ps : List (Int × Int)} (g : SG) (hg : g.Ok) (r : Int) (h : StIs w q l ps) (hK : Lens 1000 l) (hp : ps.length ≤ 1000) (hl : cGood l (g.b : Int) (g.a : Int) = true) :
    Calls Tryz.prog 42 #[.agg (g.v r), stV q] w fun e w' => e = .returned (.bool (sPlan g ⟨[], l, q.nx, q.kd, q.id, ps⟩)) ∧ Below w.heap.size w w' := by
  have hmx : Tryz.prog.follows .mixedOrders = true := by kernel_rfl
  obtain ⟨⟨qd, qdn, qdc⟩, ⟨qs, qsn, qsc⟩, nx, kd, id, ⟨qp, qpn, qpc⟩⟩ := q
  have HPI : Hid (sPlan g ⟨[], l, nx, kd, id, ps⟩ = gPlan g ⟨[], l, nx, kd, id, ps⟩) := (plan_is hg (s := ⟨[], l, nx, kd, id, ps⟩) hl).symm
  simp only [stV, stL, slV]
  have hsn := h.sn
  have hpr := h.pr
  simp only [slV] at hsn hpr
  obtain ⟨B, hB⟩ : ∃ B, w.heap.size = B := ⟨_, rfl⟩
  obtain ⟨W1, hW1⟩ : ∃ W, w.alloc (.cells (g.v r) 23) = W := ⟨_, rfl⟩
  obtain ⟨W2, hW2⟩ : ∃ W, W1.alloc (.cells #[.slice qd qdn qdc, .slice qs qsn qsc, .int .i64 nx, .int .i64 kd, .int .i64 id, .slice qp qpn qpc] 30) = W := ⟨_, rfl⟩
  obtain ⟨W3, hW3⟩ : ∃ W, W2.alloc (.cells #[.int .i64 kd, .int .i64 id, .slice qp qpn qpc] 28) = W := ⟨_, rfl⟩
  have s1 : W1.heap.size = B + 1 := by rw [← hW1, ← hB]; simp
  have s2 : W2.heap.size = B + 2 := by rw [← hW2, World.size_alloc, s1]
  have s3 : W3.heap.size = B + 3 := by rw [← hW3, World.size_alloc, s2]
  have r1 : RowC W1 B 23 [.int .i64 (g.b : Int), .int .i64 (g.s : Int), .int .i64 (g.y : Int), .int .i64 (g.a : Int), .int .i64 r] := by rw [← hW1, ← hB]; exact RowC.new _ _ _
  have r2 : RowC W2 (B + 1) 30 [.slice qd qdn qdc, .slice qs qsn qsc, .int .i64 nx, .int .i64 kd, .int .i64 id, .slice qp qpn qpc] := by rw [← hW2, ← s1]; exact RowC.new _ _ _
  have r3 : RowC W3 (B + 2) 28 [.int .i64 kd, .int .i64 id, .slice qp qpn qpc] := by rw [← hW3, ← s2]; exact RowC.new _ _ _
  have b1 : Below B w W1 := by rw [← hW1, ← hB]; exact below_new _ _
  have b2 : Below W1.heap.size W1 W2 := by rw [← hW2]; exact below_new _ _
  have b3 : Below W2.heap.size W2 W3 := by rw [← hW3]; exact below_new _ _
  have b12 : Below B w W2 := b1.trans (b2.mono (by omega))
  have b13 : Below B w W3 := b12.trans (b3.mono (by omega))
  have HBF : Hid (∀ x : World, Below W3.heap.size W3 x → Below B w x) := fun x hx => b13.trans (hx.mono (by omega))
  have q0 : ∀ z : Ext W3, z.1.cell? ⟨B, 0, none⟩ = some (.int .i64 (g.b : Int)) := fun z => (((r1.below b2).below b3).below z.2).cell 0 _ rfl
  have q1 : ∀ z : Ext W3, z.1.cell? ⟨B, 1, none⟩ = some (.int .i64 (g.s : Int)) := fun z => (((r1.below b2).below b3).below z.2).cell 1 _ rfl
  have q2 : ∀ z : Ext W3, z.1.cell? ⟨B, 2, none⟩ = some (.int .i64 (g.y : Int)) := fun z => (((r1.below b2).below b3).below z.2).cell 2 _ rfl
  have q3 : ∀ z : Ext W3, z.1.cell? ⟨B, 3, none⟩ = some (.int .i64 (g.a : Int)) := fun z => (((r1.below b2).below b3).below z.2).cell 3 _ rfl
  have q4 : ∀ z : Ext W3, z.1.cell? ⟨B, 4, none⟩ = some (.int .i64 r) := fun z => (((r1.below b2).below b3).below z.2).cell 4 _ rfl
  have p1 : ∀ z : Ext W3, z.1.cell? ⟨B + 1, 1, none⟩ = some (.slice qs qsn qsc) := fun z => ((r2.below b3).below z.2).cell 1 _ rfl
  have p2 : ∀ z : Ext W3, z.1.cell? ⟨B + 1, 2, none⟩ = some (.int .i64 nx) := fun z => ((r2.below b3).below z.2).cell 2 _ rfl
  have m1 : ∀ z : Ext W3, z.1.cell? ⟨B + 2, 1, none⟩ = some (.int .i64 id) := fun z => (r3.below z.2).cell 1 _ rfl
  have m2 : ∀ z : Ext W3, z.1.cell? ⟨B + 2, 2, none⟩ = some (.slice qp qpn qpc) := fun z => (r3.below z.2).cell 2 _ rfl
  have k0 := r3.cell 0 _ rfl
  have k1 := r3.cell 1 _ rfl
  have k2 := r3.cell 2 _ rfl
  have e3 := r2.cell 3 _ rfl
  have e4 := r2.cell 4 _ rfl
  have e5 := r2.cell 5 _ rfl
  have KSn : Hid (∀ x : World, Below W3.heap.size W3 x → Snp x (.slice qs qsn qsc) l) := fun x hx => hsn.below (by rw [hB]; exact HBF.out x hx)
  have KPr : Hid (∀ x : World, Below W3.heap.size W3 x → Prt x (.slice qp qpn qpc) ps) := fun x hx => hpr.below (by rw [hB]; exact HBF.out x hx)
  have HKL := Lib.hid hK
  have HPN : Hid (qpn = ps.length) := by obtain ⟨a', c', e, -⟩ := hpr; cases e; rfl
  have HSN : Hid (qsn = l.length) := by obtain ⟨r', a', c', e, -⟩ := hsn; cases e; rfl
  have hqp : qpn ≤ 1000 := by rw [HPN.out]; exact hp
  have hqs : qsn ≤ 1000 := by rw [HSN.out]; exact hK.1
  have HSZ := Lib.hid hB
  have ha := hg.a200
  have hbb := hg.b64
  have HGO := Lib.hid hg
  have HI : Hid (∀ x : World, Below W3.heap.size W3 x → Calls Tryz.prog 82 #[.slice qs qsn qsc, .int .i64 id] x fun e w' => e = .returned (.int .i64 (cIndex l id)) ∧ Below x.heap.size x w') := fun x hx => ch_index (KSn.out x hx) id
  have HRI : Hid (∀ x : World, Below W3.heap.size W3 x → Calls Tryz.prog 83 #[.slice qp qpn qpc, .int .i64 (g.b : Int)] x fun e w' => e = .returned (.bool (gRise g.b ps)) ∧ Below x.heap.size x w') := fun x hx => sg_rising (KPr.out x hx) hp g.b hg.b1 hg.b64
  have HHD : Hid (∀ x : World, Below W3.heap.size W3 x → Calls Tryz.prog 85 #[.agg #[.int .i64 (g.b : Int), .int .i64 (g.s : Int), .int .i64 (g.y : Int), .int .i64 (g.a : Int), .int .i64 r], .slice qs qsn qsc] x fun e w' => ∃ u, e = .returned u ∧ Sl .u8 w' u (heldS g l) ∧ Below x.heap.size x w') := fun x hx => sg_held g HGO.out r (KSn.out x hx) HKL.out
  have HCO : Hid (∀ x : World, Below W3.heap.size W3 x → Calls Tryz.prog 86 #[.slice qs qsn qsc] x fun e w' => e = .returned (.bool (gFull l)) ∧ Below x.heap.size x w') := fun x hx => sg_complete (KSn.out x hx) HKL.out
  have HAH : Hid (∀ (x : World) (u : Value), Below W3.heap.size W3 x → Sl .u8 x u (heldS g l) → Calls Tryz.prog 84 #[.slice qp qpn qpc, u] x fun e w' => e = .returned (.bool (gHeld (heldS g l) ps)) ∧ Below x.heap.size x w') := fun x u hx hu => sg_allHeld (KPr.out x hx) hp hu (heldS_bytes g l)
  have HAA : Hid (∀ (x : World) (u : Value), Below W3.heap.size W3 x → Sl .u8 x u (heldS g l) → Calls Tryz.prog 87 #[.agg #[.int .i64 (g.b : Int), .int .i64 (g.s : Int), .int .i64 (g.y : Int), .int .i64 (g.a : Int), .int .i64 r], .slice qp qpn qpc, u] x fun e w' => e = .returned (.bool (gApart g (heldS g l) ps)) ∧ Below x.heap.size x w') := fun x u hx hu => sg_allApart g HGO.out r (KPr.out x hx) hp hu (heldS_bytes g l) (by rw [heldS_len]; have := sizeB_le200 HGO.out; omega)
  have HWI : Hid (∀ x : World, Calls Tryz.prog 74 #[.int .i64 id, .int .i64 nx, .int .i64 1000000] x fun e w' => e = .returned (.bool (decide (nx ≤ id ∧ id ≤ 1000000))) ∧ w' = x) := fun x => sg_within id nx 1000000 x
  have K0 : Hid (Below W3.heap.size W3 W3.drew) := (Below.refl _ W3).drew
  rw [hB]
  clear h hsn hpr hK hp r1 r2 r3 b1 b2 b3 b12 b13 hl hg
  unfold SG.v at *
  by_cases d0 : kd = 0
  · subst d0
    have HF : Hid (Below B w W3) := HBF.out _ (Below.refl _ _)
    have E0 : Hid (sPlan g ⟨[], l, nx, 0, id, ps⟩ = ((id == 0) && ((qpn : Int) == 0))) := by
      show _ = _
      rw [HPN.out]
      unfold sPlan
      by_cases h : ps.length = 0 <;> simp [h]
    clear q0 q1 q2 q3 q4 p1 p2 m1 m2
    by_cases d1 : id = 0
    · subst d1
      go_enter Tryz.func42, Tryz.ntmps42
      go_wp2_with fail
      go_ret
      rw [E0.out]
      exact ⟨rfl, HF.out⟩
    · have g1 : (id == 0) = false := by simpa using d1
      rw [g1] at E0
      clear d1
      go_enter Tryz.func42, Tryz.ntmps42
      go_wp2_with fail
      go_ret
      rw [E0.out]
      exact ⟨rfl, HF.out⟩
  · have g0 : (kd == 0) = false := by simpa using d0
    by_cases d1 : kd = 1
    · subst d1
      have E0 : Hid (sPlan g ⟨[], l, nx, 1, id, ps⟩ = (decide (0 ≤ cIndex l id) && (gRise g.b ps && gHeld (heldS g l) ps))) := HPI.out
      clear d0 HPI
      obtain ⟨i0, hi0⟩ : ∃ i, cIndex l id = i := ⟨_, rfl⟩
      obtain ⟨v1, hv1⟩ : ∃ i, decide (0 ≤ i0) = i := ⟨_, rfl⟩
      obtain ⟨v2, hv2⟩ : ∃ i, gRise g.b ps = i := ⟨_, rfl⟩
      obtain ⟨v3, hv3⟩ : ∃ i, gHeld (heldS g l) ps = i := ⟨_, rfl⟩
      rw [hi0] at E0 HI
      rw [hv1, hv2, hv3] at E0
      rw [hv2] at HRI
      rw [hv3] at HAH
      clear hi0 hv2 hv3
      cases v1 with
      | false =>
        go_enter Tryz.func42, Tryz.ntmps42
        go_wp2_with fail
        refine region_plan (fun x => ∃ y : Ext W3, x = y.1) 21 (.takes [0, 1, 2, 3] (.one 4 (.takes [5, 6, 7, 8, 9, 10] (.one 11 (.takes [12, 13, 14, 15, 16, 17, 18] (.one 19 (.one 20 .leaf))))))) hmx (by kernel_rfl) (by intro c x v a w h; cases x <;> exact h) ⟨⟨W3.drew, (Below.refl _ W3).drew⟩, rfl⟩ ?_
        repeat (rw [wpPlan_takes_cons]; simp only [nth_zero, nth_succ]; go_big_quiet_step (fail); try (with_reducible refine wpQuiet_nil ?_))
        rw [wpPlan_takes_nil]
        rw [wpPlan_one]
        simp only [nth_zero, nth_succ]
        go_wp2_with fail
        go_at_call 82
        refine (HI.out _ (K0.out)).mono ?_
        rintro e y1 ⟨rfl, hb1⟩
        have K1 : Hid (Below W3.heap.size W3 y1) := (K0.out).trans (hb1.mono (K0.out).size)
        clear hb1
        go_wp2_with fail
        refine planPost_mk ⟨⟨y1, K1.out⟩, rfl⟩ ?_
        repeat (rw [wpPlan_takes_cons]; simp only [nth_zero, nth_succ]; go_big_quiet_step (fail); try (with_reducible refine wpQuiet_nil ?_))
        rw [wpPlan_takes_nil]
        rw [wpPlan_one]
        simp only [nth_zero, nth_succ]
        go_wp2_with fail
        refine planPost_mk ⟨⟨y1, K1.out⟩, rfl⟩ ?_
        repeat (rw [wpPlan_takes_cons]; simp only [nth_zero, nth_succ]; go_big_quiet_step (fail); try (with_reducible refine wpQuiet_nil ?_))
        rw [wpPlan_takes_nil]
        rw [wpPlan_one]
        simp only [nth_zero, nth_succ]
        go_wp2_with fail
        refine planPost_mk ⟨⟨y1, K1.out⟩, rfl⟩ ?_
        rw [wpPlan_one]
        simp only [nth_zero, nth_succ]
        go_wp2_with fail
        refine planPost_mk ⟨⟨y1, K1.out⟩, rfl⟩ ?_
        rw [wpPlan_leaf]
        simp only [List.drop_succ_cons, List.drop_zero]
        have HF : Hid (Below B w y1) := HBF.out _ (K1.out)
        clear q0 q1 q2 q3 q4 p1 p2 m1 m2
        go_wp2_with fail
        go_ret
        rw [E0.out]
        exact ⟨rfl, HF.out⟩
      | true =>
        cases v2 with
        | false =>
          go_enter Tryz.func42, Tryz.ntmps42
          go_wp2_with fail
          refine region_plan (fun x => ∃ y : Ext W3, x = y.1) 21 (.takes [0, 1, 2, 3] (.one 4 (.takes [5, 6, 7, 8, 9, 10] (.one 11 (.takes [12, 13, 14, 15, 16, 17, 18] (.one 19 (.one 20 .leaf))))))) hmx (by kernel_rfl) (by intro c x v a w h; cases x <;> exact h) ⟨⟨W3.drew, (Below.refl _ W3).drew⟩, rfl⟩ ?_
          repeat (rw [wpPlan_takes_cons]; simp only [nth_zero, nth_succ]; go_big_quiet_step (fail); try (with_reducible refine wpQuiet_nil ?_))
          rw [wpPlan_takes_nil]
          rw [wpPlan_one]
          simp only [nth_zero, nth_succ]
          go_wp2_with fail
          go_at_call 82
          refine (HI.out _ (K0.out)).mono ?_
          rintro e y1 ⟨rfl, hb1⟩
          have K1 : Hid (Below W3.heap.size W3 y1) := (K0.out).trans (hb1.mono (K0.out).size)
          clear hb1
          go_wp2_with fail
          refine planPost_mk ⟨⟨y1, K1.out⟩, rfl⟩ ?_
          repeat (rw [wpPlan_takes_cons]; simp only [nth_zero, nth_succ]; go_big_quiet_step (fail); try (with_reducible refine wpQuiet_nil ?_))
          rw [wpPlan_takes_nil]
          rw [wpPlan_one]
          simp only [nth_zero, nth_succ]
          go_wp2_with fail
          go_at_call 83
          refine (HRI.out _ (K1.out)).mono ?_
          rintro e y2 ⟨rfl, hb2⟩
          have K2 : Hid (Below W3.heap.size W3 y2) := (K1.out).trans (hb2.mono (K1.out).size)
          clear hb2
          go_wp2_with fail
          refine planPost_mk ⟨⟨y2, K2.out⟩, rfl⟩ ?_
          repeat (rw [wpPlan_takes_cons]; simp only [nth_zero, nth_succ]; go_big_quiet_step (fail); try (with_reducible refine wpQuiet_nil ?_))
          rw [wpPlan_takes_nil]
          rw [wpPlan_one]
          simp only [nth_zero, nth_succ]
          go_wp2_with fail
          refine planPost_mk ⟨⟨y2, K2.out⟩, rfl⟩ ?_
          rw [wpPlan_one]
          simp only [nth_zero, nth_succ]
          go_wp2_with fail
          refine planPost_mk ⟨⟨y2, K2.out⟩, rfl⟩ ?_
          rw [wpPlan_leaf]
          simp only [List.drop_succ_cons, List.drop_zero]
          have HF : Hid (Below B w y2) := HBF.out _ (K2.out)
          clear q0 q1 q2 q3 q4 p1 p2 m1 m2
          go_wp2_with fail
          go_ret
          rw [E0.out]
          exact ⟨rfl, HF.out⟩
        | true =>
          go_enter Tryz.func42, Tryz.ntmps42
          go_wp2_with fail
          refine region_plan (fun x => ∃ y : Ext W3, x = y.1) 21 (.takes [0, 1, 2, 3] (.one 4 (.takes [5, 6, 7, 8, 9, 10] (.one 11 (.takes [12, 13, 14, 15, 16, 17, 18] (.one 19 (.one 20 .leaf))))))) hmx (by kernel_rfl) (by intro c x v a w h; cases x <;> exact h) ⟨⟨W3.drew, (Below.refl _ W3).drew⟩, rfl⟩ ?_
          repeat (rw [wpPlan_takes_cons]; simp only [nth_zero, nth_succ]; go_big_quiet_step (fail); try (with_reducible refine wpQuiet_nil ?_))
          rw [wpPlan_takes_nil]
          rw [wpPlan_one]
          simp only [nth_zero, nth_succ]
          go_wp2_with fail
          go_at_call 82
          refine (HI.out _ (K0.out)).mono ?_
          rintro e y1 ⟨rfl, hb1⟩
          have K1 : Hid (Below W3.heap.size W3 y1) := (K0.out).trans (hb1.mono (K0.out).size)
          clear hb1
          go_wp2_with fail
          refine planPost_mk ⟨⟨y1, K1.out⟩, rfl⟩ ?_
          repeat (rw [wpPlan_takes_cons]; simp only [nth_zero, nth_succ]; go_big_quiet_step (fail); try (with_reducible refine wpQuiet_nil ?_))
          rw [wpPlan_takes_nil]
          rw [wpPlan_one]
          simp only [nth_zero, nth_succ]
          go_wp2_with fail
          go_at_call 83
          refine (HRI.out _ (K1.out)).mono ?_
          rintro e y2 ⟨rfl, hb2⟩
          have K2 : Hid (Below W3.heap.size W3 y2) := (K1.out).trans (hb2.mono (K1.out).size)
          clear hb2
          go_wp2_with fail
          refine planPost_mk ⟨⟨y2, K2.out⟩, rfl⟩ ?_
          repeat (rw [wpPlan_takes_cons]; simp only [nth_zero, nth_succ]; go_big_quiet_step (fail); try (with_reducible refine wpQuiet_nil ?_))
          rw [wpPlan_takes_nil]
          rw [wpPlan_one]
          simp only [nth_zero, nth_succ]
          go_wp2_with fail
          go_at_call 85
          refine (HHD.out _ (K2.out)).mono ?_
          rintro e y3 ⟨u, rfl, hu, hb3⟩
          have HU := Lib.hid hu
          have K3 : Hid (Below W3.heap.size W3 y3) := (K2.out).trans (hb3.mono (K2.out).size)
          clear hu hb3
          go_wp2_with fail
          refine planPost_mk ⟨⟨y3, K3.out⟩, rfl⟩ ?_
          rw [wpPlan_one]
          simp only [nth_zero, nth_succ]
          go_wp2_with fail
          go_at_call 84
          refine (HAH.out _ _ (K3.out) HU.out).mono ?_
          rintro e y4 ⟨rfl, hb4⟩
          have K4 : Hid (Below W3.heap.size W3 y4) := (K3.out).trans (hb4.mono (K3.out).size)
          clear hb4
          go_wp2_with fail
          refine planPost_mk ⟨⟨y4, K4.out⟩, rfl⟩ ?_
          rw [wpPlan_leaf]
          simp only [List.drop_succ_cons, List.drop_zero]
          have HF : Hid (Below B w y4) := HBF.out _ (K4.out)
          clear q0 q1 q2 q3 q4 p1 p2 m1 m2
          go_wp2_with fail
          go_ret
          rw [E0.out]
          exact ⟨rfl, HF.out⟩
    · have g1 : (kd == 1) = false := by simpa using d1
      by_cases d2 : kd = 2
      · subst d2
        have E0 : Hid (sPlan g ⟨[], l, nx, 2, id, ps⟩ = (decide (qsn < 8) && (gFull l && (decide (nx ≤ id ∧ id ≤ 1000000) && (gRise g.b ps && gApart g (heldS g l) ps))))) := by show _ = _; rw [HPI.out, HSN.out]; rfl
        clear d0 HPI
        obtain ⟨v0, hv0⟩ : ∃ i, decide (qsn < 8) = i := ⟨_, rfl⟩
        obtain ⟨v1, hv1⟩ : ∃ i, gFull l = i := ⟨_, rfl⟩
        obtain ⟨v2, hv2⟩ : ∃ i, decide (nx ≤ id ∧ id ≤ 1000000) = i := ⟨_, rfl⟩
        obtain ⟨v3, hv3⟩ : ∃ i, gRise g.b ps = i := ⟨_, rfl⟩
        obtain ⟨v4, hv4⟩ : ∃ i, gApart g (heldS g l) ps = i := ⟨_, rfl⟩
        have g3 : decide ((qsn : Int) < 8) = v0 := by rw [← hv0, Bool.eq_iff_iff]; simp; omega
        rw [hv0, hv1, hv2, hv3, hv4] at E0
        rw [hv1] at HCO
        rw [hv2] at HWI
        rw [hv3] at HRI
        rw [hv4] at HAA
        clear hv1 hv2 hv3 hv4 d1
        cases v0 with
        | false =>
          go_enter Tryz.func42, Tryz.ntmps42
          go_wp2_with fail
          refine region_plan (fun x => ∃ y : Ext W3, x = y.1) 32 (.takes [0, 1, 2, 3, 4, 5, 6] (.one 7 (.takes [8, 9, 10, 11, 12, 13] (.one 14 (.takes [15, 16, 17, 18, 19, 20] (.one 21 (.takes [22, 23, 24, 25, 26, 27, 28, 29] (.one 30 (.one 31 .leaf))))))))) hmx (by kernel_rfl) (by intro c x v a w h; cases x <;> exact h) ⟨⟨W3.drew, (Below.refl _ W3).drew⟩, rfl⟩ ?_
          repeat (rw [wpPlan_takes_cons]; simp only [nth_zero, nth_succ]; go_big_quiet_step (fail); try (with_reducible refine wpQuiet_nil ?_))
          rw [wpPlan_takes_nil]
          rw [wpPlan_one]
          simp only [nth_zero, nth_succ]
          go_wp2_with fail
          refine planPost_mk ⟨⟨W3.drew, K0.out⟩, rfl⟩ ?_
          repeat (rw [wpPlan_takes_cons]; simp only [nth_zero, nth_succ]; go_big_quiet_step (fail); try (with_reducible refine wpQuiet_nil ?_))
          rw [wpPlan_takes_nil]
          rw [wpPlan_one]
          simp only [nth_zero, nth_succ]
          go_wp2_with fail
          refine planPost_mk ⟨⟨W3.drew, K0.out⟩, rfl⟩ ?_
          repeat (rw [wpPlan_takes_cons]; simp only [nth_zero, nth_succ]; go_big_quiet_step (fail); try (with_reducible refine wpQuiet_nil ?_))
          rw [wpPlan_takes_nil]
          rw [wpPlan_one]
          simp only [nth_zero, nth_succ]
          go_wp2_with fail
          refine planPost_mk ⟨⟨W3.drew, K0.out⟩, rfl⟩ ?_
          repeat (rw [wpPlan_takes_cons]; simp only [nth_zero, nth_succ]; go_big_quiet_step (fail); try (with_reducible refine wpQuiet_nil ?_))
          rw [wpPlan_takes_nil]
          rw [wpPlan_one]
          simp only [nth_zero, nth_succ]
          go_wp2_with fail
          refine planPost_mk ⟨⟨W3.drew, K0.out⟩, rfl⟩ ?_
          rw [wpPlan_one]
          simp only [nth_zero, nth_succ]
          go_wp2_with fail
          refine planPost_mk ⟨⟨W3.drew, K0.out⟩, rfl⟩ ?_
          rw [wpPlan_leaf]
          simp only [List.drop_succ_cons, List.drop_zero]
          have HF : Hid (Below B w W3.drew) := HBF.out _ (K0.out)
          clear q0 q1 q2 q3 q4 p1 p2 m1 m2
          go_wp2_with fail
          go_ret
          rw [E0.out]
          exact ⟨rfl, HF.out⟩
        | true =>
          cases v1 with
          | false =>
            go_enter Tryz.func42, Tryz.ntmps42
            go_wp2_with fail
            refine region_plan (fun x => ∃ y : Ext W3, x = y.1) 32 (.takes [0, 1, 2, 3, 4, 5, 6] (.one 7 (.takes [8, 9, 10, 11, 12, 13] (.one 14 (.takes [15, 16, 17, 18, 19, 20] (.one 21 (.takes [22, 23, 24, 25, 26, 27, 28, 29] (.one 30 (.one 31 .leaf))))))))) hmx (by kernel_rfl) (by intro c x v a w h; cases x <;> exact h) ⟨⟨W3.drew, (Below.refl _ W3).drew⟩, rfl⟩ ?_
            repeat (rw [wpPlan_takes_cons]; simp only [nth_zero, nth_succ]; go_big_quiet_step (fail); try (with_reducible refine wpQuiet_nil ?_))
            rw [wpPlan_takes_nil]
            rw [wpPlan_one]
            simp only [nth_zero, nth_succ]
            go_wp2_with fail
            go_at_call 86
            refine (HCO.out _ (K0.out)).mono ?_
            rintro e y1 ⟨rfl, hb1⟩
            have K1 : Hid (Below W3.heap.size W3 y1) := (K0.out).trans (hb1.mono (K0.out).size)
            clear hb1
            go_wp2_with fail
            refine planPost_mk ⟨⟨y1, K1.out⟩, rfl⟩ ?_
            repeat (rw [wpPlan_takes_cons]; simp only [nth_zero, nth_succ]; go_big_quiet_step (fail); try (with_reducible refine wpQuiet_nil ?_))
            rw [wpPlan_takes_nil]
            rw [wpPlan_one]
            simp only [nth_zero, nth_succ]
            go_wp2_with fail
            refine planPost_mk ⟨⟨y1, K1.out⟩, rfl⟩ ?_
            repeat (rw [wpPlan_takes_cons]; simp only [nth_zero, nth_succ]; go_big_quiet_step (fail); try (with_reducible refine wpQuiet_nil ?_))
            rw [wpPlan_takes_nil]
            rw [wpPlan_one]
            simp only [nth_zero, nth_succ]
            go_wp2_with fail
            refine planPost_mk ⟨⟨y1, K1.out⟩, rfl⟩ ?_
            repeat (rw [wpPlan_takes_cons]; simp only [nth_zero, nth_succ]; go_big_quiet_step (fail); try (with_reducible refine wpQuiet_nil ?_))
            rw [wpPlan_takes_nil]
            rw [wpPlan_one]
            simp only [nth_zero, nth_succ]
            go_wp2_with fail
            refine planPost_mk ⟨⟨y1, K1.out⟩, rfl⟩ ?_
            rw [wpPlan_one]
            simp only [nth_zero, nth_succ]
            go_wp2_with fail
            refine planPost_mk ⟨⟨y1, K1.out⟩, rfl⟩ ?_
            rw [wpPlan_leaf]
            simp only [List.drop_succ_cons, List.drop_zero]
            have HF : Hid (Below B w y1) := HBF.out _ (K1.out)
            clear q0 q1 q2 q3 q4 p1 p2 m1 m2
            go_wp2_with fail
            go_ret
            rw [E0.out]
            exact ⟨rfl, HF.out⟩
          | true =>
            cases v2 with
            | false =>
              go_enter Tryz.func42, Tryz.ntmps42
              go_wp2_with fail
              refine region_plan (fun x => ∃ y : Ext W3, x = y.1) 32 (.takes [0, 1, 2, 3, 4, 5, 6] (.one 7 (.takes [8, 9, 10, 11, 12, 13] (.one 14 (.takes [15, 16, 17, 18, 19, 20] (.one 21 (.takes [22, 23, 24, 25, 26, 27, 28, 29] (.one 30 (.one 31 .leaf))))))))) hmx (by kernel_rfl) (by intro c x v a w h; cases x <;> exact h) ⟨⟨W3.drew, (Below.refl _ W3).drew⟩, rfl⟩ ?_
              repeat (rw [wpPlan_takes_cons]; simp only [nth_zero, nth_succ]; go_big_quiet_step (fail); try (with_reducible refine wpQuiet_nil ?_))
              rw [wpPlan_takes_nil]
              rw [wpPlan_one]
              simp only [nth_zero, nth_succ]
              go_wp2_with fail
              go_at_call 86
              refine (HCO.out _ (K0.out)).mono ?_
              rintro e y1 ⟨rfl, hb1⟩
              have K1 : Hid (Below W3.heap.size W3 y1) := (K0.out).trans (hb1.mono (K0.out).size)
              clear hb1
              go_wp2_with fail
              refine planPost_mk ⟨⟨y1, K1.out⟩, rfl⟩ ?_
              repeat (rw [wpPlan_takes_cons]; simp only [nth_zero, nth_succ]; go_big_quiet_step (fail); try (with_reducible refine wpQuiet_nil ?_))
              rw [wpPlan_takes_nil]
              rw [wpPlan_one]
              simp only [nth_zero, nth_succ]
              go_wp2_with fail
              go_at_call 74
              refine (HWI.out _).mono ?_
              rintro e y2 ⟨rfl, rfl⟩
              go_wp2_with fail
              refine planPost_mk ⟨⟨y2, K1.out⟩, rfl⟩ ?_
              repeat (rw [wpPlan_takes_cons]; simp only [nth_zero, nth_succ]; go_big_quiet_step (fail); try (with_reducible refine wpQuiet_nil ?_))
              rw [wpPlan_takes_nil]
              rw [wpPlan_one]
              simp only [nth_zero, nth_succ]
              go_wp2_with fail
              refine planPost_mk ⟨⟨y2, K1.out⟩, rfl⟩ ?_
              repeat (rw [wpPlan_takes_cons]; simp only [nth_zero, nth_succ]; go_big_quiet_step (fail); try (with_reducible refine wpQuiet_nil ?_))
              rw [wpPlan_takes_nil]
              rw [wpPlan_one]
              simp only [nth_zero, nth_succ]
              go_wp2_with fail
              refine planPost_mk ⟨⟨y2, K1.out⟩, rfl⟩ ?_
              rw [wpPlan_one]
              simp only [nth_zero, nth_succ]
              go_wp2_with fail
              refine planPost_mk ⟨⟨y2, K1.out⟩, rfl⟩ ?_
              rw [wpPlan_leaf]
              simp only [List.drop_succ_cons, List.drop_zero]
              have HF : Hid (Below B w y2) := HBF.out _ (K1.out)
              clear q0 q1 q2 q3 q4 p1 p2 m1 m2
              go_wp2_with fail
              go_ret
              rw [E0.out]
              exact ⟨rfl, HF.out⟩
            | true =>
              cases v3 with
              | false =>
                go_enter Tryz.func42, Tryz.ntmps42
                go_wp2_with fail
                refine region_plan (fun x => ∃ y : Ext W3, x = y.1) 32 (.takes [0, 1, 2, 3, 4, 5, 6] (.one 7 (.takes [8, 9, 10, 11, 12, 13] (.one 14 (.takes [15, 16, 17, 18, 19, 20] (.one 21 (.takes [22, 23, 24, 25, 26, 27, 28, 29] (.one 30 (.one 31 .leaf))))))))) hmx (by kernel_rfl) (by intro c x v a w h; cases x <;> exact h) ⟨⟨W3.drew, (Below.refl _ W3).drew⟩, rfl⟩ ?_
                repeat (rw [wpPlan_takes_cons]; simp only [nth_zero, nth_succ]; go_big_quiet_step (fail); try (with_reducible refine wpQuiet_nil ?_))
                rw [wpPlan_takes_nil]
                rw [wpPlan_one]
                simp only [nth_zero, nth_succ]
                go_wp2_with fail
                go_at_call 86
                refine (HCO.out _ (K0.out)).mono ?_
                rintro e y1 ⟨rfl, hb1⟩
                have K1 : Hid (Below W3.heap.size W3 y1) := (K0.out).trans (hb1.mono (K0.out).size)
                clear hb1
                go_wp2_with fail
                refine planPost_mk ⟨⟨y1, K1.out⟩, rfl⟩ ?_
                repeat (rw [wpPlan_takes_cons]; simp only [nth_zero, nth_succ]; go_big_quiet_step (fail); try (with_reducible refine wpQuiet_nil ?_))
                rw [wpPlan_takes_nil]
                rw [wpPlan_one]
                simp only [nth_zero, nth_succ]
                go_wp2_with fail
                go_at_call 74
                refine (HWI.out _).mono ?_
                rintro e y2 ⟨rfl, rfl⟩
                go_wp2_with fail
                refine planPost_mk ⟨⟨y2, K1.out⟩, rfl⟩ ?_
                repeat (rw [wpPlan_takes_cons]; simp only [nth_zero, nth_succ]; go_big_quiet_step (fail); try (with_reducible refine wpQuiet_nil ?_))
                rw [wpPlan_takes_nil]
                rw [wpPlan_one]
                simp only [nth_zero, nth_succ]
                go_wp2_with fail
                go_at_call 83
                refine (HRI.out _ (K1.out)).mono ?_
                rintro e y3 ⟨rfl, hb3⟩
                have K3 : Hid (Below W3.heap.size W3 y3) := (K1.out).trans (hb3.mono (K1.out).size)
                clear hb3
                go_wp2_with fail
                refine planPost_mk ⟨⟨y3, K3.out⟩, rfl⟩ ?_
                repeat (rw [wpPlan_takes_cons]; simp only [nth_zero, nth_succ]; go_big_quiet_step (fail); try (with_reducible refine wpQuiet_nil ?_))
                rw [wpPlan_takes_nil]
                rw [wpPlan_one]
                simp only [nth_zero, nth_succ]
                go_wp2_with fail
                refine planPost_mk ⟨⟨y3, K3.out⟩, rfl⟩ ?_
                rw [wpPlan_one]
                simp only [nth_zero, nth_succ]
                go_wp2_with fail
                refine planPost_mk ⟨⟨y3, K3.out⟩, rfl⟩ ?_
                rw [wpPlan_leaf]
                simp only [List.drop_succ_cons, List.drop_zero]
                have HF : Hid (Below B w y3) := HBF.out _ (K3.out)
                clear q0 q1 q2 q3 q4 p1 p2 m1 m2
                go_wp2_with fail
                go_ret
                rw [E0.out]
                exact ⟨rfl, HF.out⟩
              | true =>
                go_enter Tryz.func42, Tryz.ntmps42
                go_wp2_with fail
                refine region_plan (fun x => ∃ y : Ext W3, x = y.1) 32 (.takes [0, 1, 2, 3, 4, 5, 6] (.one 7 (.takes [8, 9, 10, 11, 12, 13] (.one 14 (.takes [15, 16, 17, 18, 19, 20] (.one 21 (.takes [22, 23, 24, 25, 26, 27, 28, 29] (.one 30 (.one 31 .leaf))))))))) hmx (by kernel_rfl) (by intro c x v a w h; cases x <;> exact h) ⟨⟨W3.drew, (Below.refl _ W3).drew⟩, rfl⟩ ?_
                repeat (rw [wpPlan_takes_cons]; simp only [nth_zero, nth_succ]; go_big_quiet_step (fail); try (with_reducible refine wpQuiet_nil ?_))
                rw [wpPlan_takes_nil]
                rw [wpPlan_one]
                simp only [nth_zero, nth_succ]
                go_wp2_with fail
                go_at_call 86
                refine (HCO.out _ (K0.out)).mono ?_
                rintro e y1 ⟨rfl, hb1⟩
                have K1 : Hid (Below W3.heap.size W3 y1) := (K0.out).trans (hb1.mono (K0.out).size)
                clear hb1
                go_wp2_with fail
                refine planPost_mk ⟨⟨y1, K1.out⟩, rfl⟩ ?_
                repeat (rw [wpPlan_takes_cons]; simp only [nth_zero, nth_succ]; go_big_quiet_step (fail); try (with_reducible refine wpQuiet_nil ?_))
                rw [wpPlan_takes_nil]
                rw [wpPlan_one]
                simp only [nth_zero, nth_succ]
                go_wp2_with fail
                go_at_call 74
                refine (HWI.out _).mono ?_
                rintro e y2 ⟨rfl, rfl⟩
                go_wp2_with fail
                refine planPost_mk ⟨⟨y2, K1.out⟩, rfl⟩ ?_
                repeat (rw [wpPlan_takes_cons]; simp only [nth_zero, nth_succ]; go_big_quiet_step (fail); try (with_reducible refine wpQuiet_nil ?_))
                rw [wpPlan_takes_nil]
                rw [wpPlan_one]
                simp only [nth_zero, nth_succ]
                go_wp2_with fail
                go_at_call 83
                refine (HRI.out _ (K1.out)).mono ?_
                rintro e y3 ⟨rfl, hb3⟩
                have K3 : Hid (Below W3.heap.size W3 y3) := (K1.out).trans (hb3.mono (K1.out).size)
                clear hb3
                go_wp2_with fail
                refine planPost_mk ⟨⟨y3, K3.out⟩, rfl⟩ ?_
                repeat (rw [wpPlan_takes_cons]; simp only [nth_zero, nth_succ]; go_big_quiet_step (fail); try (with_reducible refine wpQuiet_nil ?_))
                rw [wpPlan_takes_nil]
                rw [wpPlan_one]
                simp only [nth_zero, nth_succ]
                go_wp2_with fail
                go_at_call 85
                refine (HHD.out _ (K3.out)).mono ?_
                rintro e y4 ⟨u, rfl, hu, hb4⟩
                have HU := Lib.hid hu
                have K4 : Hid (Below W3.heap.size W3 y4) := (K3.out).trans (hb4.mono (K3.out).size)
                clear hu hb4
                go_wp2_with fail
                refine planPost_mk ⟨⟨y4, K4.out⟩, rfl⟩ ?_
                rw [wpPlan_one]
                simp only [nth_zero, nth_succ]
                go_wp2_with fail
                go_at_call 87
                refine (HAA.out _ _ (K4.out) HU.out).mono ?_
                rintro e y5 ⟨rfl, hb5⟩
                have K5 : Hid (Below W3.heap.size W3 y5) := (K4.out).trans (hb5.mono (K4.out).size)
                clear hb5
                go_wp2_with fail
                refine planPost_mk ⟨⟨y5, K5.out⟩, rfl⟩ ?_
                rw [wpPlan_leaf]
                simp only [List.drop_succ_cons, List.drop_zero]
                have HF : Hid (Below B w y5) := HBF.out _ (K5.out)
                clear q0 q1 q2 q3 q4 p1 p2 m1 m2
                go_wp2_with fail
                go_ret
                rw [E0.out]
                exact ⟨rfl, HF.out⟩
      · have g2 : (kd == 2) = false := by simpa using d2
        have HF : Hid (Below B w W3) := HBF.out _ (Below.refl _ _)
        have E0 : Hid (sPlan g ⟨[], l, nx, kd, id, ps⟩ = false) := by
          show _ = _
          unfold sPlan
          simp only
          rw [if_neg d0, if_neg d1, if_neg d2]
        clear q0 q1 q2 q3 q4 p1 p2 m1 m2 d0 d1 d2
        go_enter Tryz.func42, Tryz.ntmps42
        go_wp2_with fail
        go_ret
        rw [E0.out]
        exact ⟨rfl, HF.out⟩
end Go.Proofs.YtfihpljgbghogaaGreat

/- The program's state: Good. -/
namespace Go.Proofs.YtfihpljgbghogaaGreat
open Go.RowKit Go.Shelf Go.Lib
set_option linter.unusedVariables false
set_option linter.unusedSimpArgs false
attribute [-simp] Tryz.isAgg51 Tryz.zeroValue51 Tryz.isAgg54 Tryz.zeroValue54 Tryz.isAgg30 Tryz.zeroValue30
attribute [-go_sem] loadVar storeVar
attribute [local go_sem] loadVar_openQ storeVar_openQ zero_sn zero_prs zero_st
set_option maxRecDepth 100000 in
set_option maxHeartbeats 4000000 in
/-- **Good** where the sizes are no good. -/
theorem sg_goodN {w : World} {q : PS} (G : Geo) (hi : G.In) (hb : ¬ G.good) :
    Calls Tryz.prog 13 #[.agg G.v, stV q] w fun e w' => e = .returned (.bool false) ∧ Below w.heap.size w w' := by
  obtain ⟨⟨qd, qdn, qdc⟩, ⟨qs, qsn, qsc⟩, nx, kd, id, ⟨qp, qpn, qpc⟩⟩ := q
  simp only [stV, stL, slV]
  obtain ⟨gb, gs, gy, ga, gr⟩ := G
  have HG : Hid (∀ x : World, Calls Tryz.prog 30 #[.agg (Geo.v ⟨gb, gs, gy, ga, gr⟩)] x fun e w' => e = .returned (.bool false) ∧ Below x.heap.size x w') := fun x =>
    (gmGood ⟨gb, gs, gy, ga, gr⟩ hi x).mono fun e y hy => ⟨by rw [hy.1, decide_eq_false hb], hy.2⟩
  clear hb hi
  unfold Geo.v at *
  simp only at *
  obtain ⟨B, hB⟩ : ∃ B, w.heap.size = B := ⟨_, rfl⟩
  obtain ⟨W1, hW1⟩ : ∃ W, w.alloc (.cells #[.int .i64 gb, .int .i64 gs, .int .i64 gy, .int .i64 ga, .int .i64 gr] 23) = W := ⟨_, rfl⟩
  obtain ⟨W2, hW2⟩ : ∃ W, W1.alloc (.cells #[.slice qd qdn qdc, .slice qs qsn qsc, .int .i64 nx, .int .i64 kd, .int .i64 id, .slice qp qpn qpc] 30) = W := ⟨_, rfl⟩
  have s1 : W1.heap.size = B + 1 := by rw [← hW1, ← hB]; simp
  have r1 : RowC W1 B 23 [.int .i64 gb, .int .i64 gs, .int .i64 gy, .int .i64 ga, .int .i64 gr] := by rw [← hW1, ← hB]; exact RowC.new _ _ _
  have b1 : Below B w W1 := by rw [← hW1, ← hB]; exact below_new _ _
  have b2 : Below W1.heap.size W1 W2 := by rw [← hW2]; exact below_new _ _
  have HB : Hid (Below B w W2) := b1.trans (b2.mono (by omega))
  have t1 := r1.below b2
  have k0 := t1.cell 0 _ rfl
  have k1 := t1.cell 1 _ rfl
  have k2 := t1.cell 2 _ rfl
  have k3 := t1.cell 3 _ rfl
  have k4 := t1.cell 4 _ rfl
  have HS2 : Hid (B ≤ W2.heap.size) := by show B ≤ _; rw [← hB]; exact HB.out.size
  have HSZ := Lib.hid hB
  clear r1 b1 b2 t1
  go_enter Tryz.func13, Tryz.ntmps13
  go_wp2_with fail
  refine (HG.out W2).mono ?_
  rintro e y ⟨rfl, hy⟩
  have HY : Hid (Below B w y) := HB.out.trans (hy.mono HS2.out)
  clear hy
  go_wp2_with fail
  go_ret
  exact ⟨rfl, by rw [HSZ.out]; exact HY.out⟩

set_option maxRecDepth 100000 in
set_option maxHeartbeats 4000000 in
/-- **Good**. -/
theorem sg_good {w : World} {q : PS} {d : List Int} {l : List SN} {ps : List (Int × Int)} (g : SG) (hg : g.Ok) (r : Int) (hi : (g.geo r).In) (hr : (g.geo r).good) (hd : Sl .i64 w (slV q.d) d) (hd6 : ∀ x ∈ d, Is64 x) (h : StIs w q l ps) (hK : Lens 1000 l) (hp : ps.length ≤ 1000) :
    Calls Tryz.prog 13 #[.agg (g.v r), stV q] w fun e w' => e = .returned (.bool (sGood g ⟨d, l, q.nx, q.kd, q.id, ps⟩)) ∧ Below w.heap.size w w' := by
  have HQ := Lib.hid h
  have HD0 := Lib.hid hd
  have HPL : Hid (cGood l (g.b : Int) (g.a : Int) = true → ∀ x : World, Below w.heap.size w x → Calls Tryz.prog 42 #[.agg (g.v r), stV q] x fun e w' => e = .returned (.bool (sPlan g ⟨[], l, q.nx, q.kd, q.id, ps⟩)) ∧ Below x.heap.size x w') := fun hc x hx => sg_plan g hg r (HQ.out.below hx) hK hp hc
  have HDY : Hid (∀ x : World, Below w.heap.size w x → Calls Tryz.prog 39 #[.agg (g.v r), slV q.d] x fun e w' => e = .returned (.bool (sDirty g d)) ∧ Below x.heap.size x w') := fun x hx => sg_dirty g hg r (HD0.out.below hx) hd6
  have HCG : Hid (∀ x : World, Below w.heap.size w x → Calls Tryz.prog 40 #[slV q.sn, .int .i64 (g.b : Int), .int .i64 (g.a : Int)] x fun e w' => e = .returned (.bool (cGood l (g.b : Int) (g.a : Int))) ∧ Below x.heap.size x w') := fun x hx => ch_good (HQ.out.sn.below hx) hK (g.b : Int) (g.a : Int)
  have HNX : Hid (∀ x : World, Below w.heap.size w x → Calls Tryz.prog 41 #[stV q] x fun e w' => e = .returned (.bool (l.all (fun t => decide (t.id < q.nx)) && decide (1 ≤ q.nx ∧ q.nx ≤ 1000001))) ∧ Below x.heap.size x w') := fun x hx => sg_next (HQ.out.sn.below hx) hK.1
  have HGD : Hid (∀ x : World, Calls Tryz.prog 30 #[.agg (g.v r)] x fun e w' => e = .returned (.bool true) ∧ Below x.heap.size x w') := fun x => (gmGood (g.geo r) hi x).mono fun e y hy => ⟨by rw [hy.1, decide_eq_true hr], hy.2⟩
  have E0 : Hid (sGood g ⟨d, l, q.nx, q.kd, q.id, ps⟩ = (sDirty g d && (cGood l (g.b : Int) (g.a : Int) && ((l.all (fun t => decide (t.id < q.nx)) && decide (1 ≤ q.nx ∧ q.nx ≤ 1000001)) && sPlan g ⟨[], l, q.nx, q.kd, q.id, ps⟩)))) := by
    show (sDirty g d && cGood l (g.b : Int) (g.a : Int) && decide (1 ≤ q.nx) && decide (q.nx ≤ 1000001) && l.all (fun t => decide (t.id < q.nx)) && sPlan g ⟨[], l, q.nx, q.kd, q.id, ps⟩) = _
    rw [Bool.eq_iff_iff]
    simp only [Bool.and_eq_true, decide_eq_true_eq]
    constructor
    · rintro ⟨⟨⟨⟨⟨a, b⟩, c⟩, d⟩, e⟩, f⟩; exact ⟨a, b, ⟨e, c, d⟩, f⟩
    · rintro ⟨a, b, ⟨e, c, d⟩, f⟩; exact ⟨⟨⟨⟨⟨a, b⟩, c⟩, d⟩, e⟩, f⟩
  obtain ⟨⟨qd, qdn, qdc⟩, ⟨qs, qsn, qsc⟩, nx, kd, id, ⟨qp, qpn, qpc⟩⟩ := q
  simp only [stV, stL, slV] at *
  obtain ⟨B, hB⟩ : ∃ B, w.heap.size = B := ⟨_, rfl⟩
  obtain ⟨W1, hW1⟩ : ∃ W, w.alloc (.cells (g.v r) 23) = W := ⟨_, rfl⟩
  obtain ⟨W2, hW2⟩ : ∃ W, W1.alloc (.cells #[.slice qd qdn qdc, .slice qs qsn qsc, .int .i64 nx, .int .i64 kd, .int .i64 id, .slice qp qpn qpc] 30) = W := ⟨_, rfl⟩
  have s1 : W1.heap.size = B + 1 := by rw [← hW1, ← hB]; simp
  have r1 : RowC W1 B 23 [.int .i64 (g.b : Int), .int .i64 (g.s : Int), .int .i64 (g.y : Int), .int .i64 (g.a : Int), .int .i64 r] := by rw [← hW1, ← hB]; exact RowC.new _ _ _
  have r2 : RowC W2 (B + 1) 30 (stL ⟨(qd, qdn, qdc), (qs, qsn, qsc), nx, kd, id, (qp, qpn, qpc)⟩) := by rw [← hW2, ← s1]; exact RowC.new _ _ _
  have b1 : Below B w W1 := by rw [← hW1, ← hB]; exact below_new _ _
  have b2 : Below W1.heap.size W1 W2 := by rw [← hW2]; exact below_new _ _
  have hBF : Below B w W2 := b1.trans (b2.mono (by omega))
  have HBs : B ≤ W2.heap.size := by rw [← hB]; exact hBF.size
  have HBF : Hid (∀ x : World, Below W2.heap.size W2 x → Below B w x) := fun x hx => hBF.trans (hx.mono HBs)
  have KR : Hid (∀ x : World, Below W2.heap.size W2 x → x.cell? ⟨B, 0, none⟩ = some (.int .i64 (g.b : Int)) ∧ x.cell? ⟨B, 1, none⟩ = some (.int .i64 (g.s : Int)) ∧ x.cell? ⟨B, 2, none⟩ = some (.int .i64 (g.y : Int)) ∧ x.cell? ⟨B, 3, none⟩ = some (.int .i64 (g.a : Int)) ∧ x.cell? ⟨B, 4, none⟩ = some (.int .i64 r) ∧
      x.cell? ⟨B + 1, 0, none⟩ = some (.slice qd qdn qdc) ∧ x.cell? ⟨B + 1, 1, none⟩ = some (.slice qs qsn qsc) ∧ x.cell? ⟨B + 1, 2, none⟩ = some (.int .i64 nx)) := fun x hx => by
    have t1 := (r1.below b2).below hx
    have t2 := r2.below hx
    exact ⟨t1.cell 0 _ rfl, t1.cell 1 _ rfl, t1.cell 2 _ rfl, t1.cell 3 _ rfl, t1.cell 4 _ rfl, t2.cell 0 _ rfl, t2.cell 1 _ rfl, t2.cell 2 _ rfl⟩
  have KLS : Hid (∀ x : World, Below W2.heap.size W2 x → (loadVar 30 ⟨B + 1, 0, none⟩).run Tryz.prog x = .ok (.agg #[.slice qd qdn qdc, .slice qs qsn qsc, .int .i64 nx, .int .i64 kd, .int .i64 id, .slice qp qpn qpc]) x) := fun x hx => load_stC (r2.below hx)
  have HSZ := Lib.hid hB
  obtain ⟨v1, hv1⟩ : ∃ u, sDirty g d = u := ⟨_, rfl⟩
  obtain ⟨v2, hv2⟩ : ∃ u, cGood l (g.b : Int) (g.a : Int) = u := ⟨_, rfl⟩
  obtain ⟨v3, hv3⟩ : ∃ u, (l.all (fun t => decide (t.id < nx)) && decide (1 ≤ nx ∧ nx ≤ 1000001)) = u := ⟨_, rfl⟩
  obtain ⟨v4, hv4⟩ : ∃ u, sPlan g ⟨[], l, nx, kd, id, ps⟩ = u := ⟨_, rfl⟩
  rw [hv1] at HDY
  rw [hv2] at HCG HPL
  rw [hv3] at HNX
  rw [hv4] at HPL
  rw [hv1, hv2, hv3, hv4] at E0
  rw [hB] at HPL HDY HCG HNX ⊢
  clear h hK hp r1 r2 b1 b2 hBF hd hd6 hr HBs hv1 hv2 hv3 hv4 hi
  unfold SG.v at *
  obtain ⟨k0, k1, k2, k3, k4, k5, k6, k7⟩ := KR.out W2 (Below.refl _ _)
  go_enter Tryz.func13, Tryz.ntmps13
  go_wp2_with fail
  refine (HGD.out W2).mono ?_
  rintro e x1 ⟨rfl, hx1⟩
  have HB1 := Lib.hid hx1
  clear hx1 k0 k1 k2 k3 k4 k5 k6 k7
  obtain ⟨k0, k1, k2, k3, k4, k5, k6, k7⟩ := KR.out x1 HB1.out
  go_wp2_with fail
  refine (HDY.out x1 (HBF.out _ HB1.out)).mono ?_
  rintro e x2 ⟨rfl, hx2⟩
  have HB2 : Hid (Below W2.heap.size W2 x2) := HB1.out.trans (hx2.mono HB1.out.size)
  clear hx2 k0 k1 k2 k3 k4 k5 k6 k7
  cases v1 with
  | false =>
    have HGO : Hid (Below B w x2) := HBF.out _ HB2.out
    go_wp2_with fail
    go_ret
    rw [E0.out]
    exact ⟨rfl, HGO.out⟩
  | true =>
    obtain ⟨k0, k1, k2, k3, k4, k5, k6, k7⟩ := KR.out x2 HB2.out
    go_wp2_with fail
    refine (HCG.out x2 (HBF.out _ HB2.out)).mono ?_
    rintro e x3 ⟨rfl, hx3⟩
    have HB3 : Hid (Below W2.heap.size W2 x3) := HB2.out.trans (hx3.mono HB2.out.size)
    clear hx3 k0 k1 k2 k3 k4 k5 k6 k7
    cases v2 with
    | false =>
      have HGO : Hid (Below B w x3) := HBF.out _ HB3.out
      go_wp2_with fail
      go_ret
      rw [E0.out]
      exact ⟨rfl, HGO.out⟩
    | true =>
      obtain ⟨k0, k1, k2, k3, k4, k5, k6, k7⟩ := KR.out x3 HB3.out
      have kl := KLS.out x3 HB3.out
      go_wp2_with fail
      refine (HNX.out x3 (HBF.out _ HB3.out)).mono ?_
      rintro e x4 ⟨rfl, hx4⟩
      have HB4 : Hid (Below W2.heap.size W2 x4) := HB3.out.trans (hx4.mono HB3.out.size)
      clear hx4 k0 k1 k2 k3 k4 k5 k6 k7 kl
      cases v3 with
      | false =>
        have HGO : Hid (Below B w x4) := HBF.out _ HB4.out
        go_wp2_with fail
        go_ret
        rw [E0.out]
        exact ⟨rfl, HGO.out⟩
      | true =>
        obtain ⟨k0, k1, k2, k3, k4, k5, k6, k7⟩ := KR.out x4 HB4.out
        have kl := KLS.out x4 HB4.out
        go_wp2_with fail
        refine (HPL.out (by first | rfl | trivial) x4 (HBF.out _ HB4.out)).mono ?_
        rintro e x5 ⟨rfl, hx5⟩
        have HB5 : Hid (Below W2.heap.size W2 x5) := HB4.out.trans (hx5.mono HB4.out.size)
        clear hx5 k0 k1 k2 k3 k4 k5 k6 k7 kl
        have HGO : Hid (Below B w x5) := HBF.out _ HB5.out
        go_wp2_with fail
        go_ret
        rw [E0.out]
        exact ⟨rfl, HGO.out⟩
end Go.Proofs.YtfihpljgbghogaaGreat

/- The program's Encode of a state. -/
namespace Go.Proofs.YtfihpljgbghogaaGreat
open Go.RowKit Go.Shelf Go.Lib
set_option linter.unusedVariables false
set_option linter.unusedSimpArgs false
attribute [-simp] Tryz.isAgg51 Tryz.zeroValue51 Tryz.isAgg54 Tryz.zeroValue54 Tryz.isAgg30 Tryz.zeroValue30
attribute [-go_sem] loadVar storeVar
attribute [local go_sem] loadVar_openQ storeVar_openQ zero_sn zero_prs zero_st build_sn build_sn2 build_sn1
set_option maxRecDepth 100000 in
set_option maxHeartbeats 4000000 in
/-- **Encode** where the sizes are no good. -/
theorem sg_encodeN {w : World} {q : PS} (G : Geo) (hi : G.In) (hb : ¬ G.good) :
    Calls Tryz.prog 7 #[.agg G.v, stV q] w fun e w' => e = .returned (.tuple #[.slice none 0 0, .int .i64 11]) ∧ Below w.heap.size w w' := by
  have HG : Hid (∀ x : World, Calls Tryz.prog 13 #[.agg G.v, stV q] x fun e w' => e = .returned (.bool false) ∧ Below x.heap.size x w') := fun x => sg_goodN G hi hb
  obtain ⟨⟨qd, qdn, qdc⟩, ⟨qs, qsn, qsc⟩, nx, kd, id, ⟨qp, qpn, qpc⟩⟩ := q
  simp only [stV, stL, slV] at *
  obtain ⟨gb, gs, gy, ga, gr⟩ := G
  clear hb hi
  unfold Geo.v at *
  simp only at *
  obtain ⟨B, hB⟩ : ∃ B, w.heap.size = B := ⟨_, rfl⟩
  obtain ⟨W1, hW1⟩ : ∃ W, w.alloc (.cells #[.int .i64 gb, .int .i64 gs, .int .i64 gy, .int .i64 ga, .int .i64 gr] 23) = W := ⟨_, rfl⟩
  obtain ⟨W2, hW2⟩ : ∃ W, W1.alloc (.cells #[.slice qd qdn qdc, .slice qs qsn qsc, .int .i64 nx, .int .i64 kd, .int .i64 id, .slice qp qpn qpc] 30) = W := ⟨_, rfl⟩
  have s1 : W1.heap.size = B + 1 := by rw [← hW1, ← hB]; simp
  have r1 : RowC W1 B 23 [.int .i64 gb, .int .i64 gs, .int .i64 gy, .int .i64 ga, .int .i64 gr] := by rw [← hW1, ← hB]; exact RowC.new _ _ _
  have r2 : RowC W2 (B + 1) 30 (stL ⟨(qd, qdn, qdc), (qs, qsn, qsc), nx, kd, id, (qp, qpn, qpc)⟩) := by rw [← hW2, ← s1]; exact RowC.new _ _ _
  have b1 : Below B w W1 := by rw [← hW1, ← hB]; exact below_new _ _
  have b2 : Below W1.heap.size W1 W2 := by rw [← hW2]; exact below_new _ _
  have HB : Hid (Below B w W2) := b1.trans (b2.mono (by omega))
  have t1 := r1.below b2
  have k0 := t1.cell 0 _ rfl
  have k1 := t1.cell 1 _ rfl
  have k2 := t1.cell 2 _ rfl
  have k3 := t1.cell 3 _ rfl
  have k4 := t1.cell 4 _ rfl
  have LS := load_stC r2
  simp only [stV, stL, slV] at LS
  have HS2 : Hid (B ≤ W2.heap.size) := by show B ≤ _; rw [← hB]; exact HB.out.size
  have HSZ := Lib.hid hB
  clear r1 b1 b2 t1 r2
  go_enter Tryz.func7, Tryz.ntmps7
  go_wp2_with fail
  refine (HG.out W2).mono ?_
  rintro e y ⟨rfl, hy⟩
  have HY : Hid (Below B w y) := HB.out.trans (hy.mono HS2.out)
  clear hy LS k0 k1 k2 k3 k4
  go_wp2_with fail
  refine bodyPost_ret (results_tmp2 rfl _ _ _) rfl ?_
  exact ⟨rfl, by rw [HSZ.out]; exact HY.out⟩
theorem sls4 {x x4 : World} {v1 v2 v3 v4 : Value} {b1 b2 b3 b4 : List Int} (hx : x.alloc (.cells #[v1, v2, v3, v4] 31) = x4) (h1 : Sl .u8 x v1 b1) (h2 : Sl .u8 x v2 b2) (h3 : Sl .u8 x v3 b3) (h4 : Sl .u8 x v4 b4) :
    Sls x4 (.slice (some ⟨x.heap.size, 0, none⟩) 4 4) [b1, b2, b3, b4] := by
  have r4 : x4.heap[x.heap.size]? = some (.cells #[v1, v2, v3, v4] 31 (0, 0)) := by rw [← hx]; exact heap_alloc_new x _
  have b : Below x.heap.size x x4 := by rw [← hx]; exact below_new _ _
  refine ⟨x.heap.size, 4, rfl, Nat.le_refl _, by unfold maxLen; omega, by rw [← hx]; simp, fun k hk => ?_⟩
  have hk' : k < 4 := hk
  match k, hk' with
  | 0, _ => exact ⟨_, cell_of_row _ _ 0 _ _ _ r4, h1.below b⟩
  | 1, _ => exact ⟨_, cell_of_row _ _ 1 _ _ _ r4, h2.below b⟩
  | 2, _ => exact ⟨_, cell_of_row _ _ 2 _ _ _ r4, h3.below b⟩
  | 3, _ => exact ⟨_, cell_of_row _ _ 3 _ _ _ r4, h4.below b⟩
theorem sl_form {x : World} {v : Value} {bs : List Int} (h : Sl .u8 x v bs) : ∃ a c, v = .slice a bs.length c := by obtain ⟨a, c, e, -⟩ := h; exact ⟨a, c, e⟩

set_option maxRecDepth 100000 in
set_option maxHeartbeats 4000000 in
/-- **Encode**. -/
theorem sg_encode {w : World} {q : PS} {d : List Int} {l : List SN} {ps : List (Int × Int)} (g : SG) (hg : g.Ok) (r : Int) (hi : (g.geo r).In) (hr : (g.geo r).good) (hd : Sl .i64 w (slV q.d) d) (hd6 : ∀ x ∈ d, Is64 x) (h : StIs w q l ps) (hK : Lens 1000 l) (hp : ps.length ≤ 1000) :
    Calls Tryz.prog 7 #[.agg (g.v r), stV q] w fun e w' => ∃ u c, e = .returned (.tuple #[u, .int .i64 c]) ∧ EncR g ⟨d, l, q.nx, q.kd, q.id, ps⟩ w.heap.size w' u c ∧ Below w.heap.size w w' := by
  have hmx : Tryz.prog.follows .mixedOrders = true := by kernel_rfl
  have HQ := Lib.hid h
  have HD0 := Lib.hid hd
  have HGD : Hid (∀ x : World, Below w.heap.size w x → Calls Tryz.prog 13 #[.agg (g.v r), stV q] x fun e w' => e = .returned (.bool (sGood g ⟨d, l, q.nx, q.kd, q.id, ps⟩)) ∧ Below x.heap.size x w') := fun x hx => sg_good g hg r hi hr (HD0.out.below hx) hd6 (HQ.out.below hx) hK hp
  have HGK := Lib.hid hg
  have HPLC : Hid (∀ (x : World) (u : Value) (pl : List (Int × Int)), Prt x u pl → pl.length ≤ 1000 → PrIn g pl → Calls Tryz.prog 26 #[u, .int .i64 (g.b : Int)] x fun e w' => ∃ u', e = .returned u' ∧ w'.ownsRow x.heap.size 5 1 u' g.b ((sPlaces g.b pl).map (Value.int .u8)) ∧ Below x.heap.size x w') := fun x u pl h1 h2 h3 => sg_codes h1 h2 g.b HGK.out.b64 h3.asc h3.plOk
  obtain ⟨⟨qd, qdn, qdc⟩, ⟨qs, qsn, qsc⟩, nx, kd, id, ⟨qp, qpn, qpc⟩⟩ := q
  have hsn := h.sn
  simp only [stV, stL, slV] at *
  obtain ⟨B, hB⟩ : ∃ B, w.heap.size = B := ⟨_, rfl⟩
  obtain ⟨W1, hW1⟩ : ∃ W, w.alloc (.cells (g.v r) 23) = W := ⟨_, rfl⟩
  obtain ⟨W2, hW2⟩ : ∃ W, W1.alloc (.cells #[.slice qd qdn qdc, .slice qs qsn qsc, .int .i64 nx, .int .i64 kd, .int .i64 id, .slice qp qpn qpc] 30) = W := ⟨_, rfl⟩
  have s1 : W1.heap.size = B + 1 := by rw [← hW1, ← hB]; simp
  have r1 : RowC W1 B 23 [.int .i64 (g.b : Int), .int .i64 (g.s : Int), .int .i64 (g.y : Int), .int .i64 (g.a : Int), .int .i64 r] := by rw [← hW1, ← hB]; exact RowC.new _ _ _
  have r2 : RowC W2 (B + 1) 30 (stL ⟨(qd, qdn, qdc), (qs, qsn, qsc), nx, kd, id, (qp, qpn, qpc)⟩) := by rw [← hW2, ← s1]; exact RowC.new _ _ _
  have b1 : Below B w W1 := by rw [← hW1, ← hB]; exact below_new _ _
  have b2 : Below W1.heap.size W1 W2 := by rw [← hW2]; exact below_new _ _
  have hBF : Below B w W2 := b1.trans (b2.mono (by omega))
  have HBs : B ≤ W2.heap.size := by rw [← hB]; exact hBF.size
  have HBF : Hid (∀ x : World, Below W2.heap.size W2 x → Below B w x) := fun x hx => hBF.trans (hx.mono HBs)
  have HBs2 := Lib.hid HBs
  have KR : Hid (∀ x : World, Below W2.heap.size W2 x → x.cell? ⟨B, 0, none⟩ = some (.int .i64 (g.b : Int)) ∧ x.cell? ⟨B, 1, none⟩ = some (.int .i64 (g.s : Int)) ∧ x.cell? ⟨B, 2, none⟩ = some (.int .i64 (g.y : Int)) ∧ x.cell? ⟨B, 3, none⟩ = some (.int .i64 (g.a : Int)) ∧ x.cell? ⟨B, 4, none⟩ = some (.int .i64 r) ∧
      x.cell? ⟨B + 1, 0, none⟩ = some (.slice qd qdn qdc) ∧ x.cell? ⟨B + 1, 1, none⟩ = some (.slice qs qsn qsc) ∧ x.cell? ⟨B + 1, 2, none⟩ = some (.int .i64 nx) ∧ x.cell? ⟨B + 1, 3, none⟩ = some (.int .i64 kd) ∧ x.cell? ⟨B + 1, 4, none⟩ = some (.int .i64 id) ∧ x.cell? ⟨B + 1, 5, none⟩ = some (.slice qp qpn qpc)) := fun x hx => by
    have t1 := (r1.below b2).below hx
    have t2 := r2.below hx
    exact ⟨t1.cell 0 _ rfl, t1.cell 1 _ rfl, t1.cell 2 _ rfl, t1.cell 3 _ rfl, t1.cell 4 _ rfl, t2.cell 0 _ rfl, t2.cell 1 _ rfl, t2.cell 2 _ rfl, t2.cell 3 _ rfl, t2.cell 4 _ rfl, t2.cell 5 _ rfl⟩
  have KLS : Hid (∀ x : World, Below W2.heap.size W2 x → (loadVar 30 ⟨B + 1, 0, none⟩).run Tryz.prog x = .ok (.agg #[.slice qd qdn qdc, .slice qs qsn qsc, .int .i64 nx, .int .i64 kd, .int .i64 id, .slice qp qpn qpc]) x) := fun x hx => load_stC (r2.below hx)
  have KSn : Hid (∀ x : World, Below W2.heap.size W2 x → Snp x (.slice qs qsn qsc) l) := fun x hx => hsn.below (by rw [hB]; exact HBF.out x hx)
  have HSN : Hid (qsn = l.length) := by obtain ⟨r', a', c', e, -⟩ := hsn; cases e; rfl
  have hqs : qsn ≤ 1000 := by rw [HSN.out]; exact hK.1
  have KPr : Hid (∀ x : World, Below W2.heap.size W2 x → Prt x (.slice qp qpn qpc) ps) := fun x hx => HQ.out.pr.below (by rw [hB]; exact HBF.out x hx)
  obtain ⟨hqdn, hqdm, hdc⟩ := hd.cellI
  have HDN := Lib.hid hqdn
  have HDC : Hid (0 < qdn → ∃ b o, qd = some ⟨b, o, none⟩ ∧ ∀ x : World, Below W2.heap.size W2 x → ∀ j, j < qdn → x.cell? ⟨b, o + j, none⟩ = some (.int .i64 (d[j]?.getD 0))) := fun h0 => by
    obtain ⟨b, o, e, h⟩ := hdc h0
    exact ⟨b, o, e, fun x hx j hj => h x (by rw [hB]; exact HBF.out x hx) j hj⟩
  have HKL := Lib.hid hK
  have HPLn := Lib.hid hp
  have HSZ := Lib.hid hB
  rw [hB] at HGD ⊢
  clear h hsn hK hp r1 r2 b1 b2 hBF hd hr HBs hdc hqdn hqdm hg hi hd6
  unfold SG.v at *
  obtain ⟨v1, hv1⟩ : ∃ u, sGood g ⟨d, l, nx, kd, id, ps⟩ = u := ⟨_, rfl⟩
  have HV1 := Lib.hid hv1
  rw [hv1] at HGD
  clear hv1
  obtain ⟨k0, k1, k2, k3, k4, k5, k6, k7, k8, k9, k10⟩ := KR.out W2 (Below.refl _ _)
  have LS := KLS.out W2 (Below.refl _ _)
  go_enter Tryz.func7, Tryz.ntmps7
  go_wp2_with fail
  refine (HGD.out W2 (HBF.out _ (Below.refl _ _))).mono ?_
  rintro e x1 ⟨rfl, hx1⟩
  have HB1 := Lib.hid hx1
  have HGO : Hid (Below B w x1) := HBF.out _ HB1.out
  clear hx1 k0 k1 k2 k3 k4 k5 k6 k7 k8 k9 k10 LS
  cases v1 with
  | false =>
    go_wp2_with fail
    refine bodyPost_ret (results_tmp2 rfl _ _ _) rfl ?_
    exact ⟨_, _, rfl, ⟨fun h => absurd h (by rw [HV1.out]; decide), fun _ => ⟨rfl, rfl⟩⟩, HGO.out⟩
  | true =>
    have HIn := Lib.hid (good_in HGK.out HV1.out)
    have hkd := kd_rng HV1.out
    have hn0 := HIn.out.nx0
    have hn1 := HIn.out.nx1
    have hi0 := HIn.out.id0
    have hi1 := HIn.out.id1
    have hsl : qsn ≤ 8 := by rw [HSN.out]; exact HIn.out.sl
    simp only at hkd hn0 hn1 hi0 hi1
    obtain ⟨kd0, kd1⟩ := hkd
    have HPut : Hid (∀ (x : World) (n : Int), 0 ≤ n → n ≤ 1000001 → Calls Tryz.prog 23 #[.int .u64 n, .int .i64 4] x fun e w' => ∃ v, e = .returned v ∧ w'.ownsRow x.heap.size 5 1 v 4 ((putL n 4).map (Value.int .u8)) ∧ Below x.heap.size x w') := fun x n h0 h1 => put_some n 4 x (by omega) (by omega) h0 (by omega)
    have HPut1 : Hid (∀ (x : World) (n : Int), 0 ≤ n → n < 256 → Calls Tryz.prog 23 #[.int .u64 n, .int .i64 1] x fun e w' => ∃ v, e = .returned v ∧ w'.ownsRow x.heap.size 5 1 v 1 ((putL n 1).map (Value.int .u8)) ∧ Below x.heap.size x w') := fun x n h0 h1 => put_some n 1 x (by omega) (by omega) h0 (by omega)
    have d0 : ∀ y : Ext W2, y.1.cell? ⟨B + 1, 2, none⟩ = some (.int .i64 nx) := fun y => (KR.out y.1 y.2).2.2.2.2.2.2.2.1
    have d1 : ∀ y : Ext W2, y.1.cell? ⟨B + 1, 1, none⟩ = some (.slice qs qsn qsc) := fun y => (KR.out y.1 y.2).2.2.2.2.2.2.1
    have d2 : ∀ y : Ext W2, y.1.cell? ⟨B + 1, 3, none⟩ = some (.int .i64 kd) := fun y => (KR.out y.1 y.2).2.2.2.2.2.2.2.2.1
    have d3 : ∀ y : Ext W2, y.1.cell? ⟨B + 1, 4, none⟩ = some (.int .i64 id) := fun y => (KR.out y.1 y.2).2.2.2.2.2.2.2.2.2.1
    have HBd : Hid (Below W2.heap.size W2 x1.drew) := HB1.out.drew
    have HN0 := Lib.hid hn0
    have HN1 := Lib.hid hn1
    have HI0 := Lib.hid hi0
    have HI1 := Lib.hid hi1
    have HK0 : Hid (0 ≤ kd ∧ kd < 256) := ⟨kd0, by omega⟩
    have HSL8 := Lib.hid hsl
    clear hqs
    go_wp2_with fail
    refine region_plan (fun x => ∃ y : Ext W2, x = y.1) 21 (.takes [0, 1, 2, 4, 5, 6, 7, 9, 10, 11, 12, 14, 15, 16, 17] (.one 3 (.one 8 (.one 13 (.one 18 (.one 19 (.one 20 .leaf))))))) hmx (by kernel_rfl) (by intro c x v a w h; cases x <;> exact h) ⟨⟨x1.drew, HBd.out⟩, rfl⟩ ?_
    repeat (rw [wpPlan_takes_cons]; simp only [nth_zero, nth_succ]; go_big_quiet_step (fail); refine wpQuiet_nil ?_)
    rw [wpPlan_takes_nil]
    clear d0 d1 d2 d3 hn0 hn1 hi0 hi1 kd0 kd1
    rw [wpPlan_one]
    simp only [nth_zero, nth_succ]
    go_wp2_with fail
    go_at_call 23
    refine (HPut.out x1.drew nx HN0.out HN1.out).mono ?_
    rintro e x2 ⟨v2, rfl, hrow, hb⟩
    have K2 : Hid (Below W2.heap.size W2 x2) := HBd.out.trans (hb.mono HBd.out.size)
    have hs := Sl.of_owns (bs := putL nx 4) (by rw [putL_length]; exact hrow)
    obtain ⟨a2, n2, hv, -⟩ := (show Sl _ _ _ _ from hs)
    rw [putL_length] at hv
    subst hv
    have S2 := Lib.hid hs
    clear hrow hb hs
    go_wp2_with fail
    refine planPost_mk ⟨⟨x2, K2.out⟩, rfl⟩ ?_
    rw [wpPlan_one]
    simp only [nth_zero, nth_succ]
    go_wp2_with fail
    go_at_call 23
    refine (HPut1.out x2 (qsn : Int) (by omega) (by have := HSL8.out; omega)).mono ?_
    rintro e x3 ⟨v3, rfl, hrow, hb⟩
    have K3 : Hid (Below W2.heap.size W2 x3) := K2.out.trans (hb.mono K2.out.size)
    have S2 := Lib.hid (S2.out.below hb)
    have hs := Sl.of_owns (bs := putL (qsn : Int) 1) (by rw [putL_length]; exact hrow)
    obtain ⟨a3, n3, hv, -⟩ := (show Sl _ _ _ _ from hs)
    rw [putL_length] at hv
    subst hv
    have S3 := Lib.hid hs
    clear hrow hb hs
    go_wp2_with fail
    refine planPost_mk ⟨⟨x3, K3.out⟩, rfl⟩ ?_
    rw [wpPlan_one]
    simp only [nth_zero, nth_succ]
    go_wp2_with fail
    go_at_call 23
    refine (HPut1.out x3 kd HK0.out.1 HK0.out.2).mono ?_
    rintro e x4 ⟨v4, rfl, hrow, hb⟩
    have K4 : Hid (Below W2.heap.size W2 x4) := K3.out.trans (hb.mono K3.out.size)
    have S2 := Lib.hid (S2.out.below hb)
    have S3 := Lib.hid (S3.out.below hb)
    have hs := Sl.of_owns (bs := putL kd 1) (by rw [putL_length]; exact hrow)
    obtain ⟨a4, n4, hv, -⟩ := (show Sl _ _ _ _ from hs)
    rw [putL_length] at hv
    subst hv
    have S4 := Lib.hid hs
    clear hrow hb hs
    go_wp2_with fail
    refine planPost_mk ⟨⟨x4, K4.out⟩, rfl⟩ ?_
    rw [wpPlan_one]
    simp only [nth_zero, nth_succ]
    go_wp2_with fail
    go_at_call 23
    refine (HPut.out x4 id HI0.out (by have := HI1.out; omega)).mono ?_
    rintro e x5 ⟨v5, rfl, hrow, hb⟩
    have K5 : Hid (Below W2.heap.size W2 x5) := K4.out.trans (hb.mono K4.out.size)
    have S2 := Lib.hid (S2.out.below hb)
    have S3 := Lib.hid (S3.out.below hb)
    have S4 := Lib.hid (S4.out.below hb)
    have hs := Sl.of_owns (bs := putL id 4) (by rw [putL_length]; exact hrow)
    obtain ⟨a5, n5, hv, -⟩ := (show Sl _ _ _ _ from hs)
    rw [putL_length] at hv
    subst hv
    have S5 := Lib.hid hs
    clear hrow hb hs
    go_wp2_with fail
    refine planPost_mk ⟨⟨x5, K5.out⟩, rfl⟩ ?_
    rw [wpPlan_one]
    simp only [nth_zero, nth_succ]
    obtain ⟨x6, hx6⟩ : ∃ x, x5.alloc (.cells #[.slice a2 4 n2, .slice a3 1 n3, .slice a4 1 n4, .slice a5 4 n5] 31) = x := ⟨_, rfl⟩
    have K6 : Hid (Below W2.heap.size W2 x6) := K5.out.trans (by rw [← hx6]; exact (below_new x5 _).mono K5.out.size)
    have BS : (Instr.buildSlice 82 4 #[(0, .slice a2 4 n2), (1, .slice a3 1 n3), (2, .slice a4 1 n4), (3, .slice a5 4 n5)]).run Tryz.prog x5 = .ok (.slice (some ⟨x5.heap.size, 0, none⟩) 4 4) x6 := by rw [← hx6]; exact build_sls x5 a2 a3 a4 a5 4 1 1 4 n2 n3 n4 n5
    have SS : Hid (Sls x6 (.slice (some ⟨x5.heap.size, 0, none⟩) 4 4) [putL nx 4, putL (qsn : Int) 1, putL kd 1, putL id 4]) := sls4 hx6 S2.out S3.out S4.out S5.out
    clear hx6 S2 S3 S4 S5
    refine wpList_build_run _ _ _ rfl rfl _ _ rfl BS ?_
    clear BS
    go_wp2_with fail
    refine planPost_mk ⟨⟨x6, K6.out⟩, rfl⟩ ?_
    rw [wpPlan_one]
    simp only [nth_zero, nth_succ]
    go_wp2_with fail
    go_at_call 22
    obtain ⟨H, hH⟩ : ∃ H, putL nx 4 ++ [(qsn : Int), kd] ++ putL id 4 = H := ⟨_, rfl⟩
    have HH := Lib.hid hH
    have hHl : Hid (H.length = 10) := by show _ = _; rw [← hH]; simp [putL_length]
    have hfl : [putL nx 4, putL (qsn : Int) 1, putL kd 1, putL id 4].flatten = H := by
      rw [← hH, putL_one (n := (qsn : Int)) (by omega) (by have := HSL8.out; omega), putL_one HK0.out.1 HK0.out.2]
      simp
    have hcc := concat_any _ _ x6 SS.out (by rw [hfl, hHl.out]; omega)
    rw [hfl] at hcc
    refine hcc.mono ?_
    clear hcc hfl hH SS
    rintro e x7 ⟨v7, rfl, hrow, hb⟩
    have K7 : Hid (Below W2.heap.size W2 x7) := K6.out.trans (hb.mono K6.out.size)
    have O7 : Hid (OwnB W2 x7 v7 H) := own_weakB hrow K6.out.size
    clear hrow hb K2 K3 K4 K5 HBd HN0 HN1 HI0 HI1
    go_wp2_with fail
    refine planPost_mk ⟨⟨x7, K7.out⟩, rfl⟩ ?_
    rw [wpPlan_leaf]
    simp only [List.drop_succ_cons, List.drop_zero]
    have HDR := Lib.hid (dirt_rng HGK.out (by have := HV1.out; unfold sGood at this; simp only [Bool.and_eq_true] at this; exact this.1.1.1.1.1))
    have hqd : qdn ≤ 32 := by
      have h1 := HIn.out.dl
      have h2 : g.slots ≤ 32 := by
        have e1 := HGK.out.s8
        have e2 := HGK.out.y4
        have : g.s * g.y ≤ 8 * 4 := Nat.mul_le_mul e1 e2
        exact this
      have h3 := HDN.out
      simp only at h1
      omega
    obtain ⟨k0, k1, k2, k3, k4, k5, k6, k7, k8, k9, k10⟩ := KR.out x7 K7.out
    go_wp2_with fail
    clear k0 k1 k2 k3 k4 k5 k6 k7 k8 k9 k10
    go_loopw [6, 39] (fun bv iv wr => ∃ k : Nat, k ≤ qdn ∧ iv = .int .i64 (k : Int) ∧ Hid (OwnB W2 wr bv (H ++ (d.take k).map (· + 1))) ∧ Hid (Below W2.heap.size W2 wr)) (fun _ iv _ => qdn - (intOf iv).toNat)
    case atStart => exact ⟨0, Nat.zero_le _, rfl, by rw [List.take_zero, List.map_nil, List.append_nil]; exact O7, K7⟩
    case round =>
      clear O7 K7 K6
      obtain ⟨k, hk, rfl, HO, HB3⟩ := hrel
      by_cases hlt : k < qdn
      · have q1 : (k : Int) < (qdn : Int) := by omega
        have HLT := Lib.hid hlt
        obtain ⟨x, hx⟩ : ∃ x, d[k]? = some x := ⟨_, List.getElem?_eq_getElem (by rw [← HDN.out]; exact hlt)⟩
        obtain ⟨r0, r1⟩ := HDR.out x (List.mem_of_getElem? hx)
        obtain ⟨db, dof, rfl, hcc⟩ := HDC.out (by omega)
        have c1 := hcc _ HB3.out k hlt
        rw [hx] at c1
        simp only [Option.getD_some] at c1
        have HCD : Hid (Calls Tryz.prog 24 #[.int .i64 x] wr fun e w' => e = .returned (.int .u8 (x + 1)) ∧ w' = wr) := by
          have := sg_code x (by omega) (by omega) (by omega) wr
          have e : plV x = x + 1 := by unfold plV; rw [if_neg (by omega)]
          rw [e] at this
          exact this
        have S3 := lit1_sl wr (x + 1)
        have b3 := below_new wr (.cells #[.int .u8 (x + 1)] 5)
        obtain ⟨x3, hx3⟩ : ∃ y, wr.alloc (.cells #[.int .u8 (x + 1)] 5) = y := ⟨_, rfl⟩
        rw [hx3] at S3 b3
        have K3 : Hid (Below W2.heap.size W2 x3) := HB3.out.trans (b3.mono HB3.out.size)
        obtain ⟨v8, x4, R8, O8, K8⟩ := (HO.out.below b3).app K3.out S3 (by have := hHl.out; rw [List.length_append, this, List.length_map, List.length_take]; simp; omega)
        have O9 : Hid (OwnB W2 x4 v8 (H ++ (d.take (k + 1)).map (· + 1))) := by
          have := O8.out
          rw [List.append_assoc] at this
          show OwnB _ _ _ _
          rw [take_at hx, List.map_append]
          exact this
        clear hx hcc S3 b3 O8 hlt K3
        go_wp2_with fail
        refine HCD.out.mono ?_
        rintro e y2 ⟨rfl, rfl⟩
        go_wp2_with (at_builtin; refine wpList_append_run (.tmp 43) (.tmp 46) 31 rfl rfl _ _ _ rfl rfl R8.out ?_)
        exact ⟨⟨k + 1, HLT.out, by simp, O9, K8⟩, by have := HLT.out; simp [intOf]; omega⟩
      · obtain rfl : k = qdn := by omega
        have O9 : Hid (OwnB W2 wr u6 (H ++ d.map (· + 1))) := by
          have := HO.out
          rw [List.take_of_length_le (by rw [HDN.out]; exact Nat.le_refl _)] at this
          exact this
        clear hlt HO
        go_wp2_with fail
        obtain ⟨H2, hH2⟩ : ∃ H2, H ++ d.map (· + 1) = H2 := ⟨_, rfl⟩
        have HH2 := Lib.hid hH2
        have HL2 : Hid (H2.length ≤ 42) := by
          show _ ≤ _
          rw [← hH2, List.length_append, hHl.out, List.length_map, ← HDN.out]
          omega
        rw [hH2] at O9
        have HNew : Hid (∀ x : World, Calls Tryz.prog 25 #[.int .i64 (g.b : Int)] x fun e w' => ∃ v, e = .returned v ∧ Sl .u8 w' v (List.replicate g.n9 0) ∧ Below x.heap.size x w') := fun x => bi_new (g.b : Int) x
        have HN9 : Hid (g.n9 ≤ 8) := sizeB_le64 HGK.out
        have HLenS : Hid (∀ k, (((sSnaps g l).take k).flatten).length ≤ 1000) := fun k => by
          have h1 := flat_len (m := g.step) ((sSnaps g l).take k) (fun y hy => snaps_len (fun t ht => (HIn.out.sn t ht).ch) y (List.mem_of_mem_take hy))
          have h2 : ((sSnaps g l).take k).length ≤ 8 := by rw [List.length_take]; unfold sSnaps; simp; omega
          have h3 : g.step ≤ 76 := by
            unfold SG.step
            have := HN9.out
            have := HGK.out.b64
            omega
          have h4 := Nat.mul_le_mul h2 h3
          omega
        clear hH2
        go_loopw [6, 49] (fun bv iv wr2 => ∃ k : Nat, k ≤ 8 ∧ iv = .int .i64 (k : Int) ∧ Hid (OwnB W2 wr2 bv (H2 ++ ((sSnaps g l).take k).flatten)) ∧ Hid (Below W2.heap.size W2 wr2)) (fun _ iv _ => 8 - (intOf iv).toNat)
        case atStart => exact ⟨0, Nat.zero_le _, rfl, by rw [List.take_zero, List.flatten_nil, List.append_nil]; exact O9, HB3⟩
        case round =>
          clear O9 HB3
          obtain ⟨k, hk, rfl, HO, HB4⟩ := hrel
          obtain ⟨k0, k1, k2, k3, k4, k5, k6, k7, k8, k9, k10⟩ := KR.out _ HB4.out
          by_cases hlt : k < 8
          · have q1 : (k : Int) < 8 := by omega
            have HLT := Lib.hid hlt
            obtain ⟨s, hs⟩ : ∃ s, l[k]?.getD (noS g) = s := ⟨_, rfl⟩
            have HSk := Lib.hid hs
            clear hs hlt
            go_wp2_with fail
            refine (HNew.out wr).mono ?_
            rintro e y1 ⟨v8, rfl, hs8, hb8⟩
            obtain ⟨z8, c8, rfl⟩ := sl_form hs8
            obtain ⟨n9, hn9⟩ : ∃ n, (List.replicate g.n9 (0 : Int)).length = n := ⟨_, rfl⟩
            rw [hn9] at hs8 ⊢
            clear hn9
            have ST := new_sn y1 (0, (z8, n9, c8), (none, 0, 0))
            obtain ⟨Y, hY⟩ : ∃ Y, y1.alloc (.cells (svL (0, (z8, n9, c8), (none, 0, 0))).toArray 51) = Y := ⟨_, rfl⟩
            have bY : Below y1.heap.size y1 Y := by rw [← hY]; exact below_new _ _
            have rY : RowC Y y1.heap.size 51 (svL (0, (z8, n9, c8), (none, 0, 0))) := by rw [← hY]; exact RowC.new y1 _ _
            rw [hY] at ST
            obtain ⟨C, hC⟩ : ∃ C, y1.heap.size = C := ⟨_, rfl⟩
            have HCN : Hid (wr.heap.size ≤ C) := by show _ ≤ _; rw [← hC]; exact hb8.size
            have HCY : Hid (C ≤ Y.heap.size) := by show _ ≤ _; rw [← hC]; exact bY.size
            have bW : Below wr.heap.size wr Y := hb8.trans (bY.mono hb8.size)
            have HBW := Lib.hid bW
            have HBY : Hid (Below W2.heap.size W2 Y) := HB4.out.trans (bW.mono HB4.out.size)
            have HOY : Hid (OwnB W2 Y u6 (H2 ++ ((sSnaps g l).take k).flatten)) := HO.out.below bW
            have HS8 : Hid (Sl .u8 Y (.slice z8 n9 c8) (List.replicate g.n9 0)) := hs8.below bY
            rw [hC] at ST rY
            simp only [svV, slV] at ST
            have RY := Lib.hid rY
            clear rY bY hY bW hs8 hb8 k0 k1 k2 k3 k4 k5 k6 k7 k8 k9 k10
            have k6 := (KR.out _ HBY.out).2.2.2.2.2.2.1
            go_upto_if 60 with (fail)
            go_cut [60] from 61 to 65 (fun s64 wx => ∃ (i1 : Int) (a1 a2 : Option Addr) (n1 c1 n2 c2 : Nat), Hid (RowC wx C 51 (svL (i1, (a1, n1, c1), (a2, n2, c2)))) ∧ Hid (i1 = s.id) ∧ Hid (Sl .u8 wx (.slice a1 n1 c1) s.ch) ∧ Hid (Prt wx (.slice a2 n2 c2) s.tb) ∧ Hid (OwnB W2 wx u6 (H2 ++ ((sSnaps g l).take k).flatten)) ∧ Hid (Below wr.heap.size wr wx))
            case first =>
              clear ST
              by_cases hin : k < qsn
              · have q2 : (k : Int) < (qsn : Int) := by omega
                obtain ⟨s', hs'⟩ : ∃ s', l[k]? = some s' := ⟨_, List.getElem?_eq_getElem (by rw [← HSN.out]; exact hin)⟩
                have HSS : Hid (s' = s) := by have := HSk.out; rw [hs'] at this; exact this
                obtain ⟨rr, hS⟩ := KSn.out W2 (Below.refl _ _)
                have hSY := hS.below HBY.out
                obtain ⟨b, off, qv, rfl, hb, hrr, hq, e0, e1, e2⟩ := hSY.at hs'
                have LD := load_sn e0 e1 e2
                obtain ⟨Z, hST2, hRZ, hgZ⟩ := store_snC qv RY.out rfl
                obtain ⟨b', off', q', -, -, hrr', hq', -, -, -⟩ := hS.at hs'
                obtain rfl : qv = q' := by rw [hrr] at hrr'; exact Option.some.inj hrr'
                obtain ⟨i1, ⟨a1, n1, c1⟩, ⟨a2, n2, c2⟩⟩ := qv
                simp only [svV, slV] at LD hST2
                have hwY : wr.heap.size ≤ Y.heap.size := Nat.le_trans HCN.out HCY.out
                have hZ : Below wr.heap.size wr Z := HBW.out.grown hgZ hwY (fun j e => by cases e; exact HCN.out)
                have HZ := Lib.hid hZ
                have HZ2 : Hid (Below W2.heap.size W2 Z) := HB4.out.trans (hZ.mono HB4.out.size)
                have HOZ : Hid (OwnB W2 Z u6 (H2 ++ ((sSnaps g l).take k).flatten)) := HO.out.below hZ
                have HQ2 := Lib.hid hq'
                have HRZ := Lib.hid hRZ
                clear hZ hwY hRZ hgZ hq' hrr hrr' hq e0 e1 e2 hb hS hSY hs' hin RY HOY
                go_wp2_with fail
                go_meet
                have hE := HSS.out
                exact ⟨i1, a1, a2, n1, c1, n2, c2, HRZ, by rw [← hE]; exact HQ2.out.id, by rw [← hE]; exact HQ2.out.ch.below HZ2.out, by rw [← hE]; exact HQ2.out.tb.below HZ2.out, HOZ, HZ⟩
              · have q2 : ¬ (k : Int) < (qsn : Int) := by omega
                have q3 : decide (k < qsn) = false := by simpa using hin
                have HSS : Hid (s = noS g) := by
                  have := HSk.out
                  rw [List.getElem?_eq_none (by rw [← HSN.out]; omega)] at this
                  exact this.symm
                clear hin
                go_wp2_with fail
                go_meet
                have hE := HSS.out
                exact ⟨0, z8, none, n9, c8, 0, 0, RY, by rw [hE]; rfl, by rw [hE]; exact HS8.out, by rw [hE]; exact Prt.nil Y, HOY, HBW⟩
            case rest =>
              obtain ⟨i1, a1, a2, n1, c1, n2, c2, HRC, HID, HCH, HPT, HOW, HBX⟩ := hcut
              have HSin : Hid (0 ≤ s.id ∧ s.id ≤ 1000000 ∧ s.ch.length = g.n9 ∧ PrIn g s.tb ∧ s.tb.length ≤ 1000) := by
                have hk := HSk.out
                cases hl : l[k]? with
                | none =>
                  rw [hl] at hk
                  rw [← hk]
                  exact ⟨Int.le_refl 0, by show (0 : Int) ≤ 1000000; decide, noS_len g, ⟨List.Pairwise.nil, (fun p hp => by cases hp), (fun p hp => by cases hp)⟩, Nat.zero_le _⟩
                | some s' =>
                  rw [hl] at hk
                  have hk2 : s' = s := hk
                  subst hk2
                  have hm := List.mem_of_getElem? hl
                  have h := HIn.out.sn s' hm
                  exact ⟨h.id0, h.id1, h.ch, h.tb, (HKL.out.2 s' hm).2⟩
              have j0 : 0 ≤ i1 := by rw [HID.out]; exact HSin.out.1
              have j1 : i1 ≤ 1000000 := by rw [HID.out]; exact HSin.out.2.1
              have HJ0 := Lib.hid j0
              have HJ1 := Lib.hid j1
              have HB6 : Hid (Below W2.heap.size W2 wc) := HB4.out.trans (HBX.out.mono HB4.out.size)
              have HBd : Hid (Below wc.heap.size wc wc.drew) := (Below.refl _ wc).drew
              have d0 : ∀ y : Ext wc, y.1.cell? ⟨C, 0, none⟩ = some (.int .i64 i1) := fun y => (HRC.out.below y.2).cell 0 _ rfl
              have d1 : ∀ y : Ext wc, y.1.cell? ⟨C, 1, none⟩ = some (.slice a1 n1 c1) := fun y => (HRC.out.below y.2).cell 1 _ rfl
              have d2 : ∀ y : Ext wc, y.1.cell? ⟨C, 2, none⟩ = some (.slice a2 n2 c2) := fun y => (HRC.out.below y.2).cell 2 _ rfl
              have d3 : ∀ y : Ext wc, y.1.cell? ⟨B, 0, none⟩ = some (.int .i64 (g.b : Int)) := fun y => (KR.out y.1 (HB6.out.trans (y.2.mono HB6.out.size))).1
              obtain ⟨nt, hnt⟩ : ∃ n, (H2 ++ ((sSnaps g l).take k).flatten).length = n := ⟨_, rfl⟩
              obtain ⟨ua, uc, rfl⟩ := sl_form HOW.out.sl
              rw [hnt]
              have hOW := HOW.out
              rw [hnt] at hOW
              have HOX := Lib.hid hOW
              have HCL : Hid (n1 = s.ch.length) := by obtain ⟨a, c, e, -⟩ := HCH.out; cases e; rfl
              clear HRC ST k6 HOW hOW hnt
              go_wp2_with fail
              refine region_plan (fun x => ∃ y : Ext wc, x = y.1) 14 (.takes [0, 1, 2, 3, 5, 6, 7, 8, 9, 10] (.one 4 (.one 11 (.one 12 (.one 13 .leaf))))) hmx (by kernel_rfl) (by intro c x v a w h; cases x <;> exact h) ⟨⟨wc.drew, HBd.out⟩, rfl⟩ ?_
              repeat (rw [wpPlan_takes_cons]; simp only [nth_zero, nth_succ]; go_big_quiet_step (fail); refine wpQuiet_nil ?_)
              clear d0 d1 d2 d3
              rw [wpPlan_takes_nil, wpPlan_one]
              simp only [nth_zero, nth_succ]
              go_wp2_with fail
              go_at_call 23
              refine (HPut.out wc.drew i1 HJ0.out (by have := HJ1.out; omega)).mono ?_
              rintro e x2 ⟨v9, rfl, hrow, hb⟩
              have K2 : Hid (Below wc.heap.size wc x2) := HBd.out.trans (hb.mono HBd.out.size)
              have hs := Sl.of_owns (bs := putL i1 4) (by rw [putL_length]; exact hrow)
              obtain ⟨a9, c9, hv, -⟩ := (show Sl _ _ _ _ from hs)
              rw [putL_length] at hv
              subst hv
              have S9 := Lib.hid hs
              clear hrow hb hs
              go_wp2_with fail
              refine planPost_mk ⟨⟨x2, K2.out⟩, rfl⟩ ?_
              rw [wpPlan_one]
              simp only [nth_zero, nth_succ]
              go_wp2_with fail
              go_at_call 26
              refine (HPLC.out x2 _ s.tb (HPT.out.below K2.out) HSin.out.2.2.2.2 HSin.out.2.2.2.1).mono ?_
              rintro e x3 ⟨v10, rfl, hrow, hb⟩
              have K3 : Hid (Below wc.heap.size wc x3) := K2.out.trans (hb.mono K2.out.size)
              have hs := Sl.of_owns (bs := sPlaces g.b s.tb) (by rw [places_len]; exact hrow)
              have SA := Lib.hid (S9.out.below hb)
              obtain ⟨a10, c10, hv, -⟩ := (show Sl _ _ _ _ from hs)
              rw [places_len] at hv
              subst hv
              have S10 := Lib.hid hs
              clear hrow hb hs S9
              go_wp2_with fail
              refine planPost_mk ⟨⟨x3, K3.out⟩, rfl⟩ ?_
              rw [wpPlan_one]
              simp only [nth_zero, nth_succ]
              obtain ⟨x4, hx4⟩ : ∃ x, x3.alloc (.cells #[.slice ua nt uc, .slice a9 4 c9, .slice a1 n1 c1, .slice a10 g.b c10] 31) = x := ⟨_, rfl⟩
              have K4 : Hid (Below wc.heap.size wc x4) := K3.out.trans (by rw [← hx4]; exact (below_new x3 _).mono K3.out.size)
              have BS : (Instr.buildSlice 82 4 #[(0, .slice ua nt uc), (1, .slice a9 4 c9), (2, .slice a1 n1 c1), (3, .slice a10 g.b c10)]).run Tryz.prog x3 = .ok (.slice (some ⟨x3.heap.size, 0, none⟩) 4 4) x4 := by rw [← hx4]; exact build_sls x3 ua a9 a1 a10 nt 4 n1 g.b uc c9 c1 c10
              have SS : Hid (Sls x4 (.slice (some ⟨x3.heap.size, 0, none⟩) 4 4) [H2 ++ ((sSnaps g l).take k).flatten, putL i1 4, s.ch, sPlaces g.b s.tb]) := sls4 hx4 (HOX.out.sl.below K3.out) SA.out (HCH.out.below K3.out) S10.out
              clear hx4 SA S10
              refine wpList_build_run _ _ _ rfl rfl _ _ rfl BS ?_
              clear BS
              go_wp2_with fail
              refine planPost_mk ⟨⟨x4, K4.out⟩, rfl⟩ ?_
              rw [wpPlan_one]
              simp only [nth_zero, nth_succ]
              go_wp2_with fail
              go_at_call 22
              have hfl : [H2 ++ ((sSnaps g l).take k).flatten, putL i1 4, s.ch, sPlaces g.b s.tb].flatten = H2 ++ ((sSnaps g l).take (k + 1)).flatten := by
                rw [snaps_succ g l HLT.out, HSk.out, HID.out]
                unfold sSnapB
                simp
              have hcc := concat_any _ _ x4 SS.out (by rw [hfl, List.length_append]; have := HL2.out; have := HLenS.out (k + 1); omega)
              rw [hfl] at hcc
              refine hcc.mono ?_
              clear hcc hfl SS
              rintro e x5 ⟨v11, rfl, hrow, hb⟩
              have K5 : Hid (Below wc.heap.size wc x5) := K4.out.trans (hb.mono K4.out.size)
              have HB8 : Hid (Below W2.heap.size W2 x5) := HB6.out.trans (K5.out.mono HB6.out.size)
              have O8 : Hid (OwnB W2 x5 v11 (H2 ++ ((sSnaps g l).take (k + 1)).flatten)) := own_weakB hrow (Nat.le_trans HB6.out.size K4.out.size)
              clear hrow hb
              go_wp2_with fail
              refine planPost_mk ⟨⟨x5, K5.out⟩, rfl⟩ ?_
              rw [wpPlan_leaf]
              simp only [List.drop_succ_cons, List.drop_zero]
              go_wp2_with fail
              exact ⟨⟨k + 1, HLT.out, by simp, O8, HB8⟩, by have := HLT.out; simp [intOf]; omega⟩
          · obtain rfl : k = 8 := by omega
            have O9 : Hid (OwnB W2 wr u6 (H2 ++ (sSnaps g l).flatten)) := by
              have := HO.out
              rw [snaps_all] at this
              exact this
            have HPC := Lib.hid (HPLC.out wr _ ps (KPr.out _ HB4.out) HPLn.out HIn.out.pr)
            clear hlt HO
            go_wp2_with fail
            refine HPC.out.mono ?_
            rintro e x2 ⟨v12, rfl, hrow, hb⟩
            have K2 : Hid (Below W2.heap.size W2 x2) := HB4.out.trans (hb.mono HB4.out.size)
            have O2 := O9.out.below hb
            obtain ⟨v13, x3, R3, O3, K3⟩ := O2.app K2.out (Sl.of_owns (bs := sPlaces g.b ps) (by rw [places_len]; exact hrow)) (by rw [List.length_append, places_len]; have := HL2.out; have := HLenS.out 8; rw [snaps_all] at this; have := HGK.out.b64; omega)
            have OF : Hid (x3.ownsRow B 5 1 v13 (sEnc g ⟨d, l, nx, kd, id, ps⟩).length (u8s (sEnc g ⟨d, l, nx, kd, id, ps⟩))) := by
              have := O3.out
              rw [← HH2.out, ← HH.out, HSN.out, ← sEnc_is] at this
              exact own_weak this HBs2.out
            clear hrow hb O2 k0 k1 k2 k3 k4 k5 k6 k7 k8 k9 k10 HPC
            go_wp2_with (at_builtin; refine wpList_append_run (.tmp 81) (.tmp 87) 31 rfl rfl _ _ _ rfl rfl R3.out ?_)
            refine bodyPost_ret (results_tmp2 rfl _ _ _) rfl ?_
            exact ⟨_, _, rfl, ⟨fun _ => ⟨rfl, OF.out⟩, fun h => absurd h (by rw [HV1.out]; decide)⟩, HBF.out x3 K3.out⟩
end Go.Proofs.YtfihpljgbghogaaGreat

/- The program's Decode of a state. -/
namespace Go.Proofs.YtfihpljgbghogaaGreat
open Go.RowKit Go.Shelf Go.Lib
set_option linter.unusedVariables false
set_option linter.unusedSimpArgs false
/-- The state as the program reads it. -/
def pParse (g : SG) (bs : List Int) : ST := ⟨dirtP g bs g.slots, snK g bs 8, getL (seg bs 0 4), bs[5]?.getD 0, getL (seg bs 6 4), prFrom 0 (seg bs (g.at 8) g.b)⟩
theorem dec_is {g : SG} (hg : g.Ok) {bs : List Int} (hl : bs.length = g.bts) :
    (sGood g (pParse g bs) = true ∧ sEnc g (pParse g bs) = bs → sDec g bs = some (pParse g bs)) ∧ (¬ (sGood g (pParse g bs) = true ∧ sEnc g (pParse g bs) = bs) → sDec g bs = none) := by
  constructor
  · rintro ⟨h1, h2⟩
    have := dec_enc hg h1
    rw [h2] at this
    exact this
  · intro h
    cases hd : sDec g bs with
    | none => rfl
    | some s =>
      exfalso
      have h2 := dec_some hd
      unfold sDec at hd
      split at hd
      · rename_i c
        have hs : sParse g bs = s := Option.some.inj hd
        obtain ⟨c1, c2, c3, c4⟩ := c
        have e : sParse g bs = pParse g bs := by
          have hp := parse_is g hl (by omega)
          rw [hp] at c3 ⊢
          unfold pParse
          have e1 : dirtK g bs g.slots = dirtP g bs g.slots := by
            unfold dirtK dirtP
            refine List.map_congr_left fun x hx => ?_
            have hr := dirt_rng hg (d := dirtK g bs g.slots) (by unfold sGood at c3; simp only [Bool.and_eq_true] at c3; exact c3.1.1.1.1.1) (x - 1) (by unfold dirtK; exact List.mem_map.2 ⟨x, hx, rfl⟩)
            show x - 1 = plA x
            unfold plA
            rw [if_neg (by omega)]
          rw [e1, seg_all (a := g.at 8) (n := g.b) (by rw [hl]; exact g.at_end.symm)]
        rw [e] at hs
        rw [← hs] at h2
        exact h h2
      · cases hd
theorem pParse_lens {g : SG} (hg : g.Ok) (bs : List Int) : Lens 1000 (snK g bs 8) ∧ (prFrom 0 (seg bs (g.at 8) g.b)).length ≤ 1000 := by
  have hb := hg.b64
  have h9 := sizeB_le64 hg
  have hseg : ∀ a n, (seg bs a n).length ≤ n := fun a n => by unfold seg; rw [List.length_take]; omega
  refine ⟨⟨?_, fun s hs => ?_⟩, ?_⟩
  · unfold snK; rw [List.length_map, List.length_range]; omega
  · unfold snK at hs
    obtain ⟨i, -, rfl⟩ := List.mem_map.1 hs
    unfold sSnapR
    constructor
    · show (seg (seg bs (g.at i) g.step) 4 g.n9).length ≤ 1000
      unfold seg
      rw [List.length_take]
      have : g.n9 ≤ 8 := h9
      omega
    · show (prFrom 0 (seg (seg bs (g.at i) g.step) (4 + g.n9) g.b)).length ≤ 1000
      have h1 := prFrom_len (seg (seg bs (g.at i) g.step) (4 + g.n9) g.b) 0
      have h2 : (seg (seg bs (g.at i) g.step) (4 + g.n9) g.b).length ≤ g.b := by unfold seg; rw [List.length_take]; omega
      omega
  · have h1 := prFrom_len (seg bs (g.at 8) g.b) 0
    have h2 := hseg (g.at 8) g.b
    omega
theorem dirtP_is64 {g : SG} {bs : List Int} (hB : IsBytes bs) (k : Nat) : ∀ x ∈ dirtP g bs k, Is64 x := fun x hx => by
  unfold dirtP at hx
  obtain ⟨y, hy, rfl⟩ := List.mem_map.1 hx
  obtain ⟨j, hj⟩ := List.getElem?_of_mem (List.mem_of_mem_take hy)
  have := isB_seg hB 10 g.slots j
  rw [hj] at this
  simp only [Option.getD_some] at this
  unfold plA Is64
  split <;> omega
attribute [-simp] Tryz.isAgg51 Tryz.zeroValue51 Tryz.isAgg54 Tryz.zeroValue54 Tryz.isAgg30 Tryz.zeroValue30
attribute [-go_sem] loadVar storeVar
attribute [local go_sem] loadVar_openQ storeVar_openQ zero_sn zero_prs zero_st build_sn build_st0
set_option maxRecDepth 100000 in
set_option maxHeartbeats 4000000 in
/-- **Decode** where the sizes are no good. -/
theorem sg_decodeN {w : World} {v : Value} (G : Geo) (hi : G.In) (hb : ¬ G.good) :
    Calls Tryz.prog 9 #[.agg G.v, v] w fun e w' => e = .returned (.tuple #[stV noQ, .int .i64 1]) ∧ Below w.heap.size w w' := by
  obtain ⟨gb, gs, gy, ga, gr⟩ := G
  have HG : Hid (∀ x : World, Calls Tryz.prog 30 #[.agg (Geo.v ⟨gb, gs, gy, ga, gr⟩)] x fun e w' => e = .returned (.bool false) ∧ Below x.heap.size x w') := fun x =>
    (gmGood ⟨gb, gs, gy, ga, gr⟩ hi x).mono fun e y hy => ⟨by rw [hy.1, decide_eq_false hb], hy.2⟩
  clear hb hi
  unfold Geo.v at *
  simp only at *
  obtain ⟨B, hB⟩ : ∃ B, w.heap.size = B := ⟨_, rfl⟩
  obtain ⟨W1, hW1⟩ : ∃ W, w.alloc (.cells #[.int .i64 gb, .int .i64 gs, .int .i64 gy, .int .i64 ga, .int .i64 gr] 23) = W := ⟨_, rfl⟩
  obtain ⟨W2, hW2⟩ : ∃ W, W1.alloc (.cells #[.slice none 0 0, .slice none 0 0, .int .i64 0, .int .i64 0, .int .i64 0, .slice none 0 0] 30) = W := ⟨_, rfl⟩
  have s1 : W1.heap.size = B + 1 := by rw [← hW1, ← hB]; simp
  have r1 : RowC W1 B 23 [.int .i64 gb, .int .i64 gs, .int .i64 gy, .int .i64 ga, .int .i64 gr] := by rw [← hW1, ← hB]; exact RowC.new _ _ _
  have r2 : RowC W2 (B + 1) 30 (stL noQ) := by rw [← hW2, ← s1]; exact RowC.new _ _ _
  have b1 : Below B w W1 := by rw [← hW1, ← hB]; exact below_new _ _
  have b2 : Below W1.heap.size W1 W2 := by rw [← hW2]; exact below_new _ _
  have HB : Hid (Below B w W2) := b1.trans (b2.mono (by omega))
  have HR2 := Lib.hid r2
  have t1 := r1.below b2
  have k0 := t1.cell 0 _ rfl
  have k1 := t1.cell 1 _ rfl
  have k2 := t1.cell 2 _ rfl
  have k3 := t1.cell 3 _ rfl
  have k4 := t1.cell 4 _ rfl
  have HS2 : Hid (B ≤ W2.heap.size) := by show B ≤ _; rw [← hB]; exact HB.out.size
  rw [hB]
  clear r1 b1 b2 t1 r2
  go_enter Tryz.func9, Tryz.ntmps9
  go_wp2_with fail
  refine (HG.out W2).mono ?_
  rintro e y ⟨rfl, hy⟩
  obtain ⟨z, hS, hRz, hgz⟩ := store_stC noQ (HR2.out.below hy) rfl
  have HZ : Hid (Below B w z) := (HB.out.trans (hy.mono HS2.out)).grown hgz (Nat.le_trans HS2.out hy.size) (fun j e => by cases e; exact Nat.le_succ B)
  have HRz := Lib.hid hRz
  simp only [stV, stL, slV, noQ] at hS
  clear hy k0 k1 k2 k3 k4 hRz hgz
  go_wp2_with fail
  exact bodyPost_ret (results_cell2 rfl rfl (load_stC HRz.out)) rfl ⟨rfl, HZ.out⟩
theorem ReadR.below {g : SG} {bs : List Int} {M : Nat} {W W' : World} {q : PS} (h : ReadR g bs M W q) (hb : Below W.heap.size W W') : ReadR g bs M W' q := ⟨h.nx, h.kd, h.id, h.dd.below hb, h.ss.below hb, h.pr.below hb⟩
theorem ReadR.low {g : SG} {bs : List Int} {M : Nat} {W W' : World} {q : PS} {row : Option Nat} (h : ReadR g bs M W q) (hg : W.grownBy W' row) (hr : ∀ j, row = some j → j < M) : ReadR g bs M W' q := ⟨h.nx, h.kd, h.id, h.dd.low hg hr, h.ss.low hg hr, h.pr.low hg hr⟩
theorem ReadR.decR {g : SG} {bs : List Int} {M N : Nat} {W : World} {q : PS} (h : ReadR g bs M W q) (hN : N ≤ M) (hd : sDec g bs = some (pParse g bs)) : DecR g bs N W q 0 := by
  unfold DecR
  rw [hd]
  refine ⟨rfl, h.nx, h.kd, h.id, own_weak h.dd hN, ?_, h.pr.weak hN⟩
  obtain ⟨r, h1, h2, h3⟩ := h.ss
  exact ⟨r, h1, own_weak h2 hN, fun j q s a b => (h3 j q s a b).weak hN⟩
theorem sl_numI {N : Nat} {w : World} {v : Value} {zs : List Int} (h : InO N w v zs) : Sl .i64 w v zs := sl_own h

set_option maxRecDepth 100000 in
set_option maxHeartbeats 4000000 in
/-- **Decode**. -/
theorem sg_decode {w : World} {v : Value} {bs : List Int} (g : SG) (hg : g.Ok) (r : Int) (hi : (g.geo r).In) (hr : (g.geo r).good) (hv : Sl .u8 w v bs) (hB : IsBytes bs) (hlm : bs.length ≤ 100000) :
    Calls Tryz.prog 9 #[.agg (g.v r), v] w fun e w' => ∃ q c, e = .returned (.tuple #[stV q, .int .i64 c]) ∧ DecR g bs w.heap.size w' q c ∧ Below w.heap.size w w' := by
  have HGD : Hid (∀ x : World, Calls Tryz.prog 30 #[.agg (g.v r)] x fun e w' => e = .returned (.bool true) ∧ Below x.heap.size x w') := fun x => (gmGood (g.geo r) hi x).mono fun e y hy => ⟨by rw [hy.1, decide_eq_true hr], hy.2⟩
  have HBT : Hid (∀ x : World, Calls Tryz.prog 19 #[.agg (g.v r)] x fun e w' => e = .returned (.int .i64 (g.bts : Int)) ∧ Below x.heap.size x w') := fun x => (gmBytes (g.geo r) hi x).mono fun e y hy => ⟨by rw [hy.1]; unfold Geo.oB; rw [if_pos hr, geo_bts hg], hy.2⟩
  have HGO := Lib.hid hg
  have HRD : Hid (bs.length = g.bts → ∀ x : World, Below w.heap.size w x → Calls Tryz.prog 31 #[.agg (g.v r), v] x fun e w' => ∃ q : PS, e = .returned (stV q) ∧ ReadR g bs x.heap.size w' q ∧ Below x.heap.size x w') := fun hl x hx => sg_read g HGO.out r (hv.below hx) hB hl
  have HEN : Hid (∀ (x : World) (q : PS) (M : Nat), ReadR g bs M x q → Calls Tryz.prog 7 #[.agg (g.v r), stV q] x fun e w' => ∃ u c, e = .returned (.tuple #[u, .int .i64 c]) ∧ EncR g (pParse g bs) x.heap.size w' u c ∧ Below x.heap.size x w') := fun x q M h => by
    have hl := pParse_lens HGO.out bs
    have := sg_encode (q := q) (d := dirtP g bs g.slots) (l := snK g bs 8) (ps := prFrom 0 (seg bs (g.at 8) g.b)) g HGO.out r hi hr (sl_numI h.dd) (dirtP_is64 hB _) ⟨h.ss.snp, h.pr.prt⟩ hl.1 hl.2
    rw [h.nx, h.kd, h.id] at this
    exact this
  obtain ⟨va, vn, vc, rfl⟩ : ∃ a n c, v = .slice a n c := by obtain ⟨a, c, e, -⟩ := hv; exact ⟨a, _, c, e⟩
  obtain rfl : vn = bs.length := by obtain ⟨a, c, e, -⟩ := hv; cases e; rfl
  obtain ⟨n, hn⟩ : ∃ n, bs.length = n := ⟨_, rfl⟩
  obtain ⟨T, hT⟩ : ∃ T, g.bts = T := ⟨_, rfl⟩
  have HV := Lib.hid hv
  have HN := Lib.hid hn
  have HT := Lib.hid hT
  rw [hn] at HV HRD hlm ⊢
  rw [hT] at HBT HRD
  have HBY := Lib.hid hB
  obtain ⟨B, hBB⟩ : ∃ B, w.heap.size = B := ⟨_, rfl⟩
  obtain ⟨W1, hW1⟩ : ∃ W, w.alloc (.cells (g.v r) 23) = W := ⟨_, rfl⟩
  obtain ⟨W2, hW2⟩ : ∃ W, W1.alloc (.cells #[.slice none 0 0, .slice none 0 0, .int .i64 0, .int .i64 0, .int .i64 0, .slice none 0 0] 30) = W := ⟨_, rfl⟩
  have s1 : W1.heap.size = B + 1 := by rw [← hW1, ← hBB]; simp
  have s2 : W2.heap.size = B + 2 := by rw [← hW2, World.size_alloc, s1]
  have r1 : RowC W1 B 23 [.int .i64 (g.b : Int), .int .i64 (g.s : Int), .int .i64 (g.y : Int), .int .i64 (g.a : Int), .int .i64 r] := by rw [← hW1, ← hBB]; exact RowC.new _ _ _
  have r2 : RowC W2 (B + 1) 30 (stL noQ) := by rw [← hW2, ← s1]; exact RowC.new _ _ _
  have b1 : Below B w W1 := by rw [← hW1, ← hBB]; exact below_new _ _
  have b2 : Below W1.heap.size W1 W2 := by rw [← hW2]; exact below_new _ _
  have HBF : Hid (Below B w W2) := b1.trans (b2.mono (by omega))
  have HR1 : Hid (RowC W2 B 23 [.int .i64 (g.b : Int), .int .i64 (g.s : Int), .int .i64 (g.y : Int), .int .i64 (g.a : Int), .int .i64 r]) := r1.below b2
  have HR2 := Lib.hid r2
  have HS2 := Lib.hid s2
  have HSZ := Lib.hid hBB
  have KR : Hid (∀ x : World, Below W2.heap.size W2 x → x.cell? ⟨B, 0, none⟩ = some (.int .i64 (g.b : Int)) ∧ x.cell? ⟨B, 1, none⟩ = some (.int .i64 (g.s : Int)) ∧ x.cell? ⟨B, 2, none⟩ = some (.int .i64 (g.y : Int)) ∧ x.cell? ⟨B, 3, none⟩ = some (.int .i64 (g.a : Int)) ∧ x.cell? ⟨B, 4, none⟩ = some (.int .i64 r)) := fun x hx =>
    ⟨(HR1.out.below hx).cell 0 _ rfl, (HR1.out.below hx).cell 1 _ rfl, (HR1.out.below hx).cell 2 _ rfl, (HR1.out.below hx).cell 3 _ rfl, (HR1.out.below hx).cell 4 _ rfl⟩
  rw [hBB] at HRD
  clear r1 r2 b1 b2 hv hB hg hr hi hn hT
  unfold SG.v at *
  obtain ⟨k0, k1, k2, k3, k4⟩ := KR.out W2 (Below.refl _ _)
  go_enter Tryz.func9, Tryz.ntmps9
  go_wp2_with fail
  refine (HGD.out W2).mono ?_
  rintro e x1 ⟨rfl, hx1⟩
  have H1 : Hid (Below W2.heap.size W2 x1) := hx1
  clear hx1 k0 k1 k2 k3 k4
  obtain ⟨k0, k1, k2, k3, k4⟩ := KR.out x1 H1.out
  go_wp2_with fail
  refine (HBT.out x1).mono ?_
  rintro e x2 ⟨rfl, hx2⟩
  have H2 : Hid (Below W2.heap.size W2 x2) := H1.out.trans (hx2.mono H1.out.size)
  clear hx2 k0 k1 k2 k3 k4
  have fin : Hid (∀ (y : World) (q : PS) (c : Int), RowC y (B + 1) 30 (stL q) → DecR g bs B y q c → Below B w y → True) := fun _ _ _ _ _ _ => trivial
  by_cases hln : n = T
  · subst hln
    have g0 : ((n : Int) != (n : Int)) = false := by simp
    have HLN : Hid (bs.length = g.bts) := by show _ = _; rw [HN.out, HT.out]
    obtain ⟨k0, k1, k2, k3, k4⟩ := KR.out x2 H2.out
    go_wp2_with fail
    refine (HRD.out (by first | exact HN.out | trivial) x2 (HBF.out.trans (H2.out.mono (by have := HS2.out; omega)))).mono ?_
    rintro e x3 ⟨⟨⟨da, dn, dc⟩, ⟨sa, sn, sc⟩, nx, kd, id, ⟨pa, pn, pc⟩⟩, rfl, hR, hx3⟩
    have ST := new_st x3 ⟨(da, dn, dc), (sa, sn, sc), nx, kd, id, (pa, pn, pc)⟩
    obtain ⟨Y, hY⟩ : ∃ Y, x3.alloc (.cells (stL ⟨(da, dn, dc), (sa, sn, sc), nx, kd, id, (pa, pn, pc)⟩).toArray 30) = Y := ⟨_, rfl⟩
    have bY : Below x3.heap.size x3 Y := by rw [← hY]; exact below_new _ _
    have rY : RowC Y x3.heap.size 30 (stL ⟨(da, dn, dc), (sa, sn, sc), nx, kd, id, (pa, pn, pc)⟩) := by rw [← hY]; exact RowC.new x3 _ _
    rw [hY] at ST
    obtain ⟨C, hC⟩ : ∃ C, x3.heap.size = C := ⟨_, rfl⟩
    have H3 : Hid (Below W2.heap.size W2 Y) := (H2.out.trans (hx3.mono H2.out.size)).trans (bY.mono (by have := H2.out.size; have := hx3.size; omega))
    have HRY := Lib.hid (hR.below bY)
    have hM : Hid (B + 2 ≤ x2.heap.size) := by have := H2.out.size; have := HS2.out; show _ ≤ _; omega
    have HEY := Lib.hid (HEN.out Y _ _ HRY.out)
    rw [hC] at ST rY
    have HRC := Lib.hid rY
    have LS := load_stC rY
    have HRB : Hid (RowC Y (B + 1) 30 (stL noQ)) := HR2.out.below H3.out
    have HBW : Hid (∀ x : World, Below Y.heap.size Y x → Below B w x) := fun x hx => (HBF.out.trans (H3.out.mono (by have := HS2.out; omega))).trans (hx.mono (by have := H3.out.size; have := HS2.out; omega))
    have HVY : Hid (∀ x : World, Below Y.heap.size Y x → Sl .u8 x (.slice va n vc) bs) := fun x hx => HV.out.below (by rw [HSZ.out]; exact HBW.out x hx)
    simp only [stV, stL, slV] at ST LS HEY ⊢
    clear hR hx3 bY rY hY k0 k1 k2 k3 k4 HEN
    obtain ⟨k0, k1, k2, k3, k4⟩ := KR.out Y H3.out
    go_wp2_with fail
    refine HEY.out.mono ?_
    rintro e x5 ⟨u, c, rfl, hE, hx5⟩
    have H5 := Lib.hid hx5
    clear k0 k1 k2 k3 k4 HEY hx5 LS ST
    by_cases hgd : sGood g (pParse g bs) = true
    · obtain ⟨rfl, hou⟩ := hE.1 hgd
      have SU : Hid (Sl .u8 x5 u (sEnc g (pParse g bs))) := Sl.of_owns hou
      have HGQ := Lib.hid hgd
      have hle : (sEnc g (pParse g bs)).length ≤ 1000000 := by
        have hin := good_in HGO.out hgd
        rw [enc_len hin.dl (fun t ht => (hin.sn t ht).ch), ← HLN.out, HN.out]
        omega
      obtain ⟨tv, htv⟩ : ∃ tv, decide (sEnc g (pParse g bs) = bs) = tv := ⟨_, rfl⟩
      have HEQ : Hid (Calls Tryz.prog 32 #[u, .slice va n vc] x5 fun e w' => e = .returned (.bool tv) ∧ Below x5.heap.size x5 w') := by rw [← htv]; exact eq_bytes SU.out (HVY.out x5 H5.out) hle
      clear hE hou hgd hle
      cases tv with
      | false =>
        have hne : ¬ sEnc g (pParse g bs) = bs := of_decide_eq_false htv
        have HNE := Lib.hid hne
        clear htv hne
        go_wp2_with fail
        refine HEQ.out.mono ?_
        rintro e x6 ⟨rfl, hx6⟩
        have H6 : Hid (Below Y.heap.size Y x6) := H5.out.trans (hx6.mono H5.out.size)
        clear hx6 HEQ
        have HND : Hid (sDec g bs = none) := (dec_is HGO.out HLN.out).2 (fun h => HNE.out h.2)
        obtain ⟨z, hS, hRz, hgz⟩ := store_stC noQ (HRB.out.below (H6.out)) rfl
        have HZ : Hid (Below B w z) := (HBW.out x6 H6.out).grown hgz (by have := (HBW.out x6 H6.out).size; have := HSZ.out; omega) (fun j e => by cases e; exact Nat.le_succ B)
        have HRz := Lib.hid hRz
        simp only [stV, stL, slV, noQ] at hS
        clear hRz hgz
        go_wp2_with fail
        exact bodyPost_ret (results_cell2 rfl rfl (load_stC HRz.out)) rfl ⟨noQ, 11, rfl, decR_none HND.out _ _, by rw [HSZ.out]; exact HZ.out⟩
      | true =>
        have HND : Hid (sDec g bs = some (pParse g bs)) := (dec_is HGO.out HLN.out).1 ⟨HGQ.out, of_decide_eq_true htv⟩
        clear htv
        go_wp2_with fail
        refine HEQ.out.mono ?_
        rintro e x6 ⟨rfl, hx6⟩
        have H6 : Hid (Below Y.heap.size Y x6) := H5.out.trans (hx6.mono H5.out.size)
        clear hx6 HEQ
        have LS := load_stC (HRC.out.below H6.out)
        obtain ⟨z, hS, hRz, hgz⟩ := store_stC ⟨(da, dn, dc), (sa, sn, sc), nx, kd, id, (pa, pn, pc)⟩ (HRB.out.below H6.out) rfl
        have HZ : Hid (Below B w z) := (HBW.out x6 H6.out).grown hgz (by have := (HBW.out x6 H6.out).size; have := HSZ.out; omega) (fun j e => by cases e; exact Nat.le_succ B)
        have HDR : Hid (DecR g bs B z ⟨(da, dn, dc), (sa, sn, sc), nx, kd, id, (pa, pn, pc)⟩ 0) := ReadR.decR ((HRY.out.below H6.out).low hgz (fun j e => by cases e; have := hM.out; omega)) (by have := hM.out; omega) HND.out
        have HLD := Lib.hid (load_stC hRz)
        simp only [stV, stL, slV] at hS LS HLD
        clear hRz hgz
        go_wp2_with fail
        exact bodyPost_ret (results_cell2 rfl rfl HLD.out) rfl ⟨_, 0, rfl, by rw [HSZ.out]; exact HDR.out, by rw [HSZ.out]; exact HZ.out⟩
    · obtain ⟨rfl, rfl⟩ := hE.2 (by simpa using hgd)
      have HNG := Lib.hid hgd
      clear hE hgd
      have HND : Hid (sDec g bs = none) := (dec_is HGO.out HLN.out).2 (fun h => HNG.out h.1)
      obtain ⟨z, hS, hRz, hgz⟩ := store_stC noQ (HRB.out.below (H5.out)) rfl
      have HZ : Hid (Below B w z) := (HBW.out x5 H5.out).grown hgz (by have := (HBW.out x5 H5.out).size; have := HSZ.out; omega) (fun j e => by cases e; exact Nat.le_succ B)
      have HRz := Lib.hid hRz
      simp only [stV, stL, slV, noQ] at hS
      clear hRz hgz
      go_wp2_with fail
      exact bodyPost_ret (results_cell2 rfl rfl (load_stC HRz.out)) rfl ⟨noQ, 11, rfl, decR_none HND.out _ _, by rw [HSZ.out]; exact HZ.out⟩
  · have g0 : ((n : Int) != (T : Int)) = true := by simp; omega
    have HND : Hid (sDec g bs = none) := by
      show _ = _
      unfold sDec
      rw [if_neg]
      rintro ⟨h, -⟩
      rw [HN.out, HT.out] at h
      exact hln h
    obtain ⟨z, hS, hRz, hgz⟩ := store_stC noQ (HR2.out.below H2.out) rfl
    have HZ : Hid (Below B w z) := (HBF.out.trans (H2.out.mono (by have := HS2.out; omega))).grown hgz (by have := H2.out.size; have := HS2.out; omega) (fun j e => by cases e; exact Nat.le_succ B)
    have HRz := Lib.hid hRz
    simp only [stV, stL, slV, noQ] at hS
    clear hRz hgz hln
    go_wp2_with fail
    exact bodyPost_ret (results_cell2 rfl rfl (load_stC HRz.out)) rfl ⟨noQ, 11, rfl, decR_none HND.out _ _, by rw [HSZ.out]; exact HZ.out⟩
end Go.Proofs.YtfihpljgbghogaaGreat

/- Copies of rows of numbers. -/
namespace Go.Proofs.YtfihpljgbghogaaGreat
open Go.RowKit
set_option linter.unusedVariables false
set_option maxRecDepth 100000 in
theorem slice_int0 (w : World) : (Instr.buildSlice 24 0 #[]).run Tryz.prog w = .ok (.slice (some ⟨w.heap.size, 0, none⟩) 0 0) (w.alloc (.cells #[] 3)) := by kernel_rfl
theorem own_int0 (N : Nat) (w : World) (hN : N ≤ w.heap.size) : InO N (w.alloc (.cells #[] 3)) (.slice (some ⟨w.heap.size, 0, none⟩) 0 0) [] := World.ownsRow_lit w #[] 0 hN (by simp [maxLen]) rfl
set_option maxRecDepth 100000 in
theorem in_appendS {N : Nat} {w : World} {v x : Value} {l m : List Int} (h : InO N w v l) (hx : Sl .i64 w x m) (hN : N ≤ w.heap.size) (hlen : l.length + m.length ≤ 1000000) :
    ∃ v' w', (∀ ty, (Builtin.append_ #[24, 24] ty #[v, x]).run Tryz.prog w = .ok v' w') ∧ InO N w' v' (l ++ m) ∧ w.grownBy w' v.ownBlock := by
  obtain ⟨i0, hi, hz0, hz1, hz2⟩ := info_parts info_intT
  obtain ⟨a, cap, rfl, h1, h2, h4, h0⟩ := hx
  cases a with
  | none =>
    obtain rfl := h0 rfl
    obtain rfl : m = [] := List.eq_nil_of_length_eq_zero (by omega)
    exact ⟨v, w, fun ty => run_append_owned_none (P := Tryz.prog) (w := w) N 24 ty 3 i0 1 Tryz.underlying24 hi v l.length _ h, by simpa using h, World.grownBy.refl _ _⟩
  | some ad =>
    have hnews : ∀ j u, (m.map (Value.int .i64))[j]? = some u → w.cell? (ad.add j) = some u := by
      rcases h4 with rfl | ⟨b, off, e, h5, h6⟩
      · intro j u hu; simp at hu
      · cases e
        intro j u hu
        rw [Addr.add_lit]
        rw [List.getElem?_map] at hu
        obtain ⟨z, hz, rfl⟩ := Option.map_eq_some_iff.1 hu
        have := (List.getElem?_eq_some_iff.1 hz).1
        have h := h6 j this
        rw [hz] at h
        exact h
    have hr : ∀ ty, ∃ v' w', (Builtin.append_ #[24, 24] ty #[v, .slice (some ad) m.length cap]).run Tryz.prog w = .ok v' w' ∧ w'.ownsRow N 3 1 v' (l.length + m.length) (l.map (Value.int .i64) ++ m.map (Value.int .i64)) ∧ w.grownBy w' v.ownBlock := fun ty => by
      obtain ⟨v', w', g1, g2, g3, -, g4⟩ := run_append_own_at (P := Tryz.prog) w N 24 ty 3 i0 (.int .i64 0) 1 8 Tryz.underlying24 hi hz0 hz1 hz2 rfl (by decide) v l.length _ h ad m.length cap (m.map (Value.int .i64)) (by simp) hnews (fun u hu => by obtain ⟨z, -, rfl⟩ := List.mem_map.1 hu; rfl) (by unfold maxLen; omega) (by omega) hN
      exact ⟨v', w', g1, g2, g3⟩
    obtain ⟨v', w', g1, g2, g3⟩ := hr 0
    refine ⟨v', w', fun ty => ?_, ?_, g3⟩
    · rw [← g1]; rfl
    · show w'.ownsRow N _ 1 v' (l ++ m).length ((l ++ m).map _)
      rw [List.length_append, List.map_append]
      exact g2
end Go.Proofs.YtfihpljgbghogaaGreat

/- A state copied: a row of numbers behind another one, Clone of numbers, the helper State. -/
namespace Go.Proofs.YtfihpljgbghogaaGreat
open Go.RowKit Go.Shelf Go.Lib
set_option linter.unusedVariables false
set_option linter.unusedSimpArgs false
/-- A state of one's own. -/
structure StO (N : Nat) (W : World) (q : PS) (d : List Int) (l : List SN) (ps : List (Int × Int)) : Prop where
  dd : InO N W (slV q.d) d
  sn : SnO N W (slV q.sn) l
  pr : PrO N W (slV q.pr) ps
theorem SnO.weak {M N : Nat} {W : World} {v : Value} {l : List SN} (h : SnO N W v l) (hN : M ≤ N) : SnO M W v l := by
  obtain ⟨r, h1, h2, h3⟩ := h
  exact ⟨r, h1, own_weak h2 hN, fun j q s a b => (h3 j q s a b).weak hN⟩
theorem StO.below {N : Nat} {W W' : World} {q : PS} {d : List Int} {l : List SN} {ps : List (Int × Int)} (h : StO N W q d l ps) (hB : Below W.heap.size W W') : StO N W' q d l ps := ⟨h.dd.below hB, h.sn.below hB, h.pr.below hB⟩
theorem StO.low {N : Nat} {W W' : World} {q : PS} {d : List Int} {l : List SN} {ps : List (Int × Int)} {row : Option Nat} (h : StO N W q d l ps) (hg : W.grownBy W' row) (hr : ∀ j, row = some j → j < N) : StO N W' q d l ps := ⟨h.dd.low hg hr, h.sn.low hg hr, h.pr.low hg hr⟩
theorem StO.weak {M N : Nat} {W : World} {q : PS} {d : List Int} {l : List SN} {ps : List (Int × Int)} (h : StO N W q d l ps) (hN : M ≤ N) : StO M W q d l ps := ⟨own_weak h.dd hN, h.sn.weak hN, h.pr.weak hN⟩
theorem StO.sl {N : Nat} {W : World} {q : PS} {d : List Int} {l : List SN} {ps : List (Int × Int)} (h : StO N W q d l ps) : Sl .i64 W (slV q.d) d := sl_own h.dd
theorem StO.is {N : Nat} {W : World} {q : PS} {d : List Int} {l : List SN} {ps : List (Int × Int)} (h : StO N W q d l ps) : StIs W q l ps := ⟨h.sn.snp, h.pr.prt⟩
set_option maxRecDepth 100000 in
/-- Numbers behind numbers. -/
theorem eql_int1 (p : Addr) (n c : Nat) (w : World) : (binOp .eql 24 (.slice (some p) n c) (.slice none 0 0)).run Tryz.prog w = .ok (.bool false) w := by kernel_rfl
set_option maxRecDepth 100000 in
theorem eql_int0 (w : World) : (binOp .eql 24 (.slice none 0 0) (.slice none 0 0)).run Tryz.prog w = .ok (.bool true) w := by kernel_rfl
set_option maxRecDepth 100000 in
theorem build_plK (a b : Int) (y : Option Addr) (m d : Nat) (w : World) : (Instr.build 28 #[(0, .int .i64 a), (1, .int .i64 b), (2, .slice y m d)]).run Tryz.prog w = .ok (.agg #[.int .i64 a, .int .i64 b, .slice y m d]) w := by kernel_rfl
set_option maxRecDepth 100000 in
theorem build_stK (x y z : Option Addr) (n c m d k e : Nat) (a b i : Int) (w : World) : (Instr.build 30 #[(0, .slice x n c), (1, .slice y m d), (2, .int .i64 a), (3, .agg #[.int .i64 b, .int .i64 i, .slice z k e])]).run Tryz.prog w = .ok (.agg #[.slice x n c, .slice y m d, .int .i64 a, .int .i64 b, .int .i64 i, .slice z k e]) w := by kernel_rfl
set_option maxRecDepth 100000 in
theorem build_stY (x z : Option Addr) (n c k e : Nat) (a b i : Int) (w : World) : (Instr.build 30 #[(0, .slice x n c), (2, .int .i64 a), (3, .agg #[.int .i64 b, .int .i64 i, .slice z k e])]).run Tryz.prog w = .ok (.agg #[.slice x n c, .slice none 0 0, .int .i64 a, .int .i64 b, .int .i64 i, .slice z k e]) w := by kernel_rfl
attribute [-simp] Tryz.isAgg51 Tryz.zeroValue51 Tryz.isAgg54 Tryz.zeroValue54 Tryz.isAgg30 Tryz.zeroValue30
attribute [-go_sem] loadVar storeVar
attribute [local go_sem] loadVar_openQ storeVar_openQ zero_sn zero_prs zero_st build_plK build_stK build_stY eql_int0 eql_int1
set_option maxRecDepth 100000 in
set_option maxHeartbeats 4000000 in
/-- **Clone** of numbers. -/
theorem in_clone {w : World} {v : Value} {l : List Int} (h : Sl .i64 w v l) (hlen : l.length ≤ 1000000) :
    Calls Tryz.prog 49 #[v] w fun e w' => ∃ u, e = .returned u ∧ InO w.heap.size w' u l ∧ Below w.heap.size w w' := by
  have HP := Lib.hid h
  obtain ⟨a, cap, rfl, h1, -, h4, h0⟩ := h
  cases a with
  | none =>
    obtain rfl := h0 rfl
    obtain rfl : l = [] := List.eq_nil_of_length_eq_zero (by omega)
    go_enter Tryz.func49, Tryz.ntmps49
    go_wp2_with fail
    go_ret
    exact ⟨_, rfl, InO.nil _ _, Below.refl _ _⟩
  | some ad =>
    obtain ⟨W, hW⟩ : ∃ W, w.alloc (.cells #[] 3) = W := ⟨_, rfl⟩
    have SB := slice_int0 w
    rw [hW] at SB
    have hb := below_new w (.cells #[] 3)
    rw [hW] at hb
    have ho : InO w.heap.size W (.slice (some ⟨w.heap.size, 0, none⟩) 0 0) [] := by
      rw [← hW]
      exact own_int0 _ w (Nat.le_refl _)
    obtain ⟨u, W2, hr, h1, h2⟩ := in_appendS ho (HP.out.below hb) hb.size (by simpa using hlen)
    have HA := Lib.hid hr
    have HO := Lib.hid h1
    have HB : Hid (Below w.heap.size w W2) := hb.grown h2 hb.size (fun j e => by cases e; exact Nat.le_refl _)
    have HS := Lib.hid SB
    clear hr h1 h2 ho hb SB h4 h0 hW HP
    go_enter Tryz.func49, Tryz.ntmps49
    go_wp2_with (first | (refine gate_build ?_; refine wpList_build_run 24 0 #[] rfl rfl [] _ rfl HS.out ?_) | (at_builtin; refine wpList_append_run (.tmp 5) (.tmp 6) 24 rfl rfl _ _ _ rfl rfl (HA.out _) ?_))
    go_ret
    exact ⟨_, rfl, HO.out, HB.out⟩
set_option maxRecDepth 100000 in
set_option maxHeartbeats 16000000 in
/-- revetmentkeep.**State**. -/
theorem keep_state {w : World} {q : PS} {d : List Int} {l : List SN} {ps : List (Int × Int)} (hd : Sl .i64 w (slV q.d) d) (h : StIs w q l ps) (hK : Lens 1000 l) (hn : d.length ≤ 100000) (hp : ps.length ≤ 100000) :
    Calls Tryz.prog 6 #[stV q] w fun e w' => ∃ q' : PS, e = .returned (stV q') ∧ q'.nx = q.nx ∧ q'.kd = q.kd ∧ q'.id = q.id ∧ StO w.heap.size w' q' d l ps ∧ Below w.heap.size w w' := by
  have hmx : Tryz.prog.follows .mixedOrders = true := by kernel_rfl
  obtain ⟨⟨qd, qdn, qdc⟩, ⟨qs, qsn, qsc⟩, nx, kd, id, ⟨qp, qpn, qpc⟩⟩ := q
  have HK := Lib.hid hK
  have HL1 := Lib.hid hn
  have HL2 := Lib.hid hp
  obtain ⟨B, hB⟩ : ∃ B, w.heap.size = B := ⟨_, rfl⟩
  have HSZ := Lib.hid hB
  obtain ⟨W1, hW1⟩ : ∃ W, w.alloc (.cells #[.slice qd qdn qdc, .slice qs qsn qsc, .int .i64 nx, .int .i64 kd, .int .i64 id, .slice qp qpn qpc] 30) = W := ⟨_, rfl⟩
  obtain ⟨W, hW⟩ : ∃ W, W1.alloc (.cells #[.slice none 0 0, .slice none 0 0, .int .i64 0, .int .i64 0, .int .i64 0, .slice none 0 0] 30) = W := ⟨_, rfl⟩
  have s1 : W1.heap.size = B + 1 := by rw [← hW1, ← hB]; simp
  have s2 : W.heap.size = B + 2 := by rw [← hW, World.size_alloc, s1]
  have r1 : RowC W1 B 30 [.slice qd qdn qdc, .slice qs qsn qsc, .int .i64 nx, .int .i64 kd, .int .i64 id, .slice qp qpn qpc] := by rw [← hW1, ← hB]; exact RowC.new _ _ _
  have r2 : RowC W (B + 1) 30 (stL noQ) := by rw [← hW, ← s1]; exact RowC.new _ _ _
  have b1 : Below B w W1 := by rw [← hW1, ← hB]; exact below_new _ _
  have b2 : Below W1.heap.size W1 W := by rw [← hW]; exact below_new _ _
  have bF : Below B w W := b1.trans (b2.mono (by omega))
  have r1 := r1.below b2
  have c0 : ∀ z : Ext W, z.1.cell? ⟨B, 0, none⟩ = some (.slice qd qdn qdc) := fun z => (r1.below z.2).cell 0 _ rfl
  have c1 : ∀ z : Ext W, z.1.cell? ⟨B, 1, none⟩ = some (.slice qs qsn qsc) := fun z => (r1.below z.2).cell 1 _ rfl
  have c2 : ∀ z : Ext W, z.1.cell? ⟨B, 2, none⟩ = some (.int .i64 nx) := fun z => (r1.below z.2).cell 2 _ rfl
  have c3 : ∀ z : Ext W, z.1.cell? ⟨B, 3, none⟩ = some (.int .i64 kd) := fun z => (r1.below z.2).cell 3 _ rfl
  have c4 : ∀ z : Ext W, z.1.cell? ⟨B, 4, none⟩ = some (.int .i64 id) := fun z => (r1.below z.2).cell 4 _ rfl
  have c5 : ∀ z : Ext W, z.1.cell? ⟨B, 5, none⟩ = some (.slice qp qpn qpc) := fun z => (r1.below z.2).cell 5 _ rfl
  have HR := Lib.hid r2
  have HBW := Lib.hid bF
  have HS := Lib.hid s2
  have HD : Hid (Sl .i64 W (.slice qd qdn qdc) d) := hd.below (by rw [hB]; exact bF)
  have HSN : Hid (Snp W (.slice qs qsn qsc) l) := h.sn.below (by rw [hB]; exact bF)
  have HP : Hid (Prt W (.slice qp qpn qpc) ps) := h.pr.below (by rw [hB]; exact bF)
  have KW : Hid (Below W.heap.size W W.drew) := (Below.refl _ W).drew
  clear hd h hK hn hp r1 r2 b1 b2 bF s2
  simp only [stV, stL, slV]
  go_enter Tryz.func6, Tryz.ntmps6
  go_wp2_with fail
  try rw [hW1]
  try rw [hW]
  clear hW1 hW s1
  refine region_plan (fun x => ∃ y : Ext W, x = y.1) 22 (.takes [1, 2, 4, 5, 7, 8, 9, 10, 11, 12, 13, 14, 16, 17, 18] (.two 0 15 (.two 3 15 (.two 6 15 (.one 15 (.one 19 (.takes [20, 21] .leaf))) (.one 6 (.one 19 (.takes [20, 21] .leaf)))) (.one 3 (.one 6 (.one 19 (.takes [20, 21] .leaf))))) (.one 0 (.one 3 (.one 6 (.one 19 (.takes [20, 21] .leaf))))))) hmx (by kernel_rfl) (by intro c x v a w h; cases x <;> exact h) ⟨⟨W.drew, KW.out⟩, rfl⟩ ?_
  repeat (rw [wpPlan_takes_cons]; simp only [nth_zero, nth_succ]; go_big_quiet_step (fail); refine wpQuiet_nil ?_)
  rw [wpPlan_takes_nil]
  clear c0 c1 c2 c3 c4 c5
  obtain ⟨X0, hX0⟩ : ∃ X, W.drew = X := ⟨_, rfl⟩
  rw [hX0] at KW
  try rw [hX0]
  clear hX0
  rw [wpPlan_twoT]
  refine ⟨?_, ?_⟩
  · simp only [nth_zero, nth_succ]
    obtain ⟨X1, hX1⟩ : ∃ Y, X0.alloc (.cells #[] 3) = Y := ⟨_, rfl⟩
    have SX1 := slice_int0 X0
    have bX1 := below_new X0 (.cells #[] 3)
    have oX1 := own_int0 W.heap.size X0 KW.out.size
    rw [hX1] at SX1 bX1 oX1
    have KX1 : Hid (Below W.heap.size W X1) := KW.out.trans (bX1.mono KW.out.size)
    have OAX1 := Lib.hid oX1
    have SX1 := Lib.hid SX1
    clear hX1 bX1 oX1
    go_wp2_with ((with_reducible refine gate_build ?_); refine wpList_build_run 24 0 #[] rfl rfl [] _ rfl SX1.out ?_)
    refine planPost_mk ⟨⟨X1, KX1.out⟩, rfl⟩ ?_
    rw [wpPlan_twoT]
    refine ⟨?_, ?_⟩
    · simp only [nth_zero, nth_succ]
      obtain ⟨vX2, X2, hrX2, hoX2, hgX2⟩ := in_appendS OAX1.out (HD.out.below KX1.out) KX1.out.size (by have := HL1.out; simp; omega)
      rw [List.nil_append] at hoX2
      have KX2 : Hid (Below W.heap.size W X2) := KX1.out.grown hgX2 KX1.out.size (fun j e => (OAX1.out.base j e).1)
      obtain ⟨⟨xX2, nX2, cX2⟩, rfl, -⟩ := own_slV hoX2
      have OAX2 : Hid (InO W.heap.size X2 (.slice xX2 nX2 cX2) d) := hoX2
      have hrX2 := Lib.hid hrX2
      simp only [slV] at hrX2
      clear hoX2 hgX2
      go_wp2_with (at_builtin; refine wpList_append_run (.tmp 3) (.tmp 5) 24 rfl rfl _ _ _ rfl rfl (hrX2.out _) ?_)
      refine planPost_mk ⟨⟨X2, KX2.out⟩, rfl⟩ ?_
      rw [wpPlan_twoT]
      refine ⟨?_, ?_⟩
      · simp only [nth_zero, nth_succ]
        go_wp2_with fail
        refine (keep_copy (HSN.out.below KX2.out) HK.out).mono ?_
        rintro e X3 ⟨uX3, rfl, hoX3, bX3⟩
        have KX3 : Hid (Below W.heap.size W X3) := KX2.out.trans (bX3.mono KX2.out.size)
        obtain ⟨⟨xX3, nX3, cX3⟩, rfl, -⟩ := hoX3.isSl
        have SNX3 : Hid (SnO X2.heap.size X3 (slV (xX3, nX3, cX3)) l) := hoX3
        have OAX3 := Lib.hid (OAX2.out.below bX3)
        have KSX3 : Hid (Below X3.heap.size X3 X3) := Below.refl _ _
        clear hoX3 bX3
        simp only [slV]
        go_wp2_with fail
        refine planPost_mk ⟨⟨X3, KX3.out⟩, rfl⟩ ?_
        rw [wpPlan_one]
        simp only [nth_zero, nth_succ]
        obtain ⟨X4, hX4⟩ : ∃ Y, X3.alloc (.cells #[] 54) = Y := ⟨_, rfl⟩
        have SX4 := slice_prs0 X3
        have bX4 := below_new X3 (.cells #[] 54)
        have oX4 := lit_none W.heap.size X3 KX3.out.size
        rw [hX4] at SX4 bX4 oX4
        have KX4 : Hid (Below W.heap.size W X4) := KX3.out.trans (bX4.mono KX3.out.size)
        have OBX4 := Lib.hid oX4
        have SX4 := Lib.hid SX4
        have OAX4 := Lib.hid (OAX3.out.below bX4)
        have KSX4 : Hid (Below X3.heap.size X3 X4) := KSX3.out.trans (bX4.mono KSX3.out.size)
        clear hX4 bX4 oX4
        go_wp2_with ((with_reducible refine gate_build ?_); refine wpList_build_run 26 0 #[] rfl rfl [] _ rfl SX4.out ?_)
        refine planPost_mk ⟨⟨X4, KX4.out⟩, rfl⟩ ?_
        rw [wpPlan_one]
        simp only [nth_zero, nth_succ]
        obtain ⟨vX5, X5, hrX5, hoX5, hgX5, -⟩ := pr_append OBX4.out (HP.out.below KX4.out) KX4.out.size (by have := HL2.out; simp; omega)
        rw [List.nil_append] at hoX5
        have KX5 : Hid (Below W.heap.size W X5) := KX4.out.grown hgX5 KX4.out.size (fun j e => (OBX4.out.base j e).1)
        obtain ⟨⟨xX5, nX5, cX5⟩, rfl, -⟩ := own_slV hoX5.1
        have OBX5 : Hid (PrO W.heap.size X5 (.slice xX5 nX5 cX5) ps) := hoX5
        have hrX5 := Lib.hid hrX5
        simp only [slV] at hrX5
        have OAX5 := Lib.hid (OAX4.out.grown OBX4.out hgX5)
        have SNX5 : Hid (SnO X2.heap.size X5 (slV (xX3, nX3, cX3)) l) := SNX3.out.below (KSX4.out.grown hgX5 KSX4.out.size (fun j e => by cases e; exact Nat.le_refl _))
        clear hoX5 hgX5
        go_wp2_with (at_builtin; refine wpList_append_run (.tmp 18) (.tmp 21) 26 rfl rfl _ _ _ rfl rfl (hrX5.out _) ?_)
        refine planPost_mk ⟨⟨X5, KX5.out⟩, rfl⟩ ?_
        repeat (rw [wpPlan_takes_cons]; simp only [nth_zero, nth_succ]; go_big_quiet_step (fail); refine wpQuiet_nil ?_)
        rw [wpPlan_takes_nil, wpPlan_leaf]
        simp only [List.drop_succ_cons, List.drop_zero]
        obtain ⟨y3, ST, hy3, hg3⟩ := store_stC ⟨(xX2, nX2, cX2), (xX3, nX3, cX3), nx, kd, id, (xX5, nX5, cX5)⟩ (HR.out.below KX5.out) rfl
        have RT := load_stC hy3
        simp only [stV, stL, slV] at ST RT
        have HB3 : Hid (Below B w y3) := (HBW.out.trans (KX5.out.mono (by have := HS.out; omega))).grown hg3 (by have := HS.out; have := KX5.out.size; omega) (fun k e => by cases e; exact Nat.le_succ B)
        have HO : Hid (StO W.heap.size y3 ⟨(xX2, nX2, cX2), (xX3, nX3, cX3), nx, kd, id, (xX5, nX5, cX5)⟩ d l ps) := StO.low ⟨OAX5.out, SNX5.out.weak KX2.out.size, OBX5.out⟩ hg3 (fun j e => by cases e; have := HS.out; omega)
        have RT := Lib.hid RT
        have ST := Lib.hid ST
        clear hy3 hg3
        have ST := ST.out
        go_wp2_with fail
        refine bodyPost_ret (results_cell rfl rfl RT.out) rfl ?_
        rw [HSZ.out]
        exact ⟨⟨(xX2, nX2, cX2), (xX3, nX3, cX3), nx, kd, id, (xX5, nX5, cX5)⟩, rfl, rfl, rfl, rfl, HO.out.weak (by have := HS.out; omega), HB3.out⟩
      · simp only [nth_zero, nth_succ]
        obtain ⟨X6, hX6⟩ : ∃ Y, X2.alloc (.cells #[] 54) = Y := ⟨_, rfl⟩
        have SX6 := slice_prs0 X2
        have bX6 := below_new X2 (.cells #[] 54)
        have oX6 := lit_none W.heap.size X2 KX2.out.size
        rw [hX6] at SX6 bX6 oX6
        have KX6 : Hid (Below W.heap.size W X6) := KX2.out.trans (bX6.mono KX2.out.size)
        have OBX6 := Lib.hid oX6
        have SX6 := Lib.hid SX6
        have OAX6 := Lib.hid (OAX2.out.below bX6)
        clear hX6 bX6 oX6
        go_wp2_with ((with_reducible refine gate_build ?_); refine wpList_build_run 26 0 #[] rfl rfl [] _ rfl SX6.out ?_)
        refine planPost_mk ⟨⟨X6, KX6.out⟩, rfl⟩ ?_
        rw [wpPlan_one]
        simp only [nth_zero, nth_succ]
        go_wp2_with fail
        refine (keep_copy (HSN.out.below KX6.out) HK.out).mono ?_
        rintro e X7 ⟨uX7, rfl, hoX7, bX7⟩
        have KX7 : Hid (Below W.heap.size W X7) := KX6.out.trans (bX7.mono KX6.out.size)
        obtain ⟨⟨xX7, nX7, cX7⟩, rfl, -⟩ := hoX7.isSl
        have SNX7 : Hid (SnO X6.heap.size X7 (slV (xX7, nX7, cX7)) l) := hoX7
        have OAX7 := Lib.hid (OAX6.out.below bX7)
        have LBX7 : Hid (∀ j, Value.ownBlock (.slice (some ⟨X2.heap.size, 0, none⟩) 0 0) = some j → j < X6.heap.size) := fun j e => (OBX6.out.base j e).2
        have OBX7 := Lib.hid (OBX6.out.below bX7)
        have KSX7 : Hid True := trivial
        clear hoX7 bX7
        simp only [slV]
        go_wp2_with fail
        refine planPost_mk ⟨⟨X7, KX7.out⟩, rfl⟩ ?_
        rw [wpPlan_one]
        simp only [nth_zero, nth_succ]
        obtain ⟨vX8, X8, hrX8, hoX8, hgX8, -⟩ := pr_append OBX7.out (HP.out.below KX7.out) KX7.out.size (by have := HL2.out; simp; omega)
        rw [List.nil_append] at hoX8
        have KX8 : Hid (Below W.heap.size W X8) := KX7.out.grown hgX8 KX7.out.size (fun j e => (OBX7.out.base j e).1)
        obtain ⟨⟨xX8, nX8, cX8⟩, rfl, -⟩ := own_slV hoX8.1
        have OBX8 : Hid (PrO W.heap.size X8 (.slice xX8 nX8 cX8) ps) := hoX8
        have hrX8 := Lib.hid hrX8
        simp only [slV] at hrX8
        have OAX8 := Lib.hid (OAX7.out.grown OBX7.out hgX8)
        have SNX8 : Hid (SnO X6.heap.size X8 (slV (xX7, nX7, cX7)) l) := SNX7.out.low hgX8 (fun j e => LBX7.out j e)
        clear hoX8 hgX8
        go_wp2_with (at_builtin; refine wpList_append_run (.tmp 18) (.tmp 21) 26 rfl rfl _ _ _ rfl rfl (hrX8.out _) ?_)
        refine planPost_mk ⟨⟨X8, KX8.out⟩, rfl⟩ ?_
        repeat (rw [wpPlan_takes_cons]; simp only [nth_zero, nth_succ]; go_big_quiet_step (fail); refine wpQuiet_nil ?_)
        rw [wpPlan_takes_nil, wpPlan_leaf]
        simp only [List.drop_succ_cons, List.drop_zero]
        obtain ⟨y3, ST, hy3, hg3⟩ := store_stC ⟨(xX2, nX2, cX2), (xX7, nX7, cX7), nx, kd, id, (xX8, nX8, cX8)⟩ (HR.out.below KX8.out) rfl
        have RT := load_stC hy3
        simp only [stV, stL, slV] at ST RT
        have HB3 : Hid (Below B w y3) := (HBW.out.trans (KX8.out.mono (by have := HS.out; omega))).grown hg3 (by have := HS.out; have := KX8.out.size; omega) (fun k e => by cases e; exact Nat.le_succ B)
        have HO : Hid (StO W.heap.size y3 ⟨(xX2, nX2, cX2), (xX7, nX7, cX7), nx, kd, id, (xX8, nX8, cX8)⟩ d l ps) := StO.low ⟨OAX8.out, SNX8.out.weak KX6.out.size, OBX8.out⟩ hg3 (fun j e => by cases e; have := HS.out; omega)
        have RT := Lib.hid RT
        have ST := Lib.hid ST
        clear hy3 hg3
        have ST := ST.out
        go_wp2_with fail
        refine bodyPost_ret (results_cell rfl rfl RT.out) rfl ?_
        rw [HSZ.out]
        exact ⟨⟨(xX2, nX2, cX2), (xX7, nX7, cX7), nx, kd, id, (xX8, nX8, cX8)⟩, rfl, rfl, rfl, rfl, HO.out.weak (by have := HS.out; omega), HB3.out⟩
    · simp only [nth_zero, nth_succ]
      obtain ⟨X9, hX9⟩ : ∃ Y, X1.alloc (.cells #[] 54) = Y := ⟨_, rfl⟩
      have SX9 := slice_prs0 X1
      have bX9 := below_new X1 (.cells #[] 54)
      have oX9 := lit_none W.heap.size X1 KX1.out.size
      rw [hX9] at SX9 bX9 oX9
      have KX9 : Hid (Below W.heap.size W X9) := KX1.out.trans (bX9.mono KX1.out.size)
      have OBX9 := Lib.hid oX9
      have SX9 := Lib.hid SX9
      have OAX9 := Lib.hid (OAX1.out.below bX9)
      clear hX9 bX9 oX9
      go_wp2_with ((with_reducible refine gate_build ?_); refine wpList_build_run 26 0 #[] rfl rfl [] _ rfl SX9.out ?_)
      refine planPost_mk ⟨⟨X9, KX9.out⟩, rfl⟩ ?_
      rw [wpPlan_one]
      simp only [nth_zero, nth_succ]
      obtain ⟨vX10, X10, hrX10, hoX10, hgX10⟩ := in_appendS OAX9.out (HD.out.below KX9.out) KX9.out.size (by have := HL1.out; simp; omega)
      rw [List.nil_append] at hoX10
      have KX10 : Hid (Below W.heap.size W X10) := KX9.out.grown hgX10 KX9.out.size (fun j e => (OAX9.out.base j e).1)
      obtain ⟨⟨xX10, nX10, cX10⟩, rfl, -⟩ := own_slV hoX10
      have OAX10 : Hid (InO W.heap.size X10 (.slice xX10 nX10 cX10) d) := hoX10
      have hrX10 := Lib.hid hrX10
      simp only [slV] at hrX10
      have OBX10 := Lib.hid (OBX9.out.grownI OAX9.out hgX10)
      clear hoX10 hgX10
      go_wp2_with (at_builtin; refine wpList_append_run (.tmp 3) (.tmp 5) 24 rfl rfl _ _ _ rfl rfl (hrX10.out _) ?_)
      refine planPost_mk ⟨⟨X10, KX10.out⟩, rfl⟩ ?_
      rw [wpPlan_one]
      simp only [nth_zero, nth_succ]
      go_wp2_with fail
      refine (keep_copy (HSN.out.below KX10.out) HK.out).mono ?_
      rintro e X11 ⟨uX11, rfl, hoX11, bX11⟩
      have KX11 : Hid (Below W.heap.size W X11) := KX10.out.trans (bX11.mono KX10.out.size)
      obtain ⟨⟨xX11, nX11, cX11⟩, rfl, -⟩ := hoX11.isSl
      have SNX11 : Hid (SnO X10.heap.size X11 (slV (xX11, nX11, cX11)) l) := hoX11
      have OAX11 := Lib.hid (OAX10.out.below bX11)
      have LBX11 : Hid (∀ j, Value.ownBlock (.slice (some ⟨X1.heap.size, 0, none⟩) 0 0) = some j → j < X10.heap.size) := fun j e => (OBX10.out.base j e).2
      have OBX11 := Lib.hid (OBX10.out.below bX11)
      have KSX11 : Hid True := trivial
      clear hoX11 bX11
      simp only [slV]
      go_wp2_with fail
      refine planPost_mk ⟨⟨X11, KX11.out⟩, rfl⟩ ?_
      rw [wpPlan_one]
      simp only [nth_zero, nth_succ]
      obtain ⟨vX12, X12, hrX12, hoX12, hgX12, -⟩ := pr_append OBX11.out (HP.out.below KX11.out) KX11.out.size (by have := HL2.out; simp; omega)
      rw [List.nil_append] at hoX12
      have KX12 : Hid (Below W.heap.size W X12) := KX11.out.grown hgX12 KX11.out.size (fun j e => (OBX11.out.base j e).1)
      obtain ⟨⟨xX12, nX12, cX12⟩, rfl, -⟩ := own_slV hoX12.1
      have OBX12 : Hid (PrO W.heap.size X12 (.slice xX12 nX12 cX12) ps) := hoX12
      have hrX12 := Lib.hid hrX12
      simp only [slV] at hrX12
      have OAX12 := Lib.hid (OAX11.out.grown OBX11.out hgX12)
      have SNX12 : Hid (SnO X10.heap.size X12 (slV (xX11, nX11, cX11)) l) := SNX11.out.low hgX12 (fun j e => LBX11.out j e)
      clear hoX12 hgX12
      go_wp2_with (at_builtin; refine wpList_append_run (.tmp 18) (.tmp 21) 26 rfl rfl _ _ _ rfl rfl (hrX12.out _) ?_)
      refine planPost_mk ⟨⟨X12, KX12.out⟩, rfl⟩ ?_
      repeat (rw [wpPlan_takes_cons]; simp only [nth_zero, nth_succ]; go_big_quiet_step (fail); refine wpQuiet_nil ?_)
      rw [wpPlan_takes_nil, wpPlan_leaf]
      simp only [List.drop_succ_cons, List.drop_zero]
      obtain ⟨y3, ST, hy3, hg3⟩ := store_stC ⟨(xX10, nX10, cX10), (xX11, nX11, cX11), nx, kd, id, (xX12, nX12, cX12)⟩ (HR.out.below KX12.out) rfl
      have RT := load_stC hy3
      simp only [stV, stL, slV] at ST RT
      have HB3 : Hid (Below B w y3) := (HBW.out.trans (KX12.out.mono (by have := HS.out; omega))).grown hg3 (by have := HS.out; have := KX12.out.size; omega) (fun k e => by cases e; exact Nat.le_succ B)
      have HO : Hid (StO W.heap.size y3 ⟨(xX10, nX10, cX10), (xX11, nX11, cX11), nx, kd, id, (xX12, nX12, cX12)⟩ d l ps) := StO.low ⟨OAX12.out, SNX12.out.weak KX10.out.size, OBX12.out⟩ hg3 (fun j e => by cases e; have := HS.out; omega)
      have RT := Lib.hid RT
      have ST := Lib.hid ST
      clear hy3 hg3
      have ST := ST.out
      go_wp2_with fail
      refine bodyPost_ret (results_cell rfl rfl RT.out) rfl ?_
      rw [HSZ.out]
      exact ⟨⟨(xX10, nX10, cX10), (xX11, nX11, cX11), nx, kd, id, (xX12, nX12, cX12)⟩, rfl, rfl, rfl, rfl, HO.out.weak (by have := HS.out; omega), HB3.out⟩
  · simp only [nth_zero, nth_succ]
    obtain ⟨X13, hX13⟩ : ∃ Y, X0.alloc (.cells #[] 54) = Y := ⟨_, rfl⟩
    have SX13 := slice_prs0 X0
    have bX13 := below_new X0 (.cells #[] 54)
    have oX13 := lit_none W.heap.size X0 KW.out.size
    rw [hX13] at SX13 bX13 oX13
    have KX13 : Hid (Below W.heap.size W X13) := KW.out.trans (bX13.mono KW.out.size)
    have OBX13 := Lib.hid oX13
    have SX13 := Lib.hid SX13
    clear hX13 bX13 oX13
    go_wp2_with ((with_reducible refine gate_build ?_); refine wpList_build_run 26 0 #[] rfl rfl [] _ rfl SX13.out ?_)
    refine planPost_mk ⟨⟨X13, KX13.out⟩, rfl⟩ ?_
    rw [wpPlan_one]
    simp only [nth_zero, nth_succ]
    obtain ⟨X14, hX14⟩ : ∃ Y, X13.alloc (.cells #[] 3) = Y := ⟨_, rfl⟩
    have SX14 := slice_int0 X13
    have bX14 := below_new X13 (.cells #[] 3)
    have oX14 := own_int0 W.heap.size X13 KX13.out.size
    rw [hX14] at SX14 bX14 oX14
    have KX14 : Hid (Below W.heap.size W X14) := KX13.out.trans (bX14.mono KX13.out.size)
    have OAX14 := Lib.hid oX14
    have SX14 := Lib.hid SX14
    have OBX14 := Lib.hid (OBX13.out.below bX14)
    clear hX14 bX14 oX14
    go_wp2_with ((with_reducible refine gate_build ?_); refine wpList_build_run 24 0 #[] rfl rfl [] _ rfl SX14.out ?_)
    refine planPost_mk ⟨⟨X14, KX14.out⟩, rfl⟩ ?_
    rw [wpPlan_one]
    simp only [nth_zero, nth_succ]
    obtain ⟨vX15, X15, hrX15, hoX15, hgX15⟩ := in_appendS OAX14.out (HD.out.below KX14.out) KX14.out.size (by have := HL1.out; simp; omega)
    rw [List.nil_append] at hoX15
    have KX15 : Hid (Below W.heap.size W X15) := KX14.out.grown hgX15 KX14.out.size (fun j e => (OAX14.out.base j e).1)
    obtain ⟨⟨xX15, nX15, cX15⟩, rfl, -⟩ := own_slV hoX15
    have OAX15 : Hid (InO W.heap.size X15 (.slice xX15 nX15 cX15) d) := hoX15
    have hrX15 := Lib.hid hrX15
    simp only [slV] at hrX15
    have OBX15 := Lib.hid (OBX14.out.grownI OAX14.out hgX15)
    clear hoX15 hgX15
    go_wp2_with (at_builtin; refine wpList_append_run (.tmp 3) (.tmp 5) 24 rfl rfl _ _ _ rfl rfl (hrX15.out _) ?_)
    refine planPost_mk ⟨⟨X15, KX15.out⟩, rfl⟩ ?_
    rw [wpPlan_one]
    simp only [nth_zero, nth_succ]
    go_wp2_with fail
    refine (keep_copy (HSN.out.below KX15.out) HK.out).mono ?_
    rintro e X16 ⟨uX16, rfl, hoX16, bX16⟩
    have KX16 : Hid (Below W.heap.size W X16) := KX15.out.trans (bX16.mono KX15.out.size)
    obtain ⟨⟨xX16, nX16, cX16⟩, rfl, -⟩ := hoX16.isSl
    have SNX16 : Hid (SnO X15.heap.size X16 (slV (xX16, nX16, cX16)) l) := hoX16
    have OAX16 := Lib.hid (OAX15.out.below bX16)
    have LBX16 : Hid (∀ j, Value.ownBlock (.slice (some ⟨X0.heap.size, 0, none⟩) 0 0) = some j → j < X15.heap.size) := fun j e => (OBX15.out.base j e).2
    have OBX16 := Lib.hid (OBX15.out.below bX16)
    have KSX16 : Hid True := trivial
    clear hoX16 bX16
    simp only [slV]
    go_wp2_with fail
    refine planPost_mk ⟨⟨X16, KX16.out⟩, rfl⟩ ?_
    rw [wpPlan_one]
    simp only [nth_zero, nth_succ]
    obtain ⟨vX17, X17, hrX17, hoX17, hgX17, -⟩ := pr_append OBX16.out (HP.out.below KX16.out) KX16.out.size (by have := HL2.out; simp; omega)
    rw [List.nil_append] at hoX17
    have KX17 : Hid (Below W.heap.size W X17) := KX16.out.grown hgX17 KX16.out.size (fun j e => (OBX16.out.base j e).1)
    obtain ⟨⟨xX17, nX17, cX17⟩, rfl, -⟩ := own_slV hoX17.1
    have OBX17 : Hid (PrO W.heap.size X17 (.slice xX17 nX17 cX17) ps) := hoX17
    have hrX17 := Lib.hid hrX17
    simp only [slV] at hrX17
    have OAX17 := Lib.hid (OAX16.out.grown OBX16.out hgX17)
    have SNX17 : Hid (SnO X15.heap.size X17 (slV (xX16, nX16, cX16)) l) := SNX16.out.low hgX17 (fun j e => LBX16.out j e)
    clear hoX17 hgX17
    go_wp2_with (at_builtin; refine wpList_append_run (.tmp 18) (.tmp 21) 26 rfl rfl _ _ _ rfl rfl (hrX17.out _) ?_)
    refine planPost_mk ⟨⟨X17, KX17.out⟩, rfl⟩ ?_
    repeat (rw [wpPlan_takes_cons]; simp only [nth_zero, nth_succ]; go_big_quiet_step (fail); refine wpQuiet_nil ?_)
    rw [wpPlan_takes_nil, wpPlan_leaf]
    simp only [List.drop_succ_cons, List.drop_zero]
    obtain ⟨y3, ST, hy3, hg3⟩ := store_stC ⟨(xX15, nX15, cX15), (xX16, nX16, cX16), nx, kd, id, (xX17, nX17, cX17)⟩ (HR.out.below KX17.out) rfl
    have RT := load_stC hy3
    simp only [stV, stL, slV] at ST RT
    have HB3 : Hid (Below B w y3) := (HBW.out.trans (KX17.out.mono (by have := HS.out; omega))).grown hg3 (by have := HS.out; have := KX17.out.size; omega) (fun k e => by cases e; exact Nat.le_succ B)
    have HO : Hid (StO W.heap.size y3 ⟨(xX15, nX15, cX15), (xX16, nX16, cX16), nx, kd, id, (xX17, nX17, cX17)⟩ d l ps) := StO.low ⟨OAX17.out, SNX17.out.weak KX15.out.size, OBX17.out⟩ hg3 (fun j e => by cases e; have := HS.out; omega)
    have RT := Lib.hid RT
    have ST := Lib.hid ST
    clear hy3 hg3
    have ST := ST.out
    go_wp2_with fail
    refine bodyPost_ret (results_cell rfl rfl RT.out) rfl ?_
    rw [HSZ.out]
    exact ⟨⟨(xX15, nX15, cX15), (xX16, nX16, cX16), nx, kd, id, (xX17, nX17, cX17)⟩, rfl, rfl, rfl, rfl, HO.out.weak (by have := HS.out; omega), HB3.out⟩
end Go.Proofs.YtfihpljgbghogaaGreat

/- The program's Copy of a state. -/
namespace Go.Proofs.YtfihpljgbghogaaGreat
open Go.RowKit Go.Shelf Go.Lib
set_option linter.unusedVariables false
set_option linter.unusedSimpArgs false
theorem SnO.setE {N E : Nat} {W : World} {v : Value} {l : List SN} {L : List Value} (h : SnO N W v l) (hE : RowC W E 30 L) (j : Nat) (x : Value) : SnO N (W.setCell ⟨E, j, none⟩ x) v l := by
  obtain ⟨r, h1, h2, h3⟩ := h
  exact ⟨r, h1, own_setB h2 hE (by decide) j x, fun k q s a b => ⟨(h3 k q s a b).id, own_setB (h3 k q s a b).ch hE (by decide) j x, ⟨own_setB (h3 k q s a b).tb.1 hE (by decide) j x, (h3 k q s a b).tb.2⟩, (h3 k q s a b).ok⟩⟩
/-- What lies there while a state is copied. -/
structure CpI (B E : Nat) (G : List Value) (w : World) (q : PS) (d : List Int) (sl : List SN) (ps : List (Int × Int)) (W : World) : Prop where
  g0 : RowC W B 30 G
  g1 : RowC W (B + 1) 30 (stL noQ)
  ge : RowC W E 30 (stL q)
  dd : InO (B + 2) W (slV q.d) d
  ss : SnO (B + 2) W (slV q.sn) sl
  pr : PrO (B + 2) W (slV q.pr) ps
  be : Below B w W
  n3 : B + 2 ≤ E
  n4 : E < W.heap.size
/-- Worlds in which the copy and the snapshot's box lie. -/
def CpT (E F : Nat) (L M : List Value) : Type := {x : World // RowC x E 30 L ∧ RowC x F 51 M}
variable {B E : Nat} {G : List Value} {w W W' : World} {q : PS} {d : List Int} {sl : List SN} {ps : List (Int × Int)}
theorem CpI.below (h : CpI B E G w q d sl ps W) (hb : Below W.heap.size W W') : CpI B E G w q d sl ps W' :=
  ⟨h.g0.below hb, h.g1.below hb, h.ge.below hb, h.dd.below hb, h.ss.below hb, h.pr.below hb, h.be.trans (hb.mono (by have := h.n3; have := h.n4; omega)), h.n3, Nat.lt_of_lt_of_le h.n4 hb.size⟩
/-- The row of snapshots grows, and is put there. -/
theorem CpI.put (h : CpI B E G w q d sl ps W) {Y : World} (hg : W.grownBy Y (slV q.sn).ownBlock) {u : SlV} {sl' : List SN} (hs : SnO (B + 2) Y (slV u) sl') :
    CpI B E G w ⟨q.d, u, q.nx, q.kd, q.id, q.pr⟩ d sl' ps (Y.setCell ⟨E, 1, none⟩ (slV u)) := by
  have n3 := h.n3
  have n4 := h.n4
  have ne : ∀ j, j < B + 2 → (slV q.sn).ownBlock ≠ some j := fun j hj e => by have := (h.ss.base j e).1; omega
  have hE : RowC Y E 30 (stL q) := h.ge.grown hg (h.ss.ne h.ge (by decide))
  obtain ⟨r, -, hr, -⟩ := h.ss
  exact ⟨set_other (h.g0.grown hg (ne _ (by omega))) (by omega) _ _, set_other (h.g1.grown hg (ne _ (by omega))) (by omega) _ _, hE.set 1 (slV u),
    own_setB (World.ownsRow.kept h.dd hg (rows_ne h.dd hr (by decide))) hE (by decide) _ _, hs.setE hE _ _, ⟨own_setB (h.pr.1.kept hg (rows_ne h.pr.1 hr (by decide))) hE (by decide) _ _, h.pr.2⟩,
    set_below (h.be.grown hg (by omega) (fun j e => by have := (h.ss.base j e).1; omega)) (by omega) _ _, n3, Nat.lt_of_lt_of_le n4 (Nat.le_trans hg.size (grownBy_setCellJ Y E 1 (slV u)).size)⟩
set_option maxRecDepth 100000 in
theorem build_sn3 (i : Int) (x y : Option Addr) (n c m e : Nat) (w : World) : (Instr.build 51 #[(0, .int .i64 i), (1, .slice x n c), (2, .slice y m e)]).run Tryz.prog w = .ok (.agg #[.int .i64 i, .slice x n c, .slice y m e]) w := by kernel_rfl
attribute [-simp] Tryz.isAgg51 Tryz.zeroValue51 Tryz.isAgg54 Tryz.zeroValue54 Tryz.isAgg30 Tryz.zeroValue30
attribute [-go_sem] loadVar storeVar
attribute [local go_sem] loadVar_openQ storeVar_openQ zero_sn zero_prs zero_st build_plK build_stY build_sn3
set_option maxRecDepth 100000 in
set_option maxHeartbeats 16000000 in
/-- **Copy**. -/
theorem sg_copy {w : World} {q : PS} {d : List Int} {l : List SN} {ps : List (Int × Int)} (hd : Sl .i64 w (slV q.d) d) (h : StIs w q l ps) (hK : Lens 1000 l) (hn : d.length ≤ 100000) (hp : ps.length ≤ 100000) :
    Calls Tryz.prog 17 #[stV q] w fun e w' => ∃ q' : PS, e = .returned (stV q') ∧ q'.nx = q.nx ∧ q'.kd = q.kd ∧ q'.id = q.id ∧ StO w.heap.size w' q' d l ps ∧ Below w.heap.size w w' := by
  have hmx : Tryz.prog.follows .mixedOrders = true := by kernel_rfl
  obtain ⟨⟨qd, qdn, qdc⟩, ⟨qs, qsn, qsc⟩, nx, kd, id, ⟨qp, qpn, qpc⟩⟩ := q
  have HK := Lib.hid hK
  obtain ⟨rs, hrs⟩ := h.sn
  obtain ⟨_, cap, e0, hl1, -⟩ := hrs
  simp only [slV, Value.slice.injEq] at e0
  obtain ⟨-, hql, -⟩ := e0
  have HSL : Hid (l.length = qsn) := hql.symm
  have hq1 : qsn ≤ 1000 := by rw [hql]; exact hK.1
  clear hl1 hql
  obtain ⟨B, hB⟩ : ∃ B, w.heap.size = B := ⟨_, rfl⟩
  have HSZ := Lib.hid hB
  obtain ⟨GL, hGL⟩ : ∃ G, [Value.slice qd qdn qdc, .slice qs qsn qsc, .int .i64 nx, .int .i64 kd, .int .i64 id, .slice qp qpn qpc] = G := ⟨_, rfl⟩
  obtain ⟨W1, hW1⟩ : ∃ W, w.alloc (.cells #[.slice qd qdn qdc, .slice qs qsn qsc, .int .i64 nx, .int .i64 kd, .int .i64 id, .slice qp qpn qpc] 30) = W := ⟨_, rfl⟩
  obtain ⟨W, hW⟩ : ∃ W, W1.alloc (.cells #[.slice none 0 0, .slice none 0 0, .int .i64 0, .int .i64 0, .int .i64 0, .slice none 0 0] 30) = W := ⟨_, rfl⟩
  have s1 : W1.heap.size = B + 1 := by rw [← hW1, ← hB]; simp
  have s2 : W.heap.size = B + 2 := by rw [← hW, World.size_alloc, s1]
  have r1 : RowC W1 B 30 GL := by rw [← hW1, ← hB, ← hGL]; exact RowC.new _ _ _
  have r2 : RowC W (B + 1) 30 (stL noQ) := by rw [← hW, ← s1]; exact RowC.new _ _ _
  have b1 : Below B w W1 := by rw [← hW1, ← hB]; exact below_new _ _
  have b2 : Below W1.heap.size W1 W := by rw [← hW]; exact below_new _ _
  have bF : Below B w W := b1.trans (b2.mono (by omega))
  have r1 := r1.below b2
  have c0 : ∀ z : Ext W, z.1.cell? ⟨B, 0, none⟩ = some (.slice qd qdn qdc) := fun z => (r1.below z.2).cell 0 _ (by rw [← hGL]; rfl)
  have c2 : ∀ z : Ext W, z.1.cell? ⟨B, 2, none⟩ = some (.int .i64 nx) := fun z => (r1.below z.2).cell 2 _ (by rw [← hGL]; rfl)
  have c3 : ∀ z : Ext W, z.1.cell? ⟨B, 3, none⟩ = some (.int .i64 kd) := fun z => (r1.below z.2).cell 3 _ (by rw [← hGL]; rfl)
  have c4 : ∀ z : Ext W, z.1.cell? ⟨B, 4, none⟩ = some (.int .i64 id) := fun z => (r1.below z.2).cell 4 _ (by rw [← hGL]; rfl)
  have c5 : ∀ z : Ext W, z.1.cell? ⟨B, 5, none⟩ = some (.slice qp qpn qpc) := fun z => (r1.below z.2).cell 5 _ (by rw [← hGL]; rfl)
  have HG1 : Hid (∀ X : World, RowC X B 30 GL → X.cell? ⟨B, 1, none⟩ = some (.slice qs qsn qsc)) := fun X h => h.cell 1 _ (by rw [← hGL]; rfl)
  have HG0 := Lib.hid r1
  have HR := Lib.hid r2
  have HBW := Lib.hid bF
  have HS := Lib.hid s2
  have HCI : Hid (∀ z : World, Below W.heap.size W z → Calls Tryz.prog 49 #[.slice qd qdn qdc] z fun e w' => ∃ u, e = .returned u ∧ InO z.heap.size w' u d ∧ Below z.heap.size z w') := fun z hz => in_clone (hd.below (by rw [hB]; exact bF.trans (hz.mono (by omega)))) (by omega)
  have HCP : Hid (∀ z : World, Below W.heap.size W z → Calls Tryz.prog 50 #[.slice qp qpn qpc] z fun e w' => ∃ u, e = .returned u ∧ PrO z.heap.size w' u ps ∧ Below z.heap.size z w') := fun z hz => tb_clone (h.pr.below (by rw [hB]; exact bF.trans (hz.mono (by omega)))) (by omega)
  have HSN : Hid (Snp w (.slice qs qsn qsc) l) := h.sn
  have KW : Hid (Below W.heap.size W W.drew) := (Below.refl _ W).drew
  clear hd h hK hn hp r1 r2 b1 b2 bF s2 hGL
  simp only [stV, stL, slV]
  go_enter Tryz.func17, Tryz.ntmps17
  go_wp2_with fail
  try rw [hW1]
  try rw [hW]
  clear hW1 hW s1
  go_cut [3] from 6 to 22 (fun s3 wx => ∃ (E : Nat) (x y : Option Addr) (n c m e : Nat), s3 = .pointer (some ⟨E, 0, none⟩) ∧ Hid (CpI B E GL w ⟨(x, n, c), (none, 0, 0), nx, kd, id, (y, m, e)⟩ d [] ps wx))
  case first =>
    refine region_plan (fun x => ∃ y : Ext W, x = y.1) 18 (.takes [0, 1, 3, 4, 5, 6, 7, 8, 9, 10, 11, 12, 13] (.two 2 17 (.two 14 17 (.takes [15, 16] (.one 17 .leaf)) (.one 14 (.takes [15, 16] .leaf))) (.one 2 (.one 14 (.takes [15, 16] .leaf))))) hmx (by kernel_rfl) (by intro c x v a w h; cases x <;> exact h) ⟨⟨W.drew, KW.out⟩, rfl⟩ ?_
    repeat (rw [wpPlan_takes_cons]; simp only [nth_zero, nth_succ]; go_big_quiet_step (fail); refine wpQuiet_nil ?_)
    rw [wpPlan_takes_nil]
    clear c0 c2 c3 c4 c5
    obtain ⟨X0, hX0⟩ : ∃ X, W.drew = X := ⟨_, rfl⟩
    rw [hX0] at KW
    try rw [hX0]
    clear hX0
    rw [wpPlan_twoT]
    refine ⟨?_, ?_⟩
    · simp only [nth_zero, nth_succ]
      go_wp2_with fail
      refine (HCI.out X0 KW.out).mono ?_
      rintro e X1 ⟨uX1, rfl, hoX1, bX1⟩
      obtain ⟨⟨xX1, nX1, cX1⟩, rfl, -⟩ := own_slV hoX1
      have KX1 : Hid (Below W.heap.size W X1) := KW.out.trans (bX1.mono KW.out.size)
      have OAX1 : Hid (InO (B + 2) X1 (.slice xX1 nX1 cX1) d) := own_weak hoX1 (by have := HS.out; have := KW.out.size; omega)
      clear hoX1 bX1
      simp only [slV]
      go_wp2_with fail
      refine planPost_mk ⟨⟨X1, KX1.out⟩, rfl⟩ ?_
      rw [wpPlan_twoT]
      refine ⟨?_, ?_⟩
      · simp only [nth_zero, nth_succ]
        go_wp2_with fail
        refine (HCP.out X1 KX1.out).mono ?_
        rintro e X2 ⟨uX2, rfl, hoX2, bX2⟩
        obtain ⟨⟨xX2, nX2, cX2⟩, rfl, -⟩ := own_slV hoX2.1
        have KX2 : Hid (Below W.heap.size W X2) := KX1.out.trans (bX2.mono KX1.out.size)
        have OBX2 : Hid (PrO (B + 2) X2 (.slice xX2 nX2 cX2) ps) := hoX2.weak (by have := HS.out; have := KX1.out.size; omega)
        have OAX2 := Lib.hid (OAX1.out.below bX2)
        clear hoX2 bX2
        simp only [slV]
        go_wp2_with fail
        refine planPost_mk ⟨⟨X2, KX2.out⟩, rfl⟩ ?_
        repeat (rw [wpPlan_takes_cons]; simp only [nth_zero, nth_succ]; go_big_quiet_step (fail); refine wpQuiet_nil ?_)
        rw [wpPlan_takes_nil]
        rw [wpPlan_one]
        simp only [nth_zero, nth_succ]
        obtain ⟨E, hE⟩ : ∃ E, X2.heap.size = E := ⟨_, rfl⟩
        obtain ⟨X3, hX3⟩ : ∃ Y, X2.alloc (.cells #[.slice none 0 0, .slice none 0 0, .int .i64 0, .int .i64 0, .int .i64 0, .slice none 0 0] 30) = Y := ⟨_, rfl⟩
        have bX3 : Below X2.heap.size X2 X3 := by rw [← hX3]; exact below_new _ _
        have KX3 : Hid (Below W.heap.size W X3) := KX2.out.trans (bX3.mono KX2.out.size)
        have EX3 : Hid (RowC X3 E 30 (stL noQ)) := by show RowC _ _ _ _; rw [← hX3, ← hE]; exact RowC.new _ _ _
        have HEB : Hid (B + 2 ≤ E) := by show _ ≤ _; rw [← hE, ← HS.out]; exact KX2.out.size
        have OAX3 := Lib.hid (OAX2.out.below bX3)
        have OBX3 := Lib.hid (OBX2.out.below bX3)
        go_wp2_with fail
        try rw [hX3]
        try rw [hE]
        clear hX3 bX3 hE
        refine planPost_mk ⟨⟨X3, KX3.out⟩, rfl⟩ ?_
        rw [wpPlan_leaf]
        simp only [List.drop_succ_cons, List.drop_zero]
        obtain ⟨y3, ST, hy3, hg3⟩ := store_stC ⟨(xX1, nX1, cX1), (none, 0, 0), nx, kd, id, (xX2, nX2, cX2)⟩ EX3.out rfl
        have HI : Hid (CpI B E GL w ⟨(xX1, nX1, cX1), (none, 0, 0), nx, kd, id, (xX2, nX2, cX2)⟩ d [] ps y3) := by
          have h1 := HS.out
          have h2 := KX3.out.size
          have h3 := HEB.out
          have b := HBW.out.trans (KX3.out.mono (by omega))
          exact ⟨(HG0.out.below KX3.out).grown hg3 (fun e => by cases e; omega), (HR.out.below KX3.out).grown hg3 (fun e => by cases e; omega), hy3, World.ownsRow.kept OAX3.out hg3 (.inr (row_ne OAX3.out EX3.out (by decide))), SnO.nil _ _, ⟨OBX3.out.1.kept hg3 (.inr (row_ne OBX3.out.1 EX3.out (by decide))), OBX3.out.2⟩, b.grown hg3 (by omega) (fun j e => by cases e; omega), h3, Nat.lt_of_lt_of_le EX3.out.lt hg3.size⟩
        simp only [stV, stL, slV] at ST
        clear hy3 hg3
        go_wp2_with fail
        go_meet
        exact ⟨E, _, _, _, _, _, _, rfl, HI⟩
      · simp only [nth_zero, nth_succ]
        obtain ⟨E, hE⟩ : ∃ E, X1.heap.size = E := ⟨_, rfl⟩
        obtain ⟨X4, hX4⟩ : ∃ Y, X1.alloc (.cells #[.slice none 0 0, .slice none 0 0, .int .i64 0, .int .i64 0, .int .i64 0, .slice none 0 0] 30) = Y := ⟨_, rfl⟩
        have bX4 : Below X1.heap.size X1 X4 := by rw [← hX4]; exact below_new _ _
        have KX4 : Hid (Below W.heap.size W X4) := KX1.out.trans (bX4.mono KX1.out.size)
        have EX4 : Hid (RowC X4 E 30 (stL noQ)) := by show RowC _ _ _ _; rw [← hX4, ← hE]; exact RowC.new _ _ _
        have HEB : Hid (B + 2 ≤ E) := by show _ ≤ _; rw [← hE, ← HS.out]; exact KX1.out.size
        have OAX4 := Lib.hid (OAX1.out.below bX4)
        go_wp2_with fail
        try rw [hX4]
        try rw [hE]
        clear hX4 bX4 hE
        refine planPost_mk ⟨⟨X4, KX4.out⟩, rfl⟩ ?_
        rw [wpPlan_one]
        simp only [nth_zero, nth_succ]
        go_wp2_with fail
        refine (HCP.out X4 KX4.out).mono ?_
        rintro e X5 ⟨uX5, rfl, hoX5, bX5⟩
        obtain ⟨⟨xX5, nX5, cX5⟩, rfl, -⟩ := own_slV hoX5.1
        have KX5 : Hid (Below W.heap.size W X5) := KX4.out.trans (bX5.mono KX4.out.size)
        have OBX5 : Hid (PrO (B + 2) X5 (.slice xX5 nX5 cX5) ps) := hoX5.weak (by have := HS.out; have := KX4.out.size; omega)
        have OAX5 := Lib.hid (OAX4.out.below bX5)
        have EX5 := Lib.hid (EX4.out.below bX5)
        clear hoX5 bX5
        simp only [slV]
        go_wp2_with fail
        refine planPost_mk ⟨⟨X5, KX5.out⟩, rfl⟩ ?_
        repeat (rw [wpPlan_takes_cons]; simp only [nth_zero, nth_succ]; go_big_quiet_step (fail); refine wpQuiet_nil ?_)
        rw [wpPlan_takes_nil]
        rw [wpPlan_leaf]
        simp only [List.drop_succ_cons, List.drop_zero]
        obtain ⟨y3, ST, hy3, hg3⟩ := store_stC ⟨(xX1, nX1, cX1), (none, 0, 0), nx, kd, id, (xX5, nX5, cX5)⟩ EX5.out rfl
        have HI : Hid (CpI B E GL w ⟨(xX1, nX1, cX1), (none, 0, 0), nx, kd, id, (xX5, nX5, cX5)⟩ d [] ps y3) := by
          have h1 := HS.out
          have h2 := KX5.out.size
          have h3 := HEB.out
          have b := HBW.out.trans (KX5.out.mono (by omega))
          exact ⟨(HG0.out.below KX5.out).grown hg3 (fun e => by cases e; omega), (HR.out.below KX5.out).grown hg3 (fun e => by cases e; omega), hy3, World.ownsRow.kept OAX5.out hg3 (.inr (row_ne OAX5.out EX5.out (by decide))), SnO.nil _ _, ⟨OBX5.out.1.kept hg3 (.inr (row_ne OBX5.out.1 EX5.out (by decide))), OBX5.out.2⟩, b.grown hg3 (by omega) (fun j e => by cases e; omega), h3, Nat.lt_of_lt_of_le EX5.out.lt hg3.size⟩
        simp only [stV, stL, slV] at ST
        clear hy3 hg3
        go_wp2_with fail
        go_meet
        exact ⟨E, _, _, _, _, _, _, rfl, HI⟩
    · simp only [nth_zero, nth_succ]
      obtain ⟨E, hE⟩ : ∃ E, X0.heap.size = E := ⟨_, rfl⟩
      obtain ⟨X6, hX6⟩ : ∃ Y, X0.alloc (.cells #[.slice none 0 0, .slice none 0 0, .int .i64 0, .int .i64 0, .int .i64 0, .slice none 0 0] 30) = Y := ⟨_, rfl⟩
      have bX6 : Below X0.heap.size X0 X6 := by rw [← hX6]; exact below_new _ _
      have KX6 : Hid (Below W.heap.size W X6) := KW.out.trans (bX6.mono KW.out.size)
      have EX6 : Hid (RowC X6 E 30 (stL noQ)) := by show RowC _ _ _ _; rw [← hX6, ← hE]; exact RowC.new _ _ _
      have HEB : Hid (B + 2 ≤ E) := by show _ ≤ _; rw [← hE, ← HS.out]; exact KW.out.size
      go_wp2_with fail
      try rw [hX6]
      try rw [hE]
      clear hX6 bX6 hE
      refine planPost_mk ⟨⟨X6, KX6.out⟩, rfl⟩ ?_
      rw [wpPlan_one]
      simp only [nth_zero, nth_succ]
      go_wp2_with fail
      refine (HCI.out X6 KX6.out).mono ?_
      rintro e X7 ⟨uX7, rfl, hoX7, bX7⟩
      obtain ⟨⟨xX7, nX7, cX7⟩, rfl, -⟩ := own_slV hoX7
      have KX7 : Hid (Below W.heap.size W X7) := KX6.out.trans (bX7.mono KX6.out.size)
      have OAX7 : Hid (InO (B + 2) X7 (.slice xX7 nX7 cX7) d) := own_weak hoX7 (by have := HS.out; have := KX6.out.size; omega)
      have EX7 := Lib.hid (EX6.out.below bX7)
      clear hoX7 bX7
      simp only [slV]
      go_wp2_with fail
      refine planPost_mk ⟨⟨X7, KX7.out⟩, rfl⟩ ?_
      rw [wpPlan_one]
      simp only [nth_zero, nth_succ]
      go_wp2_with fail
      refine (HCP.out X7 KX7.out).mono ?_
      rintro e X8 ⟨uX8, rfl, hoX8, bX8⟩
      obtain ⟨⟨xX8, nX8, cX8⟩, rfl, -⟩ := own_slV hoX8.1
      have KX8 : Hid (Below W.heap.size W X8) := KX7.out.trans (bX8.mono KX7.out.size)
      have OBX8 : Hid (PrO (B + 2) X8 (.slice xX8 nX8 cX8) ps) := hoX8.weak (by have := HS.out; have := KX7.out.size; omega)
      have OAX8 := Lib.hid (OAX7.out.below bX8)
      have EX8 := Lib.hid (EX7.out.below bX8)
      clear hoX8 bX8
      simp only [slV]
      go_wp2_with fail
      refine planPost_mk ⟨⟨X8, KX8.out⟩, rfl⟩ ?_
      repeat (rw [wpPlan_takes_cons]; simp only [nth_zero, nth_succ]; go_big_quiet_step (fail); refine wpQuiet_nil ?_)
      rw [wpPlan_takes_nil]
      rw [wpPlan_leaf]
      simp only [List.drop_succ_cons, List.drop_zero]
      obtain ⟨y3, ST, hy3, hg3⟩ := store_stC ⟨(xX7, nX7, cX7), (none, 0, 0), nx, kd, id, (xX8, nX8, cX8)⟩ EX8.out rfl
      have HI : Hid (CpI B E GL w ⟨(xX7, nX7, cX7), (none, 0, 0), nx, kd, id, (xX8, nX8, cX8)⟩ d [] ps y3) := by
        have h1 := HS.out
        have h2 := KX8.out.size
        have h3 := HEB.out
        have b := HBW.out.trans (KX8.out.mono (by omega))
        exact ⟨(HG0.out.below KX8.out).grown hg3 (fun e => by cases e; omega), (HR.out.below KX8.out).grown hg3 (fun e => by cases e; omega), hy3, World.ownsRow.kept OAX8.out hg3 (.inr (row_ne OAX8.out EX8.out (by decide))), SnO.nil _ _, ⟨OBX8.out.1.kept hg3 (.inr (row_ne OBX8.out.1 EX8.out (by decide))), OBX8.out.2⟩, b.grown hg3 (by omega) (fun j e => by cases e; omega), h3, Nat.lt_of_lt_of_le EX8.out.lt hg3.size⟩
      simp only [stV, stL, slV] at ST
      clear hy3 hg3
      go_wp2_with fail
      go_meet
      exact ⟨E, _, _, _, _, _, _, rfl, HI⟩
  case rest =>
    obtain ⟨E, x, y, n, c, m, e, rfl, HI⟩ := hcut
    have k1 := HG1.out _ HI.out.g0
    clear c0 c2 c3 c4 c5 KW HCI HCP
    go_wp2_with fail
    clear k1
    go_loopw [26] (fun iv wr => ∃ (k : Nat) (sx : Option Addr) (sn sc : Nat), k ≤ qsn ∧ iv = .int .i64 (k : Int) ∧ Hid (CpI B E GL w ⟨(x, n, c), (sx, sn, sc), nx, kd, id, (y, m, e)⟩ d (l.take k) ps wr)) (fun iv _ => qsn - (intOf iv).toNat)
    case atStart => exact ⟨0, none, 0, 0, Nat.zero_le _, rfl, by rw [List.take_zero]; exact HI⟩
    case round =>
      clear HI
      obtain ⟨k, sx, sn, sc, hk, rfl, HI⟩ := hrel
      by_cases hlt : k < qsn
      · have q1 : (k : Int) < (qsn : Int) := by omega
        have HLT := Lib.hid hlt
        obtain ⟨s, hs⟩ : ∃ s, l[k]? = some s := ⟨_, List.getElem?_eq_getElem (by rw [HSL.out]; exact hlt)⟩
        have hls := HK.out.2 s (List.mem_of_getElem? hs)
        have HTK := Lib.hid (take_at hs)
        obtain ⟨rr, hS⟩ := HSN.out
        have bw : Below w.heap.size w wr := by rw [HSZ.out]; exact HI.out.be
        obtain ⟨b, off, qv, rfl, hb, hrr, hq, e0, e1, e2⟩ := (hS.below bw).at hs
        have LD := load_sn e0 e1 e2
        have ST := new_sn wr qv
        obtain ⟨Y, hY⟩ : ∃ Y, wr.alloc (.cells (svL qv).toArray 51) = Y := ⟨_, rfl⟩
        have bY : Below wr.heap.size wr Y := by rw [← hY]; exact below_new _ _
        have rY : RowC Y wr.heap.size 51 (svL qv) := by rw [← hY]; exact RowC.new _ _ _
        rw [hY] at ST
        obtain ⟨F, hF⟩ : ∃ F, wr.heap.size = F := ⟨_, rfl⟩
        rw [hF] at ST rY
        have RY := Lib.hid rY
        have HLF : Hid (∀ j, (slV (sx, sn, sc)).ownBlock = some j → j < F) := fun j e => by rw [← hF]; exact (HI.out.ss.base j e).2
        have IY := Lib.hid (HI.out.below bY)
        have HQ := Lib.hid (hq.below bY)
        obtain ⟨i, ⟨x1, n1, c1⟩, ⟨x2, n2, c2⟩⟩ := qv
        have HC1 : Hid (∀ z : World, Below Y.heap.size Y z → Calls Tryz.prog 51 #[.slice x1 n1 c1] z fun e w' => ∃ v', e = .returned v' ∧ w'.ownsRow z.heap.size 5 1 v' s.ch.length (s.ch.map (Value.int .u8)) ∧ Below z.heap.size z w') := fun z hz => bi_clone _ s.ch z (HQ.out.ch.below hz) (by omega)
        have HC2 : Hid (∀ z : World, Below Y.heap.size Y z → Calls Tryz.prog 50 #[.slice x2 n2 c2] z fun e w' => ∃ u, e = .returned u ∧ PrO z.heap.size w' u s.tb ∧ Below z.heap.size z w') := fun z hz => tb_clone (HQ.out.tb.below hz) (by omega)
        have KD : Hid (Below Y.heap.size Y Y.drew) := (Below.refl _ Y).drew
        have HRow : Hid (∀ z : World, Below Y.heap.size Y z → RowC z E 30 (stL ⟨(x, n, c), (sx, sn, sc), nx, kd, id, (y, m, e)⟩) ∧ RowC z F 51 (svL (i, (x1, n1, c1), (x2, n2, c2)))) := fun z hz => ⟨IY.out.ge.below hz, RY.out.below hz⟩
        haveI : Nonempty (CpT E F (stL ⟨(x, n, c), (sx, sn, sc), nx, kd, id, (y, m, e)⟩) (svL (i, (x1, n1, c1), (x2, n2, c2)))) := ⟨⟨Y.drew, HRow.out _ KD.out⟩⟩
        have d0 : ∀ z : CpT E F (stL ⟨(x, n, c), (sx, sn, sc), nx, kd, id, (y, m, e)⟩) (svL (i, (x1, n1, c1), (x2, n2, c2))), z.1.cell? ⟨E, 1, none⟩ = some (.slice sx sn sc) := fun z => z.2.1.cell 1 _ rfl
        have d1 : ∀ z : CpT E F (stL ⟨(x, n, c), (sx, sn, sc), nx, kd, id, (y, m, e)⟩) (svL (i, (x1, n1, c1), (x2, n2, c2))), z.1.cell? ⟨F, 0, none⟩ = some (.int .i64 i) := fun z => z.2.2.cell 0 _ rfl
        have d2 : ∀ z : CpT E F (stL ⟨(x, n, c), (sx, sn, sc), nx, kd, id, (y, m, e)⟩) (svL (i, (x1, n1, c1), (x2, n2, c2))), z.1.cell? ⟨F, 1, none⟩ = some (.slice x1 n1 c1) := fun z => z.2.2.cell 1 _ rfl
        have d3 : ∀ z : CpT E F (stL ⟨(x, n, c), (sx, sn, sc), nx, kd, id, (y, m, e)⟩) (svL (i, (x1, n1, c1), (x2, n2, c2))), z.1.cell? ⟨F, 2, none⟩ = some (.slice x2 n2 c2) := fun z => z.2.2.cell 2 _ rfl
        simp only [svV, slV] at ST LD
        clear hs hls hS bw hb hrr hq e0 e1 e2 hlt bY rY hY HI RY
        go_wp2_with fail
        refine region_plan (fun x' => ∃ z : CpT E F (stL ⟨(x, n, c), (sx, sn, sc), nx, kd, id, (y, m, e)⟩) (svL (i, (x1, n1, c1), (x2, n2, c2))), x' = z.1) 14 (.takes [0, 1, 2, 3, 4, 5, 7, 8] (.one 6 (.one 9 (.takes [10] (.one 11 (.one 12 (.takes [13] .leaf))))))) hmx (by kernel_rfl) (by intro c x v a w h; cases x <;> exact h) ⟨⟨Y.drew, HRow.out _ KD.out⟩, rfl⟩ ?_
        repeat (rw [wpPlan_takes_cons]; simp only [nth_zero, nth_succ]; go_big_quiet_step (fail); refine wpQuiet_nil ?_)
        clear d0 d1 d2 d3 ST LD
        rw [wpPlan_takes_nil, wpPlan_one]
        simp only [nth_zero, nth_succ]
        go_wp2_with fail
        refine (HC1.out _ KD.out).mono ?_
        rintro e' y1 ⟨v1, rfl, ho1, hb1⟩
        have B1 : Hid (Below Y.heap.size Y y1) := KD.out.trans (hb1.mono KD.out.size)
        obtain ⟨⟨p1, p2, p3⟩, rfl, -⟩ := own_slV ho1
        have O1 : Hid (y1.ownsRow (B + 2) 5 1 (.slice p1 p2 p3) s.ch.length (s.ch.map (Value.int .u8))) := own_weak ho1 (by have := KD.out.size; have := IY.out.n3; have := IY.out.n4; omega)
        clear ho1 hb1
        simp only [slV]
        go_wp2_with fail
        refine planPost_mk ⟨⟨y1, HRow.out _ B1.out⟩, rfl⟩ ?_
        rw [wpPlan_one]
        simp only [nth_zero, nth_succ]
        go_wp2_with fail
        refine (HC2.out _ B1.out).mono ?_
        rintro e' y2 ⟨v2, rfl, ho2, hb2⟩
        have B2 : Hid (Below Y.heap.size Y y2) := B1.out.trans (hb2.mono B1.out.size)
        obtain ⟨⟨r1, r2, r3⟩, rfl, -⟩ := own_slV ho2.1
        have F2 : Hid (SnF (B + 2) y2 (i, (p1, p2, p3), (r1, r2, r3)) s) := ⟨HQ.out.id, own_belowT O1.out hb2, ho2.weak (by have := B1.out.size; have := IY.out.n3; have := IY.out.n4; omega), HQ.out.ok⟩
        clear ho2 hb2 O1
        simp only [slV]
        go_wp2_with fail
        refine planPost_mk ⟨⟨y2, HRow.out _ B2.out⟩, rfl⟩ ?_
        repeat (rw [wpPlan_takes_cons]; simp only [nth_zero, nth_succ]; go_big_quiet_step (fail); refine wpQuiet_nil ?_)
        have I2 := Lib.hid (IY.out.below B2.out)
        have S1 := slice_sn1 y2 (i, (p1, p2, p3), (r1, r2, r3))
        obtain ⟨v3, y3, hA, O3, hg3⟩ := sn_append I2.out.ss (by have := I2.out.n3; have := I2.out.n4; omega) F2.out (by rw [List.length_take]; have := HSL.out; omega)
        rw [← HTK.out] at O3
        obtain ⟨⟨t1, t2, t3⟩, rfl, -⟩ := O3.isSl
        obtain ⟨Y2, hY2⟩ : ∃ Z, y2.alloc (.cells (svL (i, (p1, p2, p3), (r1, r2, r3))).toArray 51) = Z := ⟨_, rfl⟩
        have bY2 : Below y2.heap.size y2 Y2 := by rw [← hY2]; exact below_new _ _
        have B3 : Hid (Below Y.heap.size Y Y2) := B2.out.trans (bY2.mono B2.out.size)
        rw [hY2] at hA S1
        have IP := Lib.hid (I2.out.put hg3 O3)
        have hEg : RowC y3 E 30 (stL ⟨(x, n, c), (sx, sn, sc), nx, kd, id, (y, m, e)⟩) := I2.out.ge.grown hg3 (I2.out.ss.ne I2.out.ge (by decide))
        have hFg : RowC y3 F 51 (svL (i, (x1, n1, c1), (x2, n2, c2))) := (HRow.out _ B2.out).2.grown hg3 (fun h => Nat.lt_irrefl _ (HLF.out _ h))
        have KY : Hid (RowC y3 E 30 (stL ⟨(x, n, c), (sx, sn, sc), nx, kd, id, (y, m, e)⟩) ∧ RowC y3 F 51 (svL (i, (x1, n1, c1), (x2, n2, c2)))) := ⟨hEg, hFg⟩
        have f0 := hEg.frozen 1
        have e0 := hEg.cell 1 _ rfl
        have HA := Lib.hid hA
        have HS1 := Lib.hid S1
        simp only [svV, slV] at HA HS1 e0 IP
        clear hA S1 hY2 O3 hg3 hEg hFg bY2 I2
        rw [wpPlan_takes_nil, wpPlan_one]
        simp only [nth_zero, nth_succ]
        go_wp2_with ((with_reducible refine gate_build ?_); refine wpList_build_run 25 1 #[(0, .tmp 40)] rfl rfl [(0, _)] _ rfl HS1.out ?_)
        refine planPost_mk ⟨⟨Y2, HRow.out _ B3.out⟩, rfl⟩ ?_
        rw [wpPlan_one]
        simp only [nth_zero, nth_succ]
        go_wp2_with (at_builtin; refine wpList_append_run (.tmp 31) (.tmp 41) 25 rfl rfl _ _ _ rfl rfl (HA.out _) ?_)
        refine planPost_mk ⟨⟨y3, KY.out⟩, rfl⟩ ?_
        repeat (rw [wpPlan_takes_cons]; simp only [nth_zero, nth_succ]; go_big_quiet_step (fail); refine wpQuiet_nil ?_)
        rw [wpPlan_takes_nil, wpPlan_leaf]
        simp only [List.drop_succ_cons, List.drop_zero]
        go_wp2_with fail
        exact ⟨⟨k + 1, t1, t2, t3, HLT.out, by simp, IP⟩, by have := HLT.out; simp [intOf]; omega⟩
      · obtain rfl : k = qsn := by omega
        have HE : Hid (l.take k = l) := List.take_of_length_le (by rw [HSL.out]; exact Nat.le_refl _)
        rw [HE.out] at HI
        obtain ⟨z, hST, hRz, hgz⟩ := store_stC ⟨(x, n, c), (sx, sn, sc), nx, kd, id, (y, m, e)⟩ HI.out.g1 rfl
        have LS := load_stC HI.out.ge
        have HLD := Lib.hid (load_stC hRz)
        have FO : Hid (StO B z ⟨(x, n, c), (sx, sn, sc), nx, kd, id, (y, m, e)⟩ d l ps) := (StO.low (N := B + 2) ⟨HI.out.dd, HI.out.ss, HI.out.pr⟩ hgz (fun j e => by cases e; omega)).weak (by omega)
        have FB : Hid (Below B w z) := HI.out.be.grown hgz (by have := HI.out.n3; have := HI.out.n4; omega) (fun j e => by cases e; omega)
        simp only [stV, stL, slV] at hST LS HLD ⊢
        clear hRz hgz hlt
        go_wp2_with fail
        refine bodyPost_ret (results_cell rfl rfl HLD.out) rfl ?_
        rw [HSZ.out]
        exact ⟨⟨(x, n, c), (sx, sn, sc), nx, kd, id, (y, m, e)⟩, rfl, rfl, rfl, rfl, FO.out, FB.out⟩
end Go.Proofs.YtfihpljgbghogaaGreat

/- math/bits.Mul: its contract, laid at this seat. -/
namespace Go.Proofs.YtfihpljgbghogaaGreat
open Go.Shelf
open Go.RowKit Go.Lib in
def mulLaid_ren : Go.Shelf.Ren := ⟨fun | 212 => 73 | 263 => 103 | 264 => 104 | n => n, fun | 46 => 87 | 51 => 132 | 146 => 133 | 53 => 59 | 148 => 135 | n => n, fun | n => n⟩
set_option maxRecDepth 100000 in
theorem mulLaid : Go.Proofs.Lays.n212 Tryz.prog mulLaid_ren := {
  mixed := by kernel_rfl
  f212 := Tryz.func73.trans (congrArg some (by kernel_rfl))
  f263 := Tryz.func103.trans (congrArg some (by kernel_rfl))
  f264 := Tryz.func104.trans (congrArg some (by kernel_rfl))
  t46 := Tryz.underlying87
  a46 := Tryz.isAgg87
  z46 := Tryz.sizeOf87
  v46 := Tryz.zeroValue87
  t51 := Tryz.underlying132
  a51 := Tryz.isAgg132
  z51 := Tryz.sizeOf132
  v51 := Tryz.zeroValue132
  t53 := Tryz.underlying59
  a53 := Tryz.isAgg59
  z53 := Tryz.sizeOf59
  v53 := Tryz.zeroValue59
  t146 := Tryz.underlying133
  a146 := Tryz.isAgg133
  z146 := Tryz.sizeOf133
  v146 := Tryz.zeroValue133
  t148 := Tryz.underlying135
  a148 := Tryz.isAgg135
  z148 := Tryz.sizeOf135
  v148 := Tryz.zeroValue135 }
open Go.RowKit Go.Lib in
set_option maxRecDepth 100000 in
theorem laid_bits_Mul (x y : Nat) (hx : x < 18446744073709551616) (hy : y < 18446744073709551616) (w : World) :
    Calls Tryz.prog 73 #[.int .u64 x, .int .u64 y] w fun e w' => e = .returned (.tuple #[.int .u64 ((x * y / 18446744073709551616 : Nat) : Int), .int .u64 ((x * y % 18446744073709551616 : Nat) : Int)]) ∧ w' = w := Any.bits_Mul mulLaid x y hx hy w
end Go.Proofs.YtfihpljgbghogaaGreat

/- slices.Repeat of one number; the program's First. -/
namespace Go.Proofs.YtfihpljgbghogaaGreat
open Go.RowKit Go.Shelf Go.Lib
set_option linter.unusedVariables false
set_option linter.unusedSimpArgs false
/-- So many numbers of one sort, and zeros behind. -/
def rpL (z : Int) (k n : Nat) : List Value := List.replicate k (.int .i64 z) ++ List.replicate (n - k) (.int .i64 0)
theorem rpL_zero (z : Int) (n : Nat) : rpL z 0 n = List.replicate n (.int .i64 0) := by unfold rpL; simp
theorem rpL_len (z : Int) {k n : Nat} (h : k ≤ n) : (rpL z k n).length = n := by unfold rpL; simp; omega
theorem rpL_full (z : Int) (n : Nat) : rpL z n n = (List.replicate n z).map (Value.int .i64) := by unfold rpL; simp
theorem rpL_get (z : Int) {k n j : Nat} (h : j < k) : (rpL z k n)[j]? = some (.int .i64 z) := by
  unfold rpL
  rw [List.getElem?_append_left (by simpa using h), List.getElem?_replicate, if_pos h]
theorem rpL_next (z : Int) {k m n : Nat} (h : k + m ≤ n) : (rpL z k n).take k ++ List.replicate m (Value.int .i64 z) ++ (rpL z k n).drop (k + m) = rpL z (k + m) n := by
  unfold rpL
  rw [List.take_append_of_le_length (by simp), List.take_of_length_le (by simp)]
  rw [List.drop_append, List.drop_of_length_le (by simp), List.nil_append, List.length_replicate, List.drop_replicate, List.replicate_append_replicate, show n - k - (k + m - k) = n - (k + m) by omega]
set_option maxRecDepth 100000 in
theorem run_mk_ints (n : Nat) (hn : n ≤ 1000) (w : World) : (Instr.makeSlice 24 (.int .i64 (n : Int)) (.int .i64 (n : Int))).run Tryz.prog w = .ok (.slice (some ⟨w.heap.size, 0, none⟩) n n) (w.alloc (.cells (rpL 0 0 n).toArray 3)) := by
  obtain ⟨i0, hi, hz0, hz1, hz2⟩ := info_parts info_intT
  have hr := run_make (P := Tryz.prog) w 24 3 i0 (.int .i64 0) Tryz.underlying24 hi hz0 .i64 .i64 (n : Int) (n : Int) (by omega) (by omega) (by rw [hz2]; omega) (by omega)
  have e : madeCells (Value.int .i64 0).cells ((n : Int).toNat * i0.size) = (rpL 0 0 n).toArray := by
    apply Array.toList_inj.1
    rw [show (Value.int .i64 0).cells = #[.int .i64 0] from rfl, toList_madeCells_one, rpL_zero, hz1]
    simp
  rw [hr, e]
  simp
theorem rpL_any (z z' : Int) (n : Nat) : rpL z 0 n = rpL z' 0 n := by unfold rpL; simp
set_option maxRecDepth 100000 in
set_option maxHeartbeats 4000000 in
/-- **Repeat** of one number. -/
theorem sg_repeat {w : World} (E n : Nat) (z : Int) (hn1 : 1 ≤ n) (hn2 : n ≤ 1000) (hE : RowC w E 3 [.int .i64 z]) :
    Calls Tryz.prog 37 #[.slice (some ⟨E, 0, none⟩) 1 1, .int .i64 (n : Int)] w fun e w' => e = .returned (.slice (some ⟨w.heap.size, 0, none⟩) n n) ∧ RowC w' w.heap.size 3 (rpL z n n) ∧ Below w.heap.size w w' := by
  have hmx : Tryz.prog.follows .mixedOrders = true := by kernel_rfl
  have HMU : Hid (∀ x : World, Calls Tryz.prog 73 #[.int .u64 1, .int .u64 (n : Int)] x fun e w' => e = .returned (.tuple #[.int .u64 0, .int .u64 (n : Int)]) ∧ w' = x) := fun x => by
    have h := laid_bits_Mul 1 n (by omega) (by omega) x
    rw [show 1 * n / 18446744073709551616 = 0 by omega, show 1 * n % 18446744073709551616 = n by omega] at h
    exact h
  obtain ⟨D, hD⟩ : ∃ D, w.heap.size = D := ⟨_, rfl⟩
  have HSZ := Lib.hid hD
  obtain ⟨W, hW⟩ : ∃ W, w.alloc (.cells (rpL 0 0 n).toArray 3) = W := ⟨_, rfl⟩
  have MK := run_mk_ints n hn2 w
  rw [hW, hD] at MK
  have bW : Below D w W := by rw [← hW, ← hD]; exact below_new _ _
  have rW : RowC W D 3 (rpL z 0 n) := by rw [← hW, ← hD, rpL_any z 0 n]; exact RowC.new _ _ _
  have hEW := hE.below (by rw [hD]; exact bW)
  have hsz1 : (Tryz.prog.info? 3).map (·.size) = some 1 := by kernel_rfl
  have cp : ∀ (x : World) (k m : Nat) (a : Addr) (dc sl sc : Nat), RowC x D 3 (rpL z k n) → k + m ≤ n → m = Nat.min sl (n - k) → (∀ j, j < m → x.cell? (a.add j) = some (.int .i64 z)) →
      ∃ y, (∀ ty, (Builtin.copy_ #[24, 24] ty #[.slice (some ⟨D, k, none⟩) (n - k) dc, .slice (some a) sl sc]).run Tryz.prog x = .ok (.int .i64 (m : Int)) y) ∧ RowC y D 3 (rpL z (k + m) n) ∧ x.grownBy y (some D) := by
    intro x k m a dc sl sc hx hkm hm hc
    refine ⟨x.setRow D (rpL z (k + m) n).toArray, fun ty => ?_, setRow_heap x D _ _ _ _ hx, ⟨rfl, rfl, rfl, by rw [setRow_size]; exact Nat.le_refl _, fun j _ hj => setRow_other x D j _ (fun e => hj (by rw [e]))⟩⟩
    have := run_copy_row (P := Tryz.prog) x 24 24 ty 3 D k (n - k) dc a sl sc (rpL z k n).toArray 3 (List.replicate m (Value.int .i64 z)) Tryz.underlying24 hsz1 hx (by simpa using hm) (fun j v hj => by
      have hjm : j < m := by have := (List.getElem?_eq_some_iff.1 hj).1; simpa using this
      rw [List.getElem?_replicate, if_pos hjm] at hj
      rw [← hj]
      exact hc j hjm) (by simp [rpL_len z (show k ≤ n by omega)]; omega) (fun v hv => by rw [(List.mem_replicate.1 hv).2]; rfl)
    rw [this, List.length_replicate, rpL_next z hkm]
    rfl
  obtain ⟨Y, CP0, rY, gY⟩ := cp W 0 1 ⟨E, 0, none⟩ n 1 1 rW (by omega) (Nat.min_eq_left (by omega)).symm (fun j hj => by
    have : j = 0 := by omega
    subst this
    exact hEW.cell 0 _ rfl)
  rw [Nat.sub_zero] at CP0
  have HCP : Hid (∀ (x : World) (k m : Nat) (a : Addr) (dc sl sc : Nat), RowC x D 3 (rpL z k n) → k + m ≤ n → m = Nat.min sl (n - k) → (∀ j, j < m → x.cell? (a.add j) = some (.int .i64 z)) →
      ∃ y, (∀ ty, (Builtin.copy_ #[24, 24] ty #[.slice (some ⟨D, k, none⟩) (n - k) dc, .slice (some a) sl sc]).run Tryz.prog x = .ok (.int .i64 (m : Int)) y) ∧ RowC y D 3 (rpL z (k + m) n) ∧ x.grownBy y (some D)) := cp
  have HBY : Hid (Below D w Y) := bW.grown gY (by rw [← hD]; exact bW.size |> fun h => by rw [hD] at h ⊢; exact h) (fun j e => by cases e; exact Nat.le_refl _)
  have HRY : Hid (RowC Y D 3 (rpL z 1 n)) := rY
  clear bW rW hEW rY gY cp hE hW hsz1
  go_enter Tryz.func37, Tryz.ntmps37
  go_wp2_with fail
  refine (HMU.out _).mono ?_
  rintro e x1 ⟨rfl, hx1⟩
  obtain rfl := hx1.symm
  go_wp2_with (at_make; refine wpList_make_run 24 _ _ rfl rfl _ _ _ rfl rfl MK ?_)
  clear MK CP0
  go_loopw [8] (fun kv wr => ∃ k : Nat, 1 ≤ k ∧ k ≤ n ∧ kv = .int .i64 (k : Int) ∧ Hid (RowC wr D 3 (rpL z k n)) ∧ Hid (Below D w wr)) (fun kv _ => n - (intOf kv).toNat)
  case atStart => exact ⟨1, Nat.le_refl _, hn1, rfl, HRY, HBY⟩
  case round =>
    obtain ⟨k, hk1, hk, rfl, HR, HB⟩ := hrel
    by_cases hlt : k < n
    · have q1 : (k : Int) < (n : Int) := by omega
      have HLT := Lib.hid hlt
      obtain ⟨m, hm⟩ : ∃ m, Nat.min k (n - k) = m := ⟨_, rfl⟩
      have hm1 : 1 ≤ m := by rw [← hm]; exact Nat.le_min.2 ⟨hk1, by omega⟩
      have hm2 : k + m ≤ n := by have := Nat.min_le_right k (n - k); rw [show min k (n - k) = Nat.min k (n - k) from rfl, hm] at this; omega
      have hm3 : m ≤ k := by have := Nat.min_le_left k (n - k); rw [show min k (n - k) = Nat.min k (n - k) from rfl, hm] at this; omega
      have rd : RowC wr.drew D 3 (rpL z k n) := HR.out.below (Below.refl _ wr).drew
      obtain ⟨Y2, CP, rY2, gY2⟩ := HCP.out wr.drew k m ⟨D, 0, none⟩ (n - k) k n rd hm2 hm.symm (fun j hj => by rw [add_plain, Nat.zero_add]; exact rd.cell j _ (rpL_get z (by omega)))
      have HR2 := Lib.hid rY2
      have HB2 : Hid (Below D w Y2) := HB.out.drew.grown gY2 (by have := HB.out.size; show D ≤ wr.heap.size; have := rd.lt; omega) (fun j e => by cases e; exact Nat.le_refl _)
      have hnk : 0 < n - k := by omega
      have g1 : ¬ n = k := by omega
      have HM := Lib.hid (And.intro hm1 hm2)
      have e1 : (n : Int) - (k : Int) = ((n - k : Nat) : Int) := by omega
      clear hm rd rY2 gY2 hlt HR HB hm3
      go_wp2_with fail
      refine region_plan (fun _ => True) 9 (.takes [0, 1, 2, 3, 4, 5, 6] (.one 7 (.takes [8] .leaf))) hmx (by kernel_rfl) (by intro c x v a w h; cases x <;> exact h) trivial ?_
      repeat (rw [wpPlan_takes_cons]; simp only [nth_zero, nth_succ]; go_big_quiet_step (fail); refine wpQuiet_nil ?_)
      rw [wpPlan_takes_nil, wpPlan_one]
      simp only [nth_zero, nth_succ]
      go_wp2_with fail
      refine planPost_mk trivial ?_
      repeat (rw [wpPlan_takes_cons]; simp only [nth_zero, nth_succ]; go_big_quiet_step (fail); refine wpQuiet_nil ?_)
      rw [wpPlan_takes_nil, wpPlan_leaf]
      simp only [List.drop_succ_cons, List.drop_zero]
      go_wp2_with fail
      have hmm := HM.out
      exact ⟨⟨k + m, by omega, by omega, by simp, HR2, HB2⟩, by simp [intOf]; omega⟩
    · obtain rfl : k = n := by omega
      clear hlt
      go_wp2_with fail
      go_ret
      exact ⟨by first | rfl | (rw [HSZ.out]; rfl), by first | exact HR.out | (rw [HSZ.out]; exact HR.out), by first | exact HB.out | (rw [HSZ.out]; exact HB.out)⟩

/-- A new row of numbers is one's own. -/
theorem row_ownsI {W : World} {base g : Nat} {zs : List Int} (h : RowC W g 3 (zs.map (Value.int .i64))) (hb : base ≤ g) (hm : zs.length ≤ maxLen) : InO base W (.slice (some ⟨g, 0, none⟩) zs.length zs.length) zs :=
  ⟨by simp, .inr ⟨g, zs.length, _, rfl, hb, h, Nat.le_refl _, hm, by simp, by rw [Nat.mul_one]; exact List.take_of_length_le (by simp)⟩⟩
attribute [-simp] Tryz.isAgg51 Tryz.zeroValue51 Tryz.isAgg54 Tryz.zeroValue54 Tryz.isAgg30 Tryz.zeroValue30
attribute [-go_sem] loadVar storeVar
set_option maxRecDepth 100000 in
theorem build_stF (x : Option Addr) (n c : Nat) (a : Int) (w : World) : (Instr.build 30 #[(0, .slice x n c), (2, .int .i64 a)]).run Tryz.prog w = .ok (.agg #[.slice x n c, .slice none 0 0, .int .i64 a, .int .i64 0, .int .i64 0, .slice none 0 0]) w := by kernel_rfl
attribute [local go_sem] loadVar_openQ storeVar_openQ zero_sn zero_prs zero_st build_st0 build_stF
set_option maxRecDepth 100000 in
set_option maxHeartbeats 4000000 in
/-- **First** of no sizes. -/
theorem sg_firstN {w : World} (G : Geo) (hi : G.In) (hb : ¬ G.good) :
    Calls Tryz.prog 11 #[.agg G.v] w fun e w' => e = .returned (.tuple #[stV noQ, .int .i64 1]) ∧ Below w.heap.size w w' := by
  obtain ⟨gb, gs, gy, ga, gr⟩ := G
  have HG : Hid (∀ x : World, Calls Tryz.prog 30 #[.agg (Geo.v ⟨gb, gs, gy, ga, gr⟩)] x fun e w' => e = .returned (.bool false) ∧ Below x.heap.size x w') := fun x =>
    (gmGood ⟨gb, gs, gy, ga, gr⟩ hi x).mono fun e y hy => ⟨by rw [hy.1, decide_eq_false hb], hy.2⟩
  clear hb hi
  unfold Geo.v at *
  simp only at *
  obtain ⟨B, hB⟩ : ∃ B, w.heap.size = B := ⟨_, rfl⟩
  obtain ⟨W1, hW1⟩ : ∃ W, w.alloc (.cells #[.int .i64 gb, .int .i64 gs, .int .i64 gy, .int .i64 ga, .int .i64 gr] 23) = W := ⟨_, rfl⟩
  obtain ⟨W2, hW2⟩ : ∃ W, W1.alloc (.cells #[.slice none 0 0, .slice none 0 0, .int .i64 0, .int .i64 0, .int .i64 0, .slice none 0 0] 30) = W := ⟨_, rfl⟩
  have s1 : W1.heap.size = B + 1 := by rw [← hW1, ← hB]; simp
  have r1 : RowC W1 B 23 [.int .i64 gb, .int .i64 gs, .int .i64 gy, .int .i64 ga, .int .i64 gr] := by rw [← hW1, ← hB]; exact RowC.new _ _ _
  have r2 : RowC W2 (B + 1) 30 (stL noQ) := by rw [← hW2, ← s1]; exact RowC.new _ _ _
  have b1 : Below B w W1 := by rw [← hW1, ← hB]; exact below_new _ _
  have b2 : Below W1.heap.size W1 W2 := by rw [← hW2]; exact below_new _ _
  have HB : Hid (Below B w W2) := b1.trans (b2.mono (by omega))
  have HR2 := Lib.hid r2
  have t1 := r1.below b2
  have k0 := t1.cell 0 _ rfl
  have k1 := t1.cell 1 _ rfl
  have k2 := t1.cell 2 _ rfl
  have k3 := t1.cell 3 _ rfl
  have k4 := t1.cell 4 _ rfl
  have HS2 : Hid (B ≤ W2.heap.size) := by show B ≤ _; rw [← hB]; exact HB.out.size
  rw [hB]
  clear r1 b1 b2 t1 r2
  go_enter Tryz.func11, Tryz.ntmps11
  go_wp2_with fail
  refine (HG.out W2).mono ?_
  rintro e y ⟨rfl, hy⟩
  obtain ⟨z, hS, hRz, hgz⟩ := store_stC noQ (HR2.out.below hy) rfl
  have HZ : Hid (Below B w z) := (HB.out.trans (hy.mono HS2.out)).grown hgz (Nat.le_trans HS2.out hy.size) (fun j e => by cases e; exact Nat.le_succ B)
  have HRz := Lib.hid hRz
  simp only [stV, stL, slV, noQ] at hS
  clear hy k0 k1 k2 k3 k4 hRz hgz
  go_wp2_with fail
  exact bodyPost_ret (results_cell2 rfl rfl (load_stC HRz.out)) rfl ⟨rfl, HZ.out⟩

set_option maxRecDepth 100000 in
set_option maxHeartbeats 4000000 in
/-- **First**. -/
theorem sg_first {w : World} (g : SG) (hg : g.Ok) (r : Int) (hi : (g.geo r).In) (hr : (g.geo r).good) :
    Calls Tryz.prog 11 #[.agg (g.v r)] w fun e w' => ∃ x n c, e = .returned (.tuple #[stV ⟨(x, n, c), (none, 0, 0), 1, 0, 0, (none, 0, 0)⟩, .int .i64 0]) ∧ InO w.heap.size w' (.slice x n c) (List.replicate g.slots (-1)) ∧ Below w.heap.size w w' := by
  have HG : Hid (∀ x : World, Calls Tryz.prog 30 #[.agg (g.v r)] x fun e w' => e = .returned (.bool true) ∧ Below x.heap.size x w') := fun x => (gmGood (g.geo r) hi x).mono fun e y hy => ⟨by rw [hy.1, decide_eq_true hr], hy.2⟩
  have HSC : Hid (∀ x : World, Calls Tryz.prog 38 #[.agg (g.v r)] x fun e w' => e = .returned (.int .i64 (g.slots : Int)) ∧ Below x.heap.size x w') := fun x => sg_slots g hg r x
  have hz1 : 1 ≤ g.slots := Nat.mul_le_mul hg.s1 hg.y1
  have hz32 : g.slots ≤ 32 := Nat.le_trans (Nat.mul_le_mul hg.s8 hg.y4) (by decide)
  obtain ⟨Z, hz⟩ : ∃ Z, g.slots = Z := ⟨_, rfl⟩
  rw [hz] at HSC hz1 hz32 ⊢
  obtain ⟨B, hB⟩ : ∃ B, w.heap.size = B := ⟨_, rfl⟩
  obtain ⟨W1, hW1⟩ : ∃ W, w.alloc (.cells (g.v r) 23) = W := ⟨_, rfl⟩
  obtain ⟨W2, hW2⟩ : ∃ W, W1.alloc (.cells #[.slice none 0 0, .slice none 0 0, .int .i64 0, .int .i64 0, .int .i64 0, .slice none 0 0] 30) = W := ⟨_, rfl⟩
  have s1 : W1.heap.size = B + 1 := by rw [← hW1, ← hB]; simp
  have s2 : W2.heap.size = B + 2 := by rw [← hW2, World.size_alloc, s1]
  have r1 : RowC W1 B 23 [.int .i64 (g.b : Int), .int .i64 (g.s : Int), .int .i64 (g.y : Int), .int .i64 (g.a : Int), .int .i64 r] := by rw [← hW1, ← hB]; exact RowC.new _ _ _
  have r2 : RowC W2 (B + 1) 30 (stL noQ) := by rw [← hW2, ← s1]; exact RowC.new _ _ _
  have b1 : Below B w W1 := by rw [← hW1, ← hB]; exact below_new _ _
  have b2 : Below W1.heap.size W1 W2 := by rw [← hW2]; exact below_new _ _
  have HB : Hid (Below B w W2) := b1.trans (b2.mono (by omega))
  have HR1 : Hid (RowC W2 B 23 [.int .i64 (g.b : Int), .int .i64 (g.s : Int), .int .i64 (g.y : Int), .int .i64 (g.a : Int), .int .i64 r]) := r1.below b2
  have HR2 := Lib.hid r2
  have HS2 := Lib.hid s2
  have HSZ := Lib.hid hB
  have t1 := HR1.out
  have k0 := t1.cell 0 _ rfl
  have k1 := t1.cell 1 _ rfl
  have k2 := t1.cell 2 _ rfl
  have k3 := t1.cell 3 _ rfl
  have k4 := t1.cell 4 _ rfl
  clear r1 b1 b2 t1 r2 hz hg hr hi
  unfold SG.v at *
  go_enter Tryz.func11, Tryz.ntmps11
  go_wp2_with fail
  refine (HG.out W2).mono ?_
  rintro e x1 ⟨rfl, hx1⟩
  obtain ⟨X, hX⟩ : ∃ X, x1.alloc (.cells #[.int .i64 (-1)] 3) = X := ⟨_, rfl⟩
  have bX : Below x1.heap.size x1 X := by rw [← hX]; exact below_new _ _
  have rX : RowC X x1.heap.size 3 [.int .i64 (-1)] := by rw [← hX]; exact RowC.new x1 _ _
  have H2 : Hid (Below W2.heap.size W2 X) := hx1.trans (bX.mono hx1.size)
  obtain ⟨D, hD⟩ : ∃ D, x1.heap.size = D := ⟨_, rfl⟩
  rw [hD] at rX
  have HRX := Lib.hid rX
  have t2 := HR1.out.below H2.out
  clear k0 k1 k2 k3 k4 hx1 bX rX
  have k0 := t2.cell 0 _ rfl
  have k1 := t2.cell 1 _ rfl
  have k2 := t2.cell 2 _ rfl
  have k3 := t2.cell 3 _ rfl
  have k4 := t2.cell 4 _ rfl
  go_wp2_with fail
  refine (HSC.out X).mono ?_
  rintro e x2 ⟨rfl, hx2⟩
  have H3 : Hid (Below W2.heap.size W2 x2) := H2.out.trans (hx2.mono H2.out.size)
  have HRE := Lib.hid (sg_repeat D Z (-1) hz1 (by omega) (HRX.out.below hx2))
  clear hx2 k0 k1 k2 k3 k4 t2 hX
  go_wp2_with fail
  refine HRE.out.mono ?_
  rintro e x3 ⟨rfl, hr3, hx3⟩
  obtain ⟨E, hE⟩ : ∃ E, x2.heap.size = E := ⟨_, rfl⟩
  have hEB : B + 2 ≤ E := by have := H3.out.size; have := HS2.out; omega
  rw [hE] at hr3
  have H4 : Below W2.heap.size W2 x3 := H3.out.trans (hx3.mono H3.out.size)
  obtain ⟨z, hS, hRz, hgz⟩ := store_stC ⟨(some ⟨E, 0, none⟩, Z, Z), (none, 0, 0), 1, 0, 0, (none, 0, 0)⟩ (HR2.out.below H4) rfl
  have HZ : Hid (Below B w z) := (HB.out.trans (H4.mono (by have := HS2.out; omega))).grown hgz (by have := H4.size; have := HS2.out; omega) (fun j e => by cases e; exact Nat.le_succ B)
  have HI : Hid (InO B z (.slice (some ⟨E, 0, none⟩) Z Z) (List.replicate Z (-1))) := by
    have := row_ownsI (base := B + 2) (zs := List.replicate Z (-1)) (by rw [← rpL_full]; exact hr3) hEB (by rw [List.length_replicate]; unfold maxLen; omega)
    rw [List.length_replicate] at this
    exact own_weak (World.ownsRow.kept this hgz (.inr (by show some E ≠ some (B + 1); simp; omega))) (by omega)
  have HLD := Lib.hid (load_stC hRz)
  simp only [stV, stL, slV] at hS HLD
  rw [hE]
  clear hRz hgz hr3 hx3 H4 HRE
  go_wp2_with fail
  exact bodyPost_ret (results_cell2 rfl rfl HLD.out) rfl ⟨_, _, _, rfl, by rw [HSZ.out]; exact HI.out, by rw [HSZ.out]; exact HZ.out⟩
end Go.Proofs.YtfihpljgbghogaaGreat

/- The statements' own trial, and which snapshots they ask of. -/
namespace Go.Proofs.YtfihpljgbghogaaGreat
open Go.RowKit Go.Shelf
set_option linter.unusedVariables false
set_option linter.unusedSimpArgs false
attribute [-simp] Tryz.isAgg51 Tryz.zeroValue51 Tryz.isAgg54 Tryz.zeroValue54
attribute [-go_sem] loadVar storeVar
attribute [local go_sem] loadVar_openPS storeVar_openPS zero_sn zero_prs build_prs build_sn build_sn2

/-! The trial's own three. -/
set_option maxRecDepth 100000 in
theorem slice_u81 (w : World) (x : Int) : (Instr.buildSlice 31 1 #[(0, .int .u8 x)]).run Tryz.prog w = .ok (.slice (some ⟨w.heap.size, 0, none⟩) 1 1) (w.alloc (.cells #[.int .u8 x] 5)) := by kernel_rfl
theorem own_u81 (w : World) (x : Int) : (w.alloc (.cells #[.int .u8 x] 5)).ownsRow w.heap.size 5 1 (.slice (some ⟨w.heap.size, 0, none⟩) 1 1) 1 [.int .u8 x] := World.ownsRow_lit w #[.int .u8 x] 1 (Nat.le_refl _) (by simp [maxLen]) rfl
theorem bytes_oneC (x : Int) (h : 0 ≤ x ∧ x < 256) : IsBytes [x] := fun j => by
  match j with
  | 0 => exact h
  | j + 1 => simp

end Go.Proofs.YtfihpljgbghogaaGreat

