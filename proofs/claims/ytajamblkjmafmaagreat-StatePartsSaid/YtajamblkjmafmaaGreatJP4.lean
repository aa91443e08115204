/- The ground of the proofs, part 4. -/
import Derived.Test.YtajamblkjmafmaaGreatJP3
import Derived.Shelf.Slices.In.SortNone
import Derived.Lib.JoinLaws
/- The developers' Good. -/
namespace Go.Proofs.YtajamblkjmafmaaGreat
open Go.RowKit Go.Shelf
set_option linter.unusedVariables false
set_option linter.unusedSimpArgs false
attribute [-simp] Tryz.isAgg55 Tryz.zeroValue55 Tryz.isAgg57 Tryz.zeroValue57
attribute [-go_sem] loadVar storeVar
attribute [local go_sem] loadVar_openPS storeVar_openPS zero_sn zero_prs
attribute [local go_sem] Oper.semAt_some

theorem InO.setLow {N B' : Nat} {x : World} {v : Value} {zs : List Int} (h : InO N x v zs) (hB : B' < N) (j : Nat) (u : Value) : InO N (x.setCell ⟨B', j, none⟩ u) v zs := h.kept (grownBy_setCellJ x B' j u) (.inr fun e => by have := (h.base _ e).1; omega)
theorem InO.own {N M : Nat} {x y : World} {v : Value} {zs : List Int} {row : Option Nat} (h : InO N x v zs) (hg : x.grownBy y row) (hr : ∀ r, row = some r → M ≤ r ∧ ∃ o : Obj, x.heap[r]? = some o ∧ o.isCells = false) : InO N y v zs := row_own h hg hr
set_option maxRecDepth 100000 in
/-- Sort and Compact of numbers of one's own, none too. -/
theorem in_sort {N : Nat} {w : World} {v : Value} {zs : List Int} (h : InO N w v zs) (hlen : zs.length ≤ 1000000) :
    Calls Tryz.prog 82 #[v] w fun e w' => e = .returned (.tuple #[]) ∧ InO N w' v (sorted zs) ∧ w.grownBy w' v.ownBlock := by
  by_cases hv : v = .slice none 0 0
  · subst hv
    have h0 : zs = [] := by
      rcases h.2 with ⟨_, e⟩ | ⟨g, cap, cur, e, _⟩
      · exact List.eq_nil_of_length_eq_zero e
      · cases e
    subst h0
    refine (Any.slices_Sort_int_none sortLaid none 0 w).mono ?_
    rintro e w' ⟨rfl, rfl⟩
    exact ⟨rfl, by rw [show sorted ([] : List Int) = [] from by simp [sorted]]; exact h, World.grownBy.refl _ _⟩
  · refine (tb_sort h hv hlen).mono ?_
    rintro e w' ⟨rfl, ho, hg⟩
    refine ⟨rfl, ?_, hg⟩
    show w'.ownsRow _ _ _ _ _ _
    rw [sorted_len]
    exact ho
set_option maxRecDepth 100000 in
theorem in_compact {N : Nat} {w : World} {v : Value} {zs : List Int} (h : InO N w v zs) :
    Calls Tryz.prog 83 #[v] w fun e w' => (∃ a cap, e = .returned (.slice a (Lib.compact zs).length cap)) ∧ w.grownBy w' v.ownBlock := by
  by_cases hv : v = .slice none 0 0
  · subst hv
    have h0 : zs = [] := by
      rcases h.2 with ⟨_, e⟩ | ⟨g, cap, cur, e, _⟩
      · exact List.eq_nil_of_length_eq_zero e
      · cases e
    subst h0
    refine (laid_slices_Compact_int_empty none 0 w).mono ?_
    rintro e w' ⟨rfl, rfl⟩
    exact ⟨⟨_, _, rfl⟩, World.grownBy.refl _ _⟩
  · exact tb_compact h hv

theorem list_round_build {l₀ n : Nat} {P : Program} {ops : Array Oper} {Q : Exit → Act → World → Prop} {rest : List Oper} {a : Act} {w : World} {dst : Option Tmp} {ty t : TypeId} {len : Nat} {parts : Array (Nat × Operand)} {pos : String} {after : Array Edge} {guard : Option (Nat × Bool)}
    (hL : ¬ LetsOut Q) (hd : ∀ o ∈ rest, ∀ c, o.op ≠ .defer c) (h : wpList P ops Q ({ dst := dst, op := .buildSlice t len parts, type := ty, pos := pos, after := after, guard := guard } :: rest) a w) :
    wpListIn (Fence.wide.inRound l₀) n P ops Q ({ dst := dst, op := .buildSlice t len parts, type := ty, pos := pos, after := after, guard := guard } :: rest) a w :=
  list_roundC hL _ a w (fun o ho => by
    rcases List.mem_cons.1 ho with rfl | ho
    · intro c e; cases e
    · exact hd o ho) h
/-- What a round keeps. -/
structure GdI (B M : Nat) (bl ar last : Int) (a : Option Addr) (len cap : Nat) (w W x : World) : Prop where
  g0 : RowC x B 25 [.slice a len cap]
  g1 : RowC x (B + 1) 3 [.int .i64 bl]
  g2 : RowC x (B + 2) 3 [.int .i64 ar]
  g3 : RowC x (B + 3) 4 [.bool false]
  g4 : RowC x (B + 4) 3 [.int .i64 last]
  g7 : SpX B (B + 6) 0 (len : Int) (.slice a len cap) w x
  kf : KeepsFrom M W x
theorem GdI.low {B M : Nat} {bl ar last : Int} {a : Option Addr} {len cap : Nat} {w W x y : World} (h : GdI B M bl ar last a len cap w W x) (hb : Below (B + 9) x y) (hk : KeepsFrom M x y) : GdI B M bl ar last a len cap w W y :=
  ⟨h.g0.belowN hb (by omega), h.g1.belowN hb (by omega), h.g2.belowN hb (by omega), h.g3.belowN hb (by omega), h.g4.belowN hb (by omega), ⟨h.g7.bl.belowN hb (by omega), h.g7.bi.belowN hb (by omega), h.g7.bj.belowN hb (by omega), h.g7.be.trans (hb.mono (by omega))⟩, keepsFrom_trans h.kf hk⟩
theorem GdI.set4 {B M : Nat} {bl ar last : Int} {a : Option Addr} {len cap : Nat} {w W x : World} (h : GdI B M bl ar last a len cap w W x) (z : Int) : GdI B M bl ar z a len cap w W (x.setCell ⟨B + 4, 0, none⟩ (.int .i64 z)) :=
  ⟨set_other h.g0 (by omega) 0 _, set_other h.g1 (by omega) 0 _, set_other h.g2 (by omega) 0 _, set_other h.g3 (by omega) 0 _, h.g4.set 0 _, h.g7.set (by omega) (by omega) 0 _, keepsFrom_trans h.kf (keepsFrom_cells h.g4 (grownBy_setCellJ x (B + 4) 0 _))⟩
theorem GdI.set5 {B M : Nat} {bl ar last : Int} {a : Option Addr} {len cap : Nat} {w W x : World} {c : List Value} {t : TypeId} (h : GdI B M bl ar last a len cap w W x) (hr : RowC x (B + 5) t c) (v : Value) : GdI B M bl ar last a len cap w W (x.setCell ⟨B + 5, 0, none⟩ v) :=
  ⟨set_other h.g0 (by omega) 0 _, set_other h.g1 (by omega) 0 _, set_other h.g2 (by omega) 0 _, set_other h.g3 (by omega) 0 _, set_other h.g4 (by omega) 0 _, h.g7.set (by omega) (by omega) 0 _, keepsFrom_trans h.kf (keepsFrom_cells hr (grownBy_setCellJ x (B + 5) 0 _))⟩

set_option maxRecDepth 100000 in
set_option maxHeartbeats 8000000 in
theorem ch_good {w : World} {v : Value} {l : List SN} (h : Snp w v l) (hK : Lens 1000 l) (bl ar : Int) :
    Calls Tryz.prog 42 #[v, .int .i64 bl, .int .i64 ar] w fun e w' => e = .returned (.bool (cGood l bl ar)) ∧ Below w.heap.size w w' := by
  have hmx : Tryz.prog.follows .mixedOrders = true := by kernel_rfl
  obtain ⟨r, h⟩ := h
  have HS := Lib.hid h
  have HKL := Lib.hid hK
  obtain ⟨a, cap, rfl, h1, h2, -⟩ := h
  obtain ⟨len, hle⟩ : ∃ len, l.length = len := ⟨_, rfl⟩
  have HL := Lib.hid hle
  obtain ⟨B, hB⟩ : ∃ B, w.heap.size = B := ⟨_, rfl⟩
  have HSZ := Lib.hid hB
  rw [hle] at HS h1 ⊢
  obtain ⟨Y, hY⟩ : ∃ Y, (((w.alloc (.cells #[.slice a len cap] 25)).alloc (.cells #[.int .i64 bl] 3)).alloc (.cells #[.int .i64 ar] 3)).alloc (.cells #[.bool false] 4) = Y := ⟨_, rfl⟩
  have hYs : Y.heap.size = B + 4 := by rw [← hY, ← hB]; simp
  have hYb : Below B w Y := by rw [← hY, ← hB]; exact ((((Below.refl _ w).alloc (Nat.le_refl _) _).alloc (by simp) _).alloc (by simp; omega) _).alloc (by simp; omega) _
  have y0 : RowC Y B 25 [.slice a len cap] := by rw [← hY, ← hB]; exact (((RowC.new w _ _).below (below_new _ _)).below (below_new _ _)).below (below_new _ _)
  have y1 : RowC Y (B + 1) 3 [.int .i64 bl] := by
    rw [← hY, ← hB]
    have := RowC.new (w.alloc (.cells #[.slice a len cap] 25)) 3 [.int .i64 bl]
    rw [World.size_alloc] at this
    exact (this.below (below_new _ _)).below (below_new _ _)
  have y2 : RowC Y (B + 2) 3 [.int .i64 ar] := by
    rw [← hY, ← hB]
    have := RowC.new ((w.alloc (.cells #[.slice a len cap] 25)).alloc (.cells #[.int .i64 bl] 3)) 3 [.int .i64 ar]
    simp only [World.size_alloc] at this
    exact this.below (below_new _ _)
  have y3 : RowC Y (B + 3) 4 [.bool false] := by
    rw [← hY, ← hB]
    have := RowC.new (((w.alloc (.cells #[.slice a len cap] 25)).alloc (.cells #[.int .i64 bl] 3)).alloc (.cells #[.int .i64 ar] 3)) 4 [.bool false]
    simp only [World.size_alloc] at this
    exact this
  have c0 := y0.cell 0 _ rfl
  by_cases hi : 8 < len
  · have q0 : decide ((len : Int) > 8) = true := by simp; omega
    have E0 : Hid (cGood l bl ar = false) := by show _ = _; unfold cGood; rw [hle, decide_eq_false (by omega)]; rfl
    have f3 := y3.frozen 0
    have c3 := y3.cell 0 _ rfl
    have R1 := Lib.hid (y3.set 0 (.bool false))
    have HB2 : Hid (Below B w (Y.setCell ⟨B + 3, 0, none⟩ (.bool false))) := set_below hYb (by omega) 0 _
    have g1 : (len : Int) > 8 := by omega
    clear y0 y1 y2 y3 hYb h1 h2
    go_enter Tryz.func42, Tryz.ntmps42
    go_wp2_with fail
    refine bodyPost_ret (results_cell rfl rfl (load_bool1 R1.out)) rfl ?_
    rw [HSZ.out]
    exact ⟨by rw [E0.out], HB2.out⟩
  · have q0 : decide ((len : Int) > 8) = false := by simp; omega
    have hlen8 : len ≤ 8 := by omega
    have g1 : ¬ (len : Int) > 8 := by omega
    refine (callsIn_wide (n := 3)).1 ?_
    refine callsIn_of_wp_marks Tryz.func42 rfl trivial ?_ rfl
    simp only [Tryz.ntmps42, List.size_toArray, List.length_cons, List.length_nil, Nat.reduceAdd, Nat.reduceSub, Array.replicate_succ, Array.replicate_zero, List.push_toArray, List.append_toArray, List.nil_append, List.cons_append]
    obtain ⟨X, hX⟩ : ∃ X, (Y.alloc (.cells #[.int .i64 0] 3)).alloc (.cells #[.slice none 0 0] 24) = X := ⟨_, rfl⟩
    have hXs : X.heap.size = B + 6 := by rw [← hX]; simp [hYs]
    have hYX : Below Y.heap.size Y X := by rw [← hX]; exact ((Below.refl _ Y).alloc (Nat.le_refl _) _).alloc (by simp) _
    have hXb : Below B w X := hYb.trans (hYX.mono (by omega))
    have x4 : RowC X (B + 4) 3 [.int .i64 0] := by rw [← hX, ← hYs]; exact (RowC.new Y _ _).below (below_new _ _)
    have x5 : RowC X (B + 5) 24 [slV (none, 0, 0)] := by
      rw [← hX]
      have := RowC.new (Y.alloc (.cells #[.int .i64 0] 3)) 24 [.slice none 0 0]
      rw [World.size_alloc, hYs] at this
      exact this
    have SX := SpX.new 0 (len : Int) (.slice a len cap) hXb (by omega)
    rw [hXs] at SX
    obtain ⟨W0, hW0⟩ : ∃ W0, ((X.alloc (.cells #[.slice a len cap] 25)).alloc (.cells #[.int .i64 0] 3)).alloc (.cells #[.int .i64 (len : Int)] 3) = W0 := ⟨_, rfl⟩
    have hWs : W0.heap.size = B + 9 := by rw [← hW0]; simp [hXs]
    have bX : Below X.heap.size X W0 := by rw [← hW0]; exact (((Below.refl _ X).alloc (Nat.le_refl _) _).alloc (by simp) _).alloc (by simp; omega) _
    rw [hW0] at SX
    have z0 := (y0.below hYX).below bX
    have z1 := (y1.below hYX).below bX
    have z2 := (y2.below hYX).below bX
    have z3 := (y3.below hYX).below bX
    have z4 := x4.below bX
    have z5 := x5.below bX
    have xc : X.cell? ⟨B, 0, none⟩ = some (.slice a len cap) := (y0.below hYX).cell 0 _ rfl
    clear y0 y1 y2 y3 x4 x5 bX hXb hYX hYb h1 h2
    gi_wp2_with (refine ⟨trivial, ?_⟩; gi_at_call 79; refine (span_in _ _ trivial rfl _ _ _ _ _ _).mono ?_; rintro e w' ⟨rfl, rfl⟩)
    try rw [hX]
    try rw [hW0]
    try rw [hXs]
    clear hX hW0 hY c0 xc
    have HW := Lib.hid hWs
    have hm : hiOf l (len : Int) - loOf 0 = len := by rw [← hle, hiOf_all, loOf_zero]; rfl
    have hseq := span1_seq 2 (by omega) (B + 6 + 1) (B + 6 + 2) (B + 6) 0 (len : Int) (.slice a len cap) r l W0
    rw [hm, loOf_zero] at hseq
    refine wpIn_rangeFunc_num (n := 3) rfl (by omega) (gf := 109) (lb := #[.pointer (some ⟨B + 6 + 1, 0, none⟩), .pointer (some ⟨B + 6 + 2, 0, none⟩), .pointer (some ⟨B + 6, 0, none⟩)]) rfl trivial (enters_of Tryz.func109 (by kernel_rfl) rfl)
      hseq (Below.refl _ _) (fun _ => rfl)
      (fun k W => ∃ (last : Int) (u : SlV), RowC W B 25 [.slice a len cap] ∧ RowC W (B + 1) 3 [.int .i64 bl] ∧ RowC W (B + 2) 3 [.int .i64 ar] ∧ RowC W (B + 3) 4 [.bool false] ∧ RowC W (B + 4) 3 [.int .i64 last] ∧ RowC W (B + 5) 24 [slV u] ∧ InO (B + 9) W (slV u) (cAts (l.take k)) ∧ SpX B (B + 6) 0 (len : Int) (.slice a len cap) w W ∧ cRise bl ar 0 l = cRise bl ar last (l.drop k))
      (fun c k W => c = .ret ∧ RowC W (B + 3) 4 [.bool (cGood l bl ar)] ∧ Below B w W)
      ?hR ?hI ?hIx ⟨0, _, z0, z1, z2, z3, z4, z5, InO.nil _ _, SX, rfl⟩
      (fun k a' W => ∃ C q, B + 8 < C ∧ r[k]? = some q ∧ RowC W C 55 (svL q) ∧ a' = { tmps := #[.slice a len cap, .int .i64 bl, .int .i64 ar, .pointer (some ⟨B, 0, none⟩), .pointer (some ⟨B + 1, 0, none⟩), .pointer (some ⟨B + 2, 0, none⟩), .pointer (some ⟨B + 3, 0, none⟩), .pointer (some ⟨B + 4, 0, none⟩), .pointer (some ⟨B + 5, 0, none⟩), .int .i64 (k : Int), .pointer (some ⟨C, 0, none⟩), undef, undef, .slice a len cap, .int .i64 (len : Int), .bool false, .slice a len cap, .slice a len cap, .int .i64 (len : Int), .func (.func 109) #[] #[.pointer (some ⟨B + 6 + 1, 0, none⟩), .pointer (some ⟨B + 6 + 2, 0, none⟩), .pointer (some ⟨B + 6, 0, none⟩)], .int .i64 (k : Int), svV q, undef, undef, undef, undef, undef, undef, undef, undef, undef, undef, undef, undef, undef, undef, undef, undef, undef, undef, undef, undef, undef, undef, undef, undef, undef, undef, undef, undef, undef, undef, undef, undef, undef, undef, undef, undef, undef, undef, undef, undef, undef, undef, undef, undef, undef, undef, undef, undef, undef], defers := [] })
      ?hAx ?assign ?body ?done ?stop
    case hR =>
      rintro k W ⟨last, u, _, _, _, _, _, _, _, h3, _⟩
      exact h3.spb HSZ.out HS.out
    case hI =>
      intro s Y Z row ⟨last, u, g0, g1, g2, g3, g4, g5, g6, g7, g8⟩ hg hr
      exact ⟨last, u, rowC_own g0 hg hr, rowC_own g1 hg hr, rowC_own g2 hg hr, rowC_own g3 hg hr, rowC_own g4 hg hr, rowC_own g5 hg hr, g6.own hg hr, g7.own (by omega) hg (by omega) hr, g8⟩
    case hIx =>
      intro c s Y Z row ⟨g1, g2, g3⟩ hg hr
      exact ⟨g1, rowC_own g2 hg hr, below_own g3 (by omega) hg (fun r e => ⟨by have := (hr r e).1; omega, (hr r e).2⟩)⟩
    case hAx =>
      rintro k a' _ Y Z row ⟨C, q, f1, f2, f3, f4⟩ hg hr
      exact ⟨C, q, f1, f2, rowC_own f3 hg hr, f4⟩
    case assign =>
      rintro lp k W K hkm ⟨last, u, g0, g1, g2, g3, g4, g5, g6, g7, g8⟩ hK
      obtain ⟨q, s, hq, hs, -⟩ := snR_at HS.out (k := k) (by rw [HL.out]; exact hkm)
      have ST := new_sn W q
      have HZ : Hid (B + 8 < W.heap.size) := g7.bj.lt
      have hK := hK _ _ (keepsFrom_below (below_new W (.cells (svL q).toArray 55))) ⟨last, u, g0.below (below_new W _), g1.below (below_new W _), g2.below (below_new W _), g3.below (below_new W _), g4.below (below_new W _), g5.below (below_new W _), g6.below (below_new W _), g7.alloc (by have := HZ.out; omega) _, g8⟩ ⟨W.heap.size, q, HZ.out, hq, RowC.new W _ _, rfl⟩
      rw [encS_at 0 (by rw [Nat.zero_add]; exact hq), Nat.zero_add]
      clear g0 g1 g2 g3 g4 g5 g6 g7 hq hs
      gi_wp2
      exact hK
    case body =>
      clear SX z0 z1 z2 z3 z4 z5 hseq hm q0 hi
      rintro lp k a' W _ _ hkm ⟨last, u, g0, g1, g2, g3, g4, g5, g6, g7, g8⟩ ⟨C, q, hC, hq, hx, rfl⟩
      obtain ⟨q', s, hq', hs, hqs⟩ := snR_at HS.out (k := k) (by rw [HL.out]; exact hkm)
      obtain rfl : q' = q := by rw [hq] at hq'; cases hq'; rfl
      obtain ⟨sid, ⟨x, n, c⟩, ⟨ty, tn, tc⟩⟩ := q'
      have hsm := List.mem_of_getElem? hs
      have hls := HKL.out.2 s hsm
      have hst := cRise_at hs bl ar last
      rw [← g8] at hst
      have HSID : Hid (s.id = sid) := hqs.id.symm
      have HST := Lib.hid hst
      have HZ : Hid (B + 8 < W.heap.size) := g7.bj.lt
      have HSI := Lib.hid (hqs.below (W' := W) (by rw [HSZ.out]; exact g7.be))
      have G0 := Lib.hid g0
      have G1 := Lib.hid g1
      have G2 := Lib.hid g2
      have G3 := Lib.hid g3
      have G4 := Lib.hid g4
      have G5 := Lib.hid g5
      have G6 := Lib.hid g6
      have G7 := Lib.hid g7
      have HX := Lib.hid hx
      have d0 : W.cell? ⟨C, 0, none⟩ = some (.int .i64 sid) := hx.cell 0 _ rfl
      have d1 := g4.cell 0 _ rfl
      have d3 := g3.cell 0 _ rfl
      have f3 := g3.frozen 0
      have HTK := Lib.hid (take_at hs)
      have HKF3 : Hid (KeepsFrom W0.heap.size W (W.setCell ⟨B + 3, 0, none⟩ (.bool false))) := keepsFrom_cells g3 (grownBy_setCellJ W (B + 3) 0 _)
      have HB3 : Hid (Below B w (W.setCell ⟨B + 3, 0, none⟩ (.bool false))) := set_below g7.be (by omega) 0 _
      have HR3 := Lib.hid (g3.set 0 (.bool false))
      simp only [svV, slV]
      by_cases q1 : sid ≤ last
      · have e1 : decide (sid ≤ last) = true := by simpa using q1
        have HG : Hid (cGood l bl ar = false) := by
          show _ = _
          unfold cGood
          rw [HST.out, HSID.out, show decide (last < sid) = false by simp; omega]
          simp
        clear g0 g1 g2 g3 g4 g5 g6 g7 g8 hq hq' hs hqs hx hsm hls hst
        gi_step
        gi_step
        gi_step
        gi_step
        refine region_seq_roundC ?lo (by kernel_rfl) ?_
        case lo => repeat (first | exact letsOut_inBlock letsOut_num | refine letsOut_thenC ?_)
        go_wp2_with fail
        gi_wp2
        refine ⟨HKF3.out, rfl, ?_, HB3.out⟩
        rw [HG.out]
        exact HR3.out
      · have e1 : decide (sid ≤ last) = false := by simpa using q1
        by_cases q2 : sid > 1000000
        · have e2 : decide (sid > 1000000) = true := by simpa using q2
          have HG : Hid (cGood l bl ar = false) := by
            show _ = _
            unfold cGood
            rw [HST.out, HSID.out, show decide (sid ≤ 1000000) = false by simp; omega]
            simp
          clear g0 g1 g2 g3 g4 g5 g6 g7 g8 hq hq' hs hqs hx hsm hls hst
          gi_step
          gi_step
          gi_step
          gi_step
          refine region_seq_roundC ?lo (by kernel_rfl) ?_
          case lo => repeat (first | exact letsOut_inBlock letsOut_num | refine letsOut_thenC ?_)
          go_wp2_with fail
          gi_wp2
          refine ⟨HKF3.out, rfl, ?_, HB3.out⟩
          rw [HG.out]
          exact HR3.out
        · have e2 : decide (sid > 1000000) = false := by simpa using q2
          have HTN : Hid (s.tb.length = tn) := by obtain ⟨a', ca', e, -⟩ := hqs.tb; simp only [slV, Value.slice.injEq] at e; show _ = _; omega
          have HTB : Hid (∀ z : World, Below B w z → Prt z (.slice ty tn tc) s.tb) := fun z hz => hqs.tb.below (by rw [HSZ.out]; exact hz)
          have htn : tn ≤ 1000 := by have := HTN.out; omega
          have HAL : Hid ((cAts (l.take k)).length ≤ 8000 ∧ s.tb.length ≤ 1000) := by
            have h1 := cAts_len (K := 1000) (l.take k) (fun t ht => (HKL.out.2 t (List.mem_of_mem_take ht)).2)
            rw [List.length_take] at h1
            exact ⟨by omega, hls.2⟩
          have LDX := load_snC hx
          have HXX := Lib.hid hx
          have g1c := g1.cell 0 _ rfl
          have g2c := g2.cell 0 _ rfl
          have HF := Lib.hid (ch_fits (q := (sid, (x, n, c), (ty, tn, tc))) HSI.out (by omega) (by omega) bl ar)
          obtain ⟨fb, hfb⟩ : ∃ fb, fitS s bl ar = fb := ⟨_, rfl⟩
          rw [hfb] at HF
          have HFB := Lib.hid hfb
          have HIW : Hid (GdI B W0.heap.size bl ar last a len cap w W W) := ⟨g0, g1, g2, g3, g4, g7, KeepsFrom.refl _ _⟩
          simp only [svV, slV] at HF LDX
          cases fb with
          | false =>
            have HG : Hid (cGood l bl ar = false) := by
              show _ = _
              unfold cGood
              rw [HST.out, HFB.out]
              simp
            clear g0 g1 g2 g3 g4 g5 g6 g7 g8 hq hq' hs hqs hx hsm hls hst hfb
            gi_step
            gi_step
            gi_step
            gi_step
            refine region_seq_roundC ?lo (by kernel_rfl) ?_
            case lo => repeat (first | exact letsOut_inBlock letsOut_num | refine letsOut_thenC ?_)
            go_wp2_with fail
            refine HF.out.mono ?_
            rintro e z ⟨rfl, hz⟩
            have f3z := (G3.out.below hz).frozen 0
            have HKFz : Hid (KeepsFrom W0.heap.size W (z.setCell ⟨B + 3, 0, none⟩ (.bool false))) := keepsFrom_trans (keepsFrom_below hz) (keepsFrom_cells (G3.out.below hz) (grownBy_setCellJ z (B + 3) 0 _))
            have HBz : Hid (Below B w (z.setCell ⟨B + 3, 0, none⟩ (.bool false))) := set_below (G7.out.be.trans (hz.mono (by have := HZ.out; omega))) (by omega) 0 _
            have HRz : Hid (RowC (z.setCell ⟨B + 3, 0, none⟩ (.bool false)) (B + 3) 4 [.bool false]) := (G3.out.below hz).set 0 _
            have c3z := (G3.out.below hz).cell 0 _ rfl
            go_wp2_with fail
            gi_wp2
            refine ⟨HKFz.out, rfl, ?_, HBz.out⟩
            rw [HG.out]
            exact HRz.out
          | true =>
            have HCO := fun (z : World) (hz : Below W.heap.size W z) => ch_complete (w := z) (q := (sid, (x, n, c), (ty, tn, tc))) (HSI.out.below hz) (by omega)
            simp only [svV, slV] at HCO
            have HCO := Lib.hid HCO
            have HTK2 := HTK
            by_cases q4 : (k : Int) < (len : Int) - 1
            · have e4' : decide ((k : Int) < (len : Int) - 1) = true := by simpa using q4
              have HN : Hid ((decide (l.length ≤ k + 1)) = false) := by have := HL.out; show _ = _; simp; omega
              obtain ⟨cb, hcb⟩ : ∃ cb, fullS s = cb := ⟨_, rfl⟩
              have HCB := Lib.hid hcb
              have g8' : (len : Int) ≤ 8 := by omega
              clear g0 g1 g2 g3 g4 g5 g6 g7 g8 hq hq' hs hqs hx hsm hls hst hfb hcb
              gi_step
              gi_step
              gi_step
              gi_step
              refine region_seq_roundC ?lo (by kernel_rfl) ?_
              case lo => repeat (first | exact letsOut_inBlock letsOut_num | refine letsOut_thenC ?_)
              go_wp2_with fail
              refine HF.out.mono ?_
              rintro e y1 ⟨rfl, hy⟩
              have l0 := (G0.out.below hy).cell 0 _ rfl
              have LDY := load_snC (HXX.out.below hy)
              simp only [svV, slV] at LDY
              have HYB := Lib.hid hy
              clear hy HF
              go_wp2_with fail
              gi_step
              gi_step
              gi_step
              gi_step
              gi_step
              gi_step
              refine region_seq_roundC ?lo2 (by kernel_rfl) ?_
              case lo2 => repeat (first | exact letsOut_inBlock letsOut_num | refine letsOut_thenC ?_)
              have HC1 := Lib.hid (HCO.out y1 HYB.out)
              rw [HCB.out] at HC1
              clear HCO
              cases cb with
              | false =>
                have HG : Hid (cGood l bl ar = false) := by
                  show _ = _
                  unfold cGood
                  rw [HST.out, HN.out, HCB.out]
                  simp
                go_wp2_with fail
                refine HC1.out.mono ?_
                rintro e z ⟨rfl, hz0⟩
                have hz : Below W.heap.size W z := HYB.out.trans (hz0.mono HYB.out.size)
                clear hz0 HC1 l0 LDY
                have f3z := (G3.out.below hz).frozen 0
                have HKFz : Hid (KeepsFrom W0.heap.size W (z.setCell ⟨B + 3, 0, none⟩ (.bool false))) := keepsFrom_trans (keepsFrom_below hz) (keepsFrom_cells (G3.out.below hz) (grownBy_setCellJ z (B + 3) 0 _))
                have HBz : Hid (Below B w (z.setCell ⟨B + 3, 0, none⟩ (.bool false))) := set_below (G7.out.be.trans (hz.mono (by have := HZ.out; omega))) (by omega) 0 _
                have HRz : Hid (RowC (z.setCell ⟨B + 3, 0, none⟩ (.bool false)) (B + 3) 4 [.bool false]) := (G3.out.below hz).set 0 _
                have c3z := (G3.out.below hz).cell 0 _ rfl
                go_wp2_with fail
                gi_wp2
                refine ⟨HKFz.out, rfl, ?_, HBz.out⟩
                rw [HG.out]
                exact HRz.out
              | true =>
                have HG : Hid (cRise bl ar 0 l = cRise bl ar sid (l.drop (k + 1))) := by
                  show _ = _
                  rw [HST.out, HSID.out, show decide (last < sid) = true by simp; omega, show decide (sid ≤ 1000000) = true by simp; omega, HFB.out, HCB.out]
                  simp
                go_wp2_with fail
                refine HC1.out.mono ?_
                rintro e z ⟨rfl, hz0⟩
                have HZB : Hid (Below W.heap.size W z) := HYB.out.trans (hz0.mono HYB.out.size)
                have HGI : Hid (GdI B W0.heap.size bl ar last a len cap w W z) := HIW.out.low (HZB.out.mono (by have := HZ.out; omega)) (keepsFrom_below HZB.out)
                clear hz0 HC1 l0 LDY
                have HI1 : Hid (GdI B W0.heap.size bl ar sid a len cap w W (z.setCell ⟨B + 4, 0, none⟩ (.int .i64 sid))) := HGI.out.set4 sid
                obtain ⟨z1, hz1⟩ : ∃ z1, z.setCell ⟨B + 4, 0, none⟩ (.int .i64 sid) = z1 := ⟨_, rfl⟩
                have hzx : RowC z C 55 (svL (sid, (x, n, c), (ty, tn, tc))) := HXX.out.below HZB.out
                have hz4 := HGI.out.g4
                have hz5 : RowC z (B + 5) 24 [slV u] := G5.out.below HZB.out
                have e0 := hzx.cell 0 _ rfl
                have e4 := hz4.cell 0 _ rfl
                have e4f := hz4.frozen 0
                have e2 : z1.cell? ⟨C, 2, none⟩ = some (.slice ty tn tc) := by rw [← hz1]; exact (set_other hzx (by omega) 0 _).cell 2 _ rfl
                have H5 : Hid (RowC z1 (B + 5) 24 [slV u]) := by show RowC _ _ _ _; rw [← hz1]; exact set_other hz5 (by omega) 0 _
                have H6 : Hid (InO (B + 9) z1 (slV u) (cAts (l.take k) ++ (s.tb.take 0).map (·.2))) := by
                  show InO _ _ _ _
                  rw [← hz1, List.take_zero, List.map_nil, List.append_nil]
                  exact (G6.out.below HZB.out).setLow (by omega) 0 _
                have HZS : Hid (B + 9 ≤ z1.heap.size) := by have := HZ.out; have := HZB.out.size; show _ ≤ _; rw [← hz1]; have := (KeepsWalks.setCell z ⟨B + 4, 0, none⟩ (.int .i64 sid)).size; omega
                rw [hz1] at HI1
                clear hzx hz4 hz5
                go_wp2_with fail
                gi_wp2
                try rw [hz1]
                clear hz1
                gi_loopw [53] (fun iv wr => ∃ (j : Nat) (u' : SlV), j ≤ tn ∧ iv = .int .i64 (j : Int) ∧ Hid (RowC wr (B + 5) 24 [slV u']) ∧ Hid (InO (B + 9) wr (slV u') (cAts (l.take k) ++ (s.tb.take j).map (·.2))) ∧ Hid (GdI B W0.heap.size bl ar sid a len cap w W wr) ∧ Hid (B + 9 ≤ wr.heap.size)) (fun iv _ => tn - (intOf iv).toNat)
                case atStart => exact ⟨0, u, Nat.zero_le _, rfl, H5, H6, HI1, HZS⟩
                case round =>
                  obtain ⟨j, u', hj, rfl, K5, K6, KI, KZ⟩ := hrel
                  by_cases hlt : j < tn
                  · obtain ⟨p, hp⟩ : ∃ p, s.tb[j]? = some p := ⟨_, List.getElem?_eq_getElem (by rw [HTN.out]; exact hlt)⟩
                    have hsn : s.tb.take (j + 1) = s.tb.take j ++ [p] := take_at hp
                    obtain ⟨bb, off, rfl, hbb, p1, p2⟩ := (HTB.out wr KI.out.g7.be).at hp
                    obtain ⟨x0, y0⟩ := p
                    simp only at p1 p2
                    have HSN := Lib.hid hsn
                    have g1 : (j : Int) < (tn : Int) := by omega
                    have HWr : Hid (wrap64 ((j : Int) + 1) = (j : Int) + 1) := IntWalk.wrap64_in _ (by omega)
                    have LD := load_prs p1 p2
                    have ST := new_prs wr x0 y0
                    obtain ⟨W2, hW2⟩ : ∃ W2, wr.alloc (.cells #[.int .i64 x0, .int .i64 y0] 57) = W2 := ⟨_, rfl⟩
                    rw [hW2] at ST
                    have hb2 : Below wr.heap.size wr W2 := by rw [← hW2]; exact below_new wr _
                    have hR : RowC W2 wr.heap.size 57 (prL x0 y0) := by rw [← hW2]; exact RowC.new wr _ _
                    have r1 : W2.cell? ⟨wr.heap.size, 1, none⟩ = some (.int .i64 y0) := hR.cell 1 _ rfl
                    have r5 := K5.out.below hb2
                    have r5c := r5.cell 0 _ rfl
                    have o5 := K6.out.below hb2
                    obtain ⟨f2, W4, hr, o6, gg, -⟩ := in_append o5 (by have := hb2.size; have := KZ.out; omega) y0 (by have := HAL.out; simp only [List.length_append, List.length_map, List.length_take]; omega)
                    have HAP := Lib.hid hr
                    have hb4 : Below (B + 9) W2 W4 := (Below.refl _ W2).grown gg (by have := hb2.size; have := KZ.out; omega) (fun i e => (o5.base i e).1)
                    have hkf4 : KeepsFrom W0.heap.size wr W4 := keepsFrom_trans (keepsFrom_below hb2) (keepsFrom_row o5 gg)
                    have r6 : RowC W4 (B + 5) 24 [slV u'] := r5.belowN hb4 (by omega)
                    have r6c := r6.cell 0 _ rfl
                    have r6f := r6.frozen 0
                    obtain ⟨⟨fx, fn', fc⟩, rfl, -⟩ := own_slV o6
                    simp only [slV] at HAP o6
                    have KI4 : Hid (GdI B W0.heap.size bl ar sid a len cap w W (W4.setCell ⟨B + 5, 0, none⟩ (.slice fx fn' fc))) := (KI.out.low ((hb2.mono KZ.out).trans hb4) hkf4).set5 r6 _
                    have R7 : Hid (RowC (W4.setCell ⟨B + 5, 0, none⟩ (.slice fx fn' fc)) (B + 5) 24 [slV (fx, fn', fc)]) := r6.set 0 _
                    have O7 : Hid (InO (B + 9) (W4.setCell ⟨B + 5, 0, none⟩ (.slice fx fn' fc)) (slV (fx, fn', fc)) (cAts (l.take k) ++ (s.tb.take (j + 1)).map (·.2))) := by
                      show World.ownsRow _ _ _ _ _ _ _
                      rw [HSN.out, List.map_append, ← List.append_assoc]
                      exact own_setB o6 r6 (by decide) 0 _
                    have S7 : Hid (B + 9 ≤ (W4.setCell ⟨B + 5, 0, none⟩ (.slice fx fn' fc)).heap.size) := by have := KZ.out; have := hb2.size; have := hb4.size; have := (KeepsWalks.setCell W4 ⟨B + 5, 0, none⟩ (.slice fx fn' fc)).size; show _ ≤ _; omega
                    obtain ⟨W3, hW3⟩ : ∃ W3, W2.alloc (.cells #[.int .i64 y0] 3) = W3 := ⟨_, rfl⟩
                    have SB : Hid ((Instr.buildSlice 24 1 #[(0, .int .i64 y0)]).run Tryz.prog W2 = .ok (.slice (some ⟨W2.heap.size, 0, none⟩) 1 1) W3) := by show _ = _; rw [← hW3]; exact slice_int1 W2 y0
                    rw [hW3] at HAP
                    obtain ⟨NN, hNN⟩ : ∃ NN, wr.heap.size = NN := ⟨_, rfl⟩
                    rw [hNN] at ST r1
                    have HLT := Lib.hid hlt
                    obtain ⟨ux, un, uc⟩ := u'
                    simp only [slV] at HAP r5c r6c
                    clear hp hsn hbb p1 p2 hW2 hb2 hR r5 o5 hr o6 gg hb4 hkf4 r6 hW3 hlt K5 K6 KI HSN
                    gi_wp2_with (with_reducible refine list_round_build ?lo4 ?hd4 ?_)
                    case lo4 => repeat (first | exact letsOut_num | refine letsOut_thenC ?_ | refine letsOut_inBlock ?_)
                    case hd4 => intro o ho c; simp only [List.mem_cons, List.mem_nil_iff, or_false] at ho; rcases ho with rfl | rfl <;> simp
                    go_wp2_with (first | ((with_reducible refine gate_build ?_); refine wpList_build_run 24 1 #[(0, .tmp 59)] rfl rfl [(0, .int .i64 y0)] _ rfl SB.out ?_) | (at_builtin; refine wpList_append_run (.tmp 57) (.tmp 60) 24 rfl rfl _ _ _ rfl rfl (HAP.out _) ?_))
                    gi_wp2
                    go_roundw
                    case rel => exact ⟨j + 1, (fx, fn', fc), HLT.out, by simp, R7, O7, KI4, S7⟩
                    case measure => have := HLT.out; simp [intOf]; omega
                  · obtain rfl : j = tn := by omega
                    have HTA : Hid (cAts (l.take (k + 1)) = cAts (l.take k) ++ (s.tb.take j).map (·.2)) := by
                      show _ = _
                      rw [HTK.out, cAts_snoc, List.take_of_length_le (l := s.tb) (by rw [HTN.out]; exact Nat.le_refl _)]
                    have HG5 := K5
                    clear K5
                    gi_wp2
                    refine ⟨KI.out.kf, sid, u', KI.out.g0, KI.out.g1, KI.out.g2, KI.out.g3, KI.out.g4, HG5.out, ?_, KI.out.g7, HG.out⟩
                    rw [HTA.out]
                    exact K6.out
            · have e4' : decide ((k : Int) < (len : Int) - 1) = false := by simpa using q4
              have HN : Hid ((decide (l.length ≤ k + 1)) = true) := by have := HL.out; show _ = _; simp; omega
              have g8' : (len : Int) ≤ 8 := by omega
              clear g0 g1 g2 g3 g4 g5 g6 g7 g8 hq hq' hs hqs hx hsm hls hst hfb
              gi_step
              gi_step
              gi_step
              gi_step
              refine region_seq_roundC ?lo (by kernel_rfl) ?_
              case lo => repeat (first | exact letsOut_inBlock letsOut_num | refine letsOut_thenC ?_)
              go_wp2_with fail
              refine HF.out.mono ?_
              rintro e y1 ⟨rfl, hy⟩
              have l0 := (G0.out.below hy).cell 0 _ rfl
              have LDY := load_snC (HXX.out.below hy)
              simp only [svV, slV] at LDY
              have HYB := Lib.hid hy
              clear hy HF
              go_wp2_with fail
              gi_step
              gi_step
              gi_step
              gi_step
              gi_step
              gi_step
              refine region_seq_roundC ?lo2 (by kernel_rfl) ?_
              case lo2 => repeat (first | exact letsOut_inBlock letsOut_num | refine letsOut_thenC ?_)
              have HG : Hid (cRise bl ar 0 l = cRise bl ar sid (l.drop (k + 1))) := by
                show _ = _
                rw [HST.out, HSID.out, show decide (last < sid) = true by simp; omega, show decide (sid ≤ 1000000) = true by simp; omega, HFB.out, HN.out]
                simp
              obtain ⟨z, hzy⟩ : ∃ z, z = y1 := ⟨_, rfl⟩
              subst hzy
              have HZB : Hid (Below W.heap.size W z) := HYB.out
              have HGI : Hid (GdI B W0.heap.size bl ar last a len cap w W z) := HIW.out.low (HZB.out.mono (by have := HZ.out; omega)) (keepsFrom_below HZB.out)
              have HI1 : Hid (GdI B W0.heap.size bl ar sid a len cap w W (z.setCell ⟨B + 4, 0, none⟩ (.int .i64 sid))) := HGI.out.set4 sid
              obtain ⟨z1, hz1⟩ : ∃ z1, z.setCell ⟨B + 4, 0, none⟩ (.int .i64 sid) = z1 := ⟨_, rfl⟩
              have hzx : RowC z C 55 (svL (sid, (x, n, c), (ty, tn, tc))) := HXX.out.below HZB.out
              have hz4 := HGI.out.g4
              have hz5 : RowC z (B + 5) 24 [slV u] := G5.out.below HZB.out
              have e0 := hzx.cell 0 _ rfl
              have e4 := hz4.cell 0 _ rfl
              have e4f := hz4.frozen 0
              have e2 : z1.cell? ⟨C, 2, none⟩ = some (.slice ty tn tc) := by rw [← hz1]; exact (set_other hzx (by omega) 0 _).cell 2 _ rfl
              have H5 : Hid (RowC z1 (B + 5) 24 [slV u]) := by show RowC _ _ _ _; rw [← hz1]; exact set_other hz5 (by omega) 0 _
              have H6 : Hid (InO (B + 9) z1 (slV u) (cAts (l.take k) ++ (s.tb.take 0).map (·.2))) := by
                show InO _ _ _ _
                rw [← hz1, List.take_zero, List.map_nil, List.append_nil]
                exact (G6.out.below HZB.out).setLow (by omega) 0 _
              have HZS : Hid (B + 9 ≤ z1.heap.size) := by have := HZ.out; have := HZB.out.size; show _ ≤ _; rw [← hz1]; have := (KeepsWalks.setCell z ⟨B + 4, 0, none⟩ (.int .i64 sid)).size; omega
              rw [hz1] at HI1
              clear hzx hz4 hz5
              go_wp2_with fail
              gi_wp2
              try rw [hz1]
              clear hz1
              gi_loopw [53] (fun iv wr => ∃ (j : Nat) (u' : SlV), j ≤ tn ∧ iv = .int .i64 (j : Int) ∧ Hid (RowC wr (B + 5) 24 [slV u']) ∧ Hid (InO (B + 9) wr (slV u') (cAts (l.take k) ++ (s.tb.take j).map (·.2))) ∧ Hid (GdI B W0.heap.size bl ar sid a len cap w W wr) ∧ Hid (B + 9 ≤ wr.heap.size)) (fun iv _ => tn - (intOf iv).toNat)
              case atStart => exact ⟨0, u, Nat.zero_le _, rfl, H5, H6, HI1, HZS⟩
              case round =>
                obtain ⟨j, u', hj, rfl, K5, K6, KI, KZ⟩ := hrel
                by_cases hlt : j < tn
                · obtain ⟨p, hp⟩ : ∃ p, s.tb[j]? = some p := ⟨_, List.getElem?_eq_getElem (by rw [HTN.out]; exact hlt)⟩
                  have hsn : s.tb.take (j + 1) = s.tb.take j ++ [p] := take_at hp
                  obtain ⟨bb, off, rfl, hbb, p1, p2⟩ := (HTB.out wr KI.out.g7.be).at hp
                  obtain ⟨x0, y0⟩ := p
                  simp only at p1 p2
                  have HSN := Lib.hid hsn
                  have g1 : (j : Int) < (tn : Int) := by omega
                  have HWr : Hid (wrap64 ((j : Int) + 1) = (j : Int) + 1) := IntWalk.wrap64_in _ (by omega)
                  have LD := load_prs p1 p2
                  have ST := new_prs wr x0 y0
                  obtain ⟨W2, hW2⟩ : ∃ W2, wr.alloc (.cells #[.int .i64 x0, .int .i64 y0] 57) = W2 := ⟨_, rfl⟩
                  rw [hW2] at ST
                  have hb2 : Below wr.heap.size wr W2 := by rw [← hW2]; exact below_new wr _
                  have hR : RowC W2 wr.heap.size 57 (prL x0 y0) := by rw [← hW2]; exact RowC.new wr _ _
                  have r1 : W2.cell? ⟨wr.heap.size, 1, none⟩ = some (.int .i64 y0) := hR.cell 1 _ rfl
                  have r5 := K5.out.below hb2
                  have r5c := r5.cell 0 _ rfl
                  have o5 := K6.out.below hb2
                  obtain ⟨f2, W4, hr, o6, gg, -⟩ := in_append o5 (by have := hb2.size; have := KZ.out; omega) y0 (by have := HAL.out; simp only [List.length_append, List.length_map, List.length_take]; omega)
                  have HAP := Lib.hid hr
                  have hb4 : Below (B + 9) W2 W4 := (Below.refl _ W2).grown gg (by have := hb2.size; have := KZ.out; omega) (fun i e => (o5.base i e).1)
                  have hkf4 : KeepsFrom W0.heap.size wr W4 := keepsFrom_trans (keepsFrom_below hb2) (keepsFrom_row o5 gg)
                  have r6 : RowC W4 (B + 5) 24 [slV u'] := r5.belowN hb4 (by omega)
                  have r6c := r6.cell 0 _ rfl
                  have r6f := r6.frozen 0
                  obtain ⟨⟨fx, fn', fc⟩, rfl, -⟩ := own_slV o6
                  simp only [slV] at HAP o6
                  have KI4 : Hid (GdI B W0.heap.size bl ar sid a len cap w W (W4.setCell ⟨B + 5, 0, none⟩ (.slice fx fn' fc))) := (KI.out.low ((hb2.mono KZ.out).trans hb4) hkf4).set5 r6 _
                  have R7 : Hid (RowC (W4.setCell ⟨B + 5, 0, none⟩ (.slice fx fn' fc)) (B + 5) 24 [slV (fx, fn', fc)]) := r6.set 0 _
                  have O7 : Hid (InO (B + 9) (W4.setCell ⟨B + 5, 0, none⟩ (.slice fx fn' fc)) (slV (fx, fn', fc)) (cAts (l.take k) ++ (s.tb.take (j + 1)).map (·.2))) := by
                    show World.ownsRow _ _ _ _ _ _ _
                    rw [HSN.out, List.map_append, ← List.append_assoc]
                    exact own_setB o6 r6 (by decide) 0 _
                  have S7 : Hid (B + 9 ≤ (W4.setCell ⟨B + 5, 0, none⟩ (.slice fx fn' fc)).heap.size) := by have := KZ.out; have := hb2.size; have := hb4.size; have := (KeepsWalks.setCell W4 ⟨B + 5, 0, none⟩ (.slice fx fn' fc)).size; show _ ≤ _; omega
                  obtain ⟨W3, hW3⟩ : ∃ W3, W2.alloc (.cells #[.int .i64 y0] 3) = W3 := ⟨_, rfl⟩
                  have SB : Hid ((Instr.buildSlice 24 1 #[(0, .int .i64 y0)]).run Tryz.prog W2 = .ok (.slice (some ⟨W2.heap.size, 0, none⟩) 1 1) W3) := by show _ = _; rw [← hW3]; exact slice_int1 W2 y0
                  rw [hW3] at HAP
                  obtain ⟨NN, hNN⟩ : ∃ NN, wr.heap.size = NN := ⟨_, rfl⟩
                  rw [hNN] at ST r1
                  have HLT := Lib.hid hlt
                  obtain ⟨ux, un, uc⟩ := u'
                  simp only [slV] at HAP r5c r6c
                  clear hp hsn hbb p1 p2 hW2 hb2 hR r5 o5 hr o6 gg hb4 hkf4 r6 hW3 hlt K5 K6 KI HSN
                  gi_wp2_with (with_reducible refine list_round_build ?lo4 ?hd4 ?_)
                  case lo4 => repeat (first | exact letsOut_num | refine letsOut_thenC ?_ | refine letsOut_inBlock ?_)
                  case hd4 => intro o ho c; simp only [List.mem_cons, List.mem_nil_iff, or_false] at ho; rcases ho with rfl | rfl <;> simp
                  go_wp2_with (first | ((with_reducible refine gate_build ?_); refine wpList_build_run 24 1 #[(0, .tmp 59)] rfl rfl [(0, .int .i64 y0)] _ rfl SB.out ?_) | (at_builtin; refine wpList_append_run (.tmp 57) (.tmp 60) 24 rfl rfl _ _ _ rfl rfl (HAP.out _) ?_))
                  gi_wp2
                  go_roundw
                  case rel => exact ⟨j + 1, (fx, fn', fc), HLT.out, by simp, R7, O7, KI4, S7⟩
                  case measure => have := HLT.out; simp [intOf]; omega
                · obtain rfl : j = tn := by omega
                  have HTA : Hid (cAts (l.take (k + 1)) = cAts (l.take k) ++ (s.tb.take j).map (·.2)) := by
                    show _ = _
                    rw [HTK.out, cAts_snoc, List.take_of_length_le (l := s.tb) (by rw [HTN.out]; exact Nat.le_refl _)]
                  have HG5 := K5
                  clear K5
                  gi_wp2
                  refine ⟨KI.out.kf, sid, u', KI.out.g0, KI.out.g1, KI.out.g2, KI.out.g3, KI.out.g4, HG5.out, ?_, KI.out.g7, HG.out⟩
                  rw [HTA.out]
                  exact K6.out
    case done =>
      rintro D W hD ⟨last, u, g0, g1, g2, g3, g4, g5, g6, g7, g8⟩ hK
      clear SX z0 z1 z2 z3 z4 z5 hseq hm q0 hi
      rw [List.take_of_length_le (by rw [HL.out]; exact Nat.le_refl _)] at g6
      rw [cRise_end (by rw [HL.out]; exact Nat.le_refl _)] at g8
      obtain ⟨zs, hzs⟩ : ∃ zs, cAts l = zs := ⟨_, rfl⟩
      rw [hzs] at g6
      have hzl : zs.length ≤ 8000 := by
        rw [← hzs]
        have := cAts_len (K := 1000) l (fun t ht => (HKL.out.2 t ht).2)
        omega
      have HGD : Hid (cGood l bl ar = decide zs.Nodup) := by
        show _ = _
        unfold cGood
        rw [g8, hzs, decide_eq_true (by omega)]
        rfl
      have HSO := Lib.hid (in_sort g6 (by omega))
      have HZ : Hid (B + 8 < W.heap.size) := g7.bj.lt
      have d5 := g5.cell 0 _ rfl
      have G3 := Lib.hid g3
      have G5 := Lib.hid g5
      have G6 := Lib.hid g6
      have G7 := Lib.hid g7.be
      have HK := Lib.hid hK
      obtain ⟨ux, un, uc⟩ := u
      have hun : un = zs.length := by
        rcases g6.2 with ⟨e, e0⟩ | ⟨g, cap', cur, e, -⟩ <;> simp only [slV, Value.slice.injEq] at e <;> omega
      simp only [slV] at d5
      have HUN := Lib.hid hun
      clear g0 g1 g2 g3 g4 g5 g6 g7 g8 hK hzs hun
      gi_wp2_with (refine ⟨trivial, ?_⟩; gi_at_call 82; refine (callsIn_wide.2 HSO.out).mono ?_; rintro e y ⟨rfl, hO, hG⟩)
      have HYB : Hid (Below (B + 9) W y) := (Below.refl _ W).grown hG (by have := HZ.out; omega) (fun k e => (G6.out.base k e).1)
      have HKF1 : Hid (KeepsFrom 0 W y) := keepsFrom_row G6.out hG
      have r5 : RowC y (B + 5) 24 [.slice ux un uc] := G5.out.belowN HYB.out (by omega)
      have r3 : RowC y (B + 3) 4 [.bool false] := G3.out.belowN HYB.out (by omega)
      have HO := Lib.hid hO
      have HR5 := Lib.hid r5
      have HR3 := Lib.hid r3
      have c5 : ∀ z : Kp2 y (B + 5) (B + 3), z.1.cell? ⟨B + 5, 0, none⟩ = some (.slice ux un uc) := fun z => (z.fst r5).cell 0 _ rfl
      have hc := in_compact (w := y.drew) (v := .slice ux un uc) (zs := sorted zs) (own_belowT hO (Below.refl _ y).drew)
      obtain ⟨m, hm⟩ : ∃ m, (Lib.compact (sorted zs)).length = m := ⟨_, rfl⟩
      rw [hm] at hc
      have HM : Hid (cGood l bl ar = ((m : Int) == (un : Int))) := by
        show _ = _
        rw [HGD.out]
        have hh := sorted_compact zs
        rw [hm] at hh
        have hu := HUN.out
        by_cases e : m = zs.length
        · rw [decide_eq_true (hh.1 e), e, hu]; simp
        · rw [decide_eq_false (fun x => e (hh.2 x))]
          symm
          simp
          omega
      have HC := Lib.hid hc
      clear hO hG HSO hc hm r5 r3 d5
      refine wpIn_wide.2 (region_planN (fun x => ∃ z : Kp2 y (B + 5) (B + 3), x = z.1) 6 (.takes [0, 3, 4] (.one 1 (.takes [2, 5] .leaf))) hmx (by kernel_rfl) ⟨⟨y.drew, rfl, rfl⟩, rfl⟩ ?_)
      repeat (rw [wpPlanN_takes_cons]; simp only [nth_zero, nth_succ]; go_big_quiet_step (fail); refine wpQuiet_nil ?_)
      clear c5
      rw [wpPlanN_takes_nil, wpPlanN_one]
      simp only [nth_zero, nth_succ]
      go_wp2_with fail
      go_at_call 83
      refine HC.out.mono ?_
      rintro e z ⟨⟨a2, c2, rfl⟩, hG2⟩
      have hb2 : Below (B + 9) y z := (Below.refl _ y).drew.grown hG2 (by have := HYB.out.size; have := HZ.out; simp; omega) (fun k e => ((HO.out).base k e).1)
      have HKF2 : Hid (KeepsFrom 0 W z) := keepsFrom_trans HKF1.out (keepsFrom_trans (keepsFrom_below (Below.refl _ y).drew) (keepsFrom_row (own_belowT HO.out (Below.refl _ y).drew) hG2))
      have HR3z : Hid (RowC z (B + 3) 4 [.bool false]) := HR3.out.belowN hb2 (by omega)
      have hK2 : z.heap[B + 5]? = y.heap[B + 5]? ∧ z.heap[B + 3]? = y.heap[B + 3]? := ⟨hb2.block _ (by omega), hb2.block _ (by omega)⟩
      have HK2 := Lib.hid hK2
      have HBZ : Hid (Below B w z) := G7.out.trans ((HYB.out.trans hb2).mono (by omega))
      clear hG2 hb2 hK2 HC
      go_wp2_with fail
      refine planPost_mk ⟨⟨z, HK2.out⟩, rfl⟩ ?_
      repeat (rw [wpPlanN_takes_cons]; simp only [nth_zero, nth_succ]; go_big_quiet_step (fail); refine wpQuiet_nil ?_)
      rw [wpPlanN_takes_nil, wpPlanN_leaf]
      simp only [List.drop_succ_cons, List.drop_zero]
      have f3 := HR3z.out.frozen 0
      have c3 := HR3z.out.cell 0 _ rfl
      go_wp2_with fail
      have HKF3 : Hid (KeepsFrom 0 W (z.setCell ⟨B + 3, 0, none⟩ (.bool ((m : Int) == (un : Int))))) := keepsFrom_trans HKF2.out (keepsFrom_cells HR3z.out (grownBy_setCellJ z (B + 3) 0 _))
      have HRF : Hid (RowC (z.setCell ⟨B + 3, 0, none⟩ (.bool ((m : Int) == (un : Int)))) (B + 3) 4 [.bool ((m : Int) == (un : Int))]) := HR3z.out.set 0 _
      have HBF : Hid (Below B w (z.setCell ⟨B + 3, 0, none⟩ (.bool ((m : Int) == (un : Int))))) := set_below HBZ.out (by omega) 0 _
      obtain ⟨ZZ, hZZ⟩ : ∃ ZZ, z.setCell ⟨B + 3, 0, none⟩ (.bool ((m : Int) == (un : Int))) = ZZ := ⟨_, rfl⟩
      rw [hZZ] at HKF3 HRF HBF
      try rw [show B + 1 + 1 + 1 = B + 3 by omega]
      rw [hZZ]
      clear hZZ
      gi_wp2
      have hK2 := HKF3.out.same D _ (Nat.zero_le _) HK.out rfl
      refine ⟨by simp, .inl ⟨_, _, rfl, run_takeDeferred hK2, ?_⟩⟩
      have hg2 := grownBy_putObj' ZZ D (.deferred none)
      have hy2 := rowC_own (N := 0) HRF.out hg2 (fun r e => by cases e; exact ⟨Nat.zero_le _, _, hK2, rfl⟩)
      refine ⟨_, results_cell rfl rfl (load_bool1 hy2), by rw [HM.out], ?_⟩
      rw [HSZ.out]
      exact HBF.out.trans (belowK_b (w := w) (by omega) _ D _ _ (by have := HW.out; have := HSZ.out; omega) hK2 rfl rfl)
    case stop =>
      rintro D c k W hD _ ⟨rfl, g2, g3⟩ hK
      have G2 := Lib.hid g2
      have G3 := Lib.hid g3
      have HK := Lib.hid hK
      clear g2 g3 hK
      gi_wp2
      refine ⟨by simp, .inl ⟨_, _, rfl, run_takeDeferred HK.out, ?_⟩⟩
      have hg2 := grownBy_putObj' W D (.deferred none)
      have hy2 := rowC_own (N := 0) G2.out hg2 (fun r e => by cases e; exact ⟨Nat.zero_le _, _, HK.out, rfl⟩)
      refine ⟨_, results_cell rfl rfl (load_bool1 hy2), rfl, ?_⟩
      rw [HSZ.out]
      exact G3.out.trans (belowK_b (w := w) (by omega) W D _ _ (by have := HW.out; have := HSZ.out; omega) HK.out rfl rfl)
end Go.Proofs.YtajamblkjmafmaaGreat

/- The program's state: read back from bytes. -/
namespace Go.Proofs.YtajamblkjmafmaaGreat
open Go.RowKit Go.Shelf Go.Lib
set_option linter.unusedVariables false
set_option linter.unusedSimpArgs false
attribute [-simp] Tryz.isAgg55 Tryz.zeroValue55 Tryz.isAgg57 Tryz.zeroValue57 Tryz.isAgg30 Tryz.zeroValue30
attribute [-go_sem] loadVar storeVar
attribute [local go_sem] loadVar_openQ storeVar_openQ zero_sn zero_prs zero_st build_sn
/-- The dirty slots as the program reads them. -/
def dirtP (g : SG) (bs : List Int) (k : Nat) : List Int := ((seg bs 10 g.slots).take k).map plA
theorem dirtP_zero (g : SG) (bs : List Int) : dirtP g bs 0 = [] := by unfold dirtP; simp
theorem dirtP_succ (g : SG) {bs : List Int} {k : Nat} (hk : k < g.slots) (hl : 10 + g.slots ≤ bs.length) : dirtP g bs (k + 1) = dirtP g bs k ++ [plA (bs[10 + k]?.getD 0)] := by
  unfold dirtP
  have h : (seg bs 10 g.slots)[k]? = some (bs[10 + k]?.getD 0) := by
    rw [seg_get hk, List.getElem?_eq_getElem (show 10 + k < bs.length by omega)]
    rfl
  rw [take_at h, List.map_append]
  rfl
theorem InO.low {M : Nat} {W W' : World} {v : Value} {zs : List Int} {row : Option Nat} (h : InO M W v zs) (hg : W.grownBy W' row) (hr : ∀ j, row = some j → j < M) : InO M W' v zs :=
  World.ownsRow.kept h hg (by
    by_cases e : v.ownBlock = none
    · exact .inl e
    · refine .inr fun e2 => ?_
      obtain ⟨j, hj⟩ := Option.ne_none_iff_exists'.1 e
      have h1 := (h.base j hj).1
      have h2 := hr j (by rw [← e2]; exact hj)
      omega)
theorem own_low {M e sz n : Nat} {W W' : World} {v : Value} {xs : List Value} {row : Option Nat} (h : W.ownsRow M e sz v n xs) (hg : W.grownBy W' row) (hr : ∀ j, row = some j → j < M) : W'.ownsRow M e sz v n xs :=
  h.kept hg (by
    by_cases e : v.ownBlock = none
    · exact .inl e
    · refine .inr fun e2 => ?_
      obtain ⟨j, hj⟩ := Option.ne_none_iff_exists'.1 e
      have h1 := (h.lt j hj).1
      have h2 := hr j (by rw [← e2]; exact hj)
      omega)
theorem SnO.low {M : Nat} {W W' : World} {v : Value} {l : List SN} {row : Option Nat} (h : SnO M W v l) (hg : W.grownBy W' row) (hr : ∀ j, row = some j → j < M) : SnO M W' v l := by
  obtain ⟨r, h1, h2, h3⟩ := h
  exact ⟨r, h1, own_low h2 hg hr, fun j q s a b => ⟨(h3 j q s a b).id, own_low (h3 j q s a b).ch hg hr, ⟨own_low (h3 j q s a b).tb.1 hg hr, (h3 j q s a b).tb.2⟩, (h3 j q s a b).ok⟩⟩
theorem PrO.low {M : Nat} {W W' : World} {v : Value} {l : List (Int × Int)} {row : Option Nat} (h : PrO M W v l) (hg : W.grownBy W' row) (hr : ∀ j, row = some j → j < M) : PrO M W' v l := ⟨own_low h.1 hg hr, h.2⟩
/-- What lies there while a state is read. -/
structure RdI (B E N rb : Nat) (G : List Value) (w : World) (q : PS) (rest dl : List Int) (sl : List SN) (W : World) : Prop where
  g0 : RowC W B 23 G
  g1 : RowC W (B + 1) 30 (stL noQ)
  ge : RowC W E 30 (stL q)
  rd : Rdr W N rb rest
  dd : InO (E + 1) W (slV q.d) dl
  ss : SnO (E + 1) W (slV q.sn) sl
  be : Below B w W
  n1 : B + 1 < rb
  n2 : rb < N
  n3 : N ≤ E
  n4 : E < W.heap.size
variable {B E N rb : Nat} {G : List Value} {w W W' : World} {q : PS} {rest dl : List Int} {sl : List SN}
theorem RdI.step (h : RdI B E N rb G w q rest dl sl W) {rest' : List Int} (hg : W.grownBy W' (some rb)) (hr : Rdr W' N rb rest') : RdI B E N rb G w q rest' dl sl W' := by
  have n1 := h.n1
  have n2 := h.n2
  have n3 := h.n3
  have n4 := h.n4
  exact ⟨h.g0.grown hg (by simp; omega), h.g1.grown hg (by simp; omega), h.ge.grown hg (by simp; omega), hr, h.dd.low hg (fun j e => by cases e; omega), h.ss.low hg (fun j e => by cases e; omega), h.be.grown hg (by omega) (fun j e => by cases e; omega), h.n1, h.n2, h.n3, Nat.lt_of_lt_of_le n4 hg.size⟩
theorem RdI.below (h : RdI B E N rb G w q rest dl sl W) (hb : Below W.heap.size W W') : RdI B E N rb G w q rest dl sl W' := by
  have n1 := h.n1
  have n2 := h.n2
  have n3 := h.n3
  have n4 := h.n4
  exact ⟨h.g0.below hb, h.g1.below hb, h.ge.below hb, h.rd.below (grown_below hb none), h.dd.below hb, h.ss.below hb, h.be.trans (hb.mono (by omega)), h.n1, h.n2, h.n3, Nat.lt_of_lt_of_le n4 hb.size⟩
/-- A cell of the state is set. -/
theorem RdI.set (h : RdI B E N rb G w q rest dl sl W) (j : Nat) (v : Value) {q' : PS} {dl' : List Int} {sl' : List SN} (hq : (stL q).set j v = stL q') (hd : InO (E + 1) (W.setCell ⟨E, j, none⟩ v) (slV q'.d) dl') (hs : SnO (E + 1) (W.setCell ⟨E, j, none⟩ v) (slV q'.sn) sl') :
    RdI B E N rb G w q' rest dl' sl' (W.setCell ⟨E, j, none⟩ v) := by
  have n1 := h.n1
  have n2 := h.n2
  have n3 := h.n3
  have n4 := h.n4
  have hg := grownBy_setCellJ W E j v
  exact ⟨set_other h.g0 (by omega) j v, set_other h.g1 (by omega) j v, by rw [← hq]; exact h.ge.set j v, h.rd.kept hg (fun r e => by cases e; omega), hd, hs, set_below h.be (by omega) j v, h.n1, h.n2, h.n3, Nat.lt_of_lt_of_le n4 hg.size⟩
theorem RdI.set0 (h : RdI B E N rb G w q rest dl sl W) (j : Nat) (v : Value) {q' : PS} (hq : (stL q).set j v = stL q') (e1 : q'.d = q.d) (e2 : q'.sn = q.sn) : RdI B E N rb G w q' rest dl sl (W.setCell ⟨E, j, none⟩ v) := by
  have hg := grownBy_setCellJ W E j v
  exact h.set j v hq (by rw [e1]; exact h.dd.low hg (fun j e => by cases e; omega)) (by rw [e2]; exact h.ss.low hg (fun j e => by cases e; omega))
/-- What lies above grows. -/
theorem RdI.high (h : RdI B E N rb G w q rest dl sl W) {row : Option Nat} (hg : W.grownBy W' row) (hr : ∀ j, row = some j → E + 1 ≤ j) {q' : PS} {dl' : List Int} {sl' : List SN} (hd : InO (E + 1) W' (slV q.d) dl) (hs : SnO (E + 1) W' (slV q.sn) sl) : RdI B E N rb G w q rest dl sl W' := by
  have n1 := h.n1
  have n2 := h.n2
  have n3 := h.n3
  have n4 := h.n4
  have ne : ∀ j, j ≤ E → row ≠ some j := fun j hj e => by have := hr j e; omega
  exact ⟨h.g0.grown hg (ne _ (by omega)), h.g1.grown hg (ne _ (by omega)), h.ge.grown hg (ne _ (by omega)), h.rd.kept hg (fun r e => by have := hr r e; omega), hd, hs, h.be.grown hg (by omega) (fun j e => by have := hr j e; omega), h.n1, h.n2, h.n3, Nat.lt_of_lt_of_le n4 hg.size⟩
/-- A row above grows, and a cell of the state is set. -/
theorem RdI.put (h : RdI B E N rb G w q rest dl sl W) {row : Option Nat} {Y : World} (hg : W.grownBy Y row) (hr : ∀ j, row = some j → E + 1 ≤ j) (j : Nat) (v : Value) {q' : PS} {dl' : List Int} {sl' : List SN} (hq : (stL q).set j v = stL q')
    (hd : InO (E + 1) (Y.setCell ⟨E, j, none⟩ v) (slV q'.d) dl') (hs : SnO (E + 1) (Y.setCell ⟨E, j, none⟩ v) (slV q'.sn) sl') : RdI B E N rb G w q' rest dl' sl' (Y.setCell ⟨E, j, none⟩ v) := by
  have n1 := h.n1
  have n2 := h.n2
  have n3 := h.n3
  have n4 := h.n4
  have ne : ∀ j, j ≤ E → row ≠ some j := fun j hj e => by have := hr j e; omega
  have h2 := grownBy_setCellJ Y E j v
  exact ⟨set_other (h.g0.grown hg (ne _ (by omega))) (by omega) j v, set_other (h.g1.grown hg (ne _ (by omega))) (by omega) j v, by rw [← hq]; exact (h.ge.grown hg (ne _ (Nat.le_refl _))).set j v, (h.rd.kept hg (fun r e => by have := hr r e; omega)).kept h2 (fun r e => by cases e; omega), hd, hs, set_below (h.be.grown hg (by omega) (fun j e => by have := hr j e; omega)) (by omega) j v, h.n1, h.n2, h.n3, Nat.lt_of_lt_of_le (Nat.lt_of_lt_of_le n4 hg.size) h2.size⟩
theorem seg_drop (bs : List Int) (a n : Nat) : seg (bs.drop a) 0 n = seg bs a n := by unfold seg; rw [List.drop_zero]
theorem take_one1 {bs : List Int} {k : Nat} (h : k < bs.length) : (bs.drop k).take 1 = [bs[k]?.getD 0] := by
  rw [List.drop_eq_getElem_cons h, List.getElem?_eq_getElem h]
  rfl
/-- **What read tells.** -/
structure ReadR (g : SG) (bs : List Int) (M : Nat) (W : World) (q : PS) : Prop where
  nx : q.nx = getL (seg bs 0 4)
  kd : q.kd = bs[5]?.getD 0
  id : q.id = getL (seg bs 6 4)
  dd : InO M W (slV q.d) (dirtP g bs g.slots)
  ss : SnO M W (slV q.sn) (snK g bs 8)
  pr : PrO M W (slV q.pr) (prFrom 0 (seg bs (g.at 8) g.b))

set_option maxRecDepth 100000 in
set_option maxHeartbeats 4000000 in
/-- **read**. -/
theorem sg_read {w : World} {v : Value} {bs : List Int} (g : SG) (hg : g.Ok) (r0 : Int) (hv : Sl .u8 w v bs) (hB : IsBytes bs) (hl : bs.length = g.bts) :
    Calls Tryz.prog 33 #[.agg (g.v r0), v] w fun e w' => ∃ q : PS, e = .returned (stV q) ∧ ReadR g bs w.heap.size w' q ∧ Below w.heap.size w w' := by
  have hmx : Tryz.prog.follows .mixedOrders = true := by kernel_rfl
  have hn9 := sizeB_le64 hg
  have hgb := hg.b64
  have hsl : g.slots ≤ 32 := Nat.le_trans (Nat.mul_le_mul hg.s8 hg.y4) (by decide)
  have hcap : bs.length ≤ 1000 := by
    rw [hl]
    unfold SG.bts SG.step SG.n9
    omega
  have HLE : Hid (∀ i, i < 8 → g.at i + (4 + g.n9 + g.b) + g.b ≤ bs.length) := fun i hi => by rw [hl]; exact g.at_le hi
  have HEN : Hid (g.at 8 + g.b = bs.length) := by show _ = _; rw [hl]; exact g.at_end
  have HBY := Lib.hid hB
  have HCAP := Lib.hid hcap
  have HGO := Lib.hid hg
  obtain ⟨B, hBB⟩ : ∃ B, w.heap.size = B := ⟨_, rfl⟩
  have HSZ := Lib.hid hBB
  obtain ⟨W1, hW1⟩ : ∃ W, w.alloc (.cells (g.v r0) 23) = W := ⟨_, rfl⟩
  obtain ⟨W2, hW2⟩ : ∃ W, W1.alloc (.cells #[.slice none 0 0, .slice none 0 0, .int .i64 0, .int .i64 0, .int .i64 0, .slice none 0 0] 30) = W := ⟨_, rfl⟩
  have s1 : W1.heap.size = B + 1 := by rw [← hW1, ← hBB]; simp
  have s2 : W2.heap.size = B + 2 := by rw [← hW2, World.size_alloc, s1]
  have r1 : RowC W1 B 23 [.int .i64 (g.b : Int), .int .i64 (g.s : Int), .int .i64 (g.y : Int), .int .i64 (g.a : Int), .int .i64 r0] := by rw [← hW1, ← hBB]; exact RowC.new _ _ _
  have r2 : RowC W2 (B + 1) 30 (stL noQ) := by rw [← hW2, ← s1]; exact RowC.new _ _ _
  have b1 : Below B w W1 := by rw [← hW1, ← hBB]; exact below_new _ _
  have b2 : Below W1.heap.size W1 W2 := by rw [← hW2]; exact below_new _ _
  have hBF : Below B w W2 := b1.trans (b2.mono (by omega))
  have HBF := Lib.hid hBF
  have HR1 : Hid (RowC W2 B 23 [.int .i64 (g.b : Int), .int .i64 (g.s : Int), .int .i64 (g.y : Int), .int .i64 (g.a : Int), .int .i64 r0]) := r1.below b2
  have HR2 := Lib.hid r2
  have HS2 := Lib.hid s2
  have HNR := Lib.hid (newReader_any v bs W2 (hv.below (by rw [hBB]; exact hBF)) (by omega))
  clear r1 r2 b1 b2 hBF hv hB hl hg
  obtain ⟨GL, hGL⟩ : ∃ GL : List Value, [.int .i64 (g.b : Int), .int .i64 (g.s : Int), .int .i64 (g.y : Int), .int .i64 (g.a : Int), .int .i64 r0] = GL := ⟨_, rfl⟩
  rw [hGL] at HR1
  have HGL := Lib.hid hGL
  clear hGL
  unfold SG.v at *
  go_enter Tryz.func33, Tryz.ntmps33
  go_wp2_with fail
  refine HNR.out.mono ?_
  rintro e x1 ⟨rb, rfl, hrb, hrd, hb1⟩
  obtain ⟨x2, hx2⟩ : ∃ x, x1.alloc (.cells #[.slice none 0 0, .slice none 0 0, .int .i64 0, .int .i64 0, .int .i64 0, .slice none 0 0] 30) = x := ⟨_, rfl⟩
  obtain ⟨N, hN⟩ : ∃ N, x1.heap.size = N := ⟨_, rfl⟩
  have b2 : Below x1.heap.size x1 x2 := by rw [← hx2]; exact below_new _ _
  have I0 : RdI B N N rb GL w noQ bs [] [] x2 := by
    refine ⟨(HR1.out.below hb1).below b2, (HR2.out.below hb1).below b2, by rw [← hx2, ← hN]; exact RowC.new x1 30 (stL noQ), by rw [hN] at hrd; exact hrd.below (grown_below b2 none), InO.nil _ _, SnO.nil _ _, (HBF.out.trans (hb1.mono (by have := HS2.out; omega))).trans (b2.mono (by have := hb1.size; have := HS2.out; omega)), by have := HS2.out; omega, ?_, Nat.le_refl _, by rw [← hx2, ← hN]; simp⟩
    obtain ⟨b, off, cap, h0, h1, h2, h3, h4, h5, h6⟩ := hrd
    omega
  have HI0 := Lib.hid I0
  clear hrb hrd hb1 b2 HNR I0
  go_wp2_with fail
  refine (sg_number rb bs 4 x2 HI0.out.rd HBY.out (by have := HEN.out; have := g.at_zero; have := HLE.out 0 (by omega); omega) (Nat.le_refl _)).mono ?_
  rintro e x3 ⟨rfl, hr3, hg3⟩
  have J3 := HI0.out.step hg3 hr3
  obtain ⟨nx, hnx⟩ : ∃ z, getL (bs.take 4) = z := ⟨_, rfl⟩
  have HNX : Hid (nx = getL (seg bs 0 4)) := by show _ = _; rw [← hnx]; rfl
  rw [hnx]
  have f0 := J3.ge.frozen 2
  have e0 := J3.ge.cell 2 _ rfl
  have HBL : Hid (10 + g.slots ≤ bs.length) := by have := g.at_zero; have := HLE.out 0 (by omega); show _ ≤ _; have := HGO.out.b1; omega
  have I4 : Hid (RdI B N N rb GL w ⟨(none, 0, 0), (none, 0, 0), nx, 0, 0, (none, 0, 0)⟩ (bs.drop 4) [] [] (x3.setCell ⟨N, 2, none⟩ (.int .i64 nx))) := J3.set0 2 _ rfl rfl rfl
  clear hr3 hg3 J3 hnx HI0
  go_wp2_with fail
  refine (sg_number rb (bs.drop 4) 1 _ I4.out.rd (isB_drop HBY.out 4) (by rw [List.length_drop]; have := HBL.out; omega) (by omega)).mono ?_
  rintro e x5 ⟨rfl, hr5, hg5⟩
  obtain ⟨ct, hct, hct8⟩ := byte_of bs HBY.out 4
  rw [take_one1 (by have := HBL.out; omega), getL_one, hct]
  have I5 : Hid (RdI B N N rb GL w ⟨(none, 0, 0), (none, 0, 0), nx, 0, 0, (none, 0, 0)⟩ (bs.drop 5) [] [] x5) := by
    have := I4.out.step hg5 hr5
    rw [List.drop_drop] at this
    exact this
  have HCT := Lib.hid hct
  clear hr5 hg5 I4 hct f0 e0
  go_wp2_with fail
  refine (sg_number rb (bs.drop 5) 1 _ I5.out.rd (isB_drop HBY.out 5) (by rw [List.length_drop]; have := HBL.out; omega) (by omega)).mono ?_
  rintro e x6 ⟨rfl, hr6, hg6⟩
  obtain ⟨kd, hkd, hkd8⟩ := byte_of bs HBY.out 5
  rw [take_one1 (by have := HBL.out; omega), getL_one, hkd]
  have J6 := I5.out.step hg6 hr6
  rw [List.drop_drop] at J6
  have HKD := Lib.hid hkd
  have f0 := J6.ge.frozen 3
  have e0 := J6.ge.cell 3 _ rfl
  have I6 : Hid (RdI B N N rb GL w ⟨(none, 0, 0), (none, 0, 0), nx, (kd : Int), 0, (none, 0, 0)⟩ (bs.drop 6) [] [] (x6.setCell ⟨N, 3, none⟩ (.int .i64 (kd : Int)))) := J6.set0 3 _ rfl rfl rfl
  clear hr6 hg6 I5 J6 hkd
  go_wp2_with fail
  refine (sg_number rb (bs.drop 6) 4 _ I6.out.rd (isB_drop HBY.out 6) (by rw [List.length_drop]; have := HBL.out; omega) (by omega)).mono ?_
  rintro e x7 ⟨rfl, hr7, hg7⟩
  obtain ⟨id, hid⟩ : ∃ z, getL ((bs.drop 6).take 4) = z := ⟨_, rfl⟩
  have HID : Hid (id = getL (seg bs 6 4)) := by show _ = _; rw [← hid]; rfl
  rw [hid]
  have J7 := I6.out.step hg7 hr7
  rw [List.drop_drop] at J7
  clear f0 e0
  have f0 := J7.ge.frozen 4
  have e0 := J7.ge.cell 4 _ rfl
  have I7 : Hid (RdI B N N rb GL w ⟨(none, 0, 0), (none, 0, 0), nx, (kd : Int), id, (none, 0, 0)⟩ (bs.drop 10) [] [] (x7.setCell ⟨N, 4, none⟩ (.int .i64 id))) := J7.set0 4 _ rfl rfl rfl
  obtain ⟨x8, hx8⟩ : ∃ x, x7.setCell ⟨N, 4, none⟩ (.int .i64 id) = x := ⟨_, rfl⟩
  rw [hx8] at I7
  have hG8 := I7.out.g0
  rw [← HGL.out] at hG8
  have c0 := hG8.cell 0 _ rfl
  have c1 := hG8.cell 1 _ rfl
  have c2 := hG8.cell 2 _ rfl
  have c3 := hG8.cell 3 _ rfl
  have c4 := hG8.cell 4 _ rfl
  have HSC : Hid (Calls Tryz.prog 40 #[.agg #[.int .i64 (g.b : Int), .int .i64 (g.s : Int), .int .i64 (g.y : Int), .int .i64 (g.a : Int), .int .i64 r0]] x8 fun e w' => e = .returned (.int .i64 (g.slots : Int)) ∧ Below x8.heap.size x8 w') := sg_slots g HGO.out r0 x8
  obtain ⟨Z, hZ⟩ : ∃ Z, g.slots = Z := ⟨_, rfl⟩
  have HZ := Lib.hid hZ
  rw [hZ] at HSC HBL hsl
  clear hr7 hg7 I6 J7 hid hG8 hZ
  go_wp2_with fail
  refine HSC.out.mono ?_
  rintro e x9 ⟨rfl, hb9⟩
  have I9 := Lib.hid (I7.out.below hb9)
  clear hb9 c0 c1 c2 c3 c4 HSC I7 f0 e0 hx8
  go_wp2_with fail
  refine (sg_taken rb (bs.drop 10) Z x9 I9.out.rd (by rw [List.length_drop]; have := HBL.out; omega) (by rw [List.length_drop]; have := HCAP.out; omega)).mono ?_
  rintro e xa ⟨qa, rfl, hoa, hra, hga⟩
  have IA : Hid (RdI B N N rb GL w ⟨(none, 0, 0), (none, 0, 0), nx, (kd : Int), id, (none, 0, 0)⟩ (bs.drop (10 + Z)) [] [] xa) := by
    have := I9.out.step hga hra
    rw [List.drop_drop] at this
    exact this
  have HOA : Hid (xa.ownsRow (N + 1) 5 1 (.slice (some ⟨qa, 0, none⟩) Z Z) ((bs.drop 10).take Z).length (((bs.drop 10).take Z).map (Value.int .u8))) := own_weak hoa (by have := I9.out.n4; omega)
  have HLA : Hid (((bs.drop 10).take Z).length = Z) := by show _ = _; rw [List.length_take, List.length_drop]; have := HBL.out; omega
  clear hoa hra hga I9
  go_wp2_with fail
  go_loopw [32] (fun iv wr => ∃ (k : Nat) (x : Option Addr) (n c : Nat), k ≤ Z ∧ iv = .int .i64 (k : Int) ∧ Hid (RdI B N N rb GL w ⟨(x, n, c), (none, 0, 0), nx, (kd : Int), id, (none, 0, 0)⟩ (bs.drop (10 + Z)) (dirtP g bs k) [] wr) ∧ Hid (wr.ownsRow (N + 1) 5 1 (.slice (some ⟨qa, 0, none⟩) Z Z) ((bs.drop 10).take Z).length (((bs.drop 10).take Z).map (Value.int .u8)))) (fun iv _ => Z - (intOf iv).toNat)
  case atStart => exact ⟨0, none, 0, 0, Nat.zero_le _, rfl, by rw [dirtP_zero]; exact IA, HOA⟩
  case round =>
    clear IA HOA
    obtain ⟨k, x, n, c, hk, rfl, HI, HO⟩ := hrel
    by_cases hlt : k < Z
    · have q1 : (k : Int) < (Z : Int) := by omega
      have HLT := Lib.hid hlt
      obtain ⟨y, hy, hy8⟩ := byte_of bs HBY.out (10 + k)
      have cb : wr.cell? ⟨qa, k, none⟩ = some (.int .u8 (y : Int)) := by
        have h1 := HO.out
        rw [HLA.out] at h1
        have := bi_cell h1 k hlt
        rw [List.getElem?_take, if_pos hlt, List.getElem?_drop, hy] at this
        exact this
      have HES := Lib.hid (dirtP_succ g (bs := bs) (k := k) (by rw [HZ.out]; exact hlt) (by rw [HZ.out]; have := HBL.out; omega))
      rw [hy] at HES
      obtain ⟨z, hz⟩ : ∃ z, plA (y : Int) = z := ⟨_, rfl⟩
      have HME : Hid (Calls Tryz.prog 68 #[.int .u8 (y : Int)] wr.drew fun e w' => e = .returned (.int .i64 z) ∧ w' = wr.drew) := by rw [← hz]; exact sg_meant y hy8 wr.drew
      rw [hz] at HES
      have bd : Below wr.heap.size wr wr.drew := (Below.refl _ wr).drew
      have ID := HI.out.below bd
      have od := own_belowT HO.out bd
      have hlen : (dirtP g bs k).length ≤ 900000 := by unfold dirtP; rw [List.length_map, List.length_take]; have := hsl; omega
      obtain ⟨v', y', hA, hI, hg', -⟩ := in_append (w := wr.drew) ID.dd ID.n4 z hlen
      rw [← HES.out] at hI
      obtain ⟨⟨x', n', c'⟩, rfl, -⟩ := own_slV hI
      obtain ⟨X1, hX1⟩ : ∃ X, wr.drew.alloc (.cells #[.int .i64 z] 3) = X := ⟨_, rfl⟩
      have b1 : Below wr.drew.heap.size wr.drew X1 := by rw [← hX1]; exact below_new _ _
      rw [hX1] at hA
      have KD := Lib.hid ID.ge
      have KX := Lib.hid (ID.ge.below b1)
      have hEg : RowC y' N 30 (stL ⟨(x, n, c), (none, 0, 0), nx, (kd : Int), id, (none, 0, 0)⟩) := ID.ge.grown hg' (row_ne ID.dd ID.ge (by decide))
      have KY := Lib.hid hEg
      have f0 := hEg.frozen 0
      have e0 := hEg.cell 0 _ rfl
      have I2 : Hid (RdI B N N rb GL w ⟨(x', n', c'), (none, 0, 0), nx, (kd : Int), id, (none, 0, 0)⟩ (bs.drop (10 + Z)) (dirtP g bs (k + 1)) [] (y'.setCell ⟨N, 0, none⟩ (slV (x', n', c')))) :=
        ID.put hg' (fun j e => (ID.dd.base j e).1) 0 _ rfl (own_setB hI hEg (by decide) 0 _) (SnO.nil _ _)
      have O2 : Hid ((y'.setCell ⟨N, 0, none⟩ (slV (x', n', c'))).ownsRow (N + 1) 5 1 (.slice (some ⟨qa, 0, none⟩) Z Z) ((bs.drop 10).take Z).length (((bs.drop 10).take Z).map (Value.int .u8))) := own_setB (od.kept hg' (rows_ne od ID.dd (by decide))) hEg (by decide) 0 _
      have d0 : ∀ q : RowT N 30 (stL ⟨(x, n, c), (none, 0, 0), nx, (kd : Int), id, (none, 0, 0)⟩), q.1.cell? ⟨N, 0, none⟩ = some (.slice x n c) := fun q => q.2.cell 0 _ rfl
      haveI : Nonempty (RowT N 30 (stL ⟨(x, n, c), (none, 0, 0), nx, (kd : Int), id, (none, 0, 0)⟩)) := ⟨⟨wr.drew, KD.out⟩⟩
      have HA := Lib.hid hA
      simp only [slV] at HA e0 I2 O2
      clear hA hI hg' hEg ID od bd b1 hy hz hlt HO HI hlen
      go_wp2_with fail
      refine region_plan (fun z => ∃ q : RowT N 30 (stL ⟨(x, n, c), (none, 0, 0), nx, (kd : Int), id, (none, 0, 0)⟩), z = q.1) 7 (.takes [0, 1, 2] (.one 3 (.one 4 (.one 5 (.takes [6] .leaf))))) hmx (by kernel_rfl) (by intro c x v a w h; cases x <;> exact h) ⟨⟨wr.drew, KD.out⟩, rfl⟩ ?_
      repeat (rw [wpPlan_takes_cons]; simp only [nth_zero, nth_succ]; go_big_quiet_step (fail); refine wpQuiet_nil ?_)
      clear d0
      rw [wpPlan_takes_nil, wpPlan_one]
      simp only [nth_zero, nth_succ]
      go_wp2_with fail
      go_at_call 68
      refine HME.out.mono ?_
      rintro e y2 ⟨rfl, rfl⟩
      go_wp2_with fail
      refine planPost_mk ⟨⟨_, KD.out⟩, rfl⟩ ?_
      rw [wpPlan_one]
      simp only [nth_zero, nth_succ]
      go_wp2_with fail
      try rw [hX1]
      refine planPost_mk ⟨⟨X1, KX.out⟩, rfl⟩ ?_
      clear hX1
      rw [wpPlan_one]
      simp only [nth_zero, nth_succ]
      refine wpList_append_run (.tmp 37) (.tmp 40) 24 rfl rfl _ _ _ rfl rfl (HA.out _) ?_
      go_wp2_with fail
      refine planPost_mk ⟨⟨y', KY.out⟩, rfl⟩ ?_
      repeat (rw [wpPlan_takes_cons]; simp only [nth_zero, nth_succ]; go_big_quiet_step (fail); refine wpQuiet_nil ?_)
      rw [wpPlan_takes_nil, wpPlan_leaf]
      simp only [List.drop_succ_cons, List.drop_zero]
      go_wp2_with fail
      exact ⟨⟨k + 1, x', n', c', HLT.out, by simp, I2, O2⟩, by have := HLT.out; simp [intOf]; omega⟩
    · obtain rfl : k = Z := by omega
      have HD : Hid (dirtP g bs k = dirtP g bs g.slots) := by show _ = _; rw [HZ.out]
      rw [HD.out] at HI
      clear hlt HO
      go_wp2_with fail
      have HZ0 : Hid (bs.drop (10 + k) = bs.drop (g.at 0)) := by show _ = _; rw [g.at_zero, HZ.out]
      rw [HZ0.out] at HI
      have HCN : Hid ((bs[4]?.getD 0).toNat = ct) := by show _ = _; rw [HCT.out]; simp
      go_loopw [44] (fun iv wr => ∃ (j : Nat) (sx : Option Addr) (sn sc : Nat), j ≤ 8 ∧ iv = .int .i64 (j : Int) ∧ Hid (RdI B N N rb GL w ⟨(x, n, c), (sx, sn, sc), nx, (kd : Int), id, (none, 0, 0)⟩ (bs.drop (g.at j)) (dirtP g bs g.slots) (snK g bs j) wr)) (fun iv _ => 8 - (intOf iv).toNat)
      case atStart => exact ⟨0, none, 0, 0, Nat.zero_le _, rfl, by rw [snK_zero]; exact HI⟩
      case round =>
        clear HI
        obtain ⟨j, sx, sn, sc, hj, rfl, HI⟩ := hrel
        have hG := HI.out.g0
        rw [← HGL.out] at hG
        have c0 := hG.cell 0 _ rfl
        by_cases hlt : j < 8
        · have q1 : (j : Int) < 8 := by omega
          have HLT := Lib.hid hlt
          have c1 := hG.cell 1 _ rfl
          have c2 := hG.cell 2 _ rfl
          have c3 := hG.cell 3 _ rfl
          have c4 := hG.cell 4 _ rfl
          have hll := HLE.out j hlt
          have HRS : Hid (Calls Tryz.prog 69 #[.pointer (some ⟨rb, 0, none⟩), .agg #[.int .i64 (g.b : Int), .int .i64 (g.s : Int), .int .i64 (g.y : Int), .int .i64 (g.a : Int), .int .i64 r0]] wr fun e w' => ∃ q : SV, e = .returned (svV q) ∧ SnF wr.heap.size w' q (sSnapR g (seg bs (g.at j) g.step)) ∧ Rdr w' N rb (bs.drop (g.at (j + 1))) ∧ wr.grownBy w' (some rb)) := by
            have := sg_readSnap rb (bs.drop (g.at j)) wr g HGO.out r0 HI.out.rd (isB_drop HBY.out _) (by rw [List.length_drop]; unfold SG.step; omega) (by rw [List.length_drop]; have := HCAP.out; omega)
            rw [seg_drop, List.drop_drop, show g.at j + g.step = g.at (j + 1) by rw [g.at_succ]; rfl] at this
            exact this
          clear hG hlt hll
          go_wp2_with fail
          refine HRS.out.mono ?_
          rintro e y1 ⟨⟨i1, ⟨a1, n1, c1'⟩, ⟨a2, n2, c2'⟩⟩, rfl, hF, hr1, hg1⟩
          have I1 := HI.out.step hg1 hr1
          have ST := new_sn y1 (i1, (a1, n1, c1'), (a2, n2, c2'))
          obtain ⟨Y, hY⟩ : ∃ Y, y1.alloc (.cells (svL (i1, (a1, n1, c1'), (a2, n2, c2'))).toArray 55) = Y := ⟨_, rfl⟩
          have bY : Below y1.heap.size y1 Y := by rw [← hY]; exact below_new _ _
          have rY : RowC Y y1.heap.size 55 (svL (i1, (a1, n1, c1'), (a2, n2, c2'))) := by rw [← hY]; exact RowC.new y1 _ _
          rw [hY] at ST
          obtain ⟨C, hC⟩ : ∃ C, y1.heap.size = C := ⟨_, rfl⟩
          have I2 := Lib.hid (I1.below bY)
          have F2 : Hid (SnF (N + 1) Y (i1, (a1, n1, c1'), (a2, n2, c2')) (sSnapR g (seg bs (g.at j) g.step))) := (hF.weak (by have := HI.out.n4; omega)).below bY
          rw [hC] at ST rY
          have LD := load_snC rY
          simp only [svV, slV] at ST LD ⊢
          have RY := Lib.hid rY
          clear c0 c1 c2 c3 c4 HRS hF hr1 hg1 I1 bY rY hY HI
          by_cases hin : j < ct
          · have q2 : (j : Int) < (ct : Int) := by omega
            have HSK : Hid (snK g bs (j + 1) = snK g bs j ++ [sSnapR g (seg bs (g.at j) g.step)]) := snK_in g (by rw [HCN.out]; exact hin)
            have k1 := I2.out.ge.cell 1 _ rfl
            have S1 := slice_sn1 Y (i1, (a1, n1, c1'), (a2, n2, c2'))
            obtain ⟨v3, y3, hA, O3, hg3⟩ := sn_append I2.out.ss I2.out.n4 F2.out (by unfold snK; rw [List.length_map, List.length_range]; have := Nat.min_le_left j (bs[4]?.getD 0).toNat; omega)
            rw [← HSK.out] at O3
            obtain ⟨⟨s3x, s3n, s3c⟩, rfl⟩ : ∃ q : SlV, v3 = slV q := by obtain ⟨r, -, h, -⟩ := O3; obtain ⟨q, e, -⟩ := own_slV h; exact ⟨q, e⟩
            have hEg : RowC y3 N 30 (stL ⟨(x, n, c), (sx, sn, sc), nx, (kd : Int), id, (none, 0, 0)⟩) := I2.out.ge.grown hg3 (I2.out.ss.ne I2.out.ge (by decide))
            have hdn : InO (N + 1) y3 (slV (x, n, c)) (dirtP g bs g.slots) := by
              obtain ⟨r, -, h, -⟩ := I2.out.ss
              exact World.ownsRow.kept I2.out.dd hg3 (rows_ne I2.out.dd h (by decide))
            have f0 := hEg.frozen 1
            have e0 := hEg.cell 1 _ rfl
            have I3 : Hid (RdI B N N rb GL w ⟨(x, n, c), (s3x, s3n, s3c), nx, (kd : Int), id, (none, 0, 0)⟩ (bs.drop (g.at (j + 1))) (dirtP g bs g.slots) (snK g bs (j + 1)) (y3.setCell ⟨N, 1, none⟩ (slV (s3x, s3n, s3c)))) :=
              I2.out.put hg3 (fun j e => (I2.out.ss.base j e).1) 1 _ rfl (own_setB hdn hEg (by decide) 1 _) (O3.low (grownBy_setCellJ y3 N 1 _) (fun j e => by cases e; omega))
            obtain ⟨Y2, hY2⟩ : ∃ Z, Y.alloc (.cells (svL (i1, (a1, n1, c1'), (a2, n2, c2'))).toArray 55) = Z := ⟨_, rfl⟩
            rw [hY2] at hA S1
            have HA := Lib.hid hA
            have HS1 := Lib.hid S1
            simp only [svV, slV] at HA HS1 e0 I3 k1
            clear hA S1 hY2 O3 hg3 hEg hdn hin
            go_wp2_with (first | (with_reducible refine gate_build ?_; refine wpList_build_run 25 1 #[(0, .tmp 55)] rfl rfl [(0, .agg #[.int .i64 i1, .slice a1 n1 c1', .slice a2 n2 c2'])] _ rfl HS1.out ?_) | (at_builtin; refine wpList_append_run (.tmp 54) (.tmp 56) 25 rfl rfl _ _ _ rfl rfl (HA.out _) ?_))
            exact ⟨⟨j + 1, s3x, s3n, s3c, HLT.out, by simp, I3⟩, by have := HLT.out; simp [intOf]; omega⟩
          · have q2 : ¬ (j : Int) < (ct : Int) := by omega
            have q3 : decide (j < ct) = false := by simpa using hin
            have HSK : Hid (snK g bs (j + 1) = snK g bs j) := snK_out g (by rw [HCN.out]; omega)
            have I3 : Hid (RdI B N N rb GL w ⟨(x, n, c), (sx, sn, sc), nx, (kd : Int), id, (none, 0, 0)⟩ (bs.drop (g.at (j + 1))) (dirtP g bs g.slots) (snK g bs (j + 1)) Y) := by rw [HSK.out]; exact I2
            clear hin LD
            go_wp2_with fail
            exact ⟨⟨j + 1, sx, sn, sc, HLT.out, by simp, I3⟩, by have := HLT.out; simp [intOf]; omega⟩
        · obtain rfl : j = 8 := by omega
          have hlb : (bs.drop (g.at 8)).length = g.b := by rw [List.length_drop]; have := HEN.out; omega
          have HLB := Lib.hid hlb
          have HTK := Lib.hid (sg_taken rb (bs.drop (g.at 8)) g.b wr HI.out.rd (by rw [hlb]; exact Nat.le_refl _) (by rw [hlb]; omega))
          clear hG hlt hlb
          go_wp2_with fail
          refine HTK.out.mono ?_
          rintro e y1 ⟨qb, rfl, hob, hrb, hgb1⟩
          have I1 := Lib.hid (HI.out.step hgb1 hrb)
          have S1 : Hid (Sl .u8 y1 (.slice (some ⟨qb, 0, none⟩) g.b g.b) ((bs.drop (g.at 8)).take g.b)) := Sl.of_owns hob
          clear hob hrb hgb1 HTK c0 HI
          go_wp2_with fail
          go_at_call 71
          refine (sg_placed _ _ _ y1).mono ?_
          obtain ⟨y2, hy2⟩ : ∃ x, y1.alloc (.cells #[.slice (some ⟨qb, 0, none⟩) g.b g.b] 31) = x := ⟨_, rfl⟩
          rintro e y2' ⟨rfl, h2'⟩
          obtain rfl : y2' = y2 := h2'.trans hy2
          have b2 : Below y1.heap.size y1 y2' := by rw [← hy2]; exact below_new _ _
          have hP : PdB y1.heap.size (.slice (some ⟨qb, 0, none⟩) g.b g.b) ((bs.drop (g.at 8)).take g.b) y2' := ⟨by rw [← hy2]; exact (RowC.new y1 31 [.slice (some ⟨qb, 0, none⟩) g.b g.b]).cell 0 _ rfl, S1.out.below b2⟩
          have h2s : y1.heap.size < y2'.heap.size := by rw [← hy2]; simp
          have HCL := Lib.hid (sg_collect y1.heap.size h2s hP (isB_take (isB_drop HBY.out _) g.b) (by rw [List.length_take]; omega))
          have I2 := Lib.hid (I1.out.below b2)
          clear h2' hy2 b2 hP h2s I1 S1
          go_wp2_with fail
          go_at_call 70
          refine HCL.out.mono ?_
          rintro e y3 ⟨v3, rfl, ho3, hb3⟩
          obtain ⟨⟨pa, pn, pc⟩, rfl, -⟩ := own_slV ho3.1
          have J3 := I2.out.below hb3
          have P3 : PrO (N + 1) y3 (slV (pa, pn, pc)) (prFrom 0 (seg bs (g.at 8) g.b)) := ho3.weak I2.out.n4
          have f0 := J3.ge.frozen 5
          have e0 := J3.ge.cell 5 _ rfl
          have I3 : RdI B N N rb GL w ⟨(x, n, c), (sx, sn, sc), nx, (kd : Int), id, (pa, pn, pc)⟩ (bs.drop (g.at 8)|>.drop g.b) (dirtP g bs g.slots) (snK g bs 8) (y3.setCell ⟨N, 5, none⟩ (slV (pa, pn, pc))) := J3.set0 5 _ rfl rfl rfl
          have P4 : PrO (N + 1) (y3.setCell ⟨N, 5, none⟩ (slV (pa, pn, pc))) (slV (pa, pn, pc)) (prFrom 0 (seg bs (g.at 8) g.b)) := P3.low (grownBy_setCellJ y3 N 5 _) (fun j e => by cases e; omega)
          obtain ⟨Z4, hZ4⟩ : ∃ Z, y3.setCell ⟨N, 5, none⟩ (slV (pa, pn, pc)) = Z := ⟨_, rfl⟩
          rw [hZ4] at I3 P4
          obtain ⟨z, hST, hRz, hgz⟩ := store_stC ⟨(x, n, c), (sx, sn, sc), nx, (kd : Int), id, (pa, pn, pc)⟩ I3.g1 rfl
          have LS := load_stC I3.ge
          have HLD := Lib.hid (load_stC hRz)
          have n1 := I3.n1
          have n2 := I3.n2
          have n3 := I3.n3
          have n4 := I3.n4
          have FD : Hid (InO B z (slV (x, n, c)) (dirtP g bs g.slots)) := own_weak (I3.dd.low hgz (fun j e => by cases e; omega)) (by omega)
          have FS : Hid (SnO B z (slV (sx, sn, sc)) (snK g bs 8)) := by
            obtain ⟨r, h1, h2, h3⟩ := I3.ss.low hgz (fun j e => by cases e; omega)
            exact ⟨r, h1, own_weak h2 (by omega), fun j q s a b => (h3 j q s a b).weak (by omega)⟩
          have FP : Hid (PrO B z (slV (pa, pn, pc)) (prFrom 0 (seg bs (g.at 8) g.b))) := (P4.low hgz (fun j e => by cases e; omega)).weak (by omega)
          have FB : Hid (Below B w z) := I3.be.grown hgz (by omega) (fun j e => by cases e; omega)
          simp only [stV, stL, slV] at hST LS HLD e0 hZ4 ⊢
          clear J3 P3 I3 P4 hRz hgz n1 n2 n3 n4 ho3 hb3 HCL I2
          go_wp2_with fail
          refine bodyPost_ret (results_cell rfl rfl HLD.out) rfl ?_
          exact ⟨⟨(x, n, c), (sx, sn, sc), nx, (kd : Int), id, (pa, pn, pc)⟩, rfl, ⟨HNX.out, HKD.out.symm, HID.out, by rw [HSZ.out]; exact FD.out, by rw [HSZ.out]; exact FS.out, by rw [HSZ.out]; exact FP.out⟩, by rw [HSZ.out]; exact FB.out⟩
end Go.Proofs.YtajamblkjmafmaaGreat

/- The program's range function over the places of the blocks. -/
namespace Go.Proofs.YtajamblkjmafmaaGreat
open Go.RowKit Go.Shelf Go.Lib
set_option linter.unusedVariables false
set_option linter.unusedSimpArgs false
/-- Where a block stands: its place, or -1. -/
def plG (ps : List (Int × Int)) (k : Nat) : Int := match ps.find? (fun p => p.1 == (k : Int)) with
  | some p => p.2
  | none => -1
/-- So many pairs lie ahead of block k. -/
def Ahead (ps : List (Int × Int)) (k j : Nat) : Prop := j ≤ ps.length ∧ (∀ i p, i < j → ps[i]? = some p → p.1 < (k : Int)) ∧ (∀ i p, j ≤ i → ps[i]? = some p → (k : Int) ≤ p.1)
theorem ahead_zero {ps : List (Int × Int)} (h : ∀ p ∈ ps, 0 ≤ p.1) : Ahead ps 0 0 := ⟨Nat.zero_le _, fun i p hi => absurd hi (Nat.not_lt_zero _), fun i p _ hp => h p (List.mem_of_getElem? hp)⟩
theorem asc_lt {ps : List (Int × Int)} (ha : Asc ps) {i j : Nat} {p q : Int × Int} (hp : ps[i]? = some p) (hq : ps[j]? = some q) (h : i < j) : p.1 < q.1 := by
  obtain ⟨h1, rfl⟩ := List.getElem?_eq_some_iff.1 hp
  obtain ⟨h2, rfl⟩ := List.getElem?_eq_some_iff.1 hq
  exact List.pairwise_iff_getElem.1 ha i j h1 h2 h
theorem plG_hit {ps : List (Int × Int)} (ha : Asc ps) {k : Nat} {p : Int × Int} (hp : p ∈ ps) (e : p.1 = (k : Int)) : plG ps k = p.2 := by
  unfold plG
  cases h : ps.find? (fun p => p.1 == (k : Int)) with
  | none =>
    have := List.find?_eq_none.1 h p hp
    simp [e] at this
  | some q =>
    have hq := List.find?_some h
    have hm := List.mem_of_find?_eq_some h
    have e2 : q.1 = (k : Int) := by simpa using hq
    obtain ⟨i, hi⟩ := List.getElem?_of_mem hp
    obtain ⟨j, hj⟩ := List.getElem?_of_mem hm
    rcases Nat.lt_trichotomy i j with h1 | h1 | h1
    · have := asc_lt ha hi hj h1; omega
    · subst h1; rw [hi] at hj; cases hj; rfl
    · have := asc_lt ha hj hi h1; omega
theorem plG_miss {ps : List (Int × Int)} {k : Nat} (h : ∀ p ∈ ps, p.1 ≠ (k : Int)) : plG ps k = -1 := by
  unfold plG
  rw [List.find?_eq_none.2 (fun p hp => by simpa using h p hp)]
theorem ahead_hit {ps : List (Int × Int)} (ha : Asc ps) {k j : Nat} {p : Int × Int} (h : Ahead ps k j) (hp : ps[j]? = some p) (e : p.1 = (k : Int)) : Ahead ps (k + 1) (j + 1) ∧ plG ps k = p.2 := by
  obtain ⟨h1, h2, h3⟩ := h
  refine ⟨⟨(List.getElem?_eq_some_iff.1 hp).1, fun i q hi hq => ?_, fun i q hi hq => ?_⟩, plG_hit ha (List.mem_of_getElem? hp) e⟩
  · by_cases c : i = j
    · subst c; rw [hp] at hq; cases hq; omega
    · have := h2 i q (by omega) hq; omega
  · have := asc_lt ha hp hq (by omega); omega
theorem ahead_miss {ps : List (Int × Int)} (ha : Asc ps) {k j : Nat} (h : Ahead ps k j) (hn : ∀ p, ps[j]? = some p → p.1 ≠ (k : Int)) : Ahead ps (k + 1) j ∧ plG ps k = -1 := by
  obtain ⟨h1, h2, h3⟩ := h
  have key : ∀ i q, j ≤ i → ps[i]? = some q → ((k + 1 : Nat) : Int) ≤ q.1 := fun i q hi hq => by
    have a := h3 i q hi hq
    by_cases c : i = j
    · subst c; have := hn q hq; omega
    · have hil := (List.getElem?_eq_some_iff.1 hq).1
      have hj := List.getElem?_eq_getElem (l := ps) (i := j) (by omega)
      have b := h3 j _ (Nat.le_refl _) hj
      have := asc_lt ha hj hq (by omega)
      omega
  refine ⟨⟨h1, fun i q hi hq => by have := h2 i q hi hq; omega, key⟩, plG_miss fun p hp => ?_⟩
  obtain ⟨i, hi⟩ := List.getElem?_of_mem hp
  by_cases c : i < j
  · have := h2 i p c hi; omega
  · have := key i p (by omega) hi; omega
def plRow (ps : List (Int × Int)) (k : Nat) : List Int := (List.range k).map fun i => plV (plG ps i)
theorem plRow_succ (ps : List (Int × Int)) (k : Nat) : plRow ps (k + 1) = plRow ps k ++ [plV (plG ps k)] := by unfold plRow; rw [List.range_succ, List.map_append]; rfl
theorem plRow_len (ps : List (Int × Int)) (k : Nat) : (plRow ps k).length = k := by unfold plRow; simp
theorem plRow_all {b : Nat} {ps : List (Int × Int)} (ha : Asc ps) (hr : ∀ p ∈ ps, 0 ≤ p.1 ∧ p.1 < (b : Int)) : plRow ps b = sPlaces b ps := by
  apply List.ext_getElem?
  intro j
  by_cases hj : j < b
  · obtain ⟨c1, c2⟩ := places_get ha hr hj
    unfold plRow
    rw [List.getElem?_map, List.getElem?_range hj]
    show some (plV (plG ps j)) = _
    by_cases hq : ∃ q ∈ ps, q.1 = (j : Int)
    · obtain ⟨q, hq, e⟩ := hq
      rw [c1 q hq e, plG_hit ha hq e]
    · have hn : ∀ q ∈ ps, q.1 ≠ (j : Int) := fun q hq2 e => hq ⟨q, hq2, e⟩
      rw [c2 hn, plG_miss hn]
      rfl
  · rw [List.getElem?_eq_none (by rw [plRow_len]; omega), List.getElem?_eq_none (by rw [places_len]; omega)]
theorem plG_rng {b : Nat} {ps : List (Int × Int)} (h : PlOk b ps) (k : Nat) : -1 ≤ plG ps k ∧ plG ps k ≤ 255 ∧ plG ps k ≠ 254 := by
  unfold plG
  cases e : ps.find? (fun p => p.1 == (k : Int)) with
  | none => exact ⟨by decide, by decide, by decide⟩
  | some q =>
    have := h q (List.mem_of_find?_eq_some e)
    show -1 ≤ q.2 ∧ q.2 ≤ 255 ∧ q.2 ≠ 254
    omega

attribute [-simp] Tryz.isAgg57 Tryz.zeroValue57
attribute [local go_sem] Oper.semAt_some
/-- The item number k. -/
def encG (ps : List (Int × Int)) (k : Nat) : Array Value := #[.int .i64 (plG ps k)]
/-- What the boxes of the range function hold. -/
structure PlB (Bl Bb : Nat) (v : Value) (b : Int) (ps : List (Int × Int)) (W : World) : Prop where
  cl : W.cell? ⟨Bl, 0, none⟩ = some v
  cb : W.cell? ⟨Bb, 0, none⟩ = some (.int .i64 b)
  pr : Prt W v ps
set_option maxRecDepth 100000 in
set_option maxHeartbeats 1000000 in
theorem plc_in (F : Fence) (n : Nat) (hf : F.fn 62) (hro : F.round = none) (a : Option Addr) (len cap : Nat) (b : Int) (w : World) :
    CallsIn F n Tryz.prog 62 #[.slice a len cap, .int .i64 b] w fun e w' => e = .returned (.func (.func 100) #[] #[.pointer (some ⟨w.heap.size, 0, none⟩), .pointer (some ⟨w.heap.size + 1, 0, none⟩)]) ∧
      w' = (w.alloc (.cells #[.slice a len cap] 26)).alloc (.cells #[.int .i64 b] 3) := by
  refine callsIn_of_wp Tryz.func62 rfl hf ?_ hro
  simp only [Tryz.ntmps62, List.size_toArray, List.length_cons, List.length_nil, Nat.reduceAdd, Nat.reduceSub, Array.replicate_succ, Array.replicate_zero, List.push_toArray, List.append_toArray, List.nil_append, List.cons_append]
  gi_wp2
  go_ret
  exact ⟨rfl, rfl⟩

set_option maxRecDepth 100000 in
set_option maxHeartbeats 2000000 in
theorem plc1_seq (n : Nat) (hn : 1 ≤ n) (Bl Bb : Nat) (v : Value) (b : Nat) (hb : b ≤ 64) (ps : List (Int × Int)) (hp : ps.length ≤ 1000) (ha : Asc ps) (hps : ∀ p ∈ ps, 0 ≤ p.1) (w : World) :
    SeqNum Fence.wide n Tryz.prog 100 #[.pointer (some ⟨Bl, 0, none⟩), .pointer (some ⟨Bb, 0, none⟩)] (encG ps) (PlB Bl Bb v (b : Int) ps) b w := by
  intro lp J Jx W hW hJR hAB _ hY h0
  have HAB := Lib.hid hAB
  have hR0 := hJR 0 W h0
  have HJR := Lib.hid hJR
  have HY := Lib.hid hY
  obtain ⟨a, cap, rfl, hc1, hc2, -⟩ := id hR0.pr
  obtain ⟨len, hle⟩ : ∃ len, ps.length = len := ⟨_, rfl⟩
  rw [hle] at hc1 hp HJR
  have HL := Lib.hid hle
  have hcl := hR0.cl
  have hcb := hR0.cb
  rw [hle] at hcl
  have HA := Lib.hid ha
  have HP0 := Lib.hid (ahead_zero hps)
  have HCC : Hid (len ≤ cap ∧ cap ≤ maxLen) := ⟨hc1, hc2⟩
  have HRA : Hid (0 < len → ∃ bb off, a = some ⟨bb, off, none⟩) := fun h => by
    obtain ⟨bb, off, e, -⟩ := hR0.pr.at (k := 0) (List.getElem?_eq_getElem (by omega))
    exact ⟨bb, off, e⟩
  clear hR0 hY hJR hW hle ha hps hc1 hc2 hAB
  refine callsIn_of_wp Tryz.func100 rfl trivial ?_ rfl
  simp only [Tryz.ntmps100, List.size_toArray, List.length_cons, List.length_nil, Nat.reduceAdd, Nat.reduceSub, Array.replicate_succ, Array.replicate_zero, List.push_toArray, List.append_toArray, List.nil_append, List.cons_append]
  gi_wp2
  clear hcl hcb
  gi_loopw [4, 9] (fun rv iv wr => ∃ (k j : Nat) (ra : Option Addr), k ≤ b ∧ iv = .int .i64 (k : Int) ∧ rv = .slice ra (len - j) (cap - j) ∧ Hid (Ahead ps k j) ∧ Hid (j ≤ len) ∧ Hid (j < len → ∃ bb off, a = some ⟨bb, off, none⟩ ∧ ra = some ⟨bb, off + j * 2, none⟩) ∧ J k wr) (fun _ iv _ => b - (intOf iv).toNat)
  case atStart => exact ⟨0, 0, a, Nat.zero_le _, rfl, rfl, HP0, Nat.zero_le _, (fun h => by obtain ⟨bb, off, e⟩ := HRA.out h; exact ⟨bb, off, e, by rw [e, Nat.zero_mul, Nat.add_zero]⟩), h0⟩
  case round =>
    obtain ⟨k, j, ra, hk, rfl, rfl, HAh, HJL, HAd, hJs⟩ := hrel
    have HJ0 := Lib.hid hJs
    by_cases hkm : k < b
    · have g1 : (k : Int) < (b : Int) := by omega
      have HKM := Lib.hid hkm
      have hW1 : Hid (wrap64 ((k : Int) + 1) = (k : Int) + 1) := IntWalk.wrap64_in _ (by omega)
      have hy0 := HY.out k wr hkm hJs
      unfold encG at hy0
      obtain ⟨m, hm⟩ : ∃ m, len - j = m := ⟨_, rfl⟩
      obtain ⟨d, hd⟩ : ∃ d, cap - j = d := ⟨_, rfl⟩
      rw [hm, hd]
      have HM := Lib.hid hm
      have HD := Lib.hid hd
      have hdm : d ≤ maxLen := by have := HCC.out.2; omega
      have hmd : m ≤ d := by have := HCC.out.1; omega
      clear hm hd
      by_cases h0m : m = 0
      · subst h0m
        obtain ⟨hA2, hG⟩ := ahead_miss HA.out HAh.out (fun p hp => by
          have := (List.getElem?_eq_some_iff.1 hp).1
          have h1 := HM.out
          have h2 := HL.out
          omega)
        have HA2 := Lib.hid hA2
        rw [hG] at hy0
        obtain ⟨fn, tmps, assign, body, hy, hRR⟩ := hy0
        clear hA2 hG hkm hJs
        gi_wp2
        refine hRR.mono ?_
        rintro e W3 (⟨rfl, hJ3⟩ | ⟨rfl, hJx3⟩)
        · have HJ3 := Lib.hid hJ3
          clear hJ3
          gi_wp2
          go_roundw
          case rel => exact ⟨k + 1, j, ra, HKM.out, by simp, by rw [HM.out, HD.out], HA2, HJL, HAd, HJ3.out⟩
          case measure => have := HKM.out; simp [intOf]; omega
        · have HJ3 := Lib.hid hJx3
          clear hJx3
          gi_wp2
          refine bodyPost_ret (results_none rfl _ _ _) rfl ?_
          exact ⟨⟨_, rfl⟩, .inr ⟨k + 1, HKM.out, HJ3.out⟩⟩
      · have hjl : j < len := by have := HM.out; omega
        obtain ⟨bb, off, rfl, rfl⟩ := HAd.out hjl
        obtain ⟨p, hpj⟩ : ∃ p, ps[j]? = some p := ⟨_, List.getElem?_eq_getElem (by rw [HL.out]; exact hjl)⟩
        obtain ⟨bb', off', e', hbb, d1, d2⟩ := (HJR.out k wr hJs).pr.at hpj
        cases e'
        obtain ⟨x0, y0⟩ := p
        simp only at d1 d2
        have g3 : decide ((m : Int) > 0) = true := by simp; omega
        have g2 : (m : Int) > 0 := by omega
        have g6 : 0 < m := by omega
        have hP2 := HJR.out k wr hJs
        by_cases hx : x0 = (k : Int)
        · subst hx
          obtain ⟨hA2, hG⟩ := ahead_hit HA.out HAh.out hpj rfl
          have HA2 := Lib.hid hA2
          rw [hG] at hy0
          simp only at hy0
          have q1 : ∀ z : Ext wr, z.1.cell? ⟨bb, off + j * 2, none⟩ = some (.int .i64 (k : Int)) := fun z => (z.cell hbb).trans d1
          have q2 : ∀ z : Ext wr, z.1.cell? ⟨bb, off + j * 2 + 1, none⟩ = some (.int .i64 y0) := fun z => (z.cell hbb).trans d2
          have g4 : ((k : Int) == (k : Int)) = true := by simp
          have g5 : ¬ m = 0 := h0m
          have hm1 : 1 ≤ m := g6
          clear hA2 hkm hJs hpj hy0 HAd hjl hP2 h0m
          have HGG := Lib.hid hG
          clear hG
          gi_wp2
          refine wpIn_wide.2 ?_
          refine region_ext (by kernel_rfl) (by kernel_rfl) ?_
          repeat (go_big_quiet_step (fail))
          try (with_reducible refine wpQuiet_nil ?_)
          intro z
          obtain ⟨x, hzx⟩ : ∃ x, z.1 = x := ⟨_, rfl⟩
          have hbx : Below wr.heap.size wr x := by rw [← hzx]; exact z.2
          rw [hzx]
          have hJx : J k x := HAB.out k wr x none HJ0.out (grown_below hbx none) (fun r e => by cases e)
          have hy0 := HY.out k x HKM.out hJx
          unfold encG at hy0
          rw [HGG.out] at hy0
          obtain ⟨fn, tmps, assign, body, hy, hRR⟩ := hy0
          have hmd2 : m ≤ d := hmd
          clear hzx hbx hJx q1 q2
          gi_wp2
          all_goals (
            refine hRR.mono ?_
            rintro e W3 (⟨rfl, hJ3⟩ | ⟨rfl, hJx3⟩)
            · have HJ3 := Lib.hid hJ3
              clear hJ3
              gi_wp2
              go_roundw
              case rel => exact ⟨k + 1, j + 1, _, HKM.out, by simp, by first | (rw [show len - (j + 1) = m - 1 by have := HM.out; omega, show cap - (j + 1) = d - 1 by have := HD.out; omega]; done) | (rw [show len - (j + 1) = m - 1 by have := HM.out; omega, show cap - (j + 1) = 0 by have := HD.out; omega]; done), HA2, by have := HM.out; show j + 1 ≤ len; omega, (fun h => by first | (exfalso; have := HM.out; have := HD.out; omega) | exact ⟨bb, off, rfl, by simp only [Option.some.injEq, Addr.mk.injEq, and_true, true_and]; omega⟩), HJ3.out⟩
              case measure => have := HKM.out; simp [intOf]; omega
            · have HJ3 := Lib.hid hJx3
              clear hJx3
              gi_wp2
              refine bodyPost_ret (results_none rfl _ _ _) rfl ?_
              exact ⟨⟨_, rfl⟩, .inr ⟨k + 1, HKM.out, HJ3.out⟩⟩)
        · obtain ⟨hA2, hG⟩ := ahead_miss HA.out HAh.out (fun q hq => by rw [hpj] at hq; cases hq; exact hx)
          have HA2 := Lib.hid hA2
          rw [hG] at hy0
          obtain ⟨fn, tmps, assign, body, hy, hRR⟩ := hy0
          have g4 : (x0 == (k : Int)) = false := by simpa using hx
          have g5 : ¬ x0 = (k : Int) := hx
          clear hA2 hG hkm hJs hpj hx hjl hP2
          gi_wp2
          refine hRR.mono ?_
          rintro e W3 (⟨rfl, hJ3⟩ | ⟨rfl, hJx3⟩)
          · have HJ3 := Lib.hid hJ3
            clear hJ3
            gi_wp2
            go_roundw
            case rel => exact ⟨k + 1, j, _, HKM.out, by simp, by rw [HM.out, HD.out], HA2, HJL, HAd, HJ3.out⟩
            case measure => have := HKM.out; simp [intOf]; omega
          · have HJ3 := Lib.hid hJx3
            clear hJx3
            gi_wp2
            refine bodyPost_ret (results_none rfl _ _ _) rfl ?_
            exact ⟨⟨_, rfl⟩, .inr ⟨k + 1, HKM.out, HJ3.out⟩⟩
    · obtain rfl : k = b := by omega
      have g1 : ¬ (k : Int) < (k : Int) := by omega
      clear hJs hkm
      gi_wp2
      go_end0
      exact ⟨⟨_, rfl⟩, .inl HJ0.out⟩
end Go.Proofs.YtajamblkjmafmaaGreat

/- The program's state: the bytes of places. -/
namespace Go.Proofs.YtajamblkjmafmaaGreat
open Go.RowKit Go.Shelf Go.Lib
set_option linter.unusedVariables false
set_option linter.unusedSimpArgs false
theorem wpListIn_make_run {F : Fence} {n : Nat} {P : Program} {w w' : World} {ops : Array Oper} {rest : List Oper} {o : Oper} {a : Act} {Q : Exit → Act → World → Prop}
    (hg : o.guard = none) (l c : Operand) (t : TypeId) (hop : o.op = Op.makeSlice t l c) (vl vc v' : Value) (hl : a.eval l = vl) (hc : a.eval c = vc)
    (hrun : (Instr.makeSlice t vl vc).run P w = .ok v' w') (h : wpListIn F n P ops Q rest (a.put o.dst v') w') : wpListIn F n P ops Q (o :: rest) a w := by
  refine wpListIn_plain hg fun K hK' => ?_
  unfold Oper.wpIn
  refine ⟨?_, ?_⟩
  · simp [Oper.about, hop]
  · rw [Oper.semAt_plain F _ _ (by rw [hop]; intro c hc'; cases hc')]
    simp [execOp, hop, hl, hc, hrun, Result.andThen]
    exact hK' _ _ h
set_option maxRecDepth 100000 in
theorem room_u8 (c : Nat) (hc : c ≤ 1000) (w : World) : (Instr.makeSlice 31 (.int .i64 0) (.int .i64 (c : Int))).run Tryz.prog w = .ok (.slice (some ⟨w.heap.size, 0, none⟩) 0 c) (w.alloc (.cells (madeCells #[.int .u8 0] c) 5)) :=
  run_make_room 31 5 (.int .u8 0) 1 Tryz.underlying31 info_u8 rfl .i64 .i64 c (by omega) (by omega) w
attribute [local go_sem] Oper.semAt_some

set_option maxRecDepth 100000 in
set_option maxHeartbeats 4000000 in
/-- **codes**. -/
theorem sg_codes {w : World} {v : Value} {ps : List (Int × Int)} (h : Prt w v ps) (hp : ps.length ≤ 1000) (b : Nat) (hb : b ≤ 64) (ha : Asc ps) (hok : PlOk b ps) :
    Calls Tryz.prog 28 #[v, .int .i64 (b : Int)] w fun e w' => ∃ u, e = .returned u ∧ w'.ownsRow w.heap.size 5 1 u b ((sPlaces b ps).map (Value.int .u8)) ∧ Below w.heap.size w w' := by
  have hmx : Tryz.prog.follows .mixedOrders = true := by kernel_rfl
  have HPT := Lib.hid h
  obtain ⟨a, len, cap, rfl⟩ : ∃ a n c, v = .slice a n c := by obtain ⟨a, c, e, -⟩ := h; exact ⟨a, _, c, e⟩
  have HEND : Hid (plRow ps b = sPlaces b ps) := plRow_all ha (fun p hp => ⟨(hok p hp).1, (hok p hp).2.1⟩)
  have HRG := Lib.hid (plG_rng hok)
  have hps : ∀ p ∈ ps, 0 ≤ p.1 := fun p hp => (hok p hp).1
  obtain ⟨B, hB⟩ : ∃ B, w.heap.size = B := ⟨_, rfl⟩
  have HSZ := Lib.hid hB
  obtain ⟨X0, hX0⟩ : ∃ X, w.alloc (.cells (madeCells #[.int .u8 0] b) 5) = X := ⟨_, rfl⟩
  have RM := room_u8 b (by omega) w
  have o0 : OwnB w X0 (.slice (some ⟨B, 0, none⟩) 0 b) [] := by
    rw [← hX0, ← hB]
    exact World.ownsRow_made (base := w.heap.size) (e := 5) (size := 1) w _ b (Nat.le_refl _) (by unfold maxLen; omega) (by simp [madeCells])
  rw [hX0, hB] at RM
  have hX0s : X0.heap.size = B + 1 := by rw [← hX0, ← hB]; simp
  have hX0b : Below B w X0 := by rw [← hX0, ← hB]; exact below_new _ _
  obtain ⟨X, hX⟩ : ∃ X, X0.alloc (.cells #[.slice (some ⟨B, 0, none⟩) 0 b] 31) = X := ⟨_, rfl⟩
  have hXs : X.heap.size = B + 2 := by rw [← hX]; simp [hX0s]
  have bX0 : Below X0.heap.size X0 X := by rw [← hX]; exact below_new _ _
  have r1 : RowC X (B + 1) 31 [slV (some ⟨B, 0, none⟩, 0, b)] := by rw [← hX, ← hX0s]; exact RowC.new _ _ _
  obtain ⟨W0, hW0⟩ : ∃ W0, (X.alloc (.cells #[.slice a len cap] 26)).alloc (.cells #[.int .i64 (b : Int)] 3) = W0 := ⟨_, rfl⟩
  have hWs : W0.heap.size = B + 4 := by rw [← hW0]; simp [hXs]
  have bX : Below X.heap.size X W0 := by rw [← hW0]; exact ((Below.refl _ X).alloc (Nat.le_refl _) _).alloc (by simp) _
  have r2 : RowC W0 (B + 2) 26 [.slice a len cap] := by rw [← hW0, ← hXs]; exact (RowC.new X _ _).below (below_new _ _)
  have r3 : RowC W0 (B + 3) 3 [.int .i64 (b : Int)] := by
    rw [← hW0]
    have := RowC.new (X.alloc (.cells #[.slice a len cap] 26)) 3 [.int .i64 (b : Int)]
    rw [World.size_alloc, hXs] at this
    exact this
  have I0 : Hid (RowC W0 (B + 1) 31 [slV (some ⟨B, 0, none⟩, 0, b)] ∧ OwnB w W0 (slV (some ⟨B, 0, none⟩, 0, b)) (plRow ps 0) ∧ RowC W0 (B + 2) 26 [.slice a len cap] ∧ RowC W0 (B + 3) 3 [.int .i64 (b : Int)] ∧ Below B w W0) :=
    ⟨r1.below bX, (o0.below bX0).below bX, r2, r3, (hX0b.trans (bX0.mono (by omega))).trans (bX.mono (by omega))⟩
  have HW := Lib.hid hWs
  clear o0 hX0b bX0 r1 bX r2 r3 h
  refine (callsIn_wide (n := 3)).1 ?_
  refine callsIn_of_wp_marks Tryz.func28 rfl trivial ?_ rfl
  simp only [Tryz.ntmps28, List.size_toArray, List.length_cons, List.length_nil, Nat.reduceAdd, Nat.reduceSub, Array.replicate_succ, Array.replicate_zero, List.push_toArray, List.append_toArray, List.nil_append, List.cons_append]
  gi_wp2_with (first | (gi_at_make; refine wpListIn_make_run rfl _ _ 31 rfl _ _ _ rfl rfl RM ?_) | (refine ⟨trivial, ?_⟩; gi_at_call 62; refine (plc_in _ _ trivial rfl _ _ _ _ _).mono ?_; rintro e w' ⟨rfl, rfl⟩))
  try rw [hX]
  try rw [hW0]
  try rw [hXs]
  clear hX hW0 RM hX0 hX0s hXs
  have hseq := plc1_seq 2 (by omega) (B + 2) (B + 2 + 1) (.slice a len cap) b hb ps hp ha hps W0
  clear ha hps hok
  refine wpIn_rangeFunc_num (n := 3) rfl (by omega) (gf := 100) (lb := #[.pointer (some ⟨B + 2, 0, none⟩), .pointer (some ⟨B + 2 + 1, 0, none⟩)]) rfl trivial (enters_of Tryz.func100 (by kernel_rfl) rfl)
    hseq (Below.refl _ _) (fun _ => rfl)
    (fun k W => ∃ u : SlV, RowC W (B + 1) 31 [slV u] ∧ OwnB w W (slV u) (plRow ps k) ∧ RowC W (B + 2) 26 [.slice a len cap] ∧ RowC W (B + 3) 3 [.int .i64 (b : Int)] ∧ Below B w W)
    (fun c k W => False)
    ?hR ?hI (fun c s Y Z row h => h.elim) ⟨_, I0.out⟩
    (fun k a' W => a' = { tmps := #[.slice a len cap, .int .i64 (b : Int), undef, undef, .slice none 0 0, .pointer (some ⟨B + 1, 0, none⟩), .int .i64 (plG ps k), .int .i64 (b : Int), .slice (some ⟨B, 0, none⟩) 0 b, .slice a len cap, .int .i64 (b : Int), .func (.func 100) #[] #[.pointer (some ⟨B + 2, 0, none⟩), .pointer (some ⟨B + 2 + 1, 0, none⟩)], .int .i64 (plG ps k), undef, undef, undef, undef, undef, undef], defers := [] })
    ?hAx ?assign ?body ?done ?stop
  case hR =>
    rintro k W ⟨u, g1, g2, g3, g4, g5⟩
    exact ⟨g3.cell 0 _ rfl, g4.cell 0 _ rfl, HPT.out.below (by rw [HSZ.out]; exact g5)⟩
  case hI =>
    intro s Y Z row ⟨u, g1, g2, g3, g4, g5⟩ hg hr
    refine ⟨u, rowC_own g1 hg hr, row_own g2 hg hr, rowC_own g3 hg hr, rowC_own g4 hg hr, below_own g5 (by omega) hg (fun r e => ⟨by have := (hr r e).1; have := HW.out; have := HSZ.out; omega, (hr r e).2⟩)⟩
  case hAx =>
    rintro k a' _ Y Z row f hg hr
    exact f
  case assign =>
    rintro lp k W K hkm ⟨u, g⟩ hK
    have hK := hK _ _ (keepsFrom_below (Below.refl _ W)) ⟨u, g⟩ rfl
    unfold encG
    clear g
    gi_wp2
    exact hK
  case body =>
    rintro lp k a' W _ _ hkm ⟨u, g1, g2, g3, g4, g5⟩ rfl
    have G1 := Lib.hid g1
    have G2 := Lib.hid g2
    have G3 := Lib.hid g3
    have G4 := Lib.hid g4
    have G5 := Lib.hid g5
    have HST := Lib.hid (plRow_succ ps k)
    have HPL : Hid ((plRow ps k).length ≤ 64) := by show _ ≤ _; rw [plRow_len]; omega
    obtain ⟨x, hx⟩ : ∃ x, plG ps k = x := ⟨_, rfl⟩
    have hxr := HRG.out k
    rw [hx] at hxr HST ⊢
    obtain ⟨y, hy⟩ : ∃ y, plV x = y := ⟨_, rfl⟩
    have HCD := Lib.hid (sg_code x hxr.1 hxr.2.1 hxr.2.2 W.drew)
    rw [hy] at HST HCD
    have gd : Below W.heap.size W W.drew := (Below.refl _ W).drew
    obtain ⟨X1, hX1⟩ : ∃ X, W.drew.alloc (.cells #[.int .u8 y] 5) = X := ⟨_, rfl⟩
    have bX1 : Below W.drew.heap.size W.drew X1 := by rw [← hX1]; exact below_new _ _
    have gW : Below B w X1 := (g5.trans (gd.mono (by have := g5.size; omega))).trans (bX1.mono (by have := g5.size; have := gd.size; omega))
    have o1 : OwnB w X1 (slV u) (plRow ps k) := (g2.below gd).below bX1
    obtain ⟨q, x2, hA, hO, hB2, hg2⟩ := OwnB.appG (u := .slice (some ⟨W.drew.heap.size, 0, none⟩) 1 1) (bs := [y]) o1 (by rw [HSZ.out]; exact gW) (by rw [← hX1]; exact lit1_sl W.drew y) (by have := HPL.out; simp; omega)
    rw [← HST.out] at hO
    obtain ⟨⟨xx, nn, cc⟩, rfl, -⟩ := own_slV hO.out
    have KD : Hid (RowC W.drew (B + 1) 31 [slV u]) := g1.below gd
    have KX1 : Hid (RowC X1 (B + 1) 31 [slV u]) := (g1.below gd).below bX1
    have kx2 : RowC x2 (B + 1) 31 [slV u] := KX1.out.grown hg2 (row_ne o1 KX1.out (by decide))
    have KX2 := Lib.hid kx2
    have K3 : Hid (RowC x2 (B + 2) 26 [.slice a len cap]) := ((g3.below gd).below bX1).grown hg2 (row_ne o1 ((g3.below gd).below bX1) (by decide))
    have K4 : Hid (RowC x2 (B + 3) 3 [.int .i64 (b : Int)]) := ((g4.below gd).below bX1).grown hg2 (row_ne o1 ((g4.below gd).below bX1) (by decide))
    have HKF : Hid (KeepsFrom W0.heap.size W x2) := keepsFrom_trans (keepsFrom_below (gd.trans (bX1.mono gd.size))) (keepsFrom_row o1 hg2)
    have f0 := kx2.frozen 0
    have e0 := kx2.cell 0 _ rfl
    have d0 : ∀ z : RowT (B + 1) 31 [slV u], z.1.cell? ⟨B + 1, 0, none⟩ = some (slV u) := fun z => z.2.cell 0 _ rfl
    haveI : Nonempty (RowT (B + 1) 31 [slV u]) := ⟨⟨W.drew, KD.out⟩⟩
    have HN : Hid (W.drew.heap.size = W.drew.heap.size) := rfl
    clear g1 g2 g3 g4 g5 gd bX1 gW o1 hg2 kx2 hx hy hxr
    gi_wp2
    refine region_plan_round (fun x => ∃ z : RowT (B + 1) 31 [slV u], x = z.1) 5 (.takes [0, 1] (.one 2 (.one 3 (.one 4 .leaf)))) (letsOut_inBlock letsOut_num) (by kernel_rfl) hmx (by kernel_rfl) (by intro c x v a w h; exact (h : False).elim) ⟨⟨W.drew, KD.out⟩, rfl⟩ ?_
    repeat (rw [wpPlan_takes_cons]; simp only [nth_zero, nth_succ]; go_big_quiet_step (fail); refine wpQuiet_nil ?_)
    clear d0
    rw [wpPlan_takes_nil, wpPlan_one]
    simp only [nth_zero, nth_succ]
    go_wp2_with fail
    go_at_call 26
    refine HCD.out.mono ?_
    rintro e y2 ⟨rfl, rfl⟩
    go_wp2_with fail
    refine planPost_mk ⟨⟨_, KD.out⟩, rfl⟩ ?_
    rw [wpPlan_one]
    simp only [nth_zero, nth_succ]
    go_wp2_with fail
    try rw [hX1]
    refine planPost_mk ⟨⟨X1, KX1.out⟩, rfl⟩ ?_
    clear hX1
    rw [wpPlan_one]
    simp only [nth_zero, nth_succ]
    refine wpList_append_run (.tmp 13) (.tmp 16) 31 rfl rfl _ _ _ rfl rfl (hA.out) ?_
    go_wp2_with fail
    refine planPost_mk ⟨⟨x2, KX2.out⟩, rfl⟩ ?_
    rw [wpPlan_leaf]
    simp only [List.drop_succ_cons, List.drop_zero]
    simp only [slV] at e0 ⊢
    go_wp2_with fail
    exact ⟨keepsFrom_trans HKF.out (keepsFrom_cells KX2.out (grownBy_setCellJ x2 (B + 1) 0 _)), (xx, nn, cc), KX2.out.set 0 _, own_setB hO.out KX2.out (by decide) 0 _, set_other K3.out (by omega) 0 _, set_other K4.out (by omega) 0 _, set_below (by have := hB2.out; rw [HSZ.out] at this; exact this) (by omega) 0 _⟩
  case done =>
    rintro D W hD ⟨u, g1, g2, g3, g4, g5⟩ hK
    have d3 := g1.cell 0 _ rfl
    have G2 := Lib.hid g2
    have G5 := Lib.hid g5
    have HK := Lib.hid hK
    clear g1 g2 g3 g4 g5 hK
    gi_wp2
    refine ⟨by simp, .inl ⟨_, _, rfl, run_takeDeferred HK.out, ?_⟩⟩
    have hg2 := grownBy_putObj' W D (.deferred none)
    refine ⟨_, results_tmp rfl _ _ _, _, rfl, ?_, ?_⟩
    · have := row_own (M := 0) G2.out hg2 (fun r e => by cases e; exact ⟨Nat.zero_le _, _, HK.out, rfl⟩)
      rw [HEND.out, places_len] at this
      exact this
    · rw [HSZ.out]
      exact G5.out.trans (belowK_b (w := w) (by omega) W D _ _ (by have := HW.out; have := HSZ.out; omega) HK.out rfl rfl)
  case stop =>
    rintro D c k W hD _ h hK
    exact h.elim
end Go.Proofs.YtajamblkjmafmaaGreat

/- The program's state: the next number, pairs that rise, what is held. -/
namespace Go.Proofs.YtajamblkjmafmaaGreat
open Go.RowKit Go.Shelf Go.Lib
set_option linter.unusedVariables false
set_option linter.unusedSimpArgs false
attribute [-simp] Tryz.isAgg55 Tryz.zeroValue55 Tryz.isAgg57 Tryz.zeroValue57 Tryz.isAgg30 Tryz.zeroValue30
attribute [-go_sem] loadVar storeVar
attribute [local go_sem] loadVar_openQ storeVar_openQ zero_sn zero_prs zero_st

set_option maxRecDepth 100000 in
set_option maxHeartbeats 4000000 in
/-- **goodNext**. -/
theorem sg_next {w : World} {q : PS} {l : List SN} (h : Snp w (slV q.sn) l) (hK : l.length ≤ 1000) :
    Calls Tryz.prog 43 #[stV q] w fun e w' => e = .returned (.bool (l.all (fun t => decide (t.id < q.nx)) && decide (1 ≤ q.nx ∧ q.nx ≤ 1000001))) ∧ Below w.heap.size w w' := by
  obtain ⟨⟨qd, qdn, qdc⟩, ⟨qs, qsn, qsc⟩, nx, kd, id, ⟨qp, qpn, qpc⟩⟩ := q
  obtain ⟨r, h⟩ := h
  have HS0 := Lib.hid h
  obtain ⟨a, cap, e, h1, h2, -⟩ := h
  simp only [slV] at e
  cases e
  obtain ⟨len, hle⟩ : ∃ len, l.length = len := ⟨_, rfl⟩
  simp only [stV, stL, slV] at *
  rw [hle] at HS0 h1 hK ⊢
  have HL := Lib.hid hle
  obtain ⟨B, hB⟩ : ∃ B, w.heap.size = B := ⟨_, rfl⟩
  obtain ⟨W, hW⟩ : ∃ W, w.alloc (.cells #[.slice qd qdn qdc, .slice qs len qsc, .int .i64 nx, .int .i64 kd, .int .i64 id, .slice qp qpn qpc] 30) = W := ⟨_, rfl⟩
  have r1 : RowC W B 30 (stL ⟨(qd, qdn, qdc), (qs, len, qsc), nx, kd, id, (qp, qpn, qpc)⟩) := by rw [← hW, ← hB]; exact RowC.new _ _ _
  have b1 : Below B w W := by rw [← hW, ← hB]; exact below_new _ _
  have HB := Lib.hid b1
  have HSZ := Lib.hid hB
  have HWB : Hid (B ≤ W.heap.size) := by show B ≤ W.heap.size; have := b1.size; omega
  have KR : Hid (∀ x : World, Below W.heap.size W x → x.cell? ⟨B, 1, none⟩ = some (.slice qs len qsc) ∧ x.cell? ⟨B, 2, none⟩ = some (.int .i64 nx)) := fun x hx => ⟨(r1.below hx).cell 1 _ rfl, (r1.below hx).cell 2 _ rfl⟩
  have KS : Hid (∀ x : World, Below W.heap.size W x → SnR x (.slice qs len qsc) r l) := fun x hx => HS0.out.below (by rw [hB]; exact b1.trans (hx.mono HWB.out))
  obtain ⟨k1, -⟩ := KR.out W (Below.refl _ _)
  clear r1 b1 h1 h2 hle HS0
  go_enter Tryz.func43, Tryz.ntmps43
  go_wp2_with fail
  go_loopw [8] (fun iv wr => ∃ k : Nat, k ≤ len ∧ iv = .int .i64 (k : Int) ∧ Hid (∀ t ∈ l.take k, t.id < nx) ∧ Hid (Below W.heap.size W wr)) (fun iv _ => len - (intOf iv).toNat)
  case atStart => exact ⟨0, Nat.zero_le _, rfl, (fun t ht => by cases ht), Below.refl _ _⟩
  case round =>
    clear k1
    obtain ⟨k, hk, rfl, HP, HBw⟩ := hrel
    by_cases hlt : k < len
    · have q1 : (k : Int) < (len : Int) := by omega
      have HLT := Lib.hid hlt
      obtain ⟨s, hs⟩ : ∃ s, l[k]? = some s := ⟨_, List.getElem?_eq_getElem (by rw [HL.out]; exact hlt)⟩
      have HTK := Lib.hid (take_at hs)
      have HMm := Lib.hid (List.mem_of_getElem? hs)
      obtain ⟨bb, off, ⟨i0, ⟨x1, n1, c1⟩, ⟨x2, n2, c2⟩⟩, rfl, hbb, hrk, hsn, d0, d1, d2⟩ := (KS.out _ HBw.out).at hs
      have HID : Hid (i0 = s.id) := hsn.id
      have LD := load_sn d0 d1 d2
      have ST := new_sn wr (i0, (x1, n1, c1), (x2, n2, c2))
      obtain ⟨W2, hW2⟩ : ∃ W2, wr.alloc (.cells (svL (i0, (x1, n1, c1), (x2, n2, c2))).toArray 55) = W2 := ⟨_, rfl⟩
      have bW2 : Below wr.heap.size wr W2 := by rw [← hW2]; exact below_new wr _
      have e0 : W2.cell? ⟨wr.heap.size, 0, none⟩ = some (.int .i64 i0) := by rw [← hW2]; exact (RowC.new wr 55 (svL (i0, (x1, n1, c1), (x2, n2, c2)))).cell 0 _ rfl
      have HB2 : Hid (Below W.heap.size W W2) := HBw.out.trans (bW2.mono HBw.out.size)
      obtain ⟨-, e2⟩ := KR.out W2 HB2.out
      rw [hW2] at ST
      obtain ⟨N, hN⟩ : ∃ N, wr.heap.size = N := ⟨_, rfl⟩
      rw [hN] at ST e0
      simp only [svV, slV] at LD ST
      clear hs hbb hrk hsn d0 d1 d2 bW2 hW2 hlt
      by_cases hc : nx ≤ i0
      · have g0 : decide (nx ≤ i0) = true := by simpa using hc
        have HE : Hid ((l.all (fun t => decide (t.id < nx)) && decide (1 ≤ nx ∧ nx ≤ 1000001)) = false) := by
          show _ = _
          have : l.all (fun t => decide (t.id < nx)) = false := by
            rw [List.all_eq_false]
            exact ⟨s, HMm.out, by rw [← HID.out]; simp; omega⟩
          rw [this]; rfl
        clear hc
        go_wp2_with fail
        go_ret
        rw [HE.out]
        exact ⟨rfl, by rw [HSZ.out]; exact HB.out.trans (HB2.out.mono HWB.out)⟩
      · have g0 : decide (nx ≤ i0) = false := by simpa using hc
        have HQ : Hid (∀ t ∈ l.take (k + 1), t.id < nx) := fun t ht => by
          rw [HTK.out] at ht
          rcases List.mem_append.1 ht with ht | ht
          · exact HP.out t ht
          · rw [List.mem_singleton.1 ht, ← HID.out]; omega
        clear hc
        go_wp2_with fail
        exact ⟨⟨k + 1, HLT.out, by simp, HQ, HB2⟩, by have := HLT.out; simp [intOf]; omega⟩
    · obtain rfl : k = len := by omega
      have HE : Hid ((l.all (fun t => decide (t.id < nx)) && decide (1 ≤ nx ∧ nx ≤ 1000001)) = decide (1 ≤ nx ∧ nx ≤ 1000001)) := by
        show _ = _
        have : l.all (fun t => decide (t.id < nx)) = true := by
          rw [List.all_eq_true]
          intro t ht
          have h := HP.out t (by rw [List.take_of_length_le (by rw [HL.out]; exact Nat.le_refl _)]; exact ht)
          simpa using h
        rw [this]; rfl
      obtain ⟨-, e2⟩ := KR.out wr HBw.out
      have HWI := Lib.hid (sg_within nx 1 1000001 wr)
      obtain ⟨tv, htv⟩ : ∃ tv, decide (1 ≤ nx ∧ nx ≤ 1000001) = tv := ⟨_, rfl⟩
      have HE2 : Hid ((l.all (fun t => decide (t.id < nx)) && decide (1 ≤ nx ∧ nx ≤ 1000001)) = tv) := by show _ = _; rw [HE.out, htv]
      rw [htv] at HWI
      clear hlt htv HE
      go_wp2_with fail
      refine HWI.out.mono ?_
      rintro e y ⟨rfl, rfl⟩
      go_wp2_with fail
      go_ret
      rw [HE2.out]
      exact ⟨rfl, by rw [HSZ.out]; exact HB.out.trans (HBw.out.mono HWB.out)⟩

set_option maxRecDepth 100000 in
set_option maxHeartbeats 4000000 in
/-- **rising**. -/
theorem sg_rising {w : World} {v : Value} {ps : List (Int × Int)} (h : Prt w v ps) (hp : ps.length ≤ 1000) (b : Nat) (hb1 : 1 ≤ b) (hb2 : b ≤ 64) :
    Calls Tryz.prog 85 #[v, .int .i64 (b : Int)] w fun e w' => e = .returned (.bool (gRise b ps)) ∧ Below w.heap.size w w' := by
  have HPT := Lib.hid h
  obtain ⟨a, cap, rfl, h1, h2, -⟩ := h
  obtain ⟨len, hle⟩ : ∃ len, ps.length = len := ⟨_, rfl⟩
  rw [hle] at HPT h1 hp ⊢
  have HL := Lib.hid hle
  have HIS := Lib.hid HPT.out.is
  clear h1 h2 hle
  go_enter Tryz.func85, Tryz.ntmps85
  go_wp2_with fail
  go_loopw [5, 10] (fun lv iv wr => ∃ k : Nat, k ≤ len ∧ iv = .int .i64 (k : Int) ∧ lv = .int .i64 (leastK ps k) ∧ Hid (∀ i, i < k → riseAt b ps i = true) ∧ Hid (Below w.heap.size w wr)) (fun _ iv _ => len - (intOf iv).toNat)
  case atStart => exact ⟨0, Nat.zero_le _, rfl, rfl, (fun t ht => absurd ht (Nat.not_lt_zero _)), Below.refl _ _⟩
  case round =>
    obtain ⟨k, hk, rfl, rfl, HP, HBw⟩ := hrel
    by_cases hlt : k < len
    · have q1 : (k : Int) < (len : Int) := by omega
      have HLT := Lib.hid hlt
      obtain ⟨p, hs⟩ : ∃ s, ps[k]? = some s := ⟨_, List.getElem?_eq_getElem (by rw [HL.out]; exact hlt)⟩
      have HRT := Lib.hid (rise_test hs HP.out)
      have HLS := Lib.hid (least_succ hs)
      obtain ⟨bb, off, rfl, hbb, d1, d2⟩ := (HPT.out.below HBw.out).at hs
      obtain ⟨x0, y0⟩ := p
      simp only at d1 d2
      have LD := load_prs d1 d2
      have ST := new_prs wr x0 y0
      obtain ⟨W2, hW2⟩ : ∃ W2, wr.alloc (.cells #[.int .i64 x0, .int .i64 y0] 57) = W2 := ⟨_, rfl⟩
      rw [hW2] at ST
      have bW2 : Below wr.heap.size wr W2 := by rw [← hW2]; exact below_new wr _
      have e1 : W2.cell? ⟨wr.heap.size, 0, none⟩ = some (.int .i64 x0) := by rw [← hW2]; exact (RowC.new wr 57 [.int .i64 x0, .int .i64 y0]).cell 0 _ rfl
      have HB2 : Hid (Below w.heap.size w W2) := HBw.out.trans (bW2.mono HBw.out.size)
      obtain ⟨N, hN⟩ : ∃ N, wr.heap.size = N := ⟨_, rfl⟩
      rw [hN] at ST e1
      obtain ⟨le, hle⟩ : ∃ le, leastK ps k = le := ⟨_, rfl⟩
      rw [hle] at HRT ⊢
      simp only at HRT HLS
      obtain ⟨tv, htv⟩ : ∃ tv, decide (le ≤ x0 ∧ x0 ≤ (b : Int) - 1) = tv := ⟨_, rfl⟩
      have HWI := Lib.hid (sg_within x0 le ((b : Int) - 1) W2)
      have HX0 := Lib.hid (HIS.out _ (List.mem_of_getElem? hs))
      rw [htv] at HRT HWI
      clear hs hbb d1 d2 bW2 hW2 hlt hle
      cases tv with
      | false =>
        have HE : Hid (gRise b ps = false) := rise_no (by rw [HL.out]; exact HLT.out) HRT.out
        clear htv
        go_wp2_with fail
        refine HWI.out.mono ?_
        rintro e y ⟨rfl, rfl⟩
        go_wp2_with fail
        go_ret
        rw [HE.out]
        exact ⟨rfl, HB2.out⟩
      | true =>
        have hx0 : x0 ≤ (b : Int) - 1 := (of_decide_eq_true htv).2
        have hx1 : -9223372036854775808 ≤ x0 := HX0.out.1.1
        have HQ : Hid (∀ i, i < k + 1 → riseAt b ps i = true) := fun i hi => by
          by_cases e : i = k
          · subst e; exact HRT.out
          · exact HP.out i (by omega)
        clear htv
        go_wp2_with fail
        refine HWI.out.mono ?_
        rintro e y ⟨rfl, rfl⟩
        go_wp2_with fail
        exact ⟨⟨k + 1, HLT.out, by simp, by rw [HLS.out], HQ, HB2⟩, by have := HLT.out; simp [intOf]; omega⟩
    · obtain rfl : k = len := by omega
      have HE : Hid (gRise b ps = true) := rise_yes fun i hi => HP.out i (by rw [HL.out] at hi; exact hi)
      clear hlt
      go_wp2_with fail
      go_ret
      rw [HE.out]
      exact ⟨rfl, HBw.out⟩

set_option maxRecDepth 100000 in
set_option maxHeartbeats 4000000 in
/-- **complete**. -/
theorem sg_complete {w : World} {v : Value} {l : List SN} (h : Snp w v l) (hK : Lens 1000 l) :
    Calls Tryz.prog 88 #[v] w fun e w' => e = .returned (.bool (gFull l)) ∧ Below w.heap.size w w' := by
  have hmx : Tryz.prog.follows .mixedOrders = true := by kernel_rfl
  obtain ⟨r, h⟩ := h
  have HS0 := Lib.hid h
  obtain ⟨a, cap, rfl, h1, h2, -⟩ := h
  obtain ⟨len, hle⟩ : ∃ len, l.length = len := ⟨_, rfl⟩
  have hk := hK.1
  rw [hle] at HS0 h1 hk ⊢
  by_cases h0 : len = 0
  · subst h0
    have : l = [] := List.length_eq_zero_iff.1 hle
    subst this
    clear hle HS0 hK h1
    go_enter Tryz.func88, Tryz.ntmps88
    go_wp2_with fail
    go_ret
    exact ⟨rfl, Below.refl _ _⟩
  · have hlt : len - 1 < l.length := by omega
    obtain ⟨s, hs⟩ : ∃ s, l[len - 1]? = some s := ⟨_, List.getElem?_eq_getElem hlt⟩
    have hks := hK.2 s (List.mem_of_getElem? hs)
    have HGF : Hid (gFull l = fullS s) := by
      show _ = _
      have e : l.getLast? = some s := by rw [List.getLast?_eq_getElem?, hle]; exact hs
      unfold gFull
      rw [e]
    obtain ⟨m, hm⟩ : ∃ m, len - 1 = m := ⟨_, rfl⟩
    obtain rfl : len = m + 1 := by omega
    rw [hm] at hs
    obtain ⟨bb, off, ⟨i0, ⟨x1, n1, c1⟩, ⟨x2, n2, c2⟩⟩, rfl, hbb, hrk, hsn, d0, d1, d2⟩ := HS0.out.at hs
    obtain rfl : n2 = s.tb.length := by obtain ⟨a, ca, e, -⟩ := hsn.tb; simp only [slV, Value.slice.injEq] at e; omega
    obtain ⟨tl, htl⟩ : ∃ tl, s.tb.length = tl := ⟨_, rfl⟩
    rw [htl] at d0 d1 d2 hks hsn
    have LD := load_sn d0 d1 d2
    have ST := new_sn w (i0, (x1, n1, c1), (x2, tl, c2))
    obtain ⟨W, hW⟩ : ∃ W, w.alloc (.cells (svL (i0, (x1, n1, c1), (x2, tl, c2))).toArray 55) = W := ⟨_, rfl⟩
    have bW : Below w.heap.size w W := by rw [← hW]; exact below_new w _
    have r1 : RowC W w.heap.size 55 [.int .i64 i0, .slice x1 n1 c1, .slice x2 tl c2] := by rw [← hW]; exact RowC.new w _ _
    rw [hW] at ST
    have HC : Hid (∀ z : Ext W, Calls Tryz.prog 112 #[.slice x1 n1 c1] z.1 fun e w' => e = .returned (.int .i64 ((allB s.ch).length : Int)) ∧ ∃ y : Ext W, w' = y.1) := fun z =>
      calls_ext z (bi_count _ s.ch z.1 ((hsn.ch.below bW).below z.2) hsn.ok.ch (by omega))
    obtain ⟨N, hN⟩ : ∃ N, w.heap.size = N := ⟨_, rfl⟩
    have HBW : Hid (Below N w W) := by show Below _ _ _; rw [← hN]; exact bW
    rw [hN] at ST r1
    have cc1 : ∀ z : Ext W, z.1.cell? ⟨N, 1, none⟩ = some (.slice x1 n1 c1) := fun z => (r1.below z.2).cell 1 _ rfl
    have cc2 : ∀ z : Ext W, z.1.cell? ⟨N, 2, none⟩ = some (.slice x2 tl c2) := fun z => (r1.below z.2).cell 2 _ rfl
    have HNW : Hid (N ≤ W.heap.size) := by show N ≤ _; have := HBW.out.size; omega
    obtain ⟨cn, hcn⟩ : ∃ cn, (allB s.ch).length = cn := ⟨_, rfl⟩
    have HFS : Hid (fullS s = ((cn : Int) == (tl : Int))) := by
      show _ = _
      unfold fullS
      rw [hcn, htl, Bool.eq_iff_iff]
      simp
      omega
    rw [hcn] at HC
    simp only [svV, slV] at LD ST
    have HSZ := Lib.hid hN
    have g0 : ¬ ((m + 1 : Nat) : Int) = 0 := by omega
    have g1 : (((m + 1 : Nat) : Int) == 0) = false := by simp; omega
    have g2 : ((m + 1 : Nat) : Int) - 1 = (m : Int) := by omega
    clear hs hm hle h0 hlt hbb hrk d0 d1 d2 bW hW hsn htl hcn hks hK HS0
    go_enter Tryz.func88, Tryz.ntmps88
    go_wp2_with fail
    refine region_ext (by kernel_rfl) (by kernel_rfl) ?_
    repeat (go_big_quiet_step (with_reducible (first | exact HC.out _)))
    try (with_reducible refine wpQuiet_nil ?_)
    intro y
    have HYB : Hid (Below N w y.1) := HBW.out.trans (y.2.mono HNW.out)
    clear cc1 cc2 LD ST
    go_wp2_with fail
    go_ret
    rw [HGF.out, HFS.out]
    exact ⟨rfl, by rw [HSZ.out]; exact HYB.out⟩
end Go.Proofs.YtajamblkjmafmaaGreat

/- The program's state: what is held, and whether pairs are held, or apart. -/
namespace Go.Proofs.YtajamblkjmafmaaGreat
open Go.RowKit Go.Shelf Go.Lib
set_option linter.unusedVariables false
set_option linter.unusedSimpArgs false
attribute [-simp] Tryz.isAgg55 Tryz.zeroValue55 Tryz.isAgg57 Tryz.zeroValue57 Tryz.isAgg30 Tryz.zeroValue30
attribute [-go_sem] loadVar storeVar
attribute [local go_sem] loadVar_openQ storeVar_openQ zero_sn zero_prs zero_st
theorem sizeB_le200 {g : SG} (hg : g.Ok) : sizeB (g.a : Int) ≤ 25 := by
  have := hg.a200
  unfold sizeB
  split <;> omega

set_option maxRecDepth 100000 in
set_option maxHeartbeats 4000000 in
/-- **allHeld**. -/
theorem sg_allHeld {w : World} {v u : Value} {ps : List (Int × Int)} {bs : List Int} (h : Prt w v ps) (hp : ps.length ≤ 1000) (hu : Sl .u8 w u bs) (hb : IsBytes bs) :
    Calls Tryz.prog 86 #[v, u] w fun e w' => e = .returned (.bool (gHeld bs ps)) ∧ Below w.heap.size w w' := by
  have HPT := Lib.hid h
  have HU := Lib.hid hu
  have HBB := Lib.hid hb
  obtain ⟨a, cap, rfl, h1, h2, -⟩ := h
  obtain ⟨len, hle⟩ : ∃ len, ps.length = len := ⟨_, rfl⟩
  rw [hle] at HPT h1 hp ⊢
  have HL := Lib.hid hle
  have HIS := Lib.hid HPT.out.is
  clear h1 h2 hle hu hb
  go_enter Tryz.func86, Tryz.ntmps86
  go_wp2_with fail
  go_loopw [9] (fun iv wr => ∃ k : Nat, k ≤ len ∧ iv = .int .i64 (k : Int) ∧ Hid (∀ p ∈ ps.take k, hasB bs p.2 = true) ∧ Hid (Below w.heap.size w wr)) (fun iv _ => len - (intOf iv).toNat)
  case atStart => exact ⟨0, Nat.zero_le _, rfl, (fun t ht => by cases ht), Below.refl _ _⟩
  case round =>
    obtain ⟨k, hk, rfl, HP, HBw⟩ := hrel
    by_cases hlt : k < len
    · have q1 : (k : Int) < (len : Int) := by omega
      have HLT := Lib.hid hlt
      obtain ⟨p, hs⟩ : ∃ s, ps[k]? = some s := ⟨_, List.getElem?_eq_getElem (by rw [HL.out]; exact hlt)⟩
      have HTK := Lib.hid (take_at hs)
      have HMm := Lib.hid (List.mem_of_getElem? hs)
      obtain ⟨bb, off, rfl, hbb, d1, d2⟩ := (HPT.out.below HBw.out).at hs
      obtain ⟨x0, y0⟩ := p
      simp only at d1 d2
      have LD := load_prs d1 d2
      have ST := new_prs wr x0 y0
      obtain ⟨W2, hW2⟩ : ∃ W2, wr.alloc (.cells #[.int .i64 x0, .int .i64 y0] 57) = W2 := ⟨_, rfl⟩
      rw [hW2] at ST
      have bW2 : Below wr.heap.size wr W2 := by rw [← hW2]; exact below_new wr _
      have e1 : W2.cell? ⟨wr.heap.size, 1, none⟩ = some (.int .i64 y0) := by rw [← hW2]; exact (RowC.new wr 57 [.int .i64 x0, .int .i64 y0]).cell 1 _ rfl
      have HB2 : Hid (Below w.heap.size w W2) := HBw.out.trans (bW2.mono HBw.out.size)
      obtain ⟨N, hN⟩ : ∃ N, wr.heap.size = N := ⟨_, rfl⟩
      rw [hN] at ST e1
      have HX0 := Lib.hid (HIS.out _ HMm.out)
      obtain ⟨tv, htv⟩ : ∃ tv, hasB bs y0 = tv := ⟨_, rfl⟩
      have HHS : Hid (Calls Tryz.prog 77 #[u, .int .i64 y0] W2 fun e w' => e = .returned (.bool tv) ∧ Below W2.heap.size W2 w') := by
        have := bi_has u bs y0 (wf_i64 HX0.out.2.1 HX0.out.2.2) W2 (HU.out.below HB2.out) HBB.out
        rw [htv] at this
        exact this
      clear hs hbb d1 d2 bW2 hW2 hlt
      cases tv with
      | false =>
        have HE : Hid (gHeld bs ps = false) := by
          show _ = _
          unfold gHeld
          rw [List.all_eq_false]
          exact ⟨_, HMm.out, by simp [htv]⟩
        clear htv
        go_wp2_with fail
        refine HHS.out.mono ?_
        rintro e y ⟨rfl, hy⟩
        have HB3 : Hid (Below w.heap.size w y) := HB2.out.trans (hy.mono HB2.out.size)
        clear hy
        go_wp2_with fail
        go_ret
        rw [HE.out]
        exact ⟨rfl, HB3.out⟩
      | true =>
        have HQ : Hid (∀ p ∈ ps.take (k + 1), hasB bs p.2 = true) := fun p hp => by
          rw [HTK.out] at hp
          rcases List.mem_append.1 hp with hp | hp
          · exact HP.out p hp
          · rw [List.mem_singleton.1 hp]; exact htv
        clear htv
        go_wp2_with fail
        refine HHS.out.mono ?_
        rintro e y ⟨rfl, hy⟩
        have HB3 : Hid (Below w.heap.size w y) := HB2.out.trans (hy.mono HB2.out.size)
        clear hy
        go_wp2_with fail
        exact ⟨⟨k + 1, HLT.out, by simp, HQ, HB3⟩, by have := HLT.out; simp [intOf]; omega⟩
    · obtain rfl : k = len := by omega
      have HE : Hid (gHeld bs ps = true) := by
        show _ = _
        unfold gHeld
        rw [List.all_eq_true]
        intro p hp
        exact HP.out p (by rw [List.take_of_length_le (by rw [HL.out]; exact Nat.le_refl _)]; exact hp)
      clear hlt
      go_wp2_with fail
      go_ret
      rw [HE.out]
      exact ⟨rfl, HBw.out⟩

set_option maxRecDepth 100000 in
set_option maxHeartbeats 4000000 in
/-- **held**. -/
theorem sg_held {w : World} {v : Value} {l : List SN} (g : SG) (hg : g.Ok) (r0 : Int) (h : Snp w v l) (hK : Lens 1000 l) :
    Calls Tryz.prog 87 #[.agg (g.v r0), v] w fun e w' => ∃ u, e = .returned u ∧ Sl .u8 w' u (heldS g l) ∧ Below w.heap.size w w' := by
  obtain ⟨r, h⟩ := h
  have HS0 := Lib.hid h
  obtain ⟨a, cap, rfl, h1, h2, -⟩ := h
  obtain ⟨len, hle⟩ : ∃ len, l.length = len := ⟨_, rfl⟩
  have hk0 := hK.1
  have HKL := Lib.hid hK
  rw [hle] at HS0 h1 hk0 ⊢
  have HL := Lib.hid hle
  obtain ⟨B, hB⟩ : ∃ B, w.heap.size = B := ⟨_, rfl⟩
  obtain ⟨W, hW⟩ : ∃ W, w.alloc (.cells (g.v r0) 23) = W := ⟨_, rfl⟩
  have hrow : RowC W B 23 [.int .i64 (g.b : Int), .int .i64 (g.s : Int), .int .i64 (g.y : Int), .int .i64 (g.a : Int), .int .i64 r0] := by rw [← hW, ← hB]; exact RowC.new _ _ _
  have b1 : Below B w W := by rw [← hW, ← hB]; exact below_new _ _
  have HB := Lib.hid b1
  have HSZ := Lib.hid hB
  have HWB : Hid (B ≤ W.heap.size) := by show B ≤ W.heap.size; have := b1.size; omega
  have KS : Hid (∀ x : World, Below W.heap.size W x → SnR x (.slice a len cap) r l) := fun x hx => HS0.out.below (by rw [hB]; exact b1.trans (hx.mono HWB.out))
  have c3 := hrow.cell 3 _ rfl
  have HNW := Lib.hid (bi_new (g.a : Int) W)
  have hlz : Hid ((List.replicate (sizeB (g.a : Int)) (0 : Int)).length ≤ 25) := by show _ ≤ _; rw [List.length_replicate]; exact sizeB_le200 hg
  obtain ⟨zs, hzs⟩ : ∃ zs, List.replicate (sizeB (g.a : Int)) (0 : Int) = zs := ⟨_, rfl⟩
  have HZB : Hid (IsBytes zs) := by show IsBytes _; rw [← hzs]; exact bi_zeros _
  have HHD : Hid (heldS g l = addB zs (cAts l)) := by show _ = _; unfold heldS; rw [hzs]
  rw [hzs] at HNW hlz
  have HLen : Hid (∀ xs, (addB zs xs).length ≤ 140737488355328) := fun xs => by rw [addB_len]; exact Nat.le_trans hlz.out (by decide)
  unfold SG.v at *
  clear hrow b1 h1 h2 hle HS0 hzs hlz hg hK
  go_enter Tryz.func87, Tryz.ntmps87
  go_wp2_with fail
  refine HNW.out.mono ?_
  rintro e x1 ⟨v0, rfl, hv0, hx1⟩
  have HV0 := Lib.hid hv0
  have H1 : Hid (Below W.heap.size W x1) := hx1
  clear hv0 hx1 c3 HNW
  go_wp2_with fail
  go_loopw [5, 15] (fun sv iv wr => ∃ k : Nat, k ≤ len ∧ iv = .int .i64 (k : Int) ∧ Hid (Sl .u8 wr sv (addB zs (cAts (l.take k)))) ∧ Hid (Below W.heap.size W wr)) (fun _ iv _ => len - (intOf iv).toNat)
  case atStart => exact ⟨0, Nat.zero_le _, rfl, HV0, H1⟩
  case round =>
    obtain ⟨k, hk, rfl, HSV, HBw⟩ := hrel
    by_cases hlt : k < len
    · have q1 : (k : Int) < (len : Int) := by omega
      have HLT := Lib.hid hlt
      obtain ⟨s, hs⟩ : ∃ s, l[k]? = some s := ⟨_, List.getElem?_eq_getElem (by rw [HL.out]; exact hlt)⟩
      have HTK : Hid (cAts (l.take (k + 1)) = cAts (l.take k) ++ s.tb.map (·.2)) := by show _ = _; rw [take_at hs, cAts_snoc]
      have htl0 := (HKL.out.2 s (List.mem_of_getElem? hs)).2
      obtain ⟨bb, off, ⟨i0, ⟨x1, n1, c1⟩, ⟨x2, n2, c2⟩⟩, rfl, hbb, hrk, hsn, d0, d1, d2⟩ := (KS.out _ HBw.out).at hs
      obtain rfl : n2 = s.tb.length := by obtain ⟨a, ca, e, -⟩ := hsn.tb; simp only [slV, Value.slice.injEq] at e; omega
      obtain ⟨tl, htl⟩ : ∃ tl, s.tb.length = tl := ⟨_, rfl⟩
      rw [htl] at d0 d1 d2 htl0 hsn
      have LD := load_sn d0 d1 d2
      have ST := new_sn wr (i0, (x1, n1, c1), (x2, tl, c2))
      obtain ⟨W2, hW2⟩ : ∃ W2, wr.alloc (.cells (svL (i0, (x1, n1, c1), (x2, tl, c2))).toArray 55) = W2 := ⟨_, rfl⟩
      have bW2 : Below wr.heap.size wr W2 := by rw [← hW2]; exact below_new wr _
      have e2 : W2.cell? ⟨wr.heap.size, 2, none⟩ = some (.slice x2 tl c2) := by rw [← hW2]; exact (RowC.new wr 55 (svL (i0, (x1, n1, c1), (x2, tl, c2)))).cell 2 _ rfl
      have HB2 : Hid (Below W.heap.size W W2) := HBw.out.trans (bW2.mono HBw.out.size)
      have HPT : Hid (Prt W2 (.slice x2 tl c2) s.tb) := hsn.tb.below bW2
      have HSV2 : Hid (Sl .u8 W2 u5 (addB zs (cAts (l.take k)))) := HSV.out.below bW2
      have HIS := Lib.hid HPT.out.is
      have HTL := Lib.hid htl
      rw [hW2] at ST
      obtain ⟨N, hN⟩ : ∃ N, wr.heap.size = N := ⟨_, rfl⟩
      rw [hN] at ST e2
      simp only [svV, slV] at LD ST
      clear hs hbb hrk hsn d0 d1 d2 bW2 hW2 hlt htl HSV
      go_wp2_with fail
      go_loopw [5, 22] (fun sv jv wq => ∃ j : Nat, j ≤ tl ∧ jv = .int .i64 (j : Int) ∧ Hid (Sl .u8 wq sv (addB zs (cAts (l.take k) ++ (s.tb.take j).map (·.2)))) ∧ Hid (Below W2.heap.size W2 wq)) (fun _ jv _ => tl - (intOf jv).toNat)
      case atStart => exact ⟨0, Nat.zero_le _, rfl, by simpa using HSV2, Below.refl _ _⟩
      case round =>
        clear LD ST e2
        obtain ⟨j, hj, rfl, HSW, HBq⟩ := hrel
        by_cases hlt : j < tl
        · have q2 : (j : Int) < (tl : Int) := by omega
          have HLT2 := Lib.hid hlt
          obtain ⟨p, hs⟩ : ∃ p, s.tb[j]? = some p := ⟨_, List.getElem?_eq_getElem (by rw [HTL.out]; exact hlt)⟩
          have HX0 := Lib.hid (HIS.out _ (List.mem_of_getElem? hs))
          have HTJ : Hid (cAts (l.take k) ++ (s.tb.take (j + 1)).map (·.2) = (cAts (l.take k) ++ (s.tb.take j).map (·.2)) ++ [p.2]) := by
            show _ = _
            rw [take_at hs, List.map_append, List.append_assoc]
            rfl
          obtain ⟨bb, off, rfl, hbb, d1, d2⟩ := (HPT.out.below HBq.out).at hs
          obtain ⟨x0, y0⟩ := p
          simp only at d1 d2
          have LD := load_prs d1 d2
          have ST := new_prs wr x0 y0
          obtain ⟨W4, hW4⟩ : ∃ W2, wr.alloc (.cells #[.int .i64 x0, .int .i64 y0] 57) = W2 := ⟨_, rfl⟩
          rw [hW4] at ST
          have bW4 : Below wr.heap.size wr W4 := by rw [← hW4]; exact below_new wr _
          have e1 : W4.cell? ⟨wr.heap.size, 1, none⟩ = some (.int .i64 y0) := by rw [← hW4]; exact (RowC.new wr 57 [.int .i64 x0, .int .i64 y0]).cell 1 _ rfl
          have HB4 : Hid (Below W2.heap.size W2 W4) := HBq.out.trans (bW4.mono HBq.out.size)
          have HWT := Lib.hid (bi_with u5 _ y0 (wf_i64 HX0.out.2.1 HX0.out.2.2) W4 (HSW.out.below bW4) (addB_bytes _ _ HZB.out) (HLen.out _))
          rw [← addB_snoc] at HWT
          obtain ⟨M, hM⟩ : ∃ N, wr.heap.size = N := ⟨_, rfl⟩
          rw [hM] at ST e1
          clear hs hbb d1 d2 bW4 hW4 hlt HSW
          go_wp2_with fail
          refine HWT.out.mono ?_
          rintro e x3 ⟨v3, rfl, hv3, hx3⟩
          have HS3 : Hid (Sl .u8 x3 v3 (addB zs (cAts (l.take k) ++ (s.tb.take (j + 1)).map (·.2)))) := by show Sl _ _ _ _; rw [HTJ.out]; exact hv3
          have HB5 : Hid (Below W2.heap.size W2 x3) := HB4.out.trans (hx3.mono HB4.out.size)
          clear hv3 hx3 HWT
          go_wp2_with fail
          exact ⟨⟨j + 1, HLT2.out, by simp, HS3, HB5⟩, by have := HLT2.out; simp [intOf]; omega⟩
        · obtain rfl : j = tl := by omega
          have HS3 : Hid (Sl .u8 wr u5 (addB zs (cAts (l.take (k + 1))))) := by
            have := HSW.out
            rw [List.take_of_length_le (l := s.tb) (by rw [HTL.out]; exact Nat.le_refl _), ← HTK.out] at this
            exact this
          have HB5 : Hid (Below W.heap.size W wr) := HB2.out.trans (HBq.out.mono HB2.out.size)
          clear hlt
          go_wp2_with fail
          exact ⟨⟨k + 1, HLT.out, by simp, HS3, HB5⟩, by have := HLT.out; simp [intOf]; omega⟩
    · obtain rfl : k = len := by omega
      have HS3 : Hid (Sl .u8 wr u5 (heldS g l)) := by
        have := HSV.out
        rw [List.take_of_length_le (by rw [HL.out]; exact Nat.le_refl _), ← HHD.out] at this
        exact this
      clear hlt
      go_wp2_with fail
      go_ret
      exact ⟨_, rfl, HS3.out, by rw [HSZ.out]; exact HB.out.trans (HBw.out.mono HWB.out)⟩

set_option maxRecDepth 100000 in
set_option maxHeartbeats 4000000 in
/-- **allApart**. -/
theorem sg_allApart {w : World} {v u : Value} {ps : List (Int × Int)} {bs : List Int} (g : SG) (hg : g.Ok) (r0 : Int) (h : Prt w v ps) (hp : ps.length ≤ 1000) (hu : Sl .u8 w u bs) (hb : IsBytes bs) (hbl : bs.length ≤ 1000) :
    Calls Tryz.prog 89 #[.agg (g.v r0), v, u] w fun e w' => e = .returned (.bool (gApart g bs ps)) ∧ Below w.heap.size w w' := by
  have HPT := Lib.hid h
  have HU := Lib.hid hu
  have HBB := Lib.hid hb
  have HBL := Lib.hid hbl
  have ha := hg.a200
  obtain ⟨a, cap, rfl, h1, h2, -⟩ := h
  obtain ⟨len, hle⟩ : ∃ len, ps.length = len := ⟨_, rfl⟩
  rw [hle] at HPT h1 hp ⊢
  have HL := Lib.hid hle
  have HIS := Lib.hid HPT.out.is
  obtain ⟨B, hB⟩ : ∃ B, w.heap.size = B := ⟨_, rfl⟩
  obtain ⟨W, hW⟩ : ∃ W, w.alloc (.cells (g.v r0) 23) = W := ⟨_, rfl⟩
  have hrow : RowC W B 23 [.int .i64 (g.b : Int), .int .i64 (g.s : Int), .int .i64 (g.y : Int), .int .i64 (g.a : Int), .int .i64 r0] := by rw [← hW, ← hB]; exact RowC.new _ _ _
  have b1 : Below B w W := by rw [← hW, ← hB]; exact below_new _ _
  have HB := Lib.hid b1
  have HSZ := Lib.hid hB
  have HWB : Hid (B ≤ W.heap.size) := by show B ≤ W.heap.size; have := b1.size; omega
  have KP : Hid (∀ x : World, Below W.heap.size W x → Prt x (.slice a len cap) ps) := fun x hx => HPT.out.below (by rw [hB]; exact b1.trans (hx.mono HWB.out))
  have KC : Hid (∀ x : World, Below W.heap.size W x → x.cell? ⟨B, 3, none⟩ = some (.int .i64 (g.a : Int))) := fun x hx => (hrow.below hx).cell 3 _ rfl
  have HU0 : Hid (Sl .u8 W u bs) := HU.out.below (by rw [hB]; exact b1)
  have HLen : Hid (∀ k, (apSeen bs ps k).length ≤ 140737488355328) := fun k => by rw [apS_len]; exact Nat.le_trans HBL.out (by decide)
  unfold SG.v at *
  clear h1 h2 hle hu hb hbl hrow b1 HPT HU hg
  go_enter Tryz.func89, Tryz.ntmps89
  go_wp2_with fail
  go_loopw [7, 13] (fun sv iv wr => ∃ k : Nat, k ≤ len ∧ iv = .int .i64 (k : Int) ∧ Hid (Sl .u8 wr sv (apSeen bs ps k)) ∧ Hid (∀ i, i < k → apB g bs ps i = true) ∧ Hid (Below W.heap.size W wr)) (fun _ iv _ => len - (intOf iv).toNat)
  case atStart => exact ⟨0, Nat.zero_le _, rfl, by rw [apS_zero]; exact HU0, (fun t ht => absurd ht (Nat.not_lt_zero _)), Below.refl _ _⟩
  case round =>
    obtain ⟨k, hk, rfl, HSV, HP, HBw⟩ := hrel
    by_cases hlt : k < len
    · have q1 : (k : Int) < (len : Int) := by omega
      have HLT := Lib.hid hlt
      obtain ⟨p, hs⟩ : ∃ s, ps[k]? = some s := ⟨_, List.getElem?_eq_getElem (by rw [HL.out]; exact hlt)⟩
      have HX0 := Lib.hid (HIS.out _ (List.mem_of_getElem? hs))
      obtain ⟨bb, off, rfl, hbb, d1, d2⟩ := (KP.out _ HBw.out).at hs
      obtain ⟨x0, y0⟩ := p
      have HAP := Lib.hid (apB_is (g := g) (set := bs) hs)
      have HSK : Hid (y0 = 255 → apSeen bs ps (k + 1) = apSeen bs ps k) := fun e => apS_skip bs hs e
      have HPU : Hid (y0 ≠ 255 → apSeen bs ps (k + 1) = withB (apSeen bs ps k) y0) := fun e => apS_put bs hs e
      simp only at d1 d2
      have LD := load_prs d1 d2
      have ST := new_prs wr x0 y0
      obtain ⟨W2, hW2⟩ : ∃ W2, wr.alloc (.cells #[.int .i64 x0, .int .i64 y0] 57) = W2 := ⟨_, rfl⟩
      rw [hW2] at ST
      have bW2 : Below wr.heap.size wr W2 := by rw [← hW2]; exact below_new wr _
      have hNr : RowC W2 wr.heap.size 57 [.int .i64 x0, .int .i64 y0] := by rw [← hW2]; exact RowC.new wr _ _
      have HB2 : Hid (Below W.heap.size W W2) := HBw.out.trans (bW2.mono HBw.out.size)
      have HSV2 : Hid (Sl .u8 W2 u7 (apSeen bs ps k)) := HSV.out.below bW2
      obtain ⟨N, hN⟩ : ∃ N, wr.heap.size = N := ⟨_, rfl⟩
      rw [hN] at ST hNr
      have HNR := Lib.hid hNr
      have e1 := hNr.cell 1 _ rfl
      have e3 := KC.out W2 HB2.out
      clear hs hbb d1 d2 bW2 hW2 hlt HSV hNr
      simp only at HAP
      by_cases h5 : y0 = 255
      · have g5 : (y0 == 255) = true := by simpa using h5
        have HQ : Hid (∀ i, i < k + 1 → apB g bs ps i = true) := fun i hi => by
          by_cases e : i = k
          · subst e; rw [HAP.out, g5]; rfl
          · exact HP.out i (by omega)
        have HS3 : Hid (Sl .u8 W2 u7 (apSeen bs ps (k + 1))) := by show Sl _ _ _ _; rw [HSK.out h5]; exact HSV2.out
        clear h5
        go_wp2_with fail
        exact ⟨⟨k + 1, HLT.out, by simp, HS3, HQ, HB2⟩, by have := HLT.out; simp [intOf]; omega⟩
      · have g5 : (y0 == 255) = false := by simpa using h5
        have H5 := Lib.hid h5
        obtain ⟨tv, htv⟩ : ∃ tv, decide (0 ≤ y0 ∧ y0 ≤ (g.a : Int) - 1) = tv := ⟨_, rfl⟩
        obtain ⟨hv, hhv⟩ : ∃ hv, hasB (apSeen bs ps k) y0 = hv := ⟨_, rfl⟩
        have HWI := Lib.hid (sg_within y0 0 ((g.a : Int) - 1) W2)
        have HHS : Hid (Calls Tryz.prog 77 #[u7, .int .i64 y0] W2 fun e w' => e = .returned (.bool hv) ∧ Below W2.heap.size W2 w') := by
          have := bi_has u7 (apSeen bs ps k) y0 (wf_i64 HX0.out.2.1 HX0.out.2.2) W2 HSV2.out (apS_bytes HBB.out ps k)
          rw [hhv] at this
          exact this
        rw [g5, htv, hhv] at HAP
        rw [htv] at HWI
        clear htv hhv h5
        cases tv with
        | false =>
          have HE : Hid (gApart g bs ps = false) := apart_no (by rw [HL.out]; exact HLT.out) HAP.out
          go_wp2_with fail
          refine HWI.out.mono ?_
          rintro e y ⟨rfl, rfl⟩
          go_wp2_with fail
          go_ret
          rw [HE.out]
          exact ⟨rfl, by rw [HSZ.out]; exact HB.out.trans (HB2.out.mono HWB.out)⟩
        | true =>
          cases hv with
          | true =>
            have HE : Hid (gApart g bs ps = false) := apart_no (by rw [HL.out]; exact HLT.out) HAP.out
            go_wp2_with fail
            refine HWI.out.mono ?_
            rintro e y ⟨rfl, rfl⟩
            go_wp2_with fail
            refine HHS.out.mono ?_
            rintro e y2 ⟨rfl, hy2⟩
            have HB3 : Hid (Below W.heap.size W y2) := HB2.out.trans (hy2.mono HB2.out.size)
            clear hy2
            go_wp2_with fail
            go_ret
            rw [HE.out]
            exact ⟨rfl, by rw [HSZ.out]; exact HB.out.trans (HB3.out.mono HWB.out)⟩
          | false =>
            have HQ : Hid (∀ i, i < k + 1 → apB g bs ps i = true) := fun i hi => by
              by_cases e : i = k
              · subst e; rw [HAP.out]; rfl
              · exact HP.out i (by omega)
            go_wp2_with fail
            refine HWI.out.mono ?_
            rintro e y ⟨rfl, rfl⟩
            go_wp2_with fail
            refine HHS.out.mono ?_
            rintro e y2 ⟨rfl, hy2⟩
            have HB3 : Hid (Below W.heap.size W y2) := HB2.out.trans (hy2.mono HB2.out.size)
            have f1 := (HNR.out.below hy2).cell 1 _ rfl
            have HWT := Lib.hid (bi_with u7 (apSeen bs ps k) y0 (wf_i64 HX0.out.2.1 HX0.out.2.2) y2 (HSV2.out.below hy2) (apS_bytes HBB.out ps k) (HLen.out _))
            rw [← HPU.out H5.out] at HWT
            clear hy2 e1 e3 HHS HWI
            go_wp2_with fail
            refine HWT.out.mono ?_
            rintro e x3 ⟨v3, rfl, hv3, hx3⟩
            have HS3 : Hid (Sl .u8 x3 v3 (apSeen bs ps (k + 1))) := hv3
            have HB5 : Hid (Below W.heap.size W x3) := HB3.out.trans (hx3.mono HB3.out.size)
            clear hv3 hx3 HWT
            go_wp2_with fail
            exact ⟨⟨k + 1, HLT.out, by simp, HS3, HQ, HB5⟩, by have := HLT.out; simp [intOf]; omega⟩
    · obtain rfl : k = len := by omega
      have HE : Hid (gApart g bs ps = true) := apart_yes fun i hi => HP.out i (by rw [HL.out] at hi; exact hi)
      clear hlt
      go_wp2_with fail
      go_ret
      rw [HE.out]
      exact ⟨rfl, by rw [HSZ.out]; exact HB.out.trans (HBw.out.mono HWB.out)⟩
end Go.Proofs.YtajamblkjmafmaaGreat

/- The developers' Index. -/
namespace Go.Proofs.YtajamblkjmafmaaGreat
open Go.RowKit Go.Shelf
set_option linter.unusedVariables false
attribute [-simp] Tryz.isAgg55 Tryz.zeroValue55
attribute [-go_sem] loadVar storeVar
attribute [local go_sem] loadVar_openS storeVar_openS zero_sn
attribute [local go_sem] Oper.semAt_some

set_option maxRecDepth 100000 in
set_option maxHeartbeats 4000000 in
theorem ch_index {w : World} {v : Value} {l : List SN} (h : Snp w v l) (id : Int) :
    Calls Tryz.prog 84 #[v, .int .i64 id] w fun e w' => e = .returned (.int .i64 (cIndex l id)) ∧ Below w.heap.size w w' := by
  obtain ⟨r, h⟩ := h
  have HS := Lib.hid h
  obtain ⟨a, cap, rfl, h1, h2, -⟩ := h
  obtain ⟨len, hle⟩ : ∃ len, l.length = len := ⟨_, rfl⟩
  have HL := Lib.hid hle
  obtain ⟨B, hB⟩ : ∃ B, w.heap.size = B := ⟨_, rfl⟩
  have HSZ := Lib.hid hB
  rw [hle] at HS h1 ⊢
  refine (callsIn_wide (n := 3)).1 ?_
  refine callsIn_of_wp_marks Tryz.func84 rfl trivial ?_ rfl
  simp only [Tryz.ntmps84, List.size_toArray, List.length_cons, List.length_nil, Nat.reduceAdd, Nat.reduceSub, Array.replicate_succ, Array.replicate_zero, List.push_toArray, List.append_toArray, List.nil_append, List.cons_append]
  obtain ⟨X, hX⟩ : ∃ X, (w.alloc (.cells #[.int .i64 id] 3)).alloc (.cells #[.int .i64 0] 3) = X := ⟨_, rfl⟩
  have hXs : X.heap.size = B + 2 := by rw [← hX, ← hB]; simp
  have hXb : Below B w X := by rw [← hX, ← hB]; exact ((Below.refl _ w).alloc (Nat.le_refl _) _).alloc (by simp) _
  have k1 : RowC X B 3 [.int .i64 id] := by rw [← hX, ← hB]; exact (RowC.new w _ _).below (below_new _ _)
  have k2 : RowC X (B + 1) 3 [.int .i64 0] := by
    rw [← hX, ← hB]
    have := RowC.new (w.alloc (.cells #[.int .i64 id] 3)) 3 [.int .i64 0]
    rwa [World.size_alloc] at this
  have SX := SpX.new 0 (len : Int) (.slice a len cap) hXb (by omega)
  rw [hXs] at SX
  obtain ⟨W0, hW0⟩ : ∃ W0, ((X.alloc (.cells #[.slice a len cap] 25)).alloc (.cells #[.int .i64 0] 3)).alloc (.cells #[.int .i64 (len : Int)] 3) = W0 := ⟨_, rfl⟩
  have hWs : W0.heap.size = B + 5 := by rw [← hW0]; simp [hXs]
  have bX : Below X.heap.size X W0 := by rw [← hW0]; exact (((Below.refl _ X).alloc (Nat.le_refl _) _).alloc (by simp) _).alloc (by simp; omega) _
  rw [hW0] at SX
  have k3 := k1.below bX
  have k4 := k2.below bX
  clear k1 k2 bX hXb h1 h2
  gi_wp2_with (refine ⟨trivial, ?_⟩; gi_at_call 79; refine (span_in _ _ trivial rfl _ _ _ _ _ _).mono ?_; rintro e w' ⟨rfl, rfl⟩)
  try rw [hX]
  try rw [hW0]
  try rw [hXs]
  clear hX hW0
  have HW := Lib.hid hWs
  have hm : hiOf l (len : Int) - loOf 0 = len := by rw [← hle, hiOf_all, loOf_zero]; rfl
  have hseq := span1_seq 2 (by omega) (B + 2 + 1) (B + 2 + 2) (B + 2) 0 (len : Int) (.slice a len cap) r l W0
  rw [hm, loOf_zero] at hseq
  refine wpIn_rangeFunc_num (n := 3) rfl (by omega) (gf := 109) (lb := #[.pointer (some ⟨B + 2 + 1, 0, none⟩), .pointer (some ⟨B + 2 + 2, 0, none⟩), .pointer (some ⟨B + 2, 0, none⟩)]) rfl trivial (enters_of Tryz.func109 (by kernel_rfl) rfl)
    hseq (Below.refl _ _) (fun _ => rfl)
    (fun k W => RowC W B 3 [.int .i64 id] ∧ RowC W (B + 1) 3 [.int .i64 0] ∧ SpX B (B + 2) 0 (len : Int) (.slice a len cap) w W ∧ cIndex l id = firstId (l.drop k) id k)
    (fun c k W => c = .ret ∧ RowC W (B + 1) 3 [.int .i64 (cIndex l id)] ∧ Below B w W)
    ?hR ?hI ?hIx ⟨k3, k4, SX, rfl⟩
    (fun k a' W => ∃ C q, B + 4 < C ∧ r[k]? = some q ∧ RowC W C 55 (svL q) ∧ a' = { tmps := #[.slice a len cap, .int .i64 id, undef, .pointer (some ⟨B, 0, none⟩), .pointer (some ⟨B + 1, 0, none⟩), .int .i64 (k : Int), .pointer (some ⟨C, 0, none⟩), .slice a len cap, .slice a len cap, .int .i64 (len : Int), .func (.func 109) #[] #[.pointer (some ⟨B + 2 + 1, 0, none⟩), .pointer (some ⟨B + 2 + 2, 0, none⟩), .pointer (some ⟨B + 2, 0, none⟩)], .int .i64 (k : Int), svV q, undef, undef, undef, undef, undef], defers := [] })
    ?hAx ?assign ?body ?done ?stop
  case hR =>
    intro k W ⟨_, _, h3, _⟩
    exact h3.spb HSZ.out HS.out
  case hI =>
    intro s Y Z row ⟨g1, g2, g3, g4⟩ hg hr
    exact ⟨rowC_own g1 hg hr, rowC_own g2 hg hr, g3.own (by omega) hg (by omega) hr, g4⟩
  case hIx =>
    intro c s Y Z row ⟨g1, g2, g3⟩ hg hr
    exact ⟨g1, rowC_own g2 hg hr, below_own g3 (by omega) hg (fun r e => ⟨by have := (hr r e).1; omega, (hr r e).2⟩)⟩
  case hAx =>
    rintro k a' _ Y Z row ⟨C, q, f1, f2, f3, f4⟩ hg hr
    exact ⟨C, q, f1, f2, rowC_own f3 hg hr, f4⟩
  case assign =>
    rintro lp k W K hkm ⟨g1, g2, g3, g4⟩ hK
    obtain ⟨q, s, hq, hs, -⟩ := snR_at HS.out (k := k) (by rw [HL.out]; exact hkm)
    have ST := new_sn W q
    have HZ : Hid (B + 4 < W.heap.size) := g3.bj.lt
    have hK := hK _ _ (keepsFrom_below (below_new W (.cells (svL q).toArray 55))) ⟨g1.below (below_new W _), g2.below (below_new W _), g3.alloc (by have := HZ.out; omega) _, g4⟩ ⟨W.heap.size, q, HZ.out, hq, RowC.new W _ _, rfl⟩
    rw [encS_at 0 (by rw [Nat.zero_add]; exact hq), Nat.zero_add]
    clear g1 g2 g3 g4 hq hs
    gi_wp2
    exact hK
  case body =>
    rintro lp k a' W _ _ hkm ⟨g1, g2, g3, g4⟩ ⟨C, q, hC, hq, hx, rfl⟩
    obtain ⟨q', s, hq', hs, hqs⟩ := snR_at HS.out (k := k) (by rw [HL.out]; exact hkm)
    obtain rfl : q' = q := by rw [hq] at hq'; cases hq'; rfl
    have e1 := firstId_at (id := id) hs
    have d1 := hx.cell 0 _ rfl
    have d2 := g1.cell 0 _ rfl
    have f2 := g2.frozen 0
    have d3 := g2.cell 0 _ rfl
    have hid := hqs.id
    have G2 := Lib.hid g2
    have HKF : Hid (∀ u, KeepsFrom W0.heap.size W (W.setCell ⟨B + 1, 0, none⟩ u)) := fun u => keepsFrom_cells g2 (grownBy_setCellJ W (B + 1) 0 u)
    have G1 := Lib.hid g1
    have G3 := Lib.hid g3
    by_cases hc : s.id = id
    · rw [if_pos hc] at e1
      have q1 : (q'.1 == id) = true := by rw [hid]; simpa using hc
      have E1 : Hid (cIndex l id = (k : Int)) := g4.trans e1
      clear hc hid hqs hs hq hq' e1 g1 g2 g3 g4 hx
      gi_wp2
      refine ⟨HKF.out _, rfl, ?_, set_below G3.out.be (by omega) _ _⟩
      rw [E1.out]
      exact G2.out.set 0 _
    · rw [if_neg hc] at e1
      have q1 : (q'.1 == id) = false := by rw [hid]; simpa using hc
      have E1 := Lib.hid (g4.trans e1)
      clear hc hid hqs hs hq hq' e1 g1 g2 g3 g4 hx
      gi_wp2
      exact ⟨KeepsFrom.refl _ _, G1.out, G2.out, G3.out, E1.out⟩
  case done =>
    rintro D W hD ⟨g1, g2, g3, g4⟩ hK
    have E1 : Hid (cIndex l id = -1) := g4.trans (firstId_end (by rw [HL.out]; exact Nat.le_refl _))
    have d3 := g2.cell 0 _ rfl
    have f2 := g2.frozen 0
    have G2 := Lib.hid g2
    have G3 := Lib.hid g3
    have HK := Lib.hid hK
    have HKF : Hid (KeepsFrom 0 W (W.setCell ⟨B + 1, 0, none⟩ (.int .i64 (-1)))) := keepsFrom_cells g2 (grownBy_setCellJ W (B + 1) 0 _)
    clear g1 g2 g3 g4 hK
    gi_wp2
    have hK2 := HKF.out.same D _ (Nat.zero_le _) HK.out rfl
    refine ⟨by simp, .inl ⟨_, _, rfl, run_takeDeferred hK2, ?_⟩⟩
    have hg2 := grownBy_putObj' (W.setCell ⟨B + 1, 0, none⟩ (.int .i64 (-1))) D (.deferred none)
    have hy2 : RowC _ (B + 1) 3 [.int .i64 (-1)] := rowC_own (N := 0) (G2.out.set 0 (.int .i64 (-1))) hg2 (fun r e => by cases e; exact ⟨Nat.zero_le _, _, hK2, rfl⟩)
    refine ⟨_, results_cell rfl rfl (load_int1 hy2), by rw [E1.out], ?_⟩
    rw [HSZ.out]
    exact (set_below G3.out.be (by omega) 0 _).trans (belowK_b (w := w) (by omega) _ D _ _ (by have := HW.out; have := HSZ.out; omega) hK2 rfl rfl)
  case stop =>
    rintro D c k W hD _ ⟨rfl, g2, g3⟩ hK
    have G2 := Lib.hid g2
    have G3 := Lib.hid g3
    have HK := Lib.hid hK
    clear g2 g3 hK
    gi_wp2
    refine ⟨by simp, .inl ⟨_, _, rfl, run_takeDeferred HK.out, ?_⟩⟩
    have hg2 := grownBy_putObj' W D (.deferred none)
    have hy2 := rowC_own (N := 0) G2.out hg2 (fun r e => by cases e; exact ⟨Nat.zero_le _, _, HK.out, rfl⟩)
    refine ⟨_, results_cell rfl rfl (load_int1 hy2), rfl, ?_⟩
    rw [HSZ.out]
    exact G3.out.trans (belowK_b (w := w) (by omega) W D _ _ (by have := HW.out; have := HSZ.out; omega) HK.out rfl rfl)
end Go.Proofs.YtajamblkjmafmaaGreat

/- The document's Slot and Area; what the developers' geometry promises. -/
namespace Go.Proofs.YtajamblkjmafmaaGreat
open Go.RowKit Go.Shelf
set_option linter.unusedVariables false
attribute [-simp] Tryz.isAgg71 Tryz.zeroValue71
attribute [-go_sem] loadVar storeVar
attribute [local go_sem] loadVar_openG storeVar_openG zero_szs build_szs0

section
set_option maxRecDepth 100000
set_option maxHeartbeats 4000000
end
/-- All numbers of a geometry are numbers. -/
def Geo.In (g : Geo) : Prop := ∀ n ∈ [g.b, g.s, g.y, g.a, g.r], -9223372036854775808 ≤ n ∧ n ≤ 9223372036854775807
end Go.Proofs.YtajamblkjmafmaaGreat

/- The developers' geometry: within, the slots, the bytes, Good, Bytes, Pages. -/
namespace Go.Proofs.YtajamblkjmafmaaGreat
open Go.RowKit Go.Shelf
set_option linter.unusedVariables false
attribute [-go_sem] loadVar storeVar
attribute [local go_sem] loadVar_openG storeVar_openG

section
set_option maxRecDepth 100000
set_option maxHeartbeats 4000000
set_option maxRecDepth 100000 in
theorem gmWithin (n lo hi : Int) (w : World) : Calls Tryz.prog 63 #[.int .i64 n, .int .i64 lo, .int .i64 hi] w fun e w' => e = .returned (.bool (decide (lo ≤ n ∧ n ≤ hi))) ∧ w' = w := by
  obtain ⟨z, hz⟩ : ∃ z, decide (lo ≤ n ∧ n ≤ hi) = z := ⟨_, rfl⟩
  by_cases h1 : lo ≤ n
  · have g1 : decide (lo ≤ n) = true := by simpa using h1
    have g1' : decide (n ≥ lo) = true := g1
    have g2 : decide (n ≤ hi) = z := by rw [← hz]; simp [h1]
    rw [hz]
    clear hz
    go_enter Tryz.func63, Tryz.ntmps63
    go_wp2_with fail
    go_ret
    first | exact ⟨rfl, rfl⟩ | exact ⟨by rw [← g2], rfl⟩ | exact ⟨by rw [g2], rfl⟩
  · have g1 : decide (lo ≤ n) = false := by simpa using h1
    have g1' : decide (n ≥ lo) = false := g1
    have hzz : z = false := by rw [← hz]; simp [h1]
    rw [hz, hzz]
    clear hz hzz
    go_enter Tryz.func63, Tryz.ntmps63
    go_wp2_with fail
    go_ret
    exact ⟨rfl, rfl⟩
set_option maxRecDepth 100000 in
theorem gmSlots (g : Geo) (hs : g.shape) (w : World) : Calls Tryz.prog 98 #[.agg g.v] w fun e w' => e = .returned (.int .i64 g.slots) ∧ Below w.heap.size w w' := by
  obtain ⟨b1, b2, b3, b4, b5, b6⟩ := Geo.bounds hs
  have HBT : Hid (g.slots = g.s * g.y) := rfl
  obtain ⟨W, hW⟩ : ∃ W, w.alloc (.cells g.v 23) = W := ⟨_, rfl⟩
  have r : RowC W w.heap.size 23 g.cs := by rw [← hW]; exact RowC.new w _ _
  have HB : Hid (Below w.heap.size w W) := by show Below _ _ _; rw [← hW]; exact below_new w _
  have c1 := r.cell 1 _ rfl
  have c2 := r.cell 2 _ rfl
  obtain ⟨h1, h2, h3, h4, h5, h6, h7, h8⟩ := hs
  have m1 : 1 ≤ g.s * g.y := b1
  have m2 : g.s * g.y ≤ 32 := b2
  obtain ⟨s, hs⟩ : ∃ n, g.s = n := ⟨_, rfl⟩
  obtain ⟨y, hy⟩ : ∃ n, g.y = n := ⟨_, rfl⟩
  obtain ⟨m, hm⟩ : ∃ n, s * y = n := ⟨_, rfl⟩
  rw [hs, hy] at m1 m2 HBT
  rw [hs] at c1 h3 h4
  rw [hy] at c2 h5 h6
  rw [hm] at m1 m2 HBT
  clear r b1 b2 b3 b4 b5 b6 h7 h8 h1 h2 hs hy
  go_enter Tryz.func98, Tryz.ntmps98
  go_wp2_with fail
  go_ret
  rw [HBT.out]
  exact ⟨rfl, HB.out⟩
set_option maxRecDepth 100000 in
theorem gmState (g : Geo) (hs : g.shape) (w : World) : Calls Tryz.prog 58 #[.agg g.v] w fun e w' => e = .returned (.int .i64 g.bts) ∧ Below w.heap.size w w' := by
  have SC := fun x => gmSlots g hs x
  obtain ⟨b1, b2, b3, b4, b5, b6⟩ := Geo.bounds hs
  have HBT : Hid (g.bts = 10 + g.slots + g.b + 8 * (4 + (g.b + 7) / 8 + g.b)) := rfl
  obtain ⟨W, hW⟩ : ∃ W, w.alloc (.cells g.v 23) = W := ⟨_, rfl⟩
  have r : RowC W w.heap.size 23 g.cs := by rw [← hW]; exact RowC.new w _ _
  have HB : Hid (Below w.heap.size w W) := by show Below _ _ _; rw [← hW]; exact below_new w _
  obtain ⟨B, hB⟩ : ∃ b, w.heap.size = b := ⟨_, rfl⟩
  rw [hB] at r
  have LG : ∀ x : Ext W, (loadVar 23 ⟨B, 0, none⟩).run Tryz.prog x.1 = .ok (.agg g.v) x.1 := fun x => load_geo (r.below x.2)
  obtain ⟨h1, h2, h3, h4, h5, h6, h7, h8⟩ := hs
  obtain ⟨b, hb⟩ : ∃ n, g.b = n := ⟨_, rfl⟩
  obtain ⟨m, hm⟩ : ∃ n, g.slots = n := ⟨_, rfl⟩
  obtain ⟨k, hk⟩ : ∃ n, (b + 7).tdiv 8 = n := ⟨_, rfl⟩
  have c0 : ∀ x : Ext W, x.1.cell? ⟨B, 0, none⟩ = some (.int .i64 b) := fun x => by rw [← hb]; exact (r.below x.2).cell 0 _ rfl
  have d0 : W.cell? ⟨B, 0, none⟩ = some (.int .i64 b) := by rw [← hb]; exact r.cell 0 _ rfl
  rw [hb] at h1 h2
  rw [hb, hm] at HBT
  rw [hm] at b1 b2
  have C1 : Hid (∀ x : Ext W, Calls Tryz.prog 98 #[.agg g.v] x.1 fun e w'' => e = .returned (.int .i64 m) ∧ ∃ y : Ext W, w'' = y.1) := fun x => calls_ext x (by rw [← hm]; exact SC x.1)
  have hk2 : (b + 7) / 8 = k := by rw [← hk, Int.tdiv_eq_ediv_of_nonneg (by omega)]
  have hk3 : 1 ≤ k ∧ k ≤ 8 := by omega
  have HK2 := Lib.hid hk2
  obtain ⟨k1, k2⟩ := hk3
  clear r b3 b4 b5 b6 h3 h4 h5 h6 h7 h8 hb hm hk2 SC
  go_enter Tryz.func58, Tryz.ntmps58
  go_wp2_with fail
  refine region_ext (by kernel_rfl) (by kernel_rfl) ?_
  repeat (go_big_quiet_step (with_reducible (first | exact C1.out _)))
  refine wpQuiet_nil ?_
  intro x
  have HX : Hid (Below w.heap.size w x.1) := HB.out.trans (x.2.mono HB.out.size)
  clear LG c0 d0
  go_wp2_with fail
  go_ret
  refine ⟨?_, HX.out⟩
  rw [HBT.out, HK2.out]
  first
    | rfl
    | exact congrArg (fun x => Ending.returned (Value.int .i64 x)) (by omega)
set_option maxRecDepth 100000 in
theorem gmGood (g : Geo) (hi : g.In) (w : World) : Calls Tryz.prog 32 #[.agg g.v] w fun e w' => e = .returned (.bool (decide g.good)) ∧ Below w.heap.size w w' := by
  obtain ⟨W, hW⟩ : ∃ W, w.alloc (.cells g.v 23) = W := ⟨_, rfl⟩
  have r : RowC W w.heap.size 23 g.cs := by rw [← hW]; exact RowC.new w _ _
  have HB : Hid (Below w.heap.size w W) := by show Below _ _ _; rw [← hW]; exact below_new w _
  obtain ⟨B, hB⟩ : ∃ b, w.heap.size = b := ⟨_, rfl⟩
  rw [hB] at r
  have LG : ∀ x : Ext W, (loadVar 23 ⟨B, 0, none⟩).run Tryz.prog x.1 = .ok (.agg g.v) x.1 := fun x => load_geo (r.below x.2)
  have c0 : ∀ x : Ext W, x.1.cell? ⟨B, 0, none⟩ = some (.int .i64 g.b) := fun x => (r.below x.2).cell 0 _ rfl
  have c1 : ∀ x : Ext W, x.1.cell? ⟨B, 1, none⟩ = some (.int .i64 g.s) := fun x => (r.below x.2).cell 1 _ rfl
  have c2 : ∀ x : Ext W, x.1.cell? ⟨B, 2, none⟩ = some (.int .i64 g.y) := fun x => (r.below x.2).cell 2 _ rfl
  have c3 : ∀ x : Ext W, x.1.cell? ⟨B, 3, none⟩ = some (.int .i64 g.a) := fun x => (r.below x.2).cell 3 _ rfl
  have c4 : ∀ x : Ext W, x.1.cell? ⟨B, 4, none⟩ = some (.int .i64 g.r) := fun x => (r.below x.2).cell 4 _ rfl
  have CW : ∀ (n lo hi : Int) (z : Bool), decide (lo ≤ n ∧ n ≤ hi) = z → Hid (∀ x : Ext W, Calls Tryz.prog 63 #[.int .i64 n, .int .i64 lo, .int .i64 hi] x.1 fun e w'' => e = .returned (.bool z) ∧ ∃ y : Ext W, w'' = y.1) := fun n lo hi z hz x => by
    rw [← hz]
    exact (gmWithin n lo hi x.1).mono fun e w'' ⟨h1, h2⟩ => ⟨h1, x, h2⟩
  obtain ⟨z1, e1⟩ : ∃ z, decide (1 ≤ g.b ∧ g.b ≤ 64) = z := ⟨_, rfl⟩
  obtain ⟨z2, e2⟩ : ∃ z, decide (1 ≤ g.s ∧ g.s ≤ 8) = z := ⟨_, rfl⟩
  obtain ⟨z3, e3⟩ : ∃ z, decide (1 ≤ g.y ∧ g.y ≤ 4) = z := ⟨_, rfl⟩
  obtain ⟨z4, e4⟩ : ∃ z, decide (0 ≤ g.a ∧ g.a ≤ 200) = z := ⟨_, rfl⟩
  have C1 := CW _ _ _ _ e1
  have C2 := CW _ _ _ _ e2
  have C3 := CW _ _ _ _ e3
  have C4 := CW _ _ _ _ e4
  by_cases hs : g.shape
  · obtain ⟨b1, b2, b3, b4, b5, b6⟩ := Geo.bounds hs
    obtain ⟨h1, h2, h3, h4, h5, h6, h7, h8⟩ := hs
    obtain rfl : z1 = true := by rw [← e1]; exact decide_eq_true ⟨h1, h2⟩
    obtain rfl : z2 = true := by rw [← e2]; exact decide_eq_true ⟨h3, h4⟩
    obtain rfl : z3 = true := by rw [← e3]; exact decide_eq_true ⟨h5, h6⟩
    obtain rfl : z4 = true := by rw [← e4]; exact decide_eq_true ⟨h7, h8⟩
    obtain ⟨z5, e5⟩ : ∃ z, decide (g.pgs + 2 ≤ g.r ∧ g.r ≤ 256) = z := ⟨_, rfl⟩
    have C5 := CW _ _ _ _ e5
    have C6 : Hid (∀ x : Ext W, Calls Tryz.prog 58 #[.agg g.v] x.1 fun e w'' => e = .returned (.int .i64 g.bts) ∧ ∃ y : Ext W, w'' = y.1) := fun x => calls_ext x (gmState g ⟨h1, h2, h3, h4, h5, h6, h7, h8⟩ x.1)
    have C7 : Hid (∀ x : Ext W, Calls Tryz.prog 64 #[.int .i64 g.bts] x.1 fun e w'' => e = .returned (.int .i64 g.pgs) ∧ ∃ y : Ext W, w'' = y.1) := fun x => (pgCount g.bts x.1 (by omega) (by omega)).mono fun e w'' ⟨h1, h2⟩ => ⟨h1, x, h2⟩
    have hg : Hid (decide g.good = z5) := by
      show _ = _
      rw [← e5, decide_eq_decide]
      exact ⟨fun h => h.2, fun h => ⟨⟨h1, h2, h3, h4, h5, h6, h7, h8⟩, h⟩⟩
    obtain ⟨P, hP⟩ : ∃ n, g.pgs = n := ⟨_, rfl⟩
    obtain ⟨T, hT⟩ : ∃ n, g.bts = n := ⟨_, rfl⟩
    obtain ⟨R, hR⟩ : ∃ n, g.r = n := ⟨_, rfl⟩
    rw [hP, hT] at C7
    rw [hT] at C6
    rw [hP, hR] at C5
    rw [hR] at c4
    rw [hP] at b5 b6
    clear r b1 b2 b3 b4 hP hT hR e1 e2 e3 e4 e5 CW hi h1 h2 h3 h4 h5 h6 h7 h8
    go_enter Tryz.func32, Tryz.ntmps32
    go_wp2_with fail
    refine region_ext (by kernel_rfl) (by kernel_rfl) ?_
    repeat (go_big_quiet_step (with_reducible (first | exact C1.out _ | exact C2.out _ | exact C3.out _ | exact C4.out _ | exact C5.out _ | exact C6.out _ | exact C7.out _)))
    refine wpQuiet_nil ?_
    intro x
    have HX : Hid (Below w.heap.size w x.1) := HB.out.trans (x.2.mono HB.out.size)
    clear LG c0 c1 c2 c3 c4
    go_wp2_with fail
    go_ret
    rw [hg.out]
    exact ⟨rfl, HX.out⟩
  · have hg : Hid (decide g.good = false) := decide_eq_false (fun h => hs h.1)
    have hc : z1 = false ∨ (z1 = true ∧ z2 = false) ∨ (z1 = true ∧ z2 = true ∧ z3 = false) ∨ (z1 = true ∧ z2 = true ∧ z3 = true ∧ z4 = false) := by
      cases z1 with
      | false => exact .inl rfl
      | true =>
        cases z2 with
        | false => exact .inr (.inl ⟨rfl, rfl⟩)
        | true =>
          cases z3 with
          | false => exact .inr (.inr (.inl ⟨rfl, rfl, rfl⟩))
          | true =>
            cases z4 with
            | false => exact .inr (.inr (.inr ⟨rfl, rfl, rfl, rfl⟩))
            | true =>
              have a1 := of_decide_eq_true e1
              have a2 := of_decide_eq_true e2
              have a3 := of_decide_eq_true e3
              have a4 := of_decide_eq_true e4
              exact absurd ⟨a1.1, a1.2, a2.1, a2.2, a3.1, a3.2, a4⟩ hs
    clear e1 e2 e3 e4 CW hi hs r
    rcases hc with rfl | ⟨rfl, rfl⟩ | ⟨rfl, rfl, rfl⟩ | ⟨rfl, rfl, rfl, rfl⟩
    all_goals
      go_enter Tryz.func32, Tryz.ntmps32
      go_wp2_with fail
      refine region_ext (by kernel_rfl) (by kernel_rfl) ?_
      repeat (go_big_quiet_step (with_reducible (first | exact C1.out _ | exact C2.out _ | exact C3.out _ | exact C4.out _)))
      refine wpQuiet_nil ?_
      intro x
      have HX : Hid (Below w.heap.size w x.1) := HB.out.trans (x.2.mono HB.out.size)
      clear LG c0 c1 c2 c3 c4
      go_wp2_with fail
      go_ret
      rw [hg.out]
      exact ⟨rfl, HX.out⟩
set_option maxRecDepth 100000 in
theorem gmBytes (g : Geo) (hi : g.In) (w : World) : Calls Tryz.prog 21 #[.agg g.v] w fun e w' => e = .returned (.int .i64 g.oB) ∧ Below w.heap.size w w' := by
  obtain ⟨W, hW⟩ : ∃ W, w.alloc (.cells g.v 23) = W := ⟨_, rfl⟩
  have r : RowC W w.heap.size 23 g.cs := by rw [← hW]; exact RowC.new w _ _
  have HB : Hid (Below w.heap.size w W) := by show Below _ _ _; rw [← hW]; exact below_new w _
  obtain ⟨B, hB⟩ : ∃ b, w.heap.size = b := ⟨_, rfl⟩
  rw [hB] at r
  have HR := Lib.hid r
  have HG := Lib.hid (gmGood g hi W)
  have L0 := load_geo r
  clear r hi
  by_cases hg : g.good
  · have HS := Lib.hid (gmState g hg.1)
    have hv : Hid (g.oB = g.bts) := if_pos hg
    rw [decide_eq_true hg] at HG
    clear hg
    go_enter Tryz.func21, Tryz.ntmps21
    go_wp2_with fail
    refine HG.out.mono ?_
    rintro e x ⟨rfl, hb⟩
    have L1 := load_geo (HR.out.below hb)
    have HBX : Hid (Below w.heap.size w x) := HB.out.trans (hb.mono HB.out.size)
    clear hb L0
    go_wp2_with fail
    refine (HS.out _).mono ?_
    rintro e y ⟨rfl, hb⟩
    have HBY : Hid (Below w.heap.size w y) := HBX.out.trans (hb.mono HBX.out.size)
    clear hb L1
    go_wp2_with fail
    go_ret
    rw [hv.out]
    exact ⟨rfl, HBY.out⟩
  · have hv : Hid (g.oB = 0) := if_neg hg
    rw [decide_eq_false hg] at HG
    clear hg
    go_enter Tryz.func21, Tryz.ntmps21
    go_wp2_with fail
    refine HG.out.mono ?_
    rintro e x ⟨rfl, hb⟩
    have HBX : Hid (Below w.heap.size w x) := HB.out.trans (hb.mono HB.out.size)
    clear hb L0
    go_wp2_with fail
    go_ret
    rw [hv.out]
    exact ⟨rfl, HBX.out⟩
theorem Geo.oB_bd (g : Geo) : 0 ≤ g.oB ∧ g.oB ≤ 714 := by
  unfold Geo.oB
  by_cases hg : g.good
  · rw [if_pos hg]
    obtain ⟨b1, b2, b3, b4, b5, b6⟩ := Geo.bounds hg.1
    omega
  · rw [if_neg hg]; omega
end
end Go.Proofs.YtajamblkjmafmaaGreat

/- The program's state: goodPlan and Good. -/
namespace Go.Proofs.YtajamblkjmafmaaGreat
open Go.RowKit Go.Shelf Go.Lib
set_option linter.unusedVariables false
set_option linter.unusedSimpArgs false
attribute [-simp] Tryz.isAgg55 Tryz.zeroValue55 Tryz.isAgg57 Tryz.zeroValue57 Tryz.isAgg30 Tryz.zeroValue30
attribute [-go_sem] loadVar storeVar
attribute [local go_sem] loadVar_openQ storeVar_openQ zero_sn zero_prs zero_st

set_option maxRecDepth 100000 in
set_option maxHeartbeats 4000000 in
/-- **goodPlan**, where the snapshots may be. -/
theorem sg_plan {w : World} {q : PS} {l : List SN} {ps : List (Int × Int)} (g : SG) (hg : g.Ok) (r : Int) (h : StIs w q l ps) (hK : Lens 1000 l) (hp : ps.length ≤ 1000) (hl : cGood l (g.b : Int) (g.a : Int) = true) :
    Calls Tryz.prog 44 #[.agg (g.v r), stV q] w fun e w' => e = .returned (.bool (sPlan g ⟨[], l, q.nx, q.kd, q.id, ps⟩)) ∧ Below w.heap.size w w' := by
  have hmx : Tryz.prog.follows .mixedOrders = true := by kernel_rfl
  obtain ⟨⟨qd, qdn, qdc⟩, ⟨qs, qsn, qsc⟩, nx, kd, id, ⟨qp, qpn, qpc⟩⟩ := q
  have HPI : Hid (sPlan g ⟨[], l, nx, kd, id, ps⟩ = gPlan g ⟨[], l, nx, kd, id, ps⟩) := (plan_is hg (s := ⟨[], l, nx, kd, id, ps⟩) hl).symm
  simp only [stV, stL, slV]
  have hsn := h.sn
  have hpr := h.pr
  simp only [slV] at hsn hpr
  obtain ⟨B, hB⟩ : ∃ B, w.heap.size = B := ⟨_, rfl⟩
  obtain ⟨W1, hW1⟩ : ∃ W, w.alloc (.cells (g.v r) 23) = W := ⟨_, rfl⟩
  obtain ⟨W2, hW2⟩ : ∃ W, W1.alloc (.cells #[.slice qd qdn qdc, .slice qs qsn qsc, .int .i64 nx, .int .i64 kd, .int .i64 id, .slice qp qpn qpc] 30) = W := ⟨_, rfl⟩
  obtain ⟨W3, hW3⟩ : ∃ W, W2.alloc (.cells #[.int .i64 kd, .int .i64 id, .slice qp qpn qpc] 28) = W := ⟨_, rfl⟩
  have s1 : W1.heap.size = B + 1 := by rw [← hW1, ← hB]; simp
  have s2 : W2.heap.size = B + 2 := by rw [← hW2, World.size_alloc, s1]
  have s3 : W3.heap.size = B + 3 := by rw [← hW3, World.size_alloc, s2]
  have r1 : RowC W1 B 23 [.int .i64 (g.b : Int), .int .i64 (g.s : Int), .int .i64 (g.y : Int), .int .i64 (g.a : Int), .int .i64 r] := by rw [← hW1, ← hB]; exact RowC.new _ _ _
  have r2 : RowC W2 (B + 1) 30 [.slice qd qdn qdc, .slice qs qsn qsc, .int .i64 nx, .int .i64 kd, .int .i64 id, .slice qp qpn qpc] := by rw [← hW2, ← s1]; exact RowC.new _ _ _
  have r3 : RowC W3 (B + 2) 28 [.int .i64 kd, .int .i64 id, .slice qp qpn qpc] := by rw [← hW3, ← s2]; exact RowC.new _ _ _
  have b1 : Below B w W1 := by rw [← hW1, ← hB]; exact below_new _ _
  have b2 : Below W1.heap.size W1 W2 := by rw [← hW2]; exact below_new _ _
  have b3 : Below W2.heap.size W2 W3 := by rw [← hW3]; exact below_new _ _
  have b12 : Below B w W2 := b1.trans (b2.mono (by omega))
  have b13 : Below B w W3 := b12.trans (b3.mono (by omega))
  have HBF : Hid (∀ x : World, Below W3.heap.size W3 x → Below B w x) := fun x hx => b13.trans (hx.mono (by omega))
  have q0 : ∀ z : Ext W3, z.1.cell? ⟨B, 0, none⟩ = some (.int .i64 (g.b : Int)) := fun z => (((r1.below b2).below b3).below z.2).cell 0 _ rfl
  have q1 : ∀ z : Ext W3, z.1.cell? ⟨B, 1, none⟩ = some (.int .i64 (g.s : Int)) := fun z => (((r1.below b2).below b3).below z.2).cell 1 _ rfl
  have q2 : ∀ z : Ext W3, z.1.cell? ⟨B, 2, none⟩ = some (.int .i64 (g.y : Int)) := fun z => (((r1.below b2).below b3).below z.2).cell 2 _ rfl
  have q3 : ∀ z : Ext W3, z.1.cell? ⟨B, 3, none⟩ = some (.int .i64 (g.a : Int)) := fun z => (((r1.below b2).below b3).below z.2).cell 3 _ rfl
  have q4 : ∀ z : Ext W3, z.1.cell? ⟨B, 4, none⟩ = some (.int .i64 r) := fun z => (((r1.below b2).below b3).below z.2).cell 4 _ rfl
  have p1 : ∀ z : Ext W3, z.1.cell? ⟨B + 1, 1, none⟩ = some (.slice qs qsn qsc) := fun z => ((r2.below b3).below z.2).cell 1 _ rfl
  have p2 : ∀ z : Ext W3, z.1.cell? ⟨B + 1, 2, none⟩ = some (.int .i64 nx) := fun z => ((r2.below b3).below z.2).cell 2 _ rfl
  have m1 : ∀ z : Ext W3, z.1.cell? ⟨B + 2, 1, none⟩ = some (.int .i64 id) := fun z => (r3.below z.2).cell 1 _ rfl
  have m2 : ∀ z : Ext W3, z.1.cell? ⟨B + 2, 2, none⟩ = some (.slice qp qpn qpc) := fun z => (r3.below z.2).cell 2 _ rfl
  have k0 := r3.cell 0 _ rfl
  have k1 := r3.cell 1 _ rfl
  have k2 := r3.cell 2 _ rfl
  have e3 := r2.cell 3 _ rfl
  have e4 := r2.cell 4 _ rfl
  have e5 := r2.cell 5 _ rfl
  have KSn : Hid (∀ x : World, Below W3.heap.size W3 x → Snp x (.slice qs qsn qsc) l) := fun x hx => hsn.below (by rw [hB]; exact HBF.out x hx)
  have KPr : Hid (∀ x : World, Below W3.heap.size W3 x → Prt x (.slice qp qpn qpc) ps) := fun x hx => hpr.below (by rw [hB]; exact HBF.out x hx)
  have HKL := Lib.hid hK
  have HPN : Hid (qpn = ps.length) := by obtain ⟨a', c', e, -⟩ := hpr; cases e; rfl
  have HSN : Hid (qsn = l.length) := by obtain ⟨r', a', c', e, -⟩ := hsn; cases e; rfl
  have hqp : qpn ≤ 1000 := by rw [HPN.out]; exact hp
  have hqs : qsn ≤ 1000 := by rw [HSN.out]; exact hK.1
  have HSZ := Lib.hid hB
  have ha := hg.a200
  have hbb := hg.b64
  have HGO := Lib.hid hg
  have HI : Hid (∀ x : World, Below W3.heap.size W3 x → Calls Tryz.prog 84 #[.slice qs qsn qsc, .int .i64 id] x fun e w' => e = .returned (.int .i64 (cIndex l id)) ∧ Below x.heap.size x w') := fun x hx => ch_index (KSn.out x hx) id
  have HRI : Hid (∀ x : World, Below W3.heap.size W3 x → Calls Tryz.prog 85 #[.slice qp qpn qpc, .int .i64 (g.b : Int)] x fun e w' => e = .returned (.bool (gRise g.b ps)) ∧ Below x.heap.size x w') := fun x hx => sg_rising (KPr.out x hx) hp g.b hg.b1 hg.b64
  have HHD : Hid (∀ x : World, Below W3.heap.size W3 x → Calls Tryz.prog 87 #[.agg #[.int .i64 (g.b : Int), .int .i64 (g.s : Int), .int .i64 (g.y : Int), .int .i64 (g.a : Int), .int .i64 r], .slice qs qsn qsc] x fun e w' => ∃ u, e = .returned u ∧ Sl .u8 w' u (heldS g l) ∧ Below x.heap.size x w') := fun x hx => sg_held g HGO.out r (KSn.out x hx) HKL.out
  have HCO : Hid (∀ x : World, Below W3.heap.size W3 x → Calls Tryz.prog 88 #[.slice qs qsn qsc] x fun e w' => e = .returned (.bool (gFull l)) ∧ Below x.heap.size x w') := fun x hx => sg_complete (KSn.out x hx) HKL.out
  have HAH : Hid (∀ (x : World) (u : Value), Below W3.heap.size W3 x → Sl .u8 x u (heldS g l) → Calls Tryz.prog 86 #[.slice qp qpn qpc, u] x fun e w' => e = .returned (.bool (gHeld (heldS g l) ps)) ∧ Below x.heap.size x w') := fun x u hx hu => sg_allHeld (KPr.out x hx) hp hu (heldS_bytes g l)
  have HAA : Hid (∀ (x : World) (u : Value), Below W3.heap.size W3 x → Sl .u8 x u (heldS g l) → Calls Tryz.prog 89 #[.agg #[.int .i64 (g.b : Int), .int .i64 (g.s : Int), .int .i64 (g.y : Int), .int .i64 (g.a : Int), .int .i64 r], .slice qp qpn qpc, u] x fun e w' => e = .returned (.bool (gApart g (heldS g l) ps)) ∧ Below x.heap.size x w') := fun x u hx hu => sg_allApart g HGO.out r (KPr.out x hx) hp hu (heldS_bytes g l) (by rw [heldS_len]; have := sizeB_le200 HGO.out; omega)
  have HWI : Hid (∀ x : World, Calls Tryz.prog 76 #[.int .i64 id, .int .i64 nx, .int .i64 1000000] x fun e w' => e = .returned (.bool (decide (nx ≤ id ∧ id ≤ 1000000))) ∧ w' = x) := fun x => sg_within id nx 1000000 x
  have K0 : Hid (Below W3.heap.size W3 W3.drew) := (Below.refl _ W3).drew
  rw [hB]
  clear h hsn hpr hK hp r1 r2 r3 b1 b2 b3 b12 b13 hl hg
  unfold SG.v at *
  by_cases d0 : kd = 0
  · subst d0
    have HF : Hid (Below B w W3) := HBF.out _ (Below.refl _ _)
    have E0 : Hid (sPlan g ⟨[], l, nx, 0, id, ps⟩ = ((id == 0) && ((qpn : Int) == 0))) := by
      show _ = _
      rw [HPN.out]
      unfold sPlan
      by_cases h : ps.length = 0 <;> simp [h]
    clear q0 q1 q2 q3 q4 p1 p2 m1 m2
    by_cases d1 : id = 0
    · subst d1
      go_enter Tryz.func44, Tryz.ntmps44
      go_wp2_with fail
      go_ret
      rw [E0.out]
      exact ⟨rfl, HF.out⟩
    · have g1 : (id == 0) = false := by simpa using d1
      rw [g1] at E0
      clear d1
      go_enter Tryz.func44, Tryz.ntmps44
      go_wp2_with fail
      go_ret
      rw [E0.out]
      exact ⟨rfl, HF.out⟩
  · have g0 : (kd == 0) = false := by simpa using d0
    by_cases d1 : kd = 1
    · subst d1
      have E0 : Hid (sPlan g ⟨[], l, nx, 1, id, ps⟩ = (decide (0 ≤ cIndex l id) && (gRise g.b ps && gHeld (heldS g l) ps))) := HPI.out
      clear d0 HPI
      obtain ⟨i0, hi0⟩ : ∃ i, cIndex l id = i := ⟨_, rfl⟩
      obtain ⟨v1, hv1⟩ : ∃ i, decide (0 ≤ i0) = i := ⟨_, rfl⟩
      obtain ⟨v2, hv2⟩ : ∃ i, gRise g.b ps = i := ⟨_, rfl⟩
      obtain ⟨v3, hv3⟩ : ∃ i, gHeld (heldS g l) ps = i := ⟨_, rfl⟩
      rw [hi0] at E0 HI
      rw [hv1, hv2, hv3] at E0
      rw [hv2] at HRI
      rw [hv3] at HAH
      clear hi0 hv2 hv3
      cases v1 with
      | false =>
        go_enter Tryz.func44, Tryz.ntmps44
        go_wp2_with fail
        refine region_plan (fun x => ∃ y : Ext W3, x = y.1) 21 (.takes [0, 1, 2, 3] (.one 4 (.takes [5, 6, 7, 8, 9, 10] (.one 11 (.takes [12, 13, 14, 15, 16, 17, 18] (.one 19 (.one 20 .leaf))))))) hmx (by kernel_rfl) (by intro c x v a w h; cases x <;> exact h) ⟨⟨W3.drew, (Below.refl _ W3).drew⟩, rfl⟩ ?_
        repeat (rw [wpPlan_takes_cons]; simp only [nth_zero, nth_succ]; go_big_quiet_step (fail); try (with_reducible refine wpQuiet_nil ?_))
        rw [wpPlan_takes_nil]
        rw [wpPlan_one]
        simp only [nth_zero, nth_succ]
        go_wp2_with fail
        go_at_call 84
        refine (HI.out _ (K0.out)).mono ?_
        rintro e y1 ⟨rfl, hb1⟩
        have K1 : Hid (Below W3.heap.size W3 y1) := (K0.out).trans (hb1.mono (K0.out).size)
        clear hb1
        go_wp2_with fail
        refine planPost_mk ⟨⟨y1, K1.out⟩, rfl⟩ ?_
        repeat (rw [wpPlan_takes_cons]; simp only [nth_zero, nth_succ]; go_big_quiet_step (fail); try (with_reducible refine wpQuiet_nil ?_))
        rw [wpPlan_takes_nil]
        rw [wpPlan_one]
        simp only [nth_zero, nth_succ]
        go_wp2_with fail
        refine planPost_mk ⟨⟨y1, K1.out⟩, rfl⟩ ?_
        repeat (rw [wpPlan_takes_cons]; simp only [nth_zero, nth_succ]; go_big_quiet_step (fail); try (with_reducible refine wpQuiet_nil ?_))
        rw [wpPlan_takes_nil]
        rw [wpPlan_one]
        simp only [nth_zero, nth_succ]
        go_wp2_with fail
        refine planPost_mk ⟨⟨y1, K1.out⟩, rfl⟩ ?_
        rw [wpPlan_one]
        simp only [nth_zero, nth_succ]
        go_wp2_with fail
        refine planPost_mk ⟨⟨y1, K1.out⟩, rfl⟩ ?_
        rw [wpPlan_leaf]
        simp only [List.drop_succ_cons, List.drop_zero]
        have HF : Hid (Below B w y1) := HBF.out _ (K1.out)
        clear q0 q1 q2 q3 q4 p1 p2 m1 m2
        go_wp2_with fail
        go_ret
        rw [E0.out]
        exact ⟨rfl, HF.out⟩
      | true =>
        cases v2 with
        | false =>
          go_enter Tryz.func44, Tryz.ntmps44
          go_wp2_with fail
          refine region_plan (fun x => ∃ y : Ext W3, x = y.1) 21 (.takes [0, 1, 2, 3] (.one 4 (.takes [5, 6, 7, 8, 9, 10] (.one 11 (.takes [12, 13, 14, 15, 16, 17, 18] (.one 19 (.one 20 .leaf))))))) hmx (by kernel_rfl) (by intro c x v a w h; cases x <;> exact h) ⟨⟨W3.drew, (Below.refl _ W3).drew⟩, rfl⟩ ?_
          repeat (rw [wpPlan_takes_cons]; simp only [nth_zero, nth_succ]; go_big_quiet_step (fail); try (with_reducible refine wpQuiet_nil ?_))
          rw [wpPlan_takes_nil]
          rw [wpPlan_one]
          simp only [nth_zero, nth_succ]
          go_wp2_with fail
          go_at_call 84
          refine (HI.out _ (K0.out)).mono ?_
          rintro e y1 ⟨rfl, hb1⟩
          have K1 : Hid (Below W3.heap.size W3 y1) := (K0.out).trans (hb1.mono (K0.out).size)
          clear hb1
          go_wp2_with fail
          refine planPost_mk ⟨⟨y1, K1.out⟩, rfl⟩ ?_
          repeat (rw [wpPlan_takes_cons]; simp only [nth_zero, nth_succ]; go_big_quiet_step (fail); try (with_reducible refine wpQuiet_nil ?_))
          rw [wpPlan_takes_nil]
          rw [wpPlan_one]
          simp only [nth_zero, nth_succ]
          go_wp2_with fail
          go_at_call 85
          refine (HRI.out _ (K1.out)).mono ?_
          rintro e y2 ⟨rfl, hb2⟩
          have K2 : Hid (Below W3.heap.size W3 y2) := (K1.out).trans (hb2.mono (K1.out).size)
          clear hb2
          go_wp2_with fail
          refine planPost_mk ⟨⟨y2, K2.out⟩, rfl⟩ ?_
          repeat (rw [wpPlan_takes_cons]; simp only [nth_zero, nth_succ]; go_big_quiet_step (fail); try (with_reducible refine wpQuiet_nil ?_))
          rw [wpPlan_takes_nil]
          rw [wpPlan_one]
          simp only [nth_zero, nth_succ]
          go_wp2_with fail
          refine planPost_mk ⟨⟨y2, K2.out⟩, rfl⟩ ?_
          rw [wpPlan_one]
          simp only [nth_zero, nth_succ]
          go_wp2_with fail
          refine planPost_mk ⟨⟨y2, K2.out⟩, rfl⟩ ?_
          rw [wpPlan_leaf]
          simp only [List.drop_succ_cons, List.drop_zero]
          have HF : Hid (Below B w y2) := HBF.out _ (K2.out)
          clear q0 q1 q2 q3 q4 p1 p2 m1 m2
          go_wp2_with fail
          go_ret
          rw [E0.out]
          exact ⟨rfl, HF.out⟩
        | true =>
          go_enter Tryz.func44, Tryz.ntmps44
          go_wp2_with fail
          refine region_plan (fun x => ∃ y : Ext W3, x = y.1) 21 (.takes [0, 1, 2, 3] (.one 4 (.takes [5, 6, 7, 8, 9, 10] (.one 11 (.takes [12, 13, 14, 15, 16, 17, 18] (.one 19 (.one 20 .leaf))))))) hmx (by kernel_rfl) (by intro c x v a w h; cases x <;> exact h) ⟨⟨W3.drew, (Below.refl _ W3).drew⟩, rfl⟩ ?_
          repeat (rw [wpPlan_takes_cons]; simp only [nth_zero, nth_succ]; go_big_quiet_step (fail); try (with_reducible refine wpQuiet_nil ?_))
          rw [wpPlan_takes_nil]
          rw [wpPlan_one]
          simp only [nth_zero, nth_succ]
          go_wp2_with fail
          go_at_call 84
          refine (HI.out _ (K0.out)).mono ?_
          rintro e y1 ⟨rfl, hb1⟩
          have K1 : Hid (Below W3.heap.size W3 y1) := (K0.out).trans (hb1.mono (K0.out).size)
          clear hb1
          go_wp2_with fail
          refine planPost_mk ⟨⟨y1, K1.out⟩, rfl⟩ ?_
          repeat (rw [wpPlan_takes_cons]; simp only [nth_zero, nth_succ]; go_big_quiet_step (fail); try (with_reducible refine wpQuiet_nil ?_))
          rw [wpPlan_takes_nil]
          rw [wpPlan_one]
          simp only [nth_zero, nth_succ]
          go_wp2_with fail
          go_at_call 85
          refine (HRI.out _ (K1.out)).mono ?_
          rintro e y2 ⟨rfl, hb2⟩
          have K2 : Hid (Below W3.heap.size W3 y2) := (K1.out).trans (hb2.mono (K1.out).size)
          clear hb2
          go_wp2_with fail
          refine planPost_mk ⟨⟨y2, K2.out⟩, rfl⟩ ?_
          repeat (rw [wpPlan_takes_cons]; simp only [nth_zero, nth_succ]; go_big_quiet_step (fail); try (with_reducible refine wpQuiet_nil ?_))
          rw [wpPlan_takes_nil]
          rw [wpPlan_one]
          simp only [nth_zero, nth_succ]
          go_wp2_with fail
          go_at_call 87
          refine (HHD.out _ (K2.out)).mono ?_
          rintro e y3 ⟨u, rfl, hu, hb3⟩
          have HU := Lib.hid hu
          have K3 : Hid (Below W3.heap.size W3 y3) := (K2.out).trans (hb3.mono (K2.out).size)
          clear hu hb3
          go_wp2_with fail
          refine planPost_mk ⟨⟨y3, K3.out⟩, rfl⟩ ?_
          rw [wpPlan_one]
          simp only [nth_zero, nth_succ]
          go_wp2_with fail
          go_at_call 86
          refine (HAH.out _ _ (K3.out) HU.out).mono ?_
          rintro e y4 ⟨rfl, hb4⟩
          have K4 : Hid (Below W3.heap.size W3 y4) := (K3.out).trans (hb4.mono (K3.out).size)
          clear hb4
          go_wp2_with fail
          refine planPost_mk ⟨⟨y4, K4.out⟩, rfl⟩ ?_
          rw [wpPlan_leaf]
          simp only [List.drop_succ_cons, List.drop_zero]
          have HF : Hid (Below B w y4) := HBF.out _ (K4.out)
          clear q0 q1 q2 q3 q4 p1 p2 m1 m2
          go_wp2_with fail
          go_ret
          rw [E0.out]
          exact ⟨rfl, HF.out⟩
    · have g1 : (kd == 1) = false := by simpa using d1
      by_cases d2 : kd = 2
      · subst d2
        have E0 : Hid (sPlan g ⟨[], l, nx, 2, id, ps⟩ = (decide (qsn < 8) && (gFull l && (decide (nx ≤ id ∧ id ≤ 1000000) && (gRise g.b ps && gApart g (heldS g l) ps))))) := by show _ = _; rw [HPI.out, HSN.out]; rfl
        clear d0 HPI
        obtain ⟨v0, hv0⟩ : ∃ i, decide (qsn < 8) = i := ⟨_, rfl⟩
        obtain ⟨v1, hv1⟩ : ∃ i, gFull l = i := ⟨_, rfl⟩
        obtain ⟨v2, hv2⟩ : ∃ i, decide (nx ≤ id ∧ id ≤ 1000000) = i := ⟨_, rfl⟩
        obtain ⟨v3, hv3⟩ : ∃ i, gRise g.b ps = i := ⟨_, rfl⟩
        obtain ⟨v4, hv4⟩ : ∃ i, gApart g (heldS g l) ps = i := ⟨_, rfl⟩
        have g3 : decide ((qsn : Int) < 8) = v0 := by rw [← hv0, Bool.eq_iff_iff]; simp; omega
        rw [hv0, hv1, hv2, hv3, hv4] at E0
        rw [hv1] at HCO
        rw [hv2] at HWI
        rw [hv3] at HRI
        rw [hv4] at HAA
        clear hv1 hv2 hv3 hv4 d1
        cases v0 with
        | false =>
          go_enter Tryz.func44, Tryz.ntmps44
          go_wp2_with fail
          refine region_plan (fun x => ∃ y : Ext W3, x = y.1) 32 (.takes [0, 1, 2, 3, 4, 5, 6] (.one 7 (.takes [8, 9, 10, 11, 12, 13] (.one 14 (.takes [15, 16, 17, 18, 19, 20] (.one 21 (.takes [22, 23, 24, 25, 26, 27, 28, 29] (.one 30 (.one 31 .leaf))))))))) hmx (by kernel_rfl) (by intro c x v a w h; cases x <;> exact h) ⟨⟨W3.drew, (Below.refl _ W3).drew⟩, rfl⟩ ?_
          repeat (rw [wpPlan_takes_cons]; simp only [nth_zero, nth_succ]; go_big_quiet_step (fail); try (with_reducible refine wpQuiet_nil ?_))
          rw [wpPlan_takes_nil]
          rw [wpPlan_one]
          simp only [nth_zero, nth_succ]
          go_wp2_with fail
          refine planPost_mk ⟨⟨W3.drew, K0.out⟩, rfl⟩ ?_
          repeat (rw [wpPlan_takes_cons]; simp only [nth_zero, nth_succ]; go_big_quiet_step (fail); try (with_reducible refine wpQuiet_nil ?_))
          rw [wpPlan_takes_nil]
          rw [wpPlan_one]
          simp only [nth_zero, nth_succ]
          go_wp2_with fail
          refine planPost_mk ⟨⟨W3.drew, K0.out⟩, rfl⟩ ?_
          repeat (rw [wpPlan_takes_cons]; simp only [nth_zero, nth_succ]; go_big_quiet_step (fail); try (with_reducible refine wpQuiet_nil ?_))
          rw [wpPlan_takes_nil]
          rw [wpPlan_one]
          simp only [nth_zero, nth_succ]
          go_wp2_with fail
          refine planPost_mk ⟨⟨W3.drew, K0.out⟩, rfl⟩ ?_
          repeat (rw [wpPlan_takes_cons]; simp only [nth_zero, nth_succ]; go_big_quiet_step (fail); try (with_reducible refine wpQuiet_nil ?_))
          rw [wpPlan_takes_nil]
          rw [wpPlan_one]
          simp only [nth_zero, nth_succ]
          go_wp2_with fail
          refine planPost_mk ⟨⟨W3.drew, K0.out⟩, rfl⟩ ?_
          rw [wpPlan_one]
          simp only [nth_zero, nth_succ]
          go_wp2_with fail
          refine planPost_mk ⟨⟨W3.drew, K0.out⟩, rfl⟩ ?_
          rw [wpPlan_leaf]
          simp only [List.drop_succ_cons, List.drop_zero]
          have HF : Hid (Below B w W3.drew) := HBF.out _ (K0.out)
          clear q0 q1 q2 q3 q4 p1 p2 m1 m2
          go_wp2_with fail
          go_ret
          rw [E0.out]
          exact ⟨rfl, HF.out⟩
        | true =>
          cases v1 with
          | false =>
            go_enter Tryz.func44, Tryz.ntmps44
            go_wp2_with fail
            refine region_plan (fun x => ∃ y : Ext W3, x = y.1) 32 (.takes [0, 1, 2, 3, 4, 5, 6] (.one 7 (.takes [8, 9, 10, 11, 12, 13] (.one 14 (.takes [15, 16, 17, 18, 19, 20] (.one 21 (.takes [22, 23, 24, 25, 26, 27, 28, 29] (.one 30 (.one 31 .leaf))))))))) hmx (by kernel_rfl) (by intro c x v a w h; cases x <;> exact h) ⟨⟨W3.drew, (Below.refl _ W3).drew⟩, rfl⟩ ?_
            repeat (rw [wpPlan_takes_cons]; simp only [nth_zero, nth_succ]; go_big_quiet_step (fail); try (with_reducible refine wpQuiet_nil ?_))
            rw [wpPlan_takes_nil]
            rw [wpPlan_one]
            simp only [nth_zero, nth_succ]
            go_wp2_with fail
            go_at_call 88
            refine (HCO.out _ (K0.out)).mono ?_
            rintro e y1 ⟨rfl, hb1⟩
            have K1 : Hid (Below W3.heap.size W3 y1) := (K0.out).trans (hb1.mono (K0.out).size)
            clear hb1
            go_wp2_with fail
            refine planPost_mk ⟨⟨y1, K1.out⟩, rfl⟩ ?_
            repeat (rw [wpPlan_takes_cons]; simp only [nth_zero, nth_succ]; go_big_quiet_step (fail); try (with_reducible refine wpQuiet_nil ?_))
            rw [wpPlan_takes_nil]
            rw [wpPlan_one]
            simp only [nth_zero, nth_succ]
            go_wp2_with fail
            refine planPost_mk ⟨⟨y1, K1.out⟩, rfl⟩ ?_
            repeat (rw [wpPlan_takes_cons]; simp only [nth_zero, nth_succ]; go_big_quiet_step (fail); try (with_reducible refine wpQuiet_nil ?_))
            rw [wpPlan_takes_nil]
            rw [wpPlan_one]
            simp only [nth_zero, nth_succ]
            go_wp2_with fail
            refine planPost_mk ⟨⟨y1, K1.out⟩, rfl⟩ ?_
            repeat (rw [wpPlan_takes_cons]; simp only [nth_zero, nth_succ]; go_big_quiet_step (fail); try (with_reducible refine wpQuiet_nil ?_))
            rw [wpPlan_takes_nil]
            rw [wpPlan_one]
            simp only [nth_zero, nth_succ]
            go_wp2_with fail
            refine planPost_mk ⟨⟨y1, K1.out⟩, rfl⟩ ?_
            rw [wpPlan_one]
            simp only [nth_zero, nth_succ]
            go_wp2_with fail
            refine planPost_mk ⟨⟨y1, K1.out⟩, rfl⟩ ?_
            rw [wpPlan_leaf]
            simp only [List.drop_succ_cons, List.drop_zero]
            have HF : Hid (Below B w y1) := HBF.out _ (K1.out)
            clear q0 q1 q2 q3 q4 p1 p2 m1 m2
            go_wp2_with fail
            go_ret
            rw [E0.out]
            exact ⟨rfl, HF.out⟩
          | true =>
            cases v2 with
            | false =>
              go_enter Tryz.func44, Tryz.ntmps44
              go_wp2_with fail
              refine region_plan (fun x => ∃ y : Ext W3, x = y.1) 32 (.takes [0, 1, 2, 3, 4, 5, 6] (.one 7 (.takes [8, 9, 10, 11, 12, 13] (.one 14 (.takes [15, 16, 17, 18, 19, 20] (.one 21 (.takes [22, 23, 24, 25, 26, 27, 28, 29] (.one 30 (.one 31 .leaf))))))))) hmx (by kernel_rfl) (by intro c x v a w h; cases x <;> exact h) ⟨⟨W3.drew, (Below.refl _ W3).drew⟩, rfl⟩ ?_
              repeat (rw [wpPlan_takes_cons]; simp only [nth_zero, nth_succ]; go_big_quiet_step (fail); try (with_reducible refine wpQuiet_nil ?_))
              rw [wpPlan_takes_nil]
              rw [wpPlan_one]
              simp only [nth_zero, nth_succ]
              go_wp2_with fail
              go_at_call 88
              refine (HCO.out _ (K0.out)).mono ?_
              rintro e y1 ⟨rfl, hb1⟩
              have K1 : Hid (Below W3.heap.size W3 y1) := (K0.out).trans (hb1.mono (K0.out).size)
              clear hb1
              go_wp2_with fail
              refine planPost_mk ⟨⟨y1, K1.out⟩, rfl⟩ ?_
              repeat (rw [wpPlan_takes_cons]; simp only [nth_zero, nth_succ]; go_big_quiet_step (fail); try (with_reducible refine wpQuiet_nil ?_))
              rw [wpPlan_takes_nil]
              rw [wpPlan_one]
              simp only [nth_zero, nth_succ]
              go_wp2_with fail
              go_at_call 76
              refine (HWI.out _).mono ?_
              rintro e y2 ⟨rfl, rfl⟩
              go_wp2_with fail
              refine planPost_mk ⟨⟨y2, K1.out⟩, rfl⟩ ?_
              repeat (rw [wpPlan_takes_cons]; simp only [nth_zero, nth_succ]; go_big_quiet_step (fail); try (with_reducible refine wpQuiet_nil ?_))
              rw [wpPlan_takes_nil]
              rw [wpPlan_one]
              simp only [nth_zero, nth_succ]
              go_wp2_with fail
              refine planPost_mk ⟨⟨y2, K1.out⟩, rfl⟩ ?_
              repeat (rw [wpPlan_takes_cons]; simp only [nth_zero, nth_succ]; go_big_quiet_step (fail); try (with_reducible refine wpQuiet_nil ?_))
              rw [wpPlan_takes_nil]
              rw [wpPlan_one]
              simp only [nth_zero, nth_succ]
              go_wp2_with fail
              refine planPost_mk ⟨⟨y2, K1.out⟩, rfl⟩ ?_
              rw [wpPlan_one]
              simp only [nth_zero, nth_succ]
              go_wp2_with fail
              refine planPost_mk ⟨⟨y2, K1.out⟩, rfl⟩ ?_
              rw [wpPlan_leaf]
              simp only [List.drop_succ_cons, List.drop_zero]
              have HF : Hid (Below B w y2) := HBF.out _ (K1.out)
              clear q0 q1 q2 q3 q4 p1 p2 m1 m2
              go_wp2_with fail
              go_ret
              rw [E0.out]
              exact ⟨rfl, HF.out⟩
            | true =>
              cases v3 with
              | false =>
                go_enter Tryz.func44, Tryz.ntmps44
                go_wp2_with fail
                refine region_plan (fun x => ∃ y : Ext W3, x = y.1) 32 (.takes [0, 1, 2, 3, 4, 5, 6] (.one 7 (.takes [8, 9, 10, 11, 12, 13] (.one 14 (.takes [15, 16, 17, 18, 19, 20] (.one 21 (.takes [22, 23, 24, 25, 26, 27, 28, 29] (.one 30 (.one 31 .leaf))))))))) hmx (by kernel_rfl) (by intro c x v a w h; cases x <;> exact h) ⟨⟨W3.drew, (Below.refl _ W3).drew⟩, rfl⟩ ?_
                repeat (rw [wpPlan_takes_cons]; simp only [nth_zero, nth_succ]; go_big_quiet_step (fail); try (with_reducible refine wpQuiet_nil ?_))
                rw [wpPlan_takes_nil]
                rw [wpPlan_one]
                simp only [nth_zero, nth_succ]
                go_wp2_with fail
                go_at_call 88
                refine (HCO.out _ (K0.out)).mono ?_
                rintro e y1 ⟨rfl, hb1⟩
                have K1 : Hid (Below W3.heap.size W3 y1) := (K0.out).trans (hb1.mono (K0.out).size)
                clear hb1
                go_wp2_with fail
                refine planPost_mk ⟨⟨y1, K1.out⟩, rfl⟩ ?_
                repeat (rw [wpPlan_takes_cons]; simp only [nth_zero, nth_succ]; go_big_quiet_step (fail); try (with_reducible refine wpQuiet_nil ?_))
                rw [wpPlan_takes_nil]
                rw [wpPlan_one]
                simp only [nth_zero, nth_succ]
                go_wp2_with fail
                go_at_call 76
                refine (HWI.out _).mono ?_
                rintro e y2 ⟨rfl, rfl⟩
                go_wp2_with fail
                refine planPost_mk ⟨⟨y2, K1.out⟩, rfl⟩ ?_
                repeat (rw [wpPlan_takes_cons]; simp only [nth_zero, nth_succ]; go_big_quiet_step (fail); try (with_reducible refine wpQuiet_nil ?_))
                rw [wpPlan_takes_nil]
                rw [wpPlan_one]
                simp only [nth_zero, nth_succ]
                go_wp2_with fail
                go_at_call 85
                refine (HRI.out _ (K1.out)).mono ?_
                rintro e y3 ⟨rfl, hb3⟩
                have K3 : Hid (Below W3.heap.size W3 y3) := (K1.out).trans (hb3.mono (K1.out).size)
                clear hb3
                go_wp2_with fail
                refine planPost_mk ⟨⟨y3, K3.out⟩, rfl⟩ ?_
                repeat (rw [wpPlan_takes_cons]; simp only [nth_zero, nth_succ]; go_big_quiet_step (fail); try (with_reducible refine wpQuiet_nil ?_))
                rw [wpPlan_takes_nil]
                rw [wpPlan_one]
                simp only [nth_zero, nth_succ]
                go_wp2_with fail
                refine planPost_mk ⟨⟨y3, K3.out⟩, rfl⟩ ?_
                rw [wpPlan_one]
                simp only [nth_zero, nth_succ]
                go_wp2_with fail
                refine planPost_mk ⟨⟨y3, K3.out⟩, rfl⟩ ?_
                rw [wpPlan_leaf]
                simp only [List.drop_succ_cons, List.drop_zero]
                have HF : Hid (Below B w y3) := HBF.out _ (K3.out)
                clear q0 q1 q2 q3 q4 p1 p2 m1 m2
                go_wp2_with fail
                go_ret
                rw [E0.out]
                exact ⟨rfl, HF.out⟩
              | true =>
                go_enter Tryz.func44, Tryz.ntmps44
                go_wp2_with fail
                refine region_plan (fun x => ∃ y : Ext W3, x = y.1) 32 (.takes [0, 1, 2, 3, 4, 5, 6] (.one 7 (.takes [8, 9, 10, 11, 12, 13] (.one 14 (.takes [15, 16, 17, 18, 19, 20] (.one 21 (.takes [22, 23, 24, 25, 26, 27, 28, 29] (.one 30 (.one 31 .leaf))))))))) hmx (by kernel_rfl) (by intro c x v a w h; cases x <;> exact h) ⟨⟨W3.drew, (Below.refl _ W3).drew⟩, rfl⟩ ?_
                repeat (rw [wpPlan_takes_cons]; simp only [nth_zero, nth_succ]; go_big_quiet_step (fail); try (with_reducible refine wpQuiet_nil ?_))
                rw [wpPlan_takes_nil]
                rw [wpPlan_one]
                simp only [nth_zero, nth_succ]
                go_wp2_with fail
                go_at_call 88
                refine (HCO.out _ (K0.out)).mono ?_
                rintro e y1 ⟨rfl, hb1⟩
                have K1 : Hid (Below W3.heap.size W3 y1) := (K0.out).trans (hb1.mono (K0.out).size)
                clear hb1
                go_wp2_with fail
                refine planPost_mk ⟨⟨y1, K1.out⟩, rfl⟩ ?_
                repeat (rw [wpPlan_takes_cons]; simp only [nth_zero, nth_succ]; go_big_quiet_step (fail); try (with_reducible refine wpQuiet_nil ?_))
                rw [wpPlan_takes_nil]
                rw [wpPlan_one]
                simp only [nth_zero, nth_succ]
                go_wp2_with fail
                go_at_call 76
                refine (HWI.out _).mono ?_
                rintro e y2 ⟨rfl, rfl⟩
                go_wp2_with fail
                refine planPost_mk ⟨⟨y2, K1.out⟩, rfl⟩ ?_
                repeat (rw [wpPlan_takes_cons]; simp only [nth_zero, nth_succ]; go_big_quiet_step (fail); try (with_reducible refine wpQuiet_nil ?_))
                rw [wpPlan_takes_nil]
                rw [wpPlan_one]
                simp only [nth_zero, nth_succ]
                go_wp2_with fail
                go_at_call 85
                refine (HRI.out _ (K1.out)).mono ?_
                rintro e y3 ⟨rfl, hb3⟩
                have K3 : Hid (Below W3.heap.size W3 y3) := (K1.out).trans (hb3.mono (K1.out).size)
                clear hb3
                go_wp2_with fail
                refine planPost_mk ⟨⟨y3, K3.out⟩, rfl⟩ ?_
                repeat (rw [wpPlan_takes_cons]; simp only [nth_zero, nth_succ]; go_big_quiet_step (fail); try (with_reducible refine wpQuiet_nil ?_))
                rw [wpPlan_takes_nil]
                rw [wpPlan_one]
                simp only [nth_zero, nth_succ]
                go_wp2_with fail
                go_at_call 87
                refine (HHD.out _ (K3.out)).mono ?_
                rintro e y4 ⟨u, rfl, hu, hb4⟩
                have HU := Lib.hid hu
                have K4 : Hid (Below W3.heap.size W3 y4) := (K3.out).trans (hb4.mono (K3.out).size)
                clear hu hb4
                go_wp2_with fail
                refine planPost_mk ⟨⟨y4, K4.out⟩, rfl⟩ ?_
                rw [wpPlan_one]
                simp only [nth_zero, nth_succ]
                go_wp2_with fail
                go_at_call 89
                refine (HAA.out _ _ (K4.out) HU.out).mono ?_
                rintro e y5 ⟨rfl, hb5⟩
                have K5 : Hid (Below W3.heap.size W3 y5) := (K4.out).trans (hb5.mono (K4.out).size)
                clear hb5
                go_wp2_with fail
                refine planPost_mk ⟨⟨y5, K5.out⟩, rfl⟩ ?_
                rw [wpPlan_leaf]
                simp only [List.drop_succ_cons, List.drop_zero]
                have HF : Hid (Below B w y5) := HBF.out _ (K5.out)
                clear q0 q1 q2 q3 q4 p1 p2 m1 m2
                go_wp2_with fail
                go_ret
                rw [E0.out]
                exact ⟨rfl, HF.out⟩
      · have g2 : (kd == 2) = false := by simpa using d2
        have HF : Hid (Below B w W3) := HBF.out _ (Below.refl _ _)
        have E0 : Hid (sPlan g ⟨[], l, nx, kd, id, ps⟩ = false) := by
          show _ = _
          unfold sPlan
          simp only
          rw [if_neg d0, if_neg d1, if_neg d2]
        clear q0 q1 q2 q3 q4 p1 p2 m1 m2 d0 d1 d2
        go_enter Tryz.func44, Tryz.ntmps44
        go_wp2_with fail
        go_ret
        rw [E0.out]
        exact ⟨rfl, HF.out⟩
end Go.Proofs.YtajamblkjmafmaaGreat

/- The program's state: Good. -/
namespace Go.Proofs.YtajamblkjmafmaaGreat
open Go.RowKit Go.Shelf Go.Lib
set_option linter.unusedVariables false
set_option linter.unusedSimpArgs false
attribute [-simp] Tryz.isAgg55 Tryz.zeroValue55 Tryz.isAgg57 Tryz.zeroValue57 Tryz.isAgg30 Tryz.zeroValue30
attribute [-go_sem] loadVar storeVar
attribute [local go_sem] loadVar_openQ storeVar_openQ zero_sn zero_prs zero_st
set_option maxRecDepth 100000 in
set_option maxHeartbeats 4000000 in
/-- **Good** where the sizes are no good. -/
theorem sg_goodN {w : World} {q : PS} (G : Geo) (hi : G.In) (hb : ¬ G.good) :
    Calls Tryz.prog 15 #[.agg G.v, stV q] w fun e w' => e = .returned (.bool false) ∧ Below w.heap.size w w' := by
  obtain ⟨⟨qd, qdn, qdc⟩, ⟨qs, qsn, qsc⟩, nx, kd, id, ⟨qp, qpn, qpc⟩⟩ := q
  simp only [stV, stL, slV]
  obtain ⟨gb, gs, gy, ga, gr⟩ := G
  have HG : Hid (∀ x : World, Calls Tryz.prog 32 #[.agg (Geo.v ⟨gb, gs, gy, ga, gr⟩)] x fun e w' => e = .returned (.bool false) ∧ Below x.heap.size x w') := fun x =>
    (gmGood ⟨gb, gs, gy, ga, gr⟩ hi x).mono fun e y hy => ⟨by rw [hy.1, decide_eq_false hb], hy.2⟩
  clear hb hi
  unfold Geo.v at *
  simp only at *
  obtain ⟨B, hB⟩ : ∃ B, w.heap.size = B := ⟨_, rfl⟩
  obtain ⟨W1, hW1⟩ : ∃ W, w.alloc (.cells #[.int .i64 gb, .int .i64 gs, .int .i64 gy, .int .i64 ga, .int .i64 gr] 23) = W := ⟨_, rfl⟩
  obtain ⟨W2, hW2⟩ : ∃ W, W1.alloc (.cells #[.slice qd qdn qdc, .slice qs qsn qsc, .int .i64 nx, .int .i64 kd, .int .i64 id, .slice qp qpn qpc] 30) = W := ⟨_, rfl⟩
  have s1 : W1.heap.size = B + 1 := by rw [← hW1, ← hB]; simp
  have r1 : RowC W1 B 23 [.int .i64 gb, .int .i64 gs, .int .i64 gy, .int .i64 ga, .int .i64 gr] := by rw [← hW1, ← hB]; exact RowC.new _ _ _
  have b1 : Below B w W1 := by rw [← hW1, ← hB]; exact below_new _ _
  have b2 : Below W1.heap.size W1 W2 := by rw [← hW2]; exact below_new _ _
  have HB : Hid (Below B w W2) := b1.trans (b2.mono (by omega))
  have t1 := r1.below b2
  have k0 := t1.cell 0 _ rfl
  have k1 := t1.cell 1 _ rfl
  have k2 := t1.cell 2 _ rfl
  have k3 := t1.cell 3 _ rfl
  have k4 := t1.cell 4 _ rfl
  have HS2 : Hid (B ≤ W2.heap.size) := by show B ≤ _; rw [← hB]; exact HB.out.size
  have HSZ := Lib.hid hB
  clear r1 b1 b2 t1
  go_enter Tryz.func15, Tryz.ntmps15
  go_wp2_with fail
  refine (HG.out W2).mono ?_
  rintro e y ⟨rfl, hy⟩
  have HY : Hid (Below B w y) := HB.out.trans (hy.mono HS2.out)
  clear hy
  go_wp2_with fail
  go_ret
  exact ⟨rfl, by rw [HSZ.out]; exact HY.out⟩

set_option maxRecDepth 100000 in
set_option maxHeartbeats 4000000 in
/-- **Good**. -/
theorem sg_good {w : World} {q : PS} {d : List Int} {l : List SN} {ps : List (Int × Int)} (g : SG) (hg : g.Ok) (r : Int) (hi : (g.geo r).In) (hr : (g.geo r).good) (hd : Sl .i64 w (slV q.d) d) (hd6 : ∀ x ∈ d, Is64 x) (h : StIs w q l ps) (hK : Lens 1000 l) (hp : ps.length ≤ 1000) :
    Calls Tryz.prog 15 #[.agg (g.v r), stV q] w fun e w' => e = .returned (.bool (sGood g ⟨d, l, q.nx, q.kd, q.id, ps⟩)) ∧ Below w.heap.size w w' := by
  have HQ := Lib.hid h
  have HD0 := Lib.hid hd
  have HPL : Hid (cGood l (g.b : Int) (g.a : Int) = true → ∀ x : World, Below w.heap.size w x → Calls Tryz.prog 44 #[.agg (g.v r), stV q] x fun e w' => e = .returned (.bool (sPlan g ⟨[], l, q.nx, q.kd, q.id, ps⟩)) ∧ Below x.heap.size x w') := fun hc x hx => sg_plan g hg r (HQ.out.below hx) hK hp hc
  have HDY : Hid (∀ x : World, Below w.heap.size w x → Calls Tryz.prog 41 #[.agg (g.v r), slV q.d] x fun e w' => e = .returned (.bool (sDirty g d)) ∧ Below x.heap.size x w') := fun x hx => sg_dirty g hg r (HD0.out.below hx) hd6
  have HCG : Hid (∀ x : World, Below w.heap.size w x → Calls Tryz.prog 42 #[slV q.sn, .int .i64 (g.b : Int), .int .i64 (g.a : Int)] x fun e w' => e = .returned (.bool (cGood l (g.b : Int) (g.a : Int))) ∧ Below x.heap.size x w') := fun x hx => ch_good (HQ.out.sn.below hx) hK (g.b : Int) (g.a : Int)
  have HNX : Hid (∀ x : World, Below w.heap.size w x → Calls Tryz.prog 43 #[stV q] x fun e w' => e = .returned (.bool (l.all (fun t => decide (t.id < q.nx)) && decide (1 ≤ q.nx ∧ q.nx ≤ 1000001))) ∧ Below x.heap.size x w') := fun x hx => sg_next (HQ.out.sn.below hx) hK.1
  have HGD : Hid (∀ x : World, Calls Tryz.prog 32 #[.agg (g.v r)] x fun e w' => e = .returned (.bool true) ∧ Below x.heap.size x w') := fun x => (gmGood (g.geo r) hi x).mono fun e y hy => ⟨by rw [hy.1, decide_eq_true hr], hy.2⟩
  have E0 : Hid (sGood g ⟨d, l, q.nx, q.kd, q.id, ps⟩ = (sDirty g d && (cGood l (g.b : Int) (g.a : Int) && ((l.all (fun t => decide (t.id < q.nx)) && decide (1 ≤ q.nx ∧ q.nx ≤ 1000001)) && sPlan g ⟨[], l, q.nx, q.kd, q.id, ps⟩)))) := by
    show (sDirty g d && cGood l (g.b : Int) (g.a : Int) && decide (1 ≤ q.nx) && decide (q.nx ≤ 1000001) && l.all (fun t => decide (t.id < q.nx)) && sPlan g ⟨[], l, q.nx, q.kd, q.id, ps⟩) = _
    rw [Bool.eq_iff_iff]
    simp only [Bool.and_eq_true, decide_eq_true_eq]
    constructor
    · rintro ⟨⟨⟨⟨⟨a, b⟩, c⟩, d⟩, e⟩, f⟩; exact ⟨a, b, ⟨e, c, d⟩, f⟩
    · rintro ⟨a, b, ⟨e, c, d⟩, f⟩; exact ⟨⟨⟨⟨⟨a, b⟩, c⟩, d⟩, e⟩, f⟩
  obtain ⟨⟨qd, qdn, qdc⟩, ⟨qs, qsn, qsc⟩, nx, kd, id, ⟨qp, qpn, qpc⟩⟩ := q
  simp only [stV, stL, slV] at *
  obtain ⟨B, hB⟩ : ∃ B, w.heap.size = B := ⟨_, rfl⟩
  obtain ⟨W1, hW1⟩ : ∃ W, w.alloc (.cells (g.v r) 23) = W := ⟨_, rfl⟩
  obtain ⟨W2, hW2⟩ : ∃ W, W1.alloc (.cells #[.slice qd qdn qdc, .slice qs qsn qsc, .int .i64 nx, .int .i64 kd, .int .i64 id, .slice qp qpn qpc] 30) = W := ⟨_, rfl⟩
  have s1 : W1.heap.size = B + 1 := by rw [← hW1, ← hB]; simp
  have r1 : RowC W1 B 23 [.int .i64 (g.b : Int), .int .i64 (g.s : Int), .int .i64 (g.y : Int), .int .i64 (g.a : Int), .int .i64 r] := by rw [← hW1, ← hB]; exact RowC.new _ _ _
  have r2 : RowC W2 (B + 1) 30 (stL ⟨(qd, qdn, qdc), (qs, qsn, qsc), nx, kd, id, (qp, qpn, qpc)⟩) := by rw [← hW2, ← s1]; exact RowC.new _ _ _
  have b1 : Below B w W1 := by rw [← hW1, ← hB]; exact below_new _ _
  have b2 : Below W1.heap.size W1 W2 := by rw [← hW2]; exact below_new _ _
  have hBF : Below B w W2 := b1.trans (b2.mono (by omega))
  have HBs : B ≤ W2.heap.size := by rw [← hB]; exact hBF.size
  have HBF : Hid (∀ x : World, Below W2.heap.size W2 x → Below B w x) := fun x hx => hBF.trans (hx.mono HBs)
  have KR : Hid (∀ x : World, Below W2.heap.size W2 x → x.cell? ⟨B, 0, none⟩ = some (.int .i64 (g.b : Int)) ∧ x.cell? ⟨B, 1, none⟩ = some (.int .i64 (g.s : Int)) ∧ x.cell? ⟨B, 2, none⟩ = some (.int .i64 (g.y : Int)) ∧ x.cell? ⟨B, 3, none⟩ = some (.int .i64 (g.a : Int)) ∧ x.cell? ⟨B, 4, none⟩ = some (.int .i64 r) ∧
      x.cell? ⟨B + 1, 0, none⟩ = some (.slice qd qdn qdc) ∧ x.cell? ⟨B + 1, 1, none⟩ = some (.slice qs qsn qsc) ∧ x.cell? ⟨B + 1, 2, none⟩ = some (.int .i64 nx)) := fun x hx => by
    have t1 := (r1.below b2).below hx
    have t2 := r2.below hx
    exact ⟨t1.cell 0 _ rfl, t1.cell 1 _ rfl, t1.cell 2 _ rfl, t1.cell 3 _ rfl, t1.cell 4 _ rfl, t2.cell 0 _ rfl, t2.cell 1 _ rfl, t2.cell 2 _ rfl⟩
  have KLS : Hid (∀ x : World, Below W2.heap.size W2 x → (loadVar 30 ⟨B + 1, 0, none⟩).run Tryz.prog x = .ok (.agg #[.slice qd qdn qdc, .slice qs qsn qsc, .int .i64 nx, .int .i64 kd, .int .i64 id, .slice qp qpn qpc]) x) := fun x hx => load_stC (r2.below hx)
  have HSZ := Lib.hid hB
  obtain ⟨v1, hv1⟩ : ∃ u, sDirty g d = u := ⟨_, rfl⟩
  obtain ⟨v2, hv2⟩ : ∃ u, cGood l (g.b : Int) (g.a : Int) = u := ⟨_, rfl⟩
  obtain ⟨v3, hv3⟩ : ∃ u, (l.all (fun t => decide (t.id < nx)) && decide (1 ≤ nx ∧ nx ≤ 1000001)) = u := ⟨_, rfl⟩
  obtain ⟨v4, hv4⟩ : ∃ u, sPlan g ⟨[], l, nx, kd, id, ps⟩ = u := ⟨_, rfl⟩
  rw [hv1] at HDY
  rw [hv2] at HCG HPL
  rw [hv3] at HNX
  rw [hv4] at HPL
  rw [hv1, hv2, hv3, hv4] at E0
  rw [hB] at HPL HDY HCG HNX ⊢
  clear h hK hp r1 r2 b1 b2 hBF hd hd6 hr HBs hv1 hv2 hv3 hv4 hi
  unfold SG.v at *
  obtain ⟨k0, k1, k2, k3, k4, k5, k6, k7⟩ := KR.out W2 (Below.refl _ _)
  go_enter Tryz.func15, Tryz.ntmps15
  go_wp2_with fail
  refine (HGD.out W2).mono ?_
  rintro e x1 ⟨rfl, hx1⟩
  have HB1 := Lib.hid hx1
  clear hx1 k0 k1 k2 k3 k4 k5 k6 k7
  obtain ⟨k0, k1, k2, k3, k4, k5, k6, k7⟩ := KR.out x1 HB1.out
  go_wp2_with fail
  refine (HDY.out x1 (HBF.out _ HB1.out)).mono ?_
  rintro e x2 ⟨rfl, hx2⟩
  have HB2 : Hid (Below W2.heap.size W2 x2) := HB1.out.trans (hx2.mono HB1.out.size)
  clear hx2 k0 k1 k2 k3 k4 k5 k6 k7
  cases v1 with
  | false =>
    have HGO : Hid (Below B w x2) := HBF.out _ HB2.out
    go_wp2_with fail
    go_ret
    rw [E0.out]
    exact ⟨rfl, HGO.out⟩
  | true =>
    obtain ⟨k0, k1, k2, k3, k4, k5, k6, k7⟩ := KR.out x2 HB2.out
    go_wp2_with fail
    refine (HCG.out x2 (HBF.out _ HB2.out)).mono ?_
    rintro e x3 ⟨rfl, hx3⟩
    have HB3 : Hid (Below W2.heap.size W2 x3) := HB2.out.trans (hx3.mono HB2.out.size)
    clear hx3 k0 k1 k2 k3 k4 k5 k6 k7
    cases v2 with
    | false =>
      have HGO : Hid (Below B w x3) := HBF.out _ HB3.out
      go_wp2_with fail
      go_ret
      rw [E0.out]
      exact ⟨rfl, HGO.out⟩
    | true =>
      obtain ⟨k0, k1, k2, k3, k4, k5, k6, k7⟩ := KR.out x3 HB3.out
      have kl := KLS.out x3 HB3.out
      go_wp2_with fail
      refine (HNX.out x3 (HBF.out _ HB3.out)).mono ?_
      rintro e x4 ⟨rfl, hx4⟩
      have HB4 : Hid (Below W2.heap.size W2 x4) := HB3.out.trans (hx4.mono HB3.out.size)
      clear hx4 k0 k1 k2 k3 k4 k5 k6 k7 kl
      cases v3 with
      | false =>
        have HGO : Hid (Below B w x4) := HBF.out _ HB4.out
        go_wp2_with fail
        go_ret
        rw [E0.out]
        exact ⟨rfl, HGO.out⟩
      | true =>
        obtain ⟨k0, k1, k2, k3, k4, k5, k6, k7⟩ := KR.out x4 HB4.out
        have kl := KLS.out x4 HB4.out
        go_wp2_with fail
        refine (HPL.out (by first | rfl | trivial) x4 (HBF.out _ HB4.out)).mono ?_
        rintro e x5 ⟨rfl, hx5⟩
        have HB5 : Hid (Below W2.heap.size W2 x5) := HB4.out.trans (hx5.mono HB4.out.size)
        clear hx5 k0 k1 k2 k3 k4 k5 k6 k7 kl
        have HGO : Hid (Below B w x5) := HBF.out _ HB5.out
        go_wp2_with fail
        go_ret
        rw [E0.out]
        exact ⟨rfl, HGO.out⟩
end Go.Proofs.YtajamblkjmafmaaGreat

/- The program's Encode of a state. -/
namespace Go.Proofs.YtajamblkjmafmaaGreat
open Go.RowKit Go.Shelf Go.Lib
set_option linter.unusedVariables false
set_option linter.unusedSimpArgs false
attribute [-simp] Tryz.isAgg55 Tryz.zeroValue55 Tryz.isAgg57 Tryz.zeroValue57 Tryz.isAgg30 Tryz.zeroValue30
attribute [-go_sem] loadVar storeVar
attribute [local go_sem] loadVar_openQ storeVar_openQ zero_sn zero_prs zero_st build_sn build_sn2 build_sn1
set_option maxRecDepth 100000 in
set_option maxHeartbeats 4000000 in
/-- **Encode** where the sizes are no good. -/
theorem sg_encodeN {w : World} {q : PS} (G : Geo) (hi : G.In) (hb : ¬ G.good) :
    Calls Tryz.prog 9 #[.agg G.v, stV q] w fun e w' => e = .returned (.tuple #[.slice none 0 0, .int .i64 11]) ∧ Below w.heap.size w w' := by
  have HG : Hid (∀ x : World, Calls Tryz.prog 15 #[.agg G.v, stV q] x fun e w' => e = .returned (.bool false) ∧ Below x.heap.size x w') := fun x => sg_goodN G hi hb
  obtain ⟨⟨qd, qdn, qdc⟩, ⟨qs, qsn, qsc⟩, nx, kd, id, ⟨qp, qpn, qpc⟩⟩ := q
  simp only [stV, stL, slV] at *
  obtain ⟨gb, gs, gy, ga, gr⟩ := G
  clear hb hi
  unfold Geo.v at *
  simp only at *
  obtain ⟨B, hB⟩ : ∃ B, w.heap.size = B := ⟨_, rfl⟩
  obtain ⟨W1, hW1⟩ : ∃ W, w.alloc (.cells #[.int .i64 gb, .int .i64 gs, .int .i64 gy, .int .i64 ga, .int .i64 gr] 23) = W := ⟨_, rfl⟩
  obtain ⟨W2, hW2⟩ : ∃ W, W1.alloc (.cells #[.slice qd qdn qdc, .slice qs qsn qsc, .int .i64 nx, .int .i64 kd, .int .i64 id, .slice qp qpn qpc] 30) = W := ⟨_, rfl⟩
  have s1 : W1.heap.size = B + 1 := by rw [← hW1, ← hB]; simp
  have r1 : RowC W1 B 23 [.int .i64 gb, .int .i64 gs, .int .i64 gy, .int .i64 ga, .int .i64 gr] := by rw [← hW1, ← hB]; exact RowC.new _ _ _
  have r2 : RowC W2 (B + 1) 30 (stL ⟨(qd, qdn, qdc), (qs, qsn, qsc), nx, kd, id, (qp, qpn, qpc)⟩) := by rw [← hW2, ← s1]; exact RowC.new _ _ _
  have b1 : Below B w W1 := by rw [← hW1, ← hB]; exact below_new _ _
  have b2 : Below W1.heap.size W1 W2 := by rw [← hW2]; exact below_new _ _
  have HB : Hid (Below B w W2) := b1.trans (b2.mono (by omega))
  have t1 := r1.below b2
  have k0 := t1.cell 0 _ rfl
  have k1 := t1.cell 1 _ rfl
  have k2 := t1.cell 2 _ rfl
  have k3 := t1.cell 3 _ rfl
  have k4 := t1.cell 4 _ rfl
  have LS := load_stC r2
  simp only [stV, stL, slV] at LS
  have HS2 : Hid (B ≤ W2.heap.size) := by show B ≤ _; rw [← hB]; exact HB.out.size
  have HSZ := Lib.hid hB
  clear r1 b1 b2 t1 r2
  go_enter Tryz.func9, Tryz.ntmps9
  go_wp2_with fail
  refine (HG.out W2).mono ?_
  rintro e y ⟨rfl, hy⟩
  have HY : Hid (Below B w y) := HB.out.trans (hy.mono HS2.out)
  clear hy LS k0 k1 k2 k3 k4
  go_wp2_with fail
  refine bodyPost_ret (results_tmp2 rfl _ _ _) rfl ?_
  exact ⟨rfl, by rw [HSZ.out]; exact HY.out⟩
theorem sls4 {x x4 : World} {v1 v2 v3 v4 : Value} {b1 b2 b3 b4 : List Int} (hx : x.alloc (.cells #[v1, v2, v3, v4] 31) = x4) (h1 : Sl .u8 x v1 b1) (h2 : Sl .u8 x v2 b2) (h3 : Sl .u8 x v3 b3) (h4 : Sl .u8 x v4 b4) :
    Sls x4 (.slice (some ⟨x.heap.size, 0, none⟩) 4 4) [b1, b2, b3, b4] := by
  have r4 : x4.heap[x.heap.size]? = some (.cells #[v1, v2, v3, v4] 31 (0, 0)) := by rw [← hx]; exact heap_alloc_new x _
  have b : Below x.heap.size x x4 := by rw [← hx]; exact below_new _ _
  refine ⟨x.heap.size, 4, rfl, Nat.le_refl _, by unfold maxLen; omega, by rw [← hx]; simp, fun k hk => ?_⟩
  have hk' : k < 4 := hk
  match k, hk' with
  | 0, _ => exact ⟨_, cell_of_row _ _ 0 _ _ _ r4, h1.below b⟩
  | 1, _ => exact ⟨_, cell_of_row _ _ 1 _ _ _ r4, h2.below b⟩
  | 2, _ => exact ⟨_, cell_of_row _ _ 2 _ _ _ r4, h3.below b⟩
  | 3, _ => exact ⟨_, cell_of_row _ _ 3 _ _ _ r4, h4.below b⟩
theorem sl_form {x : World} {v : Value} {bs : List Int} (h : Sl .u8 x v bs) : ∃ a c, v = .slice a bs.length c := by obtain ⟨a, c, e, -⟩ := h; exact ⟨a, c, e⟩

set_option maxRecDepth 100000 in
set_option maxHeartbeats 4000000 in
/-- **Encode**. -/
theorem sg_encode {w : World} {q : PS} {d : List Int} {l : List SN} {ps : List (Int × Int)} (g : SG) (hg : g.Ok) (r : Int) (hi : (g.geo r).In) (hr : (g.geo r).good) (hd : Sl .i64 w (slV q.d) d) (hd6 : ∀ x ∈ d, Is64 x) (h : StIs w q l ps) (hK : Lens 1000 l) (hp : ps.length ≤ 1000) :
    Calls Tryz.prog 9 #[.agg (g.v r), stV q] w fun e w' => ∃ u c, e = .returned (.tuple #[u, .int .i64 c]) ∧ EncR g ⟨d, l, q.nx, q.kd, q.id, ps⟩ w.heap.size w' u c ∧ Below w.heap.size w w' := by
  have hmx : Tryz.prog.follows .mixedOrders = true := by kernel_rfl
  have HQ := Lib.hid h
  have HD0 := Lib.hid hd
  have HGD : Hid (∀ x : World, Below w.heap.size w x → Calls Tryz.prog 15 #[.agg (g.v r), stV q] x fun e w' => e = .returned (.bool (sGood g ⟨d, l, q.nx, q.kd, q.id, ps⟩)) ∧ Below x.heap.size x w') := fun x hx => sg_good g hg r hi hr (HD0.out.below hx) hd6 (HQ.out.below hx) hK hp
  have HGK := Lib.hid hg
  have HPLC : Hid (∀ (x : World) (u : Value) (pl : List (Int × Int)), Prt x u pl → pl.length ≤ 1000 → PrIn g pl → Calls Tryz.prog 28 #[u, .int .i64 (g.b : Int)] x fun e w' => ∃ u', e = .returned u' ∧ w'.ownsRow x.heap.size 5 1 u' g.b ((sPlaces g.b pl).map (Value.int .u8)) ∧ Below x.heap.size x w') := fun x u pl h1 h2 h3 => sg_codes h1 h2 g.b HGK.out.b64 h3.asc h3.plOk
  obtain ⟨⟨qd, qdn, qdc⟩, ⟨qs, qsn, qsc⟩, nx, kd, id, ⟨qp, qpn, qpc⟩⟩ := q
  have hsn := h.sn
  simp only [stV, stL, slV] at *
  obtain ⟨B, hB⟩ : ∃ B, w.heap.size = B := ⟨_, rfl⟩
  obtain ⟨W1, hW1⟩ : ∃ W, w.alloc (.cells (g.v r) 23) = W := ⟨_, rfl⟩
  obtain ⟨W2, hW2⟩ : ∃ W, W1.alloc (.cells #[.slice qd qdn qdc, .slice qs qsn qsc, .int .i64 nx, .int .i64 kd, .int .i64 id, .slice qp qpn qpc] 30) = W := ⟨_, rfl⟩
  have s1 : W1.heap.size = B + 1 := by rw [← hW1, ← hB]; simp
  have r1 : RowC W1 B 23 [.int .i64 (g.b : Int), .int .i64 (g.s : Int), .int .i64 (g.y : Int), .int .i64 (g.a : Int), .int .i64 r] := by rw [← hW1, ← hB]; exact RowC.new _ _ _
  have r2 : RowC W2 (B + 1) 30 (stL ⟨(qd, qdn, qdc), (qs, qsn, qsc), nx, kd, id, (qp, qpn, qpc)⟩) := by rw [← hW2, ← s1]; exact RowC.new _ _ _
  have b1 : Below B w W1 := by rw [← hW1, ← hB]; exact below_new _ _
  have b2 : Below W1.heap.size W1 W2 := by rw [← hW2]; exact below_new _ _
  have hBF : Below B w W2 := b1.trans (b2.mono (by omega))
  have HBs : B ≤ W2.heap.size := by rw [← hB]; exact hBF.size
  have HBF : Hid (∀ x : World, Below W2.heap.size W2 x → Below B w x) := fun x hx => hBF.trans (hx.mono HBs)
  have HBs2 := Lib.hid HBs
  have KR : Hid (∀ x : World, Below W2.heap.size W2 x → x.cell? ⟨B, 0, none⟩ = some (.int .i64 (g.b : Int)) ∧ x.cell? ⟨B, 1, none⟩ = some (.int .i64 (g.s : Int)) ∧ x.cell? ⟨B, 2, none⟩ = some (.int .i64 (g.y : Int)) ∧ x.cell? ⟨B, 3, none⟩ = some (.int .i64 (g.a : Int)) ∧ x.cell? ⟨B, 4, none⟩ = some (.int .i64 r) ∧
      x.cell? ⟨B + 1, 0, none⟩ = some (.slice qd qdn qdc) ∧ x.cell? ⟨B + 1, 1, none⟩ = some (.slice qs qsn qsc) ∧ x.cell? ⟨B + 1, 2, none⟩ = some (.int .i64 nx) ∧ x.cell? ⟨B + 1, 3, none⟩ = some (.int .i64 kd) ∧ x.cell? ⟨B + 1, 4, none⟩ = some (.int .i64 id) ∧ x.cell? ⟨B + 1, 5, none⟩ = some (.slice qp qpn qpc)) := fun x hx => by
    have t1 := (r1.below b2).below hx
    have t2 := r2.below hx
    exact ⟨t1.cell 0 _ rfl, t1.cell 1 _ rfl, t1.cell 2 _ rfl, t1.cell 3 _ rfl, t1.cell 4 _ rfl, t2.cell 0 _ rfl, t2.cell 1 _ rfl, t2.cell 2 _ rfl, t2.cell 3 _ rfl, t2.cell 4 _ rfl, t2.cell 5 _ rfl⟩
  have KLS : Hid (∀ x : World, Below W2.heap.size W2 x → (loadVar 30 ⟨B + 1, 0, none⟩).run Tryz.prog x = .ok (.agg #[.slice qd qdn qdc, .slice qs qsn qsc, .int .i64 nx, .int .i64 kd, .int .i64 id, .slice qp qpn qpc]) x) := fun x hx => load_stC (r2.below hx)
  have KSn : Hid (∀ x : World, Below W2.heap.size W2 x → Snp x (.slice qs qsn qsc) l) := fun x hx => hsn.below (by rw [hB]; exact HBF.out x hx)
  have HSN : Hid (qsn = l.length) := by obtain ⟨r', a', c', e, -⟩ := hsn; cases e; rfl
  have hqs : qsn ≤ 1000 := by rw [HSN.out]; exact hK.1
  have KPr : Hid (∀ x : World, Below W2.heap.size W2 x → Prt x (.slice qp qpn qpc) ps) := fun x hx => HQ.out.pr.below (by rw [hB]; exact HBF.out x hx)
  obtain ⟨hqdn, hqdm, hdc⟩ := hd.cellI
  have HDN := Lib.hid hqdn
  have HDC : Hid (0 < qdn → ∃ b o, qd = some ⟨b, o, none⟩ ∧ ∀ x : World, Below W2.heap.size W2 x → ∀ j, j < qdn → x.cell? ⟨b, o + j, none⟩ = some (.int .i64 (d[j]?.getD 0))) := fun h0 => by
    obtain ⟨b, o, e, h⟩ := hdc h0
    exact ⟨b, o, e, fun x hx j hj => h x (by rw [hB]; exact HBF.out x hx) j hj⟩
  have HKL := Lib.hid hK
  have HPLn := Lib.hid hp
  have HSZ := Lib.hid hB
  rw [hB] at HGD ⊢
  clear h hsn hK hp r1 r2 b1 b2 hBF hd hr HBs hdc hqdn hqdm hg hi hd6
  unfold SG.v at *
  obtain ⟨v1, hv1⟩ : ∃ u, sGood g ⟨d, l, nx, kd, id, ps⟩ = u := ⟨_, rfl⟩
  have HV1 := Lib.hid hv1
  rw [hv1] at HGD
  clear hv1
  obtain ⟨k0, k1, k2, k3, k4, k5, k6, k7, k8, k9, k10⟩ := KR.out W2 (Below.refl _ _)
  have LS := KLS.out W2 (Below.refl _ _)
  go_enter Tryz.func9, Tryz.ntmps9
  go_wp2_with fail
  refine (HGD.out W2 (HBF.out _ (Below.refl _ _))).mono ?_
  rintro e x1 ⟨rfl, hx1⟩
  have HB1 := Lib.hid hx1
  have HGO : Hid (Below B w x1) := HBF.out _ HB1.out
  clear hx1 k0 k1 k2 k3 k4 k5 k6 k7 k8 k9 k10 LS
  cases v1 with
  | false =>
    go_wp2_with fail
    refine bodyPost_ret (results_tmp2 rfl _ _ _) rfl ?_
    exact ⟨_, _, rfl, ⟨fun h => absurd h (by rw [HV1.out]; decide), fun _ => ⟨rfl, rfl⟩⟩, HGO.out⟩
  | true =>
    have HIn := Lib.hid (good_in HGK.out HV1.out)
    have hkd := kd_rng HV1.out
    have hn0 := HIn.out.nx0
    have hn1 := HIn.out.nx1
    have hi0 := HIn.out.id0
    have hi1 := HIn.out.id1
    have hsl : qsn ≤ 8 := by rw [HSN.out]; exact HIn.out.sl
    simp only at hkd hn0 hn1 hi0 hi1
    obtain ⟨kd0, kd1⟩ := hkd
    have HPut : Hid (∀ (x : World) (n : Int), 0 ≤ n → n ≤ 1000001 → Calls Tryz.prog 25 #[.int .u64 n, .int .i64 4] x fun e w' => ∃ v, e = .returned v ∧ w'.ownsRow x.heap.size 5 1 v 4 ((putL n 4).map (Value.int .u8)) ∧ Below x.heap.size x w') := fun x n h0 h1 => put_some n 4 x (by omega) (by omega) h0 (by omega)
    have HPut1 : Hid (∀ (x : World) (n : Int), 0 ≤ n → n < 256 → Calls Tryz.prog 25 #[.int .u64 n, .int .i64 1] x fun e w' => ∃ v, e = .returned v ∧ w'.ownsRow x.heap.size 5 1 v 1 ((putL n 1).map (Value.int .u8)) ∧ Below x.heap.size x w') := fun x n h0 h1 => put_some n 1 x (by omega) (by omega) h0 (by omega)
    have d0 : ∀ y : Ext W2, y.1.cell? ⟨B + 1, 2, none⟩ = some (.int .i64 nx) := fun y => (KR.out y.1 y.2).2.2.2.2.2.2.2.1
    have d1 : ∀ y : Ext W2, y.1.cell? ⟨B + 1, 1, none⟩ = some (.slice qs qsn qsc) := fun y => (KR.out y.1 y.2).2.2.2.2.2.2.1
    have d2 : ∀ y : Ext W2, y.1.cell? ⟨B + 1, 3, none⟩ = some (.int .i64 kd) := fun y => (KR.out y.1 y.2).2.2.2.2.2.2.2.2.1
    have d3 : ∀ y : Ext W2, y.1.cell? ⟨B + 1, 4, none⟩ = some (.int .i64 id) := fun y => (KR.out y.1 y.2).2.2.2.2.2.2.2.2.2.1
    have HBd : Hid (Below W2.heap.size W2 x1.drew) := HB1.out.drew
    have HN0 := Lib.hid hn0
    have HN1 := Lib.hid hn1
    have HI0 := Lib.hid hi0
    have HI1 := Lib.hid hi1
    have HK0 : Hid (0 ≤ kd ∧ kd < 256) := ⟨kd0, by omega⟩
    have HSL8 := Lib.hid hsl
    clear hqs
    go_wp2_with fail
    refine region_plan (fun x => ∃ y : Ext W2, x = y.1) 21 (.takes [0, 1, 2, 4, 5, 6, 7, 9, 10, 11, 12, 14, 15, 16, 17] (.one 3 (.one 8 (.one 13 (.one 18 (.one 19 (.one 20 .leaf))))))) hmx (by kernel_rfl) (by intro c x v a w h; cases x <;> exact h) ⟨⟨x1.drew, HBd.out⟩, rfl⟩ ?_
    repeat (rw [wpPlan_takes_cons]; simp only [nth_zero, nth_succ]; go_big_quiet_step (fail); refine wpQuiet_nil ?_)
    rw [wpPlan_takes_nil]
    clear d0 d1 d2 d3 hn0 hn1 hi0 hi1 kd0 kd1
    rw [wpPlan_one]
    simp only [nth_zero, nth_succ]
    go_wp2_with fail
    go_at_call 25
    refine (HPut.out x1.drew nx HN0.out HN1.out).mono ?_
    rintro e x2 ⟨v2, rfl, hrow, hb⟩
    have K2 : Hid (Below W2.heap.size W2 x2) := HBd.out.trans (hb.mono HBd.out.size)
    have hs := Sl.of_owns (bs := putL nx 4) (by rw [putL_length]; exact hrow)
    obtain ⟨a2, n2, hv, -⟩ := (show Sl _ _ _ _ from hs)
    rw [putL_length] at hv
    subst hv
    have S2 := Lib.hid hs
    clear hrow hb hs
    go_wp2_with fail
    refine planPost_mk ⟨⟨x2, K2.out⟩, rfl⟩ ?_
    rw [wpPlan_one]
    simp only [nth_zero, nth_succ]
    go_wp2_with fail
    go_at_call 25
    refine (HPut1.out x2 (qsn : Int) (by omega) (by have := HSL8.out; omega)).mono ?_
    rintro e x3 ⟨v3, rfl, hrow, hb⟩
    have K3 : Hid (Below W2.heap.size W2 x3) := K2.out.trans (hb.mono K2.out.size)
    have S2 := Lib.hid (S2.out.below hb)
    have hs := Sl.of_owns (bs := putL (qsn : Int) 1) (by rw [putL_length]; exact hrow)
    obtain ⟨a3, n3, hv, -⟩ := (show Sl _ _ _ _ from hs)
    rw [putL_length] at hv
    subst hv
    have S3 := Lib.hid hs
    clear hrow hb hs
    go_wp2_with fail
    refine planPost_mk ⟨⟨x3, K3.out⟩, rfl⟩ ?_
    rw [wpPlan_one]
    simp only [nth_zero, nth_succ]
    go_wp2_with fail
    go_at_call 25
    refine (HPut1.out x3 kd HK0.out.1 HK0.out.2).mono ?_
    rintro e x4 ⟨v4, rfl, hrow, hb⟩
    have K4 : Hid (Below W2.heap.size W2 x4) := K3.out.trans (hb.mono K3.out.size)
    have S2 := Lib.hid (S2.out.below hb)
    have S3 := Lib.hid (S3.out.below hb)
    have hs := Sl.of_owns (bs := putL kd 1) (by rw [putL_length]; exact hrow)
    obtain ⟨a4, n4, hv, -⟩ := (show Sl _ _ _ _ from hs)
    rw [putL_length] at hv
    subst hv
    have S4 := Lib.hid hs
    clear hrow hb hs
    go_wp2_with fail
    refine planPost_mk ⟨⟨x4, K4.out⟩, rfl⟩ ?_
    rw [wpPlan_one]
    simp only [nth_zero, nth_succ]
    go_wp2_with fail
    go_at_call 25
    refine (HPut.out x4 id HI0.out (by have := HI1.out; omega)).mono ?_
    rintro e x5 ⟨v5, rfl, hrow, hb⟩
    have K5 : Hid (Below W2.heap.size W2 x5) := K4.out.trans (hb.mono K4.out.size)
    have S2 := Lib.hid (S2.out.below hb)
    have S3 := Lib.hid (S3.out.below hb)
    have S4 := Lib.hid (S4.out.below hb)
    have hs := Sl.of_owns (bs := putL id 4) (by rw [putL_length]; exact hrow)
    obtain ⟨a5, n5, hv, -⟩ := (show Sl _ _ _ _ from hs)
    rw [putL_length] at hv
    subst hv
    have S5 := Lib.hid hs
    clear hrow hb hs
    go_wp2_with fail
    refine planPost_mk ⟨⟨x5, K5.out⟩, rfl⟩ ?_
    rw [wpPlan_one]
    simp only [nth_zero, nth_succ]
    obtain ⟨x6, hx6⟩ : ∃ x, x5.alloc (.cells #[.slice a2 4 n2, .slice a3 1 n3, .slice a4 1 n4, .slice a5 4 n5] 31) = x := ⟨_, rfl⟩
    have K6 : Hid (Below W2.heap.size W2 x6) := K5.out.trans (by rw [← hx6]; exact (below_new x5 _).mono K5.out.size)
    have BS : (Instr.buildSlice 86 4 #[(0, .slice a2 4 n2), (1, .slice a3 1 n3), (2, .slice a4 1 n4), (3, .slice a5 4 n5)]).run Tryz.prog x5 = .ok (.slice (some ⟨x5.heap.size, 0, none⟩) 4 4) x6 := by rw [← hx6]; exact build_sls x5 a2 a3 a4 a5 4 1 1 4 n2 n3 n4 n5
    have SS : Hid (Sls x6 (.slice (some ⟨x5.heap.size, 0, none⟩) 4 4) [putL nx 4, putL (qsn : Int) 1, putL kd 1, putL id 4]) := sls4 hx6 S2.out S3.out S4.out S5.out
    clear hx6 S2 S3 S4 S5
    refine wpList_build_run _ _ _ rfl rfl _ _ rfl BS ?_
    clear BS
    go_wp2_with fail
    refine planPost_mk ⟨⟨x6, K6.out⟩, rfl⟩ ?_
    rw [wpPlan_one]
    simp only [nth_zero, nth_succ]
    go_wp2_with fail
    go_at_call 24
    obtain ⟨H, hH⟩ : ∃ H, putL nx 4 ++ [(qsn : Int), kd] ++ putL id 4 = H := ⟨_, rfl⟩
    have HH := Lib.hid hH
    have hHl : Hid (H.length = 10) := by show _ = _; rw [← hH]; simp [putL_length]
    have hfl : [putL nx 4, putL (qsn : Int) 1, putL kd 1, putL id 4].flatten = H := by
      rw [← hH, putL_one (n := (qsn : Int)) (by omega) (by have := HSL8.out; omega), putL_one HK0.out.1 HK0.out.2]
      simp
    have hcc := concat_any _ _ x6 SS.out (by rw [hfl, hHl.out]; omega)
    rw [hfl] at hcc
    refine hcc.mono ?_
    clear hcc hfl hH SS
    rintro e x7 ⟨v7, rfl, hrow, hb⟩
    have K7 : Hid (Below W2.heap.size W2 x7) := K6.out.trans (hb.mono K6.out.size)
    have O7 : Hid (OwnB W2 x7 v7 H) := own_weakB hrow K6.out.size
    clear hrow hb K2 K3 K4 K5 HBd HN0 HN1 HI0 HI1
    go_wp2_with fail
    refine planPost_mk ⟨⟨x7, K7.out⟩, rfl⟩ ?_
    rw [wpPlan_leaf]
    simp only [List.drop_succ_cons, List.drop_zero]
    have HDR := Lib.hid (dirt_rng HGK.out (by have := HV1.out; unfold sGood at this; simp only [Bool.and_eq_true] at this; exact this.1.1.1.1.1))
    have hqd : qdn ≤ 32 := by
      have h1 := HIn.out.dl
      have h2 : g.slots ≤ 32 := by
        have e1 := HGK.out.s8
        have e2 := HGK.out.y4
        have : g.s * g.y ≤ 8 * 4 := Nat.mul_le_mul e1 e2
        exact this
      have h3 := HDN.out
      simp only at h1
      omega
    obtain ⟨k0, k1, k2, k3, k4, k5, k6, k7, k8, k9, k10⟩ := KR.out x7 K7.out
    go_wp2_with fail
    clear k0 k1 k2 k3 k4 k5 k6 k7 k8 k9 k10
    go_loopw [6, 39] (fun bv iv wr => ∃ k : Nat, k ≤ qdn ∧ iv = .int .i64 (k : Int) ∧ Hid (OwnB W2 wr bv (H ++ (d.take k).map (· + 1))) ∧ Hid (Below W2.heap.size W2 wr)) (fun _ iv _ => qdn - (intOf iv).toNat)
    case atStart => exact ⟨0, Nat.zero_le _, rfl, by rw [List.take_zero, List.map_nil, List.append_nil]; exact O7, K7⟩
    case round =>
      clear O7 K7 K6
      obtain ⟨k, hk, rfl, HO, HB3⟩ := hrel
      by_cases hlt : k < qdn
      · have q1 : (k : Int) < (qdn : Int) := by omega
        have HLT := Lib.hid hlt
        obtain ⟨x, hx⟩ : ∃ x, d[k]? = some x := ⟨_, List.getElem?_eq_getElem (by rw [← HDN.out]; exact hlt)⟩
        obtain ⟨r0, r1⟩ := HDR.out x (List.mem_of_getElem? hx)
        obtain ⟨db, dof, rfl, hcc⟩ := HDC.out (by omega)
        have c1 := hcc _ HB3.out k hlt
        rw [hx] at c1
        simp only [Option.getD_some] at c1
        have HCD : Hid (Calls Tryz.prog 26 #[.int .i64 x] wr fun e w' => e = .returned (.int .u8 (x + 1)) ∧ w' = wr) := by
          have := sg_code x (by omega) (by omega) (by omega) wr
          have e : plV x = x + 1 := by unfold plV; rw [if_neg (by omega)]
          rw [e] at this
          exact this
        have S3 := lit1_sl wr (x + 1)
        have b3 := below_new wr (.cells #[.int .u8 (x + 1)] 5)
        obtain ⟨x3, hx3⟩ : ∃ y, wr.alloc (.cells #[.int .u8 (x + 1)] 5) = y := ⟨_, rfl⟩
        rw [hx3] at S3 b3
        have K3 : Hid (Below W2.heap.size W2 x3) := HB3.out.trans (b3.mono HB3.out.size)
        obtain ⟨v8, x4, R8, O8, K8⟩ := (HO.out.below b3).app K3.out S3 (by have := hHl.out; rw [List.length_append, this, List.length_map, List.length_take]; simp; omega)
        have O9 : Hid (OwnB W2 x4 v8 (H ++ (d.take (k + 1)).map (· + 1))) := by
          have := O8.out
          rw [List.append_assoc] at this
          show OwnB _ _ _ _
          rw [take_at hx, List.map_append]
          exact this
        clear hx hcc S3 b3 O8 hlt K3
        go_wp2_with fail
        refine HCD.out.mono ?_
        rintro e y2 ⟨rfl, rfl⟩
        go_wp2_with (at_builtin; refine wpList_append_run (.tmp 43) (.tmp 46) 31 rfl rfl _ _ _ rfl rfl R8.out ?_)
        exact ⟨⟨k + 1, HLT.out, by simp, O9, K8⟩, by have := HLT.out; simp [intOf]; omega⟩
      · obtain rfl : k = qdn := by omega
        have O9 : Hid (OwnB W2 wr u6 (H ++ d.map (· + 1))) := by
          have := HO.out
          rw [List.take_of_length_le (by rw [HDN.out]; exact Nat.le_refl _)] at this
          exact this
        clear hlt HO
        go_wp2_with fail
        obtain ⟨H2, hH2⟩ : ∃ H2, H ++ d.map (· + 1) = H2 := ⟨_, rfl⟩
        have HH2 := Lib.hid hH2
        have HL2 : Hid (H2.length ≤ 42) := by
          show _ ≤ _
          rw [← hH2, List.length_append, hHl.out, List.length_map, ← HDN.out]
          omega
        rw [hH2] at O9
        have HNew : Hid (∀ x : World, Calls Tryz.prog 27 #[.int .i64 (g.b : Int)] x fun e w' => ∃ v, e = .returned v ∧ Sl .u8 w' v (List.replicate g.n9 0) ∧ Below x.heap.size x w') := fun x => bi_new (g.b : Int) x
        have HN9 : Hid (g.n9 ≤ 8) := sizeB_le64 HGK.out
        have HLenS : Hid (∀ k, (((sSnaps g l).take k).flatten).length ≤ 1000) := fun k => by
          have h1 := flat_len (m := g.step) ((sSnaps g l).take k) (fun y hy => snaps_len (fun t ht => (HIn.out.sn t ht).ch) y (List.mem_of_mem_take hy))
          have h2 : ((sSnaps g l).take k).length ≤ 8 := by rw [List.length_take]; unfold sSnaps; simp; omega
          have h3 : g.step ≤ 76 := by
            unfold SG.step
            have := HN9.out
            have := HGK.out.b64
            omega
          have h4 := Nat.mul_le_mul h2 h3
          omega
        clear hH2
        go_loopw [6, 49] (fun bv iv wr2 => ∃ k : Nat, k ≤ 8 ∧ iv = .int .i64 (k : Int) ∧ Hid (OwnB W2 wr2 bv (H2 ++ ((sSnaps g l).take k).flatten)) ∧ Hid (Below W2.heap.size W2 wr2)) (fun _ iv _ => 8 - (intOf iv).toNat)
        case atStart => exact ⟨0, Nat.zero_le _, rfl, by rw [List.take_zero, List.flatten_nil, List.append_nil]; exact O9, HB3⟩
        case round =>
          clear O9 HB3
          obtain ⟨k, hk, rfl, HO, HB4⟩ := hrel
          obtain ⟨k0, k1, k2, k3, k4, k5, k6, k7, k8, k9, k10⟩ := KR.out _ HB4.out
          by_cases hlt : k < 8
          · have q1 : (k : Int) < 8 := by omega
            have HLT := Lib.hid hlt
            obtain ⟨s, hs⟩ : ∃ s, l[k]?.getD (noS g) = s := ⟨_, rfl⟩
            have HSk := Lib.hid hs
            clear hs hlt
            go_wp2_with fail
            refine (HNew.out wr).mono ?_
            rintro e y1 ⟨v8, rfl, hs8, hb8⟩
            obtain ⟨z8, c8, rfl⟩ := sl_form hs8
            obtain ⟨n9, hn9⟩ : ∃ n, (List.replicate g.n9 (0 : Int)).length = n := ⟨_, rfl⟩
            rw [hn9] at hs8 ⊢
            clear hn9
            have ST := new_sn y1 (0, (z8, n9, c8), (none, 0, 0))
            obtain ⟨Y, hY⟩ : ∃ Y, y1.alloc (.cells (svL (0, (z8, n9, c8), (none, 0, 0))).toArray 55) = Y := ⟨_, rfl⟩
            have bY : Below y1.heap.size y1 Y := by rw [← hY]; exact below_new _ _
            have rY : RowC Y y1.heap.size 55 (svL (0, (z8, n9, c8), (none, 0, 0))) := by rw [← hY]; exact RowC.new y1 _ _
            rw [hY] at ST
            obtain ⟨C, hC⟩ : ∃ C, y1.heap.size = C := ⟨_, rfl⟩
            have HCN : Hid (wr.heap.size ≤ C) := by show _ ≤ _; rw [← hC]; exact hb8.size
            have HCY : Hid (C ≤ Y.heap.size) := by show _ ≤ _; rw [← hC]; exact bY.size
            have bW : Below wr.heap.size wr Y := hb8.trans (bY.mono hb8.size)
            have HBW := Lib.hid bW
            have HBY : Hid (Below W2.heap.size W2 Y) := HB4.out.trans (bW.mono HB4.out.size)
            have HOY : Hid (OwnB W2 Y u6 (H2 ++ ((sSnaps g l).take k).flatten)) := HO.out.below bW
            have HS8 : Hid (Sl .u8 Y (.slice z8 n9 c8) (List.replicate g.n9 0)) := hs8.below bY
            rw [hC] at ST rY
            simp only [svV, slV] at ST
            have RY := Lib.hid rY
            clear rY bY hY bW hs8 hb8 k0 k1 k2 k3 k4 k5 k6 k7 k8 k9 k10
            have k6 := (KR.out _ HBY.out).2.2.2.2.2.2.1
            go_upto_if 60 with (fail)
            go_cut [60] from 61 to 65 (fun s64 wx => ∃ (i1 : Int) (a1 a2 : Option Addr) (n1 c1 n2 c2 : Nat), Hid (RowC wx C 55 (svL (i1, (a1, n1, c1), (a2, n2, c2)))) ∧ Hid (i1 = s.id) ∧ Hid (Sl .u8 wx (.slice a1 n1 c1) s.ch) ∧ Hid (Prt wx (.slice a2 n2 c2) s.tb) ∧ Hid (OwnB W2 wx u6 (H2 ++ ((sSnaps g l).take k).flatten)) ∧ Hid (Below wr.heap.size wr wx))
            case first =>
              clear ST
              by_cases hin : k < qsn
              · have q2 : (k : Int) < (qsn : Int) := by omega
                obtain ⟨s', hs'⟩ : ∃ s', l[k]? = some s' := ⟨_, List.getElem?_eq_getElem (by rw [← HSN.out]; exact hin)⟩
                have HSS : Hid (s' = s) := by have := HSk.out; rw [hs'] at this; exact this
                obtain ⟨rr, hS⟩ := KSn.out W2 (Below.refl _ _)
                have hSY := hS.below HBY.out
                obtain ⟨b, off, qv, rfl, hb, hrr, hq, e0, e1, e2⟩ := hSY.at hs'
                have LD := load_sn e0 e1 e2
                obtain ⟨Z, hST2, hRZ, hgZ⟩ := store_snC qv RY.out rfl
                obtain ⟨b', off', q', -, -, hrr', hq', -, -, -⟩ := hS.at hs'
                obtain rfl : qv = q' := by rw [hrr] at hrr'; exact Option.some.inj hrr'
                obtain ⟨i1, ⟨a1, n1, c1⟩, ⟨a2, n2, c2⟩⟩ := qv
                simp only [svV, slV] at LD hST2
                have hwY : wr.heap.size ≤ Y.heap.size := Nat.le_trans HCN.out HCY.out
                have hZ : Below wr.heap.size wr Z := HBW.out.grown hgZ hwY (fun j e => by cases e; exact HCN.out)
                have HZ := Lib.hid hZ
                have HZ2 : Hid (Below W2.heap.size W2 Z) := HB4.out.trans (hZ.mono HB4.out.size)
                have HOZ : Hid (OwnB W2 Z u6 (H2 ++ ((sSnaps g l).take k).flatten)) := HO.out.below hZ
                have HQ2 := Lib.hid hq'
                have HRZ := Lib.hid hRZ
                clear hZ hwY hRZ hgZ hq' hrr hrr' hq e0 e1 e2 hb hS hSY hs' hin RY HOY
                go_wp2_with fail
                go_meet
                have hE := HSS.out
                exact ⟨i1, a1, a2, n1, c1, n2, c2, HRZ, by rw [← hE]; exact HQ2.out.id, by rw [← hE]; exact HQ2.out.ch.below HZ2.out, by rw [← hE]; exact HQ2.out.tb.below HZ2.out, HOZ, HZ⟩
              · have q2 : ¬ (k : Int) < (qsn : Int) := by omega
                have q3 : decide (k < qsn) = false := by simpa using hin
                have HSS : Hid (s = noS g) := by
                  have := HSk.out
                  rw [List.getElem?_eq_none (by rw [← HSN.out]; omega)] at this
                  exact this.symm
                clear hin
                go_wp2_with fail
                go_meet
                have hE := HSS.out
                exact ⟨0, z8, none, n9, c8, 0, 0, RY, by rw [hE]; rfl, by rw [hE]; exact HS8.out, by rw [hE]; exact Prt.nil Y, HOY, HBW⟩
            case rest =>
              obtain ⟨i1, a1, a2, n1, c1, n2, c2, HRC, HID, HCH, HPT, HOW, HBX⟩ := hcut
              have HSin : Hid (0 ≤ s.id ∧ s.id ≤ 1000000 ∧ s.ch.length = g.n9 ∧ PrIn g s.tb ∧ s.tb.length ≤ 1000) := by
                have hk := HSk.out
                cases hl : l[k]? with
                | none =>
                  rw [hl] at hk
                  rw [← hk]
                  exact ⟨Int.le_refl 0, by show (0 : Int) ≤ 1000000; decide, noS_len g, ⟨List.Pairwise.nil, (fun p hp => by cases hp), (fun p hp => by cases hp)⟩, Nat.zero_le _⟩
                | some s' =>
                  rw [hl] at hk
                  have hk2 : s' = s := hk
                  subst hk2
                  have hm := List.mem_of_getElem? hl
                  have h := HIn.out.sn s' hm
                  exact ⟨h.id0, h.id1, h.ch, h.tb, (HKL.out.2 s' hm).2⟩
              have j0 : 0 ≤ i1 := by rw [HID.out]; exact HSin.out.1
              have j1 : i1 ≤ 1000000 := by rw [HID.out]; exact HSin.out.2.1
              have HJ0 := Lib.hid j0
              have HJ1 := Lib.hid j1
              have HB6 : Hid (Below W2.heap.size W2 wc) := HB4.out.trans (HBX.out.mono HB4.out.size)
              have HBd : Hid (Below wc.heap.size wc wc.drew) := (Below.refl _ wc).drew
              have d0 : ∀ y : Ext wc, y.1.cell? ⟨C, 0, none⟩ = some (.int .i64 i1) := fun y => (HRC.out.below y.2).cell 0 _ rfl
              have d1 : ∀ y : Ext wc, y.1.cell? ⟨C, 1, none⟩ = some (.slice a1 n1 c1) := fun y => (HRC.out.below y.2).cell 1 _ rfl
              have d2 : ∀ y : Ext wc, y.1.cell? ⟨C, 2, none⟩ = some (.slice a2 n2 c2) := fun y => (HRC.out.below y.2).cell 2 _ rfl
              have d3 : ∀ y : Ext wc, y.1.cell? ⟨B, 0, none⟩ = some (.int .i64 (g.b : Int)) := fun y => (KR.out y.1 (HB6.out.trans (y.2.mono HB6.out.size))).1
              obtain ⟨nt, hnt⟩ : ∃ n, (H2 ++ ((sSnaps g l).take k).flatten).length = n := ⟨_, rfl⟩
              obtain ⟨ua, uc, rfl⟩ := sl_form HOW.out.sl
              rw [hnt]
              have hOW := HOW.out
              rw [hnt] at hOW
              have HOX := Lib.hid hOW
              have HCL : Hid (n1 = s.ch.length) := by obtain ⟨a, c, e, -⟩ := HCH.out; cases e; rfl
              clear HRC ST k6 HOW hOW hnt
              go_wp2_with fail
              refine region_plan (fun x => ∃ y : Ext wc, x = y.1) 14 (.takes [0, 1, 2, 3, 5, 6, 7, 8, 9, 10] (.one 4 (.one 11 (.one 12 (.one 13 .leaf))))) hmx (by kernel_rfl) (by intro c x v a w h; cases x <;> exact h) ⟨⟨wc.drew, HBd.out⟩, rfl⟩ ?_
              repeat (rw [wpPlan_takes_cons]; simp only [nth_zero, nth_succ]; go_big_quiet_step (fail); refine wpQuiet_nil ?_)
              clear d0 d1 d2 d3
              rw [wpPlan_takes_nil, wpPlan_one]
              simp only [nth_zero, nth_succ]
              go_wp2_with fail
              go_at_call 25
              refine (HPut.out wc.drew i1 HJ0.out (by have := HJ1.out; omega)).mono ?_
              rintro e x2 ⟨v9, rfl, hrow, hb⟩
              have K2 : Hid (Below wc.heap.size wc x2) := HBd.out.trans (hb.mono HBd.out.size)
              have hs := Sl.of_owns (bs := putL i1 4) (by rw [putL_length]; exact hrow)
              obtain ⟨a9, c9, hv, -⟩ := (show Sl _ _ _ _ from hs)
              rw [putL_length] at hv
              subst hv
              have S9 := Lib.hid hs
              clear hrow hb hs
              go_wp2_with fail
              refine planPost_mk ⟨⟨x2, K2.out⟩, rfl⟩ ?_
              rw [wpPlan_one]
              simp only [nth_zero, nth_succ]
              go_wp2_with fail
              go_at_call 28
              refine (HPLC.out x2 _ s.tb (HPT.out.below K2.out) HSin.out.2.2.2.2 HSin.out.2.2.2.1).mono ?_
              rintro e x3 ⟨v10, rfl, hrow, hb⟩
              have K3 : Hid (Below wc.heap.size wc x3) := K2.out.trans (hb.mono K2.out.size)
              have hs := Sl.of_owns (bs := sPlaces g.b s.tb) (by rw [places_len]; exact hrow)
              have SA := Lib.hid (S9.out.below hb)
              obtain ⟨a10, c10, hv, -⟩ := (show Sl _ _ _ _ from hs)
              rw [places_len] at hv
              subst hv
              have S10 := Lib.hid hs
              clear hrow hb hs S9
              go_wp2_with fail
              refine planPost_mk ⟨⟨x3, K3.out⟩, rfl⟩ ?_
              rw [wpPlan_one]
              simp only [nth_zero, nth_succ]
              obtain ⟨x4, hx4⟩ : ∃ x, x3.alloc (.cells #[.slice ua nt uc, .slice a9 4 c9, .slice a1 n1 c1, .slice a10 g.b c10] 31) = x := ⟨_, rfl⟩
              have K4 : Hid (Below wc.heap.size wc x4) := K3.out.trans (by rw [← hx4]; exact (below_new x3 _).mono K3.out.size)
              have BS : (Instr.buildSlice 86 4 #[(0, .slice ua nt uc), (1, .slice a9 4 c9), (2, .slice a1 n1 c1), (3, .slice a10 g.b c10)]).run Tryz.prog x3 = .ok (.slice (some ⟨x3.heap.size, 0, none⟩) 4 4) x4 := by rw [← hx4]; exact build_sls x3 ua a9 a1 a10 nt 4 n1 g.b uc c9 c1 c10
              have SS : Hid (Sls x4 (.slice (some ⟨x3.heap.size, 0, none⟩) 4 4) [H2 ++ ((sSnaps g l).take k).flatten, putL i1 4, s.ch, sPlaces g.b s.tb]) := sls4 hx4 (HOX.out.sl.below K3.out) SA.out (HCH.out.below K3.out) S10.out
              clear hx4 SA S10
              refine wpList_build_run _ _ _ rfl rfl _ _ rfl BS ?_
              clear BS
              go_wp2_with fail
              refine planPost_mk ⟨⟨x4, K4.out⟩, rfl⟩ ?_
              rw [wpPlan_one]
              simp only [nth_zero, nth_succ]
              go_wp2_with fail
              go_at_call 24
              have hfl : [H2 ++ ((sSnaps g l).take k).flatten, putL i1 4, s.ch, sPlaces g.b s.tb].flatten = H2 ++ ((sSnaps g l).take (k + 1)).flatten := by
                rw [snaps_succ g l HLT.out, HSk.out, HID.out]
                unfold sSnapB
                simp
              have hcc := concat_any _ _ x4 SS.out (by rw [hfl, List.length_append]; have := HL2.out; have := HLenS.out (k + 1); omega)
              rw [hfl] at hcc
              refine hcc.mono ?_
              clear hcc hfl SS
              rintro e x5 ⟨v11, rfl, hrow, hb⟩
              have K5 : Hid (Below wc.heap.size wc x5) := K4.out.trans (hb.mono K4.out.size)
              have HB8 : Hid (Below W2.heap.size W2 x5) := HB6.out.trans (K5.out.mono HB6.out.size)
              have O8 : Hid (OwnB W2 x5 v11 (H2 ++ ((sSnaps g l).take (k + 1)).flatten)) := own_weakB hrow (Nat.le_trans HB6.out.size K4.out.size)
              clear hrow hb
              go_wp2_with fail
              refine planPost_mk ⟨⟨x5, K5.out⟩, rfl⟩ ?_
              rw [wpPlan_leaf]
              simp only [List.drop_succ_cons, List.drop_zero]
              go_wp2_with fail
              exact ⟨⟨k + 1, HLT.out, by simp, O8, HB8⟩, by have := HLT.out; simp [intOf]; omega⟩
          · obtain rfl : k = 8 := by omega
            have O9 : Hid (OwnB W2 wr u6 (H2 ++ (sSnaps g l).flatten)) := by
              have := HO.out
              rw [snaps_all] at this
              exact this
            have HPC := Lib.hid (HPLC.out wr _ ps (KPr.out _ HB4.out) HPLn.out HIn.out.pr)
            clear hlt HO
            go_wp2_with fail
            refine HPC.out.mono ?_
            rintro e x2 ⟨v12, rfl, hrow, hb⟩
            have K2 : Hid (Below W2.heap.size W2 x2) := HB4.out.trans (hb.mono HB4.out.size)
            have O2 := O9.out.below hb
            obtain ⟨v13, x3, R3, O3, K3⟩ := O2.app K2.out (Sl.of_owns (bs := sPlaces g.b ps) (by rw [places_len]; exact hrow)) (by rw [List.length_append, places_len]; have := HL2.out; have := HLenS.out 8; rw [snaps_all] at this; have := HGK.out.b64; omega)
            have OF : Hid (x3.ownsRow B 5 1 v13 (sEnc g ⟨d, l, nx, kd, id, ps⟩).length (u8s (sEnc g ⟨d, l, nx, kd, id, ps⟩))) := by
              have := O3.out
              rw [← HH2.out, ← HH.out, HSN.out, ← sEnc_is] at this
              exact own_weak this HBs2.out
            clear hrow hb O2 k0 k1 k2 k3 k4 k5 k6 k7 k8 k9 k10 HPC
            go_wp2_with (at_builtin; refine wpList_append_run (.tmp 81) (.tmp 87) 31 rfl rfl _ _ _ rfl rfl R3.out ?_)
            refine bodyPost_ret (results_tmp2 rfl _ _ _) rfl ?_
            exact ⟨_, _, rfl, ⟨fun _ => ⟨rfl, OF.out⟩, fun h => absurd h (by rw [HV1.out]; decide)⟩, HBF.out x3 K3.out⟩
end Go.Proofs.YtajamblkjmafmaaGreat

