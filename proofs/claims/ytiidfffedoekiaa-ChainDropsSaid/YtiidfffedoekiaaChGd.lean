/- The developers' Good. -/
import Derived.Test.YtiidfffedoekiaaChFt
import Derived.Test.YtiidfffedoekiaaTbSrt
import Derived.Test.YtiidfffedoekiaaOrdN
import Derived.Shelf.Slices.In.SortNone
namespace Go.Proofs.Ytiidfffedoekiaa
open Go.RowKit Go.Shelf
set_option linter.unusedVariables false
set_option linter.unusedSimpArgs false
attribute [-simp] Try.isAgg39 Try.zeroValue39 Try.isAgg42 Try.zeroValue42
attribute [-go_sem] loadVar storeVar
attribute [local go_sem] loadVar_openPS storeVar_openPS zero_sn zero_prs
attribute [local go_sem] Oper.semAt_some

theorem InO.setLow {N B' : Nat} {x : World} {v : Value} {zs : List Int} (h : InO N x v zs) (hB : B' < N) (j : Nat) (u : Value) : InO N (x.setCell ⟨B', j, none⟩ u) v zs := h.kept (grownBy_setCellJ x B' j u) (.inr fun e => by have := (h.base _ e).1; omega)
theorem InO.own {N M : Nat} {x y : World} {v : Value} {zs : List Int} {row : Option Nat} (h : InO N x v zs) (hg : x.grownBy y row) (hr : ∀ r, row = some r → M ≤ r ∧ ∃ o : Obj, x.heap[r]? = some o ∧ o.isCells = false) : InO N y v zs := row_own h hg hr
set_option maxRecDepth 100000 in
/-- Sort and Compact of numbers of one's own, none too. -/
theorem in_sort {N : Nat} {w : World} {v : Value} {zs : List Int} (h : InO N w v zs) (hlen : zs.length ≤ 1000000) :
    Calls Try.prog 42 #[v] w fun e w' => e = .returned (.tuple #[]) ∧ InO N w' v (sorted zs) ∧ w.grownBy w' v.ownBlock := by
  by_cases hv : v = .slice none 0 0
  · subst hv
    have h0 : zs = [] := by
      rcases h.2 with ⟨_, e⟩ | ⟨g, cap, cur, e, _⟩
      · exact List.eq_nil_of_length_eq_zero e
      · cases e
    subst h0
    refine (Any.slices_Sort_int_none sortLaid none 0 w).mono ?_
    rintro e w' ⟨rfl, rfl⟩
    exact ⟨rfl, by rw [show sorted ([] : List Int) = [] from by simp [sorted]]; exact h, World.grownBy.refl _ _⟩
  · refine (tb_sort h hv hlen).mono ?_
    rintro e w' ⟨rfl, ho, hg⟩
    refine ⟨rfl, ?_, hg⟩
    show w'.ownsRow _ _ _ _ _ _
    rw [sorted_len]
    exact ho
set_option maxRecDepth 100000 in
theorem in_compact {N : Nat} {w : World} {v : Value} {zs : List Int} (h : InO N w v zs) :
    Calls Try.prog 43 #[v] w fun e w' => (∃ a cap, e = .returned (.slice a (Lib.compact zs).length cap)) ∧ w.grownBy w' v.ownBlock := by
  by_cases hv : v = .slice none 0 0
  · subst hv
    have h0 : zs = [] := by
      rcases h.2 with ⟨_, e⟩ | ⟨g, cap, cur, e, _⟩
      · exact List.eq_nil_of_length_eq_zero e
      · cases e
    subst h0
    refine (laid_slices_Compact_int_empty none 0 w).mono ?_
    rintro e w' ⟨rfl, rfl⟩
    exact ⟨⟨_, _, rfl⟩, World.grownBy.refl _ _⟩
  · exact tb_compact h hv

theorem list_round_build {l₀ n : Nat} {P : Program} {ops : Array Oper} {Q : Exit → Act → World → Prop} {rest : List Oper} {a : Act} {w : World} {dst : Option Tmp} {ty t : TypeId} {len : Nat} {parts : Array (Nat × Operand)} {pos : String} {after : Array Edge} {guard : Option (Nat × Bool)}
    (hL : ¬ LetsOut Q) (hd : ∀ o ∈ rest, ∀ c, o.op ≠ .defer c) (h : wpList P ops Q ({ dst := dst, op := .buildSlice t len parts, type := ty, pos := pos, after := after, guard := guard } :: rest) a w) :
    wpListIn (Fence.wide.inRound l₀) n P ops Q ({ dst := dst, op := .buildSlice t len parts, type := ty, pos := pos, after := after, guard := guard } :: rest) a w :=
  list_roundC hL _ a w (fun o ho => by
    rcases List.mem_cons.1 ho with rfl | ho
    · intro c e; cases e
    · exact hd o ho) h
/-- What a round keeps. -/
structure GdI (B M : Nat) (bl ar last : Int) (a : Option Addr) (len cap : Nat) (w W x : World) : Prop where
  g0 : RowC x B 22 [.slice a len cap]
  g1 : RowC x (B + 1) 3 [.int .i64 bl]
  g2 : RowC x (B + 2) 3 [.int .i64 ar]
  g3 : RowC x (B + 3) 4 [.bool false]
  g4 : RowC x (B + 4) 3 [.int .i64 last]
  g7 : SpX B (B + 6) 0 (len : Int) (.slice a len cap) w x
  kf : KeepsFrom M W x
theorem GdI.low {B M : Nat} {bl ar last : Int} {a : Option Addr} {len cap : Nat} {w W x y : World} (h : GdI B M bl ar last a len cap w W x) (hb : Below (B + 9) x y) (hk : KeepsFrom M x y) : GdI B M bl ar last a len cap w W y :=
  ⟨h.g0.belowN hb (by omega), h.g1.belowN hb (by omega), h.g2.belowN hb (by omega), h.g3.belowN hb (by omega), h.g4.belowN hb (by omega), ⟨h.g7.bl.belowN hb (by omega), h.g7.bi.belowN hb (by omega), h.g7.bj.belowN hb (by omega), h.g7.be.trans (hb.mono (by omega))⟩, keepsFrom_trans h.kf hk⟩
theorem GdI.set4 {B M : Nat} {bl ar last : Int} {a : Option Addr} {len cap : Nat} {w W x : World} (h : GdI B M bl ar last a len cap w W x) (z : Int) : GdI B M bl ar z a len cap w W (x.setCell ⟨B + 4, 0, none⟩ (.int .i64 z)) :=
  ⟨set_other h.g0 (by omega) 0 _, set_other h.g1 (by omega) 0 _, set_other h.g2 (by omega) 0 _, set_other h.g3 (by omega) 0 _, h.g4.set 0 _, h.g7.set (by omega) (by omega) 0 _, keepsFrom_trans h.kf (keepsFrom_cells h.g4 (grownBy_setCellJ x (B + 4) 0 _))⟩
theorem GdI.set5 {B M : Nat} {bl ar last : Int} {a : Option Addr} {len cap : Nat} {w W x : World} {c : List Value} {t : TypeId} (h : GdI B M bl ar last a len cap w W x) (hr : RowC x (B + 5) t c) (v : Value) : GdI B M bl ar last a len cap w W (x.setCell ⟨B + 5, 0, none⟩ v) :=
  ⟨set_other h.g0 (by omega) 0 _, set_other h.g1 (by omega) 0 _, set_other h.g2 (by omega) 0 _, set_other h.g3 (by omega) 0 _, set_other h.g4 (by omega) 0 _, h.g7.set (by omega) (by omega) 0 _, keepsFrom_trans h.kf (keepsFrom_cells hr (grownBy_setCellJ x (B + 5) 0 _))⟩

set_option maxRecDepth 100000 in
set_option maxHeartbeats 8000000 in
theorem ch_good {w : World} {v : Value} {l : List SN} (h : Snp w v l) (hK : Lens 1000 l) (bl ar : Int) :
    Calls Try.prog 14 #[v, .int .i64 bl, .int .i64 ar] w fun e w' => e = .returned (.bool (cGood l bl ar)) ∧ Below w.heap.size w w' := by
  have hmx : Try.prog.follows .mixedOrders = true := by kernel_rfl
  obtain ⟨r, h⟩ := h
  have HS := Lib.hid h
  have HKL := Lib.hid hK
  obtain ⟨a, cap, rfl, h1, h2, -⟩ := h
  obtain ⟨len, hle⟩ : ∃ len, l.length = len := ⟨_, rfl⟩
  have HL := Lib.hid hle
  obtain ⟨B, hB⟩ : ∃ B, w.heap.size = B := ⟨_, rfl⟩
  have HSZ := Lib.hid hB
  rw [hle] at HS h1 ⊢
  obtain ⟨Y, hY⟩ : ∃ Y, (((w.alloc (.cells #[.slice a len cap] 22)).alloc (.cells #[.int .i64 bl] 3)).alloc (.cells #[.int .i64 ar] 3)).alloc (.cells #[.bool false] 4) = Y := ⟨_, rfl⟩
  have hYs : Y.heap.size = B + 4 := by rw [← hY, ← hB]; simp
  have hYb : Below B w Y := by rw [← hY, ← hB]; exact ((((Below.refl _ w).alloc (Nat.le_refl _) _).alloc (by simp) _).alloc (by simp; omega) _).alloc (by simp; omega) _
  have y0 : RowC Y B 22 [.slice a len cap] := by rw [← hY, ← hB]; exact (((RowC.new w _ _).below (below_new _ _)).below (below_new _ _)).below (below_new _ _)
  have y1 : RowC Y (B + 1) 3 [.int .i64 bl] := by
    rw [← hY, ← hB]
    have := RowC.new (w.alloc (.cells #[.slice a len cap] 22)) 3 [.int .i64 bl]
    rw [World.size_alloc] at this
    exact (this.below (below_new _ _)).below (below_new _ _)
  have y2 : RowC Y (B + 2) 3 [.int .i64 ar] := by
    rw [← hY, ← hB]
    have := RowC.new ((w.alloc (.cells #[.slice a len cap] 22)).alloc (.cells #[.int .i64 bl] 3)) 3 [.int .i64 ar]
    simp only [World.size_alloc] at this
    exact this.below (below_new _ _)
  have y3 : RowC Y (B + 3) 4 [.bool false] := by
    rw [← hY, ← hB]
    have := RowC.new (((w.alloc (.cells #[.slice a len cap] 22)).alloc (.cells #[.int .i64 bl] 3)).alloc (.cells #[.int .i64 ar] 3)) 4 [.bool false]
    simp only [World.size_alloc] at this
    exact this
  have c0 := y0.cell 0 _ rfl
  by_cases hi : 8 < len
  · have q0 : decide ((len : Int) > 8) = true := by simp; omega
    have E0 : Hid (cGood l bl ar = false) := by show _ = _; unfold cGood; rw [hle, decide_eq_false (by omega)]; rfl
    have f3 := y3.frozen 0
    have c3 := y3.cell 0 _ rfl
    have R1 := Lib.hid (y3.set 0 (.bool false))
    have HB2 : Hid (Below B w (Y.setCell ⟨B + 3, 0, none⟩ (.bool false))) := set_below hYb (by omega) 0 _
    have g1 : (len : Int) > 8 := by omega
    clear y0 y1 y2 y3 hYb h1 h2
    go_enter Try.func14, Try.ntmps14
    go_wp2_with fail
    refine bodyPost_ret (results_cell rfl rfl (load_bool1 R1.out)) rfl ?_
    rw [HSZ.out]
    exact ⟨by rw [E0.out], HB2.out⟩
  · have q0 : decide ((len : Int) > 8) = false := by simp; omega
    have hlen8 : len ≤ 8 := by omega
    have g1 : ¬ (len : Int) > 8 := by omega
    refine (callsIn_wide (n := 3)).1 ?_
    refine callsIn_of_wp_marks Try.func14 rfl trivial ?_ rfl
    simp only [Try.ntmps14, List.size_toArray, List.length_cons, List.length_nil, Nat.reduceAdd, Nat.reduceSub, Array.replicate_succ, Array.replicate_zero, List.push_toArray, List.append_toArray, List.nil_append, List.cons_append]
    obtain ⟨X, hX⟩ : ∃ X, (Y.alloc (.cells #[.int .i64 0] 3)).alloc (.cells #[.slice none 0 0] 35) = X := ⟨_, rfl⟩
    have hXs : X.heap.size = B + 6 := by rw [← hX]; simp [hYs]
    have hYX : Below Y.heap.size Y X := by rw [← hX]; exact ((Below.refl _ Y).alloc (Nat.le_refl _) _).alloc (by simp) _
    have hXb : Below B w X := hYb.trans (hYX.mono (by omega))
    have x4 : RowC X (B + 4) 3 [.int .i64 0] := by rw [← hX, ← hYs]; exact (RowC.new Y _ _).below (below_new _ _)
    have x5 : RowC X (B + 5) 35 [slV (none, 0, 0)] := by
      rw [← hX]
      have := RowC.new (Y.alloc (.cells #[.int .i64 0] 3)) 35 [.slice none 0 0]
      rw [World.size_alloc, hYs] at this
      exact this
    have SX := SpX.new 0 (len : Int) (.slice a len cap) hXb (by omega)
    rw [hXs] at SX
    obtain ⟨W0, hW0⟩ : ∃ W0, ((X.alloc (.cells #[.slice a len cap] 22)).alloc (.cells #[.int .i64 0] 3)).alloc (.cells #[.int .i64 (len : Int)] 3) = W0 := ⟨_, rfl⟩
    have hWs : W0.heap.size = B + 9 := by rw [← hW0]; simp [hXs]
    have bX : Below X.heap.size X W0 := by rw [← hW0]; exact (((Below.refl _ X).alloc (Nat.le_refl _) _).alloc (by simp) _).alloc (by simp; omega) _
    rw [hW0] at SX
    have z0 := (y0.below hYX).below bX
    have z1 := (y1.below hYX).below bX
    have z2 := (y2.below hYX).below bX
    have z3 := (y3.below hYX).below bX
    have z4 := x4.below bX
    have z5 := x5.below bX
    have xc : X.cell? ⟨B, 0, none⟩ = some (.slice a len cap) := (y0.below hYX).cell 0 _ rfl
    clear y0 y1 y2 y3 x4 x5 bX hXb hYX hYb h1 h2
    gi_wp2_with (refine ⟨trivial, ?_⟩; gi_at_call 36; refine (span_in _ _ trivial rfl _ _ _ _ _ _).mono ?_; rintro e w' ⟨rfl, rfl⟩)
    try rw [hX]
    try rw [hW0]
    try rw [hXs]
    clear hX hW0 hY c0 xc
    have HW := Lib.hid hWs
    have hm : hiOf l (len : Int) - loOf 0 = len := by rw [← hle, hiOf_all, loOf_zero]; rfl
    have hseq := span1_seq 2 (by omega) (B + 6 + 1) (B + 6 + 2) (B + 6) 0 (len : Int) (.slice a len cap) r l W0
    rw [hm, loOf_zero] at hseq
    refine wpIn_rangeFunc_num (n := 3) rfl (by omega) (gf := 51) (lb := #[.pointer (some ⟨B + 6 + 1, 0, none⟩), .pointer (some ⟨B + 6 + 2, 0, none⟩), .pointer (some ⟨B + 6, 0, none⟩)]) rfl trivial (enters_of Try.func51 (by kernel_rfl) rfl)
      hseq (Below.refl _ _) (fun _ => rfl)
      (fun k W => ∃ (last : Int) (u : SlV), RowC W B 22 [.slice a len cap] ∧ RowC W (B + 1) 3 [.int .i64 bl] ∧ RowC W (B + 2) 3 [.int .i64 ar] ∧ RowC W (B + 3) 4 [.bool false] ∧ RowC W (B + 4) 3 [.int .i64 last] ∧ RowC W (B + 5) 35 [slV u] ∧ InO (B + 9) W (slV u) (cAts (l.take k)) ∧ SpX B (B + 6) 0 (len : Int) (.slice a len cap) w W ∧ cRise bl ar 0 l = cRise bl ar last (l.drop k))
      (fun c k W => c = .ret ∧ RowC W (B + 3) 4 [.bool (cGood l bl ar)] ∧ Below B w W)
      ?hR ?hI ?hIx ⟨0, _, z0, z1, z2, z3, z4, z5, InO.nil _ _, SX, rfl⟩
      (fun k a' W => ∃ C q, B + 8 < C ∧ r[k]? = some q ∧ RowC W C 39 (svL q) ∧ a' = { tmps := #[.slice a len cap, .int .i64 bl, .int .i64 ar, .pointer (some ⟨B, 0, none⟩), .pointer (some ⟨B + 1, 0, none⟩), .pointer (some ⟨B + 2, 0, none⟩), .pointer (some ⟨B + 3, 0, none⟩), .pointer (some ⟨B + 4, 0, none⟩), .pointer (some ⟨B + 5, 0, none⟩), .int .i64 (k : Int), .pointer (some ⟨C, 0, none⟩), undef, undef, .slice a len cap, .int .i64 (len : Int), .bool false, .slice a len cap, .slice a len cap, .int .i64 (len : Int), .func (.func 51) #[] #[.pointer (some ⟨B + 6 + 1, 0, none⟩), .pointer (some ⟨B + 6 + 2, 0, none⟩), .pointer (some ⟨B + 6, 0, none⟩)], .int .i64 (k : Int), svV q, undef, undef, undef, undef, undef, undef, undef, undef, undef, undef, undef, undef, undef, undef, undef, undef, undef, undef, undef, undef, undef, undef, undef, undef, undef, undef, undef, undef, undef, undef, undef, undef, undef, undef, undef, undef, undef, undef, undef, undef, undef, undef, undef, undef, undef, undef, undef, undef, undef], defers := [] })
      ?hAx ?assign ?body ?done ?stop
    case hR =>
      rintro k W ⟨last, u, _, _, _, _, _, _, _, h3, _⟩
      exact h3.spb HSZ.out HS.out
    case hI =>
      intro s Y Z row ⟨last, u, g0, g1, g2, g3, g4, g5, g6, g7, g8⟩ hg hr
      exact ⟨last, u, rowC_own g0 hg hr, rowC_own g1 hg hr, rowC_own g2 hg hr, rowC_own g3 hg hr, rowC_own g4 hg hr, rowC_own g5 hg hr, g6.own hg hr, g7.own (by omega) hg (by omega) hr, g8⟩
    case hIx =>
      intro c s Y Z row ⟨g1, g2, g3⟩ hg hr
      exact ⟨g1, rowC_own g2 hg hr, below_own g3 (by omega) hg (fun r e => ⟨by have := (hr r e).1; omega, (hr r e).2⟩)⟩
    case hAx =>
      rintro k a' _ Y Z row ⟨C, q, f1, f2, f3, f4⟩ hg hr
      exact ⟨C, q, f1, f2, rowC_own f3 hg hr, f4⟩
    case assign =>
      rintro lp k W K hkm ⟨last, u, g0, g1, g2, g3, g4, g5, g6, g7, g8⟩ hK
      obtain ⟨q, s, hq, hs, -⟩ := snR_at HS.out (k := k) (by rw [HL.out]; exact hkm)
      have ST := new_sn W q
      have HZ : Hid (B + 8 < W.heap.size) := g7.bj.lt
      have hK := hK _ _ (keepsFrom_below (below_new W (.cells (svL q).toArray 39))) ⟨last, u, g0.below (below_new W _), g1.below (below_new W _), g2.below (below_new W _), g3.below (below_new W _), g4.below (below_new W _), g5.below (below_new W _), g6.below (below_new W _), g7.alloc (by have := HZ.out; omega) _, g8⟩ ⟨W.heap.size, q, HZ.out, hq, RowC.new W _ _, rfl⟩
      rw [encS_at 0 (by rw [Nat.zero_add]; exact hq), Nat.zero_add]
      clear g0 g1 g2 g3 g4 g5 g6 g7 hq hs
      gi_wp2
      exact hK
    case body =>
      clear SX z0 z1 z2 z3 z4 z5 hseq hm q0 hi
      rintro lp k a' W _ _ hkm ⟨last, u, g0, g1, g2, g3, g4, g5, g6, g7, g8⟩ ⟨C, q, hC, hq, hx, rfl⟩
      obtain ⟨q', s, hq', hs, hqs⟩ := snR_at HS.out (k := k) (by rw [HL.out]; exact hkm)
      obtain rfl : q' = q := by rw [hq] at hq'; cases hq'; rfl
      obtain ⟨sid, ⟨x, n, c⟩, ⟨ty, tn, tc⟩⟩ := q'
      have hsm := List.mem_of_getElem? hs
      have hls := HKL.out.2 s hsm
      have hst := cRise_at hs bl ar last
      rw [← g8] at hst
      have HSID : Hid (s.id = sid) := hqs.id.symm
      have HST := Lib.hid hst
      have HZ : Hid (B + 8 < W.heap.size) := g7.bj.lt
      have HSI := Lib.hid (hqs.below (W' := W) (by rw [HSZ.out]; exact g7.be))
      have G0 := Lib.hid g0
      have G1 := Lib.hid g1
      have G2 := Lib.hid g2
      have G3 := Lib.hid g3
      have G4 := Lib.hid g4
      have G5 := Lib.hid g5
      have G6 := Lib.hid g6
      have G7 := Lib.hid g7
      have HX := Lib.hid hx
      have d0 : W.cell? ⟨C, 0, none⟩ = some (.int .i64 sid) := hx.cell 0 _ rfl
      have d1 := g4.cell 0 _ rfl
      have d3 := g3.cell 0 _ rfl
      have f3 := g3.frozen 0
      have HTK := Lib.hid (take_at hs)
      have HKF3 : Hid (KeepsFrom W0.heap.size W (W.setCell ⟨B + 3, 0, none⟩ (.bool false))) := keepsFrom_cells g3 (grownBy_setCellJ W (B + 3) 0 _)
      have HB3 : Hid (Below B w (W.setCell ⟨B + 3, 0, none⟩ (.bool false))) := set_below g7.be (by omega) 0 _
      have HR3 := Lib.hid (g3.set 0 (.bool false))
      simp only [svV, slV]
      by_cases q1 : sid ≤ last
      · have e1 : decide (sid ≤ last) = true := by simpa using q1
        have HG : Hid (cGood l bl ar = false) := by
          show _ = _
          unfold cGood
          rw [HST.out, HSID.out, show decide (last < sid) = false by simp; omega]
          simp
        clear g0 g1 g2 g3 g4 g5 g6 g7 g8 hq hq' hs hqs hx hsm hls hst
        gi_step
        gi_step
        gi_step
        gi_step
        refine region_seq_roundC ?lo (by kernel_rfl) ?_
        case lo => repeat (first | exact letsOut_inBlock letsOut_num | refine letsOut_thenC ?_)
        go_wp2_with fail
        gi_wp2
        refine ⟨HKF3.out, rfl, ?_, HB3.out⟩
        rw [HG.out]
        exact HR3.out
      · have e1 : decide (sid ≤ last) = false := by simpa using q1
        by_cases q2 : sid > 1000000
        · have e2 : decide (sid > 1000000) = true := by simpa using q2
          have HG : Hid (cGood l bl ar = false) := by
            show _ = _
            unfold cGood
            rw [HST.out, HSID.out, show decide (sid ≤ 1000000) = false by simp; omega]
            simp
          clear g0 g1 g2 g3 g4 g5 g6 g7 g8 hq hq' hs hqs hx hsm hls hst
          gi_step
          gi_step
          gi_step
          gi_step
          refine region_seq_roundC ?lo (by kernel_rfl) ?_
          case lo => repeat (first | exact letsOut_inBlock letsOut_num | refine letsOut_thenC ?_)
          go_wp2_with fail
          gi_wp2
          refine ⟨HKF3.out, rfl, ?_, HB3.out⟩
          rw [HG.out]
          exact HR3.out
        · have e2 : decide (sid > 1000000) = false := by simpa using q2
          have HTN : Hid (s.tb.length = tn) := by obtain ⟨a', ca', e, -⟩ := hqs.tb; simp only [slV, Value.slice.injEq] at e; show _ = _; omega
          have HTB : Hid (∀ z : World, Below B w z → Prt z (.slice ty tn tc) s.tb) := fun z hz => hqs.tb.below (by rw [HSZ.out]; exact hz)
          have htn : tn ≤ 1000 := by have := HTN.out; omega
          have HAL : Hid ((cAts (l.take k)).length ≤ 8000 ∧ s.tb.length ≤ 1000) := by
            have h1 := cAts_len (K := 1000) (l.take k) (fun t ht => (HKL.out.2 t (List.mem_of_mem_take ht)).2)
            rw [List.length_take] at h1
            exact ⟨by omega, hls.2⟩
          have LDX := load_snC hx
          have HXX := Lib.hid hx
          have g1c := g1.cell 0 _ rfl
          have g2c := g2.cell 0 _ rfl
          have HF := Lib.hid (ch_fits (q := (sid, (x, n, c), (ty, tn, tc))) HSI.out (by omega) (by omega) bl ar)
          obtain ⟨fb, hfb⟩ : ∃ fb, fitS s bl ar = fb := ⟨_, rfl⟩
          rw [hfb] at HF
          have HFB := Lib.hid hfb
          have HIW : Hid (GdI B W0.heap.size bl ar last a len cap w W W) := ⟨g0, g1, g2, g3, g4, g7, KeepsFrom.refl _ _⟩
          simp only [svV, slV] at HF LDX
          cases fb with
          | false =>
            have HG : Hid (cGood l bl ar = false) := by
              show _ = _
              unfold cGood
              rw [HST.out, HFB.out]
              simp
            clear g0 g1 g2 g3 g4 g5 g6 g7 g8 hq hq' hs hqs hx hsm hls hst hfb
            gi_step
            gi_step
            gi_step
            gi_step
            refine region_seq_roundC ?lo (by kernel_rfl) ?_
            case lo => repeat (first | exact letsOut_inBlock letsOut_num | refine letsOut_thenC ?_)
            go_wp2_with fail
            refine HF.out.mono ?_
            rintro e z ⟨rfl, hz⟩
            have f3z := (G3.out.below hz).frozen 0
            have HKFz : Hid (KeepsFrom W0.heap.size W (z.setCell ⟨B + 3, 0, none⟩ (.bool false))) := keepsFrom_trans (keepsFrom_below hz) (keepsFrom_cells (G3.out.below hz) (grownBy_setCellJ z (B + 3) 0 _))
            have HBz : Hid (Below B w (z.setCell ⟨B + 3, 0, none⟩ (.bool false))) := set_below (G7.out.be.trans (hz.mono (by have := HZ.out; omega))) (by omega) 0 _
            have HRz : Hid (RowC (z.setCell ⟨B + 3, 0, none⟩ (.bool false)) (B + 3) 4 [.bool false]) := (G3.out.below hz).set 0 _
            have c3z := (G3.out.below hz).cell 0 _ rfl
            go_wp2_with fail
            gi_wp2
            refine ⟨HKFz.out, rfl, ?_, HBz.out⟩
            rw [HG.out]
            exact HRz.out
          | true =>
            have HCO := fun (z : World) (hz : Below W.heap.size W z) => ch_complete (w := z) (q := (sid, (x, n, c), (ty, tn, tc))) (HSI.out.below hz) (by omega)
            simp only [svV, slV] at HCO
            have HCO := Lib.hid HCO
            have HTK2 := HTK
            by_cases q4 : (k : Int) < (len : Int) - 1
            · have e4' : decide ((k : Int) < (len : Int) - 1) = true := by simpa using q4
              have HN : Hid ((decide (l.length ≤ k + 1)) = false) := by have := HL.out; show _ = _; simp; omega
              obtain ⟨cb, hcb⟩ : ∃ cb, fullS s = cb := ⟨_, rfl⟩
              have HCB := Lib.hid hcb
              have g8' : (len : Int) ≤ 8 := by omega
              clear g0 g1 g2 g3 g4 g5 g6 g7 g8 hq hq' hs hqs hx hsm hls hst hfb hcb
              gi_step
              gi_step
              gi_step
              gi_step
              refine region_seq_roundC ?lo (by kernel_rfl) ?_
              case lo => repeat (first | exact letsOut_inBlock letsOut_num | refine letsOut_thenC ?_)
              go_wp2_with fail
              refine HF.out.mono ?_
              rintro e y1 ⟨rfl, hy⟩
              have l0 := (G0.out.below hy).cell 0 _ rfl
              have LDY := load_snC (HXX.out.below hy)
              simp only [svV, slV] at LDY
              have HYB := Lib.hid hy
              clear hy HF
              go_wp2_with fail
              gi_step
              gi_step
              gi_step
              gi_step
              gi_step
              gi_step
              refine region_seq_roundC ?lo2 (by kernel_rfl) ?_
              case lo2 => repeat (first | exact letsOut_inBlock letsOut_num | refine letsOut_thenC ?_)
              have HC1 := Lib.hid (HCO.out y1 HYB.out)
              rw [HCB.out] at HC1
              clear HCO
              cases cb with
              | false =>
                have HG : Hid (cGood l bl ar = false) := by
                  show _ = _
                  unfold cGood
                  rw [HST.out, HN.out, HCB.out]
                  simp
                go_wp2_with fail
                refine HC1.out.mono ?_
                rintro e z ⟨rfl, hz0⟩
                have hz : Below W.heap.size W z := HYB.out.trans (hz0.mono HYB.out.size)
                clear hz0 HC1 l0 LDY
                have f3z := (G3.out.below hz).frozen 0
                have HKFz : Hid (KeepsFrom W0.heap.size W (z.setCell ⟨B + 3, 0, none⟩ (.bool false))) := keepsFrom_trans (keepsFrom_below hz) (keepsFrom_cells (G3.out.below hz) (grownBy_setCellJ z (B + 3) 0 _))
                have HBz : Hid (Below B w (z.setCell ⟨B + 3, 0, none⟩ (.bool false))) := set_below (G7.out.be.trans (hz.mono (by have := HZ.out; omega))) (by omega) 0 _
                have HRz : Hid (RowC (z.setCell ⟨B + 3, 0, none⟩ (.bool false)) (B + 3) 4 [.bool false]) := (G3.out.below hz).set 0 _
                have c3z := (G3.out.below hz).cell 0 _ rfl
                go_wp2_with fail
                gi_wp2
                refine ⟨HKFz.out, rfl, ?_, HBz.out⟩
                rw [HG.out]
                exact HRz.out
              | true =>
                have HG : Hid (cRise bl ar 0 l = cRise bl ar sid (l.drop (k + 1))) := by
                  show _ = _
                  rw [HST.out, HSID.out, show decide (last < sid) = true by simp; omega, show decide (sid ≤ 1000000) = true by simp; omega, HFB.out, HCB.out]
                  simp
                go_wp2_with fail
                refine HC1.out.mono ?_
                rintro e z ⟨rfl, hz0⟩
                have HZB : Hid (Below W.heap.size W z) := HYB.out.trans (hz0.mono HYB.out.size)
                have HGI : Hid (GdI B W0.heap.size bl ar last a len cap w W z) := HIW.out.low (HZB.out.mono (by have := HZ.out; omega)) (keepsFrom_below HZB.out)
                clear hz0 HC1 l0 LDY
                have HI1 : Hid (GdI B W0.heap.size bl ar sid a len cap w W (z.setCell ⟨B + 4, 0, none⟩ (.int .i64 sid))) := HGI.out.set4 sid
                obtain ⟨z1, hz1⟩ : ∃ z1, z.setCell ⟨B + 4, 0, none⟩ (.int .i64 sid) = z1 := ⟨_, rfl⟩
                have hzx : RowC z C 39 (svL (sid, (x, n, c), (ty, tn, tc))) := HXX.out.below HZB.out
                have hz4 := HGI.out.g4
                have hz5 : RowC z (B + 5) 35 [slV u] := G5.out.below HZB.out
                have e0 := hzx.cell 0 _ rfl
                have e4 := hz4.cell 0 _ rfl
                have e4f := hz4.frozen 0
                have e2 : z1.cell? ⟨C, 2, none⟩ = some (.slice ty tn tc) := by rw [← hz1]; exact (set_other hzx (by omega) 0 _).cell 2 _ rfl
                have H5 : Hid (RowC z1 (B + 5) 35 [slV u]) := by show RowC _ _ _ _; rw [← hz1]; exact set_other hz5 (by omega) 0 _
                have H6 : Hid (InO (B + 9) z1 (slV u) (cAts (l.take k) ++ (s.tb.take 0).map (·.2))) := by
                  show InO _ _ _ _
                  rw [← hz1, List.take_zero, List.map_nil, List.append_nil]
                  exact (G6.out.below HZB.out).setLow (by omega) 0 _
                have HZS : Hid (B + 9 ≤ z1.heap.size) := by have := HZ.out; have := HZB.out.size; show _ ≤ _; rw [← hz1]; have := (KeepsWalks.setCell z ⟨B + 4, 0, none⟩ (.int .i64 sid)).size; omega
                rw [hz1] at HI1
                clear hzx hz4 hz5
                go_wp2_with fail
                gi_wp2
                try rw [hz1]
                clear hz1
                gi_loopw [53] (fun iv wr => ∃ (j : Nat) (u' : SlV), j ≤ tn ∧ iv = .int .i64 (j : Int) ∧ Hid (RowC wr (B + 5) 35 [slV u']) ∧ Hid (InO (B + 9) wr (slV u') (cAts (l.take k) ++ (s.tb.take j).map (·.2))) ∧ Hid (GdI B W0.heap.size bl ar sid a len cap w W wr) ∧ Hid (B + 9 ≤ wr.heap.size)) (fun iv _ => tn - (intOf iv).toNat)
                case atStart => exact ⟨0, u, Nat.zero_le _, rfl, H5, H6, HI1, HZS⟩
                case round =>
                  obtain ⟨j, u', hj, rfl, K5, K6, KI, KZ⟩ := hrel
                  by_cases hlt : j < tn
                  · obtain ⟨p, hp⟩ : ∃ p, s.tb[j]? = some p := ⟨_, List.getElem?_eq_getElem (by rw [HTN.out]; exact hlt)⟩
                    have hsn : s.tb.take (j + 1) = s.tb.take j ++ [p] := take_at hp
                    obtain ⟨bb, off, rfl, hbb, p1, p2⟩ := (HTB.out wr KI.out.g7.be).at hp
                    obtain ⟨x0, y0⟩ := p
                    simp only at p1 p2
                    have HSN := Lib.hid hsn
                    have g1 : (j : Int) < (tn : Int) := by omega
                    have HWr : Hid (wrap64 ((j : Int) + 1) = (j : Int) + 1) := IntWalk.wrap64_in _ (by omega)
                    have LD := load_prs p1 p2
                    have ST := new_prs wr x0 y0
                    obtain ⟨W2, hW2⟩ : ∃ W2, wr.alloc (.cells #[.int .i64 x0, .int .i64 y0] 42) = W2 := ⟨_, rfl⟩
                    rw [hW2] at ST
                    have hb2 : Below wr.heap.size wr W2 := by rw [← hW2]; exact below_new wr _
                    have hR : RowC W2 wr.heap.size 42 (prL x0 y0) := by rw [← hW2]; exact RowC.new wr _ _
                    have r1 : W2.cell? ⟨wr.heap.size, 1, none⟩ = some (.int .i64 y0) := hR.cell 1 _ rfl
                    have r5 := K5.out.below hb2
                    have r5c := r5.cell 0 _ rfl
                    have o5 := K6.out.below hb2
                    obtain ⟨f2, W4, hr, o6, gg, -⟩ := in_append o5 (by have := hb2.size; have := KZ.out; omega) y0 (by have := HAL.out; simp only [List.length_append, List.length_map, List.length_take]; omega)
                    have HAP := Lib.hid hr
                    have hb4 : Below (B + 9) W2 W4 := (Below.refl _ W2).grown gg (by have := hb2.size; have := KZ.out; omega) (fun i e => (o5.base i e).1)
                    have hkf4 : KeepsFrom W0.heap.size wr W4 := keepsFrom_trans (keepsFrom_below hb2) (keepsFrom_row o5 gg)
                    have r6 : RowC W4 (B + 5) 35 [slV u'] := r5.belowN hb4 (by omega)
                    have r6c := r6.cell 0 _ rfl
                    have r6f := r6.frozen 0
                    obtain ⟨⟨fx, fn', fc⟩, rfl, -⟩ := own_slV o6
                    simp only [slV] at HAP o6
                    have KI4 : Hid (GdI B W0.heap.size bl ar sid a len cap w W (W4.setCell ⟨B + 5, 0, none⟩ (.slice fx fn' fc))) := (KI.out.low ((hb2.mono KZ.out).trans hb4) hkf4).set5 r6 _
                    have R7 : Hid (RowC (W4.setCell ⟨B + 5, 0, none⟩ (.slice fx fn' fc)) (B + 5) 35 [slV (fx, fn', fc)]) := r6.set 0 _
                    have O7 : Hid (InO (B + 9) (W4.setCell ⟨B + 5, 0, none⟩ (.slice fx fn' fc)) (slV (fx, fn', fc)) (cAts (l.take k) ++ (s.tb.take (j + 1)).map (·.2))) := by
                      show World.ownsRow _ _ _ _ _ _ _
                      rw [HSN.out, List.map_append, ← List.append_assoc]
                      exact own_setB o6 r6 (by decide) 0 _
                    have S7 : Hid (B + 9 ≤ (W4.setCell ⟨B + 5, 0, none⟩ (.slice fx fn' fc)).heap.size) := by have := KZ.out; have := hb2.size; have := hb4.size; have := (KeepsWalks.setCell W4 ⟨B + 5, 0, none⟩ (.slice fx fn' fc)).size; show _ ≤ _; omega
                    obtain ⟨W3, hW3⟩ : ∃ W3, W2.alloc (.cells #[.int .i64 y0] 3) = W3 := ⟨_, rfl⟩
                    have SB : Hid ((Instr.buildSlice 35 1 #[(0, .int .i64 y0)]).run Try.prog W2 = .ok (.slice (some ⟨W2.heap.size, 0, none⟩) 1 1) W3) := by show _ = _; rw [← hW3]; exact slice_int1 W2 y0
                    rw [hW3] at HAP
                    obtain ⟨NN, hNN⟩ : ∃ NN, wr.heap.size = NN := ⟨_, rfl⟩
                    rw [hNN] at ST r1
                    have HLT := Lib.hid hlt
                    obtain ⟨ux, un, uc⟩ := u'
                    simp only [slV] at HAP r5c r6c
                    clear hp hsn hbb p1 p2 hW2 hb2 hR r5 o5 hr o6 gg hb4 hkf4 r6 hW3 hlt K5 K6 KI HSN
                    gi_wp2_with (with_reducible refine list_round_build ?lo4 ?hd4 ?_)
                    case lo4 => repeat (first | exact letsOut_num | refine letsOut_thenC ?_ | refine letsOut_inBlock ?_)
                    case hd4 => intro o ho c; simp only [List.mem_cons, List.mem_nil_iff, or_false] at ho; rcases ho with rfl | rfl <;> simp
                    go_wp2_with (first | ((with_reducible refine gate_build ?_); refine wpList_build_run 35 1 #[(0, .tmp 59)] rfl rfl [(0, .int .i64 y0)] _ rfl SB.out ?_) | (at_builtin; refine wpList_append_run (.tmp 57) (.tmp 60) 35 rfl rfl _ _ _ rfl rfl (HAP.out _) ?_))
                    gi_wp2
                    go_roundw
                    case rel => exact ⟨j + 1, (fx, fn', fc), HLT.out, by simp, R7, O7, KI4, S7⟩
                    case measure => have := HLT.out; simp [intOf]; omega
                  · obtain rfl : j = tn := by omega
                    have HTA : Hid (cAts (l.take (k + 1)) = cAts (l.take k) ++ (s.tb.take j).map (·.2)) := by
                      show _ = _
                      rw [HTK.out, cAts_snoc, List.take_of_length_le (l := s.tb) (by rw [HTN.out]; exact Nat.le_refl _)]
                    have HG5 := K5
                    clear K5
                    gi_wp2
                    refine ⟨KI.out.kf, sid, u', KI.out.g0, KI.out.g1, KI.out.g2, KI.out.g3, KI.out.g4, HG5.out, ?_, KI.out.g7, HG.out⟩
                    rw [HTA.out]
                    exact K6.out
            · have e4' : decide ((k : Int) < (len : Int) - 1) = false := by simpa using q4
              have HN : Hid ((decide (l.length ≤ k + 1)) = true) := by have := HL.out; show _ = _; simp; omega
              have g8' : (len : Int) ≤ 8 := by omega
              clear g0 g1 g2 g3 g4 g5 g6 g7 g8 hq hq' hs hqs hx hsm hls hst hfb
              gi_step
              gi_step
              gi_step
              gi_step
              refine region_seq_roundC ?lo (by kernel_rfl) ?_
              case lo => repeat (first | exact letsOut_inBlock letsOut_num | refine letsOut_thenC ?_)
              go_wp2_with fail
              refine HF.out.mono ?_
              rintro e y1 ⟨rfl, hy⟩
              have l0 := (G0.out.below hy).cell 0 _ rfl
              have LDY := load_snC (HXX.out.below hy)
              simp only [svV, slV] at LDY
              have HYB := Lib.hid hy
              clear hy HF
              go_wp2_with fail
              gi_step
              gi_step
              gi_step
              gi_step
              gi_step
              gi_step
              refine region_seq_roundC ?lo2 (by kernel_rfl) ?_
              case lo2 => repeat (first | exact letsOut_inBlock letsOut_num | refine letsOut_thenC ?_)
              have HG : Hid (cRise bl ar 0 l = cRise bl ar sid (l.drop (k + 1))) := by
                show _ = _
                rw [HST.out, HSID.out, show decide (last < sid) = true by simp; omega, show decide (sid ≤ 1000000) = true by simp; omega, HFB.out, HN.out]
                simp
              obtain ⟨z, hzy⟩ : ∃ z, z = y1 := ⟨_, rfl⟩
              subst hzy
              have HZB : Hid (Below W.heap.size W z) := HYB.out
              have HGI : Hid (GdI B W0.heap.size bl ar last a len cap w W z) := HIW.out.low (HZB.out.mono (by have := HZ.out; omega)) (keepsFrom_below HZB.out)
              have HI1 : Hid (GdI B W0.heap.size bl ar sid a len cap w W (z.setCell ⟨B + 4, 0, none⟩ (.int .i64 sid))) := HGI.out.set4 sid
              obtain ⟨z1, hz1⟩ : ∃ z1, z.setCell ⟨B + 4, 0, none⟩ (.int .i64 sid) = z1 := ⟨_, rfl⟩
              have hzx : RowC z C 39 (svL (sid, (x, n, c), (ty, tn, tc))) := HXX.out.below HZB.out
              have hz4 := HGI.out.g4
              have hz5 : RowC z (B + 5) 35 [slV u] := G5.out.below HZB.out
              have e0 := hzx.cell 0 _ rfl
              have e4 := hz4.cell 0 _ rfl
              have e4f := hz4.frozen 0
              have e2 : z1.cell? ⟨C, 2, none⟩ = some (.slice ty tn tc) := by rw [← hz1]; exact (set_other hzx (by omega) 0 _).cell 2 _ rfl
              have H5 : Hid (RowC z1 (B + 5) 35 [slV u]) := by show RowC _ _ _ _; rw [← hz1]; exact set_other hz5 (by omega) 0 _
              have H6 : Hid (InO (B + 9) z1 (slV u) (cAts (l.take k) ++ (s.tb.take 0).map (·.2))) := by
                show InO _ _ _ _
                rw [← hz1, List.take_zero, List.map_nil, List.append_nil]
                exact (G6.out.below HZB.out).setLow (by omega) 0 _
              have HZS : Hid (B + 9 ≤ z1.heap.size) := by have := HZ.out; have := HZB.out.size; show _ ≤ _; rw [← hz1]; have := (KeepsWalks.setCell z ⟨B + 4, 0, none⟩ (.int .i64 sid)).size; omega
              rw [hz1] at HI1
              clear hzx hz4 hz5
              go_wp2_with fail
              gi_wp2
              try rw [hz1]
              clear hz1
              gi_loopw [53] (fun iv wr => ∃ (j : Nat) (u' : SlV), j ≤ tn ∧ iv = .int .i64 (j : Int) ∧ Hid (RowC wr (B + 5) 35 [slV u']) ∧ Hid (InO (B + 9) wr (slV u') (cAts (l.take k) ++ (s.tb.take j).map (·.2))) ∧ Hid (GdI B W0.heap.size bl ar sid a len cap w W wr) ∧ Hid (B + 9 ≤ wr.heap.size)) (fun iv _ => tn - (intOf iv).toNat)
              case atStart => exact ⟨0, u, Nat.zero_le _, rfl, H5, H6, HI1, HZS⟩
              case round =>
                obtain ⟨j, u', hj, rfl, K5, K6, KI, KZ⟩ := hrel
                by_cases hlt : j < tn
                · obtain ⟨p, hp⟩ : ∃ p, s.tb[j]? = some p := ⟨_, List.getElem?_eq_getElem (by rw [HTN.out]; exact hlt)⟩
                  have hsn : s.tb.take (j + 1) = s.tb.take j ++ [p] := take_at hp
                  obtain ⟨bb, off, rfl, hbb, p1, p2⟩ := (HTB.out wr KI.out.g7.be).at hp
                  obtain ⟨x0, y0⟩ := p
                  simp only at p1 p2
                  have HSN := Lib.hid hsn
                  have g1 : (j : Int) < (tn : Int) := by omega
                  have HWr : Hid (wrap64 ((j : Int) + 1) = (j : Int) + 1) := IntWalk.wrap64_in _ (by omega)
                  have LD := load_prs p1 p2
                  have ST := new_prs wr x0 y0
                  obtain ⟨W2, hW2⟩ : ∃ W2, wr.alloc (.cells #[.int .i64 x0, .int .i64 y0] 42) = W2 := ⟨_, rfl⟩
                  rw [hW2] at ST
                  have hb2 : Below wr.heap.size wr W2 := by rw [← hW2]; exact below_new wr _
                  have hR : RowC W2 wr.heap.size 42 (prL x0 y0) := by rw [← hW2]; exact RowC.new wr _ _
                  have r1 : W2.cell? ⟨wr.heap.size, 1, none⟩ = some (.int .i64 y0) := hR.cell 1 _ rfl
                  have r5 := K5.out.below hb2
                  have r5c := r5.cell 0 _ rfl
                  have o5 := K6.out.below hb2
                  obtain ⟨f2, W4, hr, o6, gg, -⟩ := in_append o5 (by have := hb2.size; have := KZ.out; omega) y0 (by have := HAL.out; simp only [List.length_append, List.length_map, List.length_take]; omega)
                  have HAP := Lib.hid hr
                  have hb4 : Below (B + 9) W2 W4 := (Below.refl _ W2).grown gg (by have := hb2.size; have := KZ.out; omega) (fun i e => (o5.base i e).1)
                  have hkf4 : KeepsFrom W0.heap.size wr W4 := keepsFrom_trans (keepsFrom_below hb2) (keepsFrom_row o5 gg)
                  have r6 : RowC W4 (B + 5) 35 [slV u'] := r5.belowN hb4 (by omega)
                  have r6c := r6.cell 0 _ rfl
                  have r6f := r6.frozen 0
                  obtain ⟨⟨fx, fn', fc⟩, rfl, -⟩ := own_slV o6
                  simp only [slV] at HAP o6
                  have KI4 : Hid (GdI B W0.heap.size bl ar sid a len cap w W (W4.setCell ⟨B + 5, 0, none⟩ (.slice fx fn' fc))) := (KI.out.low ((hb2.mono KZ.out).trans hb4) hkf4).set5 r6 _
                  have R7 : Hid (RowC (W4.setCell ⟨B + 5, 0, none⟩ (.slice fx fn' fc)) (B + 5) 35 [slV (fx, fn', fc)]) := r6.set 0 _
                  have O7 : Hid (InO (B + 9) (W4.setCell ⟨B + 5, 0, none⟩ (.slice fx fn' fc)) (slV (fx, fn', fc)) (cAts (l.take k) ++ (s.tb.take (j + 1)).map (·.2))) := by
                    show World.ownsRow _ _ _ _ _ _ _
                    rw [HSN.out, List.map_append, ← List.append_assoc]
                    exact own_setB o6 r6 (by decide) 0 _
                  have S7 : Hid (B + 9 ≤ (W4.setCell ⟨B + 5, 0, none⟩ (.slice fx fn' fc)).heap.size) := by have := KZ.out; have := hb2.size; have := hb4.size; have := (KeepsWalks.setCell W4 ⟨B + 5, 0, none⟩ (.slice fx fn' fc)).size; show _ ≤ _; omega
                  obtain ⟨W3, hW3⟩ : ∃ W3, W2.alloc (.cells #[.int .i64 y0] 3) = W3 := ⟨_, rfl⟩
                  have SB : Hid ((Instr.buildSlice 35 1 #[(0, .int .i64 y0)]).run Try.prog W2 = .ok (.slice (some ⟨W2.heap.size, 0, none⟩) 1 1) W3) := by show _ = _; rw [← hW3]; exact slice_int1 W2 y0
                  rw [hW3] at HAP
                  obtain ⟨NN, hNN⟩ : ∃ NN, wr.heap.size = NN := ⟨_, rfl⟩
                  rw [hNN] at ST r1
                  have HLT := Lib.hid hlt
                  obtain ⟨ux, un, uc⟩ := u'
                  simp only [slV] at HAP r5c r6c
                  clear hp hsn hbb p1 p2 hW2 hb2 hR r5 o5 hr o6 gg hb4 hkf4 r6 hW3 hlt K5 K6 KI HSN
                  gi_wp2_with (with_reducible refine list_round_build ?lo4 ?hd4 ?_)
                  case lo4 => repeat (first | exact letsOut_num | refine letsOut_thenC ?_ | refine letsOut_inBlock ?_)
                  case hd4 => intro o ho c; simp only [List.mem_cons, List.mem_nil_iff, or_false] at ho; rcases ho with rfl | rfl <;> simp
                  go_wp2_with (first | ((with_reducible refine gate_build ?_); refine wpList_build_run 35 1 #[(0, .tmp 59)] rfl rfl [(0, .int .i64 y0)] _ rfl SB.out ?_) | (at_builtin; refine wpList_append_run (.tmp 57) (.tmp 60) 35 rfl rfl _ _ _ rfl rfl (HAP.out _) ?_))
                  gi_wp2
                  go_roundw
                  case rel => exact ⟨j + 1, (fx, fn', fc), HLT.out, by simp, R7, O7, KI4, S7⟩
                  case measure => have := HLT.out; simp [intOf]; omega
                · obtain rfl : j = tn := by omega
                  have HTA : Hid (cAts (l.take (k + 1)) = cAts (l.take k) ++ (s.tb.take j).map (·.2)) := by
                    show _ = _
                    rw [HTK.out, cAts_snoc, List.take_of_length_le (l := s.tb) (by rw [HTN.out]; exact Nat.le_refl _)]
                  have HG5 := K5
                  clear K5
                  gi_wp2
                  refine ⟨KI.out.kf, sid, u', KI.out.g0, KI.out.g1, KI.out.g2, KI.out.g3, KI.out.g4, HG5.out, ?_, KI.out.g7, HG.out⟩
                  rw [HTA.out]
                  exact K6.out
    case done =>
      rintro D W hD ⟨last, u, g0, g1, g2, g3, g4, g5, g6, g7, g8⟩ hK
      clear SX z0 z1 z2 z3 z4 z5 hseq hm q0 hi
      rw [List.take_of_length_le (by rw [HL.out]; exact Nat.le_refl _)] at g6
      rw [cRise_end (by rw [HL.out]; exact Nat.le_refl _)] at g8
      obtain ⟨zs, hzs⟩ : ∃ zs, cAts l = zs := ⟨_, rfl⟩
      rw [hzs] at g6
      have hzl : zs.length ≤ 8000 := by
        rw [← hzs]
        have := cAts_len (K := 1000) l (fun t ht => (HKL.out.2 t ht).2)
        omega
      have HGD : Hid (cGood l bl ar = decide zs.Nodup) := by
        show _ = _
        unfold cGood
        rw [g8, hzs, decide_eq_true (by omega)]
        rfl
      have HSO := Lib.hid (in_sort g6 (by omega))
      have HZ : Hid (B + 8 < W.heap.size) := g7.bj.lt
      have d5 := g5.cell 0 _ rfl
      have G3 := Lib.hid g3
      have G5 := Lib.hid g5
      have G6 := Lib.hid g6
      have G7 := Lib.hid g7.be
      have HK := Lib.hid hK
      obtain ⟨ux, un, uc⟩ := u
      have hun : un = zs.length := by
        rcases g6.2 with ⟨e, e0⟩ | ⟨g, cap', cur, e, -⟩ <;> simp only [slV, Value.slice.injEq] at e <;> omega
      simp only [slV] at d5
      have HUN := Lib.hid hun
      clear g0 g1 g2 g3 g4 g5 g6 g7 g8 hK hzs hun
      gi_wp2_with (refine ⟨trivial, ?_⟩; gi_at_call 42; refine (callsIn_wide.2 HSO.out).mono ?_; rintro e y ⟨rfl, hO, hG⟩)
      have HYB : Hid (Below (B + 9) W y) := (Below.refl _ W).grown hG (by have := HZ.out; omega) (fun k e => (G6.out.base k e).1)
      have HKF1 : Hid (KeepsFrom 0 W y) := keepsFrom_row G6.out hG
      have r5 : RowC y (B + 5) 35 [.slice ux un uc] := G5.out.belowN HYB.out (by omega)
      have r3 : RowC y (B + 3) 4 [.bool false] := G3.out.belowN HYB.out (by omega)
      have HO := Lib.hid hO
      have HR5 := Lib.hid r5
      have HR3 := Lib.hid r3
      have c5 : ∀ z : Kp2 y (B + 5) (B + 3), z.1.cell? ⟨B + 5, 0, none⟩ = some (.slice ux un uc) := fun z => (z.fst r5).cell 0 _ rfl
      have hc := in_compact (w := y.drew) (v := .slice ux un uc) (zs := sorted zs) (own_belowT hO (Below.refl _ y).drew)
      obtain ⟨m, hm⟩ : ∃ m, (Lib.compact (sorted zs)).length = m := ⟨_, rfl⟩
      rw [hm] at hc
      have HM : Hid (cGood l bl ar = ((m : Int) == (un : Int))) := by
        show _ = _
        rw [HGD.out]
        have hh := sorted_compact zs
        rw [hm] at hh
        have hu := HUN.out
        by_cases e : m = zs.length
        · rw [decide_eq_true (hh.1 e), e, hu]; simp
        · rw [decide_eq_false (fun x => e (hh.2 x))]
          symm
          simp
          omega
      have HC := Lib.hid hc
      clear hO hG HSO hc hm r5 r3 d5
      refine wpIn_wide.2 (region_planN (fun x => ∃ z : Kp2 y (B + 5) (B + 3), x = z.1) 6 (.takes [0, 3, 4] (.one 1 (.takes [2, 5] .leaf))) hmx (by kernel_rfl) ⟨⟨y.drew, rfl, rfl⟩, rfl⟩ ?_)
      repeat (rw [wpPlanN_takes_cons]; simp only [nth_zero, nth_succ]; go_big_quiet_step (fail); refine wpQuiet_nil ?_)
      clear c5
      rw [wpPlanN_takes_nil, wpPlanN_one]
      simp only [nth_zero, nth_succ]
      go_wp2_with fail
      go_at_call 43
      refine HC.out.mono ?_
      rintro e z ⟨⟨a2, c2, rfl⟩, hG2⟩
      have hb2 : Below (B + 9) y z := (Below.refl _ y).drew.grown hG2 (by have := HYB.out.size; have := HZ.out; simp; omega) (fun k e => ((HO.out).base k e).1)
      have HKF2 : Hid (KeepsFrom 0 W z) := keepsFrom_trans HKF1.out (keepsFrom_trans (keepsFrom_below (Below.refl _ y).drew) (keepsFrom_row (own_belowT HO.out (Below.refl _ y).drew) hG2))
      have HR3z : Hid (RowC z (B + 3) 4 [.bool false]) := HR3.out.belowN hb2 (by omega)
      have hK2 : z.heap[B + 5]? = y.heap[B + 5]? ∧ z.heap[B + 3]? = y.heap[B + 3]? := ⟨hb2.block _ (by omega), hb2.block _ (by omega)⟩
      have HK2 := Lib.hid hK2
      have HBZ : Hid (Below B w z) := G7.out.trans ((HYB.out.trans hb2).mono (by omega))
      clear hG2 hb2 hK2 HC
      go_wp2_with fail
      refine planPost_mk ⟨⟨z, HK2.out⟩, rfl⟩ ?_
      repeat (rw [wpPlanN_takes_cons]; simp only [nth_zero, nth_succ]; go_big_quiet_step (fail); refine wpQuiet_nil ?_)
      rw [wpPlanN_takes_nil, wpPlanN_leaf]
      simp only [List.drop_succ_cons, List.drop_zero]
      have f3 := HR3z.out.frozen 0
      have c3 := HR3z.out.cell 0 _ rfl
      go_wp2_with fail
      have HKF3 : Hid (KeepsFrom 0 W (z.setCell ⟨B + 3, 0, none⟩ (.bool ((m : Int) == (un : Int))))) := keepsFrom_trans HKF2.out (keepsFrom_cells HR3z.out (grownBy_setCellJ z (B + 3) 0 _))
      have HRF : Hid (RowC (z.setCell ⟨B + 3, 0, none⟩ (.bool ((m : Int) == (un : Int)))) (B + 3) 4 [.bool ((m : Int) == (un : Int))]) := HR3z.out.set 0 _
      have HBF : Hid (Below B w (z.setCell ⟨B + 3, 0, none⟩ (.bool ((m : Int) == (un : Int))))) := set_below HBZ.out (by omega) 0 _
      obtain ⟨ZZ, hZZ⟩ : ∃ ZZ, z.setCell ⟨B + 3, 0, none⟩ (.bool ((m : Int) == (un : Int))) = ZZ := ⟨_, rfl⟩
      rw [hZZ] at HKF3 HRF HBF
      try rw [show B + 1 + 1 + 1 = B + 3 by omega]
      rw [hZZ]
      clear hZZ
      gi_wp2
      have hK2 := HKF3.out.same D _ (Nat.zero_le _) HK.out rfl
      refine ⟨by simp, .inl ⟨_, _, rfl, run_takeDeferred hK2, ?_⟩⟩
      have hg2 := grownBy_putObj' ZZ D (.deferred none)
      have hy2 := rowC_own (N := 0) HRF.out hg2 (fun r e => by cases e; exact ⟨Nat.zero_le _, _, hK2, rfl⟩)
      refine ⟨_, results_cell rfl rfl (load_bool1 hy2), by rw [HM.out], ?_⟩
      rw [HSZ.out]
      exact HBF.out.trans (belowK_b (w := w) (by omega) _ D _ _ (by have := HW.out; have := HSZ.out; omega) hK2 rfl rfl)
    case stop =>
      rintro D c k W hD _ ⟨rfl, g2, g3⟩ hK
      have G2 := Lib.hid g2
      have G3 := Lib.hid g3
      have HK := Lib.hid hK
      clear g2 g3 hK
      gi_wp2
      refine ⟨by simp, .inl ⟨_, _, rfl, run_takeDeferred HK.out, ?_⟩⟩
      have hg2 := grownBy_putObj' W D (.deferred none)
      have hy2 := rowC_own (N := 0) G2.out hg2 (fun r e => by cases e; exact ⟨Nat.zero_le _, _, HK.out, rfl⟩)
      refine ⟨_, results_cell rfl rfl (load_bool1 hy2), rfl, ?_⟩
      rw [HSZ.out]
      exact G3.out.trans (belowK_b (w := w) (by omega) W D _ _ (by have := HW.out; have := HSZ.out; omega) HK.out rfl rfl)
end Go.Proofs.Ytiidfffedoekiaa
