/- The developers' Used. -/
import Derived.Test.YtiidfffedoekiaaPoM1
import Derived.Test.YtiidfffedoekiaaOrd
import Derived.Test.YtiidfffedoekiaaChBx
import Derived.Shelf.Slices.Empties
import Derived.Shelf.Slices.In.SortNone
namespace Go.Proofs.Ytiidfffedoekiaa
open Go.RowKit Go.Shelf Go.Lib Go.Sort
set_option linter.unusedVariables false
set_option linter.unusedSimpArgs false
attribute [-simp] Try.isAgg39 Try.zeroValue39 Try.isAgg42 Try.zeroValue42 Try.isAgg48 Try.zeroValue48
attribute [-go_sem] loadVar storeVar
attribute [local go_sem] loadVar_openQ storeVar_openQ zero_sn zero_prs zero_st

theorem po_isSl {N : Nat} {W : World} {v : Value} {zs : List Int} (h : InO N W v zs) : ∃ q : SlV, v = slV q := by
  obtain ⟨q', e, e2⟩ := own_slV h
  exact ⟨q', e⟩
theorem po_grown {N B : Nat} {x y : World} {v : Value} {zs : List Int} {C : List Value} {t : TypeId} (h : RowC x B t C) (ht : 3 ≠ t) (hv : InO N x v zs) (hg : x.grownBy y v.ownBlock) : RowC y B t C := h.grown hg (row_ne hv h ht)
set_option maxRecDepth 100000 in
theorem po_app {N : Nat} {w : World} {v : Value} {zs : List Int} (h : InO N w v zs) (hN : N ≤ w.heap.size) (x : Int) (hlen : zs.length ≤ 900000) :
    ∃ (W3 : World) (ux : Option Addr) (un uc : Nat) (w' : World), (Instr.buildSlice 35 1 #[(0, .int .i64 x)]).run Try.prog w = .ok (.slice (some ⟨w.heap.size, 0, none⟩) 1 1) W3 ∧ (∀ ty, (Builtin.append_ #[35, 35] ty #[v, .slice (some ⟨w.heap.size, 0, none⟩) 1 1]).run Try.prog W3 = .ok (.slice ux un uc) w') ∧ InO N w' (.slice ux un uc) (zs ++ [x]) ∧ w.grownBy w' v.ownBlock := by
  obtain ⟨v2, W4, hr, h1, h2, -⟩ := in_append h hN x hlen
  obtain ⟨⟨ux, un, uc⟩, rfl⟩ := po_isSl h1
  exact ⟨_, ux, un, uc, W4, slice_int1 w x, hr, h1, h2⟩
set_option maxRecDepth 100000 in
/-- Sort and Compact of numbers of one's own, none too. -/
theorem po_sort {N : Nat} {w : World} {v : Value} {zs : List Int} (h : InO N w v zs) (hlen : zs.length ≤ 1000000) :
    Calls Try.prog 42 #[v] w fun e w' => e = .returned (.tuple #[]) ∧ InO N w' v (sorted zs) ∧ w.grownBy w' v.ownBlock := by
  by_cases hv : v = .slice none 0 0
  · subst hv
    have h0 : zs = [] := by
      rcases h.2 with ⟨_, e⟩ | ⟨g, cap, cur, e, _⟩
      · exact List.eq_nil_of_length_eq_zero e
      · cases e
    subst h0
    refine (Any.slices_Sort_int_none sortLaid none 0 w).mono ?_
    rintro e w' ⟨rfl, rfl⟩
    exact ⟨rfl, by rw [show sorted ([] : List Int) = [] from by simp [sorted]]; exact h, World.grownBy.refl _ _⟩
  · refine (tb_sort h hv hlen).mono ?_
    rintro e w' ⟨rfl, ho, hg⟩
    refine ⟨rfl, ?_, hg⟩
    show w'.ownsRow _ _ _ _ _ _
    rw [sorted_len]
    exact ho
set_option maxRecDepth 100000 in
theorem po_compact {N : Nat} {w : World} {v : Value} {zs : List Int} (h : InO N w v zs) :
    Calls Try.prog 43 #[v] w fun e w' => ∃ u : SlV, e = .returned (slV u) ∧ InO N w' (slV u) (Lib.compact zs) ∧ w.grownBy w' v.ownBlock := by
  by_cases hv : v = .slice none 0 0
  · subst hv
    have h0 : zs = [] := by
      rcases h.2 with ⟨_, e⟩ | ⟨g, cap, cur, e, _⟩
      · exact List.eq_nil_of_length_eq_zero e
      · cases e
    subst h0
    refine (laid_slices_Compact_int_empty none 0 w).mono ?_
    rintro e w' ⟨rfl, rfl⟩
    exact ⟨(none, 0, 0), rfl, h, World.grownBy.refl _ _⟩
  · have h' := h
    rcases h.2 with ⟨e0, _⟩ | ⟨g, cap, cur, rfl, hb, hg, hn, hm, hs, ht⟩
    · exact absurd e0 hv
    · rw [Nat.mul_one] at ht
      have hH := holds_of_blockI hg ht
      refine (laid_slices_Compact_int g 0 cap zs w hH (by unfold maxLen at hm; omega) hn).mono ?_
      rintro e w' ⟨rfl, q, rfl⟩
      have hcl := compact_length_le zs
      refine ⟨(some ⟨g, 0, none⟩, (Lib.compact zs).length, cap), rfl, ?_, ?_⟩
      · have := ownsRow_putRow (q := q) (k := (Lib.compact zs).length) (ys := Lib.compact zs ++ List.replicate (zs.length - (Lib.compact zs).length) 0) h' (by simp; omega) hcl
        rw [List.take_left] at this
        exact this
      · have := grownBy_sortedI (w := w) (g := g) (n := q) (os := #[]) (Lib.compact zs ++ List.replicate (zs.length - (Lib.compact zs).length) 0).toArray
        rwa [grow_empty] at this

set_option maxRecDepth 100000 in
set_option maxHeartbeats 16000000 in
/-- **Used**. -/
theorem po_used {w : World} {q : PS} {l : List SN} {ps : List (Int × Int)} (h : StIs w q l ps) (hK : Lens 200 l) (hp : ps.length ≤ 200) :
    Calls Try.prog 26 #[stV q] w fun e w' => ∃ u : SlV, e = .returned (slV u) ∧ InO w.heap.size w' (slV u) (pUsed l ps) ∧ Below w.heap.size w w' := by
  obtain ⟨⟨dx, dn, dc⟩, ⟨sx, sn, sc⟩, nx, kd, id, ⟨px, pn, pc⟩⟩ := q
  obtain ⟨⟨r, hsn⟩, hpr⟩ := h
  have HS : Hid (SnR w (.slice sx sn sc) r l) := hsn
  have HP : Hid (Prt w (.slice px pn pc) ps) := hpr
  have HKL := Lib.hid hK
  have HPL := Lib.hid hp
  have hsl : sn = l.length := by obtain ⟨a, cap, e, -⟩ := hsn; simp only [slV, Value.slice.injEq] at e; omega
  have hpl : pn = ps.length := by obtain ⟨a, cap, e, -⟩ := hpr; simp only [slV, Value.slice.injEq] at e; omega
  have hs2 : sn ≤ 200 := by have := hK.1; omega
  have hp2 : pn ≤ 200 := by omega
  have HSL := Lib.hid hsl
  have HPN := Lib.hid hpl
  obtain ⟨B, hB⟩ : ∃ B, w.heap.size = B := ⟨_, rfl⟩
  have HSZ := Lib.hid hB
  obtain ⟨W0, hW0⟩ : ∃ W0, w.alloc (.cells #[.slice dx dn dc, .slice sx sn sc, .int .i64 nx, .int .i64 kd, .int .i64 id, .slice px pn pc] 48) = W0 := ⟨_, rfl⟩
  have b0 : Hid (Below B w W0) := by show Below _ _ _; rw [← hW0, ← hB]; exact below_new _ _
  have r0 : Hid (RowC W0 B 48 [.slice dx dn dc, .slice sx sn sc, .int .i64 nx, .int .i64 kd, .int .i64 id, .slice px pn pc]) := by show RowC _ _ _ _; rw [← hW0, ← hB]; exact RowC.new w _ _
  have c1 := r0.out.cell 1 _ rfl
  clear hsn hpr hK hp hsl hpl
  go_enter Try.func26, Try.ntmps26
  simp only [stV, stL, slV]
  go_wp2_with fail
  try rw [hW0]
  try rw [hB]
  clear hW0 hB
  go_loopw [3, 13] (fun uv iv W => ∃ (k : Nat) (u : SlV), k ≤ sn ∧ iv = .int .i64 (k : Int) ∧ uv = slV u ∧ Hid (InO B W (slV u) (cAts (l.take k))) ∧ Hid (RowC W B 48 [.slice dx dn dc, .slice sx sn sc, .int .i64 nx, .int .i64 kd, .int .i64 id, .slice px pn pc]) ∧ Hid (Below B w W)) (fun _ iv _ => sn - (intOf iv).toNat)
  case atStart => exact ⟨0, (none, 0, 0), Nat.zero_le _, rfl, rfl, InO.nil _ _, r0, b0⟩
  case round =>
    obtain ⟨W, hWwr⟩ : ∃ W, W = wr := ⟨_, rfl⟩
    subst hWwr
    obtain ⟨k, u, hk, rfl, rfl, HU, HR, HB⟩ := hrel
    obtain ⟨u0, u1, u2⟩ := u
    by_cases hlt : k < sn
    · obtain ⟨s, hs⟩ : ∃ s, l[k]? = some s := ⟨_, List.getElem?_eq_getElem (by rw [← HSL.out]; exact hlt)⟩
      have hls := HKL.out.2 s (List.mem_of_getElem? hs)
      have HAN : Hid (cAts (l.take (k + 1)) = cAts (l.take k) ++ s.tb.map (·.2)) := by show _ = _; rw [take_at hs, cAts_snoc]
      have HAL : Hid ((cAts (l.take k)).length ≤ 80000) := by
        have h1 := cAts_len (K := 200) (l.take k) (fun t ht => (HKL.out.2 t (List.mem_of_mem_take ht)).2)
        rw [List.length_take] at h1
        show _ ≤ _
        omega
      obtain ⟨A, hA⟩ : ∃ A, cAts (l.take k) = A := ⟨_, rfl⟩
      rw [hA] at HAN HAL HU
      have hbs : w.heap.size = B := HSZ.out
      obtain ⟨b, off, q, rfl, hb, -, hq, e0, e1, e2⟩ := HS.out.at hs
      rw [hbs] at hb
      have LD := load_sn ((HB.out.cell (p := ⟨b, off + k * 3, none⟩) hb).trans e0) ((HB.out.cell (p := ⟨b, off + k * 3 + 1, none⟩) hb).trans e1) ((HB.out.cell (p := ⟨b, off + k * 3 + 2, none⟩) hb).trans e2)
      have ST := new_sn W q
      obtain ⟨Y, hY⟩ : ∃ Y, W.alloc (.cells (svL q).toArray 39) = Y := ⟨_, rfl⟩
      have bY : Below W.heap.size W Y := by rw [← hY]; exact below_new _ _
      have rY : RowC Y W.heap.size 39 (svL q) := by rw [← hY]; exact RowC.new W _ _
      rw [hY] at ST
      obtain ⟨C, hC⟩ : ∃ C, W.heap.size = C := ⟨_, rfl⟩
      rw [hC] at ST rY
      have hsz : B ≤ W.heap.size := Nat.le_trans (by rw [← hbs]; exact Nat.le_refl _) HB.out.size
      have HBY : Hid (Below B w Y) := HB.out.trans (bY.mono hsz)
      have HUY := Lib.hid (HU.out.below bY)
      have RSY := Lib.hid (HR.out.below bY)
      obtain ⟨sid, ⟨x, n, c⟩, ⟨y, m, d⟩⟩ := q
      have RY : Hid (RowC Y C 39 [.int .i64 sid, .slice x n c, .slice y m d]) := rY
      have HM : Hid (m = s.tb.length) := by obtain ⟨a', ca', e, -⟩ := hq.tb; simp only [slV, Value.slice.injEq] at e; show _ = _; omega
      have hm1 : m ≤ 200 := by have := HM.out; omega
      have HTB : Hid (∀ z : World, Below B w z → Prt z (.slice y m d) s.tb) := fun z hz => hq.tb.below (by rw [hbs]; exact hz)
      have c2 := RY.out.cell 2 _ rfl
      have g1 : (k : Int) < (sn : Int) := by omega
      have HW : Hid (wrap64 ((k : Int) + 1) = (k : Int) + 1) := IntWalk.wrap64_in _ (by omega)
      have HLT := Lib.hid hlt
      simp only [slV] at HUY ⊢
      clear hs hls hA hbs hb hq e0 e1 e2 bY rY hsz HU HR hlt
      go_wp2_with fail
      try rw [hY]
      clear LD ST hY
      go_loopw [3, 20] (fun uv jv X => ∃ (i : Nat) (u' : SlV), i ≤ m ∧ jv = .int .i64 (i : Int) ∧ uv = slV u' ∧ Hid (InO B X (slV u') (A ++ (s.tb.take i).map (·.2))) ∧ Hid (RowC X B 48 [.slice dx dn dc, .slice (some ⟨b, off, none⟩) sn sc, .int .i64 nx, .int .i64 kd, .int .i64 id, .slice px pn pc]) ∧ Hid (Below B w X)) (fun _ jv _ => m - (intOf jv).toNat)
      case atStart => exact ⟨0, (u0, u1, u2), Nat.zero_le _, rfl, rfl, (by show InO _ _ _ _; rw [List.take_zero, List.map_nil, List.append_nil]; exact HUY.out), RSY, HBY⟩
      case round =>
        obtain ⟨X, hXwr⟩ : ∃ X, X = wr := ⟨_, rfl⟩
        subst hXwr
        obtain ⟨i, u', hi, rfl, rfl, HUI, RX, HBX⟩ := hrel
        obtain ⟨v0, v1, v2⟩ := u'
        by_cases hij : i < m
        · obtain ⟨p, hp⟩ : ∃ p, s.tb[i]? = some p := ⟨_, List.getElem?_eq_getElem (by rw [← HM.out]; exact hij)⟩
          obtain ⟨bb, boff, rfl, hbb, t0, t1⟩ := (HTB.out _ HBX.out).at hp
          obtain ⟨pb, pa⟩ := p
          simp only at t0 t1
          have g2 : (i : Int) < (m : Int) := by omega
          have HWI : Hid (wrap64 ((i : Int) + 1) = (i : Int) + 1) := IntWalk.wrap64_in _ (by omega)
          have LP := load_prs t0 t1
          have SP := new_prs X pb pa
          obtain ⟨Z, hZ⟩ : ∃ Z, X.alloc (.cells #[.int .i64 pb, .int .i64 pa] 42) = Z := ⟨_, rfl⟩
          rw [hZ] at SP
          have bZ : Below X.heap.size X Z := by rw [← hZ]; exact below_new _ _
          have rZ : RowC Z X.heap.size 42 [.int .i64 pb, .int .i64 pa] := by rw [← hZ]; exact RowC.new X _ _
          have d1 : Z.cell? ⟨X.heap.size, 1, none⟩ = some (.int .i64 pa) := rZ.cell 1 _ rfl
          have hBX : B ≤ X.heap.size := Nat.le_trans (Nat.le_of_eq HSZ.out.symm) HBX.out.size
          have HUZ := HUI.out.below bZ
          have HBZ : Below B w Z := HBX.out.trans (bZ.mono hBX)
          have hBZ : B ≤ Z.heap.size := Nat.le_trans hBX bZ.size
          obtain ⟨W3, vx, vn, vc, X4, hS1, hr, h1, h2⟩ := po_app HUZ hBZ pa (by have := HAL.out; simp only [List.length_append, List.length_map, List.length_take]; omega)
          have HA := Lib.hid hr
          have SB := Lib.hid hS1
          have HU4 : Hid (InO B X4 (.slice vx vn vc) (A ++ (s.tb.take (i + 1)).map (·.2))) := by
            show InO _ _ _ _
            rw [take_at hp, List.map_append, ← List.append_assoc]
            exact h1
          have R4 := Lib.hid (po_grown (RX.out.below bZ) (by decide) HUZ h2)
          have HB4 : Hid (Below B w X4) := HBZ.grown h2 hBZ (fun t e => (HUZ.base t e).1)
          simp only [slV] at HA ⊢
          have HIJ := Lib.hid hij
          clear hp hbb t0 t1 hr h1 h2 hS1 hij rZ bZ hBX HUZ HBZ hBZ
          go_wp2_with (first | (refine gate_build ?_; refine wpList_build_run 35 1 #[(0, .tmp 26)] rfl rfl [(0, .int .i64 pa)] _ rfl SB.out ?_) | (at_builtin; refine wpList_append_run (.tmp 24) (.tmp 27) 35 rfl rfl _ _ _ rfl rfl (HA.out _) ?_))
          exact ⟨⟨i + 1, (vx, vn, vc), HIJ.out, by first | (simp; done) | (simp; exact HWI.out) | (rw [HWI.out]; simp), rfl, HU4, R4, HB4⟩, by have := HIJ.out; first | (simp [intOf]; omega) | (rw [HWI.out]; simp [intOf]; omega) | (simp [intOf, HWI.out]; omega)⟩
        · obtain rfl : i = m := by omega
          have HU5 : Hid (InO B X (.slice v0 v1 v2) (cAts (l.take (k + 1)))) := by
            have := HUI.out
            rw [List.take_of_length_le (by have := HM.out; omega), ← HAN.out] at this
            exact this
          have g2 : ¬ ((i : Int) < (i : Int)) := by omega
          clear HUI hij hi HBY RSY HUY
          simp only [slV]
          go_wp2_with fail
          exact ⟨⟨k + 1, (v0, v1, v2), HLT.out, by first | simp | (rw [HW.out]; simp), rfl, HU5, RX, HBX⟩, by have := HLT.out; first | (simp [intOf]; omega) | (rw [HW.out]; simp [intOf]; omega)⟩
    · obtain rfl : k = sn := by omega
      have HUA : Hid (InO B W (.slice u0 u1 u2) (cAts l ++ pPlan (ps.take 0))) := by
        have := HU.out
        rw [List.take_of_length_le (by have := HSL.out; omega)] at this
        show InO _ _ _ _
        rw [List.take_zero, show pPlan [] = [] from rfl, List.append_nil]
        exact this
      have HCL : Hid ((cAts l).length ≤ 80000) := by
        have h1 := cAts_len (K := 200) l (fun t ht => (HKL.out.2 t ht).2)
        have := HKL.out.1
        show _ ≤ _
        have h2 : l.length * 200 ≤ 200 * 200 := Nat.mul_le_mul_right _ this
        omega
      have g1 : ¬ ((k : Int) < (k : Int)) := by omega
      have c5 := HR.out.cell 5 _ rfl
      clear hlt hk HU
      simp only [slV]
      go_wp2_with fail
      clear c5 g1 c1
      go_loopw [3, 35] (fun uv jv X => ∃ (i : Nat) (u' : SlV), i ≤ pn ∧ jv = .int .i64 (i : Int) ∧ uv = slV u' ∧ Hid (InO B X (slV u') (cAts l ++ pPlan (ps.take i))) ∧ Hid (Below B w X)) (fun _ jv _ => pn - (intOf jv).toNat)
      case atStart => exact ⟨0, (u0, u1, u2), Nat.zero_le _, rfl, rfl, HUA, HB⟩
      case round =>
        obtain ⟨X, hXwr⟩ : ∃ X, X = wr := ⟨_, rfl⟩
        subst hXwr
        obtain ⟨i, u', hi, rfl, rfl, HUI, HBX⟩ := hrel
        obtain ⟨v0, v1, v2⟩ := u'
        by_cases hij : i < pn
        · obtain ⟨p, hp⟩ : ∃ p, ps[i]? = some p := ⟨_, List.getElem?_eq_getElem (by rw [← HPN.out]; exact hij)⟩
          obtain ⟨bb, boff, rfl, hbb, t0, t1⟩ := (HP.out.below (by rw [HSZ.out]; exact HBX.out)).at hp
          obtain ⟨pb, pa⟩ := p
          simp only at t0 t1
          have g2 : (i : Int) < (pn : Int) := by omega
          have HWI : Hid (wrap64 ((i : Int) + 1) = (i : Int) + 1) := IntWalk.wrap64_in _ (by omega)
          have LP := load_prs t0 t1
          have SP := new_prs X pb pa
          obtain ⟨Z, hZ⟩ : ∃ Z, X.alloc (.cells #[.int .i64 pb, .int .i64 pa] 42) = Z := ⟨_, rfl⟩
          rw [hZ] at SP
          have bZ : Below X.heap.size X Z := by rw [← hZ]; exact below_new _ _
          have rZ : RowC Z X.heap.size 42 [.int .i64 pb, .int .i64 pa] := by rw [← hZ]; exact RowC.new X _ _
          have d1 : Z.cell? ⟨X.heap.size, 1, none⟩ = some (.int .i64 pa) := rZ.cell 1 _ rfl
          have hBX : B ≤ X.heap.size := Nat.le_trans (Nat.le_of_eq HSZ.out.symm) HBX.out.size
          have HUZ := HUI.out.below bZ
          have HBZ : Below B w Z := HBX.out.trans (bZ.mono hBX)
          have hBZ : B ≤ Z.heap.size := Nat.le_trans hBX bZ.size
          have hsn := pPlan_snoc (ps.take i) (pb, pa)
          rw [← take_at hp] at hsn
          have HIJ := Lib.hid hij
          by_cases h255 : pa = 255
          · have q1 : (pa == 255) = true := by simpa using h255
            rw [if_pos (by simpa using h255)] at hsn
            have HU4 : Hid (InO B Z (.slice v0 v1 v2) (cAts l ++ pPlan (ps.take (i + 1)))) := by
              show InO _ _ _ _
              rw [hsn]
              exact HUZ
            have HB4 : Hid (Below B w Z) := HBZ
            simp only [slV]
            clear hp hbb t0 t1 hij rZ bZ hBX HUZ HBZ hBZ hsn h255
            go_wp2_with fail
            exact ⟨⟨i + 1, (v0, v1, v2), HIJ.out, by first | (simp; done) | (simp; exact HWI.out) | (rw [HWI.out]; simp), rfl, HU4, HB4⟩, by have := HIJ.out; first | (simp [intOf]; omega) | (rw [HWI.out]; simp [intOf]; omega) | (simp [intOf, HWI.out]; omega)⟩
          · have q1 : (pa == 255) = false := by simpa using h255
            rw [if_neg (by simpa using h255)] at hsn
            obtain ⟨W3, vx, vn, vc, X4, hS1, hr, h1, h2⟩ := po_app HUZ hBZ pa (by have := HCL.out; have := pPlan_len (ps.take i); rw [List.length_append]; rw [List.length_take] at this; omega)
            have HA := Lib.hid hr
            have SB := Lib.hid hS1
            have HU4 : Hid (InO B X4 (.slice vx vn vc) (cAts l ++ pPlan (ps.take (i + 1)))) := by
              show InO _ _ _ _
              rw [hsn, ← List.append_assoc]
              exact h1
            have HB4 : Hid (Below B w X4) := HBZ.grown h2 hBZ (fun t e => (HUZ.base t e).1)
            simp only [slV] at HA ⊢
            clear hp hbb t0 t1 hr h1 h2 hS1 hij rZ bZ hBX HUZ HBZ hBZ hsn h255
            go_wp2_with (first | (refine gate_build ?_; refine wpList_build_run 35 1 #[(0, .tmp 44)] rfl rfl [(0, .int .i64 pa)] _ rfl SB.out ?_) | (at_builtin; refine wpList_append_run (.tmp 42) (.tmp 45) 35 rfl rfl _ _ _ rfl rfl (HA.out _) ?_))
            exact ⟨⟨i + 1, (vx, vn, vc), HIJ.out, by first | (simp; done) | (simp; exact HWI.out) | (rw [HWI.out]; simp), rfl, HU4, HB4⟩, by have := HIJ.out; first | (simp [intOf]; omega) | (rw [HWI.out]; simp [intOf]; omega) | (simp [intOf, HWI.out]; omega)⟩
        · obtain rfl : i = pn := by omega
          have HU5 : InO B X (.slice v0 v1 v2) (pAts l ps) := by
            have := HUI.out
            rw [List.take_of_length_le (by have := HPN.out; omega)] at this
            exact this
          have HSO := Lib.hid (po_sort HU5 (by have := HCL.out; have := pPlan_len ps; have := HPN.out; unfold pAts; rw [List.length_append]; omega))
          have HBS := HU5.base
          have g2 : ¬ ((i : Int) < (i : Int)) := by omega
          have hBX : B ≤ X.heap.size := Nat.le_trans (Nat.le_of_eq HSZ.out.symm) HBX.out.size
          have HBS2 := Lib.hid HBS
          have HBX3 := Lib.hid hBX
          clear HUI hij hi HU5 HBS hBX
          simp only [slV]
          go_wp2_with fail
          go_at_call 42
          refine HSO.out.mono ?_
          rintro e X2 ⟨rfl, hI2, hg2⟩
          have HB2 : Below B w X2 := HBX.out.grown hg2 HBX3.out (fun t e => (HBS2.out t e).1)
          have HB2H := Lib.hid HB2
          have HBX4 : Hid (B ≤ X2.heap.size) := Nat.le_trans HBX3.out hg2.size
          have HCO := Lib.hid (po_compact hI2)
          have HBS4 := Lib.hid hI2.base
          clear hI2 hg2 HB2 HSO
          go_wp2_with fail
          go_at_call 43
          refine HCO.out.mono ?_
          rintro e X3 ⟨u, rfl, hI3, hg3⟩
          have HB3 : Hid (Below B w X3) := HB2H.out.grown hg3 HBX4.out (fun t e => (HBS4.out t e).1)
          have HI3 : Hid (InO B X3 (slV u) (pUsed l ps)) := hI3
          obtain ⟨z0, z1, z2⟩ := u
          simp only [slV] at HI3 ⊢
          clear hI3 hg3 HCO
          go_wp2_with fail
          go_ret
          exact ⟨(z0, z1, z2), rfl, by rw [HSZ.out]; exact HI3.out, by rw [HSZ.out]; exact HB3.out⟩
end Go.Proofs.Ytiidfffedoekiaa
