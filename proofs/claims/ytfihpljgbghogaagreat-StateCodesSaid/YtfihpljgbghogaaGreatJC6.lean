/- The ground of the proofs, part 6. -/
import Derived.Test.YtfihpljgbghogaaGreatJC5
import Derived.Deep.Upon
import Derived.Deep.Cut
/- The guard that every statement on states ends with. -/
namespace Go.Proofs.YtfihpljgbghogaaGreat
open Go.RowKit Go.Shelf Go.Lib
set_option linter.unusedVariables false
set_option linter.unusedSimpArgs false
attribute [-simp] Tryz.isAgg23 Tryz.zeroValue23 Tryz.isAgg51 Tryz.zeroValue51 Tryz.isAgg54 Tryz.zeroValue54 Tryz.isAgg30 Tryz.zeroValue30
attribute [-go_sem] loadVar storeVar
theorem loadVar_openW (t : TypeId) (h : t ≠ 51) (h' : t ≠ 54) (h'' : t ≠ 30) (h3 : t ≠ 23) (a : Addr) : loadVar t a = (do if ← isAgg t then pure (.agg (← loadCells a (← sizeOf t))) else load a) := rfl
theorem storeVar_openW (t : TypeId) (h : t ≠ 51) (h' : t ≠ 54) (h'' : t ≠ 30) (h3 : t ≠ 23) (a : Addr) (v : Value) : storeVar t a v = (do
    if v.cells.size ≠ (← sizeOf t) then stuck "storeVar: the value has not the size of the variable"
    storeCells a v.cells.toList) := rfl
set_option maxRecDepth 100000 in
theorem zero_geoW (w : World) : (zeroValue 23).run Tryz.prog w = .ok (.agg (Geo.mk 0 0 0 0 0).v) w := by kernel_rfl
def gW : Geo := ⟨8, 2, 2, 4, 12⟩
def sW : SG := ⟨8, 2, 2, 4⟩
def tW : ST := ⟨[2, -1, -1, 5], [⟨1, [4], [(2, 3)]⟩], 2, 0, 0, []⟩
set_option maxRecDepth 100000 in
theorem build_gW (w : World) : (Instr.build 23 #[(0, .int .i64 8), (1, .int .i64 2), (2, .int .i64 2), (3, .int .i64 4), (4, .int .i64 12)]).run Tryz.prog w = .ok (.agg gW.v) w := by kernel_rfl
theorem setW : ((((((Geo.mk 0 0 0 0 0).v.setIfInBounds 0 (.int .i64 8)).setIfInBounds 1 (.int .i64 2)).setIfInBounds 2 (.int .i64 2)).setIfInBounds 3 (.int .i64 4)).setIfInBounds 4 (.int .i64 12)) = gW.v := rfl
set_option maxRecDepth 100000 in
theorem size_geoW : (Tryz.prog.info? 23).map (·.size) = some 5 := by kernel_rfl
set_option maxRecDepth 100000 in
theorem new_geoW (x : World) (g : Geo) : (storeVar 23 ⟨x.heap.size, 0, none⟩ (.agg g.v)).run Tryz.prog (x.alloc (.cells (Geo.mk 0 0 0 0 0).v 23)) = .ok () (x.alloc (.cells g.v 23)) :=
  run_storeVar_new x _ _ g.v size_geoW rfl (by kernel_rfl)
set_option maxRecDepth 100000 in
theorem slice_i4 (w : World) (a b c d : Int) : (Instr.buildSlice 24 4 #[(0, .int .i64 a), (1, .int .i64 b), (2, .int .i64 c), (3, .int .i64 d)]).run Tryz.prog w = .ok (.slice (some ⟨w.heap.size, 0, none⟩) 4 4) (w.alloc (.cells #[.int .i64 a, .int .i64 b, .int .i64 c, .int .i64 d] 3)) := by kernel_rfl
attribute [local go_sem] loadVar_openW storeVar_openW zero_geoW build_gW zero_sn zero_prs zero_st build_prs build_sn3
theorem gW_in : gW.In := by intro n hn; simp only [gW, List.mem_cons, List.mem_nil_iff, or_false] at hn; omega
theorem sW_ok : sW.Ok := ⟨by decide, by decide, by decide, by decide, by decide, by decide, by decide⟩
theorem gW_good : gW.good := by decide
theorem tW_good : sGood sW tW = true := by decide +kernel
theorem tW_enc : (sEnc sW tW).length = 126 ∧ (sEnc sW tW)[0]? = some 2 ∧ (sEnc sW tW)[4]? = some 1 ∧ (sEnc sW tW)[10]? = some 3 ∧ (sEnc sW tW)[13]? = some 6 ∧ (sEnc sW tW)[14]? = some 1 ∧ (sEnc sW tW)[18]? = some 4 ∧ (sEnc sW tW)[21]? = some 4 := by decide +kernel
theorem tW_byt : ∀ x ∈ sEnc sW tW, 0 ≤ x ∧ x < 256 := by decide +kernel
theorem tW_lens : Lens 1000 tW.sn := ⟨by decide, fun s hs => by
  simp [tW] at hs
  subst hs
  simp⟩
theorem snO_lit1 {N : Nat} {W : World} {q : SV} {s : SN} (hN : N ≤ W.heap.size) (hq : SnF N W q s) : SnO N (W.alloc (.cells (svL q).toArray 51)) (.slice (some ⟨W.heap.size, 0, none⟩) 1 1) [s] := by
  refine ⟨[q], rfl, World.ownsRow_lit W (svL q).toArray 1 hN (by simp [maxLen]) rfl, fun j q' s' a b => ?_⟩
  match j with
  | 0 => cases a; cases b; exact hq.below (below_new _ _)
  | j + 1 => simp at a
section
set_option maxRecDepth 100000
set_option maxHeartbeats 4000000
set_option maxRecDepth 100000 in
theorem lawSmallW (w : World) : Calls Tryz.prog 18 #[] w fun e w' => e = .returned (.agg gW.v) ∧ Below w.heap.size w w' := by
  have ST := new_geoW w gW
  obtain ⟨y, hy⟩ : ∃ y, w.alloc (.cells gW.v 23) = y := ⟨_, rfl⟩
  have hr : RowC y w.heap.size 23 gW.cs := by rw [← hy]; exact RowC.new _ _ _
  have hb : Below w.heap.size w y := by rw [← hy]; exact below_new _ _
  rw [hy, ← setW] at ST
  have L0 := load_geo hr
  clear hy
  go_enter Tryz.func18, Tryz.ntmps18
  go_wp2_with fail
  exact bodyPost_ret (results_cell rfl rfl L0) rfl ⟨rfl, hb⟩
set_option maxRecDepth 100000 in
/-- **The guard.** -/
theorem st_wakes (w : World) : Calls Tryz.prog 5 #[] w fun e w' => e = .returned (.bool true) ∧ Below w.heap.size w w' := by
  have HF : Hid (∀ z : World, Calls Tryz.prog 11 #[.agg gW.v] z fun e w' => ∃ x n c, e = .returned (.tuple #[stV ⟨(x, n, c), (none, 0, 0), 1, 0, 0, (none, 0, 0)⟩, .int .i64 0]) ∧ InO z.heap.size w' (.slice x n c) (List.replicate sW.slots (-1)) ∧ Below z.heap.size z w') := fun z => sg_first sW sW_ok 12 gW_in gW_good
  go_enter Tryz.func5, Tryz.ntmps5
  go_wp2_with fail
  refine (lawSmallW w).mono ?_
  rintro e x1 ⟨rfl, hb1⟩
  have ST1 := new_geoW x1 gW
  obtain ⟨y1, hy1⟩ : ∃ y, x1.alloc (.cells gW.v 23) = y := ⟨_, rfl⟩
  have r1 : RowC y1 x1.heap.size 23 gW.cs := by rw [← hy1]; exact RowC.new _ _ _
  have B1 : Hid (Below w.heap.size w y1) := hb1.trans (by rw [← hy1]; exact (below_new _ _).mono hb1.size)
  obtain ⟨G0, hG0⟩ : ∃ G, x1.heap.size = G := ⟨_, rfl⟩
  rw [hy1, hG0] at ST1
  rw [hG0] at r1
  have L1 := load_geo r1
  have R1 := Lib.hid r1
  clear hb1 hy1 r1
  go_wp2_with fail
  refine (HF.out y1).mono ?_
  rintro e x2 ⟨a0, n0, c0, rfl, -, hb2⟩
  have hg2 := R1.out.below hb2
  have ST2 := new_st x2 ⟨(a0, n0, c0), (none, 0, 0), 1, 0, 0, (none, 0, 0)⟩
  obtain ⟨y2, hy2⟩ : ∃ y, x2.alloc (.cells (stL ⟨(a0, n0, c0), (none, 0, 0), 1, 0, 0, (none, 0, 0)⟩).toArray 30) = y := ⟨_, rfl⟩
  have r2 : RowC y2 x2.heap.size 30 (stL ⟨(a0, n0, c0), (none, 0, 0), 1, 0, 0, (none, 0, 0)⟩) := by rw [← hy2]; exact RowC.new _ _ _
  have b2 : Below x2.heap.size x2 y2 := by rw [← hy2]; exact below_new _ _
  have hg2' := hg2.below b2
  obtain ⟨E, hE⟩ : ∃ G, x2.heap.size = G := ⟨_, rfl⟩
  have hGE : G0 < E := by rw [← hE]; exact hg2.lt
  have hwE : w.heap.size ≤ E := by rw [← hE]; exact Nat.le_trans B1.out.size hb2.size
  have B2 : Below w.heap.size w y2 := (B1.out.trans (hb2.mono B1.out.size)).trans (b2.mono (by rw [hE]; exact hwE))
  rw [hy2, hE] at ST2
  rw [hE] at r2
  -- the literals of the snapshot
  have S3 := slice_u81 y2 4
  obtain ⟨y3, hy3⟩ : ∃ y, y2.alloc (.cells #[.int .u8 4] 5) = y := ⟨_, rfl⟩
  have b3 : Below y2.heap.size y2 y3 := by rw [← hy3]; exact below_new _ _
  have o3 : y3.ownsRow y2.heap.size 5 1 (.slice (some ⟨y2.heap.size, 0, none⟩) 1 1) 1 [.int .u8 4] := by rw [← hy3]; exact own_u81 y2 4
  have S4 := slice_prs y3 2 3
  obtain ⟨y4, hy4⟩ : ∃ y, y3.alloc (.cells #[.int .i64 2, .int .i64 3] 54) = y := ⟨_, rfl⟩
  have b4 : Below y3.heap.size y3 y4 := by rw [← hy4]; exact below_new _ _
  have o4 : PrO y3.heap.size y4 (.slice (some ⟨y3.heap.size, 0, none⟩) 1 1) [(2, 3)] := by rw [← hy4]; exact PrO.one y3 (2, 3) ⟨by simp [Is64], by simp [Is64]⟩
  have S5 := slice_sn1 y4 (1, (some ⟨y2.heap.size, 0, none⟩, 1, 1), (some ⟨y3.heap.size, 0, none⟩, 1, 1))
  obtain ⟨y5, hy5⟩ : ∃ y, y4.alloc (.cells (svL (1, (some ⟨y2.heap.size, 0, none⟩, 1, 1), (some ⟨y3.heap.size, 0, none⟩, 1, 1))).toArray 51) = y := ⟨_, rfl⟩
  have b5 : Below y4.heap.size y4 y5 := by rw [← hy5]; exact below_new _ _
  have o5 : SnO y2.heap.size y5 (.slice (some ⟨y4.heap.size, 0, none⟩) 1 1) tW.sn := by rw [← hy5]; exact snO_lit1 (Nat.le_trans b3.size b4.size) ⟨rfl, own_belowT o3 b4, o4.weak b3.size, ⟨by simp [Is64], bytes_oneC 4 (by decide), o4.2⟩⟩
  have b25 : Below y2.heap.size y2 y5 := b3.trans ((b4.trans (b5.mono b4.size)).mono b3.size)
  obtain ⟨C1, hC1⟩ : ∃ C, y2.heap.size = C := ⟨_, rfl⟩
  obtain ⟨C2, hC2⟩ : ∃ C, y3.heap.size = C := ⟨_, rfl⟩
  obtain ⟨C3, hC3⟩ : ∃ C, y4.heap.size = C := ⟨_, rfl⟩
  rw [hy3, hC1] at S3
  rw [hy4, hC2] at S4
  rw [hy5, hC1, hC2, hC3] at S5
  rw [hC3] at o5
  have hEN : E < y2.heap.size := r2.lt
  have r2' := r2.below b25
  have f1 := r2'.frozen 1
  have e1 := r2'.cell 1 _ rfl
  have t6 := r2'.set 1 (.slice (some ⟨C3, 0, none⟩) 1 1)
  have f2 := t6.frozen 2
  have e2 := t6.cell 2 _ rfl
  have t7 := t6.set 2 (.int .i64 2)
  obtain ⟨y7, hy7⟩ : ∃ y, (y5.setCell ⟨E, 1, none⟩ (.slice (some ⟨C3, 0, none⟩) 1 1)).setCell ⟨E, 2, none⟩ (.int .i64 2) = y := ⟨_, rfl⟩
  have hEy5 := r2'.lt
  have g67 : y5.grownBy y7 (some E) := by rw [← hy7]; exact grown_trans (grownBy_setCellJ y5 E 1 _) (grownBy_setCellJ _ E 2 _)
  have o7 : SnO y2.heap.size y7 (.slice (some ⟨C3, 0, none⟩) 1 1) tW.sn := o5.low g67 (fun j e => by cases e; exact hEN)
  have g7 : RowC y7 G0 23 gW.cs := (hg2'.below b25).grown g67 (by simp; omega)
  have hsE : w.heap.size ≤ E := hwE
  have B7 : Below w.heap.size w y7 := (B2.trans (b25.mono (by have := B2.size; omega))).grown g67 (by have := B2.size; have := b25.size; omega) (fun j e => by cases e; exact hwE)
  rw [hy7] at t7
  have S8 := slice_int0 y7
  obtain ⟨y8, hy8⟩ : ∃ y, y7.alloc (.cells #[] 3) = y := ⟨_, rfl⟩
  have b8 : Below y7.heap.size y7 y8 := by rw [← hy8]; exact below_new _ _
  have o8 := own_int0 y7.heap.size y7 (Nat.le_refl _)
  have S9 := slice_i4 y8 2 (-1) (-1) 5
  obtain ⟨y9, hy9⟩ : ∃ y, y8.alloc (.cells #[.int .i64 2, .int .i64 (-1), .int .i64 (-1), .int .i64 5] 3) = y := ⟨_, rfl⟩
  have b9 : Below y8.heap.size y8 y9 := by rw [← hy9]; exact below_new _ _
  have r9 : RowC y9 y8.heap.size 3 (tW.d.map (Value.int .i64)) := by rw [← hy9]; exact RowC.new _ _ _
  have o9 : Sl .i64 y9 (.slice (some ⟨y8.heap.size, 0, none⟩) 4 4) tW.d := sl_numI (row_ownsI (base := 0) r9 (Nat.zero_le _) (by decide))
  rw [hy8] at S8 o8
  have b79 : Below y7.heap.size y7 y9 := b8.trans (b9.mono b8.size)
  obtain ⟨v, y10, hA, o10, g10⟩ := in_appendS (o8.below b9) o9 b79.size (by decide)
  obtain ⟨⟨va, vn, vc⟩, rfl, -⟩ := own_slV o10
  have b10 : Below y7.heap.size y7 y10 := b79.grown g10 b79.size (fun j e => by cases e; exact Nat.le_refl _)
  have t10 := t7.below b10
  have f3 := t10.frozen 0
  have e3 := t10.cell 0 _ rfl
  have t11 := t10.set 0 (slV (va, vn, vc))
  obtain ⟨D1, hD1⟩ : ∃ C, y7.heap.size = C := ⟨_, rfl⟩
  obtain ⟨D2, hD2⟩ : ∃ C, y8.heap.size = C := ⟨_, rfl⟩
  rw [hy9, hD2] at S9
  rw [hD1] at S8 hA
  rw [hD2] at hA
  obtain ⟨y11, hy11⟩ : ∃ y, y10.setCell ⟨E, 0, none⟩ (slV (va, vn, vc)) = y := ⟨_, rfl⟩
  rw [hy11] at t11
  have g11 : y10.grownBy y11 (some E) := by rw [← hy11]; exact grownBy_setCellJ y10 E 0 _
  have R11 : Hid (RowC y11 E 30 (stL ⟨(va, vn, vc), (some ⟨C3, 0, none⟩, 1, 1), 2, 0, 0, (none, 0, 0)⟩)) := t11
  have G11 : Hid (RowC y11 G0 23 gW.cs) := (g7.below b10).grown g11 (by simp; omega)
  have D11 : Hid (Sl .i64 y11 (.slice va vn vc) tW.d) := sl_numI (o10.low g11 (fun j e => by cases e; have := t7.lt; omega))
  have N11 : Hid (Snp y11 (.slice (some ⟨C3, 0, none⟩) 1 1) tW.sn) := ((o7.below b10).low g11 (fun j e => by cases e; exact hEN)).snp
  have B11 : Hid (Below w.heap.size w y11) := (B7.trans (b10.mono B7.size)).grown g11 (Nat.le_trans B7.size b10.size) (fun j e => by cases e; exact hwE)
  simp only [svV, stV, stL, slV] at ST2 S5 e1 e2 e3 hA hy11 ⊢
  clear b8 b9 b79 b10 t6 t7 t10 t11 o7 g7 o8 o9 o10 g10 g67 r9 hD1 hD2 hy8 hy9 B7 g11
  clear L1 hg2 b2 hy2 b3 o3 hy3 b4 o4 hy4 b5 hy5 ST1 o5 b25 hg2' r2' r2 hEy5 hsE hEN
  have HE : Hid (∀ z : World, Below y11.heap.size y11 z → Calls Tryz.prog 7 #[.agg gW.v, .agg #[.slice va vn vc, .slice (some ⟨C3, 0, none⟩) 1 1, .int .i64 2, .int .i64 0, .int .i64 0, .slice none 0 0]] z fun e w' => ∃ u c, e = .returned (.tuple #[u, .int .i64 c]) ∧ EncR sW tW z.heap.size w' u c ∧ Below z.heap.size z w') := fun z hz => sg_encode (q := ⟨(va, vn, vc), (some ⟨C3, 0, none⟩, 1, 1), 2, 0, 0, (none, 0, 0)⟩) sW sW_ok 12 gW_in gW_good (D11.out.below hz) (fun x hx => by simp [tW] at hx; rcases hx with rfl | rfl | rfl <;> simp [Is64]) ⟨N11.out.below hz, Prt.nil _⟩ tW_lens (by decide)
  have KG : Hid (∀ z : World, Below y11.heap.size y11 z → (loadVar 23 ⟨G0, 0, none⟩).run Tryz.prog z = .ok (.agg gW.v) z) := fun z hz => load_geo (G11.out.below hz)
  have KS : Hid (∀ z : World, Below y11.heap.size y11 z → (loadVar 30 ⟨E, 0, none⟩).run Tryz.prog z = .ok (.agg #[.slice va vn vc, .slice (some ⟨C3, 0, none⟩) 1 1, .int .i64 2, .int .i64 0, .int .i64 0, .slice none 0 0]) z) := fun z hz => load_stC (R11.out.below hz)
  have k1 := KG.out _ (Below.refl _ _)
  have k2 := KS.out _ (Below.refl _ _)
  go_wp2_with (first
    | (with_reducible refine gate_build ?_; first
      | refine wpList_build_run 31 1 _ rfl rfl [(0, .int .u8 4)] _ rfl S3 ?_
      | refine wpList_build_run 26 1 _ rfl rfl [(0, .agg #[.int .i64 2, .int .i64 3])] _ rfl S4 ?_
      | refine wpList_build_run 25 1 _ rfl rfl [(0, _)] _ rfl S5 ?_
      | refine wpList_build_run 24 0 _ rfl rfl [] _ rfl S8 ?_
      | refine wpList_build_run 24 4 _ rfl rfl [(0, _), (1, _), (2, _), (3, _)] _ rfl S9 ?_)
    | (at_builtin; refine wpList_append_run (.tmp 21) (.tmp 22) 24 rfl rfl _ _ _ rfl rfl (hA _) ?_))
  clear S3 S4 S5 S8 S9 hA ST2 f1 e1 f2 e2 f3 e3 hy7 hy11 hC1 hC2 hC3 hG0 hE
  refine (HE.out _ (Below.refl _ _)).mono ?_
  rintro e x3 ⟨u, c3, rfl, hEn, hb3⟩
  obtain ⟨rfl, ho⟩ := hEn.1 tW_good
  have hbs : Sl .u8 x3 u (sEnc sW tW) := Sl.of_owns ho
  obtain ⟨un, uc, rfl⟩ : ∃ g c, u = .slice (some ⟨g, 0, none⟩) 126 c := by
    rcases ho.2 with ⟨-, h⟩ | ⟨g, cap, cur, h, -⟩
    · rw [tW_enc.1] at h; cases h
    · rw [tW_enc.1] at h; exact ⟨g, cap, h⟩
  have KC : Hid (∀ z : World, Below x3.heap.size x3 z → z.cell? ⟨un, 0, none⟩ = some (.int .u8 2) ∧ z.cell? ⟨un, 4, none⟩ = some (.int .u8 1) ∧ z.cell? ⟨un, 10, none⟩ = some (.int .u8 3) ∧ z.cell? ⟨un, 13, none⟩ = some (.int .u8 6) ∧ z.cell? ⟨un, 14, none⟩ = some (.int .u8 1) ∧ z.cell? ⟨un, 18, none⟩ = some (.int .u8 4) ∧ z.cell? ⟨un, 21, none⟩ = some (.int .u8 4)) := fun z hz => by
    have h := own_belowT ho hz
    have key : ∀ (j : Nat) (b : Int), (sEnc sW tW)[j]? = some b → z.cell? ⟨un, j, none⟩ = some (.int .u8 b) := fun j b hj => by
      have := h.cells (g := un) rfl j (.int .u8 b) (by unfold u8s; rw [List.getElem?_map, hj]; rfl)
      rwa [Addr.add_mid, Nat.zero_add] at this
    obtain ⟨-, a1, a2, a3, a4, a5, a6, a7⟩ := tW_enc
    exact ⟨key _ _ a1, key _ _ a2, key _ _ a3, key _ _ a4, key _ _ a5, key _ _ a6, key _ _ a7⟩
  have B3 := Lib.hid hb3
  have HDC : Hid (∀ z : World, Below x3.heap.size x3 z → Calls Tryz.prog 9 #[.agg gW.v, .slice (some ⟨un, 0, none⟩) 126 uc] z fun e w' => ∃ q c, e = .returned (.tuple #[stV q, .int .i64 c]) ∧ DecR sW (sEnc sW tW) z.heap.size w' q c ∧ Below z.heap.size z w') := fun z hz => sg_decode sW sW_ok 12 gW_in gW_good (hbs.below hz) (fun j => by
    by_cases hj : j < (sEnc sW tW).length
    · rw [List.getElem?_eq_getElem hj]; exact tW_byt _ (List.getElem_mem hj)
    · rw [List.getElem?_eq_none (by omega)]; simp) (by rw [tW_enc.1]; decide)
  clear k1 k2 HE hEn hb3 ho hbs
  have k1 := KG.out _ B3.out
  go_wp2_with fail
  refine (HDC.out _ (Below.refl _ _)).mono ?_
  rintro e x4 ⟨⟨⟨q1, q2, q3⟩, ⟨q4, q5, q6⟩, nx, kd, id, ⟨q7, q8, q9⟩⟩, c4, rfl, hDc, hb4⟩
  unfold DecR at hDc
  rw [dec_enc sW_ok tW_good] at hDc
  obtain ⟨rfl, rfl, rfl, rfl, hd1, hs1, hp1⟩ := hDc
  have ST4 := new_st x4 ⟨(q1, q2, q3), (q4, q5, q6), tW.nx, tW.kd, tW.id, (q7, q8, q9)⟩
  obtain ⟨y12, hy12⟩ : ∃ y, x4.alloc (.cells (stL ⟨(q1, q2, q3), (q4, q5, q6), tW.nx, tW.kd, tW.id, (q7, q8, q9)⟩).toArray 30) = y := ⟨_, rfl⟩
  have r12 : RowC y12 x4.heap.size 30 (stL ⟨(q1, q2, q3), (q4, q5, q6), tW.nx, tW.kd, tW.id, (q7, q8, q9)⟩) := by rw [← hy12]; exact RowC.new _ _ _
  have b12 : Below x4.heap.size x4 y12 := by rw [← hy12]; exact below_new _ _
  obtain ⟨F, hF⟩ : ∃ G, x4.heap.size = G := ⟨_, rfl⟩
  rw [hy12, hF] at ST4
  rw [hF] at r12
  have B12 : Hid (Below x3.heap.size x3 y12) := hb4.trans (b12.mono hb4.size)
  have B12' : Hid (Below y11.heap.size y11 y12) := B3.out.trans (B12.out.mono B3.out.size)
  have ID : Hid (Sl .i64 y12 (.slice q1 q2 q3) tW.d) := sl_numI (hd1.below b12)
  have IS : Hid (StIs y12 ⟨(q1, q2, q3), (q4, q5, q6), tW.nx, tW.kd, tW.id, (q7, q8, q9)⟩ tW.sn tW.pr) := ⟨(hs1.below b12).snp, (hp1.below b12).prt⟩
  have KT : Hid (∀ z : World, Below y12.heap.size y12 z → (loadVar 30 ⟨F, 0, none⟩).run Tryz.prog z = .ok (.agg #[.slice q1 q2 q3, .slice q4 q5 q6, .int .i64 tW.nx, .int .i64 tW.kd, .int .i64 tW.id, .slice q7 q8 q9]) z) := fun z hz => load_stC (r12.below hz)
  have KB : Hid (∀ z : World, Calls Tryz.prog 19 #[.agg gW.v] z fun e w' => e = .returned (.int .i64 126) ∧ Below z.heap.size z w') := fun z => gmBytes gW gW_in z
  have HSM : Hid (∀ z : World, Below y12.heap.size y12 z → Calls Tryz.prog 20 #[.agg #[.slice va vn vc, .slice (some ⟨C3, 0, none⟩) 1 1, .int .i64 2, .int .i64 0, .int .i64 0, .slice none 0 0], .agg #[.slice q1 q2 q3, .slice q4 q5 q6, .int .i64 tW.nx, .int .i64 tW.kd, .int .i64 tW.id, .slice q7 q8 q9]] z fun e w' => e = .returned (.bool true) ∧ Below z.heap.size z w') := fun z hz =>
    (sg_same (q := ⟨(va, vn, vc), (some ⟨C3, 0, none⟩, 1, 1), 2, 0, 0, (none, 0, 0)⟩) (q' := ⟨(q1, q2, q3), (q4, q5, q6), tW.nx, tW.kd, tW.id, (q7, q8, q9)⟩) (D11.out.below (B12'.out.trans (hz.mono B12'.out.size))) (ID.out.below hz) ⟨N11.out.below (B12'.out.trans (hz.mono B12'.out.size)), Prt.nil _⟩ (IS.out.below hz) tW_lens (by decide) (by decide)).mono fun e y ⟨t, h1, h2, h3⟩ => ⟨by rw [h1, h2.2 rfl], h3⟩
  have HGD : Hid (∀ z : World, Below y12.heap.size y12 z → Calls Tryz.prog 13 #[.agg gW.v, .agg #[.slice q1 q2 q3, .slice q4 q5 q6, .int .i64 tW.nx, .int .i64 tW.kd, .int .i64 tW.id, .slice q7 q8 q9]] z fun e w' => e = .returned (.bool true) ∧ Below z.heap.size z w') := fun z hz =>
    (sg_good (q := ⟨(q1, q2, q3), (q4, q5, q6), tW.nx, tW.kd, tW.id, (q7, q8, q9)⟩) sW sW_ok 12 gW_in gW_good (ID.out.below hz) (fun x hx => by simp [tW] at hx; rcases hx with rfl | rfl | rfl <;> simp [Is64]) (IS.out.below hz) tW_lens (by decide)).mono fun e y ⟨h1, h2⟩ => ⟨by rw [h1]; exact congrArg (fun b => Ending.returned (.bool b)) tW_good, h2⟩
  have HCY : Hid (∀ z : World, Below y12.heap.size y12 z → Calls Tryz.prog 17 #[.agg #[.slice q1 q2 q3, .slice q4 q5 q6, .int .i64 tW.nx, .int .i64 tW.kd, .int .i64 tW.id, .slice q7 q8 q9]] z fun e w' => ∃ (p1 : Option Addr) (p2 p3 : Nat) (p4 : Option Addr) (p5 p6 : Nat) (p7 : Option Addr) (p8 p9 : Nat), e = .returned (.agg #[.slice p1 p2 p3, .slice p4 p5 p6, .int .i64 tW.nx, .int .i64 tW.kd, .int .i64 tW.id, .slice p7 p8 p9]) ∧ Below z.heap.size z w' ∧
      (∀ x : World, Below w'.heap.size w' x → Calls Tryz.prog 20 #[.agg #[.slice p1 p2 p3, .slice p4 p5 p6, .int .i64 tW.nx, .int .i64 tW.kd, .int .i64 tW.id, .slice p7 p8 p9], .agg #[.slice q1 q2 q3, .slice q4 q5 q6, .int .i64 tW.nx, .int .i64 tW.kd, .int .i64 tW.id, .slice q7 q8 q9]] x fun e w'' => e = .returned (.bool true) ∧ Below x.heap.size x w'')) := fun z hz =>
    (sg_copy (q := ⟨(q1, q2, q3), (q4, q5, q6), tW.nx, tW.kd, tW.id, (q7, q8, q9)⟩) (ID.out.below hz) (IS.out.below hz) tW_lens (by decide) (by decide)).mono fun e y ⟨q', h1, h2, h3, h4, h5, h6⟩ => by
      obtain ⟨⟨p1, p2, p3⟩, ⟨p4, p5, p6⟩, nx, kd, id, ⟨p7, p8, p9⟩⟩ := q'
      obtain rfl : nx = tW.nx := h2
      obtain rfl : kd = tW.kd := h3
      obtain rfl : id = tW.id := h4
      refine ⟨p1, p2, p3, p4, p5, p6, p7, p8, p9, h1, h6, fun x hx => ?_⟩
      have hzx : Below y12.heap.size y12 x := (hz.trans (h6.mono hz.size)).trans (hx.mono (Nat.le_trans hz.size h6.size))
      exact (sg_same (q := ⟨(p1, p2, p3), (p4, p5, p6), tW.nx, tW.kd, tW.id, (p7, p8, p9)⟩) (q' := ⟨(q1, q2, q3), (q4, q5, q6), tW.nx, tW.kd, tW.id, (q7, q8, q9)⟩) (h5.below hx).sl (ID.out.below hzx) (h5.below hx).is (IS.out.below hzx) tW_lens (by decide) (by decide)).mono fun e y ⟨t, h1, h2, h3⟩ => ⟨by rw [h1, h2.2 rfl], h3⟩
  have d0 : ∀ z : Ext y12, (loadVar 23 ⟨G0, 0, none⟩).run Tryz.prog z.1 = .ok (.agg gW.v) z.1 := fun z => KG.out _ (B12'.out.trans (z.2.mono B12'.out.size))
  have d1 : ∀ z : Ext y12, (loadVar 30 ⟨E, 0, none⟩).run Tryz.prog z.1 = .ok (.agg #[.slice va vn vc, .slice (some ⟨C3, 0, none⟩) 1 1, .int .i64 2, .int .i64 0, .int .i64 0, .slice none 0 0]) z.1 := fun z => KS.out _ (B12'.out.trans (z.2.mono B12'.out.size))
  have d2 : ∀ z : Ext y12, (loadVar 30 ⟨F, 0, none⟩).run Tryz.prog z.1 = .ok (.agg #[.slice q1 q2 q3, .slice q4 q5 q6, .int .i64 tW.nx, .int .i64 tW.kd, .int .i64 tW.id, .slice q7 q8 q9]) z.1 := fun z => KT.out _ z.2
  have dd : ∀ z : Ext y12, _ := fun z => KC.out z.1 (B12.out.trans (z.2.mono B12.out.size))
  have c0 := fun z => (dd z).1
  have c4 := fun z => (dd z).2.1
  have c10 := fun z => (dd z).2.2.1
  have c13 := fun z => (dd z).2.2.2.1
  have c14 := fun z => (dd z).2.2.2.2.1
  have c18 := fun z => (dd z).2.2.2.2.2.1
  have c21 := fun z => (dd z).2.2.2.2.2.2
  have KD : Hid (Below y12.heap.size y12 y12.drew) := (Below.refl _ y12).drew
  have BF : Hid (∀ z : World, Below y12.heap.size y12 z → Below w.heap.size w z) := fun z hz => (B11.out.trans (B12'.out.mono B11.out.size)).trans (hz.mono (Nat.le_trans B11.out.size B12'.out.size))
  have hmx : Tryz.prog.follows .mixedOrders = true := by kernel_rfl
  simp only [stV, stL, slV] at ST4 ⊢
  clear k1 hb4 hd1 hs1 hp1 r12 b12 hy12 HDC dd
  go_wp2_with fail
  clear ST4
  try simp only [List.append_eq, List.cons_append, List.nil_append]
  refine region_plan (fun x => ∃ z : Ext y12, x = z.1) 80 (.takes [0, 1, 2, 3, 4, 5, 6, 7, 8, 9] (.one 10 (.takes [11, 12, 13, 14, 15, 16, 17, 18, 19, 20, 21, 22, 23, 24, 25, 26, 27, 28, 29, 30, 31, 32, 33, 34, 35, 36, 37, 38, 39] (.takes [40, 41, 42, 43, 44, 45, 46, 47, 48, 49, 50, 51, 52, 53, 54, 55, 56, 57, 58, 59, 60, 61, 62, 63, 64, 65, 66] (.one 67 (.takes [68, 69, 70, 71] (.one 72 (.takes [73, 74, 75, 77] (.one 76 (.one 78 (.takes [79] .leaf))))))))))) hmx (by kernel_rfl) (by intro c x v a w h; cases x <;> exact h) ⟨⟨y12.drew, KD.out⟩, rfl⟩ ?_
  repeat (rw [wpPlan_takes_cons]; simp only [nth_zero, nth_succ]; go_big_quiet_step (fail); refine wpQuiet_nil ?_)
  rw [wpPlan_takes_nil, wpPlan_one]
  simp only [nth_zero, nth_succ]
  go_wp2_with fail
  refine (KB.out _).mono ?_
  rintro e x5 ⟨rfl, hb5⟩
  have B5 : Hid (Below y12.heap.size y12 x5) := KD.out.trans (hb5.mono KD.out.size)
  clear hb5
  go_wp2_with fail
  refine planPost_mk ⟨⟨x5, B5.out⟩, rfl⟩ ?_
  repeat (rw [wpPlan_takes_cons]; simp only [nth_zero, nth_succ]; go_big_quiet_step (fail); refine wpQuiet_nil ?_)
  rw [wpPlan_takes_nil]
  repeat (rw [wpPlan_takes_cons]; simp only [nth_zero, nth_succ]; go_big_quiet_step (fail); refine wpQuiet_nil ?_)
  rw [wpPlan_takes_nil, wpPlan_one]
  simp only [nth_zero, nth_succ]
  go_wp2_with fail
  refine (HSM.out _ B5.out).mono ?_
  rintro e x6 ⟨rfl, hb6⟩
  have B6 : Hid (Below y12.heap.size y12 x6) := B5.out.trans (hb6.mono B5.out.size)
  clear hb6
  go_wp2_with fail
  refine planPost_mk ⟨⟨x6, B6.out⟩, rfl⟩ ?_
  repeat (rw [wpPlan_takes_cons]; simp only [nth_zero, nth_succ]; go_big_quiet_step (fail); refine wpQuiet_nil ?_)
  rw [wpPlan_takes_nil, wpPlan_one]
  simp only [nth_zero, nth_succ]
  go_wp2_with fail
  refine (HGD.out _ B6.out).mono ?_
  rintro e x7 ⟨rfl, hb7⟩
  have B7 : Hid (Below y12.heap.size y12 x7) := B6.out.trans (hb7.mono B6.out.size)
  clear hb7
  go_wp2_with fail
  refine planPost_mk ⟨⟨x7, B7.out⟩, rfl⟩ ?_
  repeat (rw [wpPlan_takes_cons]; simp only [nth_zero, nth_succ]; go_big_quiet_step (fail); refine wpQuiet_nil ?_)
  rw [wpPlan_takes_nil, wpPlan_one]
  simp only [nth_zero, nth_succ]
  go_wp2_with fail
  refine (HCY.out _ B7.out).mono ?_
  rintro e x8 ⟨p1, p2, p3, p4, p5, p6, p7, p8, p9, rfl, hb8, hsm⟩
  have B8 : Hid (Below y12.heap.size y12 x8) := B7.out.trans (hb8.mono B7.out.size)
  have HS2 := Lib.hid (hsm x8 (Below.refl _ _))
  clear hb8 hsm
  go_wp2_with fail
  refine planPost_mk ⟨⟨x8, B8.out⟩, rfl⟩ ?_
  rw [wpPlan_one]
  simp only [nth_zero, nth_succ]
  go_wp2_with fail
  refine HS2.out.mono ?_
  rintro e x9 ⟨rfl, hb9⟩
  have B9 : Hid (Below y12.heap.size y12 x9) := B8.out.trans (hb9.mono B8.out.size)
  have HF9 := Lib.hid (BF.out _ B9.out)
  clear hb9
  go_wp2_with fail
  refine planPost_mk ⟨⟨x9, B9.out⟩, rfl⟩ ?_
  repeat (rw [wpPlan_takes_cons]; simp only [nth_zero, nth_succ]; go_big_quiet_step (fail); refine wpQuiet_nil ?_)
  rw [wpPlan_takes_nil, wpPlan_leaf]
  simp only [List.drop_succ_cons, List.drop_zero]
  go_wp2_with fail
  go_ret
  exact ⟨rfl, HF9.out⟩
end
end Go.Proofs.YtfihpljgbghogaaGreat

/- Which states the statements ask of. -/
namespace Go.Proofs.YtfihpljgbghogaaGreat
open Go.RowKit
set_option linter.unusedVariables false
set_option linter.unusedSimpArgs false
attribute [-simp] Tryz.isAgg51 Tryz.zeroValue51 Tryz.isAgg54 Tryz.zeroValue54 Tryz.isAgg30 Tryz.zeroValue30
attribute [-go_sem] loadVar storeVar
attribute [local go_sem] loadVar_openQ storeVar_openQ zero_sn zero_prs zero_st

def fairP (l : List SN) (dn : Nat) (ps : List (Int × Int)) : Bool := l.all (fun s => decide (s.ch.length ≤ 40) && decide (s.tb.length ≤ 80)) && (decide (l.length ≤ 12) && (decide (dn ≤ 80) && decide (ps.length ≤ 80)))
theorem fairP_lens {l : List SN} {dn : Nat} {ps : List (Int × Int)} (h : fairP l dn ps = true) : Lens 200 l ∧ ps.length ≤ 200 := by
  unfold fairP at h
  simp only [Bool.and_eq_true, List.all_eq_true, decide_eq_true_eq] at h
  exact ⟨⟨by omega, fun s hs => ⟨by have := h.1 s hs; omega, by have := h.1 s hs; omega⟩⟩, by omega⟩

set_option maxRecDepth 100000 in
set_option maxHeartbeats 2000000 in
theorem po_fair {w : World} {q : PS} {l : List SN} {ps : List (Int × Int)} (h : StIs w q l ps) (hdc : q.d.2.1 ≤ 9223372036854775807) :
    Calls Tryz.prog 4 #[stV q] w fun e w' => e = .returned (.bool (fairP l q.d.2.1 ps)) ∧ Below w.heap.size w w' := by
  obtain ⟨⟨dx, dn, dc⟩, ⟨sx, sn, sc⟩, nx, kd, id, ⟨px, pn, pc⟩⟩ := q
  obtain ⟨⟨r, hsn⟩, hpr⟩ := h
  simp only at hdc
  have hsl : sn = l.length := by obtain ⟨a, cap, e, -⟩ := hsn; simp only [slV, Value.slice.injEq] at e; omega
  have hpl : pn = ps.length := by obtain ⟨a, cap, e, -⟩ := hpr; simp only [slV, Value.slice.injEq] at e; omega
  have hml : sn ≤ 9223372036854775807 := by obtain ⟨a, cap, e, h1, h2, -⟩ := hsn; unfold maxLen at h2; omega
  have hmp : pn ≤ 9223372036854775807 := by obtain ⟨a, cap, e, h1, h2, -⟩ := hpr; unfold maxLen at h2; omega
  obtain ⟨B, hB⟩ : ∃ B, w.heap.size = B := ⟨_, rfl⟩
  have HSZ := Lib.hid hB
  obtain ⟨W0, hW0⟩ : ∃ W0, w.alloc (.cells #[.slice dx dn dc, .slice sx sn sc, .int .i64 nx, .int .i64 kd, .int .i64 id, .slice px pn pc] 30) = W0 := ⟨_, rfl⟩
  have b0 : Below B w W0 := by rw [← hW0, ← hB]; exact below_new _ _
  have r0 : RowC W0 B 30 [.slice dx dn dc, .slice sx sn sc, .int .i64 nx, .int .i64 kd, .int .i64 id, .slice px pn pc] := by rw [← hW0, ← hB]; exact RowC.new w _ _
  have HS : Hid (SnR W0 (.slice sx sn sc) r l) := hsn.below (by rw [hB]; exact b0)
  have HSL := Lib.hid hsl
  have HPL := Lib.hid hpl
  have HB := Lib.hid b0
  have k0 := r0.cell 0 _ rfl
  have k1 := r0.cell 1 _ rfl
  have k5 := r0.cell 5 _ rfl
  clear hsn hpr hsl hpl b0 r0
  go_enter Tryz.func4, Tryz.ntmps4
  simp only [stV, stL, slV]
  go_wp2_with fail
  try rw [hW0]
  try rw [hB]
  clear hW0 hB
  go_loopw [3] (fun iv wr => ∃ k : Nat, k ≤ sn ∧ iv = .int .i64 (k : Int) ∧ wr = W0 ∧ Hid (∀ s ∈ l.take k, s.ch.length ≤ 40 ∧ s.tb.length ≤ 80)) (fun iv _ => sn - (intOf iv).toNat)
  case atStart => exact ⟨0, Nat.zero_le _, rfl, rfl, fun s hs => by simp at hs⟩
  case round =>
    obtain ⟨k, hk, rfl, rfl, HP⟩ := hrel
    by_cases hlt : k < sn
    · obtain ⟨s, hs⟩ : ∃ s, l[k]? = some s := ⟨_, List.getElem?_eq_getElem (by rw [← HSL.out]; exact hlt)⟩
      have hsn := take_at hs
      have hsm := List.mem_of_getElem? hs
      obtain ⟨b, off, q, rfl, hb, -, hq, c0, c1, c2⟩ := HS.out.at hs
      obtain ⟨i, ⟨x, n, c⟩, ⟨y, m, d⟩⟩ := q
      simp only [slV] at c0 c1 c2
      obtain rfl : n = s.ch.length := by obtain ⟨a, ca, e, -⟩ := hq.ch; simp only [slV, Value.slice.injEq] at e; omega
      obtain rfl : m = s.tb.length := by obtain ⟨a, ca, e, -⟩ := hq.tb; simp only [slV, Value.slice.injEq] at e; omega
      obtain ⟨n, hn⟩ : ∃ n, s.ch.length = n := ⟨_, rfl⟩
      obtain ⟨m, hm⟩ : ∃ m, s.tb.length = m := ⟨_, rfl⟩
      rw [hn] at c1
      rw [hm] at c2
      have g1 : (k : Int) < (sn : Int) := by omega
      have HW : Hid (wrap64 ((k : Int) + 1) = (k : Int) + 1) := IntWalk.wrap64_in _ (by omega)
      have HLT := Lib.hid hlt
      by_cases q1 : 40 < n
      · have e1 : decide ((n : Int) > 40) = true := by simp; omega
        have g2 : (n : Int) > 40 := by omega
        have HE : Hid (fairP l dn ps = false) := by
          show _ = _
          unfold fairP
          rw [Bool.and_eq_false_iff]
          left
          rw [List.all_eq_false]
          exact ⟨s, hsm, by simp; omega⟩
        clear hs hsn hsm hb hq c0 hn hm hlt HP
        go_wp2_with fail
        refine bodyPost_ret (results_tmp rfl _ _ _) rfl ?_
        exact ⟨by rw [HE.out]; try rfl, by rw [HSZ.out]; exact HB.out⟩
      · have e1 : decide ((n : Int) > 40) = false := by simp; omega
        have g2 : ¬ (n : Int) > 40 := by omega
        by_cases q2 : 80 < m
        · have e2 : decide ((m : Int) > 80) = true := by simp; omega
          have g3 : (m : Int) > 80 := by omega
          have HE : Hid (fairP l dn ps = false) := by
            show _ = _
            unfold fairP
            rw [Bool.and_eq_false_iff]
            left
            rw [List.all_eq_false]
            exact ⟨s, hsm, by simp; omega⟩
          clear hs hsn hsm hb hq c0 hn hm hlt HP
          go_wp2_with fail
          refine bodyPost_ret (results_tmp rfl _ _ _) rfl ?_
          exact ⟨by rw [HE.out]; try rfl, by rw [HSZ.out]; exact HB.out⟩
        · have e2 : decide ((m : Int) > 80) = false := by simp; omega
          have g3 : ¬ (m : Int) > 80 := by omega
          have HP2 : Hid (∀ s ∈ l.take (k + 1), s.ch.length ≤ 40 ∧ s.tb.length ≤ 80) := fun t ht => by
            rw [hsn] at ht
            rcases List.mem_append.1 ht with ht | ht
            · exact HP.out t ht
            · rw [List.mem_singleton.1 ht]; omega
          clear hs hsn hsm hb hq c0 hn hm hlt HP
          go_wp2_with fail
          exact ⟨⟨k + 1, HLT.out, by first | simp | (rw [HW.out]; simp), trivial, HP2⟩, by have := HLT.out; first | (simp [intOf]; omega) | (rw [HW.out]; simp [intOf]; omega)⟩
    · obtain rfl : k = sn := by omega
      have HE : Hid (fairP l dn ps = (decide ((k : Int) ≤ 12) && (decide ((dn : Int) ≤ 80) && decide ((pn : Int) ≤ 80)))) := by
        have := HP.out
        rw [List.take_of_length_le (by rw [← HSL.out]; exact Nat.le_refl _)] at this
        show _ = _
        unfold fairP
        rw [← HSL.out, ← HPL.out, show (l.all fun s => decide (s.ch.length ≤ 40) && decide (s.tb.length ≤ 80)) = true from by
          rw [List.all_eq_true]; intro s hs; have := this s hs; simp; omega, Bool.true_and]
        rw [show decide (k ≤ 12) = decide ((k : Int) ≤ 12) from by congr 1; simp; omega, show decide (dn ≤ 80) = decide ((dn : Int) ≤ 80) from by congr 1; simp; omega, show decide (pn ≤ 80) = decide ((pn : Int) ≤ 80) from by congr 1; simp; omega]
      clear HP
      cases q1 : decide ((k : Int) ≤ 12) with
      | false =>
        rw [q1] at HE
        go_wp2_with fail
        refine bodyPost_ret (results_tmp rfl _ _ _) rfl ?_
        exact ⟨by rw [HE.out]; try rfl, by rw [HSZ.out]; exact HB.out⟩
      | true =>
        rw [q1] at HE
        cases q2 : decide ((dn : Int) ≤ 80) with
        | false =>
          rw [q2] at HE
          go_wp2_with fail
          refine bodyPost_ret (results_tmp rfl _ _ _) rfl ?_
          exact ⟨by rw [HE.out]; try rfl, by rw [HSZ.out]; exact HB.out⟩
        | true =>
          rw [q2] at HE
          cases q3 : decide ((pn : Int) ≤ 80) with
          | false =>
            rw [q3] at HE
            go_wp2_with fail
            refine bodyPost_ret (results_tmp rfl _ _ _) rfl ?_
            exact ⟨by rw [HE.out]; try rfl, by rw [HSZ.out]; exact HB.out⟩
          | true =>
            rw [q3] at HE
            go_wp2_with fail
            refine bodyPost_ret (results_tmp rfl _ _ _) rfl ?_
            exact ⟨by rw [HE.out]; try rfl, by rw [HSZ.out]; exact HB.out⟩
end Go.Proofs.YtfihpljgbghogaaGreat

/- A geometry that comes in. -/
namespace Go.Proofs.YtfihpljgbghogaaGreat
open Go.ChangeShapes Go.WideShapes Go.ChangeAt Go.RowKit
set_option linter.unusedVariables false

set_option maxRecDepth 100000 in
theorem under_geo : ∃ fs, Tryz.prog.underlying 23 = some (.struct fs) ∧ (fs[0]?).map (fun f => (f.offset, f.type)) = some (0, 3) ∧ (fs[1]?).map (fun f => (f.offset, f.type)) = some (1, 3) ∧ (fs[2]?).map (fun f => (f.offset, f.type)) = some (2, 3) ∧ (fs[3]?).map (fun f => (f.offset, f.type)) = some (3, 3) ∧ (fs[4]?).map (fun f => (f.offset, f.type)) = some (4, 3) :=
  ⟨_, Tryz.underlying23, rfl, rfl, rfl, rfl, rfl⟩
set_option maxRecDepth 100000 in
theorem geo_of_cells {W : World} {cs : List Value} (h : Cells W 23 cs) : ∃ g : Geo, g.In ∧ cs = g.cs := by
  obtain ⟨fs, hu, f0, f1, f2, f3, f4⟩ := under_geo
  obtain ⟨hl, hf⟩ := h.struct hu
  rw [show Tryz.prog.cellsOf 23 = 5 from by kernel_rfl] at hl
  have field : ∀ (j o : Nat) t, (fs[j]?).map (fun f => (f.offset, f.type)) = some (o, t) → Cells W t ((cs.drop o).take (Tryz.prog.cellsOf t)) := by
    intro j o t hj
    obtain ⟨f, hf1, hf2⟩ := Option.map_eq_some_iff.1 hj
    cases hf2
    exact hf j f hf1
  obtain ⟨x0, x1, x2, x3, x4, rfl⟩ : ∃ x0 x1 x2 x3 x4, cs = [x0, x1, x2, x3, x4] := by
    match cs, hl with
    | [x0, x1, x2, x3, x4], _ => exact ⟨x0, x1, x2, x3, x4, rfl⟩
  have g0 := field 0 0 _ f0
  have g1 := field 1 1 _ f1
  have g2 := field 2 2 _ f2
  have g3 := field 3 3 _ f3
  have g4 := field 4 4 _ f4
  rw [show Tryz.prog.cellsOf 3 = 1 from by kernel_rfl] at g0 g1 g2 g3 g4
  obtain ⟨n0, e0, w0⟩ := g0.int Tryz.underlying3
  obtain ⟨n1, e1, w1⟩ := g1.int Tryz.underlying3
  obtain ⟨n2, e2, w2⟩ := g2.int Tryz.underlying3
  obtain ⟨n3, e3, w3⟩ := g3.int Tryz.underlying3
  obtain ⟨n4, e4, w4⟩ := g4.int Tryz.underlying3
  simp at e0 e1 e2 e3 e4
  subst e0 e1 e2 e3 e4
  refine ⟨⟨n0, n1, n2, n3, n4⟩, ?_, rfl⟩
  intro n hn
  simp only [List.mem_cons, List.mem_nil_iff, or_false] at hn
  rcases hn with rfl | rfl | rfl | rfl | rfl
  · exact bounds_i64 w0
  · exact bounds_i64 w1
  · exact bounds_i64 w2
  · exact bounds_i64 w3
  · exact bounds_i64 w4
theorem Arg.geo {W : World} {v : Value} (h : Arg W 23 v) : ∃ g : Geo, g.In ∧ v = .agg g.v := by
  obtain ⟨fs, hu, _⟩ := under_geo
  obtain ⟨cs, rfl, _, hc⟩ := h.agg (.inl ⟨fs, hu⟩)
  obtain ⟨g, hg, rfl⟩ := geo_of_cells hc
  exact ⟨g, hg, rfl⟩
end Go.Proofs.YtfihpljgbghogaaGreat

/- Any sizes, any state: what the statements on states need of the program. -/
namespace Go.Proofs.YtfihpljgbghogaaGreat
open Go.RowKit Go.Shelf Go.Lib
set_option linter.unusedVariables false
set_option linter.unusedSimpArgs false
/-- A state that somebody handed in. -/
structure StA (W : World) (q : PS) (d : List Int) (l : List SN) (ps : List (Int × Int)) : Prop where
  dd : Sl .i64 W (slV q.d) d
  i6 : ∀ x ∈ d, Is64 x
  st : StIs W q l ps
theorem StA.below {W W' : World} {q : PS} {d : List Int} {l : List SN} {ps : List (Int × Int)} (h : StA W q d l ps) (hB : Below W.heap.size W W') : StA W' q d l ps := ⟨h.dd.below hB, h.i6, h.st.below hB⟩
set_option maxRecDepth 100000 in
theorem st_of_cells {W : World} {cs : List Value} (hcs : Cells W 30 cs) : ∃ q d l ps, cs = stL q ∧ StA W q d l ps := by
  obtain ⟨hl, hj⟩ := hcs.struct Tryz.underlying30
  rw [show Tryz.prog.cellsOf 30 = 6 from by kernel_rfl] at hl
  have h0 : Cells W 24 ((cs.drop 0).take (Tryz.prog.cellsOf 24)) := hj 0 _ rfl
  have h1 : Cells W 25 ((cs.drop 1).take (Tryz.prog.cellsOf 25)) := hj 1 _ rfl
  have h2 : Cells W 3 ((cs.drop 2).take (Tryz.prog.cellsOf 3)) := hj 2 _ rfl
  have h3 : Cells W 28 ((cs.drop 3).take (Tryz.prog.cellsOf 28)) := hj 3 _ rfl
  obtain ⟨_, hk⟩ := h3.struct Tryz.underlying28
  rw [show Tryz.prog.cellsOf 28 = 3 from by kernel_rfl] at hk
  have k0 : Cells W 3 ((((cs.drop 3).take 3).drop 0).take (Tryz.prog.cellsOf 3)) := hk 0 _ rfl
  have k1 : Cells W 3 ((((cs.drop 3).take 3).drop 1).take (Tryz.prog.cellsOf 3)) := hk 1 _ rfl
  have k2 : Cells W 26 ((((cs.drop 3).take 3).drop 2).take (Tryz.prog.cellsOf 26)) := hk 2 _ rfl
  rw [show Tryz.prog.cellsOf 24 = 1 from by kernel_rfl] at h0
  rw [show Tryz.prog.cellsOf 25 = 1 from by kernel_rfl] at h1
  rw [show Tryz.prog.cellsOf 3 = 1 from by kernel_rfl] at h2 k0 k1
  rw [show Tryz.prog.cellsOf 26 = 1 from by kernel_rfl] at k2
  match cs, hl with
  | [x0, x1, x2, x3, x4, x5], _ =>
    obtain ⟨a, la, ca, d, e0, hdl, -, hd, hw⟩ := h0.sl Tryz.underlying24 Tryz.underlying3 (by kernel_rfl)
    obtain ⟨q1, l, e1, hs⟩ := h1.snp
    obtain ⟨n2, e2, -⟩ := h2.int Tryz.underlying3
    obtain ⟨n3, e3, -⟩ := k0.int Tryz.underlying3
    obtain ⟨n4, e4, -⟩ := k1.int Tryz.underlying3
    obtain ⟨c, lc, cc, e5, r5⟩ := k2.slice Tryz.underlying26
    obtain ⟨ps, hp⟩ := prt_of r5
    simp at e0 e1 e2 e3 e4 e5
    subst e0 e1 e2 e3 e4 e5
    exact ⟨⟨(a, la, ca), q1, n2, n3, n4, (c, lc, cc)⟩, d, l, ps, rfl, hd, (fun x hx => bounds_i64 (hw x hx)), hs, hp⟩
set_option maxRecDepth 100000 in
theorem Arg.stA {W : World} {v : Value} (h : Arg W 30 v) : ∃ q d l ps, v = stV q ∧ StA W q d l ps := by
  obtain ⟨cs, rfl, hl, hcs⟩ := h.agg (.inl ⟨_, Tryz.underlying30⟩)
  obtain ⟨q, d, l, ps, rfl, h2⟩ := st_of_cells hcs
  exact ⟨q, d, l, ps, rfl, h2⟩
def Geo.sg (G : Geo) : SG := ⟨G.b.toNat, G.s.toNat, G.y.toNat, G.a.toNat⟩
theorem Geo.sg_ok {G : Geo} (h : G.good) : G.sg.Ok ∧ G.sg.geo G.r = G := by
  obtain ⟨b, s, y, a, r⟩ := G
  obtain ⟨⟨h1, h2, h3, h4, h5, h6, h7, h8⟩, -⟩ := h
  simp only at h1 h2 h3 h4 h5 h6 h7 h8
  refine ⟨⟨?_, ?_, ?_, ?_, ?_, ?_, ?_⟩, ?_⟩
  any_goals (simp only [Geo.sg]; omega)
  simp only [SG.geo, Geo.sg, Geo.mk.injEq]
  refine ⟨?_, ?_, ?_, ?_, trivial⟩ <;> omega
def gGood (G : Geo) (s : ST) : Bool := decide G.good && sGood G.sg s
def gDec (G : Geo) (bs : List Int) : Option ST := if G.good then sDec G.sg bs else none
theorem gGood_iff {G : Geo} {s : ST} : gGood G s = true ↔ G.good ∧ sGood G.sg s = true := by unfold gGood; simp
theorem gDec_some {G : Geo} {bs : List Int} {s : ST} (h : gDec G bs = some s) : gGood G s = true ∧ sEnc G.sg s = bs := by
  unfold gDec at h
  split at h
  · rename_i hg
    obtain ⟨a, b⟩ := dec_some h
    exact ⟨gGood_iff.2 ⟨hg, a⟩, b⟩
  · cases h
theorem isB_of {bs : List Int} (h : ∀ x ∈ bs, 0 ≤ x ∧ x < 256) : IsBytes bs := fun j => by
  by_cases hj : j < bs.length
  · rw [List.getElem?_eq_getElem hj]; exact h _ (List.getElem_mem hj)
  · rw [List.getElem?_eq_none (by omega)]; simp
theorem isB_mem {bs : List Int} (h : IsBytes bs) {x : Int} (hx : x ∈ bs) : 0 ≤ x ∧ x < 256 := by
  obtain ⟨j, hj⟩ := List.getElem?_of_mem hx
  have := h j
  rwa [hj] at this
theorem places_byt {g : SG} {l : List (Int × Int)} (h : PrIn g l) : ∀ x ∈ sPlaces g.b l, 0 ≤ x ∧ x < 256 := by
  unfold sPlaces
  have key : ∀ (l : List (Int × Int)) (o : List Int), (∀ p ∈ l, 0 ≤ p.2 ∧ p.2 ≠ 254 ∧ p.2 < 256) → (∀ x ∈ o, 0 ≤ x ∧ x < 256) → ∀ x ∈ l.foldl (fun o p => o.set p.1.toNat (plV p.2)) o, 0 ≤ x ∧ x < 256 := by
    intro l
    induction l with
    | nil => intro o _ h; exact h
    | cons p l ih =>
      intro o hp ho
      refine ih _ (fun q hq => hp q (List.mem_cons_of_mem _ hq)) fun x hx => ?_
      rcases List.mem_or_eq_of_mem_set hx with hx | rfl
      · exact ho x hx
      · have := hp p (List.mem_cons_self ..)
        unfold plV
        split <;> omega
  exact key l _ h.val (fun x hx => by rw [(List.mem_replicate.1 hx).2]; omega)
theorem dirt_in {g : SG} {d : List Int} (h : sDirty g d = true) : ∀ x ∈ d, x = -1 ∨ 0 ≤ x ∧ x < (g.b : Int) := fun x hx => by
  unfold sDirty at h
  rw [Bool.and_eq_true, List.all_eq_true] at h
  obtain ⟨i, hi⟩ := List.getElem?_of_mem hx
  have hl := (List.getElem?_eq_some_iff.1 hi).1
  have := h.2 i (List.mem_range.2 hl)
  unfold dirtAt at this
  rw [hi] at this
  simp only [Option.getD_some, Bool.or_eq_true, beq_iff_eq, Bool.and_eq_true, decide_eq_true_eq] at this
  rcases this with h | ⟨⟨⟨a, b⟩, -⟩, -⟩
  · exact .inl h
  · exact .inr ⟨a, b⟩
theorem sGood_d {g : SG} {s : ST} (h : sGood g s = true) : ∀ x ∈ s.d, x = -1 ∨ 0 ≤ x ∧ x < (g.b : Int) := by
  unfold sGood at h
  simp only [Bool.and_eq_true] at h
  exact dirt_in h.1.1.1.1.1
theorem enc_byt {g : SG} (hg : g.Ok) {s : ST} (h : sGood g s = true) (hk : ∀ t ∈ s.sn, IsBytes t.ch) : IsBytes (sEnc g s) := by
  have hi := good_in hg h
  have hkd := kd_rng h
  have hb := hg.b64
  refine isB_of fun x hx => ?_
  unfold sEnc at hx
  simp only [List.mem_append, List.mem_cons, List.mem_nil_iff, or_false, List.mem_map, List.mem_flatten] at hx
  rcases hx with hx | (rfl | rfl) | hx | ⟨y, hy, rfl⟩ | ⟨y, hy, hx⟩ | hx
  · exact isB_mem (putL_bytes _ _) hx
  · have := hi.sl; omega
  · omega
  · exact isB_mem (putL_bytes _ _) hx
  · have := sGood_d h y hy; omega
  · unfold sSnaps at hy
    obtain ⟨i, -, rfl⟩ := List.mem_map.1 hy
    have hS : ∀ t : SN, IsBytes t.ch → PrIn g t.tb → ∀ x ∈ sSnapB g t, 0 ≤ x ∧ x < 256 := fun t h1 h2 x hx => by
      unfold sSnapB at hx
      rcases List.mem_append.1 hx with hx | hx
      · exact isB_mem (putL_bytes _ _) hx
      · rcases List.mem_append.1 hx with hx | hx
        · exact isB_mem h1 hx
        · exact places_byt h2 x hx
    cases hl : s.sn[i]? with
    | none =>
      rw [hl] at hx
      refine hS (noS g) (isB_of fun z hz => ?_) ⟨List.Pairwise.nil, (fun p hp => by cases hp), (fun p hp => by cases hp)⟩ x hx
      have := (List.mem_replicate.1 hz).2
      omega
    | some t =>
      rw [hl] at hx
      have hm := List.mem_of_getElem? hl
      exact hS t (hk t hm) (hi.sn t hm).tb x hx
  · exact places_byt hi.pr x hx
theorem gEnc_byt {G : Geo} {s : ST} (h : gGood G s = true) (hk : ∀ t ∈ s.sn, t.Ok) : IsBytes (sEnc G.sg s) := enc_byt (Geo.sg_ok (gGood_iff.1 h).1).1 (gGood_iff.1 h).2 (fun t ht => (hk t ht).ch)
theorem fair_k {l : List SN} {dn : Nat} {ps : List (Int × Int)} (h : fairP l dn ps = true) : Lens 1000 l ∧ dn ≤ 1000 ∧ ps.length ≤ 1000 := by
  obtain ⟨a, b⟩ := fairP_lens h
  refine ⟨⟨by have := a.1; omega, fun s hs => ⟨by have := (a.2 s hs).1; omega, by have := (a.2 s hs).2; omega⟩⟩, ?_, by omega⟩
  unfold fairP at h
  simp only [Bool.and_eq_true, decide_eq_true_eq] at h
  omega
set_option maxRecDepth 100000 in
theorem StA.fair {w : World} {q : PS} {d : List Int} {l : List SN} {ps : List (Int × Int)} (h : StA w q d l ps) :
    Calls Tryz.prog 4 #[stV q] w fun e w' => e = .returned (.bool (fairP l d.length ps)) ∧ Below w.heap.size w w' := by
  have e : q.d.2.1 = d.length := by obtain ⟨a, c, e, -⟩ := h.dd; simp only [slV, Value.slice.injEq] at e; exact e.2.1
  have hm : d.length ≤ maxLen := by obtain ⟨a, c, e, h1, h2, -⟩ := h.dd; omega
  rw [← e]
  exact po_fair h.st (by rw [e]; unfold maxLen at hm; omega)
set_option maxRecDepth 100000 in
theorem ge_good {w : World} {q : PS} {d : List Int} {l : List SN} {ps : List (Int × Int)} (G : Geo) (hi : G.In) (h : StA w q d l ps) (hK : Lens 1000 l) (hp : ps.length ≤ 1000) :
    Calls Tryz.prog 13 #[.agg G.v, stV q] w fun e w' => e = .returned (.bool (gGood G ⟨d, l, q.nx, q.kd, q.id, ps⟩)) ∧ Below w.heap.size w w' := by
  by_cases hg : G.good
  · obtain ⟨ok, e⟩ := Geo.sg_ok hg
    have := sg_good G.sg ok G.r (by rw [e]; exact hi) (by rw [e]; exact hg) h.dd h.i6 h.st hK hp
    rw [← SG.geo_v, e] at this
    exact this.mono fun e y hy => ⟨by rw [hy.1]; unfold gGood; simp [hg], hy.2⟩
  · exact (sg_goodN G hi hg).mono fun e y hy => ⟨by rw [hy.1]; unfold gGood; simp [hg], hy.2⟩
set_option maxRecDepth 100000 in
theorem ge_encode {w : World} {q : PS} {d : List Int} {l : List SN} {ps : List (Int × Int)} (G : Geo) (hi : G.In) (h : StA w q d l ps) (hK : Lens 1000 l) (hp : ps.length ≤ 1000) :
    Calls Tryz.prog 7 #[.agg G.v, stV q] w fun e w' => ∃ u c, e = .returned (.tuple #[u, .int .i64 c]) ∧ ((gGood G ⟨d, l, q.nx, q.kd, q.id, ps⟩ = true → c = 0 ∧ w'.ownsRow w.heap.size 5 1 u (sEnc G.sg ⟨d, l, q.nx, q.kd, q.id, ps⟩).length (u8s (sEnc G.sg ⟨d, l, q.nx, q.kd, q.id, ps⟩))) ∧ (gGood G ⟨d, l, q.nx, q.kd, q.id, ps⟩ = false → c = 11 ∧ u = .slice none 0 0)) ∧ Below w.heap.size w w' := by
  by_cases hg : G.good
  · obtain ⟨ok, e⟩ := Geo.sg_ok hg
    have := sg_encode G.sg ok G.r (by rw [e]; exact hi) (by rw [e]; exact hg) h.dd h.i6 h.st hK hp
    rw [← SG.geo_v, e] at this
    refine this.mono fun e y ⟨u, c, h1, h2, h3⟩ => ⟨u, c, h1, ?_, h3⟩
    unfold gGood
    rw [decide_eq_true hg, Bool.true_and]
    exact h2
  · refine (sg_encodeN G hi hg).mono fun e y hy => ⟨_, _, hy.1, ⟨fun h => absurd (gGood_iff.1 h).1 hg, fun _ => ⟨rfl, rfl⟩⟩, hy.2⟩
set_option maxRecDepth 100000 in
theorem ge_decode {w : World} {v : Value} {bs : List Int} (G : Geo) (hi : G.In) (hv : Sl .u8 w v bs) (hB : IsBytes bs) (hl : bs.length ≤ 100000) :
    Calls Tryz.prog 9 #[.agg G.v, v] w fun e w' => ∃ q c, e = .returned (.tuple #[stV q, .int .i64 c]) ∧ ((∀ s, gDec G bs = some s → c = 0 ∧ q.nx = s.nx ∧ q.kd = s.kd ∧ q.id = s.id ∧ StO w.heap.size w' q s.d s.sn s.pr) ∧ (gDec G bs = none → c = (if G.good then 11 else 1) ∧ q = noQ)) ∧ Below w.heap.size w w' := by
  by_cases hg : G.good
  · obtain ⟨ok, e⟩ := Geo.sg_ok hg
    have := sg_decode G.sg ok G.r (by rw [e]; exact hi) (by rw [e]; exact hg) hv hB hl
    rw [← SG.geo_v, e] at this
    refine this.mono fun e y ⟨q, c, h1, h2, h3⟩ => ⟨q, c, h1, ⟨fun s hs => ?_, fun hn => ?_⟩, h3⟩
    · unfold gDec at hs
      rw [if_pos hg] at hs
      unfold DecR at h2
      rw [hs] at h2
      exact ⟨h2.1, h2.2.1, h2.2.2.1, h2.2.2.2.1, h2.2.2.2.2.1, h2.2.2.2.2.2.1, h2.2.2.2.2.2.2⟩
    · unfold gDec at hn
      rw [if_pos hg] at hn
      unfold DecR at h2
      rw [hn] at h2
      rw [if_pos hg]
      exact h2
  · refine (sg_decodeN G hi hg).mono fun e y hy => ⟨noQ, 1, hy.1, ⟨fun s hs => ?_, fun _ => ⟨by rw [if_neg hg], rfl⟩⟩, hy.2⟩
    unfold gDec at hs
    rw [if_neg hg] at hs
    cases hs
theorem gDec_lens {G : Geo} {bs : List Int} {s : ST} (hB : IsBytes bs) (h : gDec G bs = some s) : (∀ x ∈ s.d, Is64 x) ∧ Lens 1000 s.sn ∧ s.pr.length ≤ 1000 ∧ s.d.length ≤ 1000 := by
  have hgd := (gDec_some h).1
  obtain ⟨a, b⟩ := gGood_iff.1 hgd
  obtain ⟨ok, -⟩ := Geo.sg_ok a
  unfold gDec at h
  rw [if_pos a] at h
  have hl : bs.length = G.sg.bts := by
    unfold sDec at h
    split at h
    · rename_i c; exact c.1
    · cases h
  obtain ⟨d1, d2⟩ := dec_is ok hl
  have hs : s = pParse G.sg bs := by
    by_cases c : sGood G.sg (pParse G.sg bs) = true ∧ sEnc G.sg (pParse G.sg bs) = bs
    · rw [d1 c] at h; exact (Option.some.inj h).symm
    · rw [d2 c] at h; cases h
  subst hs
  obtain ⟨l1, l2⟩ := pParse_lens ok bs
  refine ⟨dirtP_is64 hB _, l1, l2, ?_⟩
  rw [(good_in ok b).dl]
  have := Nat.mul_le_mul ok.s8 ok.y4
  unfold SG.slots
  omega
/-- What Decode made may be handed on. -/
theorem StO.stA {N : Nat} {W : World} {q : PS} {s : ST} {G : Geo} {bs : List Int} (h : StO N W q s.d s.sn s.pr) (hB : IsBytes bs) (hs : gDec G bs = some s) : StA W q s.d s.sn s.pr ∧ Lens 1000 s.sn ∧ s.pr.length ≤ 1000 ∧ s.d.length ≤ 1000 := by
  obtain ⟨a, b⟩ := gDec_lens hB hs
  exact ⟨⟨h.sl, a, h.is⟩, b⟩
end Go.Proofs.YtfihpljgbghogaaGreat

/- What lies there while the document decodes a state. -/
namespace Go.Proofs.YtfihpljgbghogaaGreat
open Go.RowKit Go.Shelf Go.Lib
set_option linter.unusedVariables false
set_option linter.unusedSimpArgs false
structure DcI (B E N : Nat) (G : List Value) (w : World) (q : PS) (dl : List Int) (sl : List SN) (W : World) : Prop where
  g0 : RowC W B 23 G
  g1 : RowC W (B + 1) 30 (stL noQ)
  ge : RowC W E 30 (stL q)
  dd : InO N W (slV q.d) dl
  ss : SnO N W (slV q.sn) sl
  be : Below B w W
  n1 : B + 1 < E
  n2 : E < N
  n3 : N ≤ W.heap.size
variable {B E N : Nat} {G : List Value} {w W W' : World} {q : PS} {dl : List Int} {sl : List SN}
theorem DcI.below (h : DcI B E N G w q dl sl W) (hb : Below W.heap.size W W') : DcI B E N G w q dl sl W' := by
  have n1 := h.n1
  have n2 := h.n2
  have n3 := h.n3
  exact ⟨h.g0.below hb, h.g1.below hb, h.ge.below hb, h.dd.below hb, h.ss.below hb, h.be.trans (hb.mono (by omega)), n1, n2, Nat.le_trans n3 hb.size⟩
/-- A row above grows, and a cell of the state is set. -/
theorem DcI.put (h : DcI B E N G w q dl sl W) {row : Option Nat} {Y : World} (hg : W.grownBy Y row) (hr : ∀ j, row = some j → N ≤ j) (j : Nat) (v : Value) {q' : PS} {dl' : List Int} {sl' : List SN} (hq : (stL q).set j v = stL q')
    (hd : InO N (Y.setCell ⟨E, j, none⟩ v) (slV q'.d) dl') (hs : SnO N (Y.setCell ⟨E, j, none⟩ v) (slV q'.sn) sl') : DcI B E N G w q' dl' sl' (Y.setCell ⟨E, j, none⟩ v) := by
  have n1 := h.n1
  have n2 := h.n2
  have n3 := h.n3
  have ne : ∀ j, j < N → row ≠ some j := fun j hj e => by have := hr j e; omega
  have h2 := grownBy_setCellJ Y E j v
  exact ⟨set_other (h.g0.grown hg (ne _ (by omega))) (by omega) j v, set_other (h.g1.grown hg (ne _ (by omega))) (by omega) j v, by rw [← hq]; exact (h.ge.grown hg (ne _ n2)).set j v, hd, hs, set_below (h.be.grown hg (by omega) (fun j e => by have := hr j e; omega)) (by omega) j v, n1, n2, Nat.le_trans (Nat.le_trans n3 hg.size) h2.size⟩
/-- The numbers of a snapshot's place. -/
structure AtR (g : SG) (bs : List Int) (A j : Nat) : Prop where
  is : g.at j = A
  lt : A + g.step ≤ bs.length
  nx : g.at (j + 1) = A + g.step
  sn : sSnapR g (seg bs A g.step) = ⟨getL (seg bs A 4), seg bs (A + 4) g.n9, prFrom 0 (seg bs (A + 4 + g.n9) g.b)⟩
theorem atR {g : SG} {bs : List Int} (hl : bs.length = g.bts) {j : Nat} (hj : j < 8) : AtR g bs (g.at j) j := by
  refine ⟨rfl, ?_, ?_, ?_⟩
  · have := g.at_le hj
    rw [hl]
    unfold SG.step
    omega
  · rw [g.at_succ]; rfl
  · unfold sSnapR
    rw [seg_seg _ (by unfold SG.step; omega), seg_seg _ (by unfold SG.step; omega), seg_seg _ (by unfold SG.step; omega), Nat.add_zero, Nat.add_assoc]
end Go.Proofs.YtfihpljgbghogaaGreat

/- Plans with up to three ways at a step: a region that draws its order, its head with no way out. No program. -/
namespace Go.Proofs.YtfihpljgbghogaaGreat
open Go.RowKit
set_option linter.unusedVariables false

inductive Plan3 where
  | leaf
  | take (i : Nat) (next : Plan3)
  | one (i : Nat) (next : Plan3)
  | two (i j : Nat) (next1 next2 : Plan3)
  | three (i j k : Nat) (next1 next2 next3 : Plan3)
def Plan3.takes : List Nat → Plan3 → Plan3
  | [], p => p
  | i :: l, p => .take i (Plan3.takes l p)
def planB3 (md : Region.Mode) (l : List Oper) (n : Nat) : Plan3 → Nat → Array Bool → Bool
  | .leaf, f, listed => decide (f = 0) && Region.seqB md l.toArray (l.length - n) n listed
  | .take i next, f, listed => decide (0 < f) && decide (i < n) && readOp (nth l i).op && (Region.ready md l.toArray listed).contains i && Region.free md l.toArray listed i && planB3 md l n next (f - 1) (listed.setIfInBounds i true)
  | .one i next, f, listed => decide (0 < f) && decide (i < n) && decide (Region.ready md l.toArray listed = [i]) && planB3 md l n next (f - 1) (listed.setIfInBounds i true)
  | .two i j n1 n2, f, listed => decide (0 < f) && decide (i < n) && decide (j < n) && decide (Region.ready md l.toArray listed = [i, j]) && planB3 md l n n1 (f - 1) (listed.setIfInBounds i true) && planB3 md l n n2 (f - 1) (listed.setIfInBounds j true)
  | .three i j k n1 n2 n3, f, listed => decide (0 < f) && decide (i < n) && decide (j < n) && decide (k < n) && decide (Region.ready md l.toArray listed = [i, j, k]) && planB3 md l n n1 (f - 1) (listed.setIfInBounds i true) && planB3 md l n n2 (f - 1) (listed.setIfInBounds j true) && planB3 md l n n3 (f - 1) (listed.setIfInBounds k true)
section
variable {P : Program} {Q : Exit → Act → World → Prop} {md : Region.Mode} {S : World → Prop}
def wpPlan3 (P : Program) (l : List Oper) (Q : Exit → Act → World → Prop) (S : World → Prop) (n : Nat) : Plan3 → Act → World → Prop
  | .leaf, a, w => wpList P l.toArray Q (l.drop n) a w
  | .take i next, a, w => wpQuiet P l.toArray S (fun a' => wpPlan3 P l Q S n next a' w) [nth l i] a
  | .one i next, a, w => wpList P l.toArray (planPost S NoExit (wpPlan3 P l Q S n next)) [nth l i] a w
  | .two i j n1 n2, a, w => wpList P l.toArray (planPost S NoExit (wpPlan3 P l Q S n n1)) [nth l i] a w ∧ wpList P l.toArray (planPost S NoExit (wpPlan3 P l Q S n n2)) [nth l j] a w
  | .three i j k n1 n2 n3, a, w => wpList P l.toArray (planPost S NoExit (wpPlan3 P l Q S n n1)) [nth l i] a w ∧ wpList P l.toArray (planPost S NoExit (wpPlan3 P l Q S n n2)) [nth l j] a w ∧ wpList P l.toArray (planPost S NoExit (wpPlan3 P l Q S n n3)) [nth l k] a w
theorem wpPlan3_leaf {l : List Oper} {n : Nat} {a : Act} {w : World} : wpPlan3 P l Q S n .leaf a w = wpList P l.toArray Q (l.drop n) a w := rfl
theorem wpPlan3_one {l : List Oper} {n i : Nat} {p : Plan3} {a : Act} {w : World} : wpPlan3 P l Q S n (.one i p) a w = wpList P l.toArray (planPost S NoExit (wpPlan3 P l Q S n p)) [nth l i] a w := rfl
theorem wpPlan3_two {l : List Oper} {n i j : Nat} {p q : Plan3} {a : Act} {w : World} : wpPlan3 P l Q S n (.two i j p q) a w = (wpList P l.toArray (planPost S NoExit (wpPlan3 P l Q S n p)) [nth l i] a w ∧ wpList P l.toArray (planPost S NoExit (wpPlan3 P l Q S n q)) [nth l j] a w) := rfl
theorem wpPlan3_three {l : List Oper} {n i j k : Nat} {p q r : Plan3} {a : Act} {w : World} : wpPlan3 P l Q S n (.three i j k p q r) a w = (wpList P l.toArray (planPost S NoExit (wpPlan3 P l Q S n p)) [nth l i] a w ∧ wpList P l.toArray (planPost S NoExit (wpPlan3 P l Q S n q)) [nth l j] a w ∧ wpList P l.toArray (planPost S NoExit (wpPlan3 P l Q S n r)) [nth l k] a w) := rfl
theorem wpPlan3_takes_nil {l : List Oper} {n : Nat} {p : Plan3} {a : Act} {w : World} : wpPlan3 P l Q S n (.takes [] p) a w = wpPlan3 P l Q S n p a w := rfl
theorem wpPlan3_takes_cons {l : List Oper} {n i : Nat} {is : List Nat} {p : Plan3} {a : Act} {w : World} : wpPlan3 P l Q S n (.takes (i :: is) p) a w = wpQuiet P l.toArray S (fun a' => wpPlan3 P l Q S n (.takes is p) a' w) [nth l i] a := rfl

theorem wpAnyM_plan3 {l : List Oper} {n : Nat} (hsel : Region.noSelect l.toArray = true) (hT : Waits md l.toArray n) (hn : n ≤ l.length) :
    ∀ (p : Plan3) (f : Nat) (listed : Array Bool) (a : Act) (w : World), HeadInv md l.toArray n listed → planB3 md l n p f listed = true → S w → wpPlan3 P l Q S n p a w →
      wpAnyM P md l.toArray NoExit S n (fun listed' a' w' => Region.seqB md l.toArray (l.length - n) n listed' = true ∧ wpList P l.toArray Q (l.drop n) a' w') f listed a w := by
  intro p
  induction p with
  | leaf =>
    intro f listed a w inv hB hS h
    simp only [planB3, Bool.and_eq_true, decide_eq_true_eq] at hB
    obtain ⟨rfl, hB⟩ := hB
    exact ⟨hB, h⟩
  | take i next ih =>
    intro f listed a w inv hB hS h
    simp only [planB3, Bool.and_eq_true, decide_eq_true_eq] at hB
    obtain ⟨⟨⟨⟨⟨hf, hin⟩, hrd⟩, hr⟩, hfr⟩, hB⟩ := hB
    obtain ⟨f, rfl⟩ : ∃ g, f = g + 1 := ⟨f - 1, by omega⟩
    have ho : l.toArray[i]? = some (nth l i) := by simpa using nth_get l i (by omega)
    have hr' : i ∈ Region.ready md l.toArray listed := by simpa using hr
    simp only [wpPlan3, wpQuiet] at h
    obtain ⟨v, hy, hK⟩ := yieldsIf_of_quiet (i := i) hrd ⟨w, hS⟩ h
    exact wpAnyM_firstN ho (Region.noSelect_spec hsel) hT hin (fun listed a w hL => seqB_ready hL.1) f listed a w inv (Region.free_spec ho hfr) hr' hy hS
      (ih f _ _ w (inv.set hr' hin) (by simpa using hB) hS hK)
  | one i next ih =>
    intro f listed a w inv hB hS h
    simp only [planB3, Bool.and_eq_true, decide_eq_true_eq] at hB
    obtain ⟨⟨⟨hf, hin⟩, hr⟩, hB⟩ := hB
    obtain ⟨f, rfl⟩ : ∃ g, f = g + 1 := ⟨f - 1, by omega⟩
    refine ⟨by rw [hr]; simp, fun j hj => ?_⟩
    have hj' := hj
    rw [hr] at hj
    obtain rfl : j = i := by simpa using hj
    exact ⟨hin, wpOp_mono (fun a' w' h' => ⟨h'.1, ih f _ _ w' (inv.set hj' hin) (by simpa using hB) h'.1 h'.2⟩) (wpOp_of_one (by omega) h)⟩
  | two i k n1 n2 ih1 ih2 =>
    intro f listed a w inv hB hS h
    simp only [planB3, Bool.and_eq_true, decide_eq_true_eq] at hB
    obtain ⟨⟨⟨⟨⟨hf, hin⟩, hkn⟩, hr⟩, hB1⟩, hB2⟩ := hB
    obtain ⟨f, rfl⟩ : ∃ g, f = g + 1 := ⟨f - 1, by omega⟩
    obtain ⟨g1, g2⟩ := h
    refine ⟨by rw [hr]; simp, fun j hj => ?_⟩
    have hj' := hj
    rw [hr] at hj
    rcases (by simpa using hj : j = i ∨ j = k) with rfl | rfl
    · exact ⟨hin, wpOp_mono (fun a' w' h' => ⟨h'.1, ih1 f _ _ w' (inv.set hj' hin) (by simpa using hB1) h'.1 h'.2⟩) (wpOp_of_one (by omega) g1)⟩
    · exact ⟨hkn, wpOp_mono (fun a' w' h' => ⟨h'.1, ih2 f _ _ w' (inv.set hj' hkn) (by simpa using hB2) h'.1 h'.2⟩) (wpOp_of_one (by omega) g2)⟩
  | three i k m n1 n2 n3 ih1 ih2 ih3 =>
    intro f listed a w inv hB hS h
    simp only [planB3, Bool.and_eq_true, decide_eq_true_eq] at hB
    obtain ⟨⟨⟨⟨⟨⟨⟨hf, hin⟩, hkn⟩, hmn⟩, hr⟩, hB1⟩, hB2⟩, hB3⟩ := hB
    obtain ⟨f, rfl⟩ : ∃ g, f = g + 1 := ⟨f - 1, by omega⟩
    obtain ⟨g1, g2, g3⟩ := h
    refine ⟨by rw [hr]; simp, fun j hj => ?_⟩
    have hj' := hj
    rw [hr] at hj
    rcases (by simpa using hj : j = i ∨ j = k ∨ j = m) with rfl | rfl | rfl
    · exact ⟨hin, wpOp_mono (fun a' w' h' => ⟨h'.1, ih1 f _ _ w' (inv.set hj' hin) (by simpa using hB1) h'.1 h'.2⟩) (wpOp_of_one (by omega) g1)⟩
    · exact ⟨hkn, wpOp_mono (fun a' w' h' => ⟨h'.1, ih2 f _ _ w' (inv.set hj' hkn) (by simpa using hB2) h'.1 h'.2⟩) (wpOp_of_one (by omega) g2)⟩
    · exact ⟨hmn, wpOp_mono (fun a' w' h' => ⟨h'.1, ih3 f _ _ w' (inv.set hj' hmn) (by simpa using hB3) h'.1 h'.2⟩) (wpOp_of_one (by omega) g3)⟩
def planOk3 (l : List Oper) (n : Nat) (p : Plan3) : Bool :=
  Region.noSelect l.toArray && (decide (n = l.length) || (decide (n < l.length) && Region.sinkB .any l.toArray n && Region.chainB .any l.toArray n)) && planB3 .any l n p n (Array.replicate l.length false)
theorem wpAny_plan3 {l : List Oper} {a : Act} {w : World} (S : World → Prop) (n : Nat) (p : Plan3) (hB : planOk3 l n p = true) (hS : S w)
    (h : wpPlan3 P l Q S n p a w) : wpAny P .any l.toArray Q l.toArray.size (Array.replicate l.toArray.size false) a w := by
  simp only [planOk3, Bool.and_eq_true, Bool.or_eq_true, decide_eq_true_eq] at hB
  obtain ⟨⟨hsel, hnn⟩, hp⟩ := hB
  have hn : n ≤ l.length := by omega
  have hT : Waits .any l.toArray n := by
    rcases hnn with rfl | ⟨⟨hn, hs⟩, hc⟩
    · have := waits_all (md := .any) (ops := l.toArray)
      simpa using this
    · exact waits_tail hs hc (by simpa using hn)
  have inv0 : HeadInv .any l.toArray n (Array.replicate l.toArray.size false) :=
    ⟨by simp, fun j oj _ hl => (by rw [getD_replicate_false] at hl; cases hl), fun t _ ht => getD_in (by simpa using ht) (getD_replicate_false _ _)⟩
  have H := wpAnyM_plan3 (md := .any) hsel hT hn p n _ a w inv0 (by simpa using hp) hS h
  have := wpAny_of_M (g := l.length - n) (fun listed a' w' hL => by
    have := wpAny_of_seq (md := .any) (Q' := Q) (l.drop n) n listed a' w' (fun j => by simp [List.getElem?_drop]) (by rw [List.length_drop]; exact hL.1) hL.2
    rwa [List.length_drop] at this) _ _ _ _ (wpAnyM_noExit (Q := Q) _ _ _ _ H)
  rw [show n + (l.length - n) = l.toArray.size by simp; omega] at this
  exact this
theorem region_plan3 {id : Nat} {a : Act} {w : World} {l : List Oper} (S : World → Prop) (n : Nat) (p : Plan3) (hm : P.follows .mixedOrders = true) (hB : planOk3 l n p = true) (hS : S w.drew)
    (h : wpPlan3 P l Q S n p a w.drew) : (Code.region id l.toArray true).wp P Q a w :=
  wp_region_any hm (wpAny_plan3 S n p hB hS h)
end
end Go.Proofs.YtfihpljgbghogaaGreat

/- The worlds of the region that reads one snapshot. -/
namespace Go.Proofs.YtfihpljgbghogaaGreat
open Go.RowKit Go.Shelf Go.Lib
set_option linter.unusedVariables false
set_option linter.unusedSimpArgs false
set_option maxRecDepth 100000 in
/-- All behind a place. -/
theorem cut_lo {b o n c K m : Nat} (h1 : K + m = n) (h2 : n ≤ c) (h3 : 0 < m) (W : World) :
    (Instr.sliceAt 31 (.slice (some ⟨b, o, none⟩) n c) (some (.int .i64 (K : Int))) none none).run Tryz.prog W = .ok (.slice (some ⟨b, o + K, none⟩) m (c - K)) W := by
  rw [run_sliceAt_slice (h := elem_bytes), run_slice_l (ht := elem_bytes) (kl := .i64) (h0 := by omega) (h1 := by omega), sizeOf_byte]
  simp only [Result.andThen, sliced, Int.toNat_natCast, Nat.mul_one]
  rw [if_neg (by omega), show n - K = m by omega]
  simp [Addr.add]
def sn0 : Array Value := #[.int .i64 0, .slice none 0 0, .slice none 0 0]
set_option maxRecDepth 100000 in
/-- A cut in the midst. -/
theorem cut_at {b o n c K m : Nat} (h1 : K + m ≤ n) (h2 : n ≤ c) (h3 : 0 < m) (L H : Int) (hL : L = (K : Int)) (hH : H = ((K + m : Nat) : Int)) (W : World) :
    (Instr.sliceAt 31 (.slice (some ⟨b, o, none⟩) n c) (some (.int .i64 L)) (some (.int .i64 H)) none).run Tryz.prog W = .ok (.slice (some ⟨b, o + K, none⟩) m (c - K)) W := by
  subst hH hL
  rw [run_sliceAt_slice (h := elem_bytes), run_slice_lh (ht := elem_bytes) (kl := .i64) (kh := .i64) (h0 := by omega) (h1 := by omega) (h2 := by omega), sizeOf_byte]
  simp only [Result.andThen, sliced, Int.toNat_natCast, Nat.mul_one]
  rw [if_neg (by omega), show K + m - K = m by omega]
  simp [Addr.add]
theorem prO_slice {M : Nat} {w : World} {u : Value} {l : List (Int × Int)} (h : PrO M w u l) : ∃ a n c, u = .slice a n c := by
  obtain ⟨a, c, e, -⟩ := row_lenT h.1
  exact ⟨a, _, c, e⟩
variable {N : Nat} {W0 : World}
set_option maxRecDepth 100000 in
/-- Bytes behind an empty literal. -/
theorem dc_app {V V' : World} {x : Value} {bs : List Int} (hN : N ≤ W0.heap.size) (hb : Below W0.heap.size W0 V) (hV : V.alloc (.cells #[] 5) = V') (V2 : World) (h2 : Below V'.heap.size V' V2) (hx : Sl .u8 V2 x bs) (hl : bs.length ≤ 100000) :
    ∃ (a : Option Addr) (n c : Nat) (V3 : World), Hid ((Builtin.append_ #[31, 31] 31 #[.slice (some ⟨V.heap.size, 0, none⟩) 0 0, x]).run Tryz.prog V2 = .ok (.slice a n c) V3) ∧ Hid (V3.ownsRow N 5 1 (.slice a n c) bs.length (bs.map (Value.int .u8))) ∧ Hid (Below W0.heap.size W0 V3) ∧ Hid (V2.grownBy V3 (some V.heap.size)) := by
  have b1 : Below V.heap.size V V' := by rw [← hV]; exact below_new _ _
  have o1 : V'.ownsRow N 5 1 (.slice (some ⟨V.heap.size, 0, none⟩) 0 0) ([] : List Int).length (([] : List Int).map (Value.int .u8)) := by rw [← hV]; exact World.ownsRow_lit V #[] 0 (Nat.le_trans hN hb.size) (by unfold maxLen; omega) rfl
  have o2 := own_belowT o1 h2
  have B1 : Below W0.heap.size W0 V' := hb.trans (b1.mono hb.size)
  have B2 : Below W0.heap.size W0 V2 := B1.trans (h2.mono B1.size)
  obtain ⟨v3, w3, hr, ho, hg⟩ := run_append_bytes N V2 _ [] o2 x bs hx (by simp; omega) (Nat.le_trans hN B2.size)
  obtain ⟨a, c, rfl, -⟩ := row_lenT ho
  exact ⟨a, _, c, w3, hr, by simpa [Hid] using ho, B2.grown hg B2.size (fun j e => by cases e; exact hb.size), hg⟩
set_option maxRecDepth 100000 in
/-- All of it at the end: the box lies there. -/
theorem dc_fin {V y : World} {C : Nat} {i : Int} {a : Option Addr} {n c : Nat} {ua : Option Addr} {un uc : Nat} {ch : List Int} {tb : List (Int × Int)} (hN : N ≤ W0.heap.size) (hb : Below W0.heap.size W0 V) (hC : W0.heap.size ≤ C) (hR : RowC V C 51 sn0.toList)
    (ho : V.ownsRow N 5 1 (.slice a n c) ch.length (ch.map (Value.int .u8))) (hp : PrO V.heap.size y (.slice ua un uc) tb) (hy : Below V.heap.size V y) (hi : Is64 i) (hch : IsBytes ch) :
    ∃ (z : World), (storeVar 51 ⟨C, 0, none⟩ (svV (i, (a, n, c), (ua, un, uc)))).run Tryz.prog y = .ok () z ∧ RowC z C 51 (svL (i, (a, n, c), (ua, un, uc))) ∧ SnF N z (i, (a, n, c), (ua, un, uc)) ⟨i, ch, tb⟩ ∧ Below W0.heap.size W0 z := by
  have hRy := hR.below hy
  obtain ⟨z, hS, hRz, hgz⟩ := store_snC (i, (a, n, c), (ua, un, uc)) hRy rfl
  have hoy := own_belowT ho hy
  have hB : Below W0.heap.size W0 y := hb.trans (hy.mono hb.size)
  have p2 : PrO N z (.slice ua un uc) tb := (show PrO V.heap.size z _ tb from ⟨hp.1.kept hgz (.inr (row_ne hp.1 hRy (by decide))), hp.2⟩).weak (Nat.le_trans hN hb.size)
  exact ⟨z, hS, hRz, ⟨rfl, hoy.kept hgz (.inr (row_ne hoy hRy (by decide))), p2, ⟨hi, hch, hp.2⟩⟩, hB.grown hgz hB.size (fun j e => by cases e; exact hC)⟩
set_option maxRecDepth 100000 in
/-- .. the box is made at the end. -/
theorem dc_fin4 {V y : World} {i : Int} {a : Option Addr} {n c : Nat} {ua : Option Addr} {un uc : Nat} {ch : List Int} {tb : List (Int × Int)} (hN : N ≤ W0.heap.size) (hb : Below W0.heap.size W0 V)
    (ho : V.ownsRow N 5 1 (.slice a n c) ch.length (ch.map (Value.int .u8))) (hp : PrO V.heap.size y (.slice ua un uc) tb) (hy : Below V.heap.size V y) (hi : Is64 i) (hch : IsBytes ch) :
    ∃ (z : World), (storeVar 51 ⟨y.heap.size, 0, none⟩ (svV (i, (a, n, c), (ua, un, uc)))).run Tryz.prog (y.alloc (.cells sn0 51)) = .ok () z ∧ RowC z y.heap.size 51 (svL (i, (a, n, c), (ua, un, uc))) ∧ SnF N z (i, (a, n, c), (ua, un, uc)) ⟨i, ch, tb⟩ ∧ Below W0.heap.size W0 z := by
  have hB : Below W0.heap.size W0 y := hb.trans (hy.mono hb.size)
  have bz := below_new y (.cells (svL (i, (a, n, c), (ua, un, uc))).toArray 51)
  exact ⟨_, new_sn y (i, (a, n, c), (ua, un, uc)), RowC.new _ _ _, ⟨rfl, own_belowT (own_belowT ho hy) bz, (hp.weak (Nat.le_trans hN hb.size)).below bz, ⟨hi, hch, hp.2⟩⟩, hB.trans (bz.mono hB.size)⟩
end Go.Proofs.YtfihpljgbghogaaGreat

/- The document's Decode of a state, where the sizes are good. -/
namespace Go.Proofs.YtfihpljgbghogaaGreat
open Go.RowKit Go.Shelf Go.Lib
set_option linter.unusedVariables false
set_option linter.unusedSimpArgs false
attribute [-simp] Tryz.isAgg51 Tryz.zeroValue51 Tryz.isAgg54 Tryz.zeroValue54 Tryz.isAgg30 Tryz.zeroValue30 Tryz.isAgg67 Tryz.zeroValue67
attribute [-go_sem] loadVar storeVar
attribute [local go_sem] loadVar_openD storeVar_openD zero_sn zero_prs zero_st zero_szs build_st0 build_pl2 build_st2 build_sn
/-- Worlds in which a row and a cell lie. -/
def RowT2 (C : Nat) (t : TypeId) (L : List Value) (a : Addr) (u : Value) : Type := {x : World // RowC x C t L ∧ x.cell? a = some u}
theorem getL4_bd {bs : List Int} (h : IsBytes bs) (hl : bs.length = 4) : 0 ≤ getL bs ∧ getL bs < 4294967296 := by
  have h1 := getN_bd bs h (nPlaces (bs.length : Int))
  rw [hl] at h1
  unfold getL
  rw [hl]
  exact h1

set_option maxRecDepth 100000 in
set_option maxHeartbeats 8000000 in
/-- **Decode**. -/
theorem rf14_decode {w : World} {v : Value} {bs : List Int} (g : SG) (hg : g.Ok) (r : Int) (hr : (g.geo r).good) (hv : Sl .u8 w v bs) (hb : IsBytes bs) (hl : bs.length ≤ 100000) :
    Calls Tryz.prog 10 #[.agg (g.v r), v] w fun e w' => ∃ q c, e = .returned (.tuple #[stV q, .int .i64 c]) ∧ DecR g bs w.heap.size w' q c ∧ Below w.heap.size w w' := by
  have hmx : Tryz.prog.follows .mixedOrders = true := by kernel_rfl
  obtain ⟨va, vn, vc, rfl⟩ : ∃ a n c, v = .slice a n c := by obtain ⟨a, c, e, -⟩ := hv; exact ⟨a, _, c, e⟩
  have HVN : Hid (vn = bs.length) := by obtain ⟨a, c, e, -⟩ := hv; cases e; rfl
  have hvn : vn ≤ 100000 := by rw [HVN.out]; exact hl
  have HV : Hid (∀ x : World, Below w.heap.size w x → Sl .u8 x (.slice va vn vc) bs) := fun x hx => hv.below hx
  have HBt := Lib.hid hb
  have HOf : Hid (∀ x : World, ∃ p d e f h i : Int, Calls Tryz.prog 34 #[.agg (g.v r)] x fun e' w' => e' = .returned (.agg (szL (g.bts : Int) p (g.slots : Int) d e f h i).toArray) ∧ Below x.heap.size x w') := fun x => by
    have h := refOf (g.geo r) x
    have e : (g.geo r).szl = szL (g.bts : Int) (g.geo r).pgs (g.slots : Int) 2 (2 + (g.geo r).r) (2 + (g.geo r).r + (g.geo r).pgs) (2 + (g.geo r).r + (g.geo r).pgs + (g.geo r).slots) ((g.geo r).b + (g.geo r).a) := by
      unfold Geo.szl
      rw [if_pos hr, geo_bts hg, geo_slots]
    rw [e] at h
    exact ⟨_, _, _, _, _, _, h⟩
  have HGK := Lib.hid hg
  clear hv hb hl
  have HG : Hid (∀ x : World, Calls Tryz.prog 33 #[.agg (g.v r)] x fun e w' => e = .returned (.bool true) ∧ Below x.heap.size x w') := fun x => good_doc hr x
  have h3 := hg.s1
  have h4 := hg.s8
  have h5 := hg.y1
  have h6 := hg.y4
  obtain ⟨Z, hz⟩ : ∃ Z, g.s * g.y = Z := ⟨_, rfl⟩
  have hzi : (g.s : Int) * (g.y : Int) = (Z : Int) := by rw [← hz]; simp
  have hz32 : Z ≤ 32 := by rw [← hz]; exact Nat.le_trans (Nat.mul_le_mul h4 h6) (by decide)
  have HZ : Hid (g.slots = Z) := hz
  obtain ⟨B, hB⟩ : ∃ B, w.heap.size = B := ⟨_, rfl⟩
  obtain ⟨W1, hW1⟩ : ∃ W, w.alloc (.cells (g.v r) 23) = W := ⟨_, rfl⟩
  obtain ⟨W2, hW2⟩ : ∃ W, W1.alloc (.cells #[.slice none 0 0, .slice none 0 0, .int .i64 0, .int .i64 0, .int .i64 0, .slice none 0 0] 30) = W := ⟨_, rfl⟩
  have s1 : W1.heap.size = B + 1 := by rw [← hW1, ← hB]; simp
  have s2 : W2.heap.size = B + 2 := by rw [← hW2, World.size_alloc, s1]
  have r1 : RowC W1 B 23 [.int .i64 (g.b : Int), .int .i64 (g.s : Int), .int .i64 (g.y : Int), .int .i64 (g.a : Int), .int .i64 r] := by rw [← hW1, ← hB]; exact RowC.new _ _ _
  have r2 : RowC W2 (B + 1) 30 (stL noQ) := by rw [← hW2, ← s1]; exact RowC.new _ _ _
  have b1 : Below B w W1 := by rw [← hW1, ← hB]; exact below_new _ _
  have b2 : Below W1.heap.size W1 W2 := by rw [← hW2]; exact below_new _ _
  have HB : Hid (Below B w W2) := b1.trans (b2.mono (by omega))
  have HR1 : Hid (RowC W2 B 23 [.int .i64 (g.b : Int), .int .i64 (g.s : Int), .int .i64 (g.y : Int), .int .i64 (g.a : Int), .int .i64 r]) := r1.below b2
  have HR2 := Lib.hid r2
  have HS2 := Lib.hid s2
  have t1 := HR1.out
  have k0 := t1.cell 0 _ rfl
  have k1 := t1.cell 1 _ rfl
  have k2 := t1.cell 2 _ rfl
  have k3 := t1.cell 3 _ rfl
  have k4 := t1.cell 4 _ rfl
  rw [hB] at HV ⊢
  have HGR := Lib.hid hr
  clear r1 b1 b2 t1 r2 hz hr
  unfold SG.v at *
  go_enter Tryz.func10, Tryz.ntmps10
  go_wp2_with fail
  refine (HG.out W2).mono ?_
  rintro e x1 ⟨rfl, hx1⟩
  have KB2 : Hid (Below W2.heap.size W2 x1) := hx1
  have t1 := HR1.out.below hx1
  have k0 := t1.cell 0 _ rfl
  have k1 := t1.cell 1 _ rfl
  have k2 := t1.cell 2 _ rfl
  have k3 := t1.cell 3 _ rfl
  have k4 := t1.cell 4 _ rfl
  clear hx1 t1
  go_wp2_with fail
  obtain ⟨z1, z3, z4, z5, z6, z7, hof⟩ := HOf.out x1
  refine hof.mono ?_
  rintro e x2 ⟨rfl, hx2⟩
  obtain ⟨Y, SZ, rZ, bY⟩ := new_szs x2 (g.bts : Int) z1 (g.slots : Int) z3 z4 z5 z6 z7
  obtain ⟨D, hD⟩ : ∃ D, x2.heap.size = D := ⟨_, rfl⟩
  have bW : Below W2.heap.size W2 Y := KB2.out.trans ((hx2.trans (bY.mono hx2.size)).mono KB2.out.size)
  have HBY := Lib.hid bW
  have HD2 : Hid (B + 2 ≤ D) := by show _ ≤ _; rw [← hD, ← s2]; exact Nat.le_trans KB2.out.size hx2.size
  rw [hD] at SZ rZ
  have RZ := Lib.hid rZ
  have I1 : Hid (RowC Y B 23 [.int .i64 (g.b : Int), .int .i64 (g.s : Int), .int .i64 (g.y : Int), .int .i64 (g.a : Int), .int .i64 r]) := HR1.out.below bW
  have I2 : Hid (RowC Y (B + 1) 30 (stL noQ)) := HR2.out.below bW
  have I5 : Hid (Below B w Y) := HB.out.trans (bW.mono (by omega))
  have hbts : 10 ≤ g.bts ∧ g.bts ≤ 1000 := by
    have h1 := HGK.out.b64
    have h2 : g.n9 ≤ 8 := by unfold SG.n9 sizeB; have := HGK.out.b1; rw [if_neg (by omega)]; omega
    have h3 : g.slots ≤ 32 := by rw [HZ.out]; exact hz32
    unfold SG.bts SG.step
    omega
  have z0 := rZ.cell 0 _ rfl
  have HSV : Hid (Sl .u8 Y (.slice va vn vc) bs) := HV.out Y I5.out
  obtain ⟨q0, hS0, hR0, hG0⟩ := store_stC noQ I2.out rfl
  have HRq := Lib.hid hR0
  have HQ5 : Hid (Below B w q0) := I5.out.grown hG0 (by have := I2.out.lt; omega) (fun j e => by cases e; exact Nat.le_succ B)
  simp only [stV, stL, slV, noQ] at hS0
  clear hx2 rZ bY bW k0 k1 k2 k3 k4 hof hR0 hG0
  obtain ⟨T, hT⟩ : ∃ T, g.bts = T := ⟨_, rfl⟩
  have HT := Lib.hid hT
  rw [hT] at hbts SZ z0 RZ ⊢
  obtain ⟨hb10, hbM⟩ := hbts
  clear hT
  by_cases hlen : vn = T
  · have q0 : ((vn : Int) != (T : Int)) = false := by simp; omega
    have HLE : Hid (bs.length = g.bts) := by show _ = _; rw [← HVN.out, HT.out]; exact hlen
    obtain ⟨vb, vo, rfl, hvb, hcs⟩ : ∃ b o, va = some ⟨b, o, none⟩ ∧ b < w.heap.size ∧ ∀ x : World, Below w.heap.size w x → ∀ j, j < vn → x.cell? ⟨b, o + j, none⟩ = some (.int .u8 (bs[j]?.getD 0)) := by
      obtain ⟨a', cap, e, g1, g2, g3, g4⟩ := HV.out w (Below.refl _ _)
      cases e
      rcases g3 with g3 | ⟨b, o, rfl, h5, h6⟩
      · exfalso
        have : bs.length = 0 := by rw [g3]; rfl
        omega
      · exact ⟨b, o, rfl, h5, fun x hx j hj => (hx.cell (p := ⟨b, o + j, none⟩) h5).trans (h6 j (by rw [← HVN.out]; exact hj))⟩
    have HCS : Hid (∀ x : World, Below B w x → ∀ j, j < vn → x.cell? ⟨vb, vo + j, none⟩ = some (.int .u8 (bs[j]?.getD 0))) := fun x hx => hcs x (by rw [hB]; exact hx)
    obtain ⟨u4, hu4, hu48⟩ := byte_of bs HBt.out 4
    have c4 := HCS.out Y I5.out 4 (by omega)
    rw [hu4] at c4
    have HU4 := Lib.hid hu4
    have hv4 : 4 < vn := by omega
    clear hcs hu4
    by_cases h8 : 8 < u4
    · have q2 : decide (8 < (u4 : Int)) = true := by simp; omega
      have HN : Hid (sDec g bs = none) := by
        show _ = _
        unfold sDec
        rw [if_neg]
        intro h
        have := h.2.1
        rw [HU4.out] at this
        omega
      clear hlen
      go_wp2_with fail
      exact bodyPost_ret (results_cell2 rfl rfl (load_stC HRq.out)) rfl ⟨noQ, 11, rfl, decR_none HN.out _ _, HQ5.out⟩
    · have q2 : decide (8 < (u4 : Int)) = false := by simp; omega
      clear hS0
      obtain ⟨u5, hu5, hu58⟩ := byte_of bs HBt.out 5
      have hvc : vn ≤ vc ∧ vc ≤ maxLen := by
        obtain ⟨a', cap, e, g1, g2, -⟩ := HSV.out
        have := HVN.out
        cases e
        exact ⟨g1, g2⟩
      obtain ⟨hvc1, hvc2⟩ := hvc
      have hvc3 : vc ≤ 9223372036854775807 := by unfold maxLen at hvc2; omega
      have HGet : Hid (∀ x : World, Below Y.heap.size Y x → ∀ k m c', k + m ≤ vn → m ≤ c' → c' ≤ maxLen → Calls Tryz.prog 35 #[.slice (some ⟨vb, vo + k, none⟩) m c'] x fun e w' => e = .returned (.int .u64 (getL (seg bs k m))) ∧ w' = x) := fun x hx k m c' h1 h2 h3 => by
        have hx2 : Below B w x := I5.out.trans (hx.mono (by have := I5.out.size; omega))
        have hsl : (seg bs k m).length = m := seg_len (by rw [← HVN.out]; exact h1)
        have S := Sl.at (k := .u8) (w := x) (b := vb) (off := vo + k) (cap := c') (bs := seg bs k m) (by rw [hsl]; exact h2) h3 (Nat.lt_of_lt_of_le hvb hx2.size) (fun j hj => by
          rw [hsl] at hj
          have := HCS.out x hx2 (k + j) (by omega)
          rw [← Nat.add_assoc] at this
          rw [this, seg_get hj])
        rw [hsl] at S
        exact refGet_any _ _ x S (by unfold seg; exact HBt.out.cut k m)
      obtain ⟨n0, hz0n⟩ : ∃ z, getL (seg bs 0 4) = z := ⟨_, rfl⟩
      obtain ⟨n1, hz1n⟩ : ∃ z, getL (seg bs 6 4) = z := ⟨_, rfl⟩
      have hb0 := getL4_bd (bs := seg bs 0 4) (by unfold seg; exact HBt.out.cut 0 4) (seg_len (by rw [← HVN.out]; omega))
      have hb1 := getL4_bd (bs := seg bs 6 4) (by unfold seg; exact HBt.out.cut 6 4) (seg_len (by rw [← HVN.out]; omega))
      rw [hz0n] at hb0
      rw [hz1n] at hb1
      obtain ⟨m00, m01⟩ := hb0
      obtain ⟨m10, m11⟩ := hb1
      have cY5 : ∀ y : Ext Y, y.1.cell? ⟨vb, vo + 5, none⟩ = some (.int .u8 (u5 : Int)) := fun y => by rw [← hu5]; exact HCS.out y.1 (I5.out.trans (y.2.mono (by have := I5.out.size; omega))) 5 (by omega)
      have hv10 : 10 ≤ vn := by omega
      have HV10 := Lib.hid hv10
      have HVC1 := Lib.hid hvc1
      have HVC2 := Lib.hid hvc2
      have HU48 : Hid (u4 ≤ 8) := Nat.le_of_not_lt h8
      clear h8
      go_wp2_with fail
      clear c4 q2
      go_cut [7] from 33 (fun s7 wx => ∃ E : Nat, s7 = .pointer (some ⟨E, 0, none⟩) ∧ Hid (RowC wx E 30 [.slice none 0 0, .slice none 0 0, .int .i64 n0, .int .i64 (u5 : Int), .int .i64 n1, .slice none 0 0]) ∧ Hid (Below Y.heap.size Y wx) ∧ Hid (Y.heap.size ≤ E))
      case first =>
        as_aux_lemma =>
          have HYd : Hid (Below Y.heap.size Y Y.drew) := (Below.refl _ Y).drew
          obtain ⟨E, hE⟩ : ∃ E, Y.heap.size = E := ⟨_, rfl⟩
          have hEd : Y.drew.heap.size = E := hE
          obtain ⟨X, hX⟩ : ∃ X, Y.drew.alloc (.cells #[.slice none 0 0, .slice none 0 0, .int .i64 0, .int .i64 0, .int .i64 0, .slice none 0 0] 30) = X := ⟨_, rfl⟩
          have KX : Hid (Below Y.heap.size Y X) := by show Below _ _ _; rw [← hX]; exact HYd.out.trans (below_new Y.drew _)
          have hST := new_st Y.drew ⟨(none, 0, 0), (none, 0, 0), n0, (u5 : Int), n1, (none, 0, 0)⟩
          obtain ⟨F, hF⟩ : ∃ F, Y.drew.alloc (.cells (stL ⟨(none, 0, 0), (none, 0, 0), n0, (u5 : Int), n1, (none, 0, 0)⟩).toArray 30) = F := ⟨_, rfl⟩
          have HRE : Hid (RowC F E 30 [.slice none 0 0, .slice none 0 0, .int .i64 n0, .int .i64 (u5 : Int), .int .i64 n1, .slice none 0 0]) := by show RowC _ _ _ _; rw [← hF, ← hEd]; exact RowC.new Y.drew _ _
          have HBE : Hid (Below Y.heap.size Y F) := by show Below _ _ _; rw [← hF]; exact HYd.out.trans (below_new Y.drew _)
          have HEY : Hid (Y.heap.size ≤ E) := Nat.le_of_eq hE
          rw [hF, hX, hEd] at hST
          simp only [stV, stL, slV] at hST
          have HST := Lib.hid hST
          clear hST hF
          refine region_plan (fun x => ∃ y : Ext Y, x = y.1) 15 (.takes [0, 1, 4, 5, 6, 7, 8, 9] (.two 2 14 (.takes [3] (.two 10 14 (.takes [11, 12, 13] (.one 14 .leaf)) (.one 10 (.takes [11, 12, 13] .leaf)))) (.one 2 (.takes [3] (.one 10 (.takes [11, 12, 13] .leaf)))))) hmx (by kernel_rfl) (by intro c x v a w h; cases x <;> exact h) ⟨⟨Y.drew, (Below.refl _ Y).drew⟩, rfl⟩ ?_
          repeat (rw [wpPlan_takes_cons]; simp only [nth_zero, nth_succ]; go_big_quiet_step (fail); refine wpQuiet_nil ?_)
          rw [wpPlan_takes_nil]
          clear cY5
          refine ⟨?_, ?_⟩
          · simp only [nth_zero, nth_succ]
            go_wp2_with fail
            go_at_call 35
            refine (HGet.out _ HYd.out 0 4 vc (by have := HV10.out; omega) (by have := HV10.out; have := HVC1.out; omega) (by have := HVC2.out; omega)).mono ?_
            rintro e xg ⟨rfl, hxg⟩
            rw [hxg]
            clear hxg
            go_wp2_with fail
            refine planPost_mk ⟨⟨_, HYd.out⟩, rfl⟩ ?_
            try rw [hz0n]
            repeat (rw [wpPlan_takes_cons]; simp only [nth_zero, nth_succ]; go_big_quiet_step (fail); refine wpQuiet_nil ?_)
            rw [wpPlan_takes_nil]
            refine ⟨?_, ?_⟩
            · simp only [nth_zero, nth_succ]
              go_wp2_with fail
              go_at_call 35
              refine (HGet.out _ HYd.out 6 4 (vc - 6) (by have := HV10.out; omega) (by have := HV10.out; have := HVC1.out; omega) (by have := HVC2.out; omega)).mono ?_
              rintro e xg ⟨rfl, hxg⟩
              rw [hxg]
              clear hxg
              go_wp2_with fail
              refine planPost_mk ⟨⟨_, HYd.out⟩, rfl⟩ ?_
              try rw [hz1n]
              repeat (rw [wpPlan_takes_cons]; simp only [nth_zero, nth_succ]; go_big_quiet_step (fail); refine wpQuiet_nil ?_)
              rw [wpPlan_takes_nil]
              rw [wpPlan_one]
              simp only [nth_zero, nth_succ]
              go_wp2_with fail
              try rw [hX]
              refine planPost_mk ⟨⟨X, KX.out⟩, rfl⟩ ?_
              rw [wpPlan_leaf]
              simp only [List.drop_succ_cons, List.drop_zero]
              have STS := HST.out
              go_wp2_with fail
              go_meet
              exact ⟨E, rfl, HRE, HBE, HEY⟩
            · simp only [nth_zero, nth_succ]
              go_wp2_with fail
              try rw [hX]
              refine planPost_mk ⟨⟨X, KX.out⟩, rfl⟩ ?_
              rw [wpPlan_one]
              simp only [nth_zero, nth_succ]
              go_wp2_with fail
              go_at_call 35
              refine (HGet.out _ KX.out 6 4 (vc - 6) (by have := HV10.out; omega) (by have := HV10.out; have := HVC1.out; omega) (by have := HVC2.out; omega)).mono ?_
              rintro e xg ⟨rfl, hxg⟩
              rw [hxg]
              clear hxg
              go_wp2_with fail
              refine planPost_mk ⟨⟨_, KX.out⟩, rfl⟩ ?_
              try rw [hz1n]
              repeat (rw [wpPlan_takes_cons]; simp only [nth_zero, nth_succ]; go_big_quiet_step (fail); refine wpQuiet_nil ?_)
              rw [wpPlan_takes_nil]
              rw [wpPlan_leaf]
              simp only [List.drop_succ_cons, List.drop_zero]
              have STS := HST.out
              go_wp2_with fail
              go_meet
              exact ⟨E, rfl, HRE, HBE, HEY⟩
          · simp only [nth_zero, nth_succ]
            go_wp2_with fail
            try rw [hX]
            refine planPost_mk ⟨⟨X, KX.out⟩, rfl⟩ ?_
            rw [wpPlan_one]
            simp only [nth_zero, nth_succ]
            go_wp2_with fail
            go_at_call 35
            refine (HGet.out _ KX.out 0 4 vc (by have := HV10.out; omega) (by have := HV10.out; have := HVC1.out; omega) (by have := HVC2.out; omega)).mono ?_
            rintro e xg ⟨rfl, hxg⟩
            rw [hxg]
            clear hxg
            go_wp2_with fail
            refine planPost_mk ⟨⟨_, KX.out⟩, rfl⟩ ?_
            try rw [hz0n]
            repeat (rw [wpPlan_takes_cons]; simp only [nth_zero, nth_succ]; go_big_quiet_step (fail); refine wpQuiet_nil ?_)
            rw [wpPlan_takes_nil]
            rw [wpPlan_one]
            simp only [nth_zero, nth_succ]
            go_wp2_with fail
            go_at_call 35
            refine (HGet.out _ KX.out 6 4 (vc - 6) (by have := HV10.out; omega) (by have := HV10.out; have := HVC1.out; omega) (by have := HVC2.out; omega)).mono ?_
            rintro e xg ⟨rfl, hxg⟩
            rw [hxg]
            clear hxg
            go_wp2_with fail
            refine planPost_mk ⟨⟨_, KX.out⟩, rfl⟩ ?_
            try rw [hz1n]
            repeat (rw [wpPlan_takes_cons]; simp only [nth_zero, nth_succ]; go_big_quiet_step (fail); refine wpQuiet_nil ?_)
            rw [wpPlan_takes_nil]
            rw [wpPlan_leaf]
            simp only [List.drop_succ_cons, List.drop_zero]
            have STS := HST.out
            go_wp2_with fail
            go_meet
            exact ⟨E, rfl, HRE, HBE, HEY⟩
      case rest =>
        obtain ⟨E, rfl, HRE, HBE, HEY⟩ := hcut
        have HBW : Hid (Below B w wc) := I5.out.trans (HBE.out.mono (by have := I5.out.size; omega))
        obtain ⟨N, hN⟩ : ∃ N, wc.heap.size = N := ⟨_, rfl⟩
        have HNN := Lib.hid hN
        have hEN : E < N := by rw [← hN]; exact HRE.out.lt
        have HRB : Hid (RowC wc B 23 [.int .i64 (g.b : Int), .int .i64 (g.s : Int), .int .i64 (g.y : Int), .int .i64 (g.a : Int), .int .i64 r]) := I1.out.below HBE.out
        have HRB1 : Hid (RowC wc (B + 1) 30 (stL noQ)) := I2.out.below HBE.out
        have HRD : Hid (RowC wc D 67 (szL (T : Int) z1 (g.slots : Int) z3 z4 z5 z6 z7)) := RZ.out.below HBE.out
        have hDY : D < Y.heap.size := RZ.out.lt
        have hDE : D ≠ E := by have := HEY.out; omega
        have hBE : B ≠ E ∧ B + 1 ≠ E := by have := HEY.out; have := HD2.out; omega
        have hBN : B < N ∧ B + 1 < N ∧ D < N := by have := HEY.out; have := HD2.out; omega
        have HNB : Hid (B ≤ N) := by show B ≤ N; omega
        have HSl : Hid (10 + Z ≤ vn) := by
          have h1 := g.at_end
          have h2 := g.at_zero
          have h3 := g.at_le (i := 0) (by omega)
          have h4 := HLE.out
          have h5 := HVN.out
          have h6 : g.slots = Z := HZ.out
          show _ ≤ _
          omega
        have HN0E := Lib.hid hz0n
        have HN1E := Lib.hid hz1n
        clear cY5 hz0n hz1n
        go_wp2_with fail
        go_loopw [8, 9] (fun av iv wr => ∃ (k p : Nat) (x : Option Addr) (n c : Nat), k ≤ Z ∧ p = 10 + k ∧ av = .int .i64 (p : Int) ∧ iv = .int .i64 (k : Int) ∧ Hid (∀ i, i < N → i ≠ E → wr.heap[i]? = wc.heap[i]?) ∧ Hid (RowC wr E 30 [.slice x n c, .slice none 0 0, .int .i64 n0, .int .i64 (u5 : Int), .int .i64 n1, .slice none 0 0]) ∧ Hid (InO N wr (.slice x n c) (dirtK g bs k)) ∧ Hid (Below B w wr)) (fun _ iv _ => Z - (intOf iv).toNat)
        case atStart => exact ⟨0, 10, none, 0, 0, Nat.zero_le _, rfl, rfl, rfl, fun i _ _ => rfl, HRE, by rw [dirtK_zero]; exact InO.nil _ _, HBW⟩
        case round =>
          obtain ⟨k, p, x, n, c, hk, hp, rfl, rfl, J1, J2, J3, J4⟩ := hrel
          have hD' : RowC wr D 67 (szL (T : Int) z1 (g.slots : Int) z3 z4 z5 z6 z7) := (J1.out D hBN.2.2 hDE).trans HRD.out
          have e2 := hD'.cell 2 _ rfl
          have hsz : (g.slots : Int) = (Z : Int) := by rw [HZ.out]
          rw [hsz] at e2
          clear hsz
          have hNw0 : Hid (N ≤ wr.heap.size) := by
            have h1 := J1.out
            show N ≤ wr.heap.size
            by_cases hc : N ≤ wr.heap.size
            · exact hc
            · exfalso
              have h3 : E < wr.heap.size := J2.out.lt
              have h4 := h1 wr.heap.size (by omega) (by omega)
              rw [Array.getElem?_eq_none (Nat.le_refl _)] at h4
              have h5 : wr.heap.size < wc.heap.size := by omega
              rw [Array.getElem?_eq_getElem h5] at h4
              cases h4
          by_cases hlt : k < Z
          · skip
            have q1 : (k : Int) < (Z : Int) := by omega
            have HLT := Lib.hid hlt
            have hpv : p < vn := by have := HSl.out; omega
            have hpv2 : (p : Int) < (T : Int) := by omega
            obtain ⟨y, hy, hy8⟩ := byte_of bs HBt.out p
            have cb := HCS.out wr J4.out p hpv
            rw [hy] at cb
            have HES := dirtK_succ g (bs := bs) (k := k) (by rw [HZ.out]; exact hlt) (by rw [HZ.out, ← HVN.out]; exact HSl.out)
            rw [← hp, hy] at HES
            have hb0 : RowC wr.drew E 30 [.slice x n c, .slice none 0 0, .int .i64 n0, .int .i64 (u5 : Int), .int .i64 n1, .slice none 0 0] := J2.out.below (Below.refl _ wr).drew
            have hd4 : Below B w wr.drew := J4.out.drew
            have hNw : N ≤ wr.drew.heap.size := hNw0.out
            obtain ⟨v', y', hA, hI, hg', -⟩ := in_append (w := wr.drew) (J3.out.below (Below.refl _ wr).drew) hNw ((y : Int) - 1) (by
              have : (dirtK g bs k).length ≤ k := by unfold dirtK; rw [List.length_map, List.length_take]; omega
              omega)
            rw [← HES] at hI
            obtain ⟨x', c', rfl, -⟩ := row_lenT hI
            obtain ⟨m', hm'⟩ : ∃ m, (dirtK g bs (k + 1)).length = m := ⟨_, rfl⟩
            rw [hm'] at hA hI
            have hne : ∀ j, j < N → (Value.slice x n c).ownBlock ≠ some j := fun j hj e => by have := (J3.out.base j e).1; omega
            have hb2 := hb0.grown hg' (hne E hEN)
            have hd6 : Below B w y' := hd4.grown hg' (by have := HNB.out; omega) (fun j e => by have := (J3.out.base j e).1; have := HNB.out; omega)
            obtain ⟨X1, hX1⟩ : ∃ X, wr.drew.alloc (.cells #[.int .i64 ((y : Int) - 1)] 3) = X := ⟨_, rfl⟩
            have hd5 : Below wr.drew.heap.size wr.drew X1 := by rw [← hX1]; exact below_new _ _
            have KX1 : Hid (RowC X1 E 30 [.slice x n c, .slice none 0 0, .int .i64 n0, .int .i64 (u5 : Int), .int .i64 n1, .slice none 0 0] ∧ X1.cell? ⟨vb, vo + p, none⟩ = some (.int .u8 (y : Int))) := ⟨hb0.below hd5, by rw [← hy]; exact HCS.out X1 (hd4.trans (hd5.mono (by have := HNB.out; omega))) p hpv⟩
            have Ky' : Hid (RowC y' E 30 [.slice x n c, .slice none 0 0, .int .i64 n0, .int .i64 (u5 : Int), .int .i64 n1, .slice none 0 0] ∧ y'.cell? ⟨vb, vo + p, none⟩ = some (.int .u8 (y : Int))) := ⟨hb2, by rw [← hy]; exact HCS.out y' hd6 p hpv⟩
            have Kd : Hid (RowC wr.drew E 30 [.slice x n c, .slice none 0 0, .int .i64 n0, .int .i64 (u5 : Int), .int .i64 n1, .slice none 0 0] ∧ wr.drew.cell? ⟨vb, vo + p, none⟩ = some (.int .u8 (y : Int))) := ⟨hb0, by rw [← hy]; exact HCS.out wr.drew hd4 p hpv⟩
            have O1 : Hid (∀ i, i < N → i ≠ E → (y'.setCell ⟨E, 0, none⟩ (.slice x' m' c')).heap[i]? = wc.heap[i]?) := fun i h1 h2 => by
              rw [Below.heap_setCell _ _ _ i h2, hg'.block i (Nat.lt_of_lt_of_le h1 hNw) (fun e => hne i h1 e.symm)]
              exact J1.out i h1 h2
            have O2 : Hid (RowC (y'.setCell ⟨E, 0, none⟩ (.slice x' m' c')) E 30 [.slice x' m' c', .slice none 0 0, .int .i64 n0, .int .i64 (u5 : Int), .int .i64 n1, .slice none 0 0]) := hb2.set 0 _
            have O3 : Hid (InO N (y'.setCell ⟨E, 0, none⟩ (.slice x' m' c')) (.slice x' m' c') (dirtK g bs (k + 1))) := own_setB hI hb2 (by decide) 0 _
            have hBE2 : B ≤ E := by have := HEY.out; have := HD2.out; omega
            have O4 : Hid (Below B w (y'.setCell ⟨E, 0, none⟩ (.slice x' m' c'))) := hd6.setCell (p := ⟨E, 0, none⟩) hBE2 _
            have e0 := hb2.cell 0 _ rfl
            have f0 := hb2.frozen 0
            rw [hX1] at hA
            have HA := Lib.hid hA
            have d0 : ∀ z : RowT2 E 30 [.slice x n c, .slice none 0 0, .int .i64 n0, .int .i64 (u5 : Int), .int .i64 n1, .slice none 0 0] ⟨vb, vo + p, none⟩ (.int .u8 (y : Int)), z.1.cell? ⟨E, 0, none⟩ = some (.slice x n c) := fun z => z.2.1.cell 0 _ rfl
            have d1 : ∀ z : RowT2 E 30 [.slice x n c, .slice none 0 0, .int .i64 n0, .int .i64 (u5 : Int), .int .i64 n1, .slice none 0 0] ⟨vb, vo + p, none⟩ (.int .u8 (y : Int)), z.1.cell? ⟨vb, vo + p, none⟩ = some (.int .u8 (y : Int)) := fun z => z.2.2
            haveI : Nonempty (RowT2 E 30 [.slice x n c, .slice none 0 0, .int .i64 n0, .int .i64 (u5 : Int), .int .i64 n1, .slice none 0 0] ⟨vb, vo + p, none⟩ (.int .u8 (y : Int))) := ⟨⟨wr.drew, Kd.out⟩⟩
            have HPK := Lib.hid hp
            clear hA hI hg' hm' hne hb2 hd6 hd5 hb0 hd4 hlt cb hy HES hp
            go_wp2_with fail
            refine region_plan (fun z => ∃ q : RowT2 E 30 [.slice x n c, .slice none 0 0, .int .i64 n0, .int .i64 (u5 : Int), .int .i64 n1, .slice none 0 0] ⟨vb, vo + p, none⟩ (.int .u8 (y : Int)), z = q.1) 10 (.takes [0, 1, 2, 3, 4, 5, 6, 7] (.one 8 (.one 9 .leaf))) hmx (by kernel_rfl) (by intro c x v a w h; cases x <;> exact h) ⟨⟨wr.drew, Kd.out⟩, rfl⟩ ?_
            repeat (rw [wpPlan_takes_cons]; simp only [nth_zero, nth_succ]; go_big_quiet_step (fail); refine wpQuiet_nil ?_)
            clear d0 d1
            rw [wpPlan_takes_nil, wpPlan_one]
            simp only [nth_zero, nth_succ]
            go_wp2_with fail
            try rw [hX1]
            refine planPost_mk ⟨⟨X1, KX1.out⟩, rfl⟩ ?_
            clear hX1
            rw [wpPlan_one]
            simp only [nth_zero, nth_succ]
            refine wpList_append_run (.tmp 54) (.tmp 61) 24 rfl rfl _ _ _ rfl rfl (HA.out _) ?_
            go_wp2_with fail
            refine planPost_mk ⟨⟨y', Ky'.out⟩, rfl⟩ ?_
            rw [wpPlan_leaf]
            simp only [List.drop_succ_cons, List.drop_zero]
            go_wp2_with fail
            exact ⟨⟨k + 1, p + 1, x', m', c', HLT.out, by have := HPK.out; omega, by simp, by simp, O1, O2, O3, O4⟩, by have := HLT.out; simp [intOf]; omega⟩
          · obtain rfl : k = Z := by omega
            have hB' : RowC wr B 23 [.int .i64 (g.b : Int), .int .i64 (g.s : Int), .int .i64 (g.y : Int), .int .i64 (g.a : Int), .int .i64 r] := (J1.out B hBN.1 hBE.1).trans HRB.out
            have f0 := hB'.cell 0 _ rfl
            have HDI : Hid (DcI B E N [.int .i64 (g.b : Int), .int .i64 (g.s : Int), .int .i64 (g.y : Int), .int .i64 (g.a : Int), .int .i64 r] w ⟨(x, n, c), (none, 0, 0), n0, (u5 : Int), n1, (none, 0, 0)⟩ (dirtK g bs g.slots) [] wr) :=
              ⟨hB', (J1.out (B + 1) hBN.2.1 hBE.2).trans HRB1.out, J2.out, by rw [HZ.out]; exact J3.out, SnO.nil _ _, J4.out, by have := HEY.out; have := HD2.out; omega, hEN, hNw0.out⟩
            obtain ⟨K9, hK9⟩ : ∃ K, g.n9 = K := ⟨_, rfl⟩
            have HK9 := Lib.hid hK9
            have hgb1 := HGK.out.b1
            have hgb2 := HGK.out.b64
            have hk9 : K9 ≤ 8 := by rw [← hK9]; exact sizeB_le64 HGK.out
            have hk91 : 1 ≤ K9 := by rw [← hK9]; unfold SG.n9 sizeB; rw [if_neg (by omega)]; omega
            have HNW := Lib.hid (fun z => rf_newP (g.b : Int) (by omega) (by omega) z)
            rw [show sizeB (g.b : Int) = K9 from hK9] at HNW
            have HP0 : Hid (p = g.at 0) := by show p = _; rw [g.at_zero, HZ.out]; exact hp
            clear hlt hK9 hB' J1 J2 J3 J4 hp hNw0
            go_wp2_with fail
            refine (HNW.out wr).mono ?_
            rintro e y1 ⟨rfl, -, hb1⟩
            have HD1 := Lib.hid (HDI.out.below hb1)
            clear hb1 f0 HNW HDI hzi e2 hD' hN
            go_wp2_with fail
            rw [HP0.out]
            go_loopw [8, 11] (fun av iv W => ∃ (j : Nat) (sx : Option Addr) (sn sc : Nat), j ≤ 8 ∧ iv = .int .i64 (j : Int) ∧ av = .int .i64 ((g.at j : Nat) : Int) ∧ Hid (DcI B E N [.int .i64 (g.b : Int), .int .i64 (g.s : Int), .int .i64 (g.y : Int), .int .i64 (g.a : Int), .int .i64 r] w ⟨(x, n, c), (sx, sn, sc), n0, (u5 : Int), n1, (none, 0, 0)⟩ (dirtK g bs g.slots) (snK g bs j) W)) (fun _ iv _ => 8 - (intOf iv).toNat)
            case atStart => exact ⟨0, none, 0, 0, Nat.zero_le _, rfl, rfl, by rw [snK_zero]; exact HD1⟩
            case round =>
              clear HD1
              obtain ⟨j, sx, sn, sc, hj, rfl, rfl, HD⟩ := hrel
              by_cases hlt : j < 8
              · skip
                have q1 : (j : Int) < 8 := by omega
                have HLT := Lib.hid hlt
                have hA0 := atR HLE.out hlt
                obtain ⟨A, hAA⟩ : ∃ A, g.at j = A := ⟨_, rfl⟩
                rw [hAA] at hA0 ⊢
                have HAT := Lib.hid hA0
                have hAl : A + (4 + K9 + g.b) ≤ vn := by have := hA0.lt; rw [← HVN.out] at this; unfold SG.step at this; rw [HK9.out] at this; exact this
                have hA1 : A ≤ 1000 := by omega
                obtain ⟨W0, hW0⟩ : ∃ W, wr.drew = W := ⟨_, rfl⟩
                have HD0 : Hid (DcI B E N [.int .i64 (g.b : Int), .int .i64 (g.s : Int), .int .i64 (g.y : Int), .int .i64 (g.a : Int), .int .i64 r] w ⟨(x, n, c), (sx, sn, sc), n0, (u5 : Int), n1, (none, 0, 0)⟩ (dirtK g bs g.slots) (snK g bs j) W0) := by show DcI _ _ _ _ _ _ _ _ _; rw [← hW0]; exact HD.out.below ((Below.refl _ wr).drew)
                have hN0 : N ≤ W0.heap.size := HD0.out.n3
                have HSub : Hid (∀ x : World, Below W0.heap.size W0 x → ∀ k m c', k + m ≤ vn → m ≤ c' → c' ≤ maxLen → Sl .u8 x (.slice (some ⟨vb, vo + k, none⟩) m c') (seg bs k m)) := fun x hx k m c' h1 h2 h3 => by
                  have hx2 : Below B w x := HD0.out.be.trans (hx.mono (by have := HNB.out; omega))
                  have hsl : (seg bs k m).length = m := seg_len (by rw [← HVN.out]; exact h1)
                  have S := Sl.at (k := .u8) (w := x) (b := vb) (off := vo + k) (cap := c') (bs := seg bs k m) (by rw [hsl]; exact h2) h3 (Nat.lt_of_lt_of_le hvb (by rw [hB]; exact Nat.le_trans (by have := HNB.out; omega) hx.size)) (fun j hj => by
                    rw [hsl] at hj
                    have := HCS.out x hx2 (k + j) (by omega)
                    rw [← Nat.add_assoc] at this
                    rw [this, seg_get hj])
                  rw [hsl] at S
                  exact S
                have hb4 := getL4_bd (bs := seg bs A 4) (by unfold seg; exact HBt.out.cut A 4) (seg_len (by rw [← HVN.out]; omega))
                obtain ⟨idv, hidv⟩ : ∃ z, getL (seg bs A 4) = z := ⟨_, rfl⟩
                rw [hidv] at hb4
                obtain ⟨hi0, hi1⟩ := hb4
                have HI64 : Hid (Is64 idv) := by show Is64 idv; unfold Is64; omega
                have HGt : Hid (∀ x : World, Below W0.heap.size W0 x → Calls Tryz.prog 35 #[.slice (some ⟨vb, vo + A, none⟩) 4 (vc - A)] x fun e w' => e = .returned (.int .u64 idv) ∧ w' = x) := fun x hx => by
                  rw [← hidv]
                  exact refGet_any _ _ x (HSub.out x hx A 4 (vc - A) (by omega) (by have := HVC1.out; omega) (by have := HVC2.out; omega)) (by unfold seg; exact HBt.out.cut A 4)
                have HP : Hid (∀ x : World, Below W0.heap.size W0 x → Calls Tryz.prog 36 #[.slice (some ⟨vb, vo + (A + 4 + K9), none⟩) g.b (vc - (A + 4 + K9))] x fun e w' => ∃ u, e = .returned u ∧ PrO x.heap.size w' u (prFrom 0 (seg bs (A + 4 + K9) g.b)) ∧ Below x.heap.size x w') := fun x hx =>
                  rf14_pairs (HSub.out x hx (A + 4 + K9) g.b (vc - (A + 4 + K9)) (by omega) (by have := HVC1.out; omega) (by have := HVC2.out; omega)) (by unfold seg; exact HBt.out.cut _ _) (by have := seg_len (bs := bs) (a := A + 4 + K9) (n := g.b) (by rw [← HVN.out]; omega); omega)
                have HX : Hid (∀ x : World, Below W0.heap.size W0 x → Sl .u8 x (.slice (some ⟨vb, vo + (A + 4), none⟩) K9 (vc - (A + 4))) (seg bs (A + 4) K9)) := fun x hx => HSub.out x hx (A + 4) K9 (vc - (A + 4)) (by omega) (by have := HVC1.out; omega) (by have := HVC2.out; omega)
                have HXL : Hid ((seg bs (A + 4) K9).length ≤ 100000) := by show _ ≤ _; rw [seg_len (by rw [← HVN.out]; omega)]; omega
                have HCH : Hid (IsBytes (seg bs (A + 4) K9)) := by show IsBytes _; unfold seg; exact HBt.out.cut _ _
                have HC1 := Lib.hid (cut_at (b := vb) (o := vo) (n := vn) (c := vc) (K := A) (m := 4) (by omega) HVC1.out (by omega) (A : Int) ((A : Int) + 4) rfl (by omega))
                have HC2 := Lib.hid (cut_at (b := vb) (o := vo) (n := vn) (c := vc) (K := A + 4) (m := K9) (by omega) HVC1.out (by omega) ((A : Int) + 4) ((A : Int) + 4 + (K9 : Int)) (by omega) (by omega))
                have HC3 := Lib.hid (cut_at (b := vb) (o := vo) (n := vn) (c := vc) (K := A + 4 + K9) (m := g.b) (by omega) HVC1.out (by omega) ((A : Int) + 4 + (K9 : Int)) ((A : Int) + 4 + (K9 : Int) + (g.b : Int)) (by omega) (by omega))
                have HSN : Hid (sSnapR g (seg bs A g.step) = ⟨idv, seg bs (A + 4) K9, prFrom 0 (seg bs (A + 4 + K9) g.b)⟩) := by show _ = _; rw [HAT.out.sn, hidv, HK9.out]
                obtain ⟨C0, hC0⟩ : ∃ C, W0.heap.size = C := ⟨_, rfl⟩
                obtain ⟨Va, hVa⟩ : ∃ V, W0.alloc (.cells sn0 51) = V := ⟨_, rfl⟩
                obtain ⟨Vb, hVb⟩ : ∃ V, Va.alloc (.cells #[] 5) = V := ⟨_, rfl⟩
                obtain ⟨Vl, hVl⟩ : ∃ V, W0.alloc (.cells #[] 5) = V := ⟨_, rfl⟩
                obtain ⟨Vm, hVm⟩ : ∃ V, Vl.alloc (.cells sn0 51) = V := ⟨_, rfl⟩
                have sVa : Va.heap.size = C0 + 1 := by rw [← hVa, World.size_alloc, hC0]
                have sVl : Vl.heap.size = C0 + 1 := by rw [← hVl, World.size_alloc, hC0]
                have bR := Below.refl W0.heap.size W0
                have bVa : Below W0.heap.size W0 Va := by rw [← hVa]; exact below_new _ _
                have bVl : Below W0.heap.size W0 Vl := by rw [← hVl]; exact below_new _ _
                have cVb : Below Va.heap.size Va Vb := by rw [← hVb]; exact below_new _ _
                have cVm : Below Vl.heap.size Vl Vm := by rw [← hVm]; exact below_new _ _
                have bVb : Below W0.heap.size W0 Vb := bVa.trans (cVb.mono bVa.size)
                have bVm : Below W0.heap.size W0 Vm := bVl.trans (cVm.mono bVl.size)
                obtain ⟨a1, m1, k1, Vc, HA1, HO1, HB1, HG1⟩ := dc_app hN0 bVa hVb Vb (Below.refl _ _) (HX.out _ bVb) HXL.out
                obtain ⟨a2, m2, k2, Vn, HA2, HO2, HB2, HG2⟩ := dc_app hN0 bR hVl Vm cVm (HX.out _ bVm) HXL.out
                obtain ⟨a3, m3, k3, Vp, HA3, HO3, HB3, HG3⟩ := dc_app hN0 bR hVl Vl (Below.refl _ _) (HX.out _ bVl) HXL.out
                have RA : Hid (RowC Vc C0 51 sn0.toList) := by
                  have h : RowC Va W0.heap.size 51 sn0.toList := by rw [← hVa]; exact RowC.new _ _ _
                  rw [hC0] at h
                  exact (h.below cVb).grown HG1.out (by rw [sVa]; simp)
                have RB : Hid (RowC Vn (C0 + 1) 51 sn0.toList) := by
                  have h : RowC Vm Vl.heap.size 51 sn0.toList := by rw [← hVm]; exact RowC.new _ _ _
                  rw [sVl] at h
                  exact h.grown HG2.out (by rw [hC0]; simp)
                obtain ⟨Vq, hVq⟩ : ∃ V, Vp.alloc (.cells sn0 51) = V := ⟨_, rfl⟩
                obtain ⟨C3, hC3⟩ : ∃ C, Vp.heap.size = C := ⟨_, rfl⟩
                have cVq : Below Vp.heap.size Vp Vq := by rw [← hVq]; exact below_new _ _
                have HB4 : Hid (Below W0.heap.size W0 Vq) := HB3.out.trans (cVq.mono HB3.out.size)
                have RC : Hid (RowC Vq C3 51 sn0.toList) := by show RowC _ _ _ _; rw [← hVq, ← hC3]; exact RowC.new _ _ _
                have HO4 := Lib.hid (own_belowT HO3.out cVq)
                have hC3b : W0.heap.size ≤ C3 := by rw [← hC3]; exact HB3.out.size
                rw [sVa] at HA1
                rw [hC0] at HA2 HA3
                have gb0 : ∀ y : Ext W0, y.1.cell? ⟨B, 0, none⟩ = some (.int .i64 (g.b : Int)) := fun y => (HD0.out.g0.below y.2).cell 0 _ rfl
                simp only [sn0] at hVa hVm hVq
                have c1 := HB1.out
                have c2 := HB2.out
                have c3 := HB3.out
                have c4 := HB4.out
                clear HG1 HG2 HG3 hidv
                go_upto_region 17 with (fail)
                go_cut [12] from 74 to 105 (fun s12 wx => ∃ (C : Nat) (qi : Int) (qa : Option Addr) (qn qc : Nat) (ta : Option Addr) (tn tc : Nat), s12 = .pointer (some ⟨C, 0, none⟩) ∧ Hid (DcI B E N [.int .i64 (g.b : Int), .int .i64 (g.s : Int), .int .i64 (g.y : Int), .int .i64 (g.a : Int), .int .i64 r] w ⟨(x, n, c), (sx, sn, sc), n0, (u5 : Int), n1, (none, 0, 0)⟩ (dirtK g bs g.slots) (snK g bs j) wx) ∧ Hid (RowC wx C 51 (svL (qi, (qa, qn, qc), (ta, tn, tc)))) ∧ Hid (SnF N wx (qi, (qa, qn, qc), (ta, tn, tc)) (sSnapR g (seg bs A g.step))))
                case first =>
                  as_aux_lemma =>
                    refine region_plan3 (fun x => ∃ y : Ext W0, x = y.1) 33 (.takes [0, 1, 2, 3, 4, 8, 9, 10, 11, 12, 13, 14, 15, 17, 18, 19, 20, 21, 22, 23, 24, 25, 26, 27, 28, 29] (.three 5 7 32 (.takes [6] (.two 7 32 (.two 16 32 (.two 30 32 (.takes [31] (.one 32 .leaf)) (.one 30 (.takes [31] .leaf))) (.one 16 (.one 30 (.takes [31] .leaf)))) (.one 7 (.one 16 (.one 30 (.takes [31] .leaf)))))) (.two 5 32 (.takes [6] (.two 16 32 (.two 30 32 (.takes [31] (.one 32 .leaf)) (.one 30 (.takes [31] .leaf))) (.one 16 (.one 30 (.takes [31] .leaf))))) (.one 5 (.takes [6] (.one 16 (.one 30 (.takes [31] .leaf)))))) (.two 5 7 (.takes [6] (.one 7 (.one 16 (.one 30 (.takes [31] .leaf))))) (.one 5 (.takes [6] (.one 16 (.one 30 (.takes [31] .leaf)))))))) hmx (by kernel_rfl) ⟨⟨W0, Below.refl _ _⟩, hW0⟩ ?_
                    rw [hW0]
                    clear hW0
                    iterate 4 (rw [wpPlan3_takes_cons]; simp only [nth_zero, nth_succ]; go_big_quiet_step (fail); try (with_reducible refine wpQuiet_nil ?_))
                    rw [wpPlan3_takes_cons]; simp only [nth_zero, nth_succ]; refine wpQuiet_slice_run (.tmp 74) 31 (some (.tmp 75)) (some (.tmp 77)) rfl rfl _ _ _ _ rfl rfl rfl (fun x _ => HC1.out x) ?_; refine wpQuiet_nil ?_; simp only [Act.put, List.setIfInBounds_toArray, List.set_cons_succ, List.set_cons_zero]
                    iterate 7 (rw [wpPlan3_takes_cons]; simp only [nth_zero, nth_succ]; go_big_quiet_step (fail); try (with_reducible refine wpQuiet_nil ?_))
                    rw [wpPlan3_takes_cons]; simp only [nth_zero, nth_succ]; refine wpQuiet_slice_run (.tmp 82) 31 (some (.tmp 84)) (some (.tmp 88)) rfl rfl _ _ _ _ rfl rfl rfl (fun x _ => HC2.out x) ?_; refine wpQuiet_nil ?_; simp only [Act.put, List.setIfInBounds_toArray, List.set_cons_succ, List.set_cons_zero]
                    iterate 12 (rw [wpPlan3_takes_cons]; simp only [nth_zero, nth_succ]; go_big_quiet_step (fail); try (with_reducible refine wpQuiet_nil ?_))
                    rw [wpPlan3_takes_cons]; simp only [nth_zero, nth_succ]; refine wpQuiet_slice_run (.tmp 91) 31 (some (.tmp 95)) (some (.tmp 102)) rfl rfl _ _ _ _ rfl rfl rfl (fun x _ => HC3.out x) ?_; refine wpQuiet_nil ?_; simp only [Act.put, List.setIfInBounds_toArray, List.set_cons_succ, List.set_cons_zero]
                    -- <orders
                    rw [wpPlan3_takes_nil]
                    rw [wpPlan3_three]
                    refine ⟨?_, ?_, ?_⟩
                    · simp only [nth_zero, nth_succ]
                      go_wp2_with fail
                      go_at_call 35
                      refine (HGt.out _ bR).mono ?_
                      rintro e xg ⟨rfl, hxg⟩
                      rw [hxg]
                      clear hxg
                      go_wp2_with fail
                      refine planPost_mk ⟨⟨_, bR⟩, rfl⟩ ?_
                      rw [wpPlan3_takes_cons]; simp only [nth_zero, nth_succ]; go_big_quiet_step (fail); try (with_reducible refine wpQuiet_nil ?_)
                      rw [wpPlan3_takes_nil]
                      rw [wpPlan3_two]
                      refine ⟨?_, ?_⟩
                      · simp only [nth_zero, nth_succ]
                        go_wp2_with fail
                        try rw [hVl]
                        refine planPost_mk ⟨⟨_, bVl⟩, rfl⟩ ?_
                        rw [wpPlan3_two]
                        refine ⟨?_, ?_⟩
                        · simp only [nth_zero, nth_succ]
                          refine wpList_append_run (.tmp 81) (.tmp 89) 31 rfl rfl _ _ _ rfl rfl HA3.out ?_
                          go_wp2_with fail
                          refine planPost_mk ⟨⟨_, c3⟩, rfl⟩ ?_
                          rw [wpPlan3_two]
                          refine ⟨?_, ?_⟩
                          · simp only [nth_zero, nth_succ]
                            go_wp2_with fail
                            go_at_call 36
                            refine (HP.out _ c3).mono ?_
                            rintro e y ⟨u, rfl, hpr, hby⟩
                            have b4 : Below W0.heap.size W0 y := c3.trans (hby.mono c3.size)
                            obtain ⟨ua, un, uc, rfl⟩ := prO_slice hpr
                            go_wp2_with fail
                            refine planPost_mk ⟨⟨_, b4⟩, rfl⟩ ?_
                            rw [wpPlan3_takes_cons]; simp only [nth_zero, nth_succ]; go_big_quiet_step (fail); try (with_reducible refine wpQuiet_nil ?_)
                            rw [wpPlan3_takes_nil]
                            rw [wpPlan3_one]
                            simp only [nth_zero, nth_succ]
                            go_wp2_with fail
                            refine planPost_mk ⟨⟨_, b4.trans ((below_new _ _).mono b4.size)⟩, rfl⟩ ?_
                            -- order 1
                            rw [wpPlan3_leaf]
                            simp only [List.drop_succ_cons, List.drop_zero]
                            obtain ⟨z, hS, hRz, hF, hBz⟩ := dc_fin4 hN0 c3 HO3.out hpr hby HI64.out HCH.out
                            simp only [svV, slV, sn0] at hS
                            have HDz := Lib.hid (HD0.out.below hBz)
                            have HRz := Lib.hid hRz
                            have HFz := Lib.hid hF
                            rw [← HSN.out] at HFz
                            clear hRz hF hBz
                            go_wp2_with fail
                            go_meet
                            exact ⟨_, _, _, _, _, _, _, _, rfl, HDz, HRz, HFz⟩
                          · simp only [nth_zero, nth_succ]
                            go_wp2_with fail
                            try rw [hVq]
                            refine planPost_mk ⟨⟨_, c4⟩, rfl⟩ ?_
                            rw [wpPlan3_one]
                            simp only [nth_zero, nth_succ]
                            go_wp2_with fail
                            go_at_call 36
                            refine (HP.out _ c4).mono ?_
                            rintro e y ⟨u, rfl, hpr, hby⟩
                            have b4 : Below W0.heap.size W0 y := c4.trans (hby.mono c4.size)
                            obtain ⟨ua, un, uc, rfl⟩ := prO_slice hpr
                            go_wp2_with fail
                            refine planPost_mk ⟨⟨_, b4⟩, rfl⟩ ?_
                            rw [wpPlan3_takes_cons]; simp only [nth_zero, nth_succ]; go_big_quiet_step (fail); try (with_reducible refine wpQuiet_nil ?_)
                            rw [wpPlan3_takes_nil]
                            -- order 2
                            rw [wpPlan3_leaf]
                            simp only [List.drop_succ_cons, List.drop_zero]
                            obtain ⟨z, hS, hRz, hF, hBz⟩ := dc_fin (C := C3) hN0 c4 (by first | exact hC3b | (rw [hC0]; omega)) RC.out HO4.out hpr hby HI64.out HCH.out
                            simp only [svV, slV] at hS
                            have HDz := Lib.hid (HD0.out.below hBz)
                            have HRz := Lib.hid hRz
                            have HFz := Lib.hid hF
                            rw [← HSN.out] at HFz
                            clear hRz hF hBz
                            go_wp2_with fail
                            go_meet
                            exact ⟨_, _, _, _, _, _, _, _, rfl, HDz, HRz, HFz⟩
                        · simp only [nth_zero, nth_succ]
                          go_wp2_with fail
                          try rw [hVm]
                          refine planPost_mk ⟨⟨_, bVm⟩, rfl⟩ ?_
                          rw [wpPlan3_one]
                          simp only [nth_zero, nth_succ]
                          refine wpList_append_run (.tmp 81) (.tmp 89) 31 rfl rfl _ _ _ rfl rfl HA2.out ?_
                          go_wp2_with fail
                          refine planPost_mk ⟨⟨_, c2⟩, rfl⟩ ?_
                          rw [wpPlan3_one]
                          simp only [nth_zero, nth_succ]
                          go_wp2_with fail
                          go_at_call 36
                          refine (HP.out _ c2).mono ?_
                          rintro e y ⟨u, rfl, hpr, hby⟩
                          have b4 : Below W0.heap.size W0 y := c2.trans (hby.mono c2.size)
                          obtain ⟨ua, un, uc, rfl⟩ := prO_slice hpr
                          go_wp2_with fail
                          refine planPost_mk ⟨⟨_, b4⟩, rfl⟩ ?_
                          rw [wpPlan3_takes_cons]; simp only [nth_zero, nth_succ]; go_big_quiet_step (fail); try (with_reducible refine wpQuiet_nil ?_)
                          rw [wpPlan3_takes_nil]
                          -- order 3
                          rw [wpPlan3_leaf]
                          simp only [List.drop_succ_cons, List.drop_zero]
                          obtain ⟨z, hS, hRz, hF, hBz⟩ := dc_fin (C := (C0 + 1)) hN0 c2 (by first | exact hC3b | (rw [hC0]; omega)) RB.out HO2.out hpr hby HI64.out HCH.out
                          simp only [svV, slV] at hS
                          have HDz := Lib.hid (HD0.out.below hBz)
                          have HRz := Lib.hid hRz
                          have HFz := Lib.hid hF
                          rw [← HSN.out] at HFz
                          clear hRz hF hBz
                          go_wp2_with fail
                          go_meet
                          exact ⟨_, _, _, _, _, _, _, _, rfl, HDz, HRz, HFz⟩
                      · simp only [nth_zero, nth_succ]
                        go_wp2_with fail
                        try rw [hVa]
                        refine planPost_mk ⟨⟨_, bVa⟩, rfl⟩ ?_
                        rw [wpPlan3_one]
                        simp only [nth_zero, nth_succ]
                        go_wp2_with fail
                        try rw [hVb]
                        refine planPost_mk ⟨⟨_, bVb⟩, rfl⟩ ?_
                        rw [wpPlan3_one]
                        simp only [nth_zero, nth_succ]
                        refine wpList_append_run (.tmp 81) (.tmp 89) 31 rfl rfl _ _ _ rfl rfl HA1.out ?_
                        go_wp2_with fail
                        refine planPost_mk ⟨⟨_, c1⟩, rfl⟩ ?_
                        rw [wpPlan3_one]
                        simp only [nth_zero, nth_succ]
                        go_wp2_with fail
                        go_at_call 36
                        refine (HP.out _ c1).mono ?_
                        rintro e y ⟨u, rfl, hpr, hby⟩
                        have b4 : Below W0.heap.size W0 y := c1.trans (hby.mono c1.size)
                        obtain ⟨ua, un, uc, rfl⟩ := prO_slice hpr
                        go_wp2_with fail
                        refine planPost_mk ⟨⟨_, b4⟩, rfl⟩ ?_
                        rw [wpPlan3_takes_cons]; simp only [nth_zero, nth_succ]; go_big_quiet_step (fail); try (with_reducible refine wpQuiet_nil ?_)
                        rw [wpPlan3_takes_nil]
                        -- order 4
                        rw [wpPlan3_leaf]
                        simp only [List.drop_succ_cons, List.drop_zero]
                        obtain ⟨z, hS, hRz, hF, hBz⟩ := dc_fin (C := C0) hN0 c1 (by first | exact hC3b | (rw [hC0]; omega)) RA.out HO1.out hpr hby HI64.out HCH.out
                        simp only [svV, slV] at hS
                        have HDz := Lib.hid (HD0.out.below hBz)
                        have HRz := Lib.hid hRz
                        have HFz := Lib.hid hF
                        rw [← HSN.out] at HFz
                        clear hRz hF hBz
                        go_wp2_with fail
                        go_meet
                        exact ⟨_, _, _, _, _, _, _, _, rfl, HDz, HRz, HFz⟩
                    · simp only [nth_zero, nth_succ]
                      go_wp2_with fail
                      try rw [hVl]
                      refine planPost_mk ⟨⟨_, bVl⟩, rfl⟩ ?_
                      rw [wpPlan3_two]
                      refine ⟨?_, ?_⟩
                      · simp only [nth_zero, nth_succ]
                        go_wp2_with fail
                        go_at_call 35
                        refine (HGt.out _ bVl).mono ?_
                        rintro e xg ⟨rfl, hxg⟩
                        rw [hxg]
                        clear hxg
                        go_wp2_with fail
                        refine planPost_mk ⟨⟨_, bVl⟩, rfl⟩ ?_
                        rw [wpPlan3_takes_cons]; simp only [nth_zero, nth_succ]; go_big_quiet_step (fail); try (with_reducible refine wpQuiet_nil ?_)
                        rw [wpPlan3_takes_nil]
                        rw [wpPlan3_two]
                        refine ⟨?_, ?_⟩
                        · simp only [nth_zero, nth_succ]
                          refine wpList_append_run (.tmp 81) (.tmp 89) 31 rfl rfl _ _ _ rfl rfl HA3.out ?_
                          go_wp2_with fail
                          refine planPost_mk ⟨⟨_, c3⟩, rfl⟩ ?_
                          rw [wpPlan3_two]
                          refine ⟨?_, ?_⟩
                          · simp only [nth_zero, nth_succ]
                            go_wp2_with fail
                            go_at_call 36
                            refine (HP.out _ c3).mono ?_
                            rintro e y ⟨u, rfl, hpr, hby⟩
                            have b4 : Below W0.heap.size W0 y := c3.trans (hby.mono c3.size)
                            obtain ⟨ua, un, uc, rfl⟩ := prO_slice hpr
                            go_wp2_with fail
                            refine planPost_mk ⟨⟨_, b4⟩, rfl⟩ ?_
                            rw [wpPlan3_takes_cons]; simp only [nth_zero, nth_succ]; go_big_quiet_step (fail); try (with_reducible refine wpQuiet_nil ?_)
                            rw [wpPlan3_takes_nil]
                            rw [wpPlan3_one]
                            simp only [nth_zero, nth_succ]
                            go_wp2_with fail
                            refine planPost_mk ⟨⟨_, b4.trans ((below_new _ _).mono b4.size)⟩, rfl⟩ ?_
                            -- order 5
                            rw [wpPlan3_leaf]
                            simp only [List.drop_succ_cons, List.drop_zero]
                            obtain ⟨z, hS, hRz, hF, hBz⟩ := dc_fin4 hN0 c3 HO3.out hpr hby HI64.out HCH.out
                            simp only [svV, slV, sn0] at hS
                            have HDz := Lib.hid (HD0.out.below hBz)
                            have HRz := Lib.hid hRz
                            have HFz := Lib.hid hF
                            rw [← HSN.out] at HFz
                            clear hRz hF hBz
                            go_wp2_with fail
                            go_meet
                            exact ⟨_, _, _, _, _, _, _, _, rfl, HDz, HRz, HFz⟩
                          · simp only [nth_zero, nth_succ]
                            go_wp2_with fail
                            try rw [hVq]
                            refine planPost_mk ⟨⟨_, c4⟩, rfl⟩ ?_
                            rw [wpPlan3_one]
                            simp only [nth_zero, nth_succ]
                            go_wp2_with fail
                            go_at_call 36
                            refine (HP.out _ c4).mono ?_
                            rintro e y ⟨u, rfl, hpr, hby⟩
                            have b4 : Below W0.heap.size W0 y := c4.trans (hby.mono c4.size)
                            obtain ⟨ua, un, uc, rfl⟩ := prO_slice hpr
                            go_wp2_with fail
                            refine planPost_mk ⟨⟨_, b4⟩, rfl⟩ ?_
                            rw [wpPlan3_takes_cons]; simp only [nth_zero, nth_succ]; go_big_quiet_step (fail); try (with_reducible refine wpQuiet_nil ?_)
                            rw [wpPlan3_takes_nil]
                            -- order 6
                            rw [wpPlan3_leaf]
                            simp only [List.drop_succ_cons, List.drop_zero]
                            obtain ⟨z, hS, hRz, hF, hBz⟩ := dc_fin (C := C3) hN0 c4 (by first | exact hC3b | (rw [hC0]; omega)) RC.out HO4.out hpr hby HI64.out HCH.out
                            simp only [svV, slV] at hS
                            have HDz := Lib.hid (HD0.out.below hBz)
                            have HRz := Lib.hid hRz
                            have HFz := Lib.hid hF
                            rw [← HSN.out] at HFz
                            clear hRz hF hBz
                            go_wp2_with fail
                            go_meet
                            exact ⟨_, _, _, _, _, _, _, _, rfl, HDz, HRz, HFz⟩
                        · simp only [nth_zero, nth_succ]
                          go_wp2_with fail
                          try rw [hVm]
                          refine planPost_mk ⟨⟨_, bVm⟩, rfl⟩ ?_
                          rw [wpPlan3_one]
                          simp only [nth_zero, nth_succ]
                          refine wpList_append_run (.tmp 81) (.tmp 89) 31 rfl rfl _ _ _ rfl rfl HA2.out ?_
                          go_wp2_with fail
                          refine planPost_mk ⟨⟨_, c2⟩, rfl⟩ ?_
                          rw [wpPlan3_one]
                          simp only [nth_zero, nth_succ]
                          go_wp2_with fail
                          go_at_call 36
                          refine (HP.out _ c2).mono ?_
                          rintro e y ⟨u, rfl, hpr, hby⟩
                          have b4 : Below W0.heap.size W0 y := c2.trans (hby.mono c2.size)
                          obtain ⟨ua, un, uc, rfl⟩ := prO_slice hpr
                          go_wp2_with fail
                          refine planPost_mk ⟨⟨_, b4⟩, rfl⟩ ?_
                          rw [wpPlan3_takes_cons]; simp only [nth_zero, nth_succ]; go_big_quiet_step (fail); try (with_reducible refine wpQuiet_nil ?_)
                          rw [wpPlan3_takes_nil]
                          -- order 7
                          rw [wpPlan3_leaf]
                          simp only [List.drop_succ_cons, List.drop_zero]
                          obtain ⟨z, hS, hRz, hF, hBz⟩ := dc_fin (C := (C0 + 1)) hN0 c2 (by first | exact hC3b | (rw [hC0]; omega)) RB.out HO2.out hpr hby HI64.out HCH.out
                          simp only [svV, slV] at hS
                          have HDz := Lib.hid (HD0.out.below hBz)
                          have HRz := Lib.hid hRz
                          have HFz := Lib.hid hF
                          rw [← HSN.out] at HFz
                          clear hRz hF hBz
                          go_wp2_with fail
                          go_meet
                          exact ⟨_, _, _, _, _, _, _, _, rfl, HDz, HRz, HFz⟩
                      · simp only [nth_zero, nth_succ]
                        go_wp2_with fail
                        try rw [hVm]
                        refine planPost_mk ⟨⟨_, bVm⟩, rfl⟩ ?_
                        rw [wpPlan3_one]
                        simp only [nth_zero, nth_succ]
                        go_wp2_with fail
                        go_at_call 35
                        refine (HGt.out _ bVm).mono ?_
                        rintro e xg ⟨rfl, hxg⟩
                        rw [hxg]
                        clear hxg
                        go_wp2_with fail
                        refine planPost_mk ⟨⟨_, bVm⟩, rfl⟩ ?_
                        rw [wpPlan3_takes_cons]; simp only [nth_zero, nth_succ]; go_big_quiet_step (fail); try (with_reducible refine wpQuiet_nil ?_)
                        rw [wpPlan3_takes_nil]
                        rw [wpPlan3_one]
                        simp only [nth_zero, nth_succ]
                        refine wpList_append_run (.tmp 81) (.tmp 89) 31 rfl rfl _ _ _ rfl rfl HA2.out ?_
                        go_wp2_with fail
                        refine planPost_mk ⟨⟨_, c2⟩, rfl⟩ ?_
                        rw [wpPlan3_one]
                        simp only [nth_zero, nth_succ]
                        go_wp2_with fail
                        go_at_call 36
                        refine (HP.out _ c2).mono ?_
                        rintro e y ⟨u, rfl, hpr, hby⟩
                        have b4 : Below W0.heap.size W0 y := c2.trans (hby.mono c2.size)
                        obtain ⟨ua, un, uc, rfl⟩ := prO_slice hpr
                        go_wp2_with fail
                        refine planPost_mk ⟨⟨_, b4⟩, rfl⟩ ?_
                        rw [wpPlan3_takes_cons]; simp only [nth_zero, nth_succ]; go_big_quiet_step (fail); try (with_reducible refine wpQuiet_nil ?_)
                        rw [wpPlan3_takes_nil]
                        -- order 8
                        rw [wpPlan3_leaf]
                        simp only [List.drop_succ_cons, List.drop_zero]
                        obtain ⟨z, hS, hRz, hF, hBz⟩ := dc_fin (C := (C0 + 1)) hN0 c2 (by first | exact hC3b | (rw [hC0]; omega)) RB.out HO2.out hpr hby HI64.out HCH.out
                        simp only [svV, slV] at hS
                        have HDz := Lib.hid (HD0.out.below hBz)
                        have HRz := Lib.hid hRz
                        have HFz := Lib.hid hF
                        rw [← HSN.out] at HFz
                        clear hRz hF hBz
                        go_wp2_with fail
                        go_meet
                        exact ⟨_, _, _, _, _, _, _, _, rfl, HDz, HRz, HFz⟩
                    · simp only [nth_zero, nth_succ]
                      go_wp2_with fail
                      try rw [hVa]
                      refine planPost_mk ⟨⟨_, bVa⟩, rfl⟩ ?_
                      rw [wpPlan3_two]
                      refine ⟨?_, ?_⟩
                      · simp only [nth_zero, nth_succ]
                        go_wp2_with fail
                        go_at_call 35
                        refine (HGt.out _ bVa).mono ?_
                        rintro e xg ⟨rfl, hxg⟩
                        rw [hxg]
                        clear hxg
                        go_wp2_with fail
                        refine planPost_mk ⟨⟨_, bVa⟩, rfl⟩ ?_
                        rw [wpPlan3_takes_cons]; simp only [nth_zero, nth_succ]; go_big_quiet_step (fail); try (with_reducible refine wpQuiet_nil ?_)
                        rw [wpPlan3_takes_nil]
                        rw [wpPlan3_one]
                        simp only [nth_zero, nth_succ]
                        go_wp2_with fail
                        try rw [hVb]
                        refine planPost_mk ⟨⟨_, bVb⟩, rfl⟩ ?_
                        rw [wpPlan3_one]
                        simp only [nth_zero, nth_succ]
                        refine wpList_append_run (.tmp 81) (.tmp 89) 31 rfl rfl _ _ _ rfl rfl HA1.out ?_
                        go_wp2_with fail
                        refine planPost_mk ⟨⟨_, c1⟩, rfl⟩ ?_
                        rw [wpPlan3_one]
                        simp only [nth_zero, nth_succ]
                        go_wp2_with fail
                        go_at_call 36
                        refine (HP.out _ c1).mono ?_
                        rintro e y ⟨u, rfl, hpr, hby⟩
                        have b4 : Below W0.heap.size W0 y := c1.trans (hby.mono c1.size)
                        obtain ⟨ua, un, uc, rfl⟩ := prO_slice hpr
                        go_wp2_with fail
                        refine planPost_mk ⟨⟨_, b4⟩, rfl⟩ ?_
                        rw [wpPlan3_takes_cons]; simp only [nth_zero, nth_succ]; go_big_quiet_step (fail); try (with_reducible refine wpQuiet_nil ?_)
                        rw [wpPlan3_takes_nil]
                        -- order 9
                        rw [wpPlan3_leaf]
                        simp only [List.drop_succ_cons, List.drop_zero]
                        obtain ⟨z, hS, hRz, hF, hBz⟩ := dc_fin (C := C0) hN0 c1 (by first | exact hC3b | (rw [hC0]; omega)) RA.out HO1.out hpr hby HI64.out HCH.out
                        simp only [svV, slV] at hS
                        have HDz := Lib.hid (HD0.out.below hBz)
                        have HRz := Lib.hid hRz
                        have HFz := Lib.hid hF
                        rw [← HSN.out] at HFz
                        clear hRz hF hBz
                        go_wp2_with fail
                        go_meet
                        exact ⟨_, _, _, _, _, _, _, _, rfl, HDz, HRz, HFz⟩
                      · simp only [nth_zero, nth_succ]
                        go_wp2_with fail
                        try rw [hVb]
                        refine planPost_mk ⟨⟨_, bVb⟩, rfl⟩ ?_
                        rw [wpPlan3_one]
                        simp only [nth_zero, nth_succ]
                        go_wp2_with fail
                        go_at_call 35
                        refine (HGt.out _ bVb).mono ?_
                        rintro e xg ⟨rfl, hxg⟩
                        rw [hxg]
                        clear hxg
                        go_wp2_with fail
                        refine planPost_mk ⟨⟨_, bVb⟩, rfl⟩ ?_
                        rw [wpPlan3_takes_cons]; simp only [nth_zero, nth_succ]; go_big_quiet_step (fail); try (with_reducible refine wpQuiet_nil ?_)
                        rw [wpPlan3_takes_nil]
                        rw [wpPlan3_one]
                        simp only [nth_zero, nth_succ]
                        refine wpList_append_run (.tmp 81) (.tmp 89) 31 rfl rfl _ _ _ rfl rfl HA1.out ?_
                        go_wp2_with fail
                        refine planPost_mk ⟨⟨_, c1⟩, rfl⟩ ?_
                        rw [wpPlan3_one]
                        simp only [nth_zero, nth_succ]
                        go_wp2_with fail
                        go_at_call 36
                        refine (HP.out _ c1).mono ?_
                        rintro e y ⟨u, rfl, hpr, hby⟩
                        have b4 : Below W0.heap.size W0 y := c1.trans (hby.mono c1.size)
                        obtain ⟨ua, un, uc, rfl⟩ := prO_slice hpr
                        go_wp2_with fail
                        refine planPost_mk ⟨⟨_, b4⟩, rfl⟩ ?_
                        rw [wpPlan3_takes_cons]; simp only [nth_zero, nth_succ]; go_big_quiet_step (fail); try (with_reducible refine wpQuiet_nil ?_)
                        rw [wpPlan3_takes_nil]
                        -- order 10
                        rw [wpPlan3_leaf]
                        simp only [List.drop_succ_cons, List.drop_zero]
                        obtain ⟨z, hS, hRz, hF, hBz⟩ := dc_fin (C := C0) hN0 c1 (by first | exact hC3b | (rw [hC0]; omega)) RA.out HO1.out hpr hby HI64.out HCH.out
                        simp only [svV, slV] at hS
                        have HDz := Lib.hid (HD0.out.below hBz)
                        have HRz := Lib.hid hRz
                        have HFz := Lib.hid hF
                        rw [← HSN.out] at HFz
                        clear hRz hF hBz
                        go_wp2_with fail
                        go_meet
                        exact ⟨_, _, _, _, _, _, _, _, rfl, HDz, HRz, HFz⟩
                    -- orders>
                case rest =>
                  as_aux_lemma =>
                    obtain ⟨C, qi, qa, qn, qc, ta, tn, tc, rfl, HDW, HRW, HFW⟩ := hcut
                    have ct4 : wc.cell? ⟨vb, vo + 4, none⟩ = some (.int .u8 (u4 : Int)) := by rw [← HU4.out]; exact HCS.out wc HDW.out.be 4 (by omega)
                    have HNX : Hid (((g.at (j + 1) : Nat) : Int) = (A : Int) + (4 + (K9 : Int) + (g.b : Int))) := by
                      show _ = _
                      rw [HAT.out.nx]
                      have e := HK9.out
                      unfold SG.step
                      omega
                    have HU4N : Hid ((bs[4]?.getD 0).toNat = u4) := by show _ = _; rw [HU4.out]; exact Int.toNat_natCast u4
                    have hu48 := HU48.out
                    have LD := load_snC HRW.out
                    simp only [svV, slV] at LD
                    clear HSub HGt HP HX HXL HCH HC1 HC2 HC3 HSN HI64 HA1 HA2 HA3 HO1 HO2 HO3 HO4 HB1 HB2 HB3 HB4 RA RB RC HD0 HD hAl hN0 hAA hA0 hW0 hC0 hVa hVb hVl hVm hVq hC3 sVa sVl bR bVa bVl cVb cVm bVb bVm cVq c1 c2 c3 c4 hC3b gb0 hi0 hi1
                    by_cases hin : j < u4
                    · skip
                      have q2 : (j : Int) < (u4 : Int) := by omega
                      have HSK : Hid (snK g bs (j + 1) = snK g bs j ++ [sSnapR g (seg bs A g.step)]) := by show _ = _; rw [← HAT.out.is]; exact snK_in g (by rw [HU4N.out]; exact hin)
                      have k1 := HDW.out.ge.cell 1 _ rfl
                      have S1 := slice_sn1 wc (qi, (qa, qn, qc), (ta, tn, tc))
                      obtain ⟨v3, y3, hA, O3, hg3⟩ := sn_append HDW.out.ss HDW.out.n3 HFW.out (by unfold snK; rw [List.length_map, List.length_range]; have := Nat.min_le_left j (bs[4]?.getD 0).toNat; omega)
                      rw [← HSK.out] at O3
                      obtain ⟨⟨s3x, s3n, s3c⟩, rfl⟩ : ∃ q : SlV, v3 = slV q := by obtain ⟨r, -, h, -⟩ := O3; obtain ⟨q, e, -⟩ := own_slV h; exact ⟨q, e⟩
                      have hEg := HDW.out.ge.grown hg3 (HDW.out.ss.ne HDW.out.ge (by decide))
                      have hdn : InO N y3 (slV (x, n, c)) (dirtK g bs g.slots) := by
                        obtain ⟨r, -, h, -⟩ := HDW.out.ss
                        exact World.ownsRow.kept HDW.out.dd hg3 (rows_ne HDW.out.dd h (by decide))
                      have f0 := hEg.frozen 1
                      have e0 := hEg.cell 1 _ rfl
                      obtain ⟨Y3, hY3⟩ : ∃ Y, y3.setCell ⟨E, 1, none⟩ (slV (s3x, s3n, s3c)) = Y := ⟨_, rfl⟩
                      have I3 : Hid (DcI B E N [.int .i64 (g.b : Int), .int .i64 (g.s : Int), .int .i64 (g.y : Int), .int .i64 (g.a : Int), .int .i64 r] w ⟨(x, n, c), (s3x, s3n, s3c), n0, (u5 : Int), n1, (none, 0, 0)⟩ (dirtK g bs g.slots) (snK g bs (j + 1)) Y3) := by
                        show DcI _ _ _ _ _ _ _ _ _
                        rw [← hY3]
                        exact HDW.out.put hg3 (fun j e => (HDW.out.ss.base j e).1) 1 _ rfl (own_setB hdn hEg (by decide) 1 _) (O3.low (grownBy_setCellJ y3 E 1 _) (fun j e => by cases e; exact hEN))
                      have gb1 := I3.out.g0.cell 0 _ rfl
                      obtain ⟨Y2, hY2⟩ : ∃ Z, wc.alloc (.cells (svL (qi, (qa, qn, qc), (ta, tn, tc))).toArray 51) = Z := ⟨_, rfl⟩
                      rw [hY2] at hA S1
                      have HA := Lib.hid hA
                      have HS1 := Lib.hid S1
                      simp only [svV, slV] at HA HS1 e0 k1 hY3
                      clear hA S1 hY2 O3 hg3 hEg hdn hin
                      go_wp2_with (first | (with_reducible refine gate_build ?_; refine wpList_build_run 25 1 #[(0, .tmp 114)] rfl rfl [(0, .agg #[.int .i64 qi, .slice qa qn qc, .slice ta tn tc])] _ rfl HS1.out ?_) | (at_builtin; refine wpList_append_run (.tmp 113) (.tmp 115) 25 rfl rfl _ _ _ rfl rfl (HA.out _) ?_))
                      exact ⟨⟨j + 1, s3x, s3n, s3c, HLT.out, by simp, by rw [HNX.out], I3⟩, by have := HLT.out; simp [intOf]; omega⟩
                    · skip
                      have q2 : ¬ (j : Int) < (u4 : Int) := by omega
                      have q3 : decide (j < u4) = false := by simpa using hin
                      have HSK : Hid (snK g bs (j + 1) = snK g bs j) := snK_out g (by rw [HU4N.out]; omega)
                      have I3 : Hid (DcI B E N [.int .i64 (g.b : Int), .int .i64 (g.s : Int), .int .i64 (g.y : Int), .int .i64 (g.a : Int), .int .i64 r] w ⟨(x, n, c), (sx, sn, sc), n0, (u5 : Int), n1, (none, 0, 0)⟩ (dirtK g bs g.slots) (snK g bs (j + 1)) wc) := by rw [HSK.out]; exact HDW
                      have gb1 := I3.out.g0.cell 0 _ rfl
                      clear hin LD
                      go_wp2_with fail
                      exact ⟨⟨j + 1, sx, sn, sc, HLT.out, by simp, by rw [HNX.out], I3⟩, by have := HLT.out; simp [intOf]; omega⟩
              · obtain rfl : j = 8 := by omega
                as_aux_lemma =>
                  obtain ⟨A8, hA8⟩ : ∃ A, g.at 8 = A := ⟨_, rfl⟩
                  have HEN8 : Hid (A8 + g.b = vn) := by show _ = _; rw [← hA8, HVN.out, HLE.out]; exact g.at_end
                  rw [hA8]
                  have HPI : Hid (sParse g bs = ⟨dirtK g bs g.slots, snK g bs 8, n0, (u5 : Int), n1, prFrom 0 (bs.drop A8)⟩) := by
                    show _ = _
                    rw [parse_is g HLE.out (by rw [HU4.out]; have := HU48.out; omega), hA8, HN0E.out, HN1E.out, hu5]
                  have HLN : Hid (Lens 1000 (snK g bs 8) ∧ (prFrom 0 (bs.drop A8)).length ≤ 1000) := by
                    have h := pParse_lens HGK.out bs
                    rw [hA8, seg_all (by rw [← HVN.out]; exact HEN8.out.symm)] at h
                    exact h
                  have hgb1 := HGK.out.b1
                  have HCL := Lib.hid (cut_lo (b := vb) (o := vo) (n := vn) (c := vc) (K := A8) (m := g.b) HEN8.out HVC1.out hgb1)
                  have HCT := HCL
                  rw [hlen] at HCT
                  have HSL : Hid (Sl .u8 wr (.slice (some ⟨vb, vo + A8, none⟩) g.b (vc - A8)) (bs.drop A8)) := by
                    have hl : (bs.drop A8).length = g.b := by rw [List.length_drop, ← HVN.out]; have := HEN8.out; omega
                    have S := Sl.at (k := .u8) (w := wr) (b := vb) (off := vo + A8) (cap := vc - A8) (bs := bs.drop A8) (by rw [hl]; have := HVC1.out; have := HEN8.out; omega) (by have := HVC2.out; omega) (Nat.lt_of_lt_of_le hvb HD.out.be.size) (fun j hj => by
                      rw [hl] at hj
                      have := HCS.out wr HD.out.be (A8 + j) (by have := HEN8.out; omega)
                      rw [← Nat.add_assoc] at this
                      rw [this, List.getElem?_drop])
                    rw [hl] at S
                    exact S
                  have HBD : Hid (IsBytes (bs.drop A8)) := isB_drop HBt.out A8
                  have HP := Lib.hid (rf14_pairs HSL.out HBD.out (by rw [List.length_drop, ← HVN.out]; omega))
                  clear hlt hA8
                  go_wp2_with ((with_reducible refine gate_slice 125 ?_); refine wpList_slice_run (.tmp 125) 31 (some (.tmp 126)) none rfl rfl _ _ _ _ rfl rfl rfl (HCT.out _) ?_)
                  go_at_call 36
                  refine HP.out.mono ?_
                  rintro e y ⟨u, rfl, hpr, hby⟩
                  obtain ⟨pa, pn, pc, rfl⟩ := prO_slice hpr
                  have J3 := HD.out.below hby
                  have e0 := J3.ge.cell 5 _ rfl
                  have f0 := J3.ge.frozen 5
                  obtain ⟨Z4, hZ4⟩ : ∃ Z, y.setCell ⟨E, 5, none⟩ (.slice pa pn pc) = Z := ⟨_, rfl⟩
                  have I4 : Hid (DcI B E N [.int .i64 (g.b : Int), .int .i64 (g.s : Int), .int .i64 (g.y : Int), .int .i64 (g.a : Int), .int .i64 r] w ⟨(x, n, c), (sx, sn, sc), n0, (u5 : Int), n1, (pa, pn, pc)⟩ (dirtK g bs g.slots) (snK g bs 8) Z4) := by
                    show DcI _ _ _ _ _ _ _ _ _
                    rw [← hZ4]
                    exact J3.put (World.grownBy.refl y none) (fun j e => by cases e) 5 _ rfl (own_setB J3.dd J3.ge (by decide) 5 _) (J3.ss.low (grownBy_setCellJ y E 5 _) (fun j e => by cases e; exact hEN))
                  have P4 : Hid (PrO N Z4 (.slice pa pn pc) (prFrom 0 (bs.drop A8))) := by
                    show PrO _ _ _ _
                    rw [← hZ4]
                    exact (hpr.weak HD.out.n3).low (grownBy_setCellJ y E 5 _) (fun j e => by cases e; exact hEN)
                  have k0 := I4.out.g0.cell 0 _ rfl
                  have k1 := I4.out.g0.cell 1 _ rfl
                  have k2 := I4.out.g0.cell 2 _ rfl
                  have k3 := I4.out.g0.cell 3 _ rfl
                  have k4 := I4.out.g0.cell 4 _ rfl
                  have LS := load_stC I4.out.ge
                  have HENC := Lib.hid (rf14_encode (w := Z4) (q := ⟨(x, n, c), (sx, sn, sc), n0, (u5 : Int), n1, (pa, pn, pc)⟩) g HGK.out r HGR.out (sl_numI I4.out.dd) ⟨I4.out.ss.snp, P4.out.prt⟩ HLN.out.1 HLN.out.2)
                  rw [← HPI.out] at HENC
                  simp only [SG.v, stV, stL, slV] at HENC LS
                  simp only [slV] at e0
                  clear J3 hpr hby HP HSL HBD HCL
                  go_wp2_with fail
                  refine HENC.out.mono ?_
                  rintro e y5 ⟨u, ec, rfl, hE, hb5⟩
                  have HE := Lib.hid hE
                  have HB5 := Lib.hid hb5
                  clear hE hb5 k0 k1 k2 k3 k4 LS e0 f0 hZ4 HENC
                  have HSN4 : Hid (w.heap.size ≤ N) := by show _ ≤ _; rw [hB]; exact HNB.out
                  cases hgd : sGood g (sParse g bs) with
                  | false =>
                    obtain ⟨rfl, rfl⟩ := HE.out.2 hgd
                    have HN : Hid (sDec g bs = none) := by
                      show _ = _
                      unfold sDec
                      rw [if_neg]
                      intro h
                      rw [hgd] at h
                      exact absurd h.2.2.1 (by decide)
                    have I5 := I4.out.below HB5.out
                    obtain ⟨z, hS, hRz, hgz⟩ := store_stC noQ I5.g1 rfl
                    have HZZ : Hid (Below B w z) := I5.be.grown hgz (by have := I5.g0.lt; omega) (fun j e => by cases e; exact Nat.le_succ B)
                    have LZ := Lib.hid (load_stC hRz)
                    simp only [stV, stL, slV, noQ] at hS
                    clear hRz hgz hgd HE I5 I4 P4
                    go_wp2_with fail
                    exact bodyPost_ret (results_cell2 rfl rfl LZ.out) rfl ⟨noQ, 11, rfl, decR_none HN.out _ _, HZZ.out⟩
                  | true =>
                    obtain ⟨rfl, hown⟩ := HE.out.1 hgd
                    obtain ⟨ua, uc, rfl, -⟩ := row_lenT hown
                    have I5 := I4.out.below HB5.out
                    have hk1 := conv_sl (Sl.of_owns hown)
                    have hk2 := conv_sl (HV.out y5 I5.be)
                    rw [hlen] at hk2
                    obtain ⟨L9, hL9⟩ : ∃ L, (sEnc g (sParse g bs)).length = L := ⟨_, rfl⟩
                    rw [hL9] at hk1 ⊢
                    clear hL9
                    obtain ⟨z, hS, hRz, hgz⟩ := store_stC ⟨(x, n, c), (sx, sn, sc), n0, (u5 : Int), n1, (pa, pn, pc)⟩ I5.g1 rfl
                    obtain ⟨z', hS', hRz', hgz'⟩ := store_stC noQ I5.g1 rfl
                    have LS5 := load_stC I5.ge
                    have hby := enc_byt HGK.out hgd (fun t ht => by
                      rw [HPI.out] at ht
                      exact (I4.out.ss.snp.ok t ht).ch)
                    by_cases heq : sEnc g (sParse g bs) = bs
                    · rw [heq] at hk1
                      have HDS : Hid (sDec g bs = some (sParse g bs)) := by
                        show _ = _
                        unfold sDec
                        rw [if_pos ⟨HLE.out, by rw [HU4.out]; have := HU48.out; omega, hgd, heq⟩]
                      have HZZ : Hid (Below B w z) := I5.be.grown hgz (by have := I5.g0.lt; omega) (fun j e => by cases e; exact Nat.le_succ B)
                      have LZ := Lib.hid (load_stC hRz)
                      have lowB : ∀ j, some (B + 1) = some j → j < N := fun j e => by cases e; have := I5.n1; have := I5.n2; omega
                      have FD : Hid (InO w.heap.size z (slV (x, n, c)) (dirtK g bs g.slots)) := own_weak (I5.dd.low hgz lowB) HSN4.out
                      have FS : Hid (SnO w.heap.size z (slV (sx, sn, sc)) (snK g bs 8)) := by
                        obtain ⟨r, h1, h2, h3⟩ := I5.ss.low hgz lowB
                        exact ⟨r, h1, own_weak h2 HSN4.out, fun j q s a b => (h3 j q s a b).weak HSN4.out⟩
                      have FP : Hid (PrO w.heap.size z (slV (pa, pn, pc)) (prFrom 0 (bs.drop A8))) := ((P4.out.below HB5.out).low hgz lowB).weak HSN4.out
                      simp only [stV, stL, slV] at hS LS5
                      clear hRz hgz hRz' hgz' hS' hgd HE I5 I4 P4 lowB heq hown hby
                      go_wp2_with fail
                      refine bodyPost_ret (results_cell2 rfl rfl LZ.out) rfl ⟨⟨(x, n, c), (sx, sn, sc), n0, (u5 : Int), n1, (pa, pn, pc)⟩, 0, rfl, ?_, HZZ.out⟩
                      unfold DecR
                      rw [HDS.out, HPI.out]
                      first | exact ⟨rfl, rfl, rfl, rfl, FD.out, FS.out, FP.out⟩ | (rw [← hB]; exact ⟨rfl, rfl, rfl, rfl, FD.out, FS.out, FP.out⟩) | (rw [hB] at FD FS FP; exact ⟨rfl, rfl, rfl, rfl, FD.out, FS.out, FP.out⟩)
                    · have HN : Hid (sDec g bs = none) := by
                        show _ = _
                        unfold sDec
                        rw [if_neg]
                        intro h
                        exact heq h.2.2.2
                      have hne : ((strOfNums (sEnc g (sParse g bs))).toList == (strOfNums bs).toList) = false := by
                        refine beq_eq_false_iff_ne.2 fun e => heq (strQ_inj hby HBt.out ?_)
                        rw [Lib.strOfNums_toList, Lib.strOfNums_toList] at e
                        unfold strOfNums
                        rw [show ((sEnc g (sParse g bs)).map fun n => UInt8.ofNat n.toNat) = bs.map fun n => UInt8.ofNat n.toNat from e]
                      obtain ⟨s1, hs1⟩ : ∃ s, strOfNums (sEnc g (sParse g bs)) = s := ⟨_, rfl⟩
                      obtain ⟨s2, hs2⟩ : ∃ s, strOfNums bs = s := ⟨_, rfl⟩
                      rw [hs1] at hk1 hne
                      rw [hs2] at hk2 hne
                      have hne2 : ¬ s1.toList = s2.toList := beq_eq_false_iff_ne.1 hne
                      have hne3 : (s1.toList != s2.toList) = true := by rw [bne, hne]; rfl
                      have HZZ : Hid (Below B w z') := I5.be.grown hgz' (by have := I5.g0.lt; omega) (fun j e => by cases e; exact Nat.le_succ B)
                      have LZ := Lib.hid (load_stC hRz')
                      simp only [stV, stL, slV, noQ] at hS'
                      clear hRz hgz hRz' hgz' hS hgd HE I5 I4 P4 heq hown hby LS5 hs1 hs2
                      go_wp2_with fail
                      exact bodyPost_ret (results_cell2 rfl rfl LZ.out) rfl ⟨noQ, 11, rfl, decR_none HN.out _ _, HZZ.out⟩
  · have q1 : ((vn : Int) != (T : Int)) = true := by simp; omega
    have HN : Hid (sDec g bs = none) := by
      show _ = _
      unfold sDec
      rw [if_neg]
      intro h
      have := h.1
      rw [← HVN.out, HT.out] at this
      exact hlen this
    clear hlen
    go_wp2_with fail
    exact bodyPost_ret (results_cell2 rfl rfl (load_stC HRq.out)) rfl ⟨noQ, 11, rfl, decR_none HN.out _ _, HQ5.out⟩
end Go.Proofs.YtfihpljgbghogaaGreat

/- For StateCodes: the document's calls, and both together, whatever the sizes. -/
namespace Go.Proofs.YtfihpljgbghogaaGreat
open Go.RowKit
set_option linter.unusedVariables false
set_option linter.unusedSimpArgs false
attribute [-simp] Tryz.isAgg51 Tryz.zeroValue51 Tryz.isAgg54 Tryz.zeroValue54 Tryz.isAgg30 Tryz.zeroValue30
attribute [-go_sem] loadVar storeVar
attribute [local go_sem] loadVar_openQ storeVar_openQ zero_sn zero_prs zero_st build_sn build_sn2 build_sn1
set_option maxRecDepth 100000 in
set_option maxHeartbeats 4000000 in
theorem rf14_encodeN {w : World} {q : PS} (G : Geo) (hb : ¬ G.good) :
    Calls Tryz.prog 8 #[.agg G.v, stV q] w fun e w' => e = .returned (.tuple #[.slice none 0 0, .int .i64 11]) ∧ Below w.heap.size w w' := by
  have HG : Hid (∀ x : World, Calls Tryz.prog 14 #[.agg G.v, stV q] x fun e w' => e = .returned (.bool false) ∧ Below x.heap.size x w') := fun x => rf14_goodN G hb
  obtain ⟨⟨qd, qdn, qdc⟩, ⟨qs, qsn, qsc⟩, nx, kd, id, ⟨qp, qpn, qpc⟩⟩ := q
  simp only [stV, stL, slV] at *
  obtain ⟨gb, gs, gy, ga, gr⟩ := G
  clear hb
  unfold Geo.v at *
  simp only at *
  obtain ⟨B, hB⟩ : ∃ B, w.heap.size = B := ⟨_, rfl⟩
  obtain ⟨W1, hW1⟩ : ∃ W, w.alloc (.cells #[.int .i64 gb, .int .i64 gs, .int .i64 gy, .int .i64 ga, .int .i64 gr] 23) = W := ⟨_, rfl⟩
  obtain ⟨W2, hW2⟩ : ∃ W, W1.alloc (.cells #[.slice qd qdn qdc, .slice qs qsn qsc, .int .i64 nx, .int .i64 kd, .int .i64 id, .slice qp qpn qpc] 30) = W := ⟨_, rfl⟩
  have s1 : W1.heap.size = B + 1 := by rw [← hW1, ← hB]; simp
  have r1 : RowC W1 B 23 [.int .i64 gb, .int .i64 gs, .int .i64 gy, .int .i64 ga, .int .i64 gr] := by rw [← hW1, ← hB]; exact RowC.new _ _ _
  have r2 : RowC W2 (B + 1) 30 (stL ⟨(qd, qdn, qdc), (qs, qsn, qsc), nx, kd, id, (qp, qpn, qpc)⟩) := by rw [← hW2, ← s1]; exact RowC.new _ _ _
  have b1 : Below B w W1 := by rw [← hW1, ← hB]; exact below_new _ _
  have b2 : Below W1.heap.size W1 W2 := by rw [← hW2]; exact below_new _ _
  have HB : Hid (Below B w W2) := b1.trans (b2.mono (by omega))
  have t1 := r1.below b2
  have k0 := t1.cell 0 _ rfl
  have k1 := t1.cell 1 _ rfl
  have k2 := t1.cell 2 _ rfl
  have k3 := t1.cell 3 _ rfl
  have k4 := t1.cell 4 _ rfl
  have LS := load_stC r2
  simp only [stV, stL, slV] at LS
  have HS2 : Hid (B ≤ W2.heap.size) := by show B ≤ _; rw [← hB]; exact HB.out.size
  have HSZ := Lib.hid hB
  clear r1 b1 b2 t1 r2
  go_enter Tryz.func8, Tryz.ntmps8
  go_wp2_with fail
  refine (HG.out W2).mono ?_
  rintro e y ⟨rfl, hy⟩
  have HY : Hid (Below B w y) := HB.out.trans (hy.mono HS2.out)
  clear hy LS k0 k1 k2 k3 k4
  go_wp2_with fail
  refine bodyPost_ret (results_tmp2 rfl _ _ _) rfl ?_
  exact ⟨rfl, by rw [HSZ.out]; exact HY.out⟩
set_option maxRecDepth 100000 in
/-- Both encoders alike. -/
theorem ge_rencode {w : World} {q : PS} {d : List Int} {l : List SN} {ps : List (Int × Int)} (G : Geo) (hi : G.In) (h : StA w q d l ps) (hK : Lens 1000 l) (hp : ps.length ≤ 1000) :
    Calls Tryz.prog 8 #[.agg G.v, stV q] w fun e w' => ∃ u c, e = .returned (.tuple #[u, .int .i64 c]) ∧ ((gGood G ⟨d, l, q.nx, q.kd, q.id, ps⟩ = true → c = 0 ∧ w'.ownsRow w.heap.size 5 1 u (sEnc G.sg ⟨d, l, q.nx, q.kd, q.id, ps⟩).length (u8s (sEnc G.sg ⟨d, l, q.nx, q.kd, q.id, ps⟩))) ∧ (gGood G ⟨d, l, q.nx, q.kd, q.id, ps⟩ = false → c = 11 ∧ u = .slice none 0 0)) ∧ Below w.heap.size w w' := by
  by_cases hg : G.good
  · obtain ⟨ok, e⟩ := Geo.sg_ok hg
    have := rf14_encode G.sg ok G.r (by rw [e]; exact hg) h.dd h.st hK hp
    rw [← SG.geo_v, e] at this
    refine this.mono fun e y ⟨u, c, h1, h2, h3⟩ => ⟨u, c, h1, ?_, h3⟩
    unfold gGood
    rw [decide_eq_true hg, Bool.true_and]
    exact h2
  · refine (rf14_encodeN G hg).mono fun e y hy => ⟨_, _, hy.1, ⟨fun h => absurd (gGood_iff.1 h).1 hg, fun _ => ⟨rfl, rfl⟩⟩, hy.2⟩
set_option maxRecDepth 100000 in
theorem ge_rdecode {w : World} {v : Value} {bs : List Int} (G : Geo) (hv : Sl .u8 w v bs) (hB : IsBytes bs) (hl : bs.length ≤ 100000) :
    Calls Tryz.prog 10 #[.agg G.v, v] w fun e w' => ∃ q c, e = .returned (.tuple #[stV q, .int .i64 c]) ∧ ((∀ s, gDec G bs = some s → c = 0 ∧ q.nx = s.nx ∧ q.kd = s.kd ∧ q.id = s.id ∧ StO w.heap.size w' q s.d s.sn s.pr) ∧ (gDec G bs = none → c = (if G.good then 11 else 1) ∧ q = noQ)) ∧ Below w.heap.size w w' := by
  by_cases hg : G.good
  · obtain ⟨ok, e⟩ := Geo.sg_ok hg
    have := rf14_decode G.sg ok G.r (by rw [e]; exact hg) hv hB hl
    rw [← SG.geo_v, e] at this
    refine this.mono fun e y ⟨q, c, h1, h2, h3⟩ => ⟨q, c, h1, ⟨fun s hs => ?_, fun hn => ?_⟩, h3⟩
    · unfold gDec at hs
      rw [if_pos hg] at hs
      unfold DecR at h2
      rw [hs] at h2
      exact ⟨h2.1, h2.2.1, h2.2.2.1, h2.2.2.2.1, h2.2.2.2.2.1, h2.2.2.2.2.2.1, h2.2.2.2.2.2.2⟩
    · unfold gDec at hn
      rw [if_pos hg] at hn
      unfold DecR at h2
      rw [hn] at h2
      rw [if_pos hg]
      exact h2
  · refine (rf14_decodeN G hg).mono fun e y hy => ⟨noQ, 1, hy.1, ⟨fun s hs => ?_, fun _ => ⟨by rw [if_neg hg], rfl⟩⟩, hy.2⟩
    unfold gDec at hs
    rw [if_neg hg] at hs
    cases hs
/-- First: a state of slots that hold nothing, or nothing at all. -/
def FstR (G : Geo) (N : Nat) (w' : World) (q : PS) (c : Int) : Prop :=
  (G.good → c = 0 ∧ ∃ x, q = ⟨x, (none, 0, 0), 1, 0, 0, (none, 0, 0)⟩ ∧ InO N w' (slV x) (List.replicate G.sg.slots (-1))) ∧ (¬ G.good → c = 1 ∧ q = noQ)
set_option maxRecDepth 100000 in
theorem ge_rfirst {w : World} (G : Geo) :
    Calls Tryz.prog 12 #[.agg G.v] w fun e w' => ∃ q c, e = .returned (.tuple #[stV q, .int .i64 c]) ∧ FstR G w.heap.size w' q c ∧ Below w.heap.size w w' := by
  by_cases hg : G.good
  · obtain ⟨ok, e⟩ := Geo.sg_ok hg
    have := rf14_first (w := w) G.sg ok G.r (by rw [e]; exact hg)
    rw [← SG.geo_v, e] at this
    exact this.mono fun e y ⟨x, n, c, h1, h2, h3⟩ => ⟨_, 0, h1, ⟨fun _ => ⟨rfl, (x, n, c), rfl, h2⟩, fun h => absurd hg h⟩, h3⟩
  · exact (rf14_firstN G hg).mono fun e y hy => ⟨noQ, 1, hy.1, ⟨fun h => absurd h hg, fun _ => ⟨rfl, rfl⟩⟩, hy.2⟩
set_option maxRecDepth 100000 in
theorem ge_first {w : World} (G : Geo) (hi : G.In) :
    Calls Tryz.prog 11 #[.agg G.v] w fun e w' => ∃ q c, e = .returned (.tuple #[stV q, .int .i64 c]) ∧ FstR G w.heap.size w' q c ∧ Below w.heap.size w w' := by
  by_cases hg : G.good
  · obtain ⟨ok, e⟩ := Geo.sg_ok hg
    have := sg_first (w := w) G.sg ok G.r (by rw [e]; exact hi) (by rw [e]; exact hg)
    rw [← SG.geo_v, e] at this
    exact this.mono fun e y ⟨x, n, c, h1, h2, h3⟩ => ⟨_, 0, h1, ⟨fun _ => ⟨rfl, (x, n, c), rfl, h2⟩, fun h => absurd hg h⟩, h3⟩
  · exact (sg_firstN G hi hg).mono fun e y hy => ⟨noQ, 1, hy.1, ⟨fun h => absurd h hg, fun _ => ⟨rfl, rfl⟩⟩, hy.2⟩
end Go.Proofs.YtfihpljgbghogaaGreat

/- For StateCodes: a state that somebody holds, and each call on it, as one. -/
namespace Go.Proofs.YtfihpljgbghogaaGreat
open Go.RowKit
set_option linter.unusedVariables false
theorem wpPlan_twoS {P : Program} {l : List Oper} {Q : Exit → Act → World → Prop} {S : World → Prop} {n i j : Nat} {p q : Plan} {a : Act} {w : World} : wpPlan P l Q S n (.two i j p q) a w = (wpList P l.toArray (planPost S Q (wpPlan P l Q S n p)) [nth l i] a w ∧ wpList P l.toArray (planPost S Q (wpPlan P l Q S n q)) [nth l j] a w) := rfl
theorem plan_haveS {ι : Type} {P : Program} {l : List Oper} {Q : Exit → Act → World → Prop} {S : World → Prop} {n : Nat} {p0 : Plan} {a0 : Act} {x0 : World} (p1 : Plan) (F : ι → Act) (C : ι → World → Prop) (h1 : ∀ i x, C i x → wpPlan P l Q S n p1 (F i) x)
    (h0 : (∀ i x, C i x → wpPlan P l Q S n p1 (F i) x) → wpPlan P l Q S n p0 a0 x0) : wpPlan P l Q S n p0 a0 x0 := h0 h1
theorem go_belowH {A X z : World} (h : Hid (Below A.heap.size A X)) (hz : Below X.heap.size X z) : Below A.heap.size A z := h.out.trans (hz.mono h.out.size)
structure StH (W : World) (q : PS) (s : ST) : Prop where
  a : StA W q s.d s.sn s.pr
  e : (⟨s.d, s.sn, q.nx, q.kd, q.id, s.pr⟩ : ST) = s
  k : Lens 1000 s.sn
  n : s.d.length ≤ 1000
  p : s.pr.length ≤ 1000
theorem StH.below {W W' : World} {q : PS} {s : ST} (h : StH W q s) (hB : Below W.heap.size W W') : StH W' q s := ⟨h.a.below hB, h.e, h.k, h.n, h.p⟩
theorem st_e {q : PS} {s : ST} (h1 : q.nx = s.nx) (h2 : q.kd = s.kd) (h3 : q.id = s.id) : (⟨s.d, s.sn, q.nx, q.kd, q.id, s.pr⟩ : ST) = s := by rw [h1, h2, h3]
theorem st_e' {q : PS} {s : ST} (h : (⟨s.d, s.sn, q.nx, q.kd, q.id, s.pr⟩ : ST) = s) : q.nx = s.nx ∧ q.kd = s.kd ∧ q.id = s.id := ⟨congrArg ST.nx h, congrArg ST.kd h, congrArg ST.id h⟩
set_option maxRecDepth 100000 in
theorem sth_keep {w : World} {q : PS} {s : ST} (h : StH w q s) : Calls Tryz.prog 6 #[stV q] w fun e w' => ∃ q' : PS, e = .returned (stV q') ∧ StH w' q' s ∧ Below w.heap.size w w' := by
  obtain ⟨a1, a2, a3⟩ := st_e' h.e
  refine (keep_state h.a.dd h.a.st h.k (by have := h.n; omega) (by have := h.p; omega)).mono fun e y ⟨q', h1, h2, h3, h4, h5, h6⟩ => ⟨q', h1, ⟨⟨h5.sl, h.a.i6, h5.is⟩, st_e (h2.trans a1) (h3.trans a2) (h4.trans a3), h.k, h.n, h.p⟩, h6⟩
set_option maxRecDepth 100000 in
theorem sth_copy {w : World} {q : PS} {s : ST} (h : StH w q s) : Calls Tryz.prog 17 #[stV q] w fun e w' => ∃ q' : PS, e = .returned (stV q') ∧ StH w' q' s ∧ Below w.heap.size w w' := by
  obtain ⟨a1, a2, a3⟩ := st_e' h.e
  refine (sg_copy h.a.dd h.a.st h.k (by have := h.n; omega) (by have := h.p; omega)).mono fun e y ⟨q', h1, h2, h3, h4, h5, h6⟩ => ⟨q', h1, ⟨⟨h5.sl, h.a.i6, h5.is⟩, st_e (h2.trans a1) (h3.trans a2) (h4.trans a3), h.k, h.n, h.p⟩, h6⟩
set_option maxRecDepth 100000 in
theorem sth_eq {w : World} {q q' : PS} {s : ST} (h : StH w q s) (h' : StH w q' s) : Calls Tryz.prog 16 #[stV q, stV q'] w fun e w' => e = .returned (.bool true) ∧ Below w.heap.size w w' := by
  refine (eqk_states h.a.dd h'.a.dd h.a.st h'.a.st h.k (by have := h.n; omega) (by have := h.p; omega)).mono fun e y ⟨t, h1, h2, h3⟩ => ⟨?_, h3⟩
  rw [h.e, h'.e] at h2
  rw [h1, h2.2 rfl]
set_option maxRecDepth 100000 in
theorem sth_good (G : Geo) (hi : G.In) (s : ST) : ∃ gd : Bool,
    (∀ (x : World) (q : PS), StH x q s → Calls Tryz.prog 13 #[.agg G.v, stV q] x fun e w' => e = .returned (.bool gd) ∧ Below x.heap.size x w') ∧
    (∀ (x : World) (q : PS), StH x q s → Calls Tryz.prog 14 #[.agg G.v, stV q] x fun e w' => e = .returned (.bool gd) ∧ Below x.heap.size x w') := by
  refine ⟨gGood G s, fun x q h => ?_, fun x q h => ?_⟩
  · have := ge_good G hi h.a h.k h.p
    rwa [h.e] at this
  · by_cases hg : G.good
    · obtain ⟨ok, e⟩ := Geo.sg_ok hg
      have := rf14_good G.sg ok G.r (by rw [e]; exact hg) h.a.dd h.a.st h.k h.p
      rw [← SG.geo_v, e, h.e] at this
      exact this.mono fun e y hy => ⟨by rw [hy.1]; unfold gGood; simp [hg], hy.2⟩
    · exact (rf14_goodN G hg).mono fun e y hy => ⟨by rw [hy.1]; unfold gGood; simp [hg], hy.2⟩
set_option maxRecDepth 100000 in
theorem sth_enc (G : Geo) (hi : G.In) (s : ST) : ∃ (er : Int) (bs : List Int),
    (∀ (x : World) (q : PS), StH x q s → IsBytes bs ∧ Calls Tryz.prog 7 #[.agg G.v, stV q] x fun e w' => ∃ (a : Option Addr) (n c : Nat), e = .returned (.tuple #[.slice a n c, .int .i64 er]) ∧ Sl .u8 w' (.slice a n c) bs ∧ Below x.heap.size x w') ∧
    (∀ (x : World) (q : PS), StH x q s → Calls Tryz.prog 8 #[.agg G.v, stV q] x fun e w' => ∃ (a : Option Addr) (n c : Nat), e = .returned (.tuple #[.slice a n c, .int .i64 er]) ∧ Sl .u8 w' (.slice a n c) bs ∧ Below x.heap.size x w') := by
  cases hg : gGood G s with
  | true =>
    refine ⟨0, sEnc G.sg s, fun x q h => ⟨gEnc_byt hg h.a.st.sn.ok, ?_⟩, fun x q h => ?_⟩
    · refine (ge_encode G hi h.a h.k h.p).mono fun e y ⟨u, c, h1, ⟨h2, h3⟩, h4⟩ => ?_
      rw [h.e] at h2
      obtain ⟨rfl, ho⟩ := h2 hg
      obtain ⟨a, cc, e0, h5⟩ := Sl.of_owns ho
      exact ⟨a, _, cc, by rw [h1, e0], ⟨a, cc, rfl, h5⟩, h4⟩
    · refine (ge_rencode G hi h.a h.k h.p).mono fun e y ⟨u, c, h1, ⟨h2, h3⟩, h4⟩ => ?_
      rw [h.e] at h2
      obtain ⟨rfl, ho⟩ := h2 hg
      obtain ⟨a, cc, e0, h5⟩ := Sl.of_owns ho
      exact ⟨a, _, cc, by rw [h1, e0], ⟨a, cc, rfl, h5⟩, h4⟩
  | false =>
    refine ⟨11, [], fun x q h => ⟨isB_of (fun x hx => by cases hx), ?_⟩, fun x q h => ?_⟩
    · refine (ge_encode G hi h.a h.k h.p).mono fun e y ⟨u, c, h1, ⟨h2, h3⟩, h4⟩ => ?_
      rw [h.e] at h3
      obtain ⟨rfl, rfl⟩ := h3 hg
      exact ⟨none, 0, 0, h1, Sl.nil _ _, h4⟩
    · refine (ge_rencode G hi h.a h.k h.p).mono fun e y ⟨u, c, h1, ⟨h2, h3⟩, h4⟩ => ?_
      rw [h.e] at h3
      obtain ⟨rfl, rfl⟩ := h3 hg
      exact ⟨none, 0, 0, h1, Sl.nil _ _, h4⟩
theorem lens_nil : Lens 1000 ([] : List SN) := ⟨Nat.zero_le _, fun s hs => by cases hs⟩
def stZ : ST := ⟨[], [], 0, 0, 0, []⟩
theorem sth_noQ (W : World) : StH W noQ stZ :=
  ⟨⟨Sl.nil _ _, (fun x hx => by cases hx), ⟨(SnO.nil 0 W).snp, (PrO.nil 0 W).prt⟩⟩, rfl, lens_nil, Nat.zero_le _, Nat.zero_le _⟩
set_option maxRecDepth 100000 in
theorem sth_dec (G : Geo) (hi : G.In) (bs : List Int) (hB : IsBytes bs) (hl : bs.length ≤ 100000) : ∃ (cd : Int) (s : ST),
    (∀ (x : World) (v : Value), Sl .u8 x v bs → Calls Tryz.prog 9 #[.agg G.v, v] x fun e w' => ∃ q, e = .returned (.tuple #[stV q, .int .i64 cd]) ∧ StH w' q s ∧ (∀ (W' : World) (j : Nat), j < x.heap.size → w'.grownBy W' (some j) → StH W' q s) ∧ Below x.heap.size x w') ∧
    (∀ (x : World) (v : Value), Sl .u8 x v bs → Calls Tryz.prog 10 #[.agg G.v, v] x fun e w' => ∃ q, e = .returned (.tuple #[stV q, .int .i64 cd]) ∧ StH w' q s ∧ Below x.heap.size x w') := by
  cases hd : gDec G bs with
  | some s =>
    refine ⟨0, s, fun x v hv => ?_, fun x v hv => ?_⟩
    · refine (ge_decode G hi hv hB hl).mono fun e y ⟨q, c, h1, ⟨h2, h3⟩, h4⟩ => ?_
      obtain ⟨rfl, a1, a2, a3, ho⟩ := h2 s hd
      obtain ⟨b1, b2, b3, b4⟩ := ho.stA hB hd
      exact ⟨q, h1, ⟨b1, st_e a1 a2 a3, b2, b4, b3⟩, (fun W' j hj hg => ⟨((ho.low hg (fun i e => by cases e; exact hj)).stA hB hd).1, st_e a1 a2 a3, b2, b4, b3⟩), h4⟩
    · refine (ge_rdecode G hv hB hl).mono fun e y ⟨q, c, h1, ⟨h2, h3⟩, h4⟩ => ?_
      obtain ⟨rfl, a1, a2, a3, ho⟩ := h2 s hd
      obtain ⟨b1, b2, b3, b4⟩ := ho.stA hB hd
      exact ⟨q, h1, ⟨b1, st_e a1 a2 a3, b2, b4, b3⟩, h4⟩
  | none =>
    refine ⟨if G.good then 11 else 1, stZ, fun x v hv => ?_, fun x v hv => ?_⟩
    · refine (ge_decode G hi hv hB hl).mono fun e y ⟨q, c, h1, ⟨h2, h3⟩, h4⟩ => ?_
      obtain ⟨rfl, rfl⟩ := h3 hd
      exact ⟨_, h1, sth_noQ y, (fun W' j hj hg => sth_noQ W'), h4⟩
    · refine (ge_rdecode G hv hB hl).mono fun e y ⟨q, c, h1, ⟨h2, h3⟩, h4⟩ => ?_
      obtain ⟨rfl, rfl⟩ := h3 hd
      exact ⟨_, h1, sth_noQ y, h4⟩
theorem sth_ofF {G : Geo} {N : Nat} {W : World} {q : PS} {c : Int} (h : FstR G N W q c) : ∃ s : ST, (s = if G.good then ⟨List.replicate G.sg.slots (-1), [], 1, 0, 0, []⟩ else stZ) ∧ c = (if G.good then 0 else 1) ∧ StH W q s := by
  by_cases hg : G.good
  · obtain ⟨rfl, x, rfl, ho⟩ := h.1 hg
    refine ⟨⟨List.replicate G.sg.slots (-1), [], 1, 0, 0, []⟩, by rw [if_pos hg], by rw [if_pos hg], ?_⟩
    obtain ⟨ok, -⟩ := Geo.sg_ok hg
    refine ⟨⟨ho.sl, (fun x hx => by rw [List.eq_of_mem_replicate hx]; unfold Is64; omega), ⟨(SnO.nil 0 W).snp, (PrO.nil 0 W).prt⟩⟩, rfl, lens_nil, ?_, Nat.zero_le _⟩
    show (List.replicate G.sg.slots (-1)).length ≤ 1000
    rw [List.length_replicate]
    have := Nat.mul_le_mul ok.s8 ok.y4
    unfold SG.slots
    omega
  · obtain ⟨rfl, rfl⟩ := h.2 hg
    exact ⟨stZ, by rw [if_neg hg], by rw [if_neg hg], sth_noQ W⟩
set_option maxRecDepth 100000 in
theorem sth_first (G : Geo) (hi : G.In) : ∃ (cd : Int) (s : ST),
    (∀ x : World, Calls Tryz.prog 11 #[.agg G.v] x fun e w' => ∃ q, e = .returned (.tuple #[stV q, .int .i64 cd]) ∧ StH w' q s ∧ Below x.heap.size x w') ∧
    (∀ x : World, Calls Tryz.prog 12 #[.agg G.v] x fun e w' => ∃ q, e = .returned (.tuple #[stV q, .int .i64 cd]) ∧ StH w' q s ∧ Below x.heap.size x w') := by
  refine ⟨if G.good then 0 else 1, if G.good then ⟨List.replicate G.sg.slots (-1), [], 1, 0, 0, []⟩ else stZ, fun x => (ge_first G hi).mono fun e y ⟨q, c, h1, h2, h3⟩ => ?_, fun x => (ge_rfirst G).mono fun e y ⟨q, c, h1, h2, h3⟩ => ?_⟩
  · obtain ⟨s, rfl, rfl, h⟩ := sth_ofF h2
    exact ⟨q, h1, h, h3⟩
  · obtain ⟨s, rfl, rfl, h⟩ := sth_ofF h2
    exact ⟨q, h1, h, h3⟩
end Go.Proofs.YtfihpljgbghogaaGreat

