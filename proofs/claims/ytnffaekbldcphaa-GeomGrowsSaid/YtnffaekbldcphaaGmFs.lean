/- The developers' two disks, part by part; the sectors asked of them. -/
import Derived.Test.YtnffaekbldcphaaGmFd
namespace Go.Proofs.Ytnffaekbldcphaa
open Go.RowKit Go.Shelf
set_option linter.unusedVariables false
attribute [-simp] Try.isAgg36 Try.zeroValue36
attribute [-go_sem] loadVar storeVar
theorem loadVar_open7 (t : TypeId) (h : t ≠ 36 ∧ t ≠ 23) (a : Addr) : loadVar t a = (do if ← isAgg t then pure (.agg (← loadCells a (← sizeOf t))) else load a) := rfl
theorem storeVar_open7 (t : TypeId) (h : t ≠ 36 ∧ t ≠ 23) (a : Addr) (v : Value) : storeVar t a v = (do
    if v.cells.size ≠ (← sizeOf t) then stuck "storeVar: the value has not the size of the variable"
    storeCells a v.cells.toList) := rfl
attribute [local go_sem] loadVar_open7 storeVar_open7

/-- How many sectors the parts of the fast disk, of the slow disk, have. -/
def Geo.fcs (g : Geo) : List Int := if g.good then [2, g.r, g.pgs, g.slots] else []
def Geo.wcs (g : Geo) : List Int := if g.good then [g.b, g.a] else []
theorem cnts4 {a b c d : Int} (h1 : 0 ≤ a ∧ a ≤ 1000) (h2 : 0 ≤ b ∧ b ≤ 1000) (h3 : 0 ≤ c ∧ c ≤ 1000) (h4 : 0 ≤ d ∧ d ≤ 1000) : Cnts [a, b, c, d] := ⟨by simp, fun k => by
  unfold ctAt
  match k with
  | 0 => exact h1
  | 1 => exact h2
  | 2 => exact h3
  | 3 => exact h4
  | k + 4 => simp⟩
theorem cnts2 {a b : Int} (h1 : 0 ≤ a ∧ a ≤ 1000) (h2 : 0 ≤ b ∧ b ≤ 1000) : Cnts [a, b] := ⟨by simp, fun k => by
  unfold ctAt
  match k with
  | 0 => exact h1
  | 1 => exact h2
  | k + 2 => simp⟩
theorem cnts0 : Cnts [] := ⟨by simp, fun k => by unfold ctAt; simp⟩
theorem Geo.fcs_ok (g : Geo) : Cnts g.fcs := by
  unfold Geo.fcs
  by_cases hg : g.good
  · rw [if_pos hg]
    obtain ⟨b1, b2, b3, b4, b5, b6⟩ := Geo.bounds hg.1
    have h9 := hg.2.1
    have h10 := hg.2.2
    exact cnts4 (by omega) (by omega) (by omega) (by omega)
  · rw [if_neg hg]; exact cnts0
theorem Geo.wcs_ok (g : Geo) : Cnts g.wcs := by
  unfold Geo.wcs
  by_cases hg : g.good
  · rw [if_pos hg]
    obtain ⟨h1, h2, h3, h4, h5, h6, h7, h8⟩ := hg.1
    exact cnts2 (by omega) (by omega)
  · rw [if_neg hg]; exact cnts0
set_option maxRecDepth 100000 in
theorem laid4 (x y z t : Int) (w : World) : (Instr.buildSlice 44 4 #[(0, .int .i64 x), (1, .int .i64 y), (2, .int .i64 z), (3, .int .i64 t)]).run Try.prog w = .ok (.slice (some ⟨w.heap.size, 0, none⟩) 4 4) (w.alloc (.cells [.int .i64 x, .int .i64 y, .int .i64 z, .int .i64 t].toArray 3)) := by kernel_rfl
set_option maxRecDepth 100000 in
theorem laid2 (x y : Int) (w : World) : (Instr.buildSlice 44 2 #[(0, .int .i64 x), (1, .int .i64 y)]).run Try.prog w = .ok (.slice (some ⟨w.heap.size, 0, none⟩) 2 2) (w.alloc (.cells [.int .i64 x, .int .i64 y].toArray 3)) := by kernel_rfl
set_option maxRecDepth 100000 in
theorem laid_calls (a : Option Addr) (len cap : Nat) (w : World) : Calls Try.prog 33 #[.slice a len cap] w fun e w' => e = .returned (.func (.func 34) #[] #[.pointer (some ⟨w.heap.size, 0, none⟩)]) ∧ w' = w.alloc (.cells #[.slice a len cap] 44) :=
  (callsIn_wide (n := 3)).1 (laid_in Fence.wide 3 trivial rfl a len cap w)
/-- A row of numbers that was laid, and a box of it: parts in memory. -/
theorem laidR_new (w : World) (cs : List Int) : LaidR ((w.alloc (.cells (cs.map (Value.int .i64)).toArray 3)).alloc (.cells #[.slice (some ⟨w.heap.size, 0, none⟩) cs.length cs.length] 44)) (w.alloc (.cells (cs.map (Value.int .i64)).toArray 3)).heap.size cs (some ⟨w.heap.size, 0, none⟩) w.heap.size := by
  obtain ⟨V, hV⟩ : ∃ V, w.alloc (.cells (cs.map (Value.int .i64)).toArray 3) = V := ⟨_, rfl⟩
  have r : RowC V w.heap.size 3 (cs.map (Value.int .i64)) := by rw [← hV]; exact RowC.new w _ _
  rw [hV]
  have r2 := r.below (below_new V (.cells #[.slice (some ⟨w.heap.size, 0, none⟩) cs.length cs.length] 44))
  refine ⟨Boxed.new V _ _, by simp, r2.lt, .inr ⟨rfl, fun j hj => ?_⟩⟩
  rw [Nat.zero_add]
  refine r2.cell j _ ?_
  unfold ctAt
  rw [List.getElem?_map, List.getElem?_eq_getElem hj]
  rfl
theorem laidR_nil (w : World) : LaidR (w.alloc (.cells #[.slice none 0 0] 44)) w.heap.size [] none w.heap.size := ⟨Boxed.new w _ _, by simp, by simp, .inl rfl⟩

section
set_option maxRecDepth 100000
set_option maxHeartbeats 4000000
set_option maxRecDepth 100000 in
theorem gmFastP (g : Geo) (hi : g.In) (w : World) : Calls Try.prog 27 #[.agg g.v] w fun e w' => ∃ Bs a b, e = .returned (.func (.func 34) #[] #[.pointer (some ⟨Bs, 0, none⟩)]) ∧ LaidR w' Bs g.fcs a b ∧ Below w.heap.size w w' := by
  have hmx : Try.prog.follows .mixedOrders = true := by kernel_rfl
  obtain ⟨W, hW⟩ : ∃ W, w.alloc (.cells g.v 23) = W := ⟨_, rfl⟩
  have r : RowC W w.heap.size 23 g.cs := by rw [← hW]; exact RowC.new w _ _
  have HB : Hid (Below w.heap.size w W) := by show Below _ _ _; rw [← hW]; exact below_new w _
  obtain ⟨B, hB⟩ : ∃ b, w.heap.size = b := ⟨_, rfl⟩
  rw [hB] at r
  have L0 := load_geo r
  have HR := Lib.hid r
  have HG := Lib.hid (gmGood g hi W)
  have HP := Lib.hid (fun x => gmPages g hi x)
  have HI := Lib.hid hi
  clear r hi
  by_cases hg : g.good
  · have e : g.fcs = [2, g.r, g.pgs, g.slots] := if_pos hg
    have e2 : g.oP = g.pgs := if_pos hg
    have HS := Lib.hid (fun x => gmSlots g hg.1 x)
    rw [decide_eq_true hg] at HG
    rw [e2] at HP
    rw [e]
    obtain ⟨rr, hrr⟩ : ∃ n, g.r = n := ⟨_, rfl⟩
    obtain ⟨P, hP⟩ : ∃ n, g.pgs = n := ⟨_, rfl⟩
    obtain ⟨M, hM⟩ : ∃ n, g.slots = n := ⟨_, rfl⟩
    rw [hP] at HP
    rw [hM] at HS
    rw [hrr, hP, hM]
    have HRR := Lib.hid hrr
    clear e e2 hg hrr hP hM
    go_enter Try.func27, Try.ntmps27
    go_wp2_with fail
    refine HG.out.mono ?_
    rintro e x ⟨rfl, hb⟩
    have HBX : Hid (Below w.heap.size w x) := HB.out.trans (hb.mono HB.out.size)
    have LG : ∀ z : Ext x, (loadVar 23 ⟨B, 0, none⟩).run Try.prog z.1 = .ok (.agg g.v) z.1 := fun z => load_geo ((HR.out.below hb).below z.2)
    have C4 : ∀ z : Ext x, z.1.cell? ⟨B, 4, none⟩ = some (.int .i64 rr) := fun z => by rw [← HRR.out]; exact ((HR.out.below hb).below z.2).cell 4 _ rfl
    clear hb L0
    go_wp2_with fail
    refine region_plan (fun u => ∃ y : Ext x, u = y.1) 8 (.takes [0, 1, 2, 4] (.one 3 (.one 5 (.one 6 (.one 7 .leaf))))) hmx (by kernel_rfl) (by intro c x v a w h; cases x <;> exact h) ⟨⟨x.drew, (Below.refl _ x).drew⟩, rfl⟩ ?_
    repeat (rw [wpPlan_takes_cons]; simp only [nth_zero, nth_succ]; go_big_quiet_step (fail); refine wpQuiet_nil ?_)
    rw [wpPlan_takes_nil, wpPlan_one]
    simp only [nth_zero, nth_succ]
    have HXD : Hid (Below x.heap.size x x.drew) := (Below.refl _ x).drew
    clear LG C4
    obtain ⟨X, hX⟩ : ∃ X, x.drew = X := ⟨_, rfl⟩
    rw [hX] at HXD ⊢
    clear hX
    go_wp2_with fail
    refine (HP.out _).mono ?_
    rintro e x1 ⟨rfl, hb1⟩
    have HX1 : Hid (Below x.heap.size x x1) := HXD.out.trans (hb1.mono HXD.out.size)
    clear hb1
    go_wp2_with fail
    refine planPost_mk ⟨⟨x1, HX1.out⟩, rfl⟩ ?_
    rw [wpPlan_one]
    simp only [nth_zero, nth_succ]
    go_wp2_with fail
    refine (HS.out _).mono ?_
    rintro e x2 ⟨rfl, hb2⟩
    have HX2 : Hid (Below x.heap.size x x2) := HX1.out.trans (hb2.mono HX1.out.size)
    clear hb2
    go_wp2_with fail
    refine planPost_mk ⟨⟨x2, HX2.out⟩, rfl⟩ ?_
    rw [wpPlan_one]
    simp only [nth_zero, nth_succ]
    have HL := Lib.hid (laidR_new x2 [2, rr, P, M])
    have HBL := Lib.hid (laid4 2 rr P M x2)
    obtain ⟨x3, hx3⟩ : ∃ y, x2.alloc (.cells [.int .i64 2, .int .i64 rr, .int .i64 P, .int .i64 M].toArray 3) = y := ⟨_, rfl⟩
    have HX3 : Hid (Below x.heap.size x x3) := by show Below _ _ _; rw [← hx3]; exact HX2.out.alloc HX2.out.size _
    obtain ⟨N, hN⟩ : ∃ n, x2.heap.size = n := ⟨_, rfl⟩
    have HL : Hid (LaidR (x3.alloc (.cells #[.slice (some ⟨N, 0, none⟩) 4 4] 44)) x3.heap.size [2, rr, P, M] (some ⟨N, 0, none⟩) N) := by show LaidR _ _ _ _ _; rw [← hN, ← hx3]; exact HL.out
    rw [hx3, hN] at HBL
    clear hx3
    refine wpList_build_run _ _ _ rfl rfl [(0, .int .i64 2), (1, .int .i64 rr), (2, .int .i64 P), (3, .int .i64 M)] _ rfl HBL.out ?_
    refine wpList_nil ?_
    refine planPost_mk ⟨⟨x3, HX3.out⟩, rfl⟩ ?_
    rw [wpPlan_one]
    simp only [nth_zero, nth_succ]
    clear hN
    go_wp2_with fail
    refine (laid_calls _ _ _ _).mono ?_
    rintro e x4 ⟨rfl, hx4⟩
    rw [← hx4] at HL
    have HX4 : Hid (Below x.heap.size x x4) := by show Below _ _ _; rw [hx4]; exact HX3.out.alloc HX3.out.size _
    clear hx4
    go_wp2_with fail
    refine planPost_mk ⟨⟨x4, HX4.out⟩, rfl⟩ ?_
    rw [wpPlan_leaf]
    simp only [List.drop_succ_cons, List.drop_zero]
    go_wp2_with fail
    go_ret
    exact ⟨_, _, _, rfl, HL.out, HBX.out.trans (HX4.out.mono HBX.out.size)⟩
  · have e : g.fcs = [] := if_neg hg
    rw [decide_eq_false hg] at HG
    rw [e]
    clear e hg
    go_enter Try.func27, Try.ntmps27
    go_wp2_with fail
    refine HG.out.mono ?_
    rintro e x ⟨rfl, hb⟩
    have HBX : Hid (Below w.heap.size w x) := HB.out.trans (hb.mono HB.out.size)
    clear hb L0
    go_wp2_with fail
    refine (laid_calls _ _ _ _).mono ?_
    rintro e x4 ⟨rfl, hx4⟩
    have HL := Lib.hid (laidR_nil x)
    rw [← hx4] at HL
    have HX4 : Hid (Below w.heap.size w x4) := by show Below _ _ _; rw [hx4]; exact HBX.out.alloc HBX.out.size _
    clear hx4
    go_wp2_with fail
    go_ret
    exact ⟨_, _, _, rfl, HL.out, HX4.out⟩
set_option maxRecDepth 100000 in
theorem gmSlowP (g : Geo) (hi : g.In) (w : World) : Calls Try.prog 29 #[.agg g.v] w fun e w' => ∃ Bs a b, e = .returned (.func (.func 34) #[] #[.pointer (some ⟨Bs, 0, none⟩)]) ∧ LaidR w' Bs g.wcs a b ∧ Below w.heap.size w w' := by
  obtain ⟨W, hW⟩ : ∃ W, w.alloc (.cells g.v 23) = W := ⟨_, rfl⟩
  have r : RowC W w.heap.size 23 g.cs := by rw [← hW]; exact RowC.new w _ _
  have HB : Hid (Below w.heap.size w W) := by show Below _ _ _; rw [← hW]; exact below_new w _
  obtain ⟨B, hB⟩ : ∃ b, w.heap.size = b := ⟨_, rfl⟩
  rw [hB] at r
  have L0 := load_geo r
  have HR := Lib.hid r
  have HG := Lib.hid (gmGood g hi W)
  clear r hi
  by_cases hg : g.good
  · have e : g.wcs = [g.b, g.a] := if_pos hg
    rw [decide_eq_true hg] at HG
    rw [e]
    obtain ⟨bb, hbb⟩ : ∃ n, g.b = n := ⟨_, rfl⟩
    obtain ⟨aa, haa⟩ : ∃ n, g.a = n := ⟨_, rfl⟩
    rw [hbb, haa]
    have HBB := Lib.hid hbb
    have HAA := Lib.hid haa
    clear e hg hbb haa
    go_enter Try.func29, Try.ntmps29
    go_wp2_with fail
    refine HG.out.mono ?_
    rintro e x2 ⟨rfl, hb⟩
    have HX2 : Hid (Below w.heap.size w x2) := HB.out.trans (hb.mono HB.out.size)
    have C0 : x2.cell? ⟨B, 0, none⟩ = some (.int .i64 bb) := by rw [← HBB.out]; exact (HR.out.below hb).cell 0 _ rfl
    have C3 : x2.cell? ⟨B, 3, none⟩ = some (.int .i64 aa) := by rw [← HAA.out]; exact (HR.out.below hb).cell 3 _ rfl
    clear hb L0
    have HL := Lib.hid (laidR_new x2 [bb, aa])
    have HBL := Lib.hid (laid2 bb aa x2)
    obtain ⟨x3, hx3⟩ : ∃ y, x2.alloc (.cells [.int .i64 bb, .int .i64 aa].toArray 3) = y := ⟨_, rfl⟩
    have HX3 : Hid (Below w.heap.size w x3) := by show Below _ _ _; rw [← hx3]; exact HX2.out.alloc HX2.out.size _
    obtain ⟨N, hN⟩ : ∃ n, x2.heap.size = n := ⟨_, rfl⟩
    have HL : Hid (LaidR (x3.alloc (.cells #[.slice (some ⟨N, 0, none⟩) 2 2] 44)) x3.heap.size [bb, aa] (some ⟨N, 0, none⟩) N) := by show LaidR _ _ _ _ _; rw [← hN, ← hx3]; exact HL.out
    rw [hx3, hN] at HBL
    clear hx3 hN
    go_wp2_with (first | ((with_reducible refine gate_build ?_); refine wpList_build_run _ _ _ rfl rfl [(0, .int .i64 bb), (1, .int .i64 aa)] _ rfl HBL.out ?_))
    refine (laid_calls _ _ _ _).mono ?_
    rintro e x4 ⟨rfl, hx4⟩
    rw [← hx4] at HL
    have HX4 : Hid (Below w.heap.size w x4) := by show Below _ _ _; rw [hx4]; exact HX3.out.alloc HX3.out.size _
    clear hx4
    go_wp2_with fail
    go_ret
    exact ⟨_, _, _, rfl, HL.out, HX4.out⟩
  · have e : g.wcs = [] := if_neg hg
    rw [decide_eq_false hg] at HG
    rw [e]
    clear e hg
    go_enter Try.func29, Try.ntmps29
    go_wp2_with fail
    refine HG.out.mono ?_
    rintro e x ⟨rfl, hb⟩
    have HBX : Hid (Below w.heap.size w x) := HB.out.trans (hb.mono HB.out.size)
    clear hb L0
    go_wp2_with fail
    refine (laid_calls _ _ _ _).mono ?_
    rintro e x4 ⟨rfl, hx4⟩
    have HL := Lib.hid (laidR_nil x)
    rw [← hx4] at HL
    have HX4 : Hid (Below w.heap.size w x4) := by show Below _ _ _; rw [hx4]; exact HBX.out.alloc HBX.out.size _
    clear hx4
    go_wp2_with fail
    go_ret
    exact ⟨_, _, _, rfl, HL.out, HX4.out⟩
set_option maxRecDepth 100000 in
theorem gmSector (f c i : Int) (hf : 0 ≤ f ∧ f ≤ 4000) (hc : 0 ≤ c ∧ c ≤ 1000) (w : World) : Calls Try.prog 30 #[.agg #[.int .i64 f, .int .i64 c], .int .i64 i] w fun e w' => e = .returned (.int .i64 (if 0 ≤ i ∧ i < c then f + i else 0)) ∧ Below w.heap.size w w' := by
  obtain ⟨W, hW⟩ : ∃ W, w.alloc (.cells #[.int .i64 f, .int .i64 c] 36) = W := ⟨_, rfl⟩
  have r : RowC W w.heap.size 36 (spL f c) := by rw [← hW]; exact RowC.new w _ _
  have HB : Hid (Below w.heap.size w W) := by show Below _ _ _; rw [← hW]; exact below_new w _
  obtain ⟨B, hB⟩ : ∃ b, w.heap.size = b := ⟨_, rfl⟩
  rw [hB] at r
  have c0 : W.cell? ⟨B, 0, none⟩ = some (.int .i64 f) := r.cell 0 _ rfl
  have c1 : W.cell? ⟨B, 1, none⟩ = some (.int .i64 c) := r.cell 1 _ rfl
  clear r
  obtain ⟨f1, f2⟩ := hf
  obtain ⟨q1, q2⟩ := hc
  by_cases h1 : 0 ≤ i
  · have g1 : decide (i < 0) = false := by simpa using h1
    by_cases h2 : i < c
    · have g2 : decide (c ≤ i) = false := by simpa using h2
      have g2' : decide (i ≥ c) = false := g2
      rw [if_pos ⟨h1, h2⟩]
      go_enter Try.func30, Try.ntmps30
      go_wp2_with fail
      go_ret
      first | exact ⟨rfl, HB.out⟩ | exact ⟨rfl, by rw [← hB]; exact HB.out⟩
    · have g2 : decide (c ≤ i) = true := by simpa using h2
      have g2' : decide (i ≥ c) = true := g2
      rw [if_neg (fun h => h2 h.2)]
      go_enter Try.func30, Try.ntmps30
      go_wp2_with fail
      go_ret
      first | exact ⟨rfl, HB.out⟩ | exact ⟨rfl, by rw [← hB]; exact HB.out⟩
  · have g1 : decide (i < 0) = true := by simpa using h1
    rw [if_neg (fun h => h1 h.1)]
    go_enter Try.func30, Try.ntmps30
    go_wp2_with fail
    go_ret
    first | exact ⟨rfl, HB.out⟩ | exact ⟨rfl, by rw [← hB]; exact HB.out⟩
end
end Go.Proofs.Ytnffaekbldcphaa
