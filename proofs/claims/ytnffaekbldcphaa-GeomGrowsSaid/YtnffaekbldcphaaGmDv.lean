/- The developers' geometry: within, the slots, the bytes, Good, Bytes, Pages. -/
import Derived.Test.YtnffaekbldcphaaGmSl
import Derived.Test.YtnffaekbldcphaaPgCnt
namespace Go.Proofs.Ytnffaekbldcphaa
open Go.RowKit Go.Shelf
set_option linter.unusedVariables false
attribute [-go_sem] loadVar storeVar
attribute [local go_sem] loadVar_openG storeVar_openG

section
set_option maxRecDepth 100000
set_option maxHeartbeats 4000000
set_option maxRecDepth 100000 in
theorem gmWithin (n lo hi : Int) (w : World) : Calls Try.prog 22 #[.int .i64 n, .int .i64 lo, .int .i64 hi] w fun e w' => e = .returned (.bool (decide (lo ≤ n ∧ n ≤ hi))) ∧ w' = w := by
  obtain ⟨z, hz⟩ : ∃ z, decide (lo ≤ n ∧ n ≤ hi) = z := ⟨_, rfl⟩
  by_cases h1 : lo ≤ n
  · have g1 : decide (lo ≤ n) = true := by simpa using h1
    have g1' : decide (n ≥ lo) = true := g1
    have g2 : decide (n ≤ hi) = z := by rw [← hz]; simp [h1]
    rw [hz]
    clear hz
    go_enter Try.func22, Try.ntmps22
    go_wp2_with fail
    go_ret
    first | exact ⟨rfl, rfl⟩ | exact ⟨by rw [← g2], rfl⟩ | exact ⟨by rw [g2], rfl⟩
  · have g1 : decide (lo ≤ n) = false := by simpa using h1
    have g1' : decide (n ≥ lo) = false := g1
    have hzz : z = false := by rw [← hz]; simp [h1]
    rw [hz, hzz]
    clear hz hzz
    go_enter Try.func22, Try.ntmps22
    go_wp2_with fail
    go_ret
    exact ⟨rfl, rfl⟩
set_option maxRecDepth 100000 in
theorem gmSlots (g : Geo) (hs : g.shape) (w : World) : Calls Try.prog 32 #[.agg g.v] w fun e w' => e = .returned (.int .i64 g.slots) ∧ Below w.heap.size w w' := by
  obtain ⟨b1, b2, b3, b4, b5, b6⟩ := Geo.bounds hs
  have HBT : Hid (g.slots = g.s * g.y) := rfl
  obtain ⟨W, hW⟩ : ∃ W, w.alloc (.cells g.v 23) = W := ⟨_, rfl⟩
  have r : RowC W w.heap.size 23 g.cs := by rw [← hW]; exact RowC.new w _ _
  have HB : Hid (Below w.heap.size w W) := by show Below _ _ _; rw [← hW]; exact below_new w _
  have c1 := r.cell 1 _ rfl
  have c2 := r.cell 2 _ rfl
  obtain ⟨h1, h2, h3, h4, h5, h6, h7, h8⟩ := hs
  have m1 : 1 ≤ g.s * g.y := b1
  have m2 : g.s * g.y ≤ 32 := b2
  obtain ⟨s, hs⟩ : ∃ n, g.s = n := ⟨_, rfl⟩
  obtain ⟨y, hy⟩ : ∃ n, g.y = n := ⟨_, rfl⟩
  obtain ⟨m, hm⟩ : ∃ n, s * y = n := ⟨_, rfl⟩
  rw [hs, hy] at m1 m2 HBT
  rw [hs] at c1 h3 h4
  rw [hy] at c2 h5 h6
  rw [hm] at m1 m2 HBT
  clear r b1 b2 b3 b4 b5 b6 h7 h8 h1 h2 hs hy
  go_enter Try.func32, Try.ntmps32
  go_wp2_with fail
  go_ret
  rw [HBT.out]
  exact ⟨rfl, HB.out⟩
set_option maxRecDepth 100000 in
theorem gmState (g : Geo) (hs : g.shape) (w : World) : Calls Try.prog 24 #[.agg g.v] w fun e w' => e = .returned (.int .i64 g.bts) ∧ Below w.heap.size w w' := by
  have SC := fun x => gmSlots g hs x
  obtain ⟨b1, b2, b3, b4, b5, b6⟩ := Geo.bounds hs
  have HBT : Hid (g.bts = 10 + g.slots + g.b + 8 * (4 + (g.b + 7) / 8 + g.b)) := rfl
  obtain ⟨W, hW⟩ : ∃ W, w.alloc (.cells g.v 23) = W := ⟨_, rfl⟩
  have r : RowC W w.heap.size 23 g.cs := by rw [← hW]; exact RowC.new w _ _
  have HB : Hid (Below w.heap.size w W) := by show Below _ _ _; rw [← hW]; exact below_new w _
  obtain ⟨B, hB⟩ : ∃ b, w.heap.size = b := ⟨_, rfl⟩
  rw [hB] at r
  have LG : ∀ x : Ext W, (loadVar 23 ⟨B, 0, none⟩).run Try.prog x.1 = .ok (.agg g.v) x.1 := fun x => load_geo (r.below x.2)
  obtain ⟨h1, h2, h3, h4, h5, h6, h7, h8⟩ := hs
  obtain ⟨b, hb⟩ : ∃ n, g.b = n := ⟨_, rfl⟩
  obtain ⟨m, hm⟩ : ∃ n, g.slots = n := ⟨_, rfl⟩
  obtain ⟨k, hk⟩ : ∃ n, (b + 7).tdiv 8 = n := ⟨_, rfl⟩
  have c0 : ∀ x : Ext W, x.1.cell? ⟨B, 0, none⟩ = some (.int .i64 b) := fun x => by rw [← hb]; exact (r.below x.2).cell 0 _ rfl
  have d0 : W.cell? ⟨B, 0, none⟩ = some (.int .i64 b) := by rw [← hb]; exact r.cell 0 _ rfl
  rw [hb] at h1 h2
  rw [hb, hm] at HBT
  rw [hm] at b1 b2
  have C1 : Hid (∀ x : Ext W, Calls Try.prog 32 #[.agg g.v] x.1 fun e w'' => e = .returned (.int .i64 m) ∧ ∃ y : Ext W, w'' = y.1) := fun x => calls_ext x (by rw [← hm]; exact SC x.1)
  have hk2 : (b + 7) / 8 = k := by rw [← hk, Int.tdiv_eq_ediv_of_nonneg (by omega)]
  have hk3 : 1 ≤ k ∧ k ≤ 8 := by omega
  have HK2 := Lib.hid hk2
  obtain ⟨k1, k2⟩ := hk3
  clear r b3 b4 b5 b6 h3 h4 h5 h6 h7 h8 hb hm hk2 SC
  go_enter Try.func24, Try.ntmps24
  go_wp2_with fail
  refine region_ext (by kernel_rfl) (by kernel_rfl) ?_
  repeat (go_big_quiet_step (with_reducible (first | exact C1.out _)))
  refine wpQuiet_nil ?_
  intro x
  have HX : Hid (Below w.heap.size w x.1) := HB.out.trans (x.2.mono HB.out.size)
  clear LG c0 d0
  go_wp2_with fail
  go_ret
  refine ⟨?_, HX.out⟩
  rw [HBT.out, HK2.out]
  first
    | rfl
    | exact congrArg (fun x => Ending.returned (Value.int .i64 x)) (by omega)
set_option maxRecDepth 100000 in
theorem gmGood (g : Geo) (hi : g.In) (w : World) : Calls Try.prog 7 #[.agg g.v] w fun e w' => e = .returned (.bool (decide g.good)) ∧ Below w.heap.size w w' := by
  obtain ⟨W, hW⟩ : ∃ W, w.alloc (.cells g.v 23) = W := ⟨_, rfl⟩
  have r : RowC W w.heap.size 23 g.cs := by rw [← hW]; exact RowC.new w _ _
  have HB : Hid (Below w.heap.size w W) := by show Below _ _ _; rw [← hW]; exact below_new w _
  obtain ⟨B, hB⟩ : ∃ b, w.heap.size = b := ⟨_, rfl⟩
  rw [hB] at r
  have LG : ∀ x : Ext W, (loadVar 23 ⟨B, 0, none⟩).run Try.prog x.1 = .ok (.agg g.v) x.1 := fun x => load_geo (r.below x.2)
  have c0 : ∀ x : Ext W, x.1.cell? ⟨B, 0, none⟩ = some (.int .i64 g.b) := fun x => (r.below x.2).cell 0 _ rfl
  have c1 : ∀ x : Ext W, x.1.cell? ⟨B, 1, none⟩ = some (.int .i64 g.s) := fun x => (r.below x.2).cell 1 _ rfl
  have c2 : ∀ x : Ext W, x.1.cell? ⟨B, 2, none⟩ = some (.int .i64 g.y) := fun x => (r.below x.2).cell 2 _ rfl
  have c3 : ∀ x : Ext W, x.1.cell? ⟨B, 3, none⟩ = some (.int .i64 g.a) := fun x => (r.below x.2).cell 3 _ rfl
  have c4 : ∀ x : Ext W, x.1.cell? ⟨B, 4, none⟩ = some (.int .i64 g.r) := fun x => (r.below x.2).cell 4 _ rfl
  have CW : ∀ (n lo hi : Int) (z : Bool), decide (lo ≤ n ∧ n ≤ hi) = z → Hid (∀ x : Ext W, Calls Try.prog 22 #[.int .i64 n, .int .i64 lo, .int .i64 hi] x.1 fun e w'' => e = .returned (.bool z) ∧ ∃ y : Ext W, w'' = y.1) := fun n lo hi z hz x => by
    rw [← hz]
    exact (gmWithin n lo hi x.1).mono fun e w'' ⟨h1, h2⟩ => ⟨h1, x, h2⟩
  obtain ⟨z1, e1⟩ : ∃ z, decide (1 ≤ g.b ∧ g.b ≤ 64) = z := ⟨_, rfl⟩
  obtain ⟨z2, e2⟩ : ∃ z, decide (1 ≤ g.s ∧ g.s ≤ 8) = z := ⟨_, rfl⟩
  obtain ⟨z3, e3⟩ : ∃ z, decide (1 ≤ g.y ∧ g.y ≤ 4) = z := ⟨_, rfl⟩
  obtain ⟨z4, e4⟩ : ∃ z, decide (0 ≤ g.a ∧ g.a ≤ 200) = z := ⟨_, rfl⟩
  have C1 := CW _ _ _ _ e1
  have C2 := CW _ _ _ _ e2
  have C3 := CW _ _ _ _ e3
  have C4 := CW _ _ _ _ e4
  by_cases hs : g.shape
  · obtain ⟨b1, b2, b3, b4, b5, b6⟩ := Geo.bounds hs
    obtain ⟨h1, h2, h3, h4, h5, h6, h7, h8⟩ := hs
    obtain rfl : z1 = true := by rw [← e1]; exact decide_eq_true ⟨h1, h2⟩
    obtain rfl : z2 = true := by rw [← e2]; exact decide_eq_true ⟨h3, h4⟩
    obtain rfl : z3 = true := by rw [← e3]; exact decide_eq_true ⟨h5, h6⟩
    obtain rfl : z4 = true := by rw [← e4]; exact decide_eq_true ⟨h7, h8⟩
    obtain ⟨z5, e5⟩ : ∃ z, decide (g.pgs + 2 ≤ g.r ∧ g.r ≤ 256) = z := ⟨_, rfl⟩
    have C5 := CW _ _ _ _ e5
    have C6 : Hid (∀ x : Ext W, Calls Try.prog 24 #[.agg g.v] x.1 fun e w'' => e = .returned (.int .i64 g.bts) ∧ ∃ y : Ext W, w'' = y.1) := fun x => calls_ext x (gmState g ⟨h1, h2, h3, h4, h5, h6, h7, h8⟩ x.1)
    have C7 : Hid (∀ x : Ext W, Calls Try.prog 23 #[.int .i64 g.bts] x.1 fun e w'' => e = .returned (.int .i64 g.pgs) ∧ ∃ y : Ext W, w'' = y.1) := fun x => (pgCount g.bts x.1 (by omega) (by omega)).mono fun e w'' ⟨h1, h2⟩ => ⟨h1, x, h2⟩
    have hg : Hid (decide g.good = z5) := by
      show _ = _
      rw [← e5, decide_eq_decide]
      exact ⟨fun h => h.2, fun h => ⟨⟨h1, h2, h3, h4, h5, h6, h7, h8⟩, h⟩⟩
    obtain ⟨P, hP⟩ : ∃ n, g.pgs = n := ⟨_, rfl⟩
    obtain ⟨T, hT⟩ : ∃ n, g.bts = n := ⟨_, rfl⟩
    obtain ⟨R, hR⟩ : ∃ n, g.r = n := ⟨_, rfl⟩
    rw [hP, hT] at C7
    rw [hT] at C6
    rw [hP, hR] at C5
    rw [hR] at c4
    rw [hP] at b5 b6
    clear r b1 b2 b3 b4 hP hT hR e1 e2 e3 e4 e5 CW hi h1 h2 h3 h4 h5 h6 h7 h8
    go_enter Try.func7, Try.ntmps7
    go_wp2_with fail
    refine region_ext (by kernel_rfl) (by kernel_rfl) ?_
    repeat (go_big_quiet_step (with_reducible (first | exact C1.out _ | exact C2.out _ | exact C3.out _ | exact C4.out _ | exact C5.out _ | exact C6.out _ | exact C7.out _)))
    refine wpQuiet_nil ?_
    intro x
    have HX : Hid (Below w.heap.size w x.1) := HB.out.trans (x.2.mono HB.out.size)
    clear LG c0 c1 c2 c3 c4
    go_wp2_with fail
    go_ret
    rw [hg.out]
    exact ⟨rfl, HX.out⟩
  · have hg : Hid (decide g.good = false) := decide_eq_false (fun h => hs h.1)
    have hc : z1 = false ∨ (z1 = true ∧ z2 = false) ∨ (z1 = true ∧ z2 = true ∧ z3 = false) ∨ (z1 = true ∧ z2 = true ∧ z3 = true ∧ z4 = false) := by
      cases z1 with
      | false => exact .inl rfl
      | true =>
        cases z2 with
        | false => exact .inr (.inl ⟨rfl, rfl⟩)
        | true =>
          cases z3 with
          | false => exact .inr (.inr (.inl ⟨rfl, rfl, rfl⟩))
          | true =>
            cases z4 with
            | false => exact .inr (.inr (.inr ⟨rfl, rfl, rfl, rfl⟩))
            | true =>
              have a1 := of_decide_eq_true e1
              have a2 := of_decide_eq_true e2
              have a3 := of_decide_eq_true e3
              have a4 := of_decide_eq_true e4
              exact absurd ⟨a1.1, a1.2, a2.1, a2.2, a3.1, a3.2, a4⟩ hs
    clear e1 e2 e3 e4 CW hi hs r
    rcases hc with rfl | ⟨rfl, rfl⟩ | ⟨rfl, rfl, rfl⟩ | ⟨rfl, rfl, rfl, rfl⟩
    all_goals
      go_enter Try.func7, Try.ntmps7
      go_wp2_with fail
      refine region_ext (by kernel_rfl) (by kernel_rfl) ?_
      repeat (go_big_quiet_step (with_reducible (first | exact C1.out _ | exact C2.out _ | exact C3.out _ | exact C4.out _)))
      refine wpQuiet_nil ?_
      intro x
      have HX : Hid (Below w.heap.size w x.1) := HB.out.trans (x.2.mono HB.out.size)
      clear LG c0 c1 c2 c3 c4
      go_wp2_with fail
      go_ret
      rw [hg.out]
      exact ⟨rfl, HX.out⟩
set_option maxRecDepth 100000 in
theorem gmBytes (g : Geo) (hi : g.In) (w : World) : Calls Try.prog 9 #[.agg g.v] w fun e w' => e = .returned (.int .i64 g.oB) ∧ Below w.heap.size w w' := by
  obtain ⟨W, hW⟩ : ∃ W, w.alloc (.cells g.v 23) = W := ⟨_, rfl⟩
  have r : RowC W w.heap.size 23 g.cs := by rw [← hW]; exact RowC.new w _ _
  have HB : Hid (Below w.heap.size w W) := by show Below _ _ _; rw [← hW]; exact below_new w _
  obtain ⟨B, hB⟩ : ∃ b, w.heap.size = b := ⟨_, rfl⟩
  rw [hB] at r
  have HR := Lib.hid r
  have HG := Lib.hid (gmGood g hi W)
  have L0 := load_geo r
  clear r hi
  by_cases hg : g.good
  · have HS := Lib.hid (gmState g hg.1)
    have hv : Hid (g.oB = g.bts) := if_pos hg
    rw [decide_eq_true hg] at HG
    clear hg
    go_enter Try.func9, Try.ntmps9
    go_wp2_with fail
    refine HG.out.mono ?_
    rintro e x ⟨rfl, hb⟩
    have L1 := load_geo (HR.out.below hb)
    have HBX : Hid (Below w.heap.size w x) := HB.out.trans (hb.mono HB.out.size)
    clear hb L0
    go_wp2_with fail
    refine (HS.out _).mono ?_
    rintro e y ⟨rfl, hb⟩
    have HBY : Hid (Below w.heap.size w y) := HBX.out.trans (hb.mono HBX.out.size)
    clear hb L1
    go_wp2_with fail
    go_ret
    rw [hv.out]
    exact ⟨rfl, HBY.out⟩
  · have hv : Hid (g.oB = 0) := if_neg hg
    rw [decide_eq_false hg] at HG
    clear hg
    go_enter Try.func9, Try.ntmps9
    go_wp2_with fail
    refine HG.out.mono ?_
    rintro e x ⟨rfl, hb⟩
    have HBX : Hid (Below w.heap.size w x) := HB.out.trans (hb.mono HB.out.size)
    clear hb L0
    go_wp2_with fail
    go_ret
    rw [hv.out]
    exact ⟨rfl, HBX.out⟩
theorem Geo.oP_cnt (g : Geo) : cnt g.oB = g.oP := by
  unfold Geo.oB Geo.oP
  by_cases hg : g.good
  · rw [if_pos hg, if_pos hg]; rfl
  · rw [if_neg hg, if_neg hg]; rfl
theorem Geo.oB_bd (g : Geo) : 0 ≤ g.oB ∧ g.oB ≤ 714 := by
  unfold Geo.oB
  by_cases hg : g.good
  · rw [if_pos hg]
    obtain ⟨b1, b2, b3, b4, b5, b6⟩ := Geo.bounds hg.1
    omega
  · rw [if_neg hg]; omega
set_option maxRecDepth 100000 in
theorem gmPages (g : Geo) (hi : g.In) (w : World) : Calls Try.prog 10 #[.agg g.v] w fun e w' => e = .returned (.int .i64 g.oP) ∧ Below w.heap.size w w' := by
  obtain ⟨W, hW⟩ : ∃ W, w.alloc (.cells g.v 23) = W := ⟨_, rfl⟩
  have r : RowC W w.heap.size 23 g.cs := by rw [← hW]; exact RowC.new w _ _
  have HB : Hid (Below w.heap.size w W) := by show Below _ _ _; rw [← hW]; exact below_new w _
  obtain ⟨B, hB⟩ : ∃ b, w.heap.size = b := ⟨_, rfl⟩
  rw [hB] at r
  have L0 := load_geo r
  have HG := Lib.hid (gmBytes g hi W)
  have HV := Lib.hid g.oP_cnt
  have hbd := g.oB_bd
  clear r hi
  go_enter Try.func10, Try.ntmps10
  go_wp2_with fail
  refine HG.out.mono ?_
  rintro e x ⟨rfl, hb⟩
  have HBX : Hid (Below w.heap.size w x) := HB.out.trans (hb.mono HB.out.size)
  clear hb L0
  go_wp2_with fail
  refine (pgCount _ _ (by omega) (by omega)).mono ?_
  rintro e y ⟨rfl, hy⟩
  obtain rfl := hy.symm
  rw [HV.out]
  clear hy hbd
  go_wp2_with fail
  go_ret
  exact ⟨rfl, HBX.out⟩
end
end Go.Proofs.Ytnffaekbldcphaa
