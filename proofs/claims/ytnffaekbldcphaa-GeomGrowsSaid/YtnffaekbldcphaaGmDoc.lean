/- The document's geometry: bytes, Good, Of, Slot, Area. -/
import Derived.Test.YtnffaekbldcphaaGmRef
import Derived.Test.YtnffaekbldcphaaPgAt
namespace Go.Proofs.Ytnffaekbldcphaa
open Go.RowKit Go.Shelf
set_option linter.unusedVariables false

theorem loadVar_openG (t : TypeId) (h : t ≠ 23 ∧ t ≠ 25) (a : Addr) : loadVar t a = (do if ← isAgg t then pure (.agg (← loadCells a (← sizeOf t))) else load a) := rfl
theorem storeVar_openG (t : TypeId) (h : t ≠ 23 ∧ t ≠ 25) (a : Addr) (v : Value) : storeVar t a v = (do
    if v.cells.size ≠ (← sizeOf t) then stuck "storeVar: the value has not the size of the variable"
    storeCells a v.cells.toList) := rfl
attribute [-go_sem] loadVar storeVar
attribute [local go_sem] loadVar_openG storeVar_openG
def Geo.cs (g : Geo) : List Value := [.int .i64 g.b, .int .i64 g.s, .int .i64 g.y, .int .i64 g.a, .int .i64 g.r]
theorem Geo.cs_v (g : Geo) : g.cs.toArray = g.v := rfl
set_option maxRecDepth 100000 in
theorem load_geo {x : World} {B : Nat} {t : TypeId} {g : Geo} (h : RowC x B t g.cs) : (loadVar 23 ⟨B, 0, none⟩).run Try.prog x = .ok (.agg g.v) x :=
  run_loadVar_mid x B 0 _ g.cs _ h.range Try.underlying23 rfl (by kernel_rfl)
set_option maxRecDepth 100000 in
theorem size_szs : (Try.prog.info? 25).map (·.size) = some 8 := by kernel_rfl
def szL (a b c d e f h i : Int) : List Value := [.int .i64 a, .int .i64 b, .int .i64 c, .int .i64 d, .int .i64 e, .int .i64 f, .int .i64 h, .int .i64 i]
set_option maxRecDepth 100000 in
theorem load_szs {x : World} {B : Nat} {t : TypeId} {a b c d e f h i : Int} (hr : RowC x B t (szL a b c d e f h i)) : (loadVar 25 ⟨B, 0, none⟩).run Try.prog x = .ok (.agg (szL a b c d e f h i).toArray) x :=
  run_loadVar_mid x B 0 _ (szL a b c d e f h i) _ hr.range Try.underlying25 rfl (by kernel_rfl)
set_option maxRecDepth 100000 in
theorem store_szs {x : World} {B : Nat} {old : List Value} {a b c d e f h i : Int} (hr : RowC x B 25 old) (ho : old.length = 8) :
    ∃ y, (storeVar 25 ⟨B, 0, none⟩ (.agg (szL a b c d e f h i).toArray)).run Try.prog x = .ok () y ∧ RowC y B 25 (szL a b c d e f h i) ∧ x.grownBy y (some B) := by
  refine ⟨_, run_storeVar_row x B _ _ old.toArray (szL a b c d e f h i).toArray hr size_szs (by simpa [szL] using ho) (by kernel_rfl), setRow_heap x B _ _ _ _ hr, ?_⟩
  exact ⟨rfl, rfl, rfl, by rw [setRow_size]; exact Nat.le_refl _, fun k _ hk => setRow_other x B k _ (fun e => hk (by rw [e]))⟩
set_option maxRecDepth 100000 in
theorem new_szs (x : World) (a b c d e f h i : Int) : ∃ y, (storeVar 25 ⟨x.heap.size, 0, none⟩ (.agg (szL a b c d e f h i).toArray)).run Try.prog (x.alloc (.cells (szL 0 0 0 0 0 0 0 0).toArray 25)) = .ok () y ∧ RowC y x.heap.size 25 (szL a b c d e f h i) ∧ Below x.heap.size x y :=
  ⟨_, run_storeVar_new x _ _ (szL a b c d e f h i).toArray size_szs rfl (by kernel_rfl), RowC.new x _ _, below_new x _⟩
theorem grownBy_cell (W : World) (b j : Nat) (v : Value) : W.grownBy (W.setCell ⟨b, j, none⟩ v) (some b) :=
  ⟨rfl, rfl, rfl, (KeepsWalks.setCell W _ v).size, fun k _ hk => Below.heap_setCell _ _ _ k (fun e => hk (by rw [e]))⟩

section
set_option maxRecDepth 100000
set_option maxHeartbeats 4000000
set_option maxRecDepth 100000 in
theorem refBts (g : Geo) (hs : g.shape) (w : World) : Calls Try.prog 20 #[.agg g.v] w fun e w' => e = .returned (.int .i64 g.bts) ∧ Below w.heap.size w w' := by
  obtain ⟨b1, b2, b3, b4, b5, b6⟩ := Geo.bounds hs
  have HBT : Hid (g.bts = 10 + g.s * g.y + g.b + 8 * (4 + (g.b + 7) / 8 + g.b)) := rfl
  obtain ⟨W, hW⟩ : ∃ W, w.alloc (.cells g.v 23) = W := ⟨_, rfl⟩
  have r : RowC W w.heap.size 23 g.cs := by rw [← hW]; exact RowC.new w _ _
  have HB : Hid (Below w.heap.size w W) := by show Below _ _ _; rw [← hW]; exact below_new w _
  have c0 := r.cell 0 _ rfl
  have c1 := r.cell 1 _ rfl
  have c2 := r.cell 2 _ rfl
  obtain ⟨h1, h2, h3, h4, h5, h6, h7, h8⟩ := hs
  have m1 : 1 ≤ g.s * g.y := b1
  have m2 : g.s * g.y ≤ 32 := b2
  obtain ⟨b, hb⟩ : ∃ n, g.b = n := ⟨_, rfl⟩
  obtain ⟨s, hs⟩ : ∃ n, g.s = n := ⟨_, rfl⟩
  obtain ⟨y, hy⟩ : ∃ n, g.y = n := ⟨_, rfl⟩
  obtain ⟨m, hm⟩ : ∃ n, s * y = n := ⟨_, rfl⟩
  obtain ⟨k, hk⟩ : ∃ n, (b + 7).tdiv 8 = n := ⟨_, rfl⟩
  rw [hb] at c0 h1 h2 HBT
  rw [hs, hy] at m1 m2 HBT
  rw [hs] at c1 h3 h4
  rw [hy] at c2 h5 h6
  rw [hm] at m1 m2 HBT
  have hk2 : (b + 7) / 8 = k := by rw [← hk, Int.tdiv_eq_ediv_of_nonneg (by omega)]
  have hk3 : 1 ≤ k ∧ k ≤ 8 := by omega
  have HK2 := Lib.hid hk2
  obtain ⟨k1, k2⟩ := hk3
  clear r b1 b2 b3 b4 b5 b6 h7 h8 hb hs hy hk2
  go_enter Try.func20, Try.ntmps20
  go_wp2_with fail
  go_ret
  refine ⟨?_, HB.out⟩
  rw [HBT.out, HK2.out]
  first
    | rfl
    | exact congrArg (fun x => Ending.returned (Value.int .i64 x)) (by omega)
set_option maxRecDepth 100000 in
theorem refGood7 (g : Geo) (w : World) : Calls Try.prog 8 #[.agg g.v] w fun e w' => e = .returned (.bool (decide g.good)) ∧ Below w.heap.size w w' := by
  obtain ⟨W, hW⟩ : ∃ W, w.alloc (.cells g.v 23) = W := ⟨_, rfl⟩
  have r : RowC W w.heap.size 23 g.cs := by rw [← hW]; exact RowC.new w _ _
  have HB : Hid (Below w.heap.size w W) := by show Below _ _ _; rw [← hW]; exact below_new w _
  obtain ⟨B, hB⟩ : ∃ b, w.heap.size = b := ⟨_, rfl⟩
  rw [hB] at r
  have LG : ∀ x : Ext W, (loadVar 23 ⟨B, 0, none⟩).run Try.prog x.1 = .ok (.agg g.v) x.1 := fun x => load_geo (r.below x.2)
  have c4 : ∀ x : Ext W, x.1.cell? ⟨B, 4, none⟩ = some (.int .i64 g.r) := fun x => (r.below x.2).cell 4 _ rfl
  obtain ⟨z, hz⟩ : ∃ z, decide g.shape = z := ⟨_, rfl⟩
  have C1 : Hid (∀ x : Ext W, Calls Try.prog 25 #[.agg g.v] x.1 fun e w'' => e = .returned (.bool z) ∧ ∃ y : Ext W, w'' = y.1) := fun x => calls_ext x (by have := refShape g x.1; rwa [hz] at this)
  cases z with
  | false =>
    have hg : Hid (decide g.good = false) := decide_eq_false (fun h => of_decide_eq_false hz h.1)
    clear r hz
    go_enter Try.func8, Try.ntmps8
    go_wp2_with fail
    refine region_ext (by kernel_rfl) (by kernel_rfl) ?_
    repeat (go_big_quiet_step (with_reducible (first | exact C1.out _)))
    refine wpQuiet_nil ?_
    intro x
    have HX : Hid (Below w.heap.size w x.1) := HB.out.trans (x.2.mono HB.out.size)
    clear LG c4
    go_wp2_with fail
    go_ret
    rw [hg.out]
    exact ⟨rfl, HX.out⟩
  | true =>
    have hs : g.shape := of_decide_eq_true hz
    obtain ⟨b1, b2, b3, b4, b5, b6⟩ := Geo.bounds hs
    have C2 : Hid (∀ x : Ext W, Calls Try.prog 20 #[.agg g.v] x.1 fun e w'' => e = .returned (.int .i64 g.bts) ∧ ∃ y : Ext W, w'' = y.1) := fun x => calls_ext x (refBts g hs x.1)
    have C3 : Hid (∀ x : Ext W, Calls Try.prog 21 #[.int .i64 g.bts] x.1 fun e w'' => e = .returned (.int .i64 g.pgs) ∧ ∃ y : Ext W, w'' = y.1) := fun x => (refCount g.bts x.1 (by omega) (by omega)).mono fun e w'' ⟨h1, h2⟩ => ⟨h1, x, h2⟩
    have hg : Hid (decide g.good = decide (g.pgs + 2 ≤ g.r ∧ g.r ≤ 256)) := by
      show _ = _
      rw [decide_eq_decide]
      exact ⟨fun h => h.2, fun h => ⟨hs, h⟩⟩
    obtain ⟨P, hP⟩ : ∃ n, g.pgs = n := ⟨_, rfl⟩
    obtain ⟨T, hT⟩ : ∃ n, g.bts = n := ⟨_, rfl⟩
    obtain ⟨R, hR⟩ : ∃ n, g.r = n := ⟨_, rfl⟩
    rw [hP, hT] at C3
    rw [hT] at C2
    rw [hR] at c4
    rw [hP, hR] at hg
    rw [hP] at b5 b6
    clear r hz hs b1 b2 b3 b4 hP hT hR
    by_cases q1 : P + 2 ≤ R
    · have g1 : decide (P + 2 ≤ R) = true := by simpa using q1
      have g1' : decide (R ≥ P + 2) = true := g1
      by_cases q2 : R ≤ 256
      · have g2 : decide (R ≤ 256) = true := by simpa using q2
        have hgd : Hid (decide g.good = true) := by show _ = _; rw [hg.out]; exact decide_eq_true ⟨q1, q2⟩
        go_enter Try.func8, Try.ntmps8
        go_wp2_with fail
        refine region_ext (by kernel_rfl) (by kernel_rfl) ?_
        repeat (go_big_quiet_step (with_reducible (first | exact C1.out _ | exact C2.out _ | exact C3.out _)))
        refine wpQuiet_nil ?_
        intro x
        have HX : Hid (Below w.heap.size w x.1) := HB.out.trans (x.2.mono HB.out.size)
        clear LG c4
        go_wp2_with fail
        go_ret
        rw [hgd.out]
        exact ⟨rfl, HX.out⟩
      · have g2 : decide (R ≤ 256) = false := by simpa using q2
        have hgd : Hid (decide g.good = false) := by show _ = _; rw [hg.out]; exact decide_eq_false (fun h => q2 h.2)
        go_enter Try.func8, Try.ntmps8
        go_wp2_with fail
        refine region_ext (by kernel_rfl) (by kernel_rfl) ?_
        repeat (go_big_quiet_step (with_reducible (first | exact C1.out _ | exact C2.out _ | exact C3.out _)))
        refine wpQuiet_nil ?_
        intro x
        have HX : Hid (Below w.heap.size w x.1) := HB.out.trans (x.2.mono HB.out.size)
        clear LG c4
        go_wp2_with fail
        go_ret
        rw [hgd.out]
        exact ⟨rfl, HX.out⟩
    · have g1 : decide (P + 2 ≤ R) = false := by simpa using q1
      have g1' : decide (R ≥ P + 2) = false := g1
      have hgd : Hid (decide g.good = false) := by show _ = _; rw [hg.out]; exact decide_eq_false (fun h => q1 h.1)
      go_enter Try.func8, Try.ntmps8
      go_wp2_with fail
      refine region_ext (by kernel_rfl) (by kernel_rfl) ?_
      repeat (go_big_quiet_step (with_reducible (first | exact C1.out _ | exact C2.out _ | exact C3.out _)))
      refine wpQuiet_nil ?_
      intro x
      have HX : Hid (Below w.heap.size w x.1) := HB.out.trans (x.2.mono HB.out.size)
      clear LG c4
      go_wp2_with fail
      go_ret
      rw [hgd.out]
      exact ⟨rfl, HX.out⟩
end
end Go.Proofs.Ytnffaekbldcphaa
