/- The document's Slot and Area; what the developers' geometry promises. -/
import Derived.Test.YtnffaekbldcphaaGmOf
namespace Go.Proofs.Ytnffaekbldcphaa
open Go.RowKit Go.Shelf
set_option linter.unusedVariables false
attribute [-simp] Try.isAgg25 Try.zeroValue25
attribute [-go_sem] loadVar storeVar
attribute [local go_sem] loadVar_openG storeVar_openG zero_szs build_szs0

section
set_option maxRecDepth 100000
set_option maxHeartbeats 4000000
theorem Geo.szl_eq (g : Geo) : ∃ a b c d e f h i, g.szl = szL a b c d e f h i ∧ c = (if g.good then g.slots else 0) ∧ (g.good → f = 2 + g.r + g.pgs) ∧ (a = g.oB ∧ b = g.oP ∧ d = g.oR ∧ e = g.oH ∧ h = g.oF ∧ i = g.oW) := by
  unfold Geo.szl Geo.oB Geo.oP Geo.oR Geo.oH Geo.oF Geo.oW
  by_cases hg : g.good
  · simp only [if_pos hg]
    exact ⟨_, _, _, _, _, _, _, _, rfl, rfl, fun _ => rfl, rfl, rfl, rfl, rfl, rfl, rfl⟩
  · simp only [if_neg hg]
    exact ⟨_, _, _, _, _, _, _, _, rfl, rfl, fun h => absurd h hg, rfl, rfl, rfl, rfl, rfl, rfl⟩
set_option maxRecDepth 100000 in
theorem refSlot (g : Geo) (i : Int) (w : World) : Calls Try.prog 16 #[.agg g.v, .int .i64 i] w fun e w' => e = .returned (.int .i64 (g.oS i)) ∧ Below w.heap.size w w' := by
  obtain ⟨W, hW⟩ : ∃ W, w.alloc (.cells g.v 23) = W := ⟨_, rfl⟩
  have r : RowC W w.heap.size 23 g.cs := by rw [← hW]; exact RowC.new w _ _
  have HB : Hid (Below w.heap.size w W) := by show Below _ _ _; rw [← hW]; exact below_new w _
  obtain ⟨B, hB⟩ : ∃ b, w.heap.size = b := ⟨_, rfl⟩
  rw [hB] at r
  have L0 := load_geo r
  have HO := Lib.hid (refOf g W)
  obtain ⟨a, b, c, d, e, f, h, j, hs, hc, hf, -⟩ := g.szl_eq
  rw [hs] at HO
  have HOS : Hid (g.oS i = if 0 ≤ i ∧ i < c then f + i else 0) := by
    show _ = _
    unfold Geo.oS
    by_cases hg : g.good
    · rw [if_pos hg] at hc
      rw [hf hg, hc]
      simp only [hg, true_and]
    · rw [if_neg hg] at hc
      rw [hc, if_neg (fun h => hg h.1), if_neg (by omega)]
  have hcb : c ≤ 32 ∧ (0 < c → f ≤ 300 ∧ 0 ≤ f) := by
    by_cases hg : g.good
    · rw [if_pos hg] at hc
      obtain ⟨b1, b2, b3, b4, b5, b6⟩ := Geo.bounds hg.1
      have h9 := hg.2.1
      have h10 := hg.2.2
      have := hf hg
      exact ⟨by omega, fun _ => by omega⟩
    · rw [if_neg hg] at hc
      exact ⟨by omega, fun _ => by omega⟩
  clear r hs hc hf
  go_enter Try.func16, Try.ntmps16
  go_wp2_with fail
  go_at_call 6
  refine HO.out.mono ?_
  rintro e' x ⟨rfl, hb⟩
  obtain ⟨y, ST, hr, hby⟩ := new_szs x a b c d e f h j
  have HBY : Hid (Below w.heap.size w y) := HB.out.trans ((hb.trans (hby.mono hb.size)).mono HB.out.size)
  obtain ⟨Bs, hBs⟩ : ∃ b, x.heap.size = b := ⟨_, rfl⟩
  rw [hBs] at ST hr
  have c2 : y.cell? ⟨Bs, 2, none⟩ = some (.int .i64 c) := hr.cell 2 _ rfl
  have c5 : y.cell? ⟨Bs, 5, none⟩ = some (.int .i64 f) := hr.cell 5 _ rfl
  clear hb hr hby L0
  by_cases h1 : 0 ≤ i
  · have g1 : decide (0 ≤ i) = true := by simpa using h1
    have g1' : decide (i ≥ 0) = true := g1
    by_cases h2 : i < c
    · have g2 : decide (i < c) = true := by simpa using h2
      have hv : Hid (g.oS i = f + i) := by show _ = _; rw [HOS.out, if_pos ⟨h1, h2⟩]
      have hfb := hcb.2 (by omega)
      have hcc := hcb.1
      go_wp2_with fail
      go_ret
      rw [hv.out]
      exact ⟨rfl, HBY.out⟩
    · have g2 : decide (i < c) = false := by simpa using h2
      have hv : Hid (g.oS i = 0) := by show _ = _; rw [HOS.out, if_neg (fun h => h2 h.2)]
      go_wp2_with fail
      go_ret
      rw [hv.out]
      exact ⟨rfl, HBY.out⟩
  · have g1 : decide (0 ≤ i) = false := by simpa using h1
    have g1' : decide (i ≥ 0) = false := g1
    have hv : Hid (g.oS i = 0) := by show _ = _; rw [HOS.out, if_neg (fun h => h1 h.1)]
    go_wp2_with fail
    go_ret
    rw [hv.out]
    exact ⟨rfl, HBY.out⟩
set_option maxRecDepth 100000 in
theorem refArea (g : Geo) (i : Int) (w : World) : Calls Try.prog 18 #[.agg g.v, .int .i64 i] w fun e w' => e = .returned (.int .i64 (g.oA i)) ∧ Below w.heap.size w w' := by
  obtain ⟨W, hW⟩ : ∃ W, w.alloc (.cells g.v 23) = W := ⟨_, rfl⟩
  have r : RowC W w.heap.size 23 g.cs := by rw [← hW]; exact RowC.new w _ _
  have HB : Hid (Below w.heap.size w W) := by show Below _ _ _; rw [← hW]; exact below_new w _
  obtain ⟨B, hB⟩ : ∃ b, w.heap.size = b := ⟨_, rfl⟩
  rw [hB] at r
  have L0 := load_geo r
  have HR := Lib.hid r
  have HG := Lib.hid (refGood7 g W)
  obtain ⟨z, hz⟩ : ∃ z, decide g.good = z := ⟨_, rfl⟩
  rw [hz] at HG
  have HOA : Hid (g.oA i = if z = true ∧ 0 ≤ i ∧ i < g.a then g.b + i else 0) := by
    show _ = _
    unfold Geo.oA
    rw [← hz]
    simp only [decide_eq_true_eq]
  have hbd : z = true → 1 ≤ g.b ∧ g.b ≤ 64 ∧ g.a ≤ 200 := fun h => by
    rw [h] at hz
    have := (of_decide_eq_true hz).1
    exact ⟨this.1, this.2.1, this.2.2.2.2.2.2.2⟩
  obtain ⟨bb, hbb⟩ : ∃ n, g.b = n := ⟨_, rfl⟩
  obtain ⟨aa, haa⟩ : ∃ n, g.a = n := ⟨_, rfl⟩
  have HC : Hid (∀ x, Below W.heap.size W x → x.cell? ⟨B, 0, none⟩ = some (.int .i64 bb) ∧ x.cell? ⟨B, 3, none⟩ = some (.int .i64 aa)) := fun x hx => by
    have r := HR.out.below hx
    have k0 := r.cell 0 _ rfl
    have k3 := r.cell 3 _ rfl
    rw [hbb] at k0
    rw [haa] at k3
    exact ⟨k0, k3⟩
  rw [hbb, haa] at HOA hbd
  clear r hz hbb haa
  go_enter Try.func18, Try.ntmps18
  go_wp2_with fail
  go_at_call 8
  refine HG.out.mono ?_
  rintro e' x ⟨rfl, hb⟩
  have HBY : Hid (Below w.heap.size w x) := HB.out.trans (hb.mono HB.out.size)
  obtain ⟨c0, c3⟩ := HC.out x hb
  clear hb L0
  cases z with
  | false =>
    have hv : Hid (g.oA i = 0) := by show _ = _; rw [HOA.out, if_neg (by simp)]
    clear hbd
    go_wp2_with fail
    go_ret
    rw [hv.out]
    exact ⟨rfl, HBY.out⟩
  | true =>
    obtain ⟨hb1, hb2, hb3⟩ := hbd rfl
    clear hbd
    by_cases h1 : 0 ≤ i
    · have g1 : decide (0 ≤ i) = true := by simpa using h1
      have g1' : decide (i ≥ 0) = true := g1
      by_cases h2 : i < aa
      · have g2 : decide (i < aa) = true := by simpa using h2
        have hv : Hid (g.oA i = bb + i) := by show _ = _; rw [HOA.out, if_pos ⟨rfl, h1, h2⟩]
        go_wp2_with fail
        go_ret
        rw [hv.out]
        exact ⟨rfl, HBY.out⟩
      · have g2 : decide (i < aa) = false := by simpa using h2
        have hv : Hid (g.oA i = 0) := by show _ = _; rw [HOA.out, if_neg (fun h => h2 h.2.2)]
        go_wp2_with fail
        go_ret
        rw [hv.out]
        exact ⟨rfl, HBY.out⟩
    · have g1 : decide (0 ≤ i) = false := by simpa using h1
      have g1' : decide (i ≥ 0) = false := g1
      have hv : Hid (g.oA i = 0) := by show _ = _; rw [HOA.out, if_neg (fun h => h1 h.2.1)]
      go_wp2_with fail
      go_ret
      rw [hv.out]
      exact ⟨rfl, HBY.out⟩
end
/-- All numbers of a geometry are numbers. -/
def Geo.In (g : Geo) : Prop := ∀ n ∈ [g.b, g.s, g.y, g.a, g.r], -9223372036854775808 ≤ n ∧ n ≤ 9223372036854775807
/-- What is promised of the nine. -/
structure GeomOk : Prop where
  good : ∀ (g : Geo), g.In → ∀ w : World, Calls Try.prog 7 #[.agg g.v] w fun e w' => e = .returned (.bool (decide g.good)) ∧ Below w.heap.size w w'
  bytes : ∀ (g : Geo), g.In → ∀ w : World, Calls Try.prog 9 #[.agg g.v] w fun e w' => e = .returned (.int .i64 g.oB) ∧ Below w.heap.size w w'
  pages : ∀ (g : Geo), g.In → ∀ w : World, Calls Try.prog 10 #[.agg g.v] w fun e w' => e = .returned (.int .i64 g.oP) ∧ Below w.heap.size w w'
  ring : ∀ (g : Geo), g.In → ∀ w : World, Calls Try.prog 11 #[.agg g.v] w fun e w' => e = .returned (.int .i64 g.oR) ∧ Below w.heap.size w w'
  home : ∀ (g : Geo), g.In → ∀ w : World, Calls Try.prog 12 #[.agg g.v] w fun e w' => e = .returned (.int .i64 g.oH) ∧ Below w.heap.size w w'
  slot : ∀ (g : Geo), g.In → ∀ (i : Int), -9223372036854775808 ≤ i → i ≤ 9223372036854775807 → ∀ w : World, Calls Try.prog 15 #[.agg g.v, .int .i64 i] w fun e w' => e = .returned (.int .i64 (g.oS i)) ∧ Below w.heap.size w w'
  area : ∀ (g : Geo), g.In → ∀ (i : Int), -9223372036854775808 ≤ i → i ≤ 9223372036854775807 → ∀ w : World, Calls Try.prog 17 #[.agg g.v, .int .i64 i] w fun e w' => e = .returned (.int .i64 (g.oA i)) ∧ Below w.heap.size w w'
  fast : ∀ (g : Geo), g.In → ∀ w : World, Calls Try.prog 13 #[.agg g.v] w fun e w' => e = .returned (.int .i64 g.oF) ∧ Below w.heap.size w w'
  slow : ∀ (g : Geo), g.In → ∀ w : World, Calls Try.prog 14 #[.agg g.v] w fun e w' => e = .returned (.int .i64 g.oW) ∧ Below w.heap.size w w'
end Go.Proofs.Ytnffaekbldcphaa
