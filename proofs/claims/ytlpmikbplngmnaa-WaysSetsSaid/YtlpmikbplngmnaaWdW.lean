/- The statements' own trial of a map. -/
import Derived.Test.YtlpmikbplngmnaaWdN
namespace Go.Proofs.Ytlpmikbplngmnaa
open Go.RowKit Go.Shelf Go.Lib
set_option linter.unusedVariables false
set_option linter.unusedSimpArgs false
def wk0 : WM := mNew 2 2
def wk1 : WM := (mRoom wk0 3).2
def wk2 : WM := mPut wk1 2 3 true
def wk3 : WM := (mRoom wk2 5).2
def wk4 : WM := mPut wk3 3 5 false
def wk5 : WM := (mRoom wk4 7).2
def wk6 : WM := mPut wk5 3 7 false
def wk7 : WM := (mDirt wk6 1).2
theorem wk_facts : (mRoom wk0 3).1 = some 2 ∧ (mRoom wk2 5).1 = some 3 ∧ (mRoom wk4 7).1 = some 3 ∧ mFind wk6 3 = some 2 ∧ mFind wk6 5 = none ∧ bkOf wk6 3 = (7, false, true) ∧ (mDirt wk6 1).1 = some 2 ∧ mDirty wk7 = [-1, -1, 3, -1] := by decide +kernel
set_option maxRecDepth 100000 in
theorem slice_int4 (w : World) (a b c d : Int) : (Instr.buildSlice 43 4 #[(0, .int .i64 a), (1, .int .i64 b), (2, .int .i64 c), (3, .int .i64 d)]).run Try.prog w = .ok (.slice (some ⟨w.heap.size, 0, none⟩) 4 4) (w.alloc (.cells #[.int .i64 a, .int .i64 b, .int .i64 c, .int .i64 d] 3)) := by kernel_rfl
theorem sl_row13 {w : World} {g n : Nat} {xs : List Int} (hg : RowC w g 3 (xs.map (Value.int .i64))) (hn : n = xs.length) (h : n ≤ 1000) : Sl .i64 w (.slice (some ⟨g, 0, none⟩) n n) xs := by
  subst hn
  refine ⟨_, _, rfl, Nat.le_refl _, by unfold maxLen; omega, .inr ⟨g, 0, rfl, hg.lt, fun j hj => ?_⟩, fun e => by cases e⟩
  have := hg.cell j _ (by rw [List.getElem?_map, List.getElem?_eq_getElem hj]; rfl)
  rw [Nat.zero_add, List.getElem?_eq_getElem hj]
  exact this

set_option maxRecDepth 100000 in
set_option maxHeartbeats 2000000 in
theorem ways_wakes (w : World) : Calls Try.prog 8 #[] w fun e w' => e = .returned (.bool true) ∧ Below w.heap.size w w' := by
  obtain ⟨f1, f2, f3, f4, f5, f6, f7, f8⟩ := wk_facts
  have H0 := Lib.hid (WAt.new (w0 := w) (Below.refl _ w) 2 2 (by decide) (by decide) (by decide) (by decide))
  have K1 : Hid (∀ q x, WAt w x q wk0 → Calls Try.prog 11 #[q.v, .int .i64 3] x fun e w' => e = .returned (.tuple #[.int .i64 2, .bool true]) ∧ WAt w w' q wk1) := fun q x h => by
    have := h.room 3 (by decide); rw [f1] at this; exact this
  have K2 : Hid (∀ q x, WAt w x q wk1 → Calls Try.prog 13 #[q.v, .int .i64 2, .int .i64 3, .bool true] x fun e w' => e = .returned (.tuple #[]) ∧ WAt w w' q wk2) := fun q x h => h.put 2 3 true (by decide)
  have K3 : Hid (∀ q x, WAt w x q wk2 → Calls Try.prog 11 #[q.v, .int .i64 5] x fun e w' => e = .returned (.tuple #[.int .i64 3, .bool true]) ∧ WAt w w' q wk3) := fun q x h => by
    have := h.room 5 (by decide); rw [f2] at this; exact this
  have K4 : Hid (∀ q x, WAt w x q wk3 → Calls Try.prog 13 #[q.v, .int .i64 3, .int .i64 5, .bool false] x fun e w' => e = .returned (.tuple #[]) ∧ WAt w w' q wk4) := fun q x h => h.put 3 5 false (by decide)
  have K5 : Hid (∀ q x, WAt w x q wk4 → Calls Try.prog 11 #[q.v, .int .i64 7] x fun e w' => e = .returned (.tuple #[.int .i64 3, .bool true]) ∧ WAt w w' q wk5) := fun q x h => by
    have := h.room 7 (by decide); rw [f3] at this; exact this
  have K6 : Hid (∀ q x, WAt w x q wk5 → Calls Try.prog 13 #[q.v, .int .i64 3, .int .i64 7, .bool false] x fun e w' => e = .returned (.tuple #[]) ∧ WAt w w' q wk6) := fun q x h => h.put 3 7 false (by decide)
  have K7 : Hid (∀ q x, WAt w x q wk6 → Calls Try.prog 15 #[q.v, .int .i64 3] x fun e w' => e = .returned (.tuple #[.int .i64 2, .bool true]) ∧ WAt w w' q wk6) := fun q x h => by
    have := h.find 3 (by decide); rw [f4] at this; exact this
  have K8 : Hid (∀ q x, WAt w x q wk6 → Calls Try.prog 15 #[q.v, .int .i64 5] x fun e w' => e = .returned (.tuple #[.int .i64 0, .bool false]) ∧ WAt w w' q wk6) := fun q x h => by
    have := h.find 5 (by decide); rw [f5] at this; exact this
  have K9 : Hid (∀ q x, WAt w x q wk6 → Calls Try.prog 28 #[q.v, .int .i64 3] x fun e w' => e = .returned (.tuple #[.int .i64 7, .bool false, .bool true]) ∧ WAt w w' q wk6) := fun q x h => by
    have := h.block 3; rw [f6] at this; exact this.mono fun e w' h => ⟨h.1, h.2.1⟩
  have K10 : Hid (∀ q x, WAt w x q wk6 → Calls Try.prog 19 #[q.v, .int .i64 1] x fun e w' => e = .returned (.tuple #[.int .i64 2, .bool true]) ∧ WAt w w' q wk7) := fun q x h => by
    have := h.dirtiest 1 (by decide); rw [f7] at this; exact this
  have K11 : Hid (∀ q x, WAt w x q wk7 → Calls Try.prog 27 #[q.v] x fun e w' => ∃ u, e = .returned u ∧ Sl .i64 w' u [-1, -1, 3, -1] ∧ WAt w w' q wk7) := fun q x h => by
    have := h.dirty; rw [f8] at this; exact this.mono fun e w' ⟨u, h⟩ => ⟨u, h.1, h.2.1, h.2.2.1⟩
  have HI : Hid (∀ (u v : Value) (x : World), Sl .i64 x u [-1, -1, 3, -1] → Sl .i64 x v [-1, -1, 3, -1] → Calls Try.prog 29 #[u, v] x fun e w' => e = .returned (.bool true) ∧ Below x.heap.size x w') := fun u v x hu hv => ints_same u v _ x hu hv
  clear f1 f2 f3 f4 f5 f6 f7 f8
  go_enter Try.func8, Try.ntmps8
  go_wp2_with fail
  refine H0.out.mono ?_
  rintro e x ⟨q, rfl, h, -⟩
  have A := Lib.hid h
  clear h
  unfold WPos.v
  go_wp2_with fail
  refine (K1.out q x A.out).mono ?_
  clear A
  rintro e x ⟨rfl, h⟩
  have A := Lib.hid h
  clear h
  go_wp2_with fail
  refine (K2.out q x A.out).mono ?_
  clear A
  rintro e x ⟨rfl, h⟩
  have A := Lib.hid h
  clear h
  go_wp2_with fail
  refine (K3.out q x A.out).mono ?_
  clear A
  rintro e x ⟨rfl, h⟩
  have A := Lib.hid h
  clear h
  go_wp2_with fail
  refine (K4.out q x A.out).mono ?_
  clear A
  rintro e x ⟨rfl, h⟩
  have A := Lib.hid h
  clear h
  go_wp2_with fail
  refine (K5.out q x A.out).mono ?_
  clear A
  rintro e x ⟨rfl, h⟩
  have A := Lib.hid h
  clear h
  go_wp2_with fail
  refine (K6.out q x A.out).mono ?_
  clear A
  rintro e x ⟨rfl, h⟩
  have A := Lib.hid h
  clear h
  go_wp2_with fail
  refine (K7.out q x A.out).mono ?_
  clear A
  rintro e x ⟨rfl, h⟩
  have A := Lib.hid h
  clear h
  go_wp2_with fail
  refine (K8.out q x A.out).mono ?_
  clear A
  rintro e x ⟨rfl, h⟩
  have A := Lib.hid h
  clear h
  go_wp2_with fail
  refine (K9.out q x A.out).mono ?_
  clear A
  rintro e x ⟨rfl, h⟩
  have A := Lib.hid h
  clear h
  go_wp2_with fail
  refine (K10.out q x A.out).mono ?_
  clear A
  rintro e x ⟨rfl, h⟩
  have A := Lib.hid h
  clear h
  go_wp2_with fail
  refine (K11.out q x A.out).mono ?_
  clear A
  rintro e x ⟨u, rfl, hs, h⟩
  obtain ⟨y, hy⟩ : ∃ y, x.alloc (.cells #[.int .i64 (-1), .int .i64 (-1), .int .i64 3, .int .i64 (-1)] 3) = y := ⟨_, rfl⟩
  have SB := slice_int4 x (-1) (-1) 3 (-1)
  rw [hy] at SB
  have HSB := Lib.hid SB
  have hb : Below x.heap.size x y := by rw [← hy]; exact below_new _ _
  have r : RowC y x.heap.size 3 ([-1, -1, 3, -1].map (Value.int .i64)) := by rw [← hy]; exact RowC.new _ _ _
  have A := Lib.hid (h.below hb)
  have S1 := Lib.hid (hs.below hb)
  have S2 := Lib.hid (sl_row13 (xs := [-1, -1, 3, -1]) r rfl (by decide))
  clear h hs hb r SB hy
  obtain ⟨g, hg⟩ : ∃ g, x.heap.size = g := ⟨_, rfl⟩
  rw [hg] at HSB S2
  clear hg
  go_wp2_with ((with_reducible refine gate_build ?_); refine wpList_build_run _ _ _ rfl rfl [(0, _), (1, _), (2, _), (3, _)] _ rfl HSB.out ?_)
  refine (HI.out _ _ y S1.out S2.out).mono ?_
  rintro e z ⟨rfl, hz⟩
  have B2 : Hid (Below w.heap.size w z) := A.out.bel.trans (hz.mono A.out.bel.size)
  clear hz
  go_wp2_with fail
  go_ret
  exact ⟨rfl, B2.out⟩
end Go.Proofs.Ytlpmikbplngmnaa
