/- The document's own disk: New. -/
import Derived.Test.YtompbjdhdjafgaaRef3
namespace Go.Proofs.Ytompbjdhdjafgaa
open Go.RowKit
set_option linter.unusedVariables false
attribute [-simp] Try.isAgg38 Try.zeroValue38
attribute [-go_sem] loadVar storeVar
attribute [local go_sem] zero_blk build_blk loadVar_open storeVar_open

theorem info_vs : (Try.prog.info? 54).map (fun i => (i.zero, i.size, i.bytes)) = some (some (.slice none 0 0), 1, 24) := by kernel_rfl

/-- Zeros are a disk. -/
theorem ref_zero {w : World} {rq ss vb n : Nat} (hr : w.heap[rq]? = some (.cells #[.slice (some ⟨ss, 0, none⟩) n n, .slice (some ⟨vb, 0, none⟩) n n] 57 (0, 0))) (hs : w.heap[ss]? = some (.cells (madeCells zarr (n * 64)) 38 (0, 0)))
    (hv : w.heap[vb]? = some (.cells (madeCells #[.slice none 0 0] (n * 1)) 54 (0, 0))) (d1 : rq ≠ ss) (d2 : rq ≠ vb) (d3 : ss ≠ vb) (hn : n ≤ 4096) :
    RefAt w rq ss vb n (fun _ => .slice none 0 0) (fun _ => zsec) := by
  have hc : ∀ i j, i < n → j < 64 → w.cell? ⟨ss, i * 64 + j, none⟩ = zarr[j]? := fun i j hi hj => by
    rw [cell_of_row _ _ _ _ _ _ hs]; exact made_get zarr 64 zarr_size (by omega) n i j hi hj
  have hcv : ∀ i, i < n → w.cell? ⟨vb, i, none⟩ = some (.slice none 0 0) := fun i hi => by
    have := made_get #[Value.slice none 0 0] 1 rfl (by omega) n i 0 hi (by omega)
    rw [cell_of_row _ _ _ _ _ _ hv]
    rw [Nat.mul_one, Nat.add_zero] at this
    simpa using this
  refine ⟨hr, d1, d2, d3, hn, fun _ _ => zsec_ok, fun i hi j x hx => ?_, fun j hj => ⟨?_, by simp [World.frozen?, hs]⟩, hcv, fun j hj => ⟨?_, by simp [World.frozen?, hv]⟩, fun _ _ => World.ownsRow_nil _ _ _ _, fun _ _ => by simp [Value.ownBlock], fun _ _ => by simp [Value.ownBlock], fun _ _ => by simp [Value.ownBlock]⟩
  · have hj : j < 64 := by have := (List.getElem?_eq_some_iff.1 hx).1; rw [zsec_ok.1.length] at this; exact this
    rw [hc i j hi hj, ← hx]
    show (fillB 0).toArray[j]? = (fillB 0)[j]?
    rw [List.getElem?_toArray]
  · have h1 := hc (j / 64) (j % 64) (by omega) (by omega)
    rw [show j / 64 * 64 + j % 64 = j by omega] at h1
    rw [Nat.zero_add, h1, Array.getElem?_eq_getElem (by rw [zarr_size]; omega)]; rfl
  · rw [Nat.zero_add, hcv j hj]; rfl

theorem new_end {w W W' : World} {ss vb n : Nat} (hs : W.heap[ss]? = some (.cells (madeCells zarr (n * 64)) 38 (0, 0))) (hv : W.heap[vb]? = some (.cells (madeCells #[.slice none 0 0] (n * 1)) 54 (0, 0)))
    (hne : ss ≠ vb) (b1 : w.heap.size ≤ ss) (b2 : w.heap.size ≤ vb) (hB : Below w.heap.size w W) (hn : n ≤ 4096)
    (hW' : W' = W.alloc (.cells #[.slice (some ⟨ss, 0, none⟩) n n, .slice (some ⟨vb, 0, none⟩) n n] 57 (0, 0))) :
    (∃ f, Ref W' W.heap.size n f (fun _ => zsec) ∧ ∀ k, f k → w.heap.size ≤ k) ∧ Below w.heap.size w W' := by
  subst hW'
  have l1 := (Array.getElem?_eq_some_iff.1 hs).1
  have l2 := (Array.getElem?_eq_some_iff.1 hv).1
  have hsz : w.heap.size ≤ W.heap.size := by omega
  refine ⟨⟨_, ⟨ss, vb, fun _ => .slice none 0 0, ref_zero ?_ ?_ ?_ (by omega) (by omega) hne hn, rfl⟩, ?_⟩, hB.alloc hsz _⟩
  · show (W.heap.push _)[W.heap.size]? = _; simp
  · rw [Below.heap_alloc _ _ _ l1]; exact hs
  · rw [Below.heap_alloc _ _ _ l2]; exact hv
  · rintro k (rfl | rfl | rfl | ⟨i, hi, hk⟩)
    · exact hsz
    · exact b1
    · exact b2
    · simp [Value.ownBlock] at hk

set_option maxRecDepth 100000 in
set_option maxHeartbeats 1000000 in
theorem refNew_no (n : Int) (w : World) (h : n < 1 ∨ 4096 < n) :
    Calls Try.prog 27 #[.int .i64 n] w fun e w' => e = .returned (.tuple #[.pointer none, .int .i64 1]) ∧ w' = w := by
  by_cases h1 : n < 1
  · have g1 : decide (n < 1) = true := by simpa using h1
    clear h
    go_enter Try.func27, Try.ntmps27
    go_wp2_with fail
    go_ret2
    exact ⟨rfl, rfl⟩
  · have g1 : decide (n < 1) = false := by simpa using h1
    have g2 : decide (4096 < n) = true := by simp; omega
    clear h h1
    go_enter Try.func27, Try.ntmps27
    go_wp2_with fail
    go_ret2
    exact ⟨rfl, rfl⟩

set_option maxRecDepth 100000 in
set_option maxHeartbeats 1000000 in
/-- **New**. -/
theorem refNew_yes (n : Nat) (w : World) (h1 : 1 ≤ n) (h2 : n ≤ 4096) :
    Calls Try.prog 27 #[.int .i64 (n : Int)] w fun e w' => ∃ rq, e = .returned (.tuple #[.pointer (some ⟨rq, 0, none⟩), .int .i64 0]) ∧ (∃ f, Ref w' rq n f (fun _ => zsec) ∧ ∀ k, f k → w.heap.size ≤ k) ∧ Below w.heap.size w w' := by
  obtain ⟨i0, hi, hz0, hz1, hz2⟩ := info_parts info_blk
  obtain ⟨i1, hj, hy0, hy1, hy2⟩ := info_parts info_vs
  have g1 : decide ((n : Int) < 1) = false := by simp; omega
  have g2 : decide (4096 < (n : Int)) = false := by simp; omega
  have hmx : Try.prog.follows .mixedOrders = true := by kernel_rfl
  go_enter Try.func27, Try.ntmps27
  go_wp2_with fail
  refine region_plan (fun _ => True) 4 (.takes [0, 2] (.two 1 3 (.one 3 .leaf) (.one 1 .leaf))) hmx (by kernel_rfl) (by intro c x v a w h; cases x <;> exact h) trivial ?_
  haveI : Nonempty {x : World // True} := ⟨⟨w, trivial⟩⟩
  repeat (rw [wpPlan_takes_cons]; simp only [nth_zero, nth_succ]; go_big_quiet_step (fail); refine wpQuiet_nil ?_)
  rw [wpPlan_takes_nil]
  refine ⟨?_, ?_⟩
  · simp only [nth_zero, nth_succ]
    go_wp2_with (first | (at_make; refine wpList_make_full _ rfl _ _ 54 rfl w.heap.size 38 i0 (.agg zarr) 64 Try.underlying54 hi hz0 hz1 .i64 .i64 _ _ n rfl rfl rfl rfl (by rw [hz2]; omega) (by unfold maxLen; omega) (by simp) ?_; intro w1 hown1 hgrow1))
    refine planPost_mk trivial ?_
    rw [wpPlan_one]
    simp only [nth_zero, nth_succ]
    go_wp2_with (first | (at_make; refine wpList_make_full _ rfl _ _ 55 rfl w.heap.size 54 i1 (.slice none 0 0) 1 Try.underlying55 hj hy0 hy1 .i64 .i64 _ _ n rfl rfl rfl rfl (by rw [hy2]; omega) (by unfold maxLen; omega) (by have := hgrow1.size; simp at this; omega) ?_; intro w2 hown2 hgrow2))
    refine planPost_mk trivial ?_
    rw [wpPlan_leaf]
    simp only [List.drop_succ_cons, List.drop_zero]
    go_wp2_with fail
    have hr1 := ownsRow_full hown1
    have hr2 := ownsRow_full hown2
    rw [Array.toArray_toList] at hr1 hr2
    have hl1 := (Array.getElem?_eq_some_iff.1 hr1).1
    have hB := (((Below.refl w.heap.size w).drew).grown hgrow1 (Nat.le_refl _) (fun k e => by cases e)).grown hgrow2 (by have := hgrow1.size; simp at this; omega) (fun k e => by cases e)
    have hE := new_end (w := w) (W := w2) (ss := w.heap.size) (vb := w1.heap.size) (n := n) (by rw [hgrow2.block w.heap.size hl1 (by simp)]; exact hr1) hr2 (by have : w.heap.size < w1.heap.size := hl1; omega) (Nat.le_refl _) (by have : w.heap.size < w1.heap.size := hl1; omega) hB h2 rfl
    go_ret2
    exact ⟨_, rfl, hE⟩
  · simp only [nth_zero, nth_succ]
    go_wp2_with (first | (at_make; refine wpList_make_full _ rfl _ _ 55 rfl w.heap.size 54 i1 (.slice none 0 0) 1 Try.underlying55 hj hy0 hy1 .i64 .i64 _ _ n rfl rfl rfl rfl (by rw [hy2]; omega) (by unfold maxLen; omega) (by simp) ?_; intro w1 hown1 hgrow1))
    refine planPost_mk trivial ?_
    rw [wpPlan_one]
    simp only [nth_zero, nth_succ]
    go_wp2_with (first | (at_make; refine wpList_make_full _ rfl _ _ 54 rfl w.heap.size 38 i0 (.agg zarr) 64 Try.underlying54 hi hz0 hz1 .i64 .i64 _ _ n rfl rfl rfl rfl (by rw [hz2]; omega) (by unfold maxLen; omega) (by have := hgrow1.size; simp at this; omega) ?_; intro w2 hown2 hgrow2))
    refine planPost_mk trivial ?_
    rw [wpPlan_leaf]
    simp only [List.drop_succ_cons, List.drop_zero]
    go_wp2_with fail
    have hr1 := ownsRow_full hown1
    have hr2 := ownsRow_full hown2
    rw [Array.toArray_toList] at hr1 hr2
    have hl1 := (Array.getElem?_eq_some_iff.1 hr1).1
    have hB := (((Below.refl w.heap.size w).drew).grown hgrow1 (Nat.le_refl _) (fun k e => by cases e)).grown hgrow2 (by have := hgrow1.size; simp at this; omega) (fun k e => by cases e)
    have hE := new_end (w := w) (W := w2) (ss := w1.heap.size) (vb := w.heap.size) (n := n) hr2 (by rw [hgrow2.block w.heap.size hl1 (by simp)]; exact hr1) (by have : w.heap.size < w1.heap.size := hl1; omega) (by have : w.heap.size < w1.heap.size := hl1; omega) (Nat.le_refl _) hB h2 rfl
    go_ret2
    exact ⟨_, rfl, hE⟩
end Go.Proofs.Ytompbjdhdjafgaa
