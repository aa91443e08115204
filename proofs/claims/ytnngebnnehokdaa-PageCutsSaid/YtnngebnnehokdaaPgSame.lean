/- The statements' own way of holding a marked sector against the document's. -/
import Derived.Test.YtnngebnnehokdaaPgBod
namespace Go.Proofs.Ytnngebnnehokdaa
open Go.RowKit
set_option linter.unusedVariables false
attribute [-simp] Try.isAgg27 Try.zeroValue27 Try.isAgg23 Try.zeroValue23
attribute [-go_sem] loadVar storeVar
attribute [local go_sem] zero_blk build_blk zero_bod loadVar_open3 storeVar_open

/-- Two bodies held against each other. -/
theorem eq_bod_at (d : Nat) {xs ys : List Int} (hx : xs.length = 48) (hy : ys.length = 48) (w : World) : (Op.equalIn (d + 2) 23 (.agg (u8s xs).toArray) (.agg (u8s ys).toArray)).run Try.prog w = .ok (alike (u8s xs) (u8s ys)) w := by
  obtain ⟨i0, hi⟩ : ∃ i, Try.prog.info? 5 = some i := ⟨_, rfl⟩
  unfold u8s
  rw [run_equalIn_array w (d + 1) (xs.map (Value.int .u8)).toArray (ys.map (Value.int .u8)).toArray under_bod hi, show Try.prog.cellsOf 5 = 1 from by kernel_rfl,
    run_eqItems_ints (d := d) (by kernel_rfl) (by kernel_rfl) xs ys w (List.range 48) (fun i hi => by have := List.mem_range.1 hi; omega)]
  congr 1
  rw [Bool.eq_iff_iff, alike_iff, List.all_eq_true]
  constructor
  · intro h
    congr 1
    apply List.ext_getElem (by omega)
    intro i h1 h2
    have := h i (List.mem_range.2 (by omega))
    simpa [h1, h2] using this
  · intro h i hi
    have hxy : xs = ys := by
      have e := congrArg (List.map intOf) h
      rw [List.map_map, List.map_map, show intOf ∘ Value.int .u8 = id from by funext x; rfl] at e
      simpa using e
    simp [hxy]

theorem eq_bod {xs ys : List Int} (hx : xs.length = 48) (hy : ys.length = 48) (w : World) : (Op.equalIn 10000 23 (.agg (u8s xs).toArray) (.agg (u8s ys).toArray)).run Try.prog w = .ok (alike (u8s xs) (u8s ys)) w := eq_bod_at 9998 hx hy w

noncomputable def sameS (p q : Sct) : Bool := p.mark == q.mark && (p.seq == q.seq && (p.index == q.index && alike (u8s p.body) (u8s q.body)))
theorem sameS_iff {p q : Sct} : sameS p q = true ↔ p = q := by
  unfold sameS
  rw [Bool.and_eq_true, Bool.and_eq_true, Bool.and_eq_true, alike_iff]
  constructor
  · rintro ⟨a, b, c, d⟩
    have e := congrArg (List.map intOf) d
    unfold u8s at e
    rw [List.map_map, List.map_map, show intOf ∘ Value.int .u8 = id from by funext x; rfl] at e
    cases p; cases q
    simp at a b c e
    simp [a, b, c, e]
  · rintro rfl
    simp

set_option maxRecDepth 100000 in
set_option maxHeartbeats 1600000 in
theorem same_any (p q : Sct) (hp : p.body.length = 48) (hq : q.body.length = 48) (w : World) :
    Calls Try.prog 13 #[.agg p.cells.toArray, .agg q.cells.toArray] w fun e w' => e = .returned (.bool (sameS p q)) ∧ Below w.heap.size w w' := by
  obtain ⟨W1, hW1⟩ : ∃ W1, w.alloc (.cells p.cells.toArray 25) = W1 := ⟨_, rfl⟩
  obtain ⟨W, hW⟩ : ∃ W, W1.alloc (.cells q.cells.toArray 33) = W := ⟨_, rfl⟩
  have hB1 : Below w.heap.size w W1 := by rw [← hW1]; exact (Below.refl _ _).alloc (Nat.le_refl _) _
  have hz1 : W1.heap.size = w.heap.size + 1 := by rw [← hW1]; simp
  have hB2 : Below W1.heap.size W1 W := by rw [← hW]; exact (Below.refl _ _).alloc (Nat.le_refl _) _
  have HB : Hid (Below w.heap.size w W) := hB1.trans (hB2.mono hB1.size)
  have r1 : W.heap[w.heap.size]? = some (.cells p.cells.toArray 25 (0, 0)) := (hB2.block _ (by omega)).trans (by rw [← hW1]; exact heap_alloc_new w _)
  have r2 : W.heap[w.heap.size + 1]? = some (.cells q.cells.toArray 33 (0, 0)) := by
    have := heap_alloc_new W1 (.cells q.cells.toArray 33)
    rw [hW, hz1] at this
    exact this
  have a0 : W.cell? ⟨w.heap.size, 0, none⟩ = some (.int .u8 p.mark) := cell_of_row W _ 0 _ _ _ r1
  have a1 : W.cell? ⟨w.heap.size, 1, none⟩ = some (.int .u32 p.seq) := cell_of_row W _ 1 _ _ _ r1
  have a2 : W.cell? ⟨w.heap.size, 2, none⟩ = some (.int .i64 p.index) := cell_of_row W _ 2 _ _ _ r1
  have b0 : W.cell? ⟨w.heap.size + 1, 0, none⟩ = some (.int .u8 q.mark) := cell_of_row W _ 0 _ _ _ r2
  have b1 : W.cell? ⟨w.heap.size + 1, 1, none⟩ = some (.int .u32 q.seq) := cell_of_row W _ 1 _ _ _ r2
  have b2 : W.cell? ⟨w.heap.size + 1, 2, none⟩ = some (.int .i64 q.index) := cell_of_row W _ 2 _ _ _ r2
  have a3 := load_bod (row_part (a := [.int .u8 p.mark, .int .u32 p.seq, .int .i64 p.index]) (b := u8s p.body) r1) (by rw [u8s_length, hp])
  have b3 := load_bod (row_part (a := [.int .u8 q.mark, .int .u32 q.seq, .int .i64 q.index]) (b := u8s q.body) r2) (by rw [u8s_length, hq])
  have A3 : Hid ((loadVar 23 ⟨w.heap.size, 3, none⟩).run Try.prog W = .ok (.agg (u8s p.body).toArray) W) := a3
  have B3 : Hid ((loadVar 23 ⟨w.heap.size + 1, 3, none⟩).run Try.prog W = .ok (.agg (u8s q.body).toArray) W) := b3
  have EQ := Lib.hid (eq_bod hp hq W)
  have hs : sameS p q = (p.mark == q.mark && (p.seq == q.seq && (p.index == q.index && alike (u8s p.body) (u8s q.body)))) := rfl
  obtain ⟨u, hu⟩ : ∃ u, alike (u8s p.body) (u8s q.body) = u := ⟨_, rfl⟩
  rw [hs]
  rw [hu] at EQ ⊢
  clear hs hu a3 b3 r1 r2 hB1 hB2
  by_cases e0 : p.mark = q.mark
  · have g0 : (p.mark == q.mark) = true := by simpa using e0
    by_cases e1 : p.seq = q.seq
    · have g1 : (p.seq == q.seq) = true := by simpa using e1
      by_cases e2 : p.index = q.index
      · have g2 : (p.index == q.index) = true := by simpa using e2
        rw [g0, g1, g2]
        clear e0 e1 e2
        have L3 := A3.out
        have M3 := B3.out
        have Q3 := EQ.out
        go_enter Try.func13, Try.ntmps13
        go_wp2_with fail
        go_ret
        exact ⟨rfl, HB.out⟩
      · have g2 : (p.index == q.index) = false := by simpa using e2
        rw [g0, g1, g2]
        clear e0 e1 e2
        go_enter Try.func13, Try.ntmps13
        go_wp2_with fail
        go_ret
        exact ⟨rfl, HB.out⟩
    · have g1 : (p.seq == q.seq) = false := by simpa using e1
      rw [g0, g1]
      clear e0 e1
      go_enter Try.func13, Try.ntmps13
      go_wp2_with fail
      go_ret
      exact ⟨rfl, HB.out⟩
  · have g0 : (p.mark == q.mark) = false := by simpa using e0
    rw [g0]
    clear e0
    go_enter Try.func13, Try.ntmps13
    go_wp2_with fail
    go_ret
    exact ⟨rfl, HB.out⟩
end Go.Proofs.Ytnngebnnehokdaa
