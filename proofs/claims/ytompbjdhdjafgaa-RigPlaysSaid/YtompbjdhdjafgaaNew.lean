/- New. -/
import Derived.Test.YtompbjdhdjafgaaWr
namespace Go.Proofs.Ytompbjdhdjafgaa
open Go.RowKit
set_option linter.unusedVariables false
attribute [-simp] Try.isAgg38 Try.zeroValue38
attribute [-go_sem] loadVar storeVar
attribute [local go_sem] zero_blk build_blk loadVar_open storeVar_open

/-- A sector of zeros. -/
def zsec : Sec := ⟨fillB 0, []⟩
theorem zsec_ok : zsec.Ok := ⟨isBlk_fill 0, fun v hv => by cases hv⟩
/-- Its cells. -/
def zcells : Array Value := (fillB 0 ++ [Value.slice none 0 0]).toArray
theorem zcells_size : zcells.size = 65 := by simp [zcells, fillB]
theorem info_sec : (Try.prog.info? 88).map (fun i => (i.zero, i.size, i.bytes)) = some (some (.agg zcells), 65, 88) := by kernel_rfl

theorem made_get (z : Array Value) (k : Nat) (hz : z.size = k) (hk : 0 < k) (n i j : Nat) (hi : i < n) (hj : j < k) : (madeCells z (n * k))[i * k + j]? = z[j]? := by
  have h1 : i * k + j < n * k := by
    have : (i + 1) * k ≤ n * k := Nat.mul_le_mul_right k hi
    rw [Nat.add_mul] at this; omega
  have h2 : (i * k + j) % k = j := by rw [Nat.mul_comm, Nat.mul_add_mod, Nat.mod_eq_of_lt hj]
  unfold madeCells
  simp only [Array.getElem?_map, hz]
  rw [Array.getElem?_range, if_pos h1]
  simp only [Option.map_some, h2]
  rw [getElem!_pos z j (by omega), Array.getElem?_eq_getElem (by omega)]

theorem ownsRow_full {w : World} {base e n g size : Nat} {xs : List Value} (h : w.ownsRow base e size (.slice (some ⟨g, 0, none⟩) n n) n xs) : w.heap[g]? = some (.cells xs.toArray e (0, 0)) := by
  rcases h.2 with ⟨h', _⟩ | ⟨g', cap, cur, h', _, hg, _, _, hs, ht⟩
  · simp at h'
  · simp only [Value.slice.injEq, Option.some.injEq, Addr.mk.injEq, and_true, true_and] at h'
    obtain ⟨rfl, rfl⟩ := h'
    rw [hg, ← ht, List.take_of_length_le (by rw [Array.length_toList]; omega)]

/-- Zeros are a disk. -/
theorem disk_zero {w : World} {rb sb n : Nat} (hr : Boxed w rb 85 (.slice (some ⟨sb, 0, none⟩) n n)) (hs : w.heap[sb]? = some (.cells (madeCells zcells (n * 65)) 88 (0, 0))) (hne : rb ≠ sb) (hn : n ≤ 4096) :
    DskAt w rb sb n (fun _ => .slice none 0 0) (fun _ => zsec) := by
  have hc : ∀ i j, i < n → j < 65 → w.cell? ⟨sb, i * 65 + j, none⟩ = zcells[j]? := fun i j hi hj => by
    rw [cell_of_row _ _ _ _ _ _ hs]; exact made_get zcells 65 zcells_size (by omega) n i j hi hj
  refine ⟨hr, hne, hn, fun i hi => ⟨zsec_ok, fun j x hx => ?_, ?_, fun j hj => ⟨?_, by simp [World.frozen?, hs]⟩, World.ownsRow_nil _ _ _ _, by simp [Value.ownBlock]⟩, fun _ _ => by simp [Value.ownBlock], fun _ _ _ _ _ _ h => by simp [Value.ownBlock] at h⟩
  · have hj : j < 64 := by have := (List.getElem?_eq_some_iff.1 hx).1; rw [zsec_ok.1.length] at this; exact this
    rw [hc i j hi (by omega), ← hx]
    show ((fillB 0 ++ [Value.slice none 0 0]).toArray)[j]? = (fillB 0)[j]?
    rw [List.getElem?_toArray, List.getElem?_append_left (by rw [(isBlk_fill 0).length]; exact hj)]
  · rw [hc i 64 hi (by omega)]; rfl
  · rw [hc i j hi hj, Array.getElem?_eq_getElem (by rw [zcells_size]; exact hj)]; rfl

set_option maxRecDepth 100000 in
set_option maxHeartbeats 1000000 in
/-- **New**, of no size that there is. -/
theorem new_no (n : Int) (w : World) (h : n < 1 ∨ 4096 < n) :
    Calls Try.prog 26 #[.int .i64 n] w fun e w' => e = .returned (.tuple #[.pointer none, .int .i64 1]) ∧ w' = w := by
  by_cases h1 : n < 1
  · have g1 : decide (n < 1) = true := by simpa using h1
    clear h
    go_enter Try.func26, Try.ntmps26
    go_wp2_with fail
    go_ret2
    exact ⟨rfl, rfl⟩
  · have g1 : decide (n < 1) = false := by simpa using h1
    have g2 : decide (4096 < n) = true := by simp; omega
    clear h h1
    go_enter Try.func26, Try.ntmps26
    go_wp2_with fail
    go_ret2
    exact ⟨rfl, rfl⟩

set_option maxRecDepth 100000 in
set_option maxHeartbeats 1000000 in
/-- **New**. -/
theorem new_yes (n : Nat) (w : World) (h1 : 1 ≤ n) (h2 : n ≤ 4096) :
    Calls Try.prog 26 #[.int .i64 (n : Int)] w fun e w' => ∃ rb, e = .returned (.tuple #[.pointer (some ⟨rb, 0, none⟩), .int .i64 0]) ∧ (∃ f, Disk w' rb n f (fun _ => zsec) ∧ ∀ k, f k → w.heap.size ≤ k) ∧ Below w.heap.size w w' := by
  obtain ⟨i0, hi, hz0, hz1, hz2⟩ := info_parts info_sec
  have g1 : decide ((n : Int) < 1) = false := by simp; omega
  have g2 : decide (4096 < (n : Int)) = false := by simp; omega
  go_enter Try.func26, Try.ntmps26
  go_wp2_with (first | (at_make; refine wpList_make_full _ rfl _ _ 83 rfl w.heap.size 88 i0 (.agg zcells) 65 Try.underlying83 hi hz0 hz1 .i64 .i64 _ _ n rfl rfl rfl rfl (by rw [hz2]; omega) (by unfold maxLen; omega) (by simp) ?_; intro w1 hown1 hgrow1))
  have hrow := ownsRow_full hown1
  rw [show (Value.agg zcells).cells = zcells from rfl] at hrow
  have hlt : w.heap.size < w1.heap.size := (Array.getElem?_eq_some_iff.1 hrow).1
  go_ret2
  refine ⟨_, rfl, ⟨_, ⟨w.heap.size, _, disk_zero (Boxed.new _ _ _) ?_ (by omega) h2, rfl⟩, ?_⟩, ?_⟩
  · rw [Below.heap_alloc _ _ _ hlt]; simpa using hrow
  · intro k hk
    rcases hk with rfl | rfl | ⟨i, hi, hk⟩
    · omega
    · omega
    · simp [Value.ownBlock] at hk
  · exact ((Below.refl _ w).grown hgrow1 (Nat.le_refl _) (fun k e => by cases e)).alloc (by omega) _
end Go.Proofs.Ytompbjdhdjafgaa
