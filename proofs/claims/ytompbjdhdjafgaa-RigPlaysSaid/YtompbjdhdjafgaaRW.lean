/- Read, Write, New. -/
import Derived.Test.YtompbjdhdjafgaaDsk
namespace Go.Proofs.Ytompbjdhdjafgaa
open Go.RowKit
set_option linter.unusedVariables false
attribute [-simp] Try.isAgg38 Try.zeroValue38
attribute [-go_sem] loadVar storeVar
attribute [local go_sem] zero_blk build_blk loadVar_open storeVar_open

set_option maxRecDepth 100000 in
set_option maxHeartbeats 1000000 in
/-- **Read**, where there is no such sector. -/
theorem read_no (p : Option Addr) (n : Nat) (i : Int) (w : World) (hl : ∀ w', Below w.heap.size w w' → Calls Try.prog 42 #[.pointer p] w' fun e w'' => e = .returned (.int .i64 (n : Int)) ∧ w'' = w') (hi : ¬ (0 ≤ i ∧ i < (n : Int))) :
    Calls Try.prog 35 #[.pointer p, .int .i64 i] w fun e w' => e = .returned (.tuple #[.agg (fillB 0).toArray, .int .i64 1]) ∧ Below w.heap.size w w' := by
  obtain ⟨W, hW⟩ : ∃ W, w.alloc (.cells zarr 38) = W := ⟨_, rfl⟩
  have hB : Below w.heap.size w W := by rw [← hW]; exact (Below.refl _ w).alloc (Nat.le_refl _) _
  have HH := Lib.hid (has_of p n i W (hl W hB))
  have HE : Hid (decide (0 ≤ i ∧ i < (n : Int)) = false) := by show _ = _; simpa using hi
  have S : (storeVar 38 ⟨w.heap.size, 0, none⟩ (.agg zarr)).run Try.prog W = .ok () W := by rw [← hW]; exact store_new (c' := fillB 0) zarr_size (isBlk_fill 0)
  have R : (loadVar 38 ⟨w.heap.size, 0, none⟩).run Try.prog W = .ok (.agg (fillB 0).toArray) W := by rw [← hW]; exact load_new (w := w) zarr_size
  have HB := Lib.hid hB
  clear hl hi hB
  go_enter Try.func35, Try.ntmps35
  go_wp2_with fail
  refine HH.out.mono ?_
  rintro e w' ⟨rfl, rfl⟩
  rw [HE.out]
  go_wp2_with fail
  exact bodyPost_ret (results_cell2 rfl rfl R) rfl ⟨rfl, HB.out⟩

set_option maxRecDepth 100000 in
set_option maxHeartbeats 1000000 in
/-- **Read**. -/
theorem read_yes (rb n i : Nat) (f : Nat → Prop) (D : Nat → Sec) (w : World) (h : Disk w rb n f D) (hi : i < n) :
    Calls Try.prog 35 #[.pointer (some ⟨rb, 0, none⟩), .int .i64 (i : Int)] w fun e w' => e = .returned (.tuple #[.agg (D i).look.toArray, .int .i64 0]) ∧ Below w.heap.size w w' := by
  obtain ⟨W, hW⟩ : ∃ W, w.alloc (.cells zarr 38) = W := ⟨_, rfl⟩
  have hB : Below w.heap.size w W := by rw [← hW]; exact (Below.refl _ w).alloc (Nat.le_refl _) _
  have h' := h.below (by omega) hB
  have hok : IsBlk (D i).look := (h.ok hi).look
  have HH := Lib.hid (has_of _ n (i : Int) W (len_at rb n f D W h'))
  have HE : Hid (decide (0 ≤ (i : Int) ∧ (i : Int) < (n : Int)) = true) := by show _ = _; simp; omega
  obtain ⟨sb, sv, hd, rfl⟩ := h'
  have c1 := hd.head.cell
  have HY := Lib.hid (yields_at 0 sb (i * 65) (D i) (sv i) W (hd.secs i hi))
  obtain ⟨u, hu⟩ : ∃ u, (D i).look = u := ⟨_, rfl⟩
  rw [hu] at HY hok ⊢
  have g1 : (i : Int) < (n : Int) := by omega
  -- the result's cell, behind what the sector has yielded
  have K : Hid (∀ w', Below W.heap.size W w' → ∃ w'', (storeVar 38 ⟨w.heap.size, 0, none⟩ (.agg u.toArray)).run Try.prog w' = .ok () w'' ∧ (loadVar 38 ⟨w.heap.size, 0, none⟩).run Try.prog w'' = .ok (.agg u.toArray) w'' ∧ Below w.heap.size w w'') := by
    intro w' hb
    have hlt : w.heap.size < W.heap.size := by rw [← hW]; simp
    have hblk : w'.heap[w.heap.size]? = some (.cells zarr 38 (0, 0)) := (hb.block _ hlt).trans (by rw [← hW]; exact heap_alloc_new w _)
    have ht : w'.there w.heap.size 0 64 := fun j hj => by
      have hcell := cell_of_row w' w.heap.size (0 + j) zarr _ _ hblk
      refine ⟨?_, ?_⟩
      · rw [hcell]; simp [zarr_size]; omega
      · simp [World.frozen?, hblk]
    have hs := store_blk ht hok
    refine ⟨_, hs, load_blk (World.rangeAt_setCells_same w' _ 0 u (by rw [hok.length]; exact ht)) hok.length, ?_⟩
    exact hB.trans ((hb.mono (Nat.le_of_lt hlt)).trans (below_setCells (Nat.le_refl _) _ _ _))
  clear hd hB h hok hi hu
  go_enter Try.func35, Try.ntmps35
  go_wp2_with fail
  clear hW
  refine HH.out.mono ?_
  rintro e w' ⟨rfl, rfl⟩
  rw [HE.out]
  go_wp2_with fail
  refine HY.out.mono ?_
  rintro e w' ⟨rfl, hb⟩
  obtain ⟨w'', S, R, hB2⟩ := K.out w' hb
  have HB2 := Lib.hid hB2
  clear hb hB2
  go_wp2_with fail
  exact bodyPost_ret (results_cell2 rfl rfl R) rfl ⟨rfl, HB2.out⟩
end Go.Proofs.Ytompbjdhdjafgaa
