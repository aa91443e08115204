/- revetmentkeep.Fill, revetmentkeep.Ints. -/
import Derived.LoopTactic
import Derived.Test.YtompbjdhdjafgaaStep
namespace Go.Proofs.Ytompbjdhdjafgaa
open Go.RowKit
set_option linter.unusedVariables false
attribute [-simp] Try.isAgg38 Try.zeroValue38
attribute [-go_sem] loadVar storeVar
attribute [local go_sem] zero_blk build_blk loadVar_open storeVar_open

/-- The first k bytes are laid. -/
def fillTo (v : Int) (k : Nat) : List Value := List.replicate k (.int .u8 v) ++ List.replicate (64 - k) (.int .u8 0)
theorem fillTo_length (v : Int) (k : Nat) (h : k ≤ 64) : (fillTo v k).length = 64 := by simp [fillTo]; omega
theorem fillTo_zero (v : Int) : (fillTo v 0).toArray = zarr := by simp [fillTo, zarr, fillB]
theorem fillTo_all (v : Int) : fillTo v 64 = fillB v := by simp [fillTo, fillB]
theorem fillTo_get (v : Int) (k : Nat) (h : k < 64) : (fillTo v k)[k]? = some (.int .u8 0) := by
  unfold fillTo
  rw [List.getElem?_append_right (by simp), List.length_replicate, Nat.sub_self]
  rw [List.getElem?_replicate, if_pos (by omega)]
theorem fillTo_next (v : Int) (k : Nat) (h : k < 64) : (fillTo v k).set k (.int .u8 v) = fillTo v (k + 1) := by
  unfold fillTo
  rw [List.set_append_right _ _ (by simp), show 64 - k = (64 - (k + 1)) + 1 by omega, List.replicate_succ (n := 64 - (k + 1))]
  simp [List.replicate_succ']

set_option maxRecDepth 100000 in
set_option maxHeartbeats 2000000 in
/-- **Fill**. -/
theorem fill_any (v : Int) (w : World) : Calls Try.prog 13 #[.int .u8 v] w fun e w' => e = .returned (.agg (fillB v).toArray) ∧ Below w.heap.size w w' := by
  obtain ⟨W, hW⟩ : ∃ W, w.alloc (.cells zarr 38) = W := ⟨_, rfl⟩
  have hsz : W.heap.size = w.heap.size + 1 := by rw [← hW]; simp
  have HB : Hid (Below w.heap.size w W) := by rw [← hW]; exact (Below.refl _ w).alloc (Nat.le_refl _) _
  have HSZ := Lib.hid hsz
  have hblk : W.heap[w.heap.size]? = some (.cells zarr 38 (0, 0)) := by rw [← hW]; exact heap_alloc_new w _
  have HBK := Lib.hid hblk
  clear hsz hblk
  go_enter Try.func13, Try.ntmps13
  go_wp2_with fail
  clear hW
  go_loopw [4] (fun i wr => ∃ k : Nat, k ≤ 64 ∧ i = .int .i64 k ∧ wr = W.alloc (.cells (fillTo v k).toArray 38)) (fun i _ => 64 - (intOf i).toNat)
  case atStart => exact ⟨0, Nat.zero_le _, rfl, by rw [fillTo_zero]⟩
  case round =>
    obtain ⟨k, hk, rfl, rfl⟩ := hrel
    by_cases hlt : k < 64
    · have c1 : (W.alloc (.cells (fillTo v k).toArray 38)).cell? ⟨W.heap.size, k, none⟩ = some (.int .u8 0) := by
        rw [cell_of_row _ _ _ _ _ _ (heap_alloc_new W _)]; simpa using fillTo_get v k hlt
      have f1 : (W.alloc (.cells (fillTo v k).toArray 38)).frozen? ⟨W.heap.size, k, none⟩ = false := by
        unfold World.frozen?
        rw [heap_alloc_new W _]
        simp
      have g1 : (k : Int) < 64 := by omega
      have HN := Lib.hid (fillTo_next v k hlt)
      have HLT := Lib.hid hlt
      clear hlt hk
      go_wp2
      exact ⟨⟨k + 1, HLT.out, by simp, by rw [HN.out]⟩, by have := HLT.out; simp [intOf]; omega⟩
    · obtain rfl : k = 64 := by omega
      rw [fillTo_all]
      obtain ⟨W2, hW2⟩ : ∃ W2, W.alloc (.cells (fillB v).toArray 38) = W2 := ⟨_, rfl⟩
      have L : (loadVar 38 ⟨W.heap.size, 0, none⟩).run Try.prog W2 = .ok (.agg (fillB v).toArray) W2 := by rw [← hW2]; exact load_new (by simp [(isBlk_fill v).length])
      have hblk : W2.heap[w.heap.size]? = some (.cells zarr 38 (0, 0)) := by rw [← hW2, Below.heap_alloc _ _ _ (by have := HSZ.out; omega)]; exact HBK.out
      have ht : W2.there w.heap.size 0 64 := fun j hj => by
        have hcell := cell_of_row W2 w.heap.size (0 + j) zarr _ _ hblk
        refine ⟨?_, ?_⟩
        · rw [hcell]; simp [zarr_size]; omega
        · simp [World.frozen?, hblk]
      obtain ⟨W3, hW3⟩ : ∃ W3, W2.setCells w.heap.size 0 (fillB v) = W3 := ⟨_, rfl⟩
      have S : (storeVar 38 ⟨w.heap.size, 0, none⟩ (.agg (fillB v).toArray)).run Try.prog W2 = .ok () W3 := by rw [← hW3]; exact store_blk ht (isBlk_fill v)
      have R : (loadVar 38 ⟨w.heap.size, 0, none⟩).run Try.prog W3 = .ok (.agg (fillB v).toArray) W3 := by
        rw [← hW3]; exact load_blk (World.rangeAt_setCells_same W2 _ 0 (fillB v) (by rw [(isBlk_fill v).length]; exact ht)) (isBlk_fill v).length
      have HB3 : Hid (Below w.heap.size w W3) := by
        have h2 : Below w.heap.size w W2 := by rw [← hW2]; exact HB.out.alloc HB.out.size _
        have h3 : Below w.heap.size W2 W3 := by
          rw [← hW3]
          exact below_setCells (Nat.le_refl _) _ _ _
        exact h2.trans h3
      have g1 : ¬ ((64 : Int) < 64) := by omega
      clear hblk ht hW3 hk hlt
      go_wp2_with fail
      exact bodyPost_ret (results_cell rfl rfl R) rfl ⟨rfl, HB3.out⟩
end Go.Proofs.Ytompbjdhdjafgaa
