/- The document's own Cut. -/
import Derived.Test.YtnngebnnehokdaaPgBod
import Derived.LoopTactic
namespace Go.Proofs.Ytnngebnnehokdaa
open Go.RowKit Go.Shelf
set_option linter.unusedVariables false
attribute [-simp] Try.isAgg27 Try.zeroValue27 Try.isAgg23 Try.zeroValue23
attribute [-go_sem] loadVar storeVar
attribute [local go_sem] zero_blk build_blk zero_bod loadVar_open3 storeVar_open

/-- What a call has made stays, whatever comes behind. -/
theorem own_below {x x' : World} {N e sz n : Nat} {v : Value} {xs : List Value} (h : x.ownsRow N e sz v n xs) (hb : Below x.heap.size x x') : x'.ownsRow N e sz v n xs := by
  refine ⟨h.1, ?_⟩
  rcases h.2 with h' | ⟨g, cap, cur, rfl, a1, a2, a3⟩
  · exact .inl h'
  · exact .inr ⟨g, cap, cur, rfl, a1, (hb.block g (Array.getElem?_eq_some_iff.1 a2).1).trans a2, a3⟩
set_option maxRecDepth 100000 in
set_option maxHeartbeats 1600000 in
theorem refCut (v : Value) (bs : List Int) (w : World) (hv : Sl .u8 w v bs) (hl : bs.length ≤ 100000) :
    Calls Try.prog 16 #[v] w fun e w' => ∃ v', e = .returned v' ∧ w'.ownsRow w.heap.size 23 48 v' (nPcs bs) (rows bs (nPcs bs)).flatten ∧ Below w.heap.size w w' := by
  have HS := Lib.hid hv
  obtain ⟨ra, rc, rfl, hm1, hm2, -, -⟩ := hv
  obtain ⟨len, hlen⟩ : ∃ n, bs.length = n := ⟨_, rfl⟩
  have HL := Lib.hid hlen
  obtain ⟨n, hn⟩ : ∃ n, nPcs bs = n := ⟨_, rfl⟩
  have HN : Hid (n = (len + 47) / 48) := by show _ = _; rw [← hn, ← hlen]; rfl
  rw [hlen] at hl hm1 HS ⊢
  rw [hn]
  clear hlen hn
  have hmx : Try.prog.follows .mixedOrders = true := by kernel_rfl
  go_enter Try.func16, Try.ntmps16
  go_wp2_with fail
  go_loopw [3, 4] (fun v i wr => ∃ k : Nat, k ≤ n ∧ i = .int .i64 ((48 * k : Nat) : Int) ∧ Hid (Below w.heap.size w wr) ∧ Hid (wr.ownsRow w.heap.size 23 48 v k (rows bs k).flatten)) (fun _ i _ => 48 * n - (intOf i).toNat)
  case atStart => exact ⟨0, Nat.zero_le _, rfl, Below.refl _ _, World.ownsRow_nil _ _ _ _⟩
  case round =>
    obtain ⟨k, hk, rfl, HB, HO⟩ := hrel
    obtain ⟨K, hK⟩ : ∃ K, 48 * k = K := ⟨_, rfl⟩
    rw [hK]
    by_cases hlt : K < len
    · have hlt' : decide ((K : Int) < (len : Int)) = true := by simp; omega
      obtain ⟨x1, hx1⟩ : ∃ x, wr.alloc (.cells z48.toArray 23) = x := ⟨_, rfl⟩
      have hKH : (K : Int) + 48 ≤ 200000 := by omega
      have hK0 : (0 : Int) ≤ K := by omega
      obtain ⟨H0, hH⟩ : ∃ H0 : Nat, (if (len : Int) < (K : Int) + 48 then (len : Int) else (K : Int) + 48) = (H0 : Int) := by
        split
        · exact ⟨len, rfl⟩
        · exact ⟨K + 48, by omega⟩
      have hH1 : (K : Int) ≤ H0 := by split at hH <;> omega
      have hH2 : (H0 : Int) ≤ (rc : Int) := by split at hH <;> omega
      have hH3 : (H0 : Int) ≤ len ∧ (H0 : Int) ≤ K + 48 ∧ (len ≤ H0 ∨ K + 48 ≤ H0) := by split at hH <;> omega
      have HH := Lib.hid hH
      clear hH
      have hcl : ((bs.drop K).take (H0 - K)).length = H0 - K := by rw [List.length_take, List.length_drop, HL.out]; omega
      have HSP : ∀ x, Below w.heap.size w x → Sl .u8 x (.slice (ra.map fun y => y.add K) (H0 - K) (rc - K)) ((bs.drop K).take (H0 - K)) := fun x hx => by
        have h1 := sl_lo_at (HS.out.below hx) (K := K) (by omega)
        rw [if_neg (by omega)] at h1
        exact (sl_hi h1 (K := H0 - K) (by omega)).2 x h1
      have k1 : x1.heap[wr.heap.size]? = some (.cells z48.toArray 23 (0, 0)) := by rw [← hx1]; exact heap_alloc_new wr _
      have B1 : Below w.heap.size w x1 := by rw [← hx1]; exact HB.out.alloc HB.out.size _
      have BD : Below w.heap.size w x1.drew := B1.trans (((Below.refl _ x1).drew).mono B1.size)
      have t1 : x1.drew.there wr.heap.size 0 (H0 - K) := row_there k1 0 _ (by rw [z48_size]; omega)
      have rc0 := run_copy_bytes (w := x1.drew) (B := wr.heap.size) (o := 0) (dLen := 48) (dCap := 48) 3 (HSP _ BD) (by rw [hcl]; omega) (by rw [hcl]; exact t1)
      obtain ⟨x2, hx2⟩ : ∃ x, x1.drew.setCells wr.heap.size 0 (u8s ((bs.drop K).take (H0 - K))) = x := ⟨_, rfl⟩
      rw [hx2, hcl] at rc0
      have RC0 := Lib.hid rc0
      have hp : u8s (piece bs k) = u8s ((bs.drop K).take (H0 - K)) ++ u8s (List.replicate (48 - (H0 - K)) 0) := by
        have e1 : (bs.drop K).take 48 = (bs.drop K).take (H0 - K) := by
          by_cases h : K + 48 ≤ len
          · rw [show H0 - K = 48 by omega]
          · rw [List.take_of_length_le (by rw [List.length_drop, HL.out]; omega), List.take_of_length_le (by rw [List.length_drop, HL.out]; omega)]
        unfold piece
        rw [hK, e1, hcl]
        simp [u8s]
      have ra2 : x2.rangeAt wr.heap.size 0 (u8s (piece bs k)) := by
        rw [hp]
        refine rangeAt_app ?_ ?_
        · rw [← hx2]; exact World.rangeAt_setCells_same x1.drew _ 0 _ (by rw [u8s_length, hcl]; exact t1)
        · rw [u8s_length, hcl, ← hx2]
          refine World.rangeAt_setCells_apart (w := x1.drew) (fun j x hx => ?_) _ 0 _ (.inr (.inr (by rw [u8s_length, hcl]; omega)))
          refine (cell_of_row x1 _ _ _ _ _ k1).trans ?_
          have hj : j < 48 - (H0 - K) := by have := (List.getElem?_eq_some_iff.1 hx).1; simpa [u8s] using this
          rw [← hx, List.getElem?_toArray]
          unfold z48 u8s
          rw [List.getElem?_map, List.getElem?_map, List.getElem?_replicate, List.getElem?_replicate, if_pos (by omega), if_pos hj]
      have B2 : Below w.heap.size w x2 := by rw [← hx2]; exact BD.trans ((below_cells HB.out.size _ _ x1.drew).mono (Nat.le_refl _))
      have hpl : (u8s (piece bs k)).length = 48 := by rw [u8s_length, piece_length]
      have L20 := Lib.hid (load_bod ra2 hpl)
      obtain ⟨x3, hx3⟩ : ∃ x, x2.alloc (.cells (u8s (piece bs k)).toArray 23) = x := ⟨_, rfl⟩
      have SB0 : Hid ((Instr.buildSlice 42 1 #[(0, .agg (u8s (piece bs k)).toArray)]).run Try.prog x2 = .ok (.slice (some ⟨x2.heap.size, 0, none⟩) 1 1) x3) := by rw [← hx3]; exact slice_bod x2 _ hpl
      have B3 : Below w.heap.size w x3 := by rw [← hx3]; exact B2.alloc B2.size _
      have W3 : Below wr.heap.size wr x3 := by
        have w1 : Below wr.heap.size wr x1 := by rw [← hx1]; exact (Below.refl _ wr).alloc (Nat.le_refl _) _
        have w2 : Below wr.heap.size wr x1.drew := w1.trans (((Below.refl _ x1).drew).mono w1.size)
        have w3 : Below wr.heap.size wr x2 := by rw [← hx2]; exact w2.trans ((below_cells (Nat.le_refl wr.heap.size) _ _ x1.drew).mono (Nat.le_refl _))
        rw [← hx3]; exact w3.alloc w3.size _
      have O3 : x3.ownsRow w.heap.size 23 48 u3 (rows bs k).length (rows bs k).flatten := by rw [rows_length]; exact own_below HO.out W3
      obtain ⟨v4, x4, r4, o4, g4, -⟩ := append_bod w.heap.size x3 u3 (rows bs k) (u8s (piece bs k)) x2.heap.size O3 hpl (u8s_one _) (row_range (t := 23) (by rw [← hx3]; exact heap_alloc_new x2 _)) (by rw [rows_length]; omega) B3.size
      have R4 := Lib.hid r4
      have HO4 : Hid (x4.ownsRow w.heap.size 23 48 v4 (k + 1) (rows bs (k + 1)).flatten) := by
        show x4.ownsRow _ _ _ _ _ _; rw [rows_succ]; simpa [rows_length] using o4
      have HB4 : Hid (Below w.heap.size w x4) := B3.grown g4 B3.size (fun j e => (O3.lt j e).1)
      clear r4 o4 g4 O3 W3 B3 B2 hpl ra2 hp rc0 t1 BD B1 k1 HSP hcl
      have HKK := Lib.hid hK
      clear hK
      go_wp2_with fail
      refine region_plan (fun x => x = x1.drew) 9 (.takes [0, 1, 2, 3, 4, 5, 6] (.one 7 (.takes [8] .leaf))) hmx (by kernel_rfl) (by intro c x v a w h; cases x <;> exact h) rfl ?_
      repeat (rw [wpPlan_takes_cons]; simp only [nth_zero, nth_succ]; go_big_quiet_step (fail); refine wpQuiet_nil ?_)
      rw [wpPlan_takes_nil, wpPlan_one]
      simp only [nth_zero, nth_succ]
      have hmin : ∀ (ts : Array TypeId) (t : TypeId) (W : World), (Builtin.min_ ts t #[.int .i64 ((K : Int) + 48), .int .i64 (len : Int)]).run Try.prog W = .ok (.int .i64 (H0 : Int)) W := fun ts t W => by
        rw [run_min_int2, HH.out]
      go_wp2_with fail
      refine planPost_mk rfl ?_
      clear hmin
      repeat (rw [wpPlan_takes_cons]; simp only [nth_zero, nth_succ]; go_big_quiet_step (fail); refine wpQuiet_nil ?_)
      rw [wpPlan_takes_nil, wpPlan_leaf]
      simp only [List.drop_succ_cons, List.drop_zero]
      have RC := RC0.out
      go_wp2_with fail
      clear RC
      have L2 := L20.out
      have SB := SB0.out
      go_wp2_with fail
      rw [L2]
      have HLT := Lib.hid hlt
      clear L2 hx1 hx2 hx3 hH1 hH2 hH3 hlt hm1 hm2
      clear SB
      go_wp2_with (first | ((with_reducible refine gate_build ?_); refine wpList_build_run _ _ _ rfl rfl [(0, .agg (u8s (piece bs k)).toArray)] _ rfl SB0.out ?_) | (at_builtin; refine wpList_append_run (.tmp 22) (.tmp 24) 42 rfl rfl _ _ _ rfl rfl R4.out ?_))
      go_roundw
      case rel => exact ⟨k + 1, by have := HN.out; have := HKK.out; have := HLT.out; omega, by have := HKK.out; go_num, HB4.out, HO4.out⟩
      case measure => have := HN.out; have := HKK.out; have := HLT.out; simp [intOf]; omega
    · have hlt' : decide ((K : Int) < (len : Int)) = false := by simp; omega
      have hkn : k = n := by have := HN.out; omega
      rw [hkn] at HO
      clear hkn hK
      go_wp2_with fail
      go_ret
      exact ⟨_, rfl, HO.out, HB.out⟩
end Go.Proofs.Ytnngebnnehokdaa
