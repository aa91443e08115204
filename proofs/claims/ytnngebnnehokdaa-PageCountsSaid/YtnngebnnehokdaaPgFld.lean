/- The developers' fields: what stands in a block where a marked sector has its parts. -/
import Derived.Test.YtnngebnnehokdaaPgOk
import Derived.Test.YtnngebnnehokdaaRead
namespace Go.Proofs.Ytnngebnnehokdaa
open Go.RowKit Go.Shelf
set_option linter.unusedVariables false
attribute [-simp] Try.isAgg27 Try.zeroValue27 Try.isAgg23 Try.zeroValue23 Try.isAgg25 Try.zeroValue25
attribute [-go_sem] loadVar storeVar
attribute [local go_sem] zero_blk build_blk zero_bod zero_pg build_pg build_pg0 loadVar_open4 storeVar_open4

/-- A marked sector that is a result's own cell is written and read. -/
theorem pg_cell {w x : World} {B : Nat} {u : List Value} {z : Array Value} (hw : x.heap[B]? = some (.cells z 25 (0, 0))) (hz : z.size = 51) (hB : w.heap.size ≤ B) (hb : Below w.heap.size w x) (hu : u.length = 51) (h1 : ∀ v ∈ u, v.oneCell' = true) :
    ∃ x', (storeVar 25 ⟨B, 0, none⟩ (.agg u.toArray)).run Try.prog x = .ok () x' ∧ (loadVar 25 ⟨B, 0, none⟩).run Try.prog x' = .ok (.agg u.toArray) x' ∧ Below w.heap.size w x' := by
  have ht : x.there B 0 51 := row_there hw 0 51 (by rw [hz]; exact Nat.le_refl _)
  have hs := store_pg ht hu h1
  exact ⟨_, hs, load_pg (World.rangeAt_setCells_same x _ 0 u (by rw [hu]; exact ht)) hu, hb.trans (below_cells hB _ _ _)⟩
theorem getL_one {y : Int} : getL [y] = y := by
  show getN [y] 1 = y
  simp [getN]

set_option maxRecDepth 100000 in
set_option maxHeartbeats 4000000 in
theorem pgFields (bs : List Int) (hb : IsBytes bs) (hl : bs.length = 64) (w : World) :
    Calls Try.prog 25 #[.agg (u8s bs).toArray] w fun e w' => e = .returned (.agg (Sct.of bs).cells.toArray) ∧ Below w.heap.size w w' := by
  obtain ⟨W1, hW1⟩ : ∃ W1, w.alloc (.cells (u8s bs).toArray 27) = W1 := ⟨_, rfl⟩
  have hB1 : Below w.heap.size w W1 := by rw [← hW1]; exact (Below.refl _ _).alloc (Nat.le_refl _) _
  have hz1 : W1.heap.size = w.heap.size + 1 := by rw [← hW1]; simp
  have hr1 : W1.heap[w.heap.size]? = some (.cells (u8s bs).toArray 27 (0, 0)) := by rw [← hW1]; exact heap_alloc_new w _
  obtain ⟨W, hW⟩ : ∃ W, W1.alloc (.cells zcs.toArray 25) = W := ⟨_, rfl⟩
  have hB2 : Below W1.heap.size W1 W := by rw [← hW]; exact (Below.refl _ _).alloc (Nat.le_refl _) _
  have HB : Hid (Below w.heap.size w W) := hB1.trans (hB2.mono hB1.size)
  have hr := (hB2.block _ (by omega)).trans hr1
  have HR2 : Hid (W.heap[w.heap.size + 1]? = some (.cells zcs.toArray 25 (0, 0))) := by
    have := heap_alloc_new W1 (.cells zcs.toArray 25)
    rw [hW, hz1] at this
    exact this
  have HZ : Hid (W.heap.size = w.heap.size + 2) := by show _ = _; rw [← hW, World.size_alloc, hz1]
  have HS : Hid (Sl .u8 W (.slice (some ⟨w.heap.size, 0, none⟩) 64 64) bs) := by
    have := sl_range (row_range hr) (by have := HZ.out; omega) (by rw [hl]; simp [maxLen])
    rw [hl] at this
    exact this
  have HOK := Lib.hid (of_ok hb hl)
  have HIX := Lib.hid (of_index hb hl)
  have HBS := Lib.hid hb
  have HL := Lib.hid hl
  have e0 : getL (bs.take 1) = (Sct.of bs).mark := by rw [take_one (by omega), getL_one]; rfl
  have e1 : getL ((bs.drop 1).take 4) = (Sct.of bs).seq := rfl
  have e2 : getL ((bs.drop 5).take 2) = (Sct.of bs).index := rfl
  obtain ⟨p, hp⟩ : ∃ p, Sct.of bs = p := ⟨_, rfl⟩
  have e3 : (bs.drop 7).take 48 = p.body := by rw [← hp]; rfl
  rw [hp] at e0 e1 e2 HOK HIX ⊢
  obtain ⟨mk, hmk⟩ : ∃ q, p.mark = q := ⟨_, rfl⟩
  obtain ⟨sq, hsq⟩ : ∃ q, p.seq = q := ⟨_, rfl⟩
  obtain ⟨ix, hix⟩ : ∃ q, p.index = q := ⟨_, rfl⟩
  rw [hmk] at e0
  rw [hsq] at e1
  rw [hix] at e2
  have E0 := Lib.hid e0
  have E1 := Lib.hid e1
  have E2 := Lib.hid e2
  have E3 := Lib.hid e3
  have EC : Hid (p.cells = .int .u8 mk :: .int .u32 sq :: .int .i64 ix :: u8s p.body) := by show _ = _; rw [← hmk, ← hsq, ← hix]; rfl
  have m0 : 0 ≤ mk := by rw [← hmk]; exact HOK.out.mark.1
  have m1 : mk < 256 := by rw [← hmk]; exact HOK.out.mark.2
  have s0 : 0 ≤ sq := by rw [← hsq]; exact HOK.out.seq.1
  have s1 : sq < 4294967296 := by rw [← hsq]; exact HOK.out.seq.2
  have i0 : 0 ≤ ix := by rw [← hix]; exact HIX.out.1
  have i1 : ix ≤ 65535 := by rw [← hix]; exact HIX.out.2
  clear hr hr1 hB1 hB2 hb hl e0 e1 e2 e3 hmk hsq hix hp HIX
  go_enter Try.func25, Try.ntmps25
  go_wp2_with fail
  go_at_call 32
  refine (newReader_any _ bs W HS.out (by rw [HL.out]; omega)).mono ?_
  rintro e x1 ⟨rb, rfl, hrb, hR, hb⟩
  obtain ⟨N, hN⟩ : ∃ N, x1.heap.size = N := ⟨_, rfl⟩
  rw [hN] at hR
  have HRB : Hid (w.heap.size ≤ rb) := Nat.le_trans HB.out.size (Nat.le_of_lt hrb)
  have R1 := Lib.hid hR
  have K1 : Hid (Below W.heap.size W x1) := hb
  have HW : Hid (W.heap.size ≤ rb) := Nat.le_of_lt hrb
  clear hR hb hrb hW hW1 hN HRB
  go_wp2_with fail
  go_at_call 33
  refine (num_yes rb bs 1 x1 R1.out HBS.out (by rw [HL.out]; omega)).mono ?_
  rintro e x2 ⟨rfl, hR, hg⟩
  rw [E0.out]
  have R2 := Lib.hid hR
  have K2 : Hid (Below W.heap.size W x2) := K1.out.grown hg K1.out.size (fun k e => by cases e; exact HW.out)
  clear hR hg
  go_wp2_with fail
  go_at_call 33
  refine (num_yes rb (bs.drop 1) 4 x2 R2.out (HBS.out.drop 1) (by rw [List.length_drop, HL.out]; omega)).mono ?_
  rintro e x3 ⟨rfl, hR, hg⟩
  rw [E1.out]
  rw [List.drop_drop] at hR
  have R3 := Lib.hid hR
  have K3 : Hid (Below W.heap.size W x3) := K2.out.grown hg K2.out.size (fun k e => by cases e; exact HW.out)
  clear hR hg
  go_wp2_with fail
  go_at_call 33
  refine (num_yes rb (bs.drop 5) 2 x3 R3.out (HBS.out.drop 5) (by rw [List.length_drop, HL.out]; omega)).mono ?_
  rintro e x4 ⟨rfl, hR, hg⟩
  rw [E2.out]
  rw [List.drop_drop] at hR
  have R4 := Lib.hid hR
  have K4 : Hid (Below W.heap.size W x4) := K3.out.grown hg K3.out.size (fun k e => by cases e; exact HW.out)
  clear hR hg
  go_wp2_with fail
  go_at_call 34
  refine (take_yes rb (bs.drop 7) 48 x4 R4.out (by rw [List.length_drop, HL.out]; omega) (by rw [List.length_drop, HL.out]; omega)).mono ?_
  rintro e x5 ⟨g, rfl, -, hrow, hR, hg⟩
  rw [E3.out] at hrow
  have K5 : Hid (Below W.heap.size W x5) := K4.out.grown hg K4.out.size (fun k e => by cases e; exact HW.out)
  have S5 : Hid (Sl .u8 x5 (.slice (some ⟨g, 0, none⟩) 48 48) p.body) := by
    have := sl_new hrow (by rw [HOK.out.len]; simp [maxLen])
    rw [HOK.out.len] at this
    exact this
  clear hrow hR hg
  -- the sector, and what goes into it
  obtain ⟨x6, hx6⟩ : ∃ x, x5.alloc (.cells (Value.int .u8 mk :: .int .u32 sq :: .int .i64 ix :: u8s (List.replicate 48 0)).toArray 25) = x := ⟨_, rfl⟩
  have ST1 : (storeVar 25 ⟨x5.heap.size, 0, none⟩ (.agg (Value.int .u8 mk :: .int .u32 sq :: .int .i64 ix :: u8s (List.replicate 48 0)).toArray)).run Try.prog (x5.alloc (.cells zcs.toArray 25)) = .ok () x6 := by
    rw [← hx6]
    exact store_new_pg zcs_len (by simp [u8s]) (Sct.cells_one ⟨mk, sq, ix, List.replicate 48 0⟩)
  have ST : (storeVar 25 ⟨x5.heap.size, 0, none⟩ (.agg (((zcs.set 0 (.int .u8 mk)).set 1 (.int .u32 sq)).set 2 (.int .i64 ix)).toArray)).run Try.prog (x5.alloc (.cells zcs.toArray 25)) = .ok () x6 := ST1
  have r6 : x6.heap[x5.heap.size]? = some (.cells (Value.int .u8 mk :: .int .u32 sq :: .int .i64 ix :: u8s (List.replicate 48 0)).toArray 25 (0, 0)) := by rw [← hx6]; exact heap_alloc_new x5 _
  have b6 : Below x5.heap.size x5 x6 := by rw [← hx6]; exact (Below.refl _ _).alloc (Nat.le_refl _) _
  have K6 : Hid (Below W.heap.size W x6) := K5.out.trans (b6.mono K5.out.size)
  have t6 : x6.there x5.heap.size 3 48 := row_there r6 3 48 (by simp [u8s])
  have RC0 := run_copy_bytes (B := x5.heap.size) (o := 3) (dLen := 48) (dCap := 48) 3 (S5.out.below b6) (by rw [HOK.out.len]; omega) (by rw [HOK.out.len]; exact t6)
  obtain ⟨x7, hx7⟩ : ∃ x, x6.setCells x5.heap.size 3 (u8s p.body) = x := ⟨_, rfl⟩
  rw [hx7, HOK.out.len] at RC0
  have K7 : Hid (Below W.heap.size W x7) := by rw [← hx7]; exact K6.out.trans ((below_cells (N := W.heap.size) K5.out.size _ _ _).mono (Nat.le_refl _))
  have ra7 : x7.rangeAt x5.heap.size 0 p.cells := by
    rw [EC.out, show (Value.int .u8 mk :: .int .u32 sq :: .int .i64 ix :: u8s p.body) = [.int .u8 mk, .int .u32 sq, .int .i64 ix] ++ u8s p.body from rfl, ← hx7]
    refine rangeAt_app ?_ (World.rangeAt_setCells_same x6 _ 3 _ (by rw [u8s_length, HOK.out.len]; exact t6))
    refine World.rangeAt_setCells_apart (fun j x hx => ?_) _ 3 _ (.inr (.inl (by simp)))
    rw [cell_of_row _ _ _ _ _ _ r6]
    match j, hx with
    | 0, hx => simpa using hx
    | 1, hx => simpa using hx
    | 2, hx => simpa using hx
    | j + 3, hx => simp at hx
  have L7 := Lib.hid (load_pg ra7 (Sct.cells_length HOK.out.len))
  obtain ⟨x8, st, ld, hb8⟩ := pg_cell (w := w) (x := x7) (B := w.heap.size + 1) (u := p.cells) ((K7.out.block _ (by have := HZ.out; omega)).trans HR2.out) zcs_len (Nat.le_succ _) (HB.out.trans (K7.out.mono HB.out.size)) (Sct.cells_length HOK.out.len) (Sct.cells_one _)
  have HB8 := Lib.hid hb8
  have HLD := Lib.hid ld
  clear hb8 ld ra7 t6 r6 b6 ST1 hx6 hx7
  go_wp2_with fail
  clear ST RC0
  rw [L7.out]
  go_wp2_with fail
  exact bodyPost_ret (results_cell rfl rfl HLD.out) rfl ⟨rfl, HB8.out⟩
end Go.Proofs.Ytnngebnnehokdaa
