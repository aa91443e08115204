/- Whatever the versions and the pick, DiskPicks returns true and leaves its arguments as they were; no conditions. -/
import Derived.Test.YtagieoomekmjcaaPicks
import Derived.Test.YtagieoomekmjcaaArgSl
import Derived.Test.YtagieoomekmjcaaDWakes
namespace Go.Proofs.Ytagieoomekmjcaa.diskPicks
open Go.ChangeShapes Go.WideShapes Go.ChangeAt Go.RowKit
set_option linter.unusedVariables false
attribute [-simp] Try.isAgg37 Try.zeroValue37
attribute [-go_sem] loadVar storeVar
attribute [local go_sem] zero_blk build_blk loadVar_open storeVar_open store_fill eq_fill eq_fill_z

set_option maxRecDepth 100000 in
set_option maxHeartbeats 4000000 in
theorem walk (v0 v1 : Value) (w : World) (w0 : Arg w 32 v0) (w1 : Arg w 5 v1) :
    Calls Try.prog 6 #[v0, v1] w fun e w' => e = .returned (.bool true) ∧ Below w.heap.size w w' := by
  obtain ⟨a0, len0, cap0, xs, rfl, hlen, hmax, hs, hb⟩ := w0.bytes Try.underlying32 Try.underlying5 (by kernel_rfl)
  obtain ⟨y, rfl, wy⟩ := w1.int Try.underlying5
  have by_ := bounds_u8 wy
  have HY : Hid (0 ≤ y ∧ y < 256) := ⟨by_.1, by omega⟩
  have HW := Lib.hid (wakes_any)
  have HS := Lib.hid hs
  have HB := Lib.hid hb
  have HL := Lib.hid hlen
  clear hs hb hlen hmax wy by_ w0 w1
  by_cases h0 : len0 = 0 ∨ 100 < len0
  · have hq : ((len0 : Int) = 0) ∨ (¬ (len0 : Int) = 0 ∧ (100 : Int) < (len0 : Int)) := by omega
    clear h0
    rcases hq with q | ⟨q1, q2⟩
    all_goals
      go_enter Try.func6, Try.ntmps6
      go_wp2_with fail
      refine (HW.out _).mono ?_
      rintro e w' ⟨rfl, hB⟩
      have HB2 := Lib.hid hB
      clear hB
      go_wp2_with fail
      go_ret
      exact ⟨rfl, HB2.out⟩
  have q1 : ((len0 : Int) == 0) = false := by simp; omega
  have q2 : ¬ (100 : Int) < (len0 : Int) := by omega
  have q3 : decide ((100 : Int) < (len0 : Int)) = false := by simpa using q2
  have HQ : Hid (1 ≤ len0 ∧ len0 ≤ 100) := by show _ ∧ _; omega
  clear h0
  go_enter Try.func6, Try.ntmps6
  go_wp2_with fail
  refine (At.new 3 w w (Below.refl _ _) (by omega) (by omega) (fun _ => False) (fun _ h => h.elim)).mono ?_
  rintro e w1 ⟨rb, rfl, a1, -⟩
  have A1 := Lib.hid a1
  clear a1 q1 q2 q3
  go_wp2_with fail
  refine (fill_any 200 _).mono ?_
  rintro e w2 ⟨rfl, hb⟩
  have A2 := Lib.hid (A1.out.beside hb)
  clear hb A1
  go_wp2_with fail
  refine (A2.out.write (i := 1) (by omega) (isBlk_fill 200) (by decide)).mono ?_
  rintro e w3 ⟨rfl, a0, -⟩
  have A3 : Hid (At w w3 rb 3 (pD 0 [200]) (fun _ => False)) := by rw [← pD_start]; exact a0
  clear a0 A2
  go_wp2_with fail
  refine A3.out.flush.mono ?_
  rintro e w4 ⟨rfl, a0, -⟩
  have A4 : Hid (At w w4 rb 3 (pD 200 []) (fun _ => False)) := by rw [← pD_settle 0 200 [200] (fun j => (pD 0 [200] j).vs.length) (by simp) rfl]; exact a0
  clear a0 A3
  go_wp2_with fail
  go_loopw [7] (fun i wr => ∃ k : Nat, k ≤ len0 ∧ i = .int .i64 k ∧ Hid (At w wr rb 3 (pD 200 (xs.take k)) (fun _ => False))) (fun i _ => len0 - (intOf i).toNat)
  case atStart => exact ⟨0, Nat.zero_le _, rfl, A4⟩
  case round =>
    obtain ⟨k, hk, rfl, A⟩ := hrel
    by_cases hlt : k < len0
    · obtain ⟨z, hz⟩ : ∃ z, xs[k]?.getD 0 = z := ⟨_, rfl⟩
      obtain ⟨b, off, rfl, c1⟩ : ∃ b off, a0 = some ⟨b, off, none⟩ ∧ wr.cell? ⟨b, off + k, none⟩ = some (.int .u8 z) := by
        obtain ⟨a, cap, e, _, _, hl, _⟩ := HS.out
        simp only [Value.slice.injEq] at e
        obtain ⟨rfl, _, rfl⟩ := e
        rcases hl with e | ⟨b, off, rfl, h1, h2⟩
        · have := HL.out; rw [e] at this; simp at this; omega
        · exact ⟨b, off, rfl, (A.out.bel.cell (p := ⟨b, off + k, none⟩) h1).trans (by rw [← hz]; exact h2 k (by rw [HL.out]; exact hlt))⟩
      have g1 : (k : Int) < (len0 : Int) := by omega
      have HLT := Lib.hid hlt
      have HT : Hid (xs.take k ++ [z] = xs.take (k + 1)) := by rw [← hz]; exact (take_more xs (by rw [HL.out]; exact hlt)).symm
      have HK : Hid ((xs.take k).length ≤ 255) := by have := HQ.out; have := List.length_take_le k xs; show _ ≤ _; omega
      clear hz hlt hk
      go_wp2_with fail
      refine (fill_any z _).mono ?_
      rintro e x1 ⟨rfl, hb⟩
      have B1 := Lib.hid (A.out.beside hb)
      clear hb A
      go_wp2_with fail
      refine (B1.out.write (i := 1) (by omega) (isBlk_fill z) (by rw [pD_one]; simp; have := HK.out; simp at this; omega)).mono ?_
      rintro e x2 ⟨rfl, a0, -⟩
      have B2 : Hid (At w x2 rb 3 (pD 200 (xs.take (k + 1))) (fun _ => False)) := by rw [← HT.out, ← pD_add _ _ _ HK.out]; exact a0
      clear a0 B1
      go_wp2_with fail
      refine B2.out.loose.mono ?_
      rintro e x3 ⟨lv, rfl, hrow, hb, -⟩
      rw [pD_loose _ _ (by rw [← HT.out]; simp)] at hrow
      have S1 : Hid (Sl .i64 x3 lv [1]) := sl_own (bs := [1]) (by simpa [ints] using hrow)
      have B3 := Lib.hid (B2.out.beside hb)
      clear hb hrow
      go_wp2_with fail
      have S2 : Sl .i64 (x3.alloc (.cells #[.int .i64 1] 3)) (.slice (some ⟨x3.heap.size, 0, none⟩) 1 1) [1] := by
        refine Sl.at (bs := [1]) (Nat.le_refl _) (by simp [maxLen]) (by simp) (fun j hj => ?_)
        rw [cell_of_row _ _ _ _ _ _ (heap_alloc_new x3 _)]
        match j, hj with
        | 0, _ => rfl
      refine (ints_same _ _ [1] _ (S1.out.below ((Below.refl _ x3).alloc (Nat.le_refl _) _)) S2).mono ?_
      rintro e x4 ⟨rfl, hb⟩
      have B4 : Hid (At w x4 rb 3 (pD 200 (xs.take (k + 1))) (fun _ => False)) := (B3.out.beside ((Below.refl _ x3).alloc (Nat.le_refl _) _)).beside hb
      clear hb S2
      go_wp2_with fail
      have HW1 : Hid (wrap64 ((k : Int) + 1) = (k : Int) + 1) := IntWalk.wrap64_in _ (by have := HLT.out; have := HQ.out; omega)
      exact ⟨next_rel (C := fun k => Hid (At w x4 rb 3 (pD 200 (xs.take k)) (fun _ => False))) HW1.out HLT.out B4, next_lt HW1.out HLT.out⟩
    · obtain rfl : k = len0 := by omega
      have HT : Hid (xs.take k = xs) := List.take_of_length_le (by rw [HL.out]; exact Nat.le_refl _)
      rw [HT.out] at A
      have g1 : ¬ (k : Int) < (k : Int) := by omega
      clear hk hlt
      go_wp2_with fail
      obtain ⟨W, hW⟩ : ∃ W, wr.alloc (.cells #[.int .u8 y] 5) = W := ⟨_, rfl⟩
      rw [hW]
      have hBW : Below wr.heap.size wr W := by rw [← hW]; exact (Below.refl _ wr).alloc (Nat.le_refl _) _
      have hSW : Sl .u8 W (.slice (some ⟨wr.heap.size, 0, none⟩) 1 1) [y] := by
        rw [← hW]
        refine Sl.at (bs := [y]) (Nat.le_refl _) (by simp [maxLen]) (by simp) (fun j hj => ?_)
        rw [cell_of_row _ _ _ _ _ _ (heap_alloc_new wr _)]
        match j, hj with
        | 0, _ => rfl
      have hby : IsBytes [y] := fun j => by
        match j with
        | 0 => exact HY.out
        | j + 1 => simp
      have AW := A.out.below hBW (fun j => j = wr.heap.size) (fun j hj => .inr ⟨by omega, by rw [← hW, hj]; simp⟩)
      obtain ⟨K, hK⟩ : ∃ K, y.toNat % (k + 1) = K := ⟨_, rfl⟩
      have hKk : K ≤ k := by rw [← hK]; exact Nat.le_of_lt_succ (Nat.mod_lt _ (by omega))
      obtain ⟨want, hwant⟩ : ∃ want : Int, (if K = 0 then 200 else xs[K - 1]?.getD 0) = want := ⟨_, rfl⟩
      have hset : settled (pD 200 xs) (crashG (pD 200 xs) [y]) (looseTo (pD 200 xs) 3) = pD want [] := by
        refine pD_settle 200 want xs _ (fun e => by have := HL.out; have := HQ.out; rw [e] at *; simp at *; omega) ?_
        rw [pD_crash, HL.out, hK, pD_one, ← hwant]
        unfold Sec.settle
        dsimp only
        split
        · rfl
        · rw [List.getElem?_map, List.getElem?_eq_getElem (by rw [HL.out]; omega)]; rfl
      refine (AW.crash hSW hby (fun b off len cap e => by cases e; exact .inr rfl) (fun i hi => ?_)).mono ?_
      · by_cases e : i = 1
        · subst e; rw [pD_one]; simp; have := HL.out; have := HQ.out; omega
        · rw [pD_other _ _ e]; simp [zsec]
      rintro e x5 ⟨rfl, a0, -⟩
      rw [hset] at a0
      have A5 : Hid (At w x5 rb 3 (pD want []) (fun _ => False)) := a0.below (Below.refl _ _) _ (fun _ h => h.elim)
      have HK := Lib.hid hKk
      have HWA := Lib.hid hwant
      have HKE := Lib.hid hK
      clear a0 AW hset hSW hby hBW hW hK hKk hwant A
      have y0 := HY.out.1
      have y1 := HY.out.2
      have k1 : (k : Int) ≤ 100 := by have := HQ.out; omega
      have k0 : (0 : Int) ≤ (k : Int) := by omega
      obtain ⟨z, hz⟩ : ∃ z : Nat, y = (z : Int) := ⟨y.toNat, by omega⟩
      have HMOD : Hid (y % ((k : Int) + 1) = (K : Int)) := by
        show _ = _
        rw [← HKE.out, hz, Int.toNat_natCast, Int.natCast_emod, Int.natCast_add]; rfl
      clear hz
      cases K with
      | zero =>
        have hmod : y % ((k : Int) + 1) = 0 := HMOD.out
        obtain rfl : want = 200 := by have := HWA.out; simp at this; exact this.symm
        clear HMOD HKE HWA HK
        go_wp2_with fail
        refine (A5.out.read (i := 1) (by omega)).mono ?_
        rintro e x6 ⟨rfl, hb⟩
        rw [show (pD 200 [] 1).look = fillB 200 by rw [pD_one]; rfl]
        have B6 := Lib.hid hb
        clear hb
        go_wp2_with fail
        obtain ⟨W6, hW6⟩ : ∃ W6, x6.alloc (.cells (fillB 200).toArray 37) = W6 := ⟨_, rfl⟩
        rw [hW6]
        have C6 : Hid (Below x5.heap.size x5 W6) := by rw [← hW6]; exact B6.out.alloc B6.out.size _
        have K6 : Hid (W6.heap[x6.heap.size]? = some (.cells (fillB 200).toArray 37 (0, 0))) := by rw [← hW6]; exact heap_alloc_new x6 _
        have e6 : W6.heap.size = x6.heap.size + 1 := by rw [← hW6]; simp
        clear hW6
        obtain ⟨W7, hW7⟩ : ∃ W7, W6.alloc (.cells #[.int .u8 9, .int .u8 9] 5) = W7 := ⟨_, rfl⟩
        rw [hW7]
        have C7 : Hid (Below x5.heap.size x5 W7) := by rw [← hW7]; exact C6.out.alloc C6.out.size _
        have S7 : Sl .u8 W7 (.slice (some ⟨W6.heap.size, 0, none⟩) 2 2) [9, 9] := by
          rw [← hW7]
          refine Sl.at (bs := [9, 9]) (Nat.le_refl _) (by simp [maxLen]) (by simp) (fun j hj => ?_)
          rw [cell_of_row _ _ _ _ _ _ (heap_alloc_new W6 _)]
          match j, hj with
          | 0, _ => rfl
          | 1, _ => rfl
        have Z6 : x6.heap.size < W6.heap.size := (Array.getElem?_eq_some_iff.1 K6.out).1
        have K7 : W7.heap[x6.heap.size]? = some (.cells (fillB 200).toArray 37 (0, 0)) := by rw [← hW7, Below.heap_alloc _ _ _ Z6]; exact K6.out
        have zz : x5.heap.size ≤ x6.heap.size ∧ x5.heap.size ≤ W6.heap.size ∧ W7.heap.size = W6.heap.size + 1 := ⟨B6.out.size, C6.out.size, by rw [← hW7]; simp⟩
        rw [show W6.heap.size = x6.heap.size + 1 from e6] at S7 zz
        have A7 := A5.out.below C7.out (fun j => x5.heap.size ≤ j ∧ j < W7.heap.size) (fun j hj => .inr hj)
        refine (A7.crash S7 (fun j => by match j with | 0 => exact ⟨by decide, by decide⟩ | 1 => exact ⟨by decide, by decide⟩ | j + 2 => simp) (fun b off len cap e => by cases e; exact .inr ⟨zz.2.1, by omega⟩) (fun i hi => ?_)).mono ?_
        · by_cases e : i = 1
          · subst e; rw [pD_one]; simp
          · rw [pD_other _ _ e]; simp [zsec]
        rintro e x8 ⟨rfl, a0, hown⟩
        rw [pD_tight, settled_nil] at a0
        have A8 : Hid (At w x8 rb 3 (pD 200 []) (fun _ => False)) := a0.below (Below.refl _ _) _ (fun _ h => h.elim)
        have K8 : Hid (x8.heap[x6.heap.size]? = some (.cells (fillB 200).toArray 37 (0, 0))) := (hown _ ⟨zz.1, by omega⟩).trans K7
        clear a0 hown A7 zz K7 Z6 S7 hW7 C7 K6 C6 B6
        go_wp2_with fail
        refine (A8.out.read (i := 1) (by omega)).mono ?_
        rintro e x9 ⟨rfl, hb⟩
        rw [show (pD 200 [] 1).look = fillB 200 by rw [pD_one]; rfl]
        have B9 := Lib.hid hb
        clear hb
        go_wp2_with fail
        obtain ⟨X, hX⟩ : ∃ X, x9.alloc (.cells (fillB 200).toArray 37) = X := ⟨_, rfl⟩
        rw [hX]
        have CX : Hid (Below x8.heap.size x8 X) := by rw [← hX]; exact B9.out.alloc B9.out.size _
        have k9 : X.heap[x9.heap.size]? = some (.cells (fillB 200).toArray 37 (0, 0)) := by rw [← hX]; exact heap_alloc_new x9 _
        have k6 : X.heap[x6.heap.size]? = some (.cells (fillB 200).toArray 37 (0, 0)) := (CX.out.block _ (Array.getElem?_eq_some_iff.1 K8.out).1).trans K8.out
        have r1 : ∀ x : Ext X, (loadVar 37 ⟨x6.heap.size, 0, none⟩).run Try.prog x.1 = .ok (.agg (fillB 200).toArray) x.1 := fun x => load_at ((x.2.block _ (Array.getElem?_eq_some_iff.1 k6).1).trans k6) (isBlk_fill _)
        have r2 : ∀ x : Ext X, (loadVar 37 ⟨x9.heap.size, 0, none⟩).run Try.prog x.1 = .ok (.agg (fillB 200).toArray) x.1 := fun x => load_at ((x.2.block _ (Array.getElem?_eq_some_iff.1 k9).1).trans k9) (isBlk_fill _)
        have AX := Lib.hid (A8.out.beside CX.out)
        have Q1 : Hid (∀ x : Ext X, Calls Try.prog 13 #[.int .u8 200] x.1 fun e w'' => e = .returned (.agg (fillB 200).toArray) ∧ ∃ y : Ext X, w'' = y.1) := fun x => calls_ext x (fill_any 200 _)
        have Q2 : Hid (∀ x : Ext X, Calls Try.prog 23 #[.pointer (some ⟨rb, 0, none⟩)] x.1 fun e w'' => e = .returned (.slice none 0 0) ∧ ∃ y : Ext X, w'' = y.1) := fun x => calls_ext x (((AX.out.beside x.2).loose).mono fun e w' ⟨v, h1, _, h3, h4⟩ => ⟨by rw [h1, h4 (pD_tight _)], h3⟩)
        have Q3 : Hid (∀ x : Ext X, Calls Try.prog 9 #[] x.1 fun e w'' => e = .returned (.bool true) ∧ ∃ y : Ext X, w'' = y.1) := fun x => calls_ext x (HW.out _)
        clear hX k6 k9 CX A8 K8 B9
        refine region_ext (by kernel_rfl) (by kernel_rfl) ?_
        repeat (go_big_quiet_step (with_reducible (first | exact Q1.out _ | exact Q2.out _ | exact Q3.out _)))
        refine wpQuiet_nil ?_
        intro x
        go_wp2_with fail
        go_ret
        exact ⟨rfl, (AX.out.beside x.2).bel⟩
      | succ m =>
        have hmod : y % ((k : Int) + 1) = (m : Int) + 1 := HMOD.out
        have hw1 : wrap64 (m : Int) = (m : Int) := IntWalk.wrap64_in _ (by have := HK.out; have := HQ.out; omega)
        obtain ⟨b, off, rfl, c1⟩ : ∃ b off, a0 = some ⟨b, off, none⟩ ∧ x5.cell? ⟨b, off + m, none⟩ = some (.int .u8 want) := by
          obtain ⟨a, cap, e, _, _, hl, _⟩ := HS.out
          simp only [Value.slice.injEq] at e
          obtain ⟨rfl, _, rfl⟩ := e
          rcases hl with e | ⟨b, off, rfl, h1, h2⟩
          · have := HL.out; have := HQ.out; rw [e] at *; simp at *; omega
          · refine ⟨b, off, rfl, (A5.out.bel.cell (p := ⟨b, off + m, none⟩) h1).trans ?_⟩
            rw [h2 m (by rw [HL.out]; have := HK.out; omega), ← HWA.out]
            simp
        have g2 : (m : Int) < (k : Int) := by have := HK.out; omega
        clear HMOD HKE HWA HK
        go_wp2_with fail
        refine (A5.out.read (i := 1) (by omega)).mono ?_
        rintro e x6 ⟨rfl, hb⟩
        rw [show (pD want [] 1).look = fillB want by rw [pD_one]; rfl]
        have B6 := Lib.hid hb
        clear hb
        go_wp2_with fail
        obtain ⟨W6, hW6⟩ : ∃ W6, x6.alloc (.cells (fillB want).toArray 37) = W6 := ⟨_, rfl⟩
        rw [hW6]
        have C6 : Hid (Below x5.heap.size x5 W6) := by rw [← hW6]; exact B6.out.alloc B6.out.size _
        have K6 : Hid (W6.heap[x6.heap.size]? = some (.cells (fillB want).toArray 37 (0, 0))) := by rw [← hW6]; exact heap_alloc_new x6 _
        have e6 : W6.heap.size = x6.heap.size + 1 := by rw [← hW6]; simp
        clear hW6
        obtain ⟨W7, hW7⟩ : ∃ W7, W6.alloc (.cells #[.int .u8 9, .int .u8 9] 5) = W7 := ⟨_, rfl⟩
        rw [hW7]
        have C7 : Hid (Below x5.heap.size x5 W7) := by rw [← hW7]; exact C6.out.alloc C6.out.size _
        have S7 : Sl .u8 W7 (.slice (some ⟨W6.heap.size, 0, none⟩) 2 2) [9, 9] := by
          rw [← hW7]
          refine Sl.at (bs := [9, 9]) (Nat.le_refl _) (by simp [maxLen]) (by simp) (fun j hj => ?_)
          rw [cell_of_row _ _ _ _ _ _ (heap_alloc_new W6 _)]
          match j, hj with
          | 0, _ => rfl
          | 1, _ => rfl
        have Z6 : x6.heap.size < W6.heap.size := (Array.getElem?_eq_some_iff.1 K6.out).1
        have K7 : W7.heap[x6.heap.size]? = some (.cells (fillB want).toArray 37 (0, 0)) := by rw [← hW7, Below.heap_alloc _ _ _ Z6]; exact K6.out
        have zz : x5.heap.size ≤ x6.heap.size ∧ x5.heap.size ≤ W6.heap.size ∧ W7.heap.size = W6.heap.size + 1 := ⟨B6.out.size, C6.out.size, by rw [← hW7]; simp⟩
        rw [show W6.heap.size = x6.heap.size + 1 from e6] at S7 zz
        have A7 := A5.out.below C7.out (fun j => x5.heap.size ≤ j ∧ j < W7.heap.size) (fun j hj => .inr hj)
        refine (A7.crash S7 (fun j => by match j with | 0 => exact ⟨by decide, by decide⟩ | 1 => exact ⟨by decide, by decide⟩ | j + 2 => simp) (fun b off len cap e => by cases e; exact .inr ⟨zz.2.1, by omega⟩) (fun i hi => ?_)).mono ?_
        · by_cases e : i = 1
          · subst e; rw [pD_one]; simp
          · rw [pD_other _ _ e]; simp [zsec]
        rintro e x8 ⟨rfl, a0, hown⟩
        rw [pD_tight, settled_nil] at a0
        have A8 : Hid (At w x8 rb 3 (pD want []) (fun _ => False)) := a0.below (Below.refl _ _) _ (fun _ h => h.elim)
        have K8 : Hid (x8.heap[x6.heap.size]? = some (.cells (fillB want).toArray 37 (0, 0))) := (hown _ ⟨zz.1, by omega⟩).trans K7
        clear a0 hown A7 zz K7 Z6 S7 hW7 C7 K6 C6 B6
        go_wp2_with fail
        refine (A8.out.read (i := 1) (by omega)).mono ?_
        rintro e x9 ⟨rfl, hb⟩
        rw [show (pD want [] 1).look = fillB want by rw [pD_one]; rfl]
        have B9 := Lib.hid hb
        clear hb
        go_wp2_with fail
        obtain ⟨X, hX⟩ : ∃ X, x9.alloc (.cells (fillB want).toArray 37) = X := ⟨_, rfl⟩
        rw [hX]
        have CX : Hid (Below x8.heap.size x8 X) := by rw [← hX]; exact B9.out.alloc B9.out.size _
        have k9 : X.heap[x9.heap.size]? = some (.cells (fillB want).toArray 37 (0, 0)) := by rw [← hX]; exact heap_alloc_new x9 _
        have k6 : X.heap[x6.heap.size]? = some (.cells (fillB want).toArray 37 (0, 0)) := (CX.out.block _ (Array.getElem?_eq_some_iff.1 K8.out).1).trans K8.out
        have r1 : ∀ x : Ext X, (loadVar 37 ⟨x6.heap.size, 0, none⟩).run Try.prog x.1 = .ok (.agg (fillB want).toArray) x.1 := fun x => load_at ((x.2.block _ (Array.getElem?_eq_some_iff.1 k6).1).trans k6) (isBlk_fill _)
        have r2 : ∀ x : Ext X, (loadVar 37 ⟨x9.heap.size, 0, none⟩).run Try.prog x.1 = .ok (.agg (fillB want).toArray) x.1 := fun x => load_at ((x.2.block _ (Array.getElem?_eq_some_iff.1 k9).1).trans k9) (isBlk_fill _)
        have AX := Lib.hid (A8.out.beside CX.out)
        have Q1 : Hid (∀ x : Ext X, Calls Try.prog 13 #[.int .u8 want] x.1 fun e w'' => e = .returned (.agg (fillB want).toArray) ∧ ∃ y : Ext X, w'' = y.1) := fun x => calls_ext x (fill_any want _)
        have Q2 : Hid (∀ x : Ext X, Calls Try.prog 23 #[.pointer (some ⟨rb, 0, none⟩)] x.1 fun e w'' => e = .returned (.slice none 0 0) ∧ ∃ y : Ext X, w'' = y.1) := fun x => calls_ext x (((AX.out.beside x.2).loose).mono fun e w' ⟨v, h1, _, h3, h4⟩ => ⟨by rw [h1, h4 (pD_tight _)], h3⟩)
        have Q3 : Hid (∀ x : Ext X, Calls Try.prog 9 #[] x.1 fun e w'' => e = .returned (.bool true) ∧ ∃ y : Ext X, w'' = y.1) := fun x => calls_ext x (HW.out _)
        clear hX k6 k9 CX A8 K8 B9
        refine region_ext (by kernel_rfl) (by kernel_rfl) ?_
        repeat (go_big_quiet_step (with_reducible (first | exact Q1.out _ | exact Q2.out _ | exact Q3.out _)))
        refine wpQuiet_nil ?_
        intro x
        go_wp2_with fail
        go_ret
        exact ⟨rfl, (AX.out.beside x.2).bel⟩

set_option maxRecDepth 100000 in
theorem lifted (os : Os) (started : os.Started) (H : Type) (enc : TypeId × Value → H) :
    ReturnsInHanded {} Try.checked os 6 .any (Rows.diskPicksSpec.pre6 enc Try.prog Try.f6 Rows.diskPicksRow.domain false) (Rows.diskPicksSpec.post enc Try.prog Try.f6 false true false false) := by
  refine returnsInHanded_of_change (C := Try.checked) own started (by kernel_rfl) Try.func6
    (ChangeSpec.witness6 (enc := enc) (C := Try.checked) false ⟨#[], #[.slice none 0 0, .int .u8 0], []⟩ 8 (by kernel_rfl) (by kernel_rfl) (by kernel_rfl) (by kernel_rfl)) ?_
  intro W base args ds gs before hval0 hW hcnd _
  have hval : ∀ (j : Nat) t v, Try.f6.params[j]? = some t → args[j]? = some v → Value.okWide Try.prog W .any base t v := hval0
  have hW' := hW
  obtain ⟨p, q, hA0, hV, rfl, hfz, hnd⟩ := hW
  have hA : DataW.TrodAll enc Try.prog W 0 (fun _ => true) true Try.f6.params.toList args.toList ds p := hA0
  rw [Try.params6] at hA hval
  obtain ⟨v0, vs0, d0, ds0, p0, q0, hargs, rfl, rfl, h0, r0⟩ := trodAll_cons hA
  obtain ⟨v1, vs1, d1, ds1, p1, q1, rfl, rfl, rfl, h1, r1⟩ := trodAll_cons r0
  obtain ⟨rfl, rfl, rfl⟩ := trodAll_nil r1
  obtain rfl : args = #[v0, v1] := by cases args; simp_all
  obtain ⟨rfl, rfl⟩ := trodVars_none hV
  have lt0 : ∀ x ∈ p0, x.block < W.heap.size := by obtain ⟨m, hm⟩ := h0; exact DataW.trod_lt m _ _ _ hm
  have a0 := Arg.mk (hval 0 32 v0 rfl rfl) h0
  have lt1 : ∀ x ∈ p1, x.block < W.heap.size := by obtain ⟨m, hm⟩ := h1; exact DataW.trod_lt m _ _ _ hm
  have a1 := Arg.mk (hval 1 5 v1 rfl rfl) h1
  clear hA0 hval0
  refine (walk v0 v1 W a0 a1).mono fun e W' ⟨he, bel⟩ => ?_
  subst he
  exact ⟨_, rfl, _, _, _, [], _, [], hW', trodAll_mk1 (shut_bool Try.underlying4 _), (trodAll_cons_mk (Below.trod laidOut (by kernel_rfl) (of_decide_eq_true (by kernel_rfl)) h0 bel lt0) (trodAll_cons_mk (Below.trod laidOut (by kernel_rfl) (of_decide_eq_true (by kernel_rfl)) h1 bel lt1) trodAll_mk0)), rfl, bel.frame _, fun h => by cases h⟩

theorem over : Rows.diskPicksRow.holds Try.pinned (OpenSpec.ofChange Rows.diskPicksSpec) :=
  OpenClaim.holds_of_wide 6 Try.f6 rfl rfl rfl rfl rfl rfl rfl ⟨rfl, rfl, rfl, rfl, rfl⟩ rfl rfl rfl rfl rfl (by kernel_rfl) Try.func6 (by kernel_rfl)
    (of_decide_eq_true (by kernel_rfl)) (by unfold Func.isWrapper; first | (rw [if_pos (by decide +kernel)]; kernel_rfl) | (rw [if_neg (by decide +kernel)]; exact ⟨rfl, rfl⟩))
    (fun os started H enc _ => lifted os started H enc)

theorem proved : Rows.DiskPicksSaid := over
#print axioms proved
end Go.Proofs.Ytagieoomekmjcaa.diskPicks
