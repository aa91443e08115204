/- Whatever the steps, RigApart returns true and leaves its argument as it was; no conditions. -/
import Derived.Test.YtompbjdhdjafgaaBytes
import Derived.Test.YtompbjdhdjafgaaRApart
import Derived.Test.YtompbjdhdjafgaaSteps04
import Derived.Test.YtompbjdhdjafgaaRWakes
import Derived.Test.YtompbjdhdjafgaaQuiet
import Derived.Test.YtompbjdhdjafgaaMod
import Derived.Test.YtompbjdhdjafgaaRef3
namespace Go.Proofs.Ytompbjdhdjafgaa.rigApart
open Go.ChangeShapes Go.WideShapes Go.ChangeAt Go.RowKit
set_option linter.unusedVariables false
attribute [-simp] Try.isAgg38 Try.zeroValue38
attribute [-go_sem] loadVar storeVar
attribute [local go_sem] zero_blk build_blk loadVar_open storeVar_open store_fill eq_fill eq_fill_z

set_option maxRecDepth 100000 in
set_option maxHeartbeats 8000000 in
theorem walk (v0 : Value) (w : World) (w0 : Arg w 23 v0) :
    Calls Try.prog 6 #[v0] w fun e w' => e = .returned (.bool true) ∧ Below w.heap.size w w' := by
  obtain ⟨l, hst⟩ := w0.steps
  have HW := Lib.hid (wakes_any)
  have HF := Lib.hid (fun w' (h : Below w.heap.size w w') => fair_any _ _ w' (hst.below h))
  have HST := Lib.hid hst
  obtain ⟨a, cap, rfl, -, -, -, -⟩ := hst
  obtain ⟨L, hL⟩ : ∃ L, l.length = L := ⟨_, rfl⟩
  have HL := Lib.hid hL
  rw [hL] at HST HF ⊢
  obtain ⟨fb, hfb⟩ : ∃ fb, fairB l = fb := ⟨_, rfl⟩
  have HFB := Lib.hid hfb
  rw [hfb] at HF
  clear hL hfb w0
  go_enter Try.func6, Try.ntmps6
  go_wp2_with fail
  go_at_call 10
  refine (RAt.new 5 5 w w (Below.refl _ _) (by omega) (by omega) (by omega) (by omega) (fun _ => False) (fun _ h => h.elim)).mono ?_
  rintro e w1 ⟨rb, p0, p1, rfl, a0, -⟩
  have A1 : Hid (RAt w w1 rb p0 p1 (newS 5 5) (fun _ => False)) := a0
  clear a0
  go_wp2_with fail
  go_at_call 8
  refine (HF.out w1 A1.out.bel).mono ?_
  rintro e w' ⟨rfl, hx⟩
  obtain rfl := hx.symm
  clear hx HF
  cases fb with
  | false =>
    go_wp2_with fail
    go_at_call 9
    refine (HW.out _).mono ?_
    rintro e w2 ⟨rfl, hB⟩
    have HB2 : Hid (Below w.heap.size w w2) := A1.out.bel.trans (hB.mono A1.out.bel.size)
    clear hB
    go_wp2_with fail
    go_ret
    exact ⟨rfl, HB2.out⟩
  | true =>
  have HLF : Hid (L ≤ 200) := by have := (fairB_yes HFB.out).1; rw [HL.out] at this; exact this
  clear HFB
  go_wp2_with fail
  go_loopw [5] (fun i wr => ∃ (j : Nat) (S : RS), j ≤ 5 ∧ i = .int .i64 j ∧ Hid (RAt w wr rb p0 p1 S (fun _ => False)) ∧ Hid (S.Ap j 0)) (fun i _ => 5 - (intOf i).toNat)
  case atStart => exact ⟨0, _, Nat.zero_le _, rfl, A1, newS_ap⟩
  case round =>
    obtain ⟨j, S, hj, rfl, A, U⟩ := hrel
    by_cases hlt : j < 5
    · have g1 : (j : Int) < 5 := by omega
      have g0 : (0 : Int) ≤ (j : Int) := by omega
      have HLT := Lib.hid hlt
      have HWR : Hid (wrap64 ((j : Int) + 1) = (j : Int) + 1) := IntWalk.wrap64_in _ (by omega)
      clear hlt hj A1
      go_wp2_with fail
      go_at_call 13
      refine (fill_any (50 + (j : Int)) _).mono ?_
      rintro e x1 ⟨rfl, hb⟩
      have B1 := Lib.hid (A.out.beside hb)
      clear hb
      go_wp2_with fail
      go_at_call 12
      refine (B1.out.write (U.out.fit (by have := HLT.out; omega)) (U.out.few (m := 255) (by omega) (by omega)) 1 (j : Int) (isBlk_fill (50 + (j : Int)))).mono ?_
      rintro e x2 ⟨rfl, hb, -⟩
      rw [U.out.writeE (.inr rfl) (by have := HLT.out; omega)]
      have B2 := Lib.hid hb
      have U2 := Lib.hid (U.out.next HLT.out)
      clear hb A B1
      go_wp2_with fail
      refine ⟨?_, next_lt0 HLT.out⟩
      obtain ⟨k', q1, q2, q3⟩ := next_rel0 (C := fun k' => k' = j + 1) HLT.out rfl
      exact ⟨k', _, q1, q2, B2, by rw [q3]; exact U2⟩
    · obtain rfl : j = 5 := by omega
      have g1 : ¬ (((5 : Nat) : Int) < 5) := by omega
      clear hj hlt A1
      go_wp2_with fail
      go_loopw [6] (fun i wr => ∃ (k : Nat) (S : RS), k ≤ L ∧ i = .int .i64 k ∧ Hid (RAt w wr rb p0 p1 S (fun _ => False)) ∧ Hid (S.Ap 5 k)) (fun i _ => L - (intOf i).toNat)
      case atStart => exact ⟨0, _, Nat.zero_le _, rfl, A, U⟩
      case round =>
        clear A U
        obtain ⟨k, S, hk, rfl, A, U⟩ := hrel
        by_cases hlt : k < L
        · obtain ⟨s, hs⟩ : ∃ s, l[k]? = some s := ⟨_, List.getElem?_eq_getElem (by rw [HL.out]; exact hlt)⟩
          obtain ⟨b, off, rfl, hok, hblt, hsa⟩ := HST.out.open HL.out hs
          obtain ⟨kind, dev, si, z, pa, pcap, bs, pa', pcap', bs'⟩ := s
          have HC : Hid (∀ x : World, Below w.heap.size w x → x.cell? ⟨b, off + k * 6, none⟩ = some (.int .i64 kind) ∧ x.cell? ⟨b, off + k * 6 + 2, none⟩ = some (.int .i64 si) ∧ x.cell? ⟨b, off + k * 6 + 3, none⟩ = some (.int .u8 z)) := fun x hx =>
            ⟨(hx.cell (p := ⟨b, off + k * 6, none⟩) hblt).trans hsa.c0, (hx.cell (p := ⟨b, off + k * 6 + 2, none⟩) hblt).trans hsa.c2, (hx.cell (p := ⟨b, off + k * 6 + 3, none⟩) hblt).trans hsa.c3⟩
          obtain ⟨I, hI⟩ : ∃ I : Int, modI si 5 = I := ⟨_, rfl⟩
          have HI5 : Hid (0 ≤ I ∧ I < 5) := by rw [← hI]; exact modI_bd (by omega)
          have HMO : Hid (∀ w : World, Calls Try.prog 25 #[.int .i64 si, .int .i64 5] w fun e w' => e = .returned (.int .i64 I) ∧ w' = w) := by
            intro w
            have := mod_any si 5 w (by omega)
            rw [hI] at this
            exact this
          have g1 : (k : Int) < (L : Int) := by omega
          have HLT := Lib.hid hlt
          have HWR : Hid (wrap64 ((k : Int) + 1) = (k : Int) + 1) := IntWalk.wrap64_in _ (by have := HLF.out; omega)
          obtain ⟨d0, d2, d3⟩ := HC.out wr A.out.bel
          clear hs hok hblt hsa hI hlt hk
          go_wp2_with fail
          go_at_call 25
          refine (HMO.out _).mono ?_
          rintro e w' ⟨rfl, hx⟩
          obtain rfl := hx.symm
          clear hx
          by_cases hk2 : kind = 2
          · subst hk2
            go_wp2_with fail
            go_at_call 17
            refine (A.out.flush (U.out.fit (by have := HLT.out; have := HLF.out; omega)) 0).mono ?_
            rintro e x2 ⟨rfl, hb, -⟩
            have B2 := Lib.hid hb
            have U2 := Lib.hid U.out.fastFlush
            clear hb A d0 d2 d3
            go_wp2_with fail
            refine ⟨?_, next_lt HWR.out HLT.out⟩
            obtain ⟨k', q1, q2, q3⟩ := next_rel (C := fun k' => k' = k + 1) HWR.out HLT.out rfl
            exact ⟨k', _, q1, q2, B2, by rw [q3]; exact U2⟩
          · have hk2' : (kind == 2) = false := by simpa using hk2
            go_wp2_with fail
            go_at_call 13
            refine (fill_any z _).mono ?_
            rintro e x1 ⟨rfl, hb⟩
            have B1 := Lib.hid (A.out.beside hb)
            clear hb d0 d2 d3
            go_wp2_with fail
            go_at_call 12
            refine (B1.out.write (U.out.fit (by have := HLT.out; have := HLF.out; omega)) (U.out.few (m := 255) (by have := HLT.out; have := HLF.out; omega) (by omega)) 0 I (isBlk_fill z)).mono ?_
            rintro e x2 ⟨rfl, hb, -⟩
            rw [U.out.writeE (.inl rfl) HI5.out]
            have B2 := Lib.hid hb
            have U2 := Lib.hid (U.out.fastWrite HI5.out (by have := HLT.out; have := HLF.out; omega) (fillB z))
            clear hb A B1
            go_wp2_with fail
            refine ⟨?_, next_lt HWR.out HLT.out⟩
            obtain ⟨k', q1, q2, q3⟩ := next_rel (C := fun k' => k' = k + 1) HWR.out HLT.out rfl
            exact ⟨k', _, q1, q2, B2, by rw [q3]; exact U2⟩
        · obtain rfl : k = L := by omega
          have g1 : ¬ (k : Int) < (k : Int) := by omega
          clear hk hlt HST
          go_wp2_with fail
          go_loopw [8] (fun i wr => ∃ j : Nat, j ≤ 5 ∧ i = .int .i64 j ∧ Hid (RAt w wr rb p0 p1 S (fun _ => False))) (fun i _ => 5 - (intOf i).toNat)
          case atStart => exact ⟨0, Nat.zero_le _, rfl, A⟩
          case round =>
            clear A
            obtain ⟨j, hj, rfl, A⟩ := hrel
            by_cases hlt : j < 5
            · have g2 : (j : Int) < 5 := by omega
              have g0 : (0 : Int) ≤ (j : Int) := by omega
              have HLT := Lib.hid hlt
              have HWR : Hid (wrap64 ((j : Int) + 1) = (j : Int) + 1) := IntWalk.wrap64_in _ (by omega)
              have HR := Lib.hid (U.out.slowRead hlt)
              clear hlt hj
              go_wp2_with fail
              go_at_call 15
              refine (A.out.read 1 (j : Int)).mono ?_
              rintro e x1 ⟨rfl, hb⟩
              rw [HR.out.1, HR.out.2]
              have A1 := Lib.hid (A.out.beside hb)
              clear hb A
              go_wp2_with fail
              obtain ⟨X, hX⟩ : ∃ X, x1.alloc (.cells (fillB (50 + (j : Int))).toArray 38) = X := ⟨_, rfl⟩
              rw [hX]
              have AX : Hid (RAt w X rb p0 p1 S (fun _ => False)) := by rw [← hX]; exact A1.out.beside ((Below.refl _ _).alloc (Nat.le_refl _) _)
              have kX : X.heap[x1.heap.size]? = some (.cells (fillB (50 + (j : Int))).toArray 38 (0, 0)) := by rw [← hX]; exact heap_alloc_new x1 _
              have r1 : ∀ x : Ext X, (loadVar 38 ⟨x1.heap.size, 0, none⟩).run Try.prog x.1 = .ok (.agg (fillB (50 + (j : Int))).toArray) x.1 := fun x => load_at ((x.2.block _ (Array.getElem?_eq_some_iff.1 kX).1).trans kX) (isBlk_fill _)
              have Q1 : Hid (∀ x : Ext X, Calls Try.prog 13 #[.int .u8 (50 + (j : Int))] x.1 fun e w'' => e = .returned (.agg (fillB (50 + (j : Int))).toArray) ∧ ∃ y : Ext X, w'' = y.1) := fun x => calls_ext x (fill_any _ x.1)
              clear hX kX A1
              refine region_ext (by kernel_rfl) (by kernel_rfl) ?_
              repeat (go_big_quiet_step (with_reducible (exact Q1.out _)))
              refine wpQuiet_nil ?_
              intro x
              go_wp2_with fail
              exact ⟨next_rel0 (C := fun _ => Hid (RAt w x.1 rb p0 p1 S (fun _ => False))) HLT.out (AX.out.beside x.2), next_lt0 HLT.out⟩
            · obtain rfl : j = 5 := by omega
              have g2 : ¬ (((5 : Nat) : Int) < 5) := by omega
              clear hj hlt
              go_wp2_with fail
              obtain ⟨X, hX⟩ : ∃ X, (wr.alloc (.cells #[.int .u8 255, .int .u8 255, .int .u8 255, .int .u8 255, .int .u8 255] 5)).alloc (.cells #[.int .u8 1, .int .u8 0, .int .u8 1] 5) = X := ⟨_, rfl⟩
              rw [hX]
              have hbX : Below wr.heap.size wr X := by rw [← hX]; exact ((Below.refl _ wr).alloc (Nat.le_refl _) _).alloc (by simp) _
              have hszX : X.heap.size = wr.heap.size + 2 := by rw [← hX]; simp
              have hr0 : X.heap[wr.heap.size]? = some (.cells #[.int .u8 255, .int .u8 255, .int .u8 255, .int .u8 255, .int .u8 255] 5 (0, 0)) := by rw [← hX, Below.heap_alloc _ _ _ (by simp)]; exact heap_alloc_new wr _
              have hr1 : X.heap[wr.heap.size + 1]? = some (.cells #[.int .u8 1, .int .u8 0, .int .u8 1] 5 (0, 0)) := by
                rw [← hX]
                have := heap_alloc_new (wr.alloc (.cells #[.int .u8 255, .int .u8 255, .int .u8 255, .int .u8 255, .int .u8 255] 5)) (.cells #[.int .u8 1, .int .u8 0, .int .u8 1] 5)
                rwa [World.size_alloc] at this
              have s0 : Sl .u8 X (.slice (some ⟨wr.heap.size, 0, none⟩) 5 5) [255, 255, 255, 255, 255] := sl_new (xs := [255, 255, 255, 255, 255]) hr0 (by simp [maxLen])
              have s1 : Sl .u8 X (.slice (some ⟨wr.heap.size + 1, 0, none⟩) 3 3) [1, 0, 1] := sl_new (xs := [1, 0, 1]) hr1 (by simp [maxLen])
              have y0 : IsBytes [255, 255, 255, 255, 255] := fun j => by
                match j with
                | 0 => exact ⟨by decide, by decide⟩
                | 1 => exact ⟨by decide, by decide⟩
                | 2 => exact ⟨by decide, by decide⟩
                | 3 => exact ⟨by decide, by decide⟩
                | 4 => exact ⟨by decide, by decide⟩
                | j + 5 => simp
              have y1 : IsBytes [1, 0, 1] := fun j => by
                match j with
                | 0 => exact ⟨by decide, by decide⟩
                | 1 => exact ⟨by decide, by decide⟩
                | 2 => exact ⟨by decide, by decide⟩
                | j + 3 => simp
              have AX : RAt w X rb p0 p1 S (fun k => k = wr.heap.size ∨ k = wr.heap.size + 1) := A.out.below hbX _ (fun k hk => .inr (by rcases hk with rfl | rfl <;> omega))
              have hfew := U.out.few (m := 1000000) (by have := HLF.out; omega) (by omega)
              go_at_call 19
              refine (AX.crash s0 s1 y0 y1 (fun _ b off len cap e => by cases e; exact .inr (.inl rfl)) (fun _ b off len cap e => by cases e; exact .inr (.inr rfl)) hfew).mono ?_
              rintro e x1 ⟨rfl, hb, -⟩
              obtain ⟨S', hS'⟩ : ∃ S', S.crash [255, 255, 255, 255, 255] [1, 0, 1] = S' := ⟨_, rfl⟩
              have HC := Lib.hid (fun (i : Nat) (hi : i < 5) => U.out.crashed [255, 255, 255, 255, 255] hi)
              rw [hS'] at hb HC
              have B := Lib.hid (hb.less (fun _ => False) (fun _ h => h.elim))
              clear hb hS' hfew AX y0 y1 s0 s1 hr0 hr1 hszX hbX hX A U
              go_wp2_with fail
              go_loopw [11] (fun i wr => ∃ j : Nat, j ≤ 5 ∧ i = .int .i64 j ∧ Hid (RAt w wr rb p0 p1 S' (fun _ => False))) (fun i _ => 5 - (intOf i).toNat)
              case atStart => exact ⟨0, Nat.zero_le _, rfl, B⟩
              case round =>
                clear B
                obtain ⟨j, hj, rfl, A⟩ := hrel
                by_cases hlt : j < 5
                · have g2 : (j : Int) < 5 := by omega
                  have g0 : (0 : Int) ≤ (j : Int) := by omega
                  have HLT := Lib.hid hlt
                  have HR := Lib.hid (HC.out j hlt)
                  clear hlt hj
                  obtain ⟨q, hq⟩ : ∃ q, aWant j = q := ⟨_, rfl⟩
                  rw [hq] at HR
                  by_cases hj : j = 0 ∨ j = 2
                  · have hq' : q = 50 + (j : Int) := by rw [← hq]; unfold aWant; rw [if_pos hj]
                    subst hq'
                    have hcase : ((j : Int) == 0) = true ∨ (((j : Int) == 0) = false ∧ ((j : Int) == 2) = true) := by
                      rcases hj with rfl | rfl
                      · exact .inl rfl
                      · exact .inr ⟨rfl, rfl⟩
                    clear hq hj
                    rcases hcase with z0 | ⟨z0, z2⟩
                    all_goals
                      have sz : (storeVar 38 ⟨wr.heap.size, 0, none⟩ (.agg zarr)).run Try.prog (wr.alloc (.cells zarr 38)) = .ok () (wr.alloc (.cells zarr 38)) := store_fill wr 0
                      go_wp2_with fail
                      first | clear sz z0 z2 | clear sz z0
                      go_at_call 13
                      obtain ⟨W1, hW1⟩ : ∃ W1, wr.alloc (.cells zarr 38) = W1 := ⟨_, rfl⟩
                      rw [hW1]
                      have AW : Hid (RAt w W1 rb p0 p1 S' (fun k => k = wr.heap.size)) := A.out.below (by rw [← hW1]; exact (Below.refl _ _).alloc (Nat.le_refl _) _) _ (fun k hk => .inr ⟨by omega, by rw [← hW1, hk]; simp⟩)
                      have kW : Hid (W1.heap[wr.heap.size]? = some (.cells zarr 38 (0, 0)) ∧ wr.heap.size < W1.heap.size) := by rw [← hW1]; exact ⟨heap_alloc_new wr _, by simp⟩
                      have ZW : Hid (w.heap.size ≤ wr.heap.size) := A.out.size
                      clear hW1 A
                      refine (fill_any (50 + (j : Int)) _).mono ?_
                      rintro e x1 ⟨rfl, hb⟩
                      obtain ⟨u, hu⟩ : ∃ u, fillB (50 + (j : Int)) = u := ⟨_, rfl⟩
                      have hub : IsBlk u := by rw [← hu]; exact isBlk_fill _
                      have hEq : ∀ x : World, (Op.equalIn 10000 38 (.agg u.toArray) (.agg u.toArray)).run Try.prog x = .ok true x := fun x => by rw [eq_blk hub hub]; congr 1; exact alike_iff.2 rfl
                      have hSt : ∀ x : World, (storeVar 38 ⟨x.heap.size, 0, none⟩ (.agg u.toArray)).run Try.prog (x.alloc (.cells zarr 38)) = .ok () (x.alloc (.cells u.toArray 38)) := fun x => store_new zarr_size hub
                      rw [hu] at HR ⊢
                      have A1 := AW.out.beside hb
                      have k1 : x1.heap[wr.heap.size]? = some (.cells zarr 38 (0, 0)) := (hb.block _ kW.out.2).trans kW.out.1
                      have ht : x1.there wr.heap.size 0 64 := fun i hi => by
                        have hcell := cell_of_row x1 wr.heap.size (0 + i) zarr _ _ k1
                        refine ⟨?_, ?_⟩
                        · rw [hcell]; simp [zarr_size]; omega
                        · simp [World.frozen?, k1]
                      have st := store_blk ht hub
                      have hr := World.rangeAt_setCells_same x1 wr.heap.size 0 u (by rw [hub.length]; exact ht)
                      have A2' := AtR.setCells (RigR.isRes rb p0 p1 S') A1 (B := wr.heap.size) (k := 0) rfl ZW.out u
                      obtain ⟨W2, hW2⟩ : ∃ W2, x1.setCells wr.heap.size 0 u = W2 := ⟨_, rfl⟩
                      rw [hW2] at st hr A2'
                      have A2 : Hid (RAt w W2 rb p0 p1 S' (fun k => k = wr.heap.size)) := A2'
                      have HR2 := Lib.hid hr
                      clear hu hW2 A2' ht k1 A1 hb hr AW kW
                      go_wp2_with fail
                      clear st
                      go_at_call 15
                      refine (A2.out.read 1 (j : Int)).mono ?_
                      rintro e x3 ⟨rfl, hb⟩
                      rw [HR.out.1, HR.out.2]
                      have A3 := Lib.hid (A2.out.beside hb)
                      have HR3 : Hid (x3.rangeAt wr.heap.size 0 u ∧ wr.heap.size < x3.heap.size) := ⟨rangeAt_same HR2.out (hb.block _ (A2.out.lt rfl)), A3.out.lt rfl⟩
                      clear hb A2 HR2
                      go_wp2_with fail
                      obtain ⟨X, hX⟩ : ∃ X, x3.alloc (.cells u.toArray 38) = X := ⟨_, rfl⟩
                      rw [hX]
                      have AX : Hid (RAt w X rb p0 p1 S' (fun k => k = wr.heap.size)) := by rw [← hX]; exact A3.out.beside ((Below.refl _ _).alloc (Nat.le_refl _) _)
                      have r1 : (loadVar 38 ⟨x3.heap.size, 0, none⟩).run Try.prog X = .ok (.agg u.toArray) X := load_at (by rw [← hX]; exact heap_alloc_new x3 _) hub
                      have r2 : (loadVar 38 ⟨wr.heap.size, 0, none⟩).run Try.prog X = .ok (.agg u.toArray) X := load_blk (by rw [← hX]; exact World.rangeAt_alloc HR3.out.1 _) hub.length
                      clear hX A3 HR3
                      simp only [r1]
                      go_wp2_with fail
                      exact ⟨next_rel0 (C := fun _ => Hid (RAt w X rb p0 p1 S' (fun _ => False))) HLT.out (AX.out.less _ (fun _ h => h.elim)), next_lt0 HLT.out⟩
                  · have hq0 : q = 0 := by rw [← hq]; unfold aWant; rw [if_neg hj]
                    subst hq0
                    have z0 : ((j : Int) == 0) = false := by simp; omega
                    have z2 : ((j : Int) == 2) = false := by simp; omega
                    clear hq hj
                    have sz : (storeVar 38 ⟨wr.heap.size, 0, none⟩ (.agg zarr)).run Try.prog (wr.alloc (.cells zarr 38)) = .ok () (wr.alloc (.cells zarr 38)) := store_fill wr 0
                    go_wp2_with fail
                    clear sz
                    go_at_call 15
                    obtain ⟨W1, hW1⟩ : ∃ W1, wr.alloc (.cells zarr 38) = W1 := ⟨_, rfl⟩
                    rw [hW1]
                    have AW : Hid (RAt w W1 rb p0 p1 S' (fun k => k = wr.heap.size)) := A.out.below (by rw [← hW1]; exact (Below.refl _ _).alloc (Nat.le_refl _) _) _ (fun k hk => .inr ⟨by omega, by rw [← hW1, hk]; simp⟩)
                    have kW : Hid (W1.heap[wr.heap.size]? = some (.cells zarr 38 (0, 0)) ∧ wr.heap.size < W1.heap.size) := by rw [← hW1]; exact ⟨heap_alloc_new wr _, by simp⟩
                    have ZW : Hid (w.heap.size ≤ wr.heap.size) := A.out.size
                    clear hW1 A
                    refine (AW.out.read 1 (j : Int)).mono ?_
                    rintro e x3 ⟨rfl, hb⟩
                    rw [HR.out.1, HR.out.2]
                    have A3 := Lib.hid (AW.out.beside hb)
                    have HR3 : Hid (x3.heap[wr.heap.size]? = some (.cells zarr 38 (0, 0)) ∧ wr.heap.size < x3.heap.size) := ⟨(hb.block _ kW.out.2).trans kW.out.1, A3.out.lt rfl⟩
                    clear hb AW kW
                    go_wp2_with fail
                    obtain ⟨X, hX⟩ : ∃ X, x3.alloc (.cells (fillB 0).toArray 38) = X := ⟨_, rfl⟩
                    rw [hX]
                    have AX : Hid (RAt w X rb p0 p1 S' (fun k => k = wr.heap.size)) := by rw [← hX]; exact A3.out.beside ((Below.refl _ _).alloc (Nat.le_refl _) _)
                    have r1 : (loadVar 38 ⟨x3.heap.size, 0, none⟩).run Try.prog X = .ok (.agg (fillB 0).toArray) X := load_at (by rw [← hX]; exact heap_alloc_new x3 _) (isBlk_fill _)
                    have r2 : (loadVar 38 ⟨wr.heap.size, 0, none⟩).run Try.prog X = .ok (.agg (fillB 0).toArray) X := load_at (by rw [← hX, Below.heap_alloc _ _ _ HR3.out.2]; exact HR3.out.1) (isBlk_fill _)
                    clear hX A3 HR3
                    simp only [r1]
                    go_wp2_with fail
                    exact ⟨next_rel0 (C := fun _ => Hid (RAt w X rb p0 p1 S' (fun _ => False))) HLT.out (AX.out.less _ (fun _ h => h.elim)), next_lt0 HLT.out⟩
                · obtain rfl : j = 5 := by omega
                  have g2 : ¬ (((5 : Nat) : Int) < 5) := by omega
                  clear hj hlt
                  go_wp2_with fail
                  go_at_call 9
                  refine (HW.out _).mono ?_
                  rintro e w2 ⟨rfl, hB⟩
                  have HB2 : Hid (Below w.heap.size w w2) := A.out.bel.trans (hB.mono A.out.bel.size)
                  clear hB
                  go_wp2_with fail
                  go_ret
                  exact ⟨rfl, HB2.out⟩

set_option maxRecDepth 100000 in
theorem lifted (os : Os) (started : os.Started) (H : Type) (enc : TypeId × Value → H) :
    ReturnsInHanded {} Try.checked os 6 .any (Rows.rigApartSpec.pre6 enc Try.prog Try.f6 Rows.rigApartRow.domain false) (Rows.rigApartSpec.post enc Try.prog Try.f6 false true false false) := by
  refine returnsInHanded_of_change (C := Try.checked) own started (by kernel_rfl) Try.func6
    (ChangeSpec.witness6 (enc := enc) (C := Try.checked) false ⟨#[], #[.slice none 0 0], []⟩ 8 (by kernel_rfl) (by kernel_rfl) (by kernel_rfl) (by kernel_rfl)) ?_
  intro W base args ds gs before hval0 hW hcnd _
  have hval : ∀ (j : Nat) t v, Try.f6.params[j]? = some t → args[j]? = some v → Value.okWide Try.prog W .any base t v := hval0
  have hW' := hW
  obtain ⟨p, q, hA0, hV, rfl, hfz, hnd⟩ := hW
  have hA : DataW.TrodAll enc Try.prog W 0 (fun _ => true) true Try.f6.params.toList args.toList ds p := hA0
  rw [Try.params6] at hA hval
  obtain ⟨v0, vs0, d0, ds0, p0, q0, hargs, rfl, rfl, h0, r0⟩ := trodAll_cons hA
  obtain ⟨rfl, rfl, rfl⟩ := trodAll_nil r0
  obtain rfl : args = #[v0] := by cases args; simp_all
  obtain ⟨rfl, rfl⟩ := trodVars_none hV
  have lt0 : ∀ x ∈ p0, x.block < W.heap.size := by obtain ⟨m, hm⟩ := h0; exact DataW.trod_lt m _ _ _ hm
  have a0 := Arg.mk (hval 0 23 v0 rfl rfl) h0
  clear hA0 hval0
  refine (walk v0 W a0).mono fun e W' ⟨he, bel⟩ => ?_
  subst he
  exact ⟨_, rfl, _, _, _, [], _, [], hW', trodAll_mk1 (shut_bool Try.underlying4 _), (trodAll_cons_mk (Below.trod laidOut (by kernel_rfl) (of_decide_eq_true (by kernel_rfl)) h0 bel lt0) trodAll_mk0), rfl, bel.frame _, fun h => by cases h⟩

theorem over : Rows.rigApartRow.holds Try.pinned (OpenSpec.ofChange Rows.rigApartSpec) :=
  OpenClaim.holds_of_wide 6 Try.f6 rfl rfl rfl rfl rfl rfl rfl ⟨rfl, rfl, rfl, rfl, rfl⟩ rfl rfl rfl rfl rfl (by kernel_rfl) Try.func6 (by kernel_rfl)
    (of_decide_eq_true (by kernel_rfl)) (by unfold Func.isWrapper; first | (rw [if_pos (by decide +kernel)]; kernel_rfl) | (rw [if_neg (by decide +kernel)]; exact ⟨rfl, rfl⟩))
    (fun os started H enc _ => lifted os started H enc)

theorem proved : Rows.RigApartSaid := over
#print axioms proved
end Go.Proofs.Ytompbjdhdjafgaa.rigApart
