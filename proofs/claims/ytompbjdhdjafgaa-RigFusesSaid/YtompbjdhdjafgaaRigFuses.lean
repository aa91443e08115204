/- Whatever the number and the steps, RigFuses returns true and leaves its arguments as they were; no conditions. -/
import Derived.Test.YtompbjdhdjafgaaRFuse
import Derived.Test.YtompbjdhdjafgaaSteps04
import Derived.Test.YtompbjdhdjafgaaRWakes
import Derived.Test.YtompbjdhdjafgaaQuiet
import Derived.Test.YtompbjdhdjafgaaMod
namespace Go.Proofs.Ytompbjdhdjafgaa.rigFuses
open Go.ChangeShapes Go.WideShapes Go.ChangeAt Go.RowKit
set_option linter.unusedVariables false
attribute [-simp] Try.isAgg38 Try.zeroValue38
attribute [-go_sem] loadVar storeVar
attribute [local go_sem] zero_blk build_blk loadVar_open storeVar_open store_fill eq_fill eq_fill_z

set_option maxRecDepth 100000 in
set_option maxHeartbeats 8000000 in
theorem walk (v0 v1 : Value) (w : World) (w0 : Arg w 5 v0) (w1 : Arg w 23 v1) :
    Calls Try.prog 4 #[v0, v1] w fun e w' => e = .returned (.bool true) ∧ Below w.heap.size w w' := by
  obtain ⟨ni, rfl, wn⟩ := w0.int Try.underlying5
  have hni := bounds_u8 wn
  obtain ⟨n0, rfl⟩ : ∃ n0 : Nat, ni = (n0 : Int) := ⟨ni.toNat, by omega⟩
  obtain ⟨l, hst⟩ := w1.steps
  have HW := Lib.hid (wakes_any)
  have HF := Lib.hid (fun w' (h : Below w.heap.size w w') => fair_any _ _ w' (hst.below h))
  have HST := Lib.hid hst
  obtain ⟨a, cap, rfl, -, -, -, -⟩ := hst
  obtain ⟨L, hL⟩ : ∃ L, l.length = L := ⟨_, rfl⟩
  have HL := Lib.hid hL
  rw [hL] at HST HF ⊢
  obtain ⟨fb, hfb⟩ : ∃ fb, fairB l = fb := ⟨_, rfl⟩
  have HFB := Lib.hid hfb
  have HNI : Hid ((n0 : Int) < 256) := by show _ < _; omega
  rw [hfb] at HF
  clear hL hfb w0 w1 wn hni
  go_enter Try.func4, Try.ntmps4
  go_wp2_with fail
  go_at_call 10
  refine (RAt.new 5 5 w w (Below.refl _ _) (by omega) (by omega) (by omega) (by omega) (fun _ => False) (fun _ h => h.elim)).mono ?_
  rintro e w1 ⟨rb, p0, p1, rfl, a0, -⟩
  have A1 : Hid (RAt w w1 rb p0 p1 (newS 5 5) (fun _ => False)) := a0
  clear a0
  go_wp2_with fail
  go_at_call 8
  refine (HF.out w1 A1.out.bel).mono ?_
  rintro e w' ⟨rfl, hx⟩
  obtain rfl := hx.symm
  clear hx HF
  cases fb with
  | false =>
    go_wp2_with fail
    go_at_call 9
    refine (HW.out _).mono ?_
    rintro e w2 ⟨rfl, hB⟩
    have HB2 : Hid (Below w.heap.size w w2) := A1.out.bel.trans (hB.mono A1.out.bel.size)
    clear hB
    go_wp2_with fail
    go_ret
    exact ⟨rfl, HB2.out⟩
  | true =>
  have HLF : Hid (L ≤ 200) := by have := (fairB_yes HFB.out).1; rw [HL.out] at this; exact this
  clear HFB
  have y1 : (n0 : Int) < 256 := HNI.out
  have y0 : (0 : Int) ≤ (n0 : Int) := by omega
  go_wp2_with fail
  go_at_call 21
  clear y0 y1
  obtain ⟨K, hK⟩ : ∃ K : Int, (n0 : Int) % 30 = K := ⟨_, rfl⟩
  have HK : Hid (0 ≤ K ∧ K < 30) := by show _ ∧ _; omega
  rw [hK]
  clear hK
  refine (A1.out.arm K).mono ?_
  rintro e w2 ⟨rfl, a0, -⟩
  have A2 : Hid (RAt w w2 rb p0 p1 { newS 5 5 with fuse := K } (fun _ => False)) := a0
  clear a0 A1
  go_wp2_with fail
  go_loopw [8, 9] (fun d i wr => ∃ (k : Nat) (S : RS) (dn : Int), k ≤ L ∧ i = .int .i64 k ∧ d = .int .i64 dn ∧ Hid (RAt w wr rb p0 p1 S (fun _ => False)) ∧ Hid (S.Fus K dn) ∧ Hid (S.Few k)) (fun _ i _ => L - (intOf i).toNat)
  case atStart => exact ⟨0, _, 0, Nat.zero_le _, rfl, rfl, A2, newS_fus K HK.out.1, few_newS 5 5 0⟩
  case round =>
    obtain ⟨k, S, dn, hk, rfl, rfl, A, U, F⟩ := hrel
    by_cases hlt : k < L
    · have HFIT : Hid S.Fit := RS.fit (by rw [U.out.fuse]; have := HK.out; have := U.out.d0; omega) (by rw [U.out.done]; exact U.out.d0) (by rw [U.out.done]; have := HK.out; have := U.out.d1; omega)
      have HF255 : Hid (S.Few 255) := F.out.mono (by have := HLF.out; omega)
      obtain ⟨s, hs⟩ : ∃ s, l[k]? = some s := ⟨_, List.getElem?_eq_getElem (by rw [HL.out]; exact hlt)⟩
      obtain ⟨b, off, rfl, hok, hblt, hsa⟩ := HST.out.open HL.out hs
      have HMEM := Lib.hid (List.mem_of_getElem? hs)
      obtain ⟨kind, dev, si, z, pa, pcap, bs, pa', pcap', bs'⟩ := s
      obtain ⟨P, hP⟩ : ∃ P, bs.length = P := ⟨_, rfl⟩
      obtain ⟨P', hP'⟩ : ∃ P, bs'.length = P := ⟨_, rfl⟩
      have HPL := Lib.hid hP
      have HPL' := Lib.hid hP'
      have HOK := Lib.hid hok
      have hB := A.out.bel
      have d0 : wr.cell? ⟨b, off + k * 6, none⟩ = some (.int .i64 kind) := (hB.cell (p := ⟨b, off + k * 6, none⟩) hblt).trans hsa.c0
      have d1 : wr.cell? ⟨b, off + k * 6 + 1, none⟩ = some (.int .i64 dev) := (hB.cell (p := ⟨b, off + k * 6 + 1, none⟩) hblt).trans hsa.c1
      have d2 : wr.cell? ⟨b, off + k * 6 + 2, none⟩ = some (.int .i64 si) := (hB.cell (p := ⟨b, off + k * 6 + 2, none⟩) hblt).trans hsa.c2
      have d3 : wr.cell? ⟨b, off + k * 6 + 3, none⟩ = some (.int .u8 z) := (hB.cell (p := ⟨b, off + k * 6 + 3, none⟩) hblt).trans hsa.c3
      have d4 : wr.cell? ⟨b, off + k * 6 + 4, none⟩ = some (.slice pa P pcap) := (hB.cell (p := ⟨b, off + k * 6 + 4, none⟩) hblt).trans (hsa.c4.trans (by rw [← hP]; rfl))
      have d5 : wr.cell? ⟨b, off + k * 6 + 5, none⟩ = some (.slice pa' P' pcap') := (hB.cell (p := ⟨b, off + k * 6 + 5, none⟩) hblt).trans (hsa.c5.trans (by rw [← hP']; rfl))
      have g1 : (k : Int) < (L : Int) := by omega
      have HLT := Lib.hid hlt
      have HWR : Hid (wrap64 ((k : Int) + 1) = (k : Int) + 1) := IntWalk.wrap64_in _ (by have := HLF.out; omega)
      obtain ⟨W, hW⟩ : ∃ W, wr.alloc (.cells #[.int .i64 kind, .int .i64 dev, .int .i64 si, .int .u8 z, .slice pa P pcap, .slice pa' P' pcap'] 35) = W := ⟨_, rfl⟩
      have hrow : W.heap[wr.heap.size]? = some (.cells #[.int .i64 kind, .int .i64 dev, .int .i64 si, .int .u8 z, .slice pa P pcap, .slice pa' P' pcap'] 35 (0, 0)) := by rw [← hW]; exact heap_alloc_new wr _
      have AW : Hid (RAt w W rb p0 p1 S (fun k => k = wr.heap.size)) := A.out.below (by rw [← hW]; exact (Below.refl _ _).alloc (Nat.le_refl _) _) _ (fun k hk => .inr ⟨by omega, by rw [← hW, hk]; simp⟩)
      have hBW : Below wr.heap.size wr W := by rw [← hW]; exact (Below.refl _ _).alloc (Nat.le_refl _) _
      have HBW := Lib.hid hBW
      have EQ0 : Hid (wr.heap.size < W.heap.size) := AW.out.lt rfl
      have HX : Hid (∀ x : World, x.heap[wr.heap.size]? = W.heap[wr.heap.size]? → x.cell? ⟨wr.heap.size, 0, none⟩ = some (.int .i64 kind) ∧ x.cell? ⟨wr.heap.size, 1, none⟩ = some (.int .i64 dev) ∧ x.cell? ⟨wr.heap.size, 2, none⟩ = some (.int .i64 si) ∧ x.cell? ⟨wr.heap.size, 3, none⟩ = some (.int .u8 z) ∧ x.cell? ⟨wr.heap.size, 4, none⟩ = some (.slice pa P pcap) ∧ x.cell? ⟨wr.heap.size, 5, none⟩ = some (.slice pa' P' pcap')) := fun x hx => by
        rw [hrow] at hx
        refine ⟨?_, ?_, ?_, ?_, ?_, ?_⟩ <;> (rw [cell_of_row _ _ _ _ _ _ hx]; rfl)
      have hmx : Try.prog.follows .mixedOrders = true := by kernel_rfl
      clear hsa hs hok hP hP' hlt hk hrow hB hblt hBW
      obtain ⟨D, hD⟩ : ∃ D : Int, modI dev 2 = D := ⟨_, rfl⟩
      obtain ⟨I, hI⟩ : ∃ I : Int, modI si 5 = I := ⟨_, rfl⟩
      have HD2 : Hid (0 ≤ D ∧ D < 2) := by rw [← hD]; exact modI_bd (by omega)
      have HI5 : Hid (0 ≤ I ∧ I < 5) := by rw [← hI]; exact modI_bd (by omega)
      have HHAS : Hid (S.has D I = true) := U.out.has HD2.out HI5.out
      have Q1 : Hid (∀ x : Ext W, Calls Try.prog 25 #[.int .i64 dev, .int .i64 2] x.1 fun e w'' => e = .returned (.int .i64 D) ∧ ∃ y : Ext W, w'' = y.1) := fun x => by rw [← hD]; exact (mod_any dev 2 x.1 (by omega)).mono fun e w'' ⟨h1, h2⟩ => ⟨h1, x, h2⟩
      have Q2 : Hid (∀ x : Ext W, Calls Try.prog 25 #[.int .i64 si, .int .i64 5] x.1 fun e w'' => e = .returned (.int .i64 I) ∧ ∃ y : Ext W, w'' = y.1) := fun x => by rw [← hI]; exact (mod_any si 5 x.1 (by omega)).mono fun e w'' ⟨h1, h2⟩ => ⟨h1, x, h2⟩
      have hC1 : ∀ y : Ext W, y.1.cell? ⟨wr.heap.size, 1, none⟩ = _ := fun y => (HX.out y.1 ((y.2.block _ EQ0.out).trans rfl)).2.1
      have hC2 : ∀ y : Ext W, y.1.cell? ⟨wr.heap.size, 2, none⟩ = _ := fun y => (HX.out y.1 ((y.2.block _ EQ0.out).trans rfl)).2.2.1
      clear A hD hI
      go_wp2_with fail
      clear d0 d1 d2 d3 d4 d5
      refine region_ext (by kernel_rfl) (by kernel_rfl) ?_
      repeat (go_big_quiet_step (with_reducible (first | exact Q1.out _ | exact Q2.out _)))
      refine wpQuiet_nil ?_
      intro x
      obtain ⟨x0, hx0⟩ := x
      have A0 := Lib.hid (AW.out.beside hx0)
      obtain ⟨f0, f1, f2, f3, f4, f5⟩ := HX.out x0 (hx0.block _ EQ0.out)
      dsimp only
      clear hx0 hC1 hC2 Q1 Q2 AW HX HOK HMEM HBW EQ0
      by_cases hk2 : kind = 2
      · subst hk2
        go_wp2_with fail
        clear f0 f1 f2 f3 f4 f5
        go_at_call 17
        refine (A0.out.flush HFIT.out D).mono ?_
        rintro e x2 ⟨rfl, hb, he⟩
        have F2' : Hid ((S.flush D).Few (k + 1)) := RS.few_flush (F.out.mono (by omega)) D
        have B2' := Lib.hid hb
        have UP := U.out.flush (dev := D) (by have := HD2.out; omega)
        clear hb he
        by_cases hq : dn < K
        · obtain ⟨h1, h2, h3⟩ := UP.1 hq
          rw [h1]
          obtain ⟨S', hS'⟩ : ∃ S', S.flush D = S' := ⟨_, rfl⟩
          rw [hS'] at h2 h3 B2' F2'
          have U2 := Lib.hid h2
          have DW := Lib.hid h3
          have B2 := B2'
          have F2 := F2'
          have q1 : decide (K ≤ dn) = false := by simpa using hq
          have q2 : ¬ K ≤ dn := by omega
          have hw2 : wrap64 (dn + 1) = dn + 1 := by have := HFIT.out.done; rw [U.out.done] at this; exact this
          clear h1 h2 h3 hS' B2' F2' UP hq
          go_wp2_with fail
          go_at_call 22
          refine (B2.out.isDown).mono ?_
          rintro e w' ⟨rfl, hx⟩
          obtain rfl := hx.symm
          clear hx
          rw [DW.out]
          go_wp2_with fail
          refine ⟨?_, next_lt HWR.out HLT.out⟩
          obtain ⟨k', q1, q2, q3⟩ := next_rel (C := fun k' => k' = k + 1) HWR.out HLT.out rfl
          exact ⟨k', S', dn + 1, q1, q2, by rw [hw2], B2.out.less _ (fun _ h => h.elim), U2, by rw [q3]; exact F2⟩
        · obtain ⟨h1, h2, h3⟩ := UP.2 hq
          rw [h1]
          obtain ⟨S', hS'⟩ : ∃ S', S.flush D = S' := ⟨_, rfl⟩
          rw [hS'] at h2 h3 B2' F2'
          have U2 := Lib.hid h2
          have DW := Lib.hid h3
          have B2 := B2'
          have F2 := F2'
          have q1 : decide (K ≤ dn) = true := by simpa using hq
          have q2 : K ≤ dn := by omega
          clear h1 h2 h3 hS' B2' F2' UP hq
          go_wp2_with fail
          go_at_call 22
          refine (B2.out.isDown).mono ?_
          rintro e w' ⟨rfl, hx⟩
          obtain rfl := hx.symm
          clear hx
          rw [DW.out]
          go_wp2_with fail
          refine ⟨?_, next_lt HWR.out HLT.out⟩
          obtain ⟨k', q1, q2, q3⟩ := next_rel (C := fun k' => k' = k + 1) HWR.out HLT.out rfl
          exact ⟨k', S', dn, q1, q2, rfl, B2.out.less _ (fun _ h => h.elim), U2, by rw [q3]; exact F2⟩
      by_cases hk0 : kind = 0
      · subst hk0
        go_wp2_with fail
        go_at_call 13
        clear f0 f1 f2 f3 f4 f5
        refine (fill_any z _).mono ?_
        rintro e x1 ⟨rfl, hb⟩
        have A1 := Lib.hid (A0.out.beside hb)
        clear hb
        go_wp2_with fail
        go_at_call 12
        refine (A1.out.write HFIT.out HF255.out D I (isBlk_fill z)).mono ?_
        rintro e x2 ⟨rfl, hb, he⟩
        clear A0 A1
        have F2' : Hid ((S.write D I (fillB z)).Few (k + 1)) := RS.few_write F.out (by have := HLT.out; have := HLF.out; omega) D I _
        have B2' := Lib.hid hb
        have UP := U.out.write HHAS.out (fillB z)
        clear hb he
        by_cases hq : dn < K
        · obtain ⟨h1, h2, h3⟩ := UP.1 hq
          rw [h1]
          obtain ⟨S', hS'⟩ : ∃ S', S.write D I (fillB z) = S' := ⟨_, rfl⟩
          rw [hS'] at h2 h3 B2' F2'
          have U2 := Lib.hid h2
          have DW := Lib.hid h3
          have B2 := B2'
          have F2 := F2'
          have q1 : decide (K ≤ dn) = false := by simpa using hq
          have q2 : ¬ K ≤ dn := by omega
          have hw2 : wrap64 (dn + 1) = dn + 1 := by have := HFIT.out.done; rw [U.out.done] at this; exact this
          clear h1 h2 h3 hS' B2' F2' UP hq
          go_wp2_with fail
          go_at_call 22
          refine (B2.out.isDown).mono ?_
          rintro e w' ⟨rfl, hx⟩
          obtain rfl := hx.symm
          clear hx
          rw [DW.out]
          go_wp2_with fail
          refine ⟨?_, next_lt HWR.out HLT.out⟩
          obtain ⟨k', q1, q2, q3⟩ := next_rel (C := fun k' => k' = k + 1) HWR.out HLT.out rfl
          exact ⟨k', S', dn + 1, q1, q2, by rw [hw2], B2.out.less _ (fun _ h => h.elim), U2, by rw [q3]; exact F2⟩
        · obtain ⟨h1, h2, h3⟩ := UP.2 hq
          rw [h1]
          obtain ⟨S', hS'⟩ : ∃ S', S.write D I (fillB z) = S' := ⟨_, rfl⟩
          rw [hS'] at h2 h3 B2' F2'
          have U2 := Lib.hid h2
          have DW := Lib.hid h3
          have B2 := B2'
          have F2 := F2'
          have q1 : decide (K ≤ dn) = true := by simpa using hq
          have q2 : K ≤ dn := by omega
          clear h1 h2 h3 hS' B2' F2' UP hq
          go_wp2_with fail
          go_at_call 22
          refine (B2.out.isDown).mono ?_
          rintro e w' ⟨rfl, hx⟩
          obtain rfl := hx.symm
          clear hx
          rw [DW.out]
          go_wp2_with fail
          refine ⟨?_, next_lt HWR.out HLT.out⟩
          obtain ⟨k', q1, q2, q3⟩ := next_rel (C := fun k' => k' = k + 1) HWR.out HLT.out rfl
          exact ⟨k', S', dn, q1, q2, rfl, B2.out.less _ (fun _ h => h.elim), U2, by rw [q3]; exact F2⟩
      · have hk0' : (kind == 0) = false := by simpa using hk0
        have hk2' : (kind == 2) = false := by simpa using hk2
        cases hdw : S.down with
        | true =>
          have HE : Hid (S.readE D I = 14 ∧ S.read D I = fillB 0) := by refine (?_ : _ ∧ _); unfold RS.readE RS.read; rw [if_pos HHAS.out, if_pos hdw, if_neg (by simp [hdw])]; exact ⟨rfl, rfl⟩
          have hub : IsBlk (fillB 0) := isBlk_fill 0
          have HDW := Lib.hid hdw
          clear hdw
          go_wp2_with fail
          clear f0 f1 f2 f3 f4 f5
          go_at_call 15
          refine (A0.out.read D I).mono ?_
          rintro e x1 ⟨rfl, hb⟩
          rw [HE.out.1, HE.out.2]
          have A1 := Lib.hid (A0.out.beside hb)
          clear hb A0
          go_wp2_with fail
          go_at_call 22
          obtain ⟨X, hX⟩ : ∃ X, x1.alloc (.cells ((fillB 0)).toArray 38) = X := ⟨_, rfl⟩
          rw [hX]
          have AX : Hid (RAt w X rb p0 p1 S (fun k => k = wr.heap.size)) := by rw [← hX]; exact A1.out.beside ((Below.refl _ _).alloc (Nat.le_refl _) _)
          have r1 : (loadVar 38 ⟨x1.heap.size, 0, none⟩).run Try.prog X = .ok (.agg ((fillB 0)).toArray) X := load_at (by rw [← hX]; exact heap_alloc_new x1 _) hub
          clear hX A1
          refine (AX.out.isDown).mono ?_
          rintro e w' ⟨rfl, hx⟩
          obtain rfl := hx.symm
          clear hx
          rw [HDW.out]
          go_wp2_with fail
          refine ⟨?_, next_lt HWR.out HLT.out⟩
          obtain ⟨k', q1, q2, q3⟩ := next_rel (C := fun k' => k' = k + 1) HWR.out HLT.out rfl
          exact ⟨k', S, dn, q1, q2, rfl, AX.out.less _ (fun _ h => h.elim), U, by rw [q3]; exact F.out.mono (by omega)⟩
        | false =>
          have hub : IsBlk (S.read D I) := A0.out.okRead D I
          obtain ⟨u, hu⟩ : ∃ u, S.read D I = u := ⟨_, rfl⟩
          rw [hu] at hub
          have HE : Hid (S.readE D I = 0 ∧ S.read D I = u) := by refine (?_ : _ ∧ _); unfold RS.readE; rw [if_pos HHAS.out, if_neg (by simp [hdw])]; exact ⟨rfl, hu⟩
          have hSt : ∀ x : World, (storeVar 38 ⟨x.heap.size, 0, none⟩ (.agg u.toArray)).run Try.prog (x.alloc (.cells zarr 38)) = .ok () (x.alloc (.cells u.toArray 38)) := fun x => store_new zarr_size hub
          clear hu
          have HDW := Lib.hid hdw
          clear hdw
          go_wp2_with fail
          clear f0 f1 f2 f3 f4 f5
          go_at_call 15
          refine (A0.out.read D I).mono ?_
          rintro e x1 ⟨rfl, hb⟩
          rw [HE.out.1, HE.out.2]
          have A1 := Lib.hid (A0.out.beside hb)
          clear hb A0
          go_wp2_with fail
          go_at_call 22
          obtain ⟨X, hX⟩ : ∃ X, x1.alloc (.cells (u).toArray 38) = X := ⟨_, rfl⟩
          rw [hX]
          have AX : Hid (RAt w X rb p0 p1 S (fun k => k = wr.heap.size)) := by rw [← hX]; exact A1.out.beside ((Below.refl _ _).alloc (Nat.le_refl _) _)
          have r1 : (loadVar 38 ⟨x1.heap.size, 0, none⟩).run Try.prog X = .ok (.agg (u).toArray) X := load_at (by rw [← hX]; exact heap_alloc_new x1 _) hub
          clear hX A1
          refine (AX.out.isDown).mono ?_
          rintro e w' ⟨rfl, hx⟩
          obtain rfl := hx.symm
          clear hx
          rw [HDW.out]
          go_wp2_with fail
          refine ⟨?_, next_lt HWR.out HLT.out⟩
          obtain ⟨k', q1, q2, q3⟩ := next_rel (C := fun k' => k' = k + 1) HWR.out HLT.out rfl
          exact ⟨k', S, dn, q1, q2, rfl, AX.out.less _ (fun _ h => h.elim), U, by rw [q3]; exact F.out.mono (by omega)⟩
    · obtain rfl : k = L := by omega
      have g1 : ¬ (k : Int) < (k : Int) := by omega
      clear hk hlt HST F A2
      go_wp2_with fail
      go_at_call 23
      refine (A.out.done).mono ?_
      rintro e w' ⟨rfl, hx⟩
      obtain rfl := hx.symm
      clear hx
      rw [U.out.done]
      go_wp2_with fail
      go_at_call 9
      refine (HW.out _).mono ?_
      rintro e w2 ⟨rfl, hB⟩
      have HB2 : Hid (Below w.heap.size w w2) := A.out.bel.trans (hB.mono A.out.bel.size)
      clear hB
      go_wp2_with fail
      go_ret
      exact ⟨rfl, HB2.out⟩

set_option maxRecDepth 100000 in
theorem lifted (os : Os) (started : os.Started) (H : Type) (enc : TypeId × Value → H) :
    ReturnsInHanded {} Try.checked os 4 .any (Rows.rigFusesSpec.pre6 enc Try.prog Try.f4 Rows.rigFusesRow.domain false) (Rows.rigFusesSpec.post enc Try.prog Try.f4 false true false false) := by
  refine returnsInHanded_of_change (C := Try.checked) own started (by kernel_rfl) Try.func4
    (ChangeSpec.witness6 (enc := enc) (C := Try.checked) false ⟨#[], #[.int .u8 0, .slice none 0 0], []⟩ 8 (by kernel_rfl) (by kernel_rfl) (by kernel_rfl) (by kernel_rfl)) ?_
  intro W base args ds gs before hval0 hW hcnd _
  have hval : ∀ (j : Nat) t v, Try.f4.params[j]? = some t → args[j]? = some v → Value.okWide Try.prog W .any base t v := hval0
  have hW' := hW
  obtain ⟨p, q, hA0, hV, rfl, hfz, hnd⟩ := hW
  have hA : DataW.TrodAll enc Try.prog W 0 (fun _ => true) true Try.f4.params.toList args.toList ds p := hA0
  rw [Try.params4] at hA hval
  obtain ⟨v0, vs0, d0, ds0, p0, q0, hargs, rfl, rfl, h0, r0⟩ := trodAll_cons hA
  obtain ⟨v1, vs1, d1, ds1, p1, q1, rfl, rfl, rfl, h1, r1⟩ := trodAll_cons r0
  obtain ⟨rfl, rfl, rfl⟩ := trodAll_nil r1
  obtain rfl : args = #[v0, v1] := by cases args; simp_all
  obtain ⟨rfl, rfl⟩ := trodVars_none hV
  have lt0 : ∀ x ∈ p0, x.block < W.heap.size := by obtain ⟨m, hm⟩ := h0; exact DataW.trod_lt m _ _ _ hm
  have a0 := Arg.mk (hval 0 5 v0 rfl rfl) h0
  have lt1 : ∀ x ∈ p1, x.block < W.heap.size := by obtain ⟨m, hm⟩ := h1; exact DataW.trod_lt m _ _ _ hm
  have a1 := Arg.mk (hval 1 23 v1 rfl rfl) h1
  clear hA0 hval0
  refine (walk v0 v1 W a0 a1).mono fun e W' ⟨he, bel⟩ => ?_
  subst he
  exact ⟨_, rfl, _, _, _, [], _, [], hW', trodAll_mk1 (shut_bool Try.underlying4 _), (trodAll_cons_mk (Below.trod laidOut (by kernel_rfl) (of_decide_eq_true (by kernel_rfl)) h0 bel lt0) (trodAll_cons_mk (Below.trod laidOut (by kernel_rfl) (of_decide_eq_true (by kernel_rfl)) h1 bel lt1) trodAll_mk0)), rfl, bel.frame _, fun h => by cases h⟩

theorem over : Rows.rigFusesRow.holds Try.pinned (OpenSpec.ofChange Rows.rigFusesSpec) :=
  OpenClaim.holds_of_wide 4 Try.f4 rfl rfl rfl rfl rfl rfl rfl ⟨rfl, rfl, rfl, rfl, rfl⟩ rfl rfl rfl rfl rfl (by kernel_rfl) Try.func4 (by kernel_rfl)
    (of_decide_eq_true (by kernel_rfl)) (by unfold Func.isWrapper; first | (rw [if_pos (by decide +kernel)]; kernel_rfl) | (rw [if_neg (by decide +kernel)]; exact ⟨rfl, rfl⟩))
    (fun os started H enc _ => lifted os started H enc)

theorem proved : Rows.RigFusesSaid := over
#print axioms proved
end Go.Proofs.Ytompbjdhdjafgaa.rigFuses
