/- Whatever the sizes and the steps, RigPlays returns true and leaves its arguments as they were; no conditions. -/
import Derived.Test.YtompbjdhdjafgaaRPlay
import Derived.Test.YtompbjdhdjafgaaSteps04
import Derived.Test.YtompbjdhdjafgaaRWakes
import Derived.Test.YtompbjdhdjafgaaQuiet
namespace Go.Proofs.Ytompbjdhdjafgaa.rigPlays
open Go.ChangeShapes Go.WideShapes Go.ChangeAt Go.RowKit
set_option linter.unusedVariables false
attribute [-simp] Try.isAgg38 Try.zeroValue38
attribute [-go_sem] loadVar storeVar
attribute [local go_sem] zero_blk build_blk loadVar_open storeVar_open store_fill eq_fill eq_fill_z

set_option maxRecDepth 100000 in
set_option maxHeartbeats 20000000 in
theorem walk (v0 v1 : Value) (w : World) (w0 : Arg w 22 v0) (w1 : Arg w 23 v1) :
    Calls Try.prog 3 #[v0, v1] w fun e w' => e = .returned (.bool true) ∧ Below w.heap.size w w' := by
  obtain ⟨n0, n1, rfl, wf0, wf1⟩ := w0.two Try.underlying22 Try.underlying3 (by kernel_rfl) (by kernel_rfl)
  obtain ⟨l, hst⟩ := w1.steps
  have HW := Lib.hid (wakes_any)
  obtain ⟨W0, hW0⟩ : ∃ W0, w.alloc (.cells #[.int .i64 n0, .int .i64 n1] 22) = W0 := ⟨_, rfl⟩
  have hB0 : Below w.heap.size w W0 := by rw [← hW0]; exact (Below.refl _ _).alloc (Nat.le_refl _) _
  have hrow0 : W0.heap[w.heap.size]? = some (.cells #[.int .i64 n0, .int .i64 n1] 22 (0, 0)) := by rw [← hW0]; exact heap_alloc_new w _
  have hlt0 : w.heap.size < W0.heap.size := by rw [← hW0]; simp
  have HN : Hid (∀ x : World, Below W0.heap.size W0 x → x.cell? ⟨w.heap.size, 0, none⟩ = some (.int .i64 n0) ∧ x.cell? ⟨w.heap.size, 1, none⟩ = some (.int .i64 n1)) := fun x hx => by
    have hb := (hx.block _ hlt0).trans hrow0
    exact ⟨cell_of_row x _ 0 _ _ _ hb, cell_of_row x _ 1 _ _ _ hb⟩
  have HST := Lib.hid hst
  have HF := Lib.hid (fair_any _ _ W0 (hst.below hB0))
  have HB0 := Lib.hid hB0
  obtain ⟨a, cap, rfl, -, -, -, -⟩ := hst
  obtain ⟨L, hL⟩ : ∃ L, l.length = L := ⟨_, rfl⟩
  have HL := Lib.hid hL
  rw [hL] at HST HF ⊢
  obtain ⟨fb, hfb⟩ : ∃ fb, fairB l = fb := ⟨_, rfl⟩
  have HFB := Lib.hid hfb
  rw [hfb] at HF
  obtain ⟨z0, z1⟩ := HN.out W0 (Below.refl _ _)
  clear hL hfb w0 w1 wf0 wf1 hB0 hrow0 hlt0
  cases fb with
  | false =>
    go_enter Try.func3, Try.ntmps3
    go_wp2_with (with_reducible (rw [hW0]; clear hW0))
    go_at_call 8
    refine HF.out.mono ?_
    rintro e w' ⟨rfl, hx⟩
    obtain rfl := hx.symm
    clear hx
    go_wp2_with fail
    go_at_call 9
    refine (HW.out _).mono ?_
    rintro e w2 ⟨rfl, hB⟩
    have HB2 : Hid (Below w.heap.size w w2) := (HB0.out).trans (hB.mono (HB0.out).size)
    clear hB
    go_wp2_with fail
    go_ret
    exact ⟨rfl, HB2.out⟩
  | true =>
  have HLF : Hid (L ≤ 200) := by have := (fairB_yes HFB.out).1; rw [HL.out] at this; exact this
  have HALL : Hid (∀ s ∈ l, s.b0.length ≤ 300 ∧ s.b1.length ≤ 300) := (fairB_yes HFB.out).2
  clear HFB
  by_cases hm0 : 60 < n0 ∧ n0 ≤ 4096
  · have k1 : decide (60 < n0) = true := by simpa using hm0.1
    have k2 : decide (n0 ≤ 4096) = true := by simpa using hm0.2
    clear hm0
    go_enter Try.func3, Try.ntmps3
    go_wp2_with (with_reducible (rw [hW0]; clear hW0))
    go_at_call 8
    refine HF.out.mono ?_
    rintro e w' ⟨rfl, hx⟩
    obtain rfl := hx.symm
    clear hx
    go_wp2_with fail
    go_at_call 9
    refine (HW.out _).mono ?_
    rintro e w2 ⟨rfl, hB⟩
    have HB2 : Hid (Below w.heap.size w w2) := (HB0.out).trans (hB.mono (HB0.out).size)
    clear hB
    go_wp2_with fail
    go_ret
    exact ⟨rfl, HB2.out⟩
  have hc0 : (decide (60 < n0) = false) ∨ (decide (60 < n0) = true ∧ decide (n0 ≤ 4096) = false) := by
    by_cases h : 60 < n0
    · exact .inr ⟨by simpa using h, by simp; omega⟩
    · exact .inl (by simpa using h)
  by_cases hm1 : 60 < n1 ∧ n1 ≤ 4096
  · have k3 : decide (60 < n1) = true := by simpa using hm1.1
    have k4 : decide (n1 ≤ 4096) = true := by simpa using hm1.2
    clear hm1 hm0
    rcases hc0 with k1 | ⟨k1, k2⟩
    all_goals
      go_enter Try.func3, Try.ntmps3
      go_wp2_with (with_reducible (rw [hW0]; clear hW0))
      go_at_call 8
      refine HF.out.mono ?_
      rintro e w' ⟨rfl, hx⟩
      obtain rfl := hx.symm
      clear hx
      go_wp2_with fail
      go_at_call 9
      refine (HW.out _).mono ?_
      rintro e w2 ⟨rfl, hB⟩
      have HB2 : Hid (Below w.heap.size w w2) := (HB0.out).trans (hB.mono (HB0.out).size)
      clear hB
      go_wp2_with fail
      go_ret
      exact ⟨rfl, HB2.out⟩
  have hc1 : (decide (60 < n1) = false) ∨ (decide (60 < n1) = true ∧ decide (n1 ≤ 4096) = false) := by
    by_cases h : 60 < n1
    · exact .inr ⟨by simpa using h, by simp; omega⟩
    · exact .inl (by simpa using h)
  by_cases hbad : (n0 < 1 ∨ 4096 < n0) ∨ (n1 < 1 ∨ 4096 < n1)
  · have HN1 := Lib.hid (fun x => rigNew_no n0 n1 x hbad)
    have HN2 := Lib.hid (fun x => rigQ_no n0 n1 x hbad)
    have hLz : ¬ (0 : Int) < (L : Int) ∨ (0 : Int) < (L : Int) := by omega
    clear hm0 hm1 hbad
    rcases hc0 with k1 | ⟨k1, k2⟩
    all_goals
      rcases hc1 with k3 | ⟨k3, k4⟩
      all_goals
        go_enter Try.func3, Try.ntmps3
        go_wp2_with (with_reducible (rw [hW0]; clear hW0))
        go_at_call 8
        refine HF.out.mono ?_
        rintro e w' ⟨rfl, hx⟩
        obtain rfl := hx.symm
        clear hx
        go_wp2_with fail
        go_at_call 10
        refine (HN1.out _).mono ?_
        rintro e x1 ⟨rfl, hb⟩
        have HX1 := Lib.hid hb
        obtain ⟨y0, y1⟩ := HN.out x1 hb
        clear hb
        go_wp2_with fail
        go_at_call 11
        refine (HN2.out _).mono ?_
        rintro e x2 ⟨rfl, hb⟩
        have HX2 : Hid (Below w.heap.size w x2) := HB0.out.trans ((HX1.out.trans (hb.mono HX1.out.size)).mono HB0.out.size)
        clear hb y0 y1
        go_wp2_with fail
        go_loopw [9] (fun i wr => i = .int .i64 0 ∧ wr = x2) (fun _ _ => 0)
        case atStart => exact ⟨rfl, rfl⟩
        case round =>
          obtain ⟨rfl, hx⟩ := hrel
          obtain rfl := hx.symm
          rcases hLz with q5 | q5
          all_goals
            go_wp2_with fail
            go_at_call 9
            refine (HW.out _).mono ?_
            rintro e w2 ⟨rfl, hB⟩
            have HB2 : Hid (Below w.heap.size w w2) := (HX2.out).trans (hB.mono (HX2.out).size)
            clear hB
            go_wp2_with fail
            go_ret
            exact ⟨rfl, HB2.out⟩
  obtain ⟨N0, rfl⟩ : ∃ N0 : Nat, n0 = (N0 : Int) := ⟨n0.toNat, by omega⟩
  obtain ⟨N1, rfl⟩ : ∃ N1 : Nat, n1 = (N1 : Int) := ⟨n1.toNat, by omega⟩
  have HN01 : Hid (1 ≤ N0 ∧ N0 ≤ 60 ∧ 1 ≤ N1 ∧ N1 ≤ 60) := by show _ ∧ _; omega
  have k1 : decide (60 < (N0 : Int)) = false := by simp; omega
  have k3 : decide (60 < (N1 : Int)) = false := by simp; omega
  clear hm0 hm1 hbad hc0 hc1
  go_enter Try.func3, Try.ntmps3
  go_wp2_with (with_reducible (rw [hW0]; clear hW0))
  go_at_call 8
  refine HF.out.mono ?_
  rintro e w' ⟨rfl, hx⟩
  obtain rfl := hx.symm
  clear hx
  go_wp2_with fail
  go_at_call 10
  refine (RAt.new N0 N1 w W0 HB0.out HN01.out.1 (by have := HN01.out; omega) HN01.out.2.2.1 (by have := HN01.out; omega) (fun _ => False) (fun _ h => h.elim)).mono ?_
  rintro e x1 ⟨rb, p0, p1, rfl, a1, hb1⟩
  have A1 : Hid (RAt w x1 rb p0 p1 (newS N0 N1) (fun _ => False)) := a1
  have HB1 := Lib.hid hb1
  clear a1 hb1 k1 k3 z0 z1
  obtain ⟨z0, z1⟩ := HN.out x1 HB1.out
  go_wp2_with fail
  go_at_call 11
  refine (rigQ_yes N0 N1 x1 HN01.out.1 (by have := HN01.out; omega) HN01.out.2.2.1 (by have := HN01.out; omega)).mono ?_
  rintro e x2 ⟨rq, q0, q1, rfl, g1, g2⟩
  obtain ⟨p, rfl, rfl, b0⟩ : ∃ p : PP, p.rb = rb ∧ p.rq = rq ∧ BAt w x2 p (newS N0 N1) (newS N0 N1) (fun _ => False) := ⟨⟨rb, p0, p1, rq, q0, q1⟩, rfl, rfl, BAt.new N0 N1 w x1 x2 rb p0 p1 rq q0 q1 A1.out g1 g2⟩
  have B0 := Lib.hid b0
  clear g1 g2 A1 b0 z0 z1 HN HB1 HB0
  go_wp2_with fail
  go_loopw [9] (fun i wr => ∃ (k : Nat) (S : RS), k ≤ L ∧ i = .int .i64 k ∧ Hid (BAt w wr p S S (fun _ => False)) ∧ Hid (S.Pl N0 N1 k)) (fun i _ => L - (intOf i).toNat)
  case atStart => exact ⟨0, _, Nat.zero_le _, rfl, B0, newS_pl N0 N1⟩
  case round =>
    clear B0
    obtain ⟨k, S, hk, rfl, A, U⟩ := hrel
    by_cases hlt : k < L
    · obtain ⟨s, hs⟩ : ∃ s, l[k]? = some s := ⟨_, List.getElem?_eq_getElem (by rw [HL.out]; exact hlt)⟩
      obtain ⟨b, off, rfl, hok, hblt, hsa⟩ := HST.out.open HL.out hs
      have HMEM := Lib.hid (List.mem_of_getElem? hs)
      obtain ⟨kind, dev, si, z, pa, pcap, bs, pa', pcap', bs'⟩ := s
      obtain ⟨P, hP⟩ : ∃ P, bs.length = P := ⟨_, rfl⟩
      obtain ⟨P', hP'⟩ : ∃ P, bs'.length = P := ⟨_, rfl⟩
      have HPL := Lib.hid hP
      have HPL' := Lib.hid hP'
      have HOK := Lib.hid hok
      have hB := A.out.bel
      have d0 : wr.cell? ⟨b, off + k * 6, none⟩ = some (.int .i64 kind) := (hB.cell (p := ⟨b, off + k * 6, none⟩) hblt).trans hsa.c0
      have d1 : wr.cell? ⟨b, off + k * 6 + 1, none⟩ = some (.int .i64 dev) := (hB.cell (p := ⟨b, off + k * 6 + 1, none⟩) hblt).trans hsa.c1
      have d2 : wr.cell? ⟨b, off + k * 6 + 2, none⟩ = some (.int .i64 si) := (hB.cell (p := ⟨b, off + k * 6 + 2, none⟩) hblt).trans hsa.c2
      have d3 : wr.cell? ⟨b, off + k * 6 + 3, none⟩ = some (.int .u8 z) := (hB.cell (p := ⟨b, off + k * 6 + 3, none⟩) hblt).trans hsa.c3
      have d4 : wr.cell? ⟨b, off + k * 6 + 4, none⟩ = some (.slice pa P pcap) := (hB.cell (p := ⟨b, off + k * 6 + 4, none⟩) hblt).trans (hsa.c4.trans (by rw [← hP]; rfl))
      have d5 : wr.cell? ⟨b, off + k * 6 + 5, none⟩ = some (.slice pa' P' pcap') := (hB.cell (p := ⟨b, off + k * 6 + 5, none⟩) hblt).trans (hsa.c5.trans (by rw [← hP']; rfl))
      have g1 : (k : Int) < (L : Int) := by omega
      have HLT := Lib.hid hlt
      have HWR : Hid (wrap64 ((k : Int) + 1) = (k : Int) + 1) := IntWalk.wrap64_in _ (by have := HLF.out; omega)
      obtain ⟨W, hW⟩ : ∃ W, wr.alloc (.cells #[.int .i64 kind, .int .i64 dev, .int .i64 si, .int .u8 z, .slice pa P pcap, .slice pa' P' pcap'] 35) = W := ⟨_, rfl⟩
      have hrow : W.heap[wr.heap.size]? = some (.cells #[.int .i64 kind, .int .i64 dev, .int .i64 si, .int .u8 z, .slice pa P pcap, .slice pa' P' pcap'] 35 (0, 0)) := by rw [← hW]; exact heap_alloc_new wr _
      have AW : Hid (BAt w W p S S (fun k => k = wr.heap.size)) := A.out.below (by rw [← hW]; exact (Below.refl _ _).alloc (Nat.le_refl _) _) _ (fun k hk => .inr ⟨by omega, by rw [← hW, hk]; simp⟩)
      have hBW : Below wr.heap.size wr W := by rw [← hW]; exact (Below.refl _ _).alloc (Nat.le_refl _) _
      have HBW := Lib.hid hBW
      have EQ0 : Hid (wr.heap.size < W.heap.size) := AW.out.lt rfl
      have HX : Hid (∀ x : World, x.heap[wr.heap.size]? = W.heap[wr.heap.size]? → x.cell? ⟨wr.heap.size, 0, none⟩ = some (.int .i64 kind) ∧ x.cell? ⟨wr.heap.size, 1, none⟩ = some (.int .i64 dev) ∧ x.cell? ⟨wr.heap.size, 2, none⟩ = some (.int .i64 si) ∧ x.cell? ⟨wr.heap.size, 3, none⟩ = some (.int .u8 z) ∧ x.cell? ⟨wr.heap.size, 4, none⟩ = some (.slice pa P pcap) ∧ x.cell? ⟨wr.heap.size, 5, none⟩ = some (.slice pa' P' pcap')) := fun x hx => by
        rw [hrow] at hx
        refine ⟨?_, ?_, ?_, ?_, ?_, ?_⟩ <;> (rw [cell_of_row _ _ _ _ _ _ hx]; rfl)
      have hmx : Try.prog.follows .mixedOrders = true := by kernel_rfl
      clear hsa hs hok hP hP' hlt hk hrow hB hblt hBW
      have HFIT : Hid S.Fit := U.out.fit (by have := HLT.out; have := HLF.out; omega)
      have HF255 : Hid (S.Few 255) := U.out.few.mono (by have := HLT.out; have := HLF.out; omega)
      clear A
      by_cases hk0 : kind = 0
      · subst hk0
        as_aux_lemma =>
          have hC1 : ∀ y : Keep wr.heap.size W, y.1.cell? ⟨wr.heap.size, 1, none⟩ = _ := fun y => (HX.out y.1 y.2).2.1
          have hC2 : ∀ y : Keep wr.heap.size W, y.1.cell? ⟨wr.heap.size, 2, none⟩ = _ := fun y => (HX.out y.1 y.2).2.2.1
          have hC3 : ∀ y : Keep wr.heap.size W, y.1.cell? ⟨wr.heap.size, 3, none⟩ = _ := fun y => (HX.out y.1 y.2).2.2.2.1
          obtain ⟨f0, f1, f2, f3, f4, f5⟩ := HX.out W rfl
          go_wp2_with fail
          clear f0 f1 f2 f3 f4 f5
          refine region_plan (fun x => ∃ y : Keep wr.heap.size W, x = y.1) 18 (.takes [0, 1, 2, 3, 4, 5, 6, 9, 10, 11, 12, 13, 14, 15] (.one 7 (.one 8 (.one 16 (.one 17 .leaf))))) hmx (by kernel_rfl) (by intro c x v a w h; cases x <;> exact h) ⟨⟨World.drew W, rfl⟩, rfl⟩ ?_
          repeat (rw [wpPlan_takes_cons]; simp only [nth_zero, nth_succ]; go_big_quiet_step (fail); refine wpQuiet_nil ?_)
          clear hC1 hC2 hC3
          rw [wpPlan_takes_nil, wpPlan_one]
          simp only [nth_zero, nth_succ]
          go_wp2_with fail
          go_at_call 13
          refine (fill_any z _).mono ?_
          rintro e x1 ⟨rfl, hb⟩
          have Hx1 := Lib.hid hb
          clear hb
          go_wp2_with fail
          refine planPost_mk ⟨⟨x1, Hx1.out.block _ EQ0.out⟩, rfl⟩ ?_
          have HD1 : Hid (Below W.heap.size W x1) := (Below.refl _ W).drew.trans Hx1.out
          rw [wpPlan_one]
          simp only [nth_zero, nth_succ]
          go_wp2_with fail
          go_at_call 12
          refine ((AW.out.beside HD1.out).write HFIT.out HF255.out dev si (isBlk_fill z)).mono ?_
          rintro e x2 ⟨rfl, hb, he⟩
          have B2 := Lib.hid hb
          have K2 : Hid (x2.heap[wr.heap.size]? = W.heap[wr.heap.size]?) := (he _ rfl).trans (HD1.out.block _ EQ0.out)
          clear hb he
          go_wp2_with fail
          refine planPost_mk ⟨⟨x2, K2.out⟩, rfl⟩ ?_
          rw [wpPlan_one]
          simp only [nth_zero, nth_succ]
          go_wp2_with fail
          go_at_call 13
          refine (fill_any z _).mono ?_
          rintro e x3 ⟨rfl, hb⟩
          have Hx3 := Lib.hid hb
          clear hb
          go_wp2_with fail
          refine planPost_mk ⟨⟨x3, (Hx3.out.block _ (B2.out.lt rfl)).trans K2.out⟩, rfl⟩ ?_
          rw [wpPlan_one]
          simp only [nth_zero, nth_succ]
          go_wp2_with fail
          go_at_call 14
          refine ((B2.out.beside Hx3.out).write2 HFIT.out HF255.out dev si (isBlk_fill z)).mono ?_
          rintro e x4 ⟨rfl, hb, he⟩
          have B4 := Lib.hid hb
          have K4 : Hid (x4.heap[wr.heap.size]? = W.heap[wr.heap.size]?) := (he _ rfl).trans ((Hx3.out.block _ (B2.out.lt rfl)).trans K2.out)
          clear hb he
          go_wp2_with fail
          refine planPost_mk ⟨⟨x4, K4.out⟩, rfl⟩ ?_
          rw [wpPlan_leaf]
          simp only [List.drop_succ_cons, List.drop_zero]
          obtain ⟨E, hE⟩ : ∃ E, S.writeE dev si = E := ⟨_, rfl⟩
          rw [hE]
          clear hE
          go_wp2_with fail
          clear B2 AW HX
          have PL := Lib.hid (U.out.write (by have := HLT.out; have := HLF.out; omega) dev si (fillB z))
          obtain ⟨S', hS'⟩ : ∃ S', S.write dev si (fillB z) = S' := ⟨_, rfl⟩
          rw [hS'] at B4 PL
          clear hS'
          obtain ⟨dw, hdw⟩ : ∃ q, S'.down = q := ⟨_, rfl⟩
          obtain ⟨dn, hdn⟩ : ∃ q, S'.done = q := ⟨_, rfl⟩
          have T0 : ∀ y : Ext x4, y.1.cell? ⟨p.rq, 0, none⟩ = some (.pointer (some ⟨p.q0, 0, none⟩)) := fun y => (B4.out.beside y.2).cell 0
          have T1 : ∀ y : Ext x4, y.1.cell? ⟨p.rq, 1, none⟩ = some (.pointer (some ⟨p.q1, 0, none⟩)) := fun y => (B4.out.beside y.2).cell 1
          have T3 : ∀ y : Ext x4, y.1.cell? ⟨p.rq, 3, none⟩ = some (.bool dw) := fun y => by rw [← hdw]; exact (B4.out.beside y.2).cell 3
          have T4 : ∀ y : Ext x4, y.1.cell? ⟨p.rq, 4, none⟩ = some (.int .i64 dn) := fun y => by rw [← hdn]; exact (B4.out.beside y.2).cell 4
          obtain ⟨ss0, hs0, hl0, -⟩ := B4.out.disk0
          obtain ⟨ss1, hs1, hl1, -⟩ := B4.out.disk1
          rw [PL.out.n0] at hs0
          rw [PL.out.n1] at hs1
          have T5 : ∀ y : Ext x4, y.1.cell? ⟨p.q0, 0, none⟩ = some (.slice (some ⟨ss0, 0, none⟩) N0 N0) := fun y => (y.2.cell (p := ⟨p.q0, 0, none⟩) hl0).trans hs0
          have T6 : ∀ y : Ext x4, y.1.cell? ⟨p.q1, 0, none⟩ = some (.slice (some ⟨ss1, 0, none⟩) N1 N1) := fun y => (y.2.cell (p := ⟨p.q1, 0, none⟩) hl1).trans hs1
          have Q1 : Hid (∀ y : Ext x4, Calls Try.prog 22 #[.pointer (some ⟨p.rb, 0, none⟩)] y.1 fun e w'' => e = .returned (.bool dw) ∧ ∃ z : Ext x4, w'' = z.1) := fun y => by rw [← hdw]; exact (B4.out.beside y.2).isDown.mono fun e w'' ⟨h1, h2⟩ => ⟨h1, y, h2⟩
          have Q2 : Hid (∀ y : Ext x4, Calls Try.prog 23 #[.pointer (some ⟨p.rb, 0, none⟩)] y.1 fun e w'' => e = .returned (.int .i64 dn) ∧ ∃ z : Ext x4, w'' = z.1) := fun y => by rw [← hdn]; exact (B4.out.beside y.2).done.mono fun e w'' ⟨h1, h2⟩ => ⟨h1, y, h2⟩
          have Q3 : Hid (∀ y : Ext x4, Calls Try.prog 24 #[.pointer (some ⟨p.rb, 0, none⟩), .int .i64 0] y.1 fun e w'' => e = .returned (.int .i64 (N0 : Int)) ∧ ∃ z : Ext x4, w'' = z.1) := fun y => calls_ext y (by have := (B4.out.beside y.2).len 0; rwa [show S'.len 0 = N0 from PL.out.n0] at this)
          have Q4 : Hid (∀ y : Ext x4, Calls Try.prog 24 #[.pointer (some ⟨p.rb, 0, none⟩), .int .i64 1] y.1 fun e w'' => e = .returned (.int .i64 (N1 : Int)) ∧ ∃ z : Ext x4, w'' = z.1) := fun y => calls_ext y (by have := (B4.out.beside y.2).len 1; rwa [show S'.len 1 = N1 from PL.out.n1] at this)
          have Q5 : Hid (∀ y : Ext x4, Calls Try.prog 24 #[.pointer (some ⟨p.rb, 0, none⟩), .int .i64 2] y.1 fun e w'' => e = .returned (.int .i64 0) ∧ ∃ z : Ext x4, w'' = z.1) := fun y => calls_ext y ((B4.out.beside y.2).len 2)
          clear hdw hdn hs0 hs1 hl0 hl1
          refine region_ext (by kernel_rfl) (by kernel_rfl) ?_
          repeat (go_big_quiet_step (with_reducible (first | exact Q1.out _ | exact Q2.out _ | exact Q3.out _ | exact Q4.out _ | exact Q5.out _)))
          refine wpQuiet_nil ?_
          intro x
          clear T0 T1 T3 T4 T5 T6
          go_wp2_with fail
          refine ⟨?_, next_lt HWR.out HLT.out⟩
          obtain ⟨k', r1, r2, r3⟩ := next_rel (C := fun k' => k' = k + 1) HWR.out HLT.out rfl
          exact ⟨k', S', r1, r2, (B4.out.beside x.2).less _ (fun _ h => h.elim), by rw [r3]; exact PL.out⟩
      by_cases hk1 : kind = 1
      · subst hk1
        as_aux_lemma =>
          obtain ⟨f0, f1, f2, f3, f4, f5⟩ := HX.out W rfl
          have hub : IsBlk (S.read dev si) := AW.out.okRead dev si
          obtain ⟨u, hu⟩ : ∃ u, S.read dev si = u := ⟨_, rfl⟩
          obtain ⟨E, hE⟩ : ∃ E, S.readE dev si = E := ⟨_, rfl⟩
          rw [hu] at hub
          have HU := Lib.hid hu
          have HE := Lib.hid hE
          have hEq : ∀ x : World, (Op.equalIn 10000 38 (.agg u.toArray) (.agg u.toArray)).run Try.prog x = .ok true x := fun x => by rw [eq_blk hub hub]; congr 1; exact alike_iff.2 rfl
          have hSt : ∀ x : World, (storeVar 38 ⟨x.heap.size, 0, none⟩ (.agg u.toArray)).run Try.prog (x.alloc (.cells zarr 38)) = .ok () (x.alloc (.cells u.toArray 38)) := fun x => store_new zarr_size hub
          clear hu hE
          go_wp2_with fail
          clear f0 f1 f2 f3 f4 f5
          go_at_call 15
          refine (AW.out.read dev si).mono ?_
          rintro e x1 ⟨rfl, hb⟩
          rw [HU.out, HE.out]
          have hb1 := Lib.hid hb
          clear hb
          obtain ⟨f0, f1, f2, f3, f4, f5⟩ := HX.out (x1.alloc (.cells u.toArray 38)) (by rw [Below.heap_alloc _ _ _ (by have := hb1.out.size; have := EQ0.out; omega)]; exact hb1.out.block _ EQ0.out)
          go_wp2_with fail
          go_at_call 16
          clear f0 f1 f2 f3 f4 f5
          obtain ⟨X, hX⟩ : ∃ X, x1.alloc (.cells u.toArray 38) = X := ⟨_, rfl⟩
          rw [hX]
          have HBX : Hid (Below W.heap.size W X) := by rw [← hX]; exact hb1.out.alloc hb1.out.size _
          have BX := Lib.hid (AW.out.beside HBX.out)
          have kX : Hid (X.heap[x1.heap.size]? = some (.cells u.toArray 38 (0, 0))) := by rw [← hX]; exact heap_alloc_new x1 _
          clear hX hb1
          refine (BX.out.read2 dev si).mono ?_
          rintro e x2 ⟨rfl, hb⟩
          rw [HU.out, HE.out]
          have hb2 := Lib.hid hb
          clear hb
          go_wp2_with fail
          obtain ⟨Y, hY⟩ : ∃ Y, x2.alloc (.cells u.toArray 38) = Y := ⟨_, rfl⟩
          rw [hY]
          have HBY : Below X.heap.size X Y := by rw [← hY]; exact hb2.out.alloc hb2.out.size _
          have B4 : Hid (BAt w Y p S S (fun k => k = wr.heap.size)) := BX.out.beside HBY
          have r1 : (loadVar 38 ⟨x1.heap.size, 0, none⟩).run Try.prog Y = .ok (.agg u.toArray) Y := load_at ((HBY.block _ (Array.getElem?_eq_some_iff.1 kX.out).1).trans kX.out) hub
          have r2 : (loadVar 38 ⟨x2.heap.size, 0, none⟩).run Try.prog Y = .ok (.agg u.toArray) Y := load_at (by rw [← hY]; exact heap_alloc_new x2 _) hub
          clear hY HBY kX BX hb2
          simp only [r1]
          go_wp2_with fail
          clear r1 r2 hEq hSt
          have PL := Lib.hid U.out.more
          obtain ⟨S', hS'⟩ : ∃ S', S = S' := ⟨_, rfl⟩
          rw [hS'] at B4 PL
          obtain ⟨dw, hdw⟩ : ∃ q, S'.down = q := ⟨_, rfl⟩
          obtain ⟨dn, hdn⟩ : ∃ q, S'.done = q := ⟨_, rfl⟩
          have T0 : ∀ y : Ext Y, y.1.cell? ⟨p.rq, 0, none⟩ = some (.pointer (some ⟨p.q0, 0, none⟩)) := fun y => (B4.out.beside y.2).cell 0
          have T1 : ∀ y : Ext Y, y.1.cell? ⟨p.rq, 1, none⟩ = some (.pointer (some ⟨p.q1, 0, none⟩)) := fun y => (B4.out.beside y.2).cell 1
          have T3 : ∀ y : Ext Y, y.1.cell? ⟨p.rq, 3, none⟩ = some (.bool dw) := fun y => by rw [← hdw]; exact (B4.out.beside y.2).cell 3
          have T4 : ∀ y : Ext Y, y.1.cell? ⟨p.rq, 4, none⟩ = some (.int .i64 dn) := fun y => by rw [← hdn]; exact (B4.out.beside y.2).cell 4
          obtain ⟨ss0, hs0, hl0, -⟩ := B4.out.disk0
          obtain ⟨ss1, hs1, hl1, -⟩ := B4.out.disk1
          rw [PL.out.n0] at hs0
          rw [PL.out.n1] at hs1
          have T5 : ∀ y : Ext Y, y.1.cell? ⟨p.q0, 0, none⟩ = some (.slice (some ⟨ss0, 0, none⟩) N0 N0) := fun y => (y.2.cell (p := ⟨p.q0, 0, none⟩) hl0).trans hs0
          have T6 : ∀ y : Ext Y, y.1.cell? ⟨p.q1, 0, none⟩ = some (.slice (some ⟨ss1, 0, none⟩) N1 N1) := fun y => (y.2.cell (p := ⟨p.q1, 0, none⟩) hl1).trans hs1
          have Q1 : Hid (∀ y : Ext Y, Calls Try.prog 22 #[.pointer (some ⟨p.rb, 0, none⟩)] y.1 fun e w'' => e = .returned (.bool dw) ∧ ∃ z : Ext Y, w'' = z.1) := fun y => by rw [← hdw]; exact (B4.out.beside y.2).isDown.mono fun e w'' ⟨h1, h2⟩ => ⟨h1, y, h2⟩
          have Q2 : Hid (∀ y : Ext Y, Calls Try.prog 23 #[.pointer (some ⟨p.rb, 0, none⟩)] y.1 fun e w'' => e = .returned (.int .i64 dn) ∧ ∃ z : Ext Y, w'' = z.1) := fun y => by rw [← hdn]; exact (B4.out.beside y.2).done.mono fun e w'' ⟨h1, h2⟩ => ⟨h1, y, h2⟩
          have Q3 : Hid (∀ y : Ext Y, Calls Try.prog 24 #[.pointer (some ⟨p.rb, 0, none⟩), .int .i64 0] y.1 fun e w'' => e = .returned (.int .i64 (N0 : Int)) ∧ ∃ z : Ext Y, w'' = z.1) := fun y => calls_ext y (by have := (B4.out.beside y.2).len 0; rwa [show S'.len 0 = N0 from PL.out.n0] at this)
          have Q4 : Hid (∀ y : Ext Y, Calls Try.prog 24 #[.pointer (some ⟨p.rb, 0, none⟩), .int .i64 1] y.1 fun e w'' => e = .returned (.int .i64 (N1 : Int)) ∧ ∃ z : Ext Y, w'' = z.1) := fun y => calls_ext y (by have := (B4.out.beside y.2).len 1; rwa [show S'.len 1 = N1 from PL.out.n1] at this)
          have Q5 : Hid (∀ y : Ext Y, Calls Try.prog 24 #[.pointer (some ⟨p.rb, 0, none⟩), .int .i64 2] y.1 fun e w'' => e = .returned (.int .i64 0) ∧ ∃ z : Ext Y, w'' = z.1) := fun y => calls_ext y ((B4.out.beside y.2).len 2)
          clear hdw hdn hs0 hs1 hl0 hl1
          refine region_ext (by kernel_rfl) (by kernel_rfl) ?_
          repeat (go_big_quiet_step (with_reducible (first | exact Q1.out _ | exact Q2.out _ | exact Q3.out _ | exact Q4.out _ | exact Q5.out _)))
          refine wpQuiet_nil ?_
          intro x
          clear T0 T1 T3 T4 T5 T6
          go_wp2_with fail
          refine ⟨?_, next_lt HWR.out HLT.out⟩
          obtain ⟨k', r1, r2, r3⟩ := next_rel (C := fun k' => k' = k + 1) HWR.out HLT.out rfl
          exact ⟨k', S', r1, r2, (B4.out.beside x.2).less _ (fun _ h => h.elim), by rw [r3]; exact PL.out⟩
      by_cases hk2 : kind = 2
      · subst hk2
        as_aux_lemma =>
          have hC1 : ∀ y : Keep wr.heap.size W, y.1.cell? ⟨wr.heap.size, 1, none⟩ = _ := fun y => (HX.out y.1 y.2).2.1
          obtain ⟨f0, f1, f2, f3, f4, f5⟩ := HX.out W rfl
          go_wp2_with fail
          clear f0 f1 f2 f3 f4 f5
          refine region_plan (fun x => ∃ y : Keep wr.heap.size W, x = y.1) 8 (.takes [0, 1, 2, 4, 5, 6] (.one 3 (.one 7 .leaf))) hmx (by kernel_rfl) (by intro c x v a w h; cases x <;> exact h) ⟨⟨World.drew W, rfl⟩, rfl⟩ ?_
          repeat (rw [wpPlan_takes_cons]; simp only [nth_zero, nth_succ]; go_big_quiet_step (fail); refine wpQuiet_nil ?_)
          clear hC1
          rw [wpPlan_takes_nil, wpPlan_one]
          simp only [nth_zero, nth_succ]
          go_wp2_with fail
          go_at_call 17
          refine ((AW.out.beside (Below.refl _ W).drew).flush HFIT.out dev).mono ?_
          rintro e x2 ⟨rfl, hb, he⟩
          have B2 := Lib.hid hb
          have K2 : Hid (x2.heap[wr.heap.size]? = W.heap[wr.heap.size]?) := he _ rfl
          clear hb he
          go_wp2_with fail
          refine planPost_mk ⟨⟨x2, K2.out⟩, rfl⟩ ?_
          rw [wpPlan_one]
          simp only [nth_zero, nth_succ]
          go_wp2_with fail
          go_at_call 18
          refine (B2.out.flush2 HFIT.out dev).mono ?_
          rintro e x4 ⟨rfl, hb, he⟩
          have B4 := Lib.hid hb
          have K4 : Hid (x4.heap[wr.heap.size]? = W.heap[wr.heap.size]?) := (he _ rfl).trans K2.out
          clear hb he
          go_wp2_with fail
          refine planPost_mk ⟨⟨x4, K4.out⟩, rfl⟩ ?_
          rw [wpPlan_leaf]
          simp only [List.drop_succ_cons, List.drop_zero]
          obtain ⟨E, hE⟩ : ∃ E, S.flushE dev = E := ⟨_, rfl⟩
          rw [hE]
          clear hE
          go_wp2_with fail
          clear B2 AW HX
          have PL := Lib.hid (U.out.flush dev)
          obtain ⟨S', hS'⟩ : ∃ S', S.flush dev = S' := ⟨_, rfl⟩
          rw [hS'] at B4 PL
          clear hS'
          obtain ⟨dw, hdw⟩ : ∃ q, S'.down = q := ⟨_, rfl⟩
          obtain ⟨dn, hdn⟩ : ∃ q, S'.done = q := ⟨_, rfl⟩
          have T0 : ∀ y : Ext x4, y.1.cell? ⟨p.rq, 0, none⟩ = some (.pointer (some ⟨p.q0, 0, none⟩)) := fun y => (B4.out.beside y.2).cell 0
          have T1 : ∀ y : Ext x4, y.1.cell? ⟨p.rq, 1, none⟩ = some (.pointer (some ⟨p.q1, 0, none⟩)) := fun y => (B4.out.beside y.2).cell 1
          have T3 : ∀ y : Ext x4, y.1.cell? ⟨p.rq, 3, none⟩ = some (.bool dw) := fun y => by rw [← hdw]; exact (B4.out.beside y.2).cell 3
          have T4 : ∀ y : Ext x4, y.1.cell? ⟨p.rq, 4, none⟩ = some (.int .i64 dn) := fun y => by rw [← hdn]; exact (B4.out.beside y.2).cell 4
          obtain ⟨ss0, hs0, hl0, -⟩ := B4.out.disk0
          obtain ⟨ss1, hs1, hl1, -⟩ := B4.out.disk1
          rw [PL.out.n0] at hs0
          rw [PL.out.n1] at hs1
          have T5 : ∀ y : Ext x4, y.1.cell? ⟨p.q0, 0, none⟩ = some (.slice (some ⟨ss0, 0, none⟩) N0 N0) := fun y => (y.2.cell (p := ⟨p.q0, 0, none⟩) hl0).trans hs0
          have T6 : ∀ y : Ext x4, y.1.cell? ⟨p.q1, 0, none⟩ = some (.slice (some ⟨ss1, 0, none⟩) N1 N1) := fun y => (y.2.cell (p := ⟨p.q1, 0, none⟩) hl1).trans hs1
          have Q1 : Hid (∀ y : Ext x4, Calls Try.prog 22 #[.pointer (some ⟨p.rb, 0, none⟩)] y.1 fun e w'' => e = .returned (.bool dw) ∧ ∃ z : Ext x4, w'' = z.1) := fun y => by rw [← hdw]; exact (B4.out.beside y.2).isDown.mono fun e w'' ⟨h1, h2⟩ => ⟨h1, y, h2⟩
          have Q2 : Hid (∀ y : Ext x4, Calls Try.prog 23 #[.pointer (some ⟨p.rb, 0, none⟩)] y.1 fun e w'' => e = .returned (.int .i64 dn) ∧ ∃ z : Ext x4, w'' = z.1) := fun y => by rw [← hdn]; exact (B4.out.beside y.2).done.mono fun e w'' ⟨h1, h2⟩ => ⟨h1, y, h2⟩
          have Q3 : Hid (∀ y : Ext x4, Calls Try.prog 24 #[.pointer (some ⟨p.rb, 0, none⟩), .int .i64 0] y.1 fun e w'' => e = .returned (.int .i64 (N0 : Int)) ∧ ∃ z : Ext x4, w'' = z.1) := fun y => calls_ext y (by have := (B4.out.beside y.2).len 0; rwa [show S'.len 0 = N0 from PL.out.n0] at this)
          have Q4 : Hid (∀ y : Ext x4, Calls Try.prog 24 #[.pointer (some ⟨p.rb, 0, none⟩), .int .i64 1] y.1 fun e w'' => e = .returned (.int .i64 (N1 : Int)) ∧ ∃ z : Ext x4, w'' = z.1) := fun y => calls_ext y (by have := (B4.out.beside y.2).len 1; rwa [show S'.len 1 = N1 from PL.out.n1] at this)
          have Q5 : Hid (∀ y : Ext x4, Calls Try.prog 24 #[.pointer (some ⟨p.rb, 0, none⟩), .int .i64 2] y.1 fun e w'' => e = .returned (.int .i64 0) ∧ ∃ z : Ext x4, w'' = z.1) := fun y => calls_ext y ((B4.out.beside y.2).len 2)
          clear hdw hdn hs0 hs1 hl0 hl1
          refine region_ext (by kernel_rfl) (by kernel_rfl) ?_
          repeat (go_big_quiet_step (with_reducible (first | exact Q1.out _ | exact Q2.out _ | exact Q3.out _ | exact Q4.out _ | exact Q5.out _)))
          refine wpQuiet_nil ?_
          intro x
          clear T0 T1 T3 T4 T5 T6
          go_wp2_with fail
          refine ⟨?_, next_lt HWR.out HLT.out⟩
          obtain ⟨k', r1, r2, r3⟩ := next_rel (C := fun k' => k' = k + 1) HWR.out HLT.out rfl
          exact ⟨k', S', r1, r2, (B4.out.beside x.2).less _ (fun _ h => h.elim), by rw [r3]; exact PL.out⟩
      by_cases hk3 : kind = 3
      · subst hk3
        as_aux_lemma =>
          have HP0 : Hid (Sl .u8 w (.slice pa P pcap) bs) := by rw [← HPL.out]; exact HOK.out.pick0
          have HP1 : Hid (Sl .u8 w (.slice pa' P' pcap') bs') := by rw [← HPL'.out]; exact HOK.out.pick1
          have HL0 : Hid (bs.length ≤ 140737488355328) := by have := (HALL.out _ HMEM.out).1; exact Nat.le_trans this (by omega)
          have HL1 : Hid (bs'.length ≤ 140737488355328) := by have := (HALL.out _ HMEM.out).2; exact Nat.le_trans this (by omega)
          have hC4 : ∀ y : Ext W, y.1.cell? ⟨wr.heap.size, 4, none⟩ = _ := fun y => (HX.out y.1 (y.2.block _ EQ0.out)).2.2.2.2.1
          have hC5 : ∀ y : Ext W, y.1.cell? ⟨wr.heap.size, 5, none⟩ = _ := fun y => (HX.out y.1 (y.2.block _ EQ0.out)).2.2.2.2.2
          obtain ⟨f0, f1, f2, f3, f4, f5⟩ := HX.out W rfl
          go_wp2_with fail
          clear f0 f1 f2 f3 f4 f5
          have KD : Hid (Below W.heap.size W W.drew) := (Below.refl _ W).drew
          refine region_plan (fun x => ∃ y : Ext W, x = y.1) 9 (.takes [0, 2, 3, 6, 7] (.two 1 5 (.two 4 5 (.one 5 (.one 8 .leaf)) (.one 4 (.one 8 .leaf))) (.one 1 (.one 4 (.one 8 .leaf))))) hmx (by kernel_rfl) (by intro c x v a w h; cases x <;> exact h) ⟨⟨W.drew, KD.out⟩, rfl⟩ ?_
          repeat (rw [wpPlan_takes_cons]; simp only [nth_zero, nth_succ]; go_big_quiet_step (fail); refine wpQuiet_nil ?_)
          clear hC4 hC5
          rw [wpPlan_takes_nil]
          obtain ⟨x1, hx1⟩ : ∃ x, W.drew.alloc (.cells #[] 5) = x := ⟨_, rfl⟩
          have Kx1 : Hid (Below W.heap.size W x1) := by rw [← hx1]; exact KD.out.alloc KD.out.size _
          have EM1 : Hid (emptyB x1 W.heap.size) := by rw [← hx1]; exact heap_alloc_new W.drew _
          have Z1 : Hid (x1.heap.size = W.heap.size + 1) := by show _ = _; rw [← hx1, World.size_alloc]; rfl
          refine ⟨?_, ?_⟩
          · simp only [nth_zero, nth_succ]
            go_wp2_with fail
            try rw [hx1]
            refine planPost_mk ⟨⟨x1, Kx1.out⟩, rfl⟩ ?_
            clear hx1
            refine ⟨?_, ?_⟩
            · obtain ⟨v1, y1, v2, y2, R1, R2, Ky1, Kx3, Ky2, S0, S1, O0, O1⟩ := copies_then W x1 Kx1.out W.heap.size (Nat.le_refl _) EM1.out _ _ _ _ (HP0.out.below (AW.out.beside Kx1.out).bel) (HP1.out.below (AW.out.beside Kx1.out).bel) HL0.out HL1.out
              simp only [nth_zero, nth_succ]
              refine wpList_append_run (.tmp 148) (.tmp 150) 33 rfl rfl _ _ _ rfl rfl R1.out ?_
              go_wp2_with fail
              refine planPost_mk ⟨⟨y1, Ky1.out⟩, rfl⟩ ?_
              rw [wpPlan_one]
              obtain ⟨x3, hx3⟩ : ∃ x, y1.alloc (.cells #[] 5) = x := ⟨_, rfl⟩
              rw [hx3] at R2 Kx3
              simp only [nth_zero, nth_succ]
              go_wp2_with fail
              try rw [hx3]
              refine planPost_mk ⟨⟨x3, Kx3.out⟩, rfl⟩ ?_
              clear hx3
              rw [wpPlan_one]
              simp only [nth_zero, nth_succ]
              refine wpList_append_run (.tmp 152) (.tmp 154) 33 rfl rfl _ _ _ rfl rfl R2.out ?_
              go_wp2_with fail
              refine planPost_mk ⟨⟨y2, Ky2.out⟩, rfl⟩ ?_
              rw [wpPlan_leaf]
              simp only [List.drop_succ_cons, List.drop_zero]
              have A3 : BAt w y2 p S S (fun k => k = wr.heap.size ∨ (W.heap.size ≤ k ∧ k < y2.heap.size)) := AW.out.below Ky2.out _ (fun k hk => hk)
              go_wp2_with fail
              go_at_call 19
              refine (A3.crash S0.out S1.out HOK.out.bytes0 HOK.out.bytes1 (fun hn b off len cap e => .inr (.inr (O0.out b off len cap e))) (fun hn b off len cap e => .inr (.inr (O1.out b off len cap e))) (HF255.out.mono (by omega))).mono ?_
              rintro e x4 ⟨rfl, hb, he⟩
              have B4 : Hid (BAt w x4 p (S.crash bs bs') S (fun k => k = wr.heap.size)) := hb.less (fun k => k = wr.heap.size) (fun k hk => .inl hk)
              obtain ⟨f0, f1, f2, f3, f4, f5⟩ := HX.out x4 ((he _ (.inl rfl)).trans (Ky2.out.block _ EQ0.out))
              clear hb he A3
              go_wp2_with fail
              clear f0 f1 f2 f3 f4 f5
              go_at_call 20
              refine (B4.out.crash2 (HP0.out.below B4.out.bel) (HP1.out.below B4.out.bel) HOK.out.bytes0 HOK.out.bytes1 (fun hn b off len cap e => .inl (HP0.out.lt_of hn e)) (fun hn b off len cap e => .inl (HP1.out.lt_of hn e)) (HF255.out.mono (by omega))).mono ?_
              rintro e x5 ⟨rfl, hb, -⟩
              have B5 := Lib.hid hb
              clear hb B4 AW HX
              go_wp2_with fail
              have PL := Lib.hid (U.out.crash bs bs')
              obtain ⟨S', hS'⟩ : ∃ S', S.crash bs bs' = S' := ⟨_, rfl⟩
              rw [hS'] at B5 PL
              clear hS'
              obtain ⟨dw, hdw⟩ : ∃ q, S'.down = q := ⟨_, rfl⟩
              obtain ⟨dn, hdn⟩ : ∃ q, S'.done = q := ⟨_, rfl⟩
              have T0 : ∀ y : Ext x5, y.1.cell? ⟨p.rq, 0, none⟩ = some (.pointer (some ⟨p.q0, 0, none⟩)) := fun y => (B5.out.beside y.2).cell 0
              have T1 : ∀ y : Ext x5, y.1.cell? ⟨p.rq, 1, none⟩ = some (.pointer (some ⟨p.q1, 0, none⟩)) := fun y => (B5.out.beside y.2).cell 1
              have T3 : ∀ y : Ext x5, y.1.cell? ⟨p.rq, 3, none⟩ = some (.bool dw) := fun y => by rw [← hdw]; exact (B5.out.beside y.2).cell 3
              have T4 : ∀ y : Ext x5, y.1.cell? ⟨p.rq, 4, none⟩ = some (.int .i64 dn) := fun y => by rw [← hdn]; exact (B5.out.beside y.2).cell 4
              obtain ⟨ss0, hs0, hl0, -⟩ := B5.out.disk0
              obtain ⟨ss1, hs1, hl1, -⟩ := B5.out.disk1
              rw [PL.out.n0] at hs0
              rw [PL.out.n1] at hs1
              have T5 : ∀ y : Ext x5, y.1.cell? ⟨p.q0, 0, none⟩ = some (.slice (some ⟨ss0, 0, none⟩) N0 N0) := fun y => (y.2.cell (p := ⟨p.q0, 0, none⟩) hl0).trans hs0
              have T6 : ∀ y : Ext x5, y.1.cell? ⟨p.q1, 0, none⟩ = some (.slice (some ⟨ss1, 0, none⟩) N1 N1) := fun y => (y.2.cell (p := ⟨p.q1, 0, none⟩) hl1).trans hs1
              have Q1 : Hid (∀ y : Ext x5, Calls Try.prog 22 #[.pointer (some ⟨p.rb, 0, none⟩)] y.1 fun e w'' => e = .returned (.bool dw) ∧ ∃ z : Ext x5, w'' = z.1) := fun y => by rw [← hdw]; exact (B5.out.beside y.2).isDown.mono fun e w'' ⟨h1, h2⟩ => ⟨h1, y, h2⟩
              have Q2 : Hid (∀ y : Ext x5, Calls Try.prog 23 #[.pointer (some ⟨p.rb, 0, none⟩)] y.1 fun e w'' => e = .returned (.int .i64 dn) ∧ ∃ z : Ext x5, w'' = z.1) := fun y => by rw [← hdn]; exact (B5.out.beside y.2).done.mono fun e w'' ⟨h1, h2⟩ => ⟨h1, y, h2⟩
              have Q3 : Hid (∀ y : Ext x5, Calls Try.prog 24 #[.pointer (some ⟨p.rb, 0, none⟩), .int .i64 0] y.1 fun e w'' => e = .returned (.int .i64 (N0 : Int)) ∧ ∃ z : Ext x5, w'' = z.1) := fun y => calls_ext y (by have := (B5.out.beside y.2).len 0; rwa [show S'.len 0 = N0 from PL.out.n0] at this)
              have Q4 : Hid (∀ y : Ext x5, Calls Try.prog 24 #[.pointer (some ⟨p.rb, 0, none⟩), .int .i64 1] y.1 fun e w'' => e = .returned (.int .i64 (N1 : Int)) ∧ ∃ z : Ext x5, w'' = z.1) := fun y => calls_ext y (by have := (B5.out.beside y.2).len 1; rwa [show S'.len 1 = N1 from PL.out.n1] at this)
              have Q5 : Hid (∀ y : Ext x5, Calls Try.prog 24 #[.pointer (some ⟨p.rb, 0, none⟩), .int .i64 2] y.1 fun e w'' => e = .returned (.int .i64 0) ∧ ∃ z : Ext x5, w'' = z.1) := fun y => calls_ext y ((B5.out.beside y.2).len 2)
              clear hdw hdn hs0 hs1 hl0 hl1
              refine region_ext (by kernel_rfl) (by kernel_rfl) ?_
              repeat (go_big_quiet_step (with_reducible (first | exact Q1.out _ | exact Q2.out _ | exact Q3.out _ | exact Q4.out _ | exact Q5.out _)))
              refine wpQuiet_nil ?_
              intro x
              clear T0 T1 T3 T4 T5 T6
              go_wp2_with fail
              refine ⟨?_, next_lt HWR.out HLT.out⟩
              obtain ⟨k', r1, r2, r3⟩ := next_rel (C := fun k' => k' = k + 1) HWR.out HLT.out rfl
              exact ⟨k', S', r1, r2, (B5.out.beside x.2).less _ (fun _ h => h.elim), by rw [r3]; exact PL.out⟩
            · obtain ⟨x2, hx2⟩ : ∃ x, x1.alloc (.cells #[] 5) = x := ⟨_, rfl⟩
              have Kx2 : Hid (Below W.heap.size W x2) := by rw [← hx2]; exact Kx1.out.alloc Kx1.out.size _
              have EM2 : Hid (emptyB x2 x1.heap.size) := by rw [← hx2]; exact heap_alloc_new x1 _
              have EM1p : Hid (emptyB x2 W.heap.size) := by rw [← hx2]; exact (Below.heap_alloc _ _ _ (by have := Z1.out; omega)).trans EM1.out
              obtain ⟨v1, y1, v2, y2, R1, R2, Ky1, Ky2, S0, S1, O0, O1⟩ := copies_two W x2 Kx2.out W.heap.size x1.heap.size (Nat.le_refl _) Kx1.out.size (by have := Z1.out; omega) EM1p.out EM2.out _ _ _ _ (HP0.out.below (AW.out.beside Kx2.out).bel) (HP1.out.below (AW.out.beside Kx2.out).bel) HL0.out HL1.out
              simp only [nth_zero, nth_succ]
              go_wp2_with fail
              try rw [hx2]
              refine planPost_mk ⟨⟨x2, Kx2.out⟩, rfl⟩ ?_
              clear hx2
              rw [wpPlan_one]
              simp only [nth_zero, nth_succ]
              refine wpList_append_run (.tmp 148) (.tmp 150) 33 rfl rfl _ _ _ rfl rfl R1.out ?_
              go_wp2_with fail
              refine planPost_mk ⟨⟨y1, Ky1.out⟩, rfl⟩ ?_
              rw [wpPlan_one]
              simp only [nth_zero, nth_succ]
              refine wpList_append_run (.tmp 152) (.tmp 154) 33 rfl rfl _ _ _ rfl rfl R2.out ?_
              go_wp2_with fail
              refine planPost_mk ⟨⟨y2, Ky2.out⟩, rfl⟩ ?_
              rw [wpPlan_leaf]
              simp only [List.drop_succ_cons, List.drop_zero]
              have A3 : BAt w y2 p S S (fun k => k = wr.heap.size ∨ (W.heap.size ≤ k ∧ k < y2.heap.size)) := AW.out.below Ky2.out _ (fun k hk => hk)
              go_wp2_with fail
              go_at_call 19
              refine (A3.crash S0.out S1.out HOK.out.bytes0 HOK.out.bytes1 (fun hn b off len cap e => .inr (.inr (O0.out b off len cap e))) (fun hn b off len cap e => .inr (.inr (O1.out b off len cap e))) (HF255.out.mono (by omega))).mono ?_
              rintro e x4 ⟨rfl, hb, he⟩
              have B4 : Hid (BAt w x4 p (S.crash bs bs') S (fun k => k = wr.heap.size)) := hb.less (fun k => k = wr.heap.size) (fun k hk => .inl hk)
              obtain ⟨f0, f1, f2, f3, f4, f5⟩ := HX.out x4 ((he _ (.inl rfl)).trans (Ky2.out.block _ EQ0.out))
              clear hb he A3
              go_wp2_with fail
              clear f0 f1 f2 f3 f4 f5
              go_at_call 20
              refine (B4.out.crash2 (HP0.out.below B4.out.bel) (HP1.out.below B4.out.bel) HOK.out.bytes0 HOK.out.bytes1 (fun hn b off len cap e => .inl (HP0.out.lt_of hn e)) (fun hn b off len cap e => .inl (HP1.out.lt_of hn e)) (HF255.out.mono (by omega))).mono ?_
              rintro e x5 ⟨rfl, hb, -⟩
              have B5 := Lib.hid hb
              clear hb B4 AW HX
              go_wp2_with fail
              have PL := Lib.hid (U.out.crash bs bs')
              obtain ⟨S', hS'⟩ : ∃ S', S.crash bs bs' = S' := ⟨_, rfl⟩
              rw [hS'] at B5 PL
              clear hS'
              obtain ⟨dw, hdw⟩ : ∃ q, S'.down = q := ⟨_, rfl⟩
              obtain ⟨dn, hdn⟩ : ∃ q, S'.done = q := ⟨_, rfl⟩
              have T0 : ∀ y : Ext x5, y.1.cell? ⟨p.rq, 0, none⟩ = some (.pointer (some ⟨p.q0, 0, none⟩)) := fun y => (B5.out.beside y.2).cell 0
              have T1 : ∀ y : Ext x5, y.1.cell? ⟨p.rq, 1, none⟩ = some (.pointer (some ⟨p.q1, 0, none⟩)) := fun y => (B5.out.beside y.2).cell 1
              have T3 : ∀ y : Ext x5, y.1.cell? ⟨p.rq, 3, none⟩ = some (.bool dw) := fun y => by rw [← hdw]; exact (B5.out.beside y.2).cell 3
              have T4 : ∀ y : Ext x5, y.1.cell? ⟨p.rq, 4, none⟩ = some (.int .i64 dn) := fun y => by rw [← hdn]; exact (B5.out.beside y.2).cell 4
              obtain ⟨ss0, hs0, hl0, -⟩ := B5.out.disk0
              obtain ⟨ss1, hs1, hl1, -⟩ := B5.out.disk1
              rw [PL.out.n0] at hs0
              rw [PL.out.n1] at hs1
              have T5 : ∀ y : Ext x5, y.1.cell? ⟨p.q0, 0, none⟩ = some (.slice (some ⟨ss0, 0, none⟩) N0 N0) := fun y => (y.2.cell (p := ⟨p.q0, 0, none⟩) hl0).trans hs0
              have T6 : ∀ y : Ext x5, y.1.cell? ⟨p.q1, 0, none⟩ = some (.slice (some ⟨ss1, 0, none⟩) N1 N1) := fun y => (y.2.cell (p := ⟨p.q1, 0, none⟩) hl1).trans hs1
              have Q1 : Hid (∀ y : Ext x5, Calls Try.prog 22 #[.pointer (some ⟨p.rb, 0, none⟩)] y.1 fun e w'' => e = .returned (.bool dw) ∧ ∃ z : Ext x5, w'' = z.1) := fun y => by rw [← hdw]; exact (B5.out.beside y.2).isDown.mono fun e w'' ⟨h1, h2⟩ => ⟨h1, y, h2⟩
              have Q2 : Hid (∀ y : Ext x5, Calls Try.prog 23 #[.pointer (some ⟨p.rb, 0, none⟩)] y.1 fun e w'' => e = .returned (.int .i64 dn) ∧ ∃ z : Ext x5, w'' = z.1) := fun y => by rw [← hdn]; exact (B5.out.beside y.2).done.mono fun e w'' ⟨h1, h2⟩ => ⟨h1, y, h2⟩
              have Q3 : Hid (∀ y : Ext x5, Calls Try.prog 24 #[.pointer (some ⟨p.rb, 0, none⟩), .int .i64 0] y.1 fun e w'' => e = .returned (.int .i64 (N0 : Int)) ∧ ∃ z : Ext x5, w'' = z.1) := fun y => calls_ext y (by have := (B5.out.beside y.2).len 0; rwa [show S'.len 0 = N0 from PL.out.n0] at this)
              have Q4 : Hid (∀ y : Ext x5, Calls Try.prog 24 #[.pointer (some ⟨p.rb, 0, none⟩), .int .i64 1] y.1 fun e w'' => e = .returned (.int .i64 (N1 : Int)) ∧ ∃ z : Ext x5, w'' = z.1) := fun y => calls_ext y (by have := (B5.out.beside y.2).len 1; rwa [show S'.len 1 = N1 from PL.out.n1] at this)
              have Q5 : Hid (∀ y : Ext x5, Calls Try.prog 24 #[.pointer (some ⟨p.rb, 0, none⟩), .int .i64 2] y.1 fun e w'' => e = .returned (.int .i64 0) ∧ ∃ z : Ext x5, w'' = z.1) := fun y => calls_ext y ((B5.out.beside y.2).len 2)
              clear hdw hdn hs0 hs1 hl0 hl1
              refine region_ext (by kernel_rfl) (by kernel_rfl) ?_
              repeat (go_big_quiet_step (with_reducible (first | exact Q1.out _ | exact Q2.out _ | exact Q3.out _ | exact Q4.out _ | exact Q5.out _)))
              refine wpQuiet_nil ?_
              intro x
              clear T0 T1 T3 T4 T5 T6
              go_wp2_with fail
              refine ⟨?_, next_lt HWR.out HLT.out⟩
              obtain ⟨k', r1, r2, r3⟩ := next_rel (C := fun k' => k' = k + 1) HWR.out HLT.out rfl
              exact ⟨k', S', r1, r2, (B5.out.beside x.2).less _ (fun _ h => h.elim), by rw [r3]; exact PL.out⟩
          · simp only [nth_zero, nth_succ]
            go_wp2_with fail
            try rw [hx1]
            refine planPost_mk ⟨⟨x1, Kx1.out⟩, rfl⟩ ?_
            clear hx1
            rw [wpPlan_one]
            obtain ⟨x2, hx2⟩ : ∃ x, x1.alloc (.cells #[] 5) = x := ⟨_, rfl⟩
            have Kx2 : Hid (Below W.heap.size W x2) := by rw [← hx2]; exact Kx1.out.alloc Kx1.out.size _
            have EM2 : Hid (emptyB x2 x1.heap.size) := by rw [← hx2]; exact heap_alloc_new x1 _
            have EM1p : Hid (emptyB x2 W.heap.size) := by rw [← hx2]; exact (Below.heap_alloc _ _ _ (by have := Z1.out; omega)).trans EM1.out
            obtain ⟨v1, y1, v2, y2, R1, R2, Ky1, Ky2, S0, S1, O0, O1⟩ := copies_two W x2 Kx2.out x1.heap.size W.heap.size Kx1.out.size (Nat.le_refl _) (by have := Z1.out; omega) EM2.out EM1p.out _ _ _ _ (HP0.out.below (AW.out.beside Kx2.out).bel) (HP1.out.below (AW.out.beside Kx2.out).bel) HL0.out HL1.out
            simp only [nth_zero, nth_succ]
            go_wp2_with fail
            try rw [hx2]
            refine planPost_mk ⟨⟨x2, Kx2.out⟩, rfl⟩ ?_
            clear hx2
            rw [wpPlan_one]
            simp only [nth_zero, nth_succ]
            refine wpList_append_run (.tmp 148) (.tmp 150) 33 rfl rfl _ _ _ rfl rfl R1.out ?_
            go_wp2_with fail
            refine planPost_mk ⟨⟨y1, Ky1.out⟩, rfl⟩ ?_
            rw [wpPlan_one]
            simp only [nth_zero, nth_succ]
            refine wpList_append_run (.tmp 152) (.tmp 154) 33 rfl rfl _ _ _ rfl rfl R2.out ?_
            go_wp2_with fail
            refine planPost_mk ⟨⟨y2, Ky2.out⟩, rfl⟩ ?_
            rw [wpPlan_leaf]
            simp only [List.drop_succ_cons, List.drop_zero]
            have A3 : BAt w y2 p S S (fun k => k = wr.heap.size ∨ (W.heap.size ≤ k ∧ k < y2.heap.size)) := AW.out.below Ky2.out _ (fun k hk => hk)
            go_wp2_with fail
            go_at_call 19
            refine (A3.crash S0.out S1.out HOK.out.bytes0 HOK.out.bytes1 (fun hn b off len cap e => .inr (.inr (O0.out b off len cap e))) (fun hn b off len cap e => .inr (.inr (O1.out b off len cap e))) (HF255.out.mono (by omega))).mono ?_
            rintro e x4 ⟨rfl, hb, he⟩
            have B4 : Hid (BAt w x4 p (S.crash bs bs') S (fun k => k = wr.heap.size)) := hb.less (fun k => k = wr.heap.size) (fun k hk => .inl hk)
            obtain ⟨f0, f1, f2, f3, f4, f5⟩ := HX.out x4 ((he _ (.inl rfl)).trans (Ky2.out.block _ EQ0.out))
            clear hb he A3
            go_wp2_with fail
            clear f0 f1 f2 f3 f4 f5
            go_at_call 20
            refine (B4.out.crash2 (HP0.out.below B4.out.bel) (HP1.out.below B4.out.bel) HOK.out.bytes0 HOK.out.bytes1 (fun hn b off len cap e => .inl (HP0.out.lt_of hn e)) (fun hn b off len cap e => .inl (HP1.out.lt_of hn e)) (HF255.out.mono (by omega))).mono ?_
            rintro e x5 ⟨rfl, hb, -⟩
            have B5 := Lib.hid hb
            clear hb B4 AW HX
            go_wp2_with fail
            have PL := Lib.hid (U.out.crash bs bs')
            obtain ⟨S', hS'⟩ : ∃ S', S.crash bs bs' = S' := ⟨_, rfl⟩
            rw [hS'] at B5 PL
            clear hS'
            obtain ⟨dw, hdw⟩ : ∃ q, S'.down = q := ⟨_, rfl⟩
            obtain ⟨dn, hdn⟩ : ∃ q, S'.done = q := ⟨_, rfl⟩
            have T0 : ∀ y : Ext x5, y.1.cell? ⟨p.rq, 0, none⟩ = some (.pointer (some ⟨p.q0, 0, none⟩)) := fun y => (B5.out.beside y.2).cell 0
            have T1 : ∀ y : Ext x5, y.1.cell? ⟨p.rq, 1, none⟩ = some (.pointer (some ⟨p.q1, 0, none⟩)) := fun y => (B5.out.beside y.2).cell 1
            have T3 : ∀ y : Ext x5, y.1.cell? ⟨p.rq, 3, none⟩ = some (.bool dw) := fun y => by rw [← hdw]; exact (B5.out.beside y.2).cell 3
            have T4 : ∀ y : Ext x5, y.1.cell? ⟨p.rq, 4, none⟩ = some (.int .i64 dn) := fun y => by rw [← hdn]; exact (B5.out.beside y.2).cell 4
            obtain ⟨ss0, hs0, hl0, -⟩ := B5.out.disk0
            obtain ⟨ss1, hs1, hl1, -⟩ := B5.out.disk1
            rw [PL.out.n0] at hs0
            rw [PL.out.n1] at hs1
            have T5 : ∀ y : Ext x5, y.1.cell? ⟨p.q0, 0, none⟩ = some (.slice (some ⟨ss0, 0, none⟩) N0 N0) := fun y => (y.2.cell (p := ⟨p.q0, 0, none⟩) hl0).trans hs0
            have T6 : ∀ y : Ext x5, y.1.cell? ⟨p.q1, 0, none⟩ = some (.slice (some ⟨ss1, 0, none⟩) N1 N1) := fun y => (y.2.cell (p := ⟨p.q1, 0, none⟩) hl1).trans hs1
            have Q1 : Hid (∀ y : Ext x5, Calls Try.prog 22 #[.pointer (some ⟨p.rb, 0, none⟩)] y.1 fun e w'' => e = .returned (.bool dw) ∧ ∃ z : Ext x5, w'' = z.1) := fun y => by rw [← hdw]; exact (B5.out.beside y.2).isDown.mono fun e w'' ⟨h1, h2⟩ => ⟨h1, y, h2⟩
            have Q2 : Hid (∀ y : Ext x5, Calls Try.prog 23 #[.pointer (some ⟨p.rb, 0, none⟩)] y.1 fun e w'' => e = .returned (.int .i64 dn) ∧ ∃ z : Ext x5, w'' = z.1) := fun y => by rw [← hdn]; exact (B5.out.beside y.2).done.mono fun e w'' ⟨h1, h2⟩ => ⟨h1, y, h2⟩
            have Q3 : Hid (∀ y : Ext x5, Calls Try.prog 24 #[.pointer (some ⟨p.rb, 0, none⟩), .int .i64 0] y.1 fun e w'' => e = .returned (.int .i64 (N0 : Int)) ∧ ∃ z : Ext x5, w'' = z.1) := fun y => calls_ext y (by have := (B5.out.beside y.2).len 0; rwa [show S'.len 0 = N0 from PL.out.n0] at this)
            have Q4 : Hid (∀ y : Ext x5, Calls Try.prog 24 #[.pointer (some ⟨p.rb, 0, none⟩), .int .i64 1] y.1 fun e w'' => e = .returned (.int .i64 (N1 : Int)) ∧ ∃ z : Ext x5, w'' = z.1) := fun y => calls_ext y (by have := (B5.out.beside y.2).len 1; rwa [show S'.len 1 = N1 from PL.out.n1] at this)
            have Q5 : Hid (∀ y : Ext x5, Calls Try.prog 24 #[.pointer (some ⟨p.rb, 0, none⟩), .int .i64 2] y.1 fun e w'' => e = .returned (.int .i64 0) ∧ ∃ z : Ext x5, w'' = z.1) := fun y => calls_ext y ((B5.out.beside y.2).len 2)
            clear hdw hdn hs0 hs1 hl0 hl1
            refine region_ext (by kernel_rfl) (by kernel_rfl) ?_
            repeat (go_big_quiet_step (with_reducible (first | exact Q1.out _ | exact Q2.out _ | exact Q3.out _ | exact Q4.out _ | exact Q5.out _)))
            refine wpQuiet_nil ?_
            intro x
            clear T0 T1 T3 T4 T5 T6
            go_wp2_with fail
            refine ⟨?_, next_lt HWR.out HLT.out⟩
            obtain ⟨k', r1, r2, r3⟩ := next_rel (C := fun k' => k' = k + 1) HWR.out HLT.out rfl
            exact ⟨k', S', r1, r2, (B5.out.beside x.2).less _ (fun _ h => h.elim), by rw [r3]; exact PL.out⟩
      by_cases hk4 : kind = 4
      · subst hk4
        as_aux_lemma =>
          obtain ⟨f0, f1, f2, f3, f4, f5⟩ := HX.out W rfl
          go_wp2_with fail
          clear f0 f1 f2 f3 f4 f5
          go_at_call 21
          refine (AW.out.arm si).mono ?_
          rintro e x2 ⟨rfl, hb, he⟩
          have B2 := Lib.hid hb
          obtain ⟨f0, f1, f2, f3, f4, f5⟩ := HX.out x2 (he _ rfl)
          have c2 : x2.cell? ⟨p.rq, 2, none⟩ = some (.int .i64 S.fuse) := hb.cell 2
          have r2 := hb.frozen 2
          clear hb he
          go_wp2_with fail
          clear f0 f1 f2 f3 f4 f5 c2 r2
          obtain ⟨X, hX⟩ : ∃ X, x2.setCell ⟨p.rq, 2, none⟩ (.int .i64 si) = X := ⟨_, rfl⟩
          rw [hX]
          have B4 : Hid (BAt w X p { S with fuse := si } { S with fuse := si } (fun k => k = wr.heap.size)) := by rw [← hX]; exact (B2.out.fuse2 si).1
          clear hX B2 AW HX
          have PL : Hid (({ S with fuse := si } : RS).Pl N0 N1 (k + 1)) := U.out.arm HOK.out.i1
          obtain ⟨S', hS'⟩ : ∃ S' : RS, { S with fuse := si } = S' := ⟨_, rfl⟩
          rw [hS'] at B4 PL
          clear hS'
          obtain ⟨dw, hdw⟩ : ∃ q, S'.down = q := ⟨_, rfl⟩
          obtain ⟨dn, hdn⟩ : ∃ q, S'.done = q := ⟨_, rfl⟩
          have T0 : ∀ y : Ext X, y.1.cell? ⟨p.rq, 0, none⟩ = some (.pointer (some ⟨p.q0, 0, none⟩)) := fun y => (B4.out.beside y.2).cell 0
          have T1 : ∀ y : Ext X, y.1.cell? ⟨p.rq, 1, none⟩ = some (.pointer (some ⟨p.q1, 0, none⟩)) := fun y => (B4.out.beside y.2).cell 1
          have T3 : ∀ y : Ext X, y.1.cell? ⟨p.rq, 3, none⟩ = some (.bool dw) := fun y => by rw [← hdw]; exact (B4.out.beside y.2).cell 3
          have T4 : ∀ y : Ext X, y.1.cell? ⟨p.rq, 4, none⟩ = some (.int .i64 dn) := fun y => by rw [← hdn]; exact (B4.out.beside y.2).cell 4
          obtain ⟨ss0, hs0, hl0, -⟩ := B4.out.disk0
          obtain ⟨ss1, hs1, hl1, -⟩ := B4.out.disk1
          rw [PL.out.n0] at hs0
          rw [PL.out.n1] at hs1
          have T5 : ∀ y : Ext X, y.1.cell? ⟨p.q0, 0, none⟩ = some (.slice (some ⟨ss0, 0, none⟩) N0 N0) := fun y => (y.2.cell (p := ⟨p.q0, 0, none⟩) hl0).trans hs0
          have T6 : ∀ y : Ext X, y.1.cell? ⟨p.q1, 0, none⟩ = some (.slice (some ⟨ss1, 0, none⟩) N1 N1) := fun y => (y.2.cell (p := ⟨p.q1, 0, none⟩) hl1).trans hs1
          have Q1 : Hid (∀ y : Ext X, Calls Try.prog 22 #[.pointer (some ⟨p.rb, 0, none⟩)] y.1 fun e w'' => e = .returned (.bool dw) ∧ ∃ z : Ext X, w'' = z.1) := fun y => by rw [← hdw]; exact (B4.out.beside y.2).isDown.mono fun e w'' ⟨h1, h2⟩ => ⟨h1, y, h2⟩
          have Q2 : Hid (∀ y : Ext X, Calls Try.prog 23 #[.pointer (some ⟨p.rb, 0, none⟩)] y.1 fun e w'' => e = .returned (.int .i64 dn) ∧ ∃ z : Ext X, w'' = z.1) := fun y => by rw [← hdn]; exact (B4.out.beside y.2).done.mono fun e w'' ⟨h1, h2⟩ => ⟨h1, y, h2⟩
          have Q3 : Hid (∀ y : Ext X, Calls Try.prog 24 #[.pointer (some ⟨p.rb, 0, none⟩), .int .i64 0] y.1 fun e w'' => e = .returned (.int .i64 (N0 : Int)) ∧ ∃ z : Ext X, w'' = z.1) := fun y => calls_ext y (by have := (B4.out.beside y.2).len 0; rwa [show S'.len 0 = N0 from PL.out.n0] at this)
          have Q4 : Hid (∀ y : Ext X, Calls Try.prog 24 #[.pointer (some ⟨p.rb, 0, none⟩), .int .i64 1] y.1 fun e w'' => e = .returned (.int .i64 (N1 : Int)) ∧ ∃ z : Ext X, w'' = z.1) := fun y => calls_ext y (by have := (B4.out.beside y.2).len 1; rwa [show S'.len 1 = N1 from PL.out.n1] at this)
          have Q5 : Hid (∀ y : Ext X, Calls Try.prog 24 #[.pointer (some ⟨p.rb, 0, none⟩), .int .i64 2] y.1 fun e w'' => e = .returned (.int .i64 0) ∧ ∃ z : Ext X, w'' = z.1) := fun y => calls_ext y ((B4.out.beside y.2).len 2)
          clear hdw hdn hs0 hs1 hl0 hl1
          refine region_ext (by kernel_rfl) (by kernel_rfl) ?_
          repeat (go_big_quiet_step (with_reducible (first | exact Q1.out _ | exact Q2.out _ | exact Q3.out _ | exact Q4.out _ | exact Q5.out _)))
          refine wpQuiet_nil ?_
          intro x
          clear T0 T1 T3 T4 T5 T6
          go_wp2_with fail
          refine ⟨?_, next_lt HWR.out HLT.out⟩
          obtain ⟨k', r1, r2, r3⟩ := next_rel (C := fun k' => k' = k + 1) HWR.out HLT.out rfl
          exact ⟨k', S', r1, r2, (B4.out.beside x.2).less _ (fun _ h => h.elim), by rw [r3]; exact PL.out⟩
      · have hk0' : (kind == 0) = false := by simpa using hk0
        have hk1' : (kind == 1) = false := by simpa using hk1
        have hk2' : (kind == 2) = false := by simpa using hk2
        have hk3' : (kind == 3) = false := by simpa using hk3
        have hk4' : (kind == 4) = false := by simpa using hk4
        as_aux_lemma =>
          obtain ⟨f0, f1, f2, f3, f4, f5⟩ := HX.out W rfl
          go_wp2_with fail
          clear f0 f1 f2 f3 f4 f5
          have B4 := AW
          have PL := Lib.hid U.out.more
          obtain ⟨S', hS'⟩ : ∃ S', S = S' := ⟨_, rfl⟩
          rw [hS'] at B4 PL
          clear AW HX
          obtain ⟨dw, hdw⟩ : ∃ q, S'.down = q := ⟨_, rfl⟩
          obtain ⟨dn, hdn⟩ : ∃ q, S'.done = q := ⟨_, rfl⟩
          have T0 : ∀ y : Ext W, y.1.cell? ⟨p.rq, 0, none⟩ = some (.pointer (some ⟨p.q0, 0, none⟩)) := fun y => (B4.out.beside y.2).cell 0
          have T1 : ∀ y : Ext W, y.1.cell? ⟨p.rq, 1, none⟩ = some (.pointer (some ⟨p.q1, 0, none⟩)) := fun y => (B4.out.beside y.2).cell 1
          have T3 : ∀ y : Ext W, y.1.cell? ⟨p.rq, 3, none⟩ = some (.bool dw) := fun y => by rw [← hdw]; exact (B4.out.beside y.2).cell 3
          have T4 : ∀ y : Ext W, y.1.cell? ⟨p.rq, 4, none⟩ = some (.int .i64 dn) := fun y => by rw [← hdn]; exact (B4.out.beside y.2).cell 4
          obtain ⟨ss0, hs0, hl0, -⟩ := B4.out.disk0
          obtain ⟨ss1, hs1, hl1, -⟩ := B4.out.disk1
          rw [PL.out.n0] at hs0
          rw [PL.out.n1] at hs1
          have T5 : ∀ y : Ext W, y.1.cell? ⟨p.q0, 0, none⟩ = some (.slice (some ⟨ss0, 0, none⟩) N0 N0) := fun y => (y.2.cell (p := ⟨p.q0, 0, none⟩) hl0).trans hs0
          have T6 : ∀ y : Ext W, y.1.cell? ⟨p.q1, 0, none⟩ = some (.slice (some ⟨ss1, 0, none⟩) N1 N1) := fun y => (y.2.cell (p := ⟨p.q1, 0, none⟩) hl1).trans hs1
          have Q1 : Hid (∀ y : Ext W, Calls Try.prog 22 #[.pointer (some ⟨p.rb, 0, none⟩)] y.1 fun e w'' => e = .returned (.bool dw) ∧ ∃ z : Ext W, w'' = z.1) := fun y => by rw [← hdw]; exact (B4.out.beside y.2).isDown.mono fun e w'' ⟨h1, h2⟩ => ⟨h1, y, h2⟩
          have Q2 : Hid (∀ y : Ext W, Calls Try.prog 23 #[.pointer (some ⟨p.rb, 0, none⟩)] y.1 fun e w'' => e = .returned (.int .i64 dn) ∧ ∃ z : Ext W, w'' = z.1) := fun y => by rw [← hdn]; exact (B4.out.beside y.2).done.mono fun e w'' ⟨h1, h2⟩ => ⟨h1, y, h2⟩
          have Q3 : Hid (∀ y : Ext W, Calls Try.prog 24 #[.pointer (some ⟨p.rb, 0, none⟩), .int .i64 0] y.1 fun e w'' => e = .returned (.int .i64 (N0 : Int)) ∧ ∃ z : Ext W, w'' = z.1) := fun y => calls_ext y (by have := (B4.out.beside y.2).len 0; rwa [show S'.len 0 = N0 from PL.out.n0] at this)
          have Q4 : Hid (∀ y : Ext W, Calls Try.prog 24 #[.pointer (some ⟨p.rb, 0, none⟩), .int .i64 1] y.1 fun e w'' => e = .returned (.int .i64 (N1 : Int)) ∧ ∃ z : Ext W, w'' = z.1) := fun y => calls_ext y (by have := (B4.out.beside y.2).len 1; rwa [show S'.len 1 = N1 from PL.out.n1] at this)
          have Q5 : Hid (∀ y : Ext W, Calls Try.prog 24 #[.pointer (some ⟨p.rb, 0, none⟩), .int .i64 2] y.1 fun e w'' => e = .returned (.int .i64 0) ∧ ∃ z : Ext W, w'' = z.1) := fun y => calls_ext y ((B4.out.beside y.2).len 2)
          clear hdw hdn hs0 hs1 hl0 hl1
          refine region_ext (by kernel_rfl) (by kernel_rfl) ?_
          repeat (go_big_quiet_step (with_reducible (first | exact Q1.out _ | exact Q2.out _ | exact Q3.out _ | exact Q4.out _ | exact Q5.out _)))
          refine wpQuiet_nil ?_
          intro x
          clear T0 T1 T3 T4 T5 T6
          go_wp2_with fail
          refine ⟨?_, next_lt HWR.out HLT.out⟩
          obtain ⟨k', r1, r2, r3⟩ := next_rel (C := fun k' => k' = k + 1) HWR.out HLT.out rfl
          exact ⟨k', S', r1, r2, (B4.out.beside x.2).less _ (fun _ h => h.elim), by rw [r3]; exact PL.out⟩
    · obtain rfl : k = L := by omega
      have g1 : ¬ (k : Int) < (k : Int) := by omega
      have g1' : decide ((k : Int) < (k : Int)) = false := by simp
      clear hk hlt HST
      as_aux_lemma =>
        go_wp2_with fail
        go_at_call 19
        refine (A.out.crash (Sl.nil _ _) (Sl.nil _ _) (b0 := []) (b1 := []) (fun j => by simp) (fun j => by simp) (fun h => absurd rfl h) (fun h => absurd rfl h) (U.out.few.mono (by have := HLF.out; omega))).mono ?_
        rintro e x1 ⟨rfl, hb, -⟩
        have B1 := Lib.hid hb
        clear hb A
        go_wp2_with fail
        go_at_call 20
        refine (B1.out.crash2 (Sl.nil _ _) (Sl.nil _ _) (b0 := []) (b1 := []) (fun j => by simp) (fun j => by simp) (fun h => absurd rfl h) (fun h => absurd rfl h) (U.out.few.mono (by have := HLF.out; omega))).mono ?_
        rintro e x2 ⟨rfl, hb, -⟩
        have B2 := Lib.hid hb
        have HM0 : Hid ((S.crash [] []).n0 = N0) := U.out.n0
        have HM1 : Hid ((S.crash [] []).n1 = N1) := U.out.n1
        have HR0 : Hid (∀ i : Nat, i < N0 → (S.crash [] []).readE 0 (i : Int) = 0 ∧ (S.crash [] []).read 0 (i : Int) = ((S.crash [] []).D0 i).c) := fun i hi => (RS.crash_read S [] []).1 (by rw [U.out.n0]; exact hi)
        have HR1 : Hid (∀ i : Nat, i < N1 → (S.crash [] []).readE 1 (i : Int) = 0 ∧ (S.crash [] []).read 1 (i : Int) = ((S.crash [] []).D1 i).c) := fun i hi => (RS.crash_read S [] []).2 (by rw [U.out.n1]; exact hi)
        obtain ⟨S6, hS6⟩ : ∃ S6, S.crash [] [] = S6 := ⟨_, rfl⟩
        rw [hS6] at B2 HM0 HM1 HR0 HR1
        clear hb B1 U hS6
        go_wp2_with fail
        go_loopw [15] (fun i wr => (i = .int .i64 0 ∨ i = .int .i64 1 ∨ i = .int .i64 2) ∧ Hid (BAt w wr p S6 S6 (fun _ => False))) (fun i _ => 2 - (intOf i).toNat)
        case atStart => exact ⟨.inl rfl, B2⟩
        case round =>
          clear B2
          obtain ⟨rfl | rfl | rfl, B⟩ := hrel
          · go_wp2_with fail
            go_loopw [16] (fun i wr => ∃ j : Nat, j ≤ N0 ∧ i = .int .i64 j ∧ Hid (BAt w wr p S6 S6 (fun _ => False))) (fun i _ => N0 - (intOf i).toNat)
            case atStart => exact ⟨0, Nat.zero_le _, rfl, B⟩
            case round =>
              clear B
              obtain ⟨j, hj, rfl, B⟩ := hrel
              have c0 : wr.cell? ⟨p.rq, 0, none⟩ = some (.pointer (some ⟨p.q0, 0, none⟩)) := B.out.cell 0
              obtain ⟨ss, hs, hl, hls, hc⟩ := B.out.disk0
              rw [HM0.out] at hs hc
              have HL := Lib.hid hl
              have HLS := Lib.hid hls
              have HCO := Lib.hid hc
              clear hl hls hc
              by_cases hlt : j < N0
              · have g2 : (j : Int) < (N0 : Int) := by omega
                have HLT := Lib.hid hlt
                have HWR : Hid (wrap64 ((j : Int) + 1) = (j : Int) + 1) := IntWalk.wrap64_in _ (by have := HN01.out; omega)
                obtain ⟨hr0, hub⟩ := HCO.out j hlt
                obtain ⟨u, hu⟩ : ∃ u, (S6.D0 j).c = u := ⟨_, rfl⟩
                have HE := Lib.hid (HR0.out j hlt)
                rw [hu] at hub hr0 HE
                have HRA := Lib.hid hr0
                have hEq : ∀ x : World, (Op.equalIn 10000 38 (.agg u.toArray) (.agg u.toArray)).run Try.prog x = .ok true x := fun x => by rw [eq_blk hub hub]; congr 1; exact alike_iff.2 rfl
                have hSt : ∀ x : World, (storeVar 38 ⟨x.heap.size, 0, none⟩ (.agg u.toArray)).run Try.prog (x.alloc (.cells zarr 38)) = .ok () (x.alloc (.cells u.toArray 38)) := fun x => store_new zarr_size hub
                clear hlt hj hu hr0
                go_wp2_with fail
                go_at_call 15
                refine (B.out.read 0 (j : Int)).mono ?_
                rintro e x1 ⟨rfl, hb⟩
                rw [HE.out.1, HE.out.2]
                have hb1 := Lib.hid hb
                have HC0 := Lib.hid c0
                have HHS := Lib.hid hs
                clear hb c0 hs
                go_wp2_with fail
                obtain ⟨X, hX⟩ : ∃ X, x1.alloc (.cells u.toArray 38) = X := ⟨_, rfl⟩
                rw [hX]
                have HBX : Hid (Below wr.heap.size wr X) := by rw [← hX]; exact hb1.out.alloc hb1.out.size _
                have BX := Lib.hid (B.out.beside HBX.out)
                have kX : X.heap[x1.heap.size]? = some (.cells u.toArray 38 (0, 0)) := by rw [← hX]; exact heap_alloc_new x1 _
                have r1 : ∀ y : Ext X, (loadVar 38 ⟨x1.heap.size, 0, none⟩).run Try.prog y.1 = .ok (.agg u.toArray) y.1 := fun y => load_at ((y.2.block _ (Array.getElem?_eq_some_iff.1 kX).1).trans kX) hub
                have T0 : ∀ y : Ext X, y.1.cell? ⟨p.rq, 0, none⟩ = some (.pointer (some ⟨p.q0, 0, none⟩)) := fun y => (BX.out.beside y.2).cell 0
                have T5 : ∀ y : Ext X, y.1.cell? ⟨p.q0, 0, none⟩ = some (.slice (some ⟨ss, 0, none⟩) N0 N0) := fun y => ((y.2.cell (p := ⟨p.q0, 0, none⟩) (Nat.lt_of_lt_of_le HL.out HBX.out.size)).trans (HBX.out.cell (p := ⟨p.q0, 0, none⟩) HL.out)).trans HHS.out
                have r2 : ∀ y : Ext X, (loadVar 38 ⟨ss, j * 64, none⟩).run Try.prog y.1 = .ok (.agg u.toArray) y.1 := fun y => load_blk (rangeAt_same (rangeAt_same HRA.out (HBX.out.block _ HLS.out)) (y.2.block _ (Nat.lt_of_lt_of_le HLS.out HBX.out.size))) hub.length
                have hmx : Try.prog.follows .mixedOrders = true := by kernel_rfl
                clear hX kX hb1 B
                refine region_ext (by kernel_rfl) (by kernel_rfl) ?_
                repeat (go_big_quiet_step (fail))
                refine wpQuiet_nil ?_
                intro x
                go_wp2_with fail
                exact ⟨next_rel (C := fun _ => Hid (BAt w x.1 p S6 S6 (fun _ => False))) HWR.out HLT.out (BX.out.beside x.2), next_lt HWR.out HLT.out⟩
              · obtain rfl : j = N0 := by omega
                have g2 : ¬ (j : Int) < (j : Int) := by omega
                clear hj hlt
                go_wp2_with fail
                exact ⟨⟨.inr (.inl rfl), B⟩, by simp [intOf]⟩
          · go_wp2_with fail
            go_loopw [16] (fun i wr => ∃ j : Nat, j ≤ N1 ∧ i = .int .i64 j ∧ Hid (BAt w wr p S6 S6 (fun _ => False))) (fun i _ => N1 - (intOf i).toNat)
            case atStart => exact ⟨0, Nat.zero_le _, rfl, B⟩
            case round =>
              clear B
              obtain ⟨j, hj, rfl, B⟩ := hrel
              have c0 : wr.cell? ⟨p.rq, 1, none⟩ = some (.pointer (some ⟨p.q1, 0, none⟩)) := B.out.cell 1
              obtain ⟨ss, hs, hl, hls, hc⟩ := B.out.disk1
              rw [HM1.out] at hs hc
              have HL := Lib.hid hl
              have HLS := Lib.hid hls
              have HCO := Lib.hid hc
              clear hl hls hc
              by_cases hlt : j < N1
              · have g2 : (j : Int) < (N1 : Int) := by omega
                have HLT := Lib.hid hlt
                have HWR : Hid (wrap64 ((j : Int) + 1) = (j : Int) + 1) := IntWalk.wrap64_in _ (by have := HN01.out; omega)
                obtain ⟨hr0, hub⟩ := HCO.out j hlt
                obtain ⟨u, hu⟩ : ∃ u, (S6.D1 j).c = u := ⟨_, rfl⟩
                have HE := Lib.hid (HR1.out j hlt)
                rw [hu] at hub hr0 HE
                have HRA := Lib.hid hr0
                have hEq : ∀ x : World, (Op.equalIn 10000 38 (.agg u.toArray) (.agg u.toArray)).run Try.prog x = .ok true x := fun x => by rw [eq_blk hub hub]; congr 1; exact alike_iff.2 rfl
                have hSt : ∀ x : World, (storeVar 38 ⟨x.heap.size, 0, none⟩ (.agg u.toArray)).run Try.prog (x.alloc (.cells zarr 38)) = .ok () (x.alloc (.cells u.toArray 38)) := fun x => store_new zarr_size hub
                clear hlt hj hu hr0
                go_wp2_with fail
                go_at_call 15
                refine (B.out.read 1 (j : Int)).mono ?_
                rintro e x1 ⟨rfl, hb⟩
                rw [HE.out.1, HE.out.2]
                have hb1 := Lib.hid hb
                have HC0 := Lib.hid c0
                have HHS := Lib.hid hs
                clear hb c0 hs
                go_wp2_with fail
                obtain ⟨X, hX⟩ : ∃ X, x1.alloc (.cells u.toArray 38) = X := ⟨_, rfl⟩
                rw [hX]
                have HBX : Hid (Below wr.heap.size wr X) := by rw [← hX]; exact hb1.out.alloc hb1.out.size _
                have BX := Lib.hid (B.out.beside HBX.out)
                have kX : X.heap[x1.heap.size]? = some (.cells u.toArray 38 (0, 0)) := by rw [← hX]; exact heap_alloc_new x1 _
                have r1 : ∀ y : Ext X, (loadVar 38 ⟨x1.heap.size, 0, none⟩).run Try.prog y.1 = .ok (.agg u.toArray) y.1 := fun y => load_at ((y.2.block _ (Array.getElem?_eq_some_iff.1 kX).1).trans kX) hub
                have T0 : ∀ y : Ext X, y.1.cell? ⟨p.rq, 1, none⟩ = some (.pointer (some ⟨p.q1, 0, none⟩)) := fun y => (BX.out.beside y.2).cell 1
                have T5 : ∀ y : Ext X, y.1.cell? ⟨p.q1, 0, none⟩ = some (.slice (some ⟨ss, 0, none⟩) N1 N1) := fun y => ((y.2.cell (p := ⟨p.q1, 0, none⟩) (Nat.lt_of_lt_of_le HL.out HBX.out.size)).trans (HBX.out.cell (p := ⟨p.q1, 0, none⟩) HL.out)).trans HHS.out
                have r2 : ∀ y : Ext X, (loadVar 38 ⟨ss, j * 64, none⟩).run Try.prog y.1 = .ok (.agg u.toArray) y.1 := fun y => load_blk (rangeAt_same (rangeAt_same HRA.out (HBX.out.block _ HLS.out)) (y.2.block _ (Nat.lt_of_lt_of_le HLS.out HBX.out.size))) hub.length
                have hmx : Try.prog.follows .mixedOrders = true := by kernel_rfl
                clear hX kX hb1 B
                refine region_ext (by kernel_rfl) (by kernel_rfl) ?_
                repeat (go_big_quiet_step (fail))
                refine wpQuiet_nil ?_
                intro x
                go_wp2_with fail
                exact ⟨next_rel (C := fun _ => Hid (BAt w x.1 p S6 S6 (fun _ => False))) HWR.out HLT.out (BX.out.beside x.2), next_lt HWR.out HLT.out⟩
              · obtain rfl : j = N1 := by omega
                have g2 : ¬ (j : Int) < (j : Int) := by omega
                clear hj hlt
                go_wp2_with fail
                exact ⟨⟨.inr (.inr rfl), B⟩, by simp [intOf]⟩
          · go_wp2_with fail
            go_at_call 9
            refine (HW.out _).mono ?_
            rintro e w2 ⟨rfl, hB⟩
            have HB2 : Hid (Below w.heap.size w w2) := (B.out.bel).trans (hB.mono (B.out.bel).size)
            clear hB
            go_wp2_with fail
            go_ret
            exact ⟨rfl, HB2.out⟩

set_option maxRecDepth 100000 in
theorem lifted (os : Os) (started : os.Started) (H : Type) (enc : TypeId × Value → H) :
    ReturnsInHanded {} Try.checked os 3 .any (Rows.rigPlaysSpec.pre6 enc Try.prog Try.f3 Rows.rigPlaysRow.domain false) (Rows.rigPlaysSpec.post enc Try.prog Try.f3 false true false false) := by
  refine returnsInHanded_of_change (C := Try.checked) own started (by kernel_rfl) Try.func3
    (ChangeSpec.witness6 (enc := enc) (C := Try.checked) false ⟨#[], #[.agg #[.int .i64 0, .int .i64 0], .slice none 0 0], []⟩ 8 (by kernel_rfl) (by kernel_rfl) (by kernel_rfl) (by kernel_rfl)) ?_
  intro W base args ds gs before hval0 hW hcnd _
  have hval : ∀ (j : Nat) t v, Try.f3.params[j]? = some t → args[j]? = some v → Value.okWide Try.prog W .any base t v := hval0
  have hW' := hW
  obtain ⟨p, q, hA0, hV, rfl, hfz, hnd⟩ := hW
  have hA : DataW.TrodAll enc Try.prog W 0 (fun _ => true) true Try.f3.params.toList args.toList ds p := hA0
  rw [Try.params3] at hA hval
  obtain ⟨v0, vs0, d0, ds0, p0, q0, hargs, rfl, rfl, h0, r0⟩ := trodAll_cons hA
  obtain ⟨v1, vs1, d1, ds1, p1, q1, rfl, rfl, rfl, h1, r1⟩ := trodAll_cons r0
  obtain ⟨rfl, rfl, rfl⟩ := trodAll_nil r1
  obtain rfl : args = #[v0, v1] := by cases args; simp_all
  obtain ⟨rfl, rfl⟩ := trodVars_none hV
  have lt0 : ∀ x ∈ p0, x.block < W.heap.size := by obtain ⟨m, hm⟩ := h0; exact DataW.trod_lt m _ _ _ hm
  have a0 := Arg.mk (hval 0 22 v0 rfl rfl) h0
  have lt1 : ∀ x ∈ p1, x.block < W.heap.size := by obtain ⟨m, hm⟩ := h1; exact DataW.trod_lt m _ _ _ hm
  have a1 := Arg.mk (hval 1 23 v1 rfl rfl) h1
  clear hA0 hval0
  refine (walk v0 v1 W a0 a1).mono fun e W' ⟨he, bel⟩ => ?_
  subst he
  exact ⟨_, rfl, _, _, _, [], _, [], hW', trodAll_mk1 (shut_bool Try.underlying4 _), (trodAll_cons_mk (Below.trod laidOut (by kernel_rfl) (of_decide_eq_true (by kernel_rfl)) h0 bel lt0) (trodAll_cons_mk (Below.trod laidOut (by kernel_rfl) (of_decide_eq_true (by kernel_rfl)) h1 bel lt1) trodAll_mk0)), rfl, bel.frame _, fun h => by cases h⟩

theorem over : Rows.rigPlaysRow.holds Try.pinned (OpenSpec.ofChange Rows.rigPlaysSpec) :=
  OpenClaim.holds_of_wide 3 Try.f3 rfl rfl rfl rfl rfl rfl rfl ⟨rfl, rfl, rfl, rfl, rfl⟩ rfl rfl rfl rfl rfl (by kernel_rfl) Try.func3 (by kernel_rfl)
    (of_decide_eq_true (by kernel_rfl)) (by unfold Func.isWrapper; first | (rw [if_pos (by decide +kernel)]; kernel_rfl) | (rw [if_neg (by decide +kernel)]; exact ⟨rfl, rfl⟩))
    (fun os started H enc _ => lifted os started H enc)

theorem proved : Rows.RigPlaysSaid := over
#print axioms proved
end Go.Proofs.Ytompbjdhdjafgaa.rigPlays
