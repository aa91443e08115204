/- Whatever the size and the steps, DiskPlays returns true and leaves its arguments as they were; no conditions. -/
import Derived.Test.YtagieoomekmjcaaBytes
import Derived.Test.YtagieoomekmjcaaBoth
import Derived.Test.YtagieoomekmjcaaSteps
import Derived.Test.YtagieoomekmjcaaReads
import Derived.Test.YtagieoomekmjcaaQuiet
import Derived.Test.YtagieoomekmjcaaDWakes
namespace Go.Proofs.Ytagieoomekmjcaa.diskPlays
open Go.ChangeShapes Go.WideShapes Go.ChangeAt Go.RowKit
set_option linter.unusedVariables false
attribute [-simp] Try.isAgg37 Try.zeroValue37
attribute [-go_sem] loadVar storeVar
attribute [local go_sem] zero_blk build_blk loadVar_open storeVar_open store_fill eq_fill eq_fill_z

set_option maxRecDepth 100000 in
set_option maxHeartbeats 20000000 in
theorem walk (v0 v1 : Value) (w : World) (w0 : Arg w 3 v0) (w1 : Arg w 22 v1) :
    Calls Try.prog 3 #[v0, v1] w fun e w' => e = .returned (.bool true) ∧ Below w.heap.size w w' := by
  obtain ⟨ni, rfl, wn⟩ := w0.int Try.underlying3
  obtain ⟨l, hst⟩ := w1.steps
  have HW := Lib.hid (wakes_any)
  have HST := Lib.hid hst
  have HF := Lib.hid (fair_any _ _ w hst)
  have hst' := hst
  obtain ⟨a, cap, rfl, -, -, -, -⟩ := hst'
  obtain ⟨L, hL⟩ : ∃ L, l.length = L := ⟨_, rfl⟩
  have HL := Lib.hid hL
  rw [hL] at HST HF ⊢
  obtain ⟨fb, hfb⟩ : ∃ fb, fairB l = fb := ⟨_, rfl⟩
  have HFB := Lib.hid hfb
  rw [hfb] at HF
  clear hst hL hfb w0 w1 wn
  cases fb with
  | false =>
    go_enter Try.func3, Try.ntmps3
    go_wp2_with fail
    refine HF.out.mono ?_
    rintro e w' ⟨rfl, hx⟩
    obtain rfl := hx.symm
    go_wp2_with fail
    refine (HW.out _).mono ?_
    rintro e w2 ⟨rfl, hB⟩
    have HB2 := Lib.hid hB
    clear hB
    go_wp2_with fail
    go_ret
    exact ⟨rfl, HB2.out⟩
  | true =>
  have HLF : Hid (L ≤ 200) := by
    have := HFB.out
    unfold fairB at this
    rw [Bool.and_eq_true, decide_eq_true_eq, HL.out] at this
    exact this.2
  have HALL : Hid (∀ s ∈ l, s.bs.length ≤ 300) := by
    have := HFB.out
    unfold fairB at this
    rw [Bool.and_eq_true, List.all_eq_true] at this
    exact fun s hs => by simpa using this.1 s hs
  clear HFB
  by_cases hmid : 100 < ni ∧ ni ≤ 4096
  · obtain ⟨q1, q2⟩ := hmid
    have q3 : decide (100 < ni) = true := by simpa using q1
    have q4 : decide (ni ≤ 4096) = true := by simpa using q2
    go_enter Try.func3, Try.ntmps3
    go_wp2_with fail
    refine HF.out.mono ?_
    rintro e w' ⟨rfl, hx⟩
    obtain rfl := hx.symm
    go_wp2_with fail
    refine (HW.out _).mono ?_
    rintro e w2 ⟨rfl, hB⟩
    have HB2 := Lib.hid hB
    clear hB
    go_wp2_with fail
    go_ret
    exact ⟨rfl, HB2.out⟩
  by_cases hbad : ni < 1 ∨ 4096 < ni
  · have HN1 := Lib.hid (new_no ni w hbad)
    have HN2 := Lib.hid (refNew_no ni w hbad)
    have hq : ¬ 100 < ni ∨ (100 < ni ∧ ¬ ni ≤ 4096) := by omega
    have hLz : ¬ (0 : Int) < (L : Int) ∨ (0 : Int) < (L : Int) := by omega
    clear hmid hbad
    rcases hq with q1 | ⟨q1, q2⟩
    all_goals
      go_enter Try.func3, Try.ntmps3
      go_wp2_with fail
      refine HF.out.mono ?_
      rintro e w' ⟨rfl, hx⟩
      obtain rfl := hx.symm
      go_wp2_with fail
      go_at_call 10
      refine HN1.out.mono ?_
      rintro e w' ⟨rfl, hx⟩
      obtain rfl := hx.symm
      go_wp2_with fail
      go_at_call 11
      refine HN2.out.mono ?_
      rintro e w' ⟨rfl, hx⟩
      obtain rfl := hx.symm
      go_wp2_with fail
      go_loopw [9] (fun i wr => i = .int .i64 0 ∧ wr = w) (fun _ _ => 0)
      case atStart => exact ⟨rfl, rfl⟩
      case round =>
        obtain ⟨rfl, rfl⟩ := hrel
        rcases hLz with q5 | q5
        all_goals
          go_wp2_with fail
          go_loopw [14] (fun i wr' => i = .int .i64 0 ∧ wr' = wr) (fun _ _ => 0)
          case atStart => exact ⟨rfl, rfl⟩
          case round =>
            obtain ⟨rfl, hx⟩ := hrel
            obtain rfl := hx.symm
            go_wp2_with fail
            refine (HW.out _).mono ?_
            rintro e w2 ⟨rfl, hB⟩
            have HB2 := Lib.hid hB
            clear hB
            go_wp2_with fail
            go_ret
            exact ⟨rfl, HB2.out⟩
  obtain ⟨N, rfl⟩ : ∃ N : Nat, ni = (N : Int) := ⟨ni.toNat, by omega⟩
  have HN12 : Hid (1 ≤ N ∧ N ≤ 100) := by show _ ∧ _; omega
  have q1 : ¬ 100 < (N : Int) := by omega
  have q3 : decide (100 < (N : Int)) = false := by simpa using q1
  clear hmid hbad
  go_enter Try.func3, Try.ntmps3
  go_wp2_with fail
  refine HF.out.mono ?_
  rintro e w' ⟨rfl, hx⟩
  obtain rfl := hx.symm
  clear hx HF
  go_wp2_with fail
  go_at_call 10
  refine (At.new N w w (Below.refl _ _) HN12.out.1 (by have := HN12.out; omega) (fun _ => False) (fun _ h => h.elim)).mono ?_
  rintro e w1 ⟨rb, rfl, a1, -⟩
  have A1 := Lib.hid a1
  clear a1 q1 q3
  go_wp2_with fail
  go_at_call 11
  refine (refNew_yes N w1 HN12.out.1 (by have := HN12.out; omega)).mono ?_
  rintro e w2 ⟨rq, rfl, g1, g2⟩
  have B0 : Hid (Both w w2 rb rq N (fun _ => zsec) (fun _ => zsec) (fun _ => False)) := Both.new w w1 w2 A1.out g1 g2
  clear g1 g2 A1
  go_wp2_with fail
  go_loopw [9] (fun i wr => ∃ (k : Nat) (D : Nat → Sec), k ≤ L ∧ i = .int .i64 k ∧ Hid (Both w wr rb rq N D D (fun _ => False)) ∧ Hid (∀ j, j < N → (D j).vs.length ≤ k)) (fun i _ => L - (intOf i).toNat)
  case atStart => exact ⟨0, _, Nat.zero_le _, rfl, B0, fun j _ => by simp [zsec]⟩
  case round =>
    obtain ⟨k, D, hk, rfl, B, F⟩ := hrel
    by_cases hlt : k < L
    · obtain ⟨s, hs⟩ : ∃ s, l[k]? = some s := ⟨_, List.getElem?_eq_getElem (by rw [HL.out]; exact hlt)⟩
      obtain ⟨b, off, rfl, hok, c0, c1, c2, c3⟩ := HST.out.open HL.out hs
      obtain ⟨kind, hkind⟩ : ∃ q, s.kind = q := ⟨_, rfl⟩
      obtain ⟨si, hsi⟩ : ∃ q, s.i = q := ⟨_, rfl⟩
      obtain ⟨z, hz⟩ : ∃ q, s.v = q := ⟨_, rfl⟩
      obtain ⟨pa, hpa⟩ : ∃ q, s.p = q := ⟨_, rfl⟩
      obtain ⟨pcap, hpcap⟩ : ∃ q, s.cap = q := ⟨_, rfl⟩
      obtain ⟨bs, hbs⟩ : ∃ q, s.bs = q := ⟨_, rfl⟩
      have hpick : s.pick = .slice pa bs.length pcap := by unfold St.pick; rw [hpa, hpcap, hbs]
      rw [hkind] at c0
      rw [hsi] at c1
      rw [hz] at c2
      rw [hpick] at c3
      have HP : Hid (Sl .u8 w (.slice pa bs.length pcap) bs) := by have := hok.pick; rw [hpick, hbs] at this; exact this
      have HPB : Hid (IsBytes bs) := by have := hok.bytes; rw [hbs] at this; exact this
      obtain ⟨P, hP⟩ : ∃ P, bs.length = P := ⟨_, rfl⟩
      rw [hP] at c3
      have HPL := Lib.hid hP
      have HP3 : Hid (bs.length ≤ 300) := by have := HALL.out s (List.mem_of_getElem? hs); rwa [hbs] at this
      have d0 := c0 wr B.out.bel
      have d1 := c1 wr B.out.bel
      have d2 := c2 wr B.out.bel
      have d3 := c3 wr B.out.bel
      have g1 : (k : Int) < (L : Int) := by omega
      have HLT := Lib.hid hlt
      have HWR : Hid (wrap64 ((k : Int) + 1) = (k : Int) + 1) := IntWalk.wrap64_in _ (by have := HLF.out; omega)
      obtain ⟨W, hW⟩ : ∃ W, wr.alloc (.cells #[.int .i64 kind, .int .i64 si, .int .u8 z, .slice pa P pcap] 34) = W := ⟨_, rfl⟩
      have hrow : W.heap[wr.heap.size]? = some (.cells #[.int .i64 kind, .int .i64 si, .int .u8 z, .slice pa P pcap] 34 (0, 0)) := by rw [← hW]; exact heap_alloc_new wr _
      have BW : Hid (Both w W rb rq N D D (fun k => k = wr.heap.size)) := B.out.with (by rw [← hW]; exact (Below.refl _ _).alloc (Nat.le_refl _) _) _ (fun k hk => .inr ⟨by omega, by rw [← hW, hk]; simp⟩)
      have EQ0 : Hid (wr.heap.size < W.heap.size ∧ W.heap[wr.heap.size]? = W.heap[wr.heap.size]?) := ⟨BW.out.has_lt rfl, rfl⟩
      have HX : Hid (∀ x : World, x.heap[wr.heap.size]? = W.heap[wr.heap.size]? → x.cell? ⟨wr.heap.size, 0, none⟩ = some (.int .i64 kind) ∧ x.cell? ⟨wr.heap.size, 1, none⟩ = some (.int .i64 si) ∧ x.cell? ⟨wr.heap.size, 2, none⟩ = some (.int .u8 z) ∧ x.cell? ⟨wr.heap.size, 3, none⟩ = some (.slice pa P pcap)) := fun x hx => by
        rw [hrow] at hx
        refine ⟨?_, ?_, ?_, ?_⟩ <;> (rw [cell_of_row _ _ _ _ _ _ hx]; rfl)
      have hmx : Try.prog.follows .mixedOrders = true := by kernel_rfl
      clear c0 c1 c2 c3 hs hok hkind hsi hz hpa hpcap hbs hpick hP hlt hk hrow
      by_cases hk0 : kind = 0
      · subst hk0
        by_cases hin : 0 ≤ si ∧ si < (N : Int)
        · obtain ⟨I, rfl⟩ : ∃ I : Nat, si = (I : Int) := ⟨si.toNat, by omega⟩
          have HI : Hid (I < N) := by show _ < _; omega
          have HIN : Hid (decide (0 ≤ (I : Int) ∧ (I : Int) < (N : Int)) = true) := by show _ = _; simp; omega
          have hC1 : ∀ y : Ext W, y.1.cell? ⟨wr.heap.size, 1, none⟩ = _ := fun y => (HX.out y.1 ((y.2.block _ EQ0.out.1).trans EQ0.out.2)).2.1
          have hC2 : ∀ y : Ext W, y.1.cell? ⟨wr.heap.size, 2, none⟩ = _ := fun y => (HX.out y.1 ((y.2.block _ EQ0.out.1).trans EQ0.out.2)).2.2.1
          clear hin
          obtain ⟨f0, f1, f2, f3⟩ := HX.out W rfl
          go_wp2_with fail
          clear f0 f1 f2 f3
          refine region_plan (fun x => ∃ y : Ext W, x = y.1) 6 (.takes [0, 1, 2, 3, 4] (.one 5 .leaf)) hmx (by kernel_rfl) (by intro c x v a w h; cases x <;> exact h) ⟨⟨World.drew W, (Below.refl _ W).drew⟩, rfl⟩ ?_
          repeat (rw [wpPlan_takes_cons]; simp only [nth_zero, nth_succ]; go_big_quiet_step (fail); refine wpQuiet_nil ?_)
          rw [wpPlan_takes_nil, wpPlan_one]
          simp only [nth_zero, nth_succ]
          go_wp2_with fail
          refine (fill_any z _).mono ?_
          rintro e x1 ⟨rfl, hb⟩
          have Hx1 : Hid (Below W.heap.size W x1) := (Below.refl _ W).drew.trans hb
          clear hb
          go_wp2_with fail
          refine planPost_mk ⟨⟨x1, Hx1.out⟩, rfl⟩ ?_
          rw [wpPlan_leaf]
          simp only [List.drop_succ_cons, List.drop_zero]
          go_wp2_with fail
          go_at_call 12
          refine ((BW.out.beside Hx1.out).write HI.out (isBlk_fill z) (by have := F.out I HI.out; have := HLT.out; have := HLF.out; omega)).mono ?_
          rintro e x2 ⟨rfl, hb, he⟩
          have B2 := Lib.hid hb
          have EQ2 : Hid (wr.heap.size < x2.heap.size ∧ x2.heap[wr.heap.size]? = W.heap[wr.heap.size]?) := ⟨hb.has_lt rfl, (he _ rfl).trans (Hx1.out.block _ EQ0.out.1)⟩
          clear hb he hC1 hC2
          have e1 := (HX.out x2 EQ2.out.2).2.1
          have hC1 : ∀ y : Ext x2, y.1.cell? ⟨wr.heap.size, 1, none⟩ = _ := fun y => (HX.out y.1 ((y.2.block _ EQ2.out.1).trans EQ2.out.2)).2.1
          have hC2 : ∀ y : Ext x2, y.1.cell? ⟨wr.heap.size, 2, none⟩ = _ := fun y => (HX.out y.1 ((y.2.block _ EQ2.out.1).trans EQ2.out.2)).2.2.1
          go_wp2_with fail
          go_at_call 14
          refine (B2.out.has _).mono ?_
          rintro e w' ⟨rfl, hx⟩
          obtain rfl := hx.symm
          clear hx
          rw [HIN.out]
          go_wp2_with fail
          go_at_call 14
          refine (B2.out.has _).mono ?_
          rintro e w' ⟨rfl, hx⟩
          obtain rfl := hx.symm
          clear hx
          rw [HIN.out]
          go_wp2_with fail
          refine region_plan (fun x => ∃ y : Ext x2, x = y.1) 6 (.takes [0, 1, 2, 3, 4] (.one 5 .leaf)) hmx (by kernel_rfl) (by intro c x v a w h; cases x <;> exact h) ⟨⟨World.drew x2, (Below.refl _ x2).drew⟩, rfl⟩ ?_
          repeat (rw [wpPlan_takes_cons]; simp only [nth_zero, nth_succ]; go_big_quiet_step (fail); refine wpQuiet_nil ?_)
          rw [wpPlan_takes_nil, wpPlan_one]
          simp only [nth_zero, nth_succ]
          go_wp2_with fail
          refine (fill_any z _).mono ?_
          rintro e x3 ⟨rfl, hb⟩
          have Hx3 : Hid (Below x2.heap.size x2 x3) := (Below.refl _ x2).drew.trans hb
          clear hb
          go_wp2_with fail
          refine planPost_mk ⟨⟨x3, Hx3.out⟩, rfl⟩ ?_
          rw [wpPlan_leaf]
          simp only [List.drop_succ_cons, List.drop_zero]
          go_wp2_with fail
          go_at_call 15
          refine ((B2.out.beside Hx3.out).write2 HI.out (isBlk_fill z) (by have := F.out I HI.out; have := HLT.out; have := HLF.out; omega)).mono ?_
          rintro e x4 ⟨rfl, hb, he⟩
          have B4 := Lib.hid hb
          have F4 : Hid (∀ j, j < N → (upd D I ((D I).add (fillB z)) j).vs.length ≤ k + 1) := fun j hj => by
            by_cases e : j = I
            · subst e; rw [upd_same, add_more _ _ (by have := F.out j hj; have := HLT.out; have := HLF.out; omega)]; have := F.out j hj; omega
            · rw [upd_other _ _ e]; exact Nat.le_succ_of_le (F.out j hj)
          clear hb he hC1 hC2 e1 B F
          go_wp2_with fail
          obtain ⟨ss, hss, hrq⟩ := B4.out.cell
          have HCQ : ∀ y : Ext x4, y.1.cell? ⟨rq, 0, none⟩ = some (.slice (some ⟨ss, 0, none⟩) N N) := fun y => (y.2.cell (p := ⟨rq, 0, none⟩) hrq).trans hss
          have KEY : Hid (∀ y : Ext x4, Both w y.1 rb rq N _ _ (fun _ => False)) := fun y => B4.out.with y.2 _ (fun _ h => h.elim)
          clear hss hrq
          refine region_plan (fun x => ∃ y : Ext x4, x = y.1) 15 (.takes [0, 2] (.one 1 (.one 3 (.one 4 (.takes [5, 6, 7, 9, 10, 11, 12, 13] (.one 8 (.takes [14] .leaf))))))) hmx (by kernel_rfl) (by intro c x v a w h; cases x <;> exact h) ⟨⟨World.drew x4, (Below.refl _ x4).drew⟩, rfl⟩ ?_
          repeat (rw [wpPlan_takes_cons]; simp only [nth_zero, nth_succ]; go_big_quiet_step (fail); refine wpQuiet_nil ?_)
          rw [wpPlan_takes_nil, wpPlan_one]
          simp only [nth_zero, nth_succ]
          go_wp2_with fail
          refine ((KEY.out ⟨World.drew x4, (Below.refl _ x4).drew⟩).loose).mono ?_
          rintro e y1 ⟨la, rfl, s1, b1⟩
          have Y1 : Hid (Below x4.heap.size x4 y1) := (Below.refl _ x4).drew.trans b1
          have S1 := Lib.hid s1
          clear s1 b1
          go_wp2_with fail
          refine planPost_mk ⟨⟨y1, Y1.out⟩, rfl⟩ ?_
          rw [wpPlan_one]
          simp only [nth_zero, nth_succ]
          go_wp2_with fail
          refine ((KEY.out ⟨y1, Y1.out⟩).loose2).mono ?_
          rintro e y2 ⟨lb, rfl, s2, b2⟩
          have Y2 : Hid (Below x4.heap.size x4 y2) := Y1.out.trans (b2.mono Y1.out.size)
          have S2 := Lib.hid s2
          have S3 := Lib.hid (S1.out.below b2)
          clear s2 b2
          go_wp2_with fail
          refine planPost_mk ⟨⟨y2, Y2.out⟩, rfl⟩ ?_
          rw [wpPlan_one]
          simp only [nth_zero, nth_succ]
          go_wp2_with fail
          refine (ints_same la lb _ y2 S3.out S2.out).mono ?_
          rintro e y3 ⟨rfl, b3⟩
          have Y3 : Hid (Below x4.heap.size x4 y3) := Y2.out.trans (b3.mono Y2.out.size)
          clear b3
          go_wp2_with fail
          refine planPost_mk ⟨⟨y3, Y3.out⟩, rfl⟩ ?_
          repeat (rw [wpPlan_takes_cons]; simp only [nth_zero, nth_succ]; go_big_quiet_step (fail); refine wpQuiet_nil ?_)
          rw [wpPlan_takes_nil, wpPlan_one]
          simp only [nth_zero, nth_succ]
          go_wp2_with fail
          refine ((KEY.out ⟨y3, Y3.out⟩).len).mono ?_
          rintro e y4 ⟨rfl, hx⟩
          obtain rfl := hx.symm
          clear hx
          go_wp2_with fail
          refine planPost_mk ⟨⟨y3, Y3.out⟩, rfl⟩ ?_
          repeat (rw [wpPlan_takes_cons]; simp only [nth_zero, nth_succ]; go_big_quiet_step (fail); refine wpQuiet_nil ?_)
          rw [wpPlan_takes_nil, wpPlan_leaf]
          simp only [List.drop_succ_cons, List.drop_zero]
          go_wp2_with fail
          refine ⟨?_, next_lt HWR.out HLT.out⟩
          obtain ⟨k', q1, q2, q3⟩ := next_rel (C := fun k' => k' = k + 1) HWR.out HLT.out rfl
          exact ⟨k', _, q1, q2, KEY.out ⟨y3, Y3.out⟩, by rw [q3]; exact F4⟩
        · have HIN : Hid (decide (0 ≤ si ∧ si < (N : Int)) = false) := by show _ = _; simpa using hin
          have HNI := Lib.hid hin
          have hC1 : ∀ y : Ext W, y.1.cell? ⟨wr.heap.size, 1, none⟩ = _ := fun y => (HX.out y.1 ((y.2.block _ EQ0.out.1).trans EQ0.out.2)).2.1
          have hC2 : ∀ y : Ext W, y.1.cell? ⟨wr.heap.size, 2, none⟩ = _ := fun y => (HX.out y.1 ((y.2.block _ EQ0.out.1).trans EQ0.out.2)).2.2.1
          clear hin
          obtain ⟨f0, f1, f2, f3⟩ := HX.out W rfl
          go_wp2_with fail
          clear f0 f1 f2 f3
          refine region_plan (fun x => ∃ y : Ext W, x = y.1) 6 (.takes [0, 1, 2, 3, 4] (.one 5 .leaf)) hmx (by kernel_rfl) (by intro c x v a w h; cases x <;> exact h) ⟨⟨World.drew W, (Below.refl _ W).drew⟩, rfl⟩ ?_
          repeat (rw [wpPlan_takes_cons]; simp only [nth_zero, nth_succ]; go_big_quiet_step (fail); refine wpQuiet_nil ?_)
          rw [wpPlan_takes_nil, wpPlan_one]
          simp only [nth_zero, nth_succ]
          go_wp2_with fail
          refine (fill_any z _).mono ?_
          rintro e x1 ⟨rfl, hb⟩
          have Hx1 : Hid (Below W.heap.size W x1) := (Below.refl _ W).drew.trans hb
          clear hb
          go_wp2_with fail
          refine planPost_mk ⟨⟨x1, Hx1.out⟩, rfl⟩ ?_
          rw [wpPlan_leaf]
          simp only [List.drop_succ_cons, List.drop_zero]
          go_wp2_with fail
          go_at_call 12
          refine ((BW.out.beside Hx1.out).writeNo HNI.out).mono ?_
          rintro e x2 ⟨rfl, hb, he⟩
          have B2 := Lib.hid hb
          have EQ2 : Hid (wr.heap.size < x2.heap.size ∧ x2.heap[wr.heap.size]? = W.heap[wr.heap.size]?) := ⟨hb.has_lt rfl, (he _ rfl).trans (Hx1.out.block _ EQ0.out.1)⟩
          have F2 : Hid (∀ j, j < N → (D j).vs.length ≤ k + 1) := fun j hj => Nat.le_succ_of_le (F.out j hj)
          clear hb he hC1 hC2
          have e1 := (HX.out x2 EQ2.out.2).2.1
          go_wp2_with fail
          go_at_call 14
          refine (B2.out.has _).mono ?_
          rintro e w' ⟨rfl, hx⟩
          obtain rfl := hx.symm
          clear hx
          rw [HIN.out]
          go_wp2_with fail
          go_at_call 14
          refine (B2.out.has _).mono ?_
          rintro e w' ⟨rfl, hx⟩
          obtain rfl := hx.symm
          clear hx
          rw [HIN.out]
          go_wp2_with fail
          clear e1 B F
          obtain ⟨ss, hss, hrq⟩ := B2.out.cell
          have HCQ : ∀ y : Ext x2, y.1.cell? ⟨rq, 0, none⟩ = some (.slice (some ⟨ss, 0, none⟩) N N) := fun y => (y.2.cell (p := ⟨rq, 0, none⟩) hrq).trans hss
          have KEY : Hid (∀ y : Ext x2, Both w y.1 rb rq N _ _ (fun _ => False)) := fun y => B2.out.with y.2 _ (fun _ h => h.elim)
          clear hss hrq
          refine region_plan (fun x => ∃ y : Ext x2, x = y.1) 15 (.takes [0, 2] (.one 1 (.one 3 (.one 4 (.takes [5, 6, 7, 9, 10, 11, 12, 13] (.one 8 (.takes [14] .leaf))))))) hmx (by kernel_rfl) (by intro c x v a w h; cases x <;> exact h) ⟨⟨World.drew x2, (Below.refl _ x2).drew⟩, rfl⟩ ?_
          repeat (rw [wpPlan_takes_cons]; simp only [nth_zero, nth_succ]; go_big_quiet_step (fail); refine wpQuiet_nil ?_)
          rw [wpPlan_takes_nil, wpPlan_one]
          simp only [nth_zero, nth_succ]
          go_wp2_with fail
          refine ((KEY.out ⟨World.drew x2, (Below.refl _ x2).drew⟩).loose).mono ?_
          rintro e y1 ⟨la, rfl, s1, b1⟩
          have Y1 : Hid (Below x2.heap.size x2 y1) := (Below.refl _ x2).drew.trans b1
          have S1 := Lib.hid s1
          clear s1 b1
          go_wp2_with fail
          refine planPost_mk ⟨⟨y1, Y1.out⟩, rfl⟩ ?_
          rw [wpPlan_one]
          simp only [nth_zero, nth_succ]
          go_wp2_with fail
          refine ((KEY.out ⟨y1, Y1.out⟩).loose2).mono ?_
          rintro e y2 ⟨lb, rfl, s2, b2⟩
          have Y2 : Hid (Below x2.heap.size x2 y2) := Y1.out.trans (b2.mono Y1.out.size)
          have S2 := Lib.hid s2
          have S3 := Lib.hid (S1.out.below b2)
          clear s2 b2
          go_wp2_with fail
          refine planPost_mk ⟨⟨y2, Y2.out⟩, rfl⟩ ?_
          rw [wpPlan_one]
          simp only [nth_zero, nth_succ]
          go_wp2_with fail
          refine (ints_same la lb _ y2 S3.out S2.out).mono ?_
          rintro e y3 ⟨rfl, b3⟩
          have Y3 : Hid (Below x2.heap.size x2 y3) := Y2.out.trans (b3.mono Y2.out.size)
          clear b3
          go_wp2_with fail
          refine planPost_mk ⟨⟨y3, Y3.out⟩, rfl⟩ ?_
          repeat (rw [wpPlan_takes_cons]; simp only [nth_zero, nth_succ]; go_big_quiet_step (fail); refine wpQuiet_nil ?_)
          rw [wpPlan_takes_nil, wpPlan_one]
          simp only [nth_zero, nth_succ]
          go_wp2_with fail
          refine ((KEY.out ⟨y3, Y3.out⟩).len).mono ?_
          rintro e y4 ⟨rfl, hx⟩
          obtain rfl := hx.symm
          clear hx
          go_wp2_with fail
          refine planPost_mk ⟨⟨y3, Y3.out⟩, rfl⟩ ?_
          repeat (rw [wpPlan_takes_cons]; simp only [nth_zero, nth_succ]; go_big_quiet_step (fail); refine wpQuiet_nil ?_)
          rw [wpPlan_takes_nil, wpPlan_leaf]
          simp only [List.drop_succ_cons, List.drop_zero]
          go_wp2_with fail
          refine ⟨?_, next_lt HWR.out HLT.out⟩
          obtain ⟨k', q1, q2, q3⟩ := next_rel (C := fun k' => k' = k + 1) HWR.out HLT.out rfl
          exact ⟨k', _, q1, q2, KEY.out ⟨y3, Y3.out⟩, by rw [q3]; exact F2⟩
      by_cases hk1 : kind = 1
      · subst hk1
        by_cases hin : 0 ≤ si ∧ si < (N : Int)
        · obtain ⟨I, rfl⟩ : ∃ I : Nat, si = (I : Int) := ⟨si.toNat, by omega⟩
          have HI : Hid (I < N) := by show _ < _; omega
          have HIN : Hid (decide (0 ≤ (I : Int) ∧ (I : Int) < (N : Int)) = true) := by show _ = _; simp; omega
          have hub : IsBlk (D I).look := (BW.out.ok HI.out).look
          obtain ⟨u, hu⟩ : ∃ u, (D I).look = u := ⟨_, rfl⟩
          rw [hu] at hub
          have HU := Lib.hid hu
          have hEq : ∀ x : World, (Op.equalIn 10000 37 (.agg u.toArray) (.agg u.toArray)).run Try.prog x = .ok true x := fun x => by rw [eq_blk hub hub]; congr 1; exact alike_iff.2 rfl
          have hSt : ∀ x : World, (storeVar 37 ⟨x.heap.size, 0, none⟩ (.agg u.toArray)).run Try.prog (x.alloc (.cells zarr 37)) = .ok () (x.alloc (.cells u.toArray 37)) := fun x => store_new zarr_size hub
          clear hin hu
          obtain ⟨f0, f1, f2, f3⟩ := HX.out W rfl
          go_wp2_with fail
          clear f0 f1 f2 f3
          go_at_call 16
          refine (BW.out.read HI.out).mono ?_
          rintro e x1 ⟨rfl, hb⟩
          rw [HU.out]
          have hb1 := Lib.hid hb
          clear hb
          go_wp2_with fail
          obtain ⟨X, hX⟩ : ∃ X, x1.alloc (.cells (u).toArray 37) = X := ⟨_, rfl⟩
          rw [hX]
          have hBX : Below W.heap.size W X := by rw [← hX]; exact hb1.out.alloc hb1.out.size _
          have BX := Lib.hid (BW.out.beside hBX)
          have EQX : Hid (wr.heap.size < X.heap.size ∧ X.heap[wr.heap.size]? = W.heap[wr.heap.size]?) := ⟨BX.out.has_lt rfl, hBX.block _ EQ0.out.1⟩
          have kX : X.heap[x1.heap.size]? = some (.cells (u).toArray 37 (0, 0)) := by rw [← hX]; exact heap_alloc_new x1 _
          have r1 : ∀ x : Ext X, (loadVar 37 ⟨x1.heap.size, 0, none⟩).run Try.prog x.1 = .ok (.agg (u).toArray) x.1 := fun x => load_at ((x.2.block _ (Array.getElem?_eq_some_iff.1 kX).1).trans kX) hub
          have hC1 : ∀ y : Ext X, y.1.cell? ⟨wr.heap.size, 1, none⟩ = _ := fun y => (HX.out y.1 ((y.2.block _ EQX.out.1).trans EQX.out.2)).2.1
          have hC2 : ∀ y : Ext X, y.1.cell? ⟨wr.heap.size, 2, none⟩ = _ := fun y => (HX.out y.1 ((y.2.block _ EQX.out.1).trans EQX.out.2)).2.2.1
          have Q1 : Hid (∀ y : Ext X, Calls Try.prog 14 #[.pointer (some ⟨rq, 0, none⟩), .int .i64 (I : Int)] y.1 fun e w'' => e = .returned (.bool true) ∧ ∃ z : Ext X, w'' = z.1) := fun y => by
            refine ((BX.out.beside y.2).has _).mono ?_
            rintro e w' ⟨rfl, rfl⟩
            rw [HIN.out]
            exact ⟨rfl, y, rfl⟩
          have Q2 : Hid (∀ y : Ext X, Calls Try.prog 17 #[.pointer (some ⟨rq, 0, none⟩), .int .i64 (I : Int)] y.1 fun e w'' => e = .returned (.agg u.toArray) ∧ ∃ z : Ext X, w'' = z.1) := fun y => by
            refine calls_ext y ?_
            rw [← HU.out]
            exact (BX.out.beside y.2).read2 HI.out
          have F2 : Hid (∀ j, j < N → (D j).vs.length ≤ k + 1) := fun j hj => Nat.le_succ_of_le (F.out j hj)
          clear hX hBX kX hb1 B F
          refine region_ext (by kernel_rfl) (by kernel_rfl) ?_
          repeat (go_big_quiet_step (with_reducible (first | exact Q1.out _ | exact Q2.out _)))
          refine wpQuiet_nil ?_
          intro x
          obtain ⟨xa, hbx⟩ := x
          have B2 := Lib.hid (BX.out.beside hbx)
          dsimp only
          clear hbx hC1 hC2 r1
          go_wp2_with fail
          obtain ⟨ss, hss, hrq⟩ := B2.out.cell
          have HCQ : ∀ y : Ext xa, y.1.cell? ⟨rq, 0, none⟩ = some (.slice (some ⟨ss, 0, none⟩) N N) := fun y => (y.2.cell (p := ⟨rq, 0, none⟩) hrq).trans hss
          have KEY : Hid (∀ y : Ext xa, Both w y.1 rb rq N _ _ (fun _ => False)) := fun y => B2.out.with y.2 _ (fun _ h => h.elim)
          clear hss hrq
          refine region_plan (fun x => ∃ y : Ext xa, x = y.1) 15 (.takes [0, 2] (.one 1 (.one 3 (.one 4 (.takes [5, 6, 7, 9, 10, 11, 12, 13] (.one 8 (.takes [14] .leaf))))))) hmx (by kernel_rfl) (by intro c x v a w h; cases x <;> exact h) ⟨⟨World.drew xa, (Below.refl _ xa).drew⟩, rfl⟩ ?_
          repeat (rw [wpPlan_takes_cons]; simp only [nth_zero, nth_succ]; go_big_quiet_step (fail); refine wpQuiet_nil ?_)
          rw [wpPlan_takes_nil, wpPlan_one]
          simp only [nth_zero, nth_succ]
          go_wp2_with fail
          refine ((KEY.out ⟨World.drew xa, (Below.refl _ xa).drew⟩).loose).mono ?_
          rintro e y1 ⟨la, rfl, s1, b1⟩
          have Y1 : Hid (Below xa.heap.size xa y1) := (Below.refl _ xa).drew.trans b1
          have S1 := Lib.hid s1
          clear s1 b1
          go_wp2_with fail
          refine planPost_mk ⟨⟨y1, Y1.out⟩, rfl⟩ ?_
          rw [wpPlan_one]
          simp only [nth_zero, nth_succ]
          go_wp2_with fail
          refine ((KEY.out ⟨y1, Y1.out⟩).loose2).mono ?_
          rintro e y2 ⟨lb, rfl, s2, b2⟩
          have Y2 : Hid (Below xa.heap.size xa y2) := Y1.out.trans (b2.mono Y1.out.size)
          have S2 := Lib.hid s2
          have S3 := Lib.hid (S1.out.below b2)
          clear s2 b2
          go_wp2_with fail
          refine planPost_mk ⟨⟨y2, Y2.out⟩, rfl⟩ ?_
          rw [wpPlan_one]
          simp only [nth_zero, nth_succ]
          go_wp2_with fail
          refine (ints_same la lb _ y2 S3.out S2.out).mono ?_
          rintro e y3 ⟨rfl, b3⟩
          have Y3 : Hid (Below xa.heap.size xa y3) := Y2.out.trans (b3.mono Y2.out.size)
          clear b3
          go_wp2_with fail
          refine planPost_mk ⟨⟨y3, Y3.out⟩, rfl⟩ ?_
          repeat (rw [wpPlan_takes_cons]; simp only [nth_zero, nth_succ]; go_big_quiet_step (fail); refine wpQuiet_nil ?_)
          rw [wpPlan_takes_nil, wpPlan_one]
          simp only [nth_zero, nth_succ]
          go_wp2_with fail
          refine ((KEY.out ⟨y3, Y3.out⟩).len).mono ?_
          rintro e y4 ⟨rfl, hx⟩
          obtain rfl := hx.symm
          clear hx
          go_wp2_with fail
          refine planPost_mk ⟨⟨y3, Y3.out⟩, rfl⟩ ?_
          repeat (rw [wpPlan_takes_cons]; simp only [nth_zero, nth_succ]; go_big_quiet_step (fail); refine wpQuiet_nil ?_)
          rw [wpPlan_takes_nil, wpPlan_leaf]
          simp only [List.drop_succ_cons, List.drop_zero]
          go_wp2_with fail
          refine ⟨?_, next_lt HWR.out HLT.out⟩
          obtain ⟨k', q1, q2, q3⟩ := next_rel (C := fun k' => k' = k + 1) HWR.out HLT.out rfl
          exact ⟨k', _, q1, q2, KEY.out ⟨y3, Y3.out⟩, by rw [q3]; exact F2⟩
        · have HIN : Hid (decide (0 ≤ si ∧ si < (N : Int)) = false) := by show _ = _; simpa using hin
          have HNI := Lib.hid hin
          have hub : IsBlk (fillB 0) := isBlk_fill 0
          clear hin
          obtain ⟨f0, f1, f2, f3⟩ := HX.out W rfl
          go_wp2_with fail
          clear f0 f1 f2 f3
          go_at_call 16
          refine (BW.out.readNo HNI.out).mono ?_
          rintro e x1 ⟨rfl, hb⟩
          have hb1 := Lib.hid hb
          clear hb
          go_wp2_with fail
          obtain ⟨X, hX⟩ : ∃ X, x1.alloc (.cells ((fillB 0)).toArray 37) = X := ⟨_, rfl⟩
          rw [hX]
          have hBX : Below W.heap.size W X := by rw [← hX]; exact hb1.out.alloc hb1.out.size _
          have BX := Lib.hid (BW.out.beside hBX)
          have EQX : Hid (wr.heap.size < X.heap.size ∧ X.heap[wr.heap.size]? = W.heap[wr.heap.size]?) := ⟨BX.out.has_lt rfl, hBX.block _ EQ0.out.1⟩
          have kX : X.heap[x1.heap.size]? = some (.cells ((fillB 0)).toArray 37 (0, 0)) := by rw [← hX]; exact heap_alloc_new x1 _
          have r1 : ∀ x : Ext X, (loadVar 37 ⟨x1.heap.size, 0, none⟩).run Try.prog x.1 = .ok (.agg ((fillB 0)).toArray) x.1 := fun x => load_at ((x.2.block _ (Array.getElem?_eq_some_iff.1 kX).1).trans kX) hub
          have hC1 : ∀ y : Ext X, y.1.cell? ⟨wr.heap.size, 1, none⟩ = _ := fun y => (HX.out y.1 ((y.2.block _ EQX.out.1).trans EQX.out.2)).2.1
          have hC2 : ∀ y : Ext X, y.1.cell? ⟨wr.heap.size, 2, none⟩ = _ := fun y => (HX.out y.1 ((y.2.block _ EQX.out.1).trans EQX.out.2)).2.2.1
          have Q1 : Hid (∀ y : Ext X, Calls Try.prog 14 #[.pointer (some ⟨rq, 0, none⟩), .int .i64 si] y.1 fun e w'' => e = .returned (.bool false) ∧ ∃ z : Ext X, w'' = z.1) := fun y => by
            refine ((BX.out.beside y.2).has _).mono ?_
            rintro e w' ⟨rfl, rfl⟩
            rw [HIN.out]
            exact ⟨rfl, y, rfl⟩
          have F2 : Hid (∀ j, j < N → (D j).vs.length ≤ k + 1) := fun j hj => Nat.le_succ_of_le (F.out j hj)
          clear hX hBX kX hb1 B F
          refine region_ext (by kernel_rfl) (by kernel_rfl) ?_
          repeat (go_big_quiet_step (with_reducible (exact Q1.out _)))
          refine wpQuiet_nil ?_
          intro x
          obtain ⟨xa, hbx⟩ := x
          have B2 := Lib.hid (BX.out.beside hbx)
          dsimp only
          clear hbx hC1 hC2 r1
          go_wp2_with fail
          obtain ⟨ss, hss, hrq⟩ := B2.out.cell
          have HCQ : ∀ y : Ext xa, y.1.cell? ⟨rq, 0, none⟩ = some (.slice (some ⟨ss, 0, none⟩) N N) := fun y => (y.2.cell (p := ⟨rq, 0, none⟩) hrq).trans hss
          have KEY : Hid (∀ y : Ext xa, Both w y.1 rb rq N _ _ (fun _ => False)) := fun y => B2.out.with y.2 _ (fun _ h => h.elim)
          clear hss hrq
          refine region_plan (fun x => ∃ y : Ext xa, x = y.1) 15 (.takes [0, 2] (.one 1 (.one 3 (.one 4 (.takes [5, 6, 7, 9, 10, 11, 12, 13] (.one 8 (.takes [14] .leaf))))))) hmx (by kernel_rfl) (by intro c x v a w h; cases x <;> exact h) ⟨⟨World.drew xa, (Below.refl _ xa).drew⟩, rfl⟩ ?_
          repeat (rw [wpPlan_takes_cons]; simp only [nth_zero, nth_succ]; go_big_quiet_step (fail); refine wpQuiet_nil ?_)
          rw [wpPlan_takes_nil, wpPlan_one]
          simp only [nth_zero, nth_succ]
          go_wp2_with fail
          refine ((KEY.out ⟨World.drew xa, (Below.refl _ xa).drew⟩).loose).mono ?_
          rintro e y1 ⟨la, rfl, s1, b1⟩
          have Y1 : Hid (Below xa.heap.size xa y1) := (Below.refl _ xa).drew.trans b1
          have S1 := Lib.hid s1
          clear s1 b1
          go_wp2_with fail
          refine planPost_mk ⟨⟨y1, Y1.out⟩, rfl⟩ ?_
          rw [wpPlan_one]
          simp only [nth_zero, nth_succ]
          go_wp2_with fail
          refine ((KEY.out ⟨y1, Y1.out⟩).loose2).mono ?_
          rintro e y2 ⟨lb, rfl, s2, b2⟩
          have Y2 : Hid (Below xa.heap.size xa y2) := Y1.out.trans (b2.mono Y1.out.size)
          have S2 := Lib.hid s2
          have S3 := Lib.hid (S1.out.below b2)
          clear s2 b2
          go_wp2_with fail
          refine planPost_mk ⟨⟨y2, Y2.out⟩, rfl⟩ ?_
          rw [wpPlan_one]
          simp only [nth_zero, nth_succ]
          go_wp2_with fail
          refine (ints_same la lb _ y2 S3.out S2.out).mono ?_
          rintro e y3 ⟨rfl, b3⟩
          have Y3 : Hid (Below xa.heap.size xa y3) := Y2.out.trans (b3.mono Y2.out.size)
          clear b3
          go_wp2_with fail
          refine planPost_mk ⟨⟨y3, Y3.out⟩, rfl⟩ ?_
          repeat (rw [wpPlan_takes_cons]; simp only [nth_zero, nth_succ]; go_big_quiet_step (fail); refine wpQuiet_nil ?_)
          rw [wpPlan_takes_nil, wpPlan_one]
          simp only [nth_zero, nth_succ]
          go_wp2_with fail
          refine ((KEY.out ⟨y3, Y3.out⟩).len).mono ?_
          rintro e y4 ⟨rfl, hx⟩
          obtain rfl := hx.symm
          clear hx
          go_wp2_with fail
          refine planPost_mk ⟨⟨y3, Y3.out⟩, rfl⟩ ?_
          repeat (rw [wpPlan_takes_cons]; simp only [nth_zero, nth_succ]; go_big_quiet_step (fail); refine wpQuiet_nil ?_)
          rw [wpPlan_takes_nil, wpPlan_leaf]
          simp only [List.drop_succ_cons, List.drop_zero]
          go_wp2_with fail
          refine ⟨?_, next_lt HWR.out HLT.out⟩
          obtain ⟨k', q1, q2, q3⟩ := next_rel (C := fun k' => k' = k + 1) HWR.out HLT.out rfl
          exact ⟨k', _, q1, q2, KEY.out ⟨y3, Y3.out⟩, by rw [q3]; exact F2⟩
      by_cases hk2 : kind = 2
      · subst hk2
        obtain ⟨f0, f1, f2, f3⟩ := HX.out W rfl
        go_wp2_with fail
        refine BW.out.flush.mono ?_
        rintro e x1 ⟨rfl, hb, -⟩
        have B1 := Lib.hid hb
        clear hb
        go_wp2_with fail
        refine B1.out.flush2.mono ?_
        rintro e x2 ⟨rfl, hb, -⟩
        have B2 := Lib.hid hb
        have F2 : Hid (∀ j, j < N → (flTo D N j).vs.length ≤ k + 1) := fun j hj => by rw [flTo_few D N j hj]; omega
        clear hb B F
        go_wp2_with fail
        obtain ⟨ss, hss, hrq⟩ := B2.out.cell
        have HCQ : ∀ y : Ext x2, y.1.cell? ⟨rq, 0, none⟩ = some (.slice (some ⟨ss, 0, none⟩) N N) := fun y => (y.2.cell (p := ⟨rq, 0, none⟩) hrq).trans hss
        have KEY : Hid (∀ y : Ext x2, Both w y.1 rb rq N _ _ (fun _ => False)) := fun y => B2.out.with y.2 _ (fun _ h => h.elim)
        clear hss hrq
        refine region_plan (fun x => ∃ y : Ext x2, x = y.1) 15 (.takes [0, 2] (.one 1 (.one 3 (.one 4 (.takes [5, 6, 7, 9, 10, 11, 12, 13] (.one 8 (.takes [14] .leaf))))))) hmx (by kernel_rfl) (by intro c x v a w h; cases x <;> exact h) ⟨⟨World.drew x2, (Below.refl _ x2).drew⟩, rfl⟩ ?_
        repeat (rw [wpPlan_takes_cons]; simp only [nth_zero, nth_succ]; go_big_quiet_step (fail); refine wpQuiet_nil ?_)
        rw [wpPlan_takes_nil, wpPlan_one]
        simp only [nth_zero, nth_succ]
        go_wp2_with fail
        refine ((KEY.out ⟨World.drew x2, (Below.refl _ x2).drew⟩).loose).mono ?_
        rintro e y1 ⟨la, rfl, s1, b1⟩
        have Y1 : Hid (Below x2.heap.size x2 y1) := (Below.refl _ x2).drew.trans b1
        have S1 := Lib.hid s1
        clear s1 b1
        go_wp2_with fail
        refine planPost_mk ⟨⟨y1, Y1.out⟩, rfl⟩ ?_
        rw [wpPlan_one]
        simp only [nth_zero, nth_succ]
        go_wp2_with fail
        refine ((KEY.out ⟨y1, Y1.out⟩).loose2).mono ?_
        rintro e y2 ⟨lb, rfl, s2, b2⟩
        have Y2 : Hid (Below x2.heap.size x2 y2) := Y1.out.trans (b2.mono Y1.out.size)
        have S2 := Lib.hid s2
        have S3 := Lib.hid (S1.out.below b2)
        clear s2 b2
        go_wp2_with fail
        refine planPost_mk ⟨⟨y2, Y2.out⟩, rfl⟩ ?_
        rw [wpPlan_one]
        simp only [nth_zero, nth_succ]
        go_wp2_with fail
        refine (ints_same la lb _ y2 S3.out S2.out).mono ?_
        rintro e y3 ⟨rfl, b3⟩
        have Y3 : Hid (Below x2.heap.size x2 y3) := Y2.out.trans (b3.mono Y2.out.size)
        clear b3
        go_wp2_with fail
        refine planPost_mk ⟨⟨y3, Y3.out⟩, rfl⟩ ?_
        repeat (rw [wpPlan_takes_cons]; simp only [nth_zero, nth_succ]; go_big_quiet_step (fail); refine wpQuiet_nil ?_)
        rw [wpPlan_takes_nil, wpPlan_one]
        simp only [nth_zero, nth_succ]
        go_wp2_with fail
        refine ((KEY.out ⟨y3, Y3.out⟩).len).mono ?_
        rintro e y4 ⟨rfl, hx⟩
        obtain rfl := hx.symm
        clear hx
        go_wp2_with fail
        refine planPost_mk ⟨⟨y3, Y3.out⟩, rfl⟩ ?_
        repeat (rw [wpPlan_takes_cons]; simp only [nth_zero, nth_succ]; go_big_quiet_step (fail); refine wpQuiet_nil ?_)
        rw [wpPlan_takes_nil, wpPlan_leaf]
        simp only [List.drop_succ_cons, List.drop_zero]
        go_wp2_with fail
        refine ⟨?_, next_lt HWR.out HLT.out⟩
        obtain ⟨k', q1, q2, q3⟩ := next_rel (C := fun k' => k' = k + 1) HWR.out HLT.out rfl
        exact ⟨k', _, q1, q2, KEY.out ⟨y3, Y3.out⟩, by rw [q3]; exact F2⟩
      by_cases hk3 : kind = 3
      · subst hk3
        obtain ⟨f0, f1, f2, f3⟩ := HX.out W rfl
        obtain ⟨v3, w3, HA, HO, HBW⟩ := copy_lit W (.slice pa P pcap) bs (by have := HP.out.below BW.out.bel; rwa [HPL.out] at this) (by have := HP3.out; omega)
        have f3' : (W.alloc (.cells #[] 5)).cell? ⟨wr.heap.size, 3, none⟩ = some (.slice pa P pcap) := by rw [World.cell?_alloc_lt _ _ _ EQ0.out.1]; exact f3
        go_wp2_with (at_builtin; refine wpList_append_run (.tmp 151) (.tmp 153) 32 rfl rfl _ _ _ rfl rfl HA.out ?_)
        have hrow := HO.out
        have hS3 : Sl .u8 w3 v3 bs := sl_own (bs := bs) hrow
        go_at_call 20
        refine (BW.out.crash HBW.out hS3 HPB.out (fun k e => hrow.lt k e) (fun i hi => by have := F.out i hi; have := HLT.out; have := HLF.out; omega)).mono ?_
        rintro e x4 ⟨rfl, hb, he⟩
        clear f3' f3 f2 f1 f0
        have B4 := Lib.hid hb
        have e3 := (HX.out x4 (he _ rfl)).2.2.2
        clear hb he hrow hS3
        go_wp2_with fail
        refine (B4.out.crash2 (by have := HP.out; rwa [HPL.out] at this) HPB.out (fun i hi => by have := F.out i hi; have := HLT.out; have := HLF.out; omega)).mono ?_
        rintro e x5 ⟨rfl, hb, -⟩
        have B5 := Lib.hid hb
        have F5 : Hid (∀ j, j < N → (settled D (crashG D bs) (looseTo D N) j).vs.length ≤ k + 1) := fun j hj => by rw [settled_none D _ N j hj]; simp
        clear hb B F e3
        go_wp2_with fail
        obtain ⟨ss, hss, hrq⟩ := B5.out.cell
        have HCQ : ∀ y : Ext x5, y.1.cell? ⟨rq, 0, none⟩ = some (.slice (some ⟨ss, 0, none⟩) N N) := fun y => (y.2.cell (p := ⟨rq, 0, none⟩) hrq).trans hss
        have KEY : Hid (∀ y : Ext x5, Both w y.1 rb rq N _ _ (fun _ => False)) := fun y => B5.out.with y.2 _ (fun _ h => h.elim)
        clear hss hrq
        refine region_plan (fun x => ∃ y : Ext x5, x = y.1) 15 (.takes [0, 2] (.one 1 (.one 3 (.one 4 (.takes [5, 6, 7, 9, 10, 11, 12, 13] (.one 8 (.takes [14] .leaf))))))) hmx (by kernel_rfl) (by intro c x v a w h; cases x <;> exact h) ⟨⟨World.drew x5, (Below.refl _ x5).drew⟩, rfl⟩ ?_
        repeat (rw [wpPlan_takes_cons]; simp only [nth_zero, nth_succ]; go_big_quiet_step (fail); refine wpQuiet_nil ?_)
        rw [wpPlan_takes_nil, wpPlan_one]
        simp only [nth_zero, nth_succ]
        go_wp2_with fail
        refine ((KEY.out ⟨World.drew x5, (Below.refl _ x5).drew⟩).loose).mono ?_
        rintro e y1 ⟨la, rfl, s1, b1⟩
        have Y1 : Hid (Below x5.heap.size x5 y1) := (Below.refl _ x5).drew.trans b1
        have S1 := Lib.hid s1
        clear s1 b1
        go_wp2_with fail
        refine planPost_mk ⟨⟨y1, Y1.out⟩, rfl⟩ ?_
        rw [wpPlan_one]
        simp only [nth_zero, nth_succ]
        go_wp2_with fail
        refine ((KEY.out ⟨y1, Y1.out⟩).loose2).mono ?_
        rintro e y2 ⟨lb, rfl, s2, b2⟩
        have Y2 : Hid (Below x5.heap.size x5 y2) := Y1.out.trans (b2.mono Y1.out.size)
        have S2 := Lib.hid s2
        have S3 := Lib.hid (S1.out.below b2)
        clear s2 b2
        go_wp2_with fail
        refine planPost_mk ⟨⟨y2, Y2.out⟩, rfl⟩ ?_
        rw [wpPlan_one]
        simp only [nth_zero, nth_succ]
        go_wp2_with fail
        refine (ints_same la lb _ y2 S3.out S2.out).mono ?_
        rintro e y3 ⟨rfl, b3⟩
        have Y3 : Hid (Below x5.heap.size x5 y3) := Y2.out.trans (b3.mono Y2.out.size)
        clear b3
        go_wp2_with fail
        refine planPost_mk ⟨⟨y3, Y3.out⟩, rfl⟩ ?_
        repeat (rw [wpPlan_takes_cons]; simp only [nth_zero, nth_succ]; go_big_quiet_step (fail); refine wpQuiet_nil ?_)
        rw [wpPlan_takes_nil, wpPlan_one]
        simp only [nth_zero, nth_succ]
        go_wp2_with fail
        refine ((KEY.out ⟨y3, Y3.out⟩).len).mono ?_
        rintro e y4 ⟨rfl, hx⟩
        obtain rfl := hx.symm
        clear hx
        go_wp2_with fail
        refine planPost_mk ⟨⟨y3, Y3.out⟩, rfl⟩ ?_
        repeat (rw [wpPlan_takes_cons]; simp only [nth_zero, nth_succ]; go_big_quiet_step (fail); refine wpQuiet_nil ?_)
        rw [wpPlan_takes_nil, wpPlan_leaf]
        simp only [List.drop_succ_cons, List.drop_zero]
        go_wp2_with fail
        refine ⟨?_, next_lt HWR.out HLT.out⟩
        obtain ⟨k', q1, q2, q3⟩ := next_rel (C := fun k' => k' = k + 1) HWR.out HLT.out rfl
        exact ⟨k', _, q1, q2, KEY.out ⟨y3, Y3.out⟩, by rw [q3]; exact F5⟩
      · have hk0' : (kind == 0) = false := by simpa using hk0
        have hk1' : (kind == 1) = false := by simpa using hk1
        have hk2' : (kind == 2) = false := by simpa using hk2
        have hk3' : (kind == 3) = false := by simpa using hk3
        obtain ⟨f0, f1, f2, f3⟩ := HX.out W rfl
        have F2 : Hid (∀ j, j < N → (D j).vs.length ≤ k + 1) := fun j hj => Nat.le_succ_of_le (F.out j hj)
        clear B F
        go_wp2_with fail
        obtain ⟨ss, hss, hrq⟩ := BW.out.cell
        have HCQ : ∀ y : Ext W, y.1.cell? ⟨rq, 0, none⟩ = some (.slice (some ⟨ss, 0, none⟩) N N) := fun y => (y.2.cell (p := ⟨rq, 0, none⟩) hrq).trans hss
        have KEY : Hid (∀ y : Ext W, Both w y.1 rb rq N _ _ (fun _ => False)) := fun y => BW.out.with y.2 _ (fun _ h => h.elim)
        clear hss hrq
        refine region_plan (fun x => ∃ y : Ext W, x = y.1) 15 (.takes [0, 2] (.one 1 (.one 3 (.one 4 (.takes [5, 6, 7, 9, 10, 11, 12, 13] (.one 8 (.takes [14] .leaf))))))) hmx (by kernel_rfl) (by intro c x v a w h; cases x <;> exact h) ⟨⟨World.drew W, (Below.refl _ W).drew⟩, rfl⟩ ?_
        repeat (rw [wpPlan_takes_cons]; simp only [nth_zero, nth_succ]; go_big_quiet_step (fail); refine wpQuiet_nil ?_)
        rw [wpPlan_takes_nil, wpPlan_one]
        simp only [nth_zero, nth_succ]
        go_wp2_with fail
        refine ((KEY.out ⟨World.drew W, (Below.refl _ W).drew⟩).loose).mono ?_
        rintro e y1 ⟨la, rfl, s1, b1⟩
        have Y1 : Hid (Below W.heap.size W y1) := (Below.refl _ W).drew.trans b1
        have S1 := Lib.hid s1
        clear s1 b1
        go_wp2_with fail
        refine planPost_mk ⟨⟨y1, Y1.out⟩, rfl⟩ ?_
        rw [wpPlan_one]
        simp only [nth_zero, nth_succ]
        go_wp2_with fail
        refine ((KEY.out ⟨y1, Y1.out⟩).loose2).mono ?_
        rintro e y2 ⟨lb, rfl, s2, b2⟩
        have Y2 : Hid (Below W.heap.size W y2) := Y1.out.trans (b2.mono Y1.out.size)
        have S2 := Lib.hid s2
        have S3 := Lib.hid (S1.out.below b2)
        clear s2 b2
        go_wp2_with fail
        refine planPost_mk ⟨⟨y2, Y2.out⟩, rfl⟩ ?_
        rw [wpPlan_one]
        simp only [nth_zero, nth_succ]
        go_wp2_with fail
        refine (ints_same la lb _ y2 S3.out S2.out).mono ?_
        rintro e y3 ⟨rfl, b3⟩
        have Y3 : Hid (Below W.heap.size W y3) := Y2.out.trans (b3.mono Y2.out.size)
        clear b3
        go_wp2_with fail
        refine planPost_mk ⟨⟨y3, Y3.out⟩, rfl⟩ ?_
        repeat (rw [wpPlan_takes_cons]; simp only [nth_zero, nth_succ]; go_big_quiet_step (fail); refine wpQuiet_nil ?_)
        rw [wpPlan_takes_nil, wpPlan_one]
        simp only [nth_zero, nth_succ]
        go_wp2_with fail
        refine ((KEY.out ⟨y3, Y3.out⟩).len).mono ?_
        rintro e y4 ⟨rfl, hx⟩
        obtain rfl := hx.symm
        clear hx
        go_wp2_with fail
        refine planPost_mk ⟨⟨y3, Y3.out⟩, rfl⟩ ?_
        repeat (rw [wpPlan_takes_cons]; simp only [nth_zero, nth_succ]; go_big_quiet_step (fail); refine wpQuiet_nil ?_)
        rw [wpPlan_takes_nil, wpPlan_leaf]
        simp only [List.drop_succ_cons, List.drop_zero]
        go_wp2_with fail
        refine ⟨?_, next_lt HWR.out HLT.out⟩
        obtain ⟨k', q1, q2, q3⟩ := next_rel (C := fun k' => k' = k + 1) HWR.out HLT.out rfl
        exact ⟨k', _, q1, q2, KEY.out ⟨y3, Y3.out⟩, by rw [q3]; exact F2⟩
    · obtain rfl : k = L := by omega
      have g1 : ¬ (k : Int) < (k : Int) := by omega
      clear hk hlt HST F
      go_wp2_with fail
      go_loopw [14] (fun i wr => ∃ j : Nat, j ≤ N ∧ i = .int .i64 j ∧ Hid (Both w wr rb rq N D D (fun _ => False))) (fun i _ => N - (intOf i).toNat)
      case atStart => exact ⟨0, Nat.zero_le _, rfl, B⟩
      case round =>
        obtain ⟨j, hj, rfl, B⟩ := hrel
        obtain ⟨ss, c0, -⟩ := B.out.cell
        by_cases hlt : j < N
        · have g2 : (j : Int) < (N : Int) := by omega
          have HLT := Lib.hid hlt
          have HWR : Hid (wrap64 ((j : Int) + 1) = (j : Int) + 1) := IntWalk.wrap64_in _ (by have := HN12.out; omega)
          have hub : IsBlk (D j).look := (B.out.ok hlt).look
          obtain ⟨u, hu⟩ : ∃ u, (D j).look = u := ⟨_, rfl⟩
          rw [hu] at hub
          have HU := Lib.hid hu
          have hEq : ∀ x : World, (Op.equalIn 10000 37 (.agg u.toArray) (.agg u.toArray)).run Try.prog x = .ok true x := fun x => by rw [eq_blk hub hub]; congr 1; exact alike_iff.2 rfl
          have hSt : ∀ x : World, (storeVar 37 ⟨x.heap.size, 0, none⟩ (.agg u.toArray)).run Try.prog (x.alloc (.cells zarr 37)) = .ok () (x.alloc (.cells u.toArray 37)) := fun x => store_new zarr_size hub
          clear hu hlt hj
          go_wp2_with fail
          go_at_call 16
          refine (B.out.read HLT.out).mono ?_
          rintro e x1 ⟨rfl, hb⟩
          rw [HU.out]
          have hb1 := Lib.hid hb
          clear hb c0
          go_wp2_with fail
          obtain ⟨X, hX⟩ : ∃ X, x1.alloc (.cells u.toArray 37) = X := ⟨_, rfl⟩
          rw [hX]
          have hBX : Below wr.heap.size wr X := by rw [← hX]; exact hb1.out.alloc hb1.out.size _
          have BX := Lib.hid (B.out.beside hBX)
          have kX : X.heap[x1.heap.size]? = some (.cells u.toArray 37 (0, 0)) := by rw [← hX]; exact heap_alloc_new x1 _
          have r1 : ∀ x : Ext X, (loadVar 37 ⟨x1.heap.size, 0, none⟩).run Try.prog x.1 = .ok (.agg u.toArray) x.1 := fun x => load_at ((x.2.block _ (Array.getElem?_eq_some_iff.1 kX).1).trans kX) hub
          have Q2 : Hid (∀ y : Ext X, Calls Try.prog 17 #[.pointer (some ⟨rq, 0, none⟩), .int .i64 (j : Int)] y.1 fun e w'' => e = .returned (.agg u.toArray) ∧ ∃ z : Ext X, w'' = z.1) := fun y => by
            refine calls_ext y ?_
            rw [← HU.out]
            exact (BX.out.beside y.2).read2 HLT.out
          clear hX hBX kX hb1 B
          refine region_ext (by kernel_rfl) (by kernel_rfl) ?_
          repeat (go_big_quiet_step (with_reducible (exact Q2.out _)))
          refine wpQuiet_nil ?_
          intro x
          go_wp2_with fail
          exact ⟨next_rel (C := fun _ => Hid (Both w x.1 rb rq N D D (fun _ => False))) HWR.out HLT.out (BX.out.beside x.2), next_lt HWR.out HLT.out⟩
        · obtain rfl : j = N := by omega
          have g2 : ¬ (j : Int) < (j : Int) := by omega
          clear hj hlt
          go_wp2_with fail
          go_at_call 9
          refine (HW.out _).mono ?_
          rintro e w2 ⟨rfl, hB⟩
          have HB2 : Hid (Below w.heap.size w w2) := B.out.bel.trans (hB.mono B.out.bel.size)
          clear hB
          go_wp2_with fail
          go_ret
          exact ⟨rfl, HB2.out⟩

set_option maxRecDepth 100000 in
theorem lifted (os : Os) (started : os.Started) (H : Type) (enc : TypeId × Value → H) :
    ReturnsInHanded {} Try.checked os 3 .any (Rows.diskPlaysSpec.pre6 enc Try.prog Try.f3 Rows.diskPlaysRow.domain false) (Rows.diskPlaysSpec.post enc Try.prog Try.f3 false true false false) := by
  refine returnsInHanded_of_change (C := Try.checked) own started (by kernel_rfl) Try.func3
    (ChangeSpec.witness6 (enc := enc) (C := Try.checked) false ⟨#[], #[.int .i64 0, .slice none 0 0], []⟩ 8 (by kernel_rfl) (by kernel_rfl) (by kernel_rfl) (by kernel_rfl)) ?_
  intro W base args ds gs before hval0 hW hcnd _
  have hval : ∀ (j : Nat) t v, Try.f3.params[j]? = some t → args[j]? = some v → Value.okWide Try.prog W .any base t v := hval0
  have hW' := hW
  obtain ⟨p, q, hA0, hV, rfl, hfz, hnd⟩ := hW
  have hA : DataW.TrodAll enc Try.prog W 0 (fun _ => true) true Try.f3.params.toList args.toList ds p := hA0
  rw [Try.params3] at hA hval
  obtain ⟨v0, vs0, d0, ds0, p0, q0, hargs, rfl, rfl, h0, r0⟩ := trodAll_cons hA
  obtain ⟨v1, vs1, d1, ds1, p1, q1, rfl, rfl, rfl, h1, r1⟩ := trodAll_cons r0
  obtain ⟨rfl, rfl, rfl⟩ := trodAll_nil r1
  obtain rfl : args = #[v0, v1] := by cases args; simp_all
  obtain ⟨rfl, rfl⟩ := trodVars_none hV
  have lt0 : ∀ x ∈ p0, x.block < W.heap.size := by obtain ⟨m, hm⟩ := h0; exact DataW.trod_lt m _ _ _ hm
  have a0 := Arg.mk (hval 0 3 v0 rfl rfl) h0
  have lt1 : ∀ x ∈ p1, x.block < W.heap.size := by obtain ⟨m, hm⟩ := h1; exact DataW.trod_lt m _ _ _ hm
  have a1 := Arg.mk (hval 1 22 v1 rfl rfl) h1
  clear hA0 hval0
  refine (walk v0 v1 W a0 a1).mono fun e W' ⟨he, bel⟩ => ?_
  subst he
  exact ⟨_, rfl, _, _, _, [], _, [], hW', trodAll_mk1 (shut_bool Try.underlying4 _), (trodAll_cons_mk (Below.trod laidOut (by kernel_rfl) (of_decide_eq_true (by kernel_rfl)) h0 bel lt0) (trodAll_cons_mk (Below.trod laidOut (by kernel_rfl) (of_decide_eq_true (by kernel_rfl)) h1 bel lt1) trodAll_mk0)), rfl, bel.frame _, fun h => by cases h⟩

theorem over : Rows.diskPlaysRow.holds Try.pinned (OpenSpec.ofChange Rows.diskPlaysSpec) :=
  OpenClaim.holds_of_wide 3 Try.f3 rfl rfl rfl rfl rfl rfl rfl ⟨rfl, rfl, rfl, rfl, rfl⟩ rfl rfl rfl rfl rfl (by kernel_rfl) Try.func3 (by kernel_rfl)
    (of_decide_eq_true (by kernel_rfl)) (by unfold Func.isWrapper; first | (rw [if_pos (by decide +kernel)]; kernel_rfl) | (rw [if_neg (by decide +kernel)]; exact ⟨rfl, rfl⟩))
    (fun os started H enc _ => lifted os started H enc)

theorem proved : Rows.DiskPlaysSaid := over
#print axioms proved
end Go.Proofs.Ytagieoomekmjcaa.diskPlays
