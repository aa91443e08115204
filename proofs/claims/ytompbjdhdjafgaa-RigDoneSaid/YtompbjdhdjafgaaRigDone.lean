/- Whatever the steps, RigDone returns true and leaves its argument as it was; no conditions. -/
import Derived.Test.YtompbjdhdjafgaaRUp
import Derived.Test.YtompbjdhdjafgaaSteps04
import Derived.Test.YtompbjdhdjafgaaRWakes
import Derived.Test.YtompbjdhdjafgaaQuiet
namespace Go.Proofs.Ytompbjdhdjafgaa.rigDone
open Go.ChangeShapes Go.WideShapes Go.ChangeAt Go.RowKit
set_option linter.unusedVariables false
attribute [-simp] Try.isAgg38 Try.zeroValue38
attribute [-go_sem] loadVar storeVar
attribute [local go_sem] zero_blk build_blk loadVar_open storeVar_open store_fill eq_fill eq_fill_z

set_option maxRecDepth 100000 in
set_option maxHeartbeats 8000000 in
theorem walk (v0 : Value) (w : World) (w0 : Arg w 23 v0) :
    Calls Try.prog 7 #[v0] w fun e w' => e = .returned (.bool true) ∧ Below w.heap.size w w' := by
  obtain ⟨l, hst⟩ := w0.steps
  have HW := Lib.hid (wakes_any)
  have HF := Lib.hid (fun w' (h : Below w.heap.size w w') => fair_any _ _ w' (hst.below h))
  have HST := Lib.hid hst
  obtain ⟨a, cap, rfl, -, -, -, -⟩ := hst
  obtain ⟨L, hL⟩ : ∃ L, l.length = L := ⟨_, rfl⟩
  have HL := Lib.hid hL
  rw [hL] at HST HF ⊢
  obtain ⟨fb, hfb⟩ : ∃ fb, fairB l = fb := ⟨_, rfl⟩
  have HFB := Lib.hid hfb
  rw [hfb] at HF
  clear hL hfb w0
  go_enter Try.func7, Try.ntmps7
  go_wp2_with fail
  go_at_call 10
  refine (RAt.new 4 4 w w (Below.refl _ _) (by omega) (by omega) (by omega) (by omega) (fun _ => False) (fun _ h => h.elim)).mono ?_
  rintro e w1 ⟨rb, p0, p1, rfl, a0, -⟩
  have A1 : Hid (RAt w w1 rb p0 p1 (newS 4 4) (fun _ => False)) := a0
  clear a0
  go_wp2_with fail
  go_at_call 8
  refine (HF.out w1 A1.out.bel).mono ?_
  rintro e w' ⟨rfl, hx⟩
  obtain rfl := hx.symm
  clear hx HF
  cases fb with
  | false =>
    go_wp2_with fail
    go_at_call 9
    refine (HW.out _).mono ?_
    rintro e w2 ⟨rfl, hB⟩
    have HB2 : Hid (Below w.heap.size w w2) := A1.out.bel.trans (hB.mono A1.out.bel.size)
    clear hB
    go_wp2_with fail
    go_ret
    exact ⟨rfl, HB2.out⟩
  | true =>
  have HLF : Hid (L ≤ 200) := by have := (fairB_yes HFB.out).1; rw [HL.out] at this; exact this
  clear HFB
  go_wp2_with fail
  go_loopw [5, 6] (fun d i wr => ∃ (k : Nat) (S : RS), k ≤ L ∧ i = .int .i64 k ∧ d = .int .i64 S.done ∧ Hid (RAt w wr rb p0 p1 S (fun _ => False)) ∧ Hid S.Up ∧ Hid (0 ≤ S.done ∧ S.done ≤ k) ∧ Hid (S.Few k)) (fun _ i _ => L - (intOf i).toNat)
  case atStart => exact ⟨0, _, Nat.zero_le _, rfl, rfl, A1, newS_up 4 4, ⟨Int.le_refl 0, Int.le_refl 0⟩, few_newS 4 4 0⟩
  case round =>
    obtain ⟨k, S, hk, rfl, rfl, A, U, DN, F⟩ := hrel
    by_cases hlt : k < L
    · have HFIT : Hid S.Fit := RS.fit (by rw [U.out.fuse]; decide) DN.out.1 (by have := DN.out.2; have := HLF.out; omega)
      have HF255 : Hid (S.Few 255) := F.out.mono (by have := HLF.out; omega)
      obtain ⟨s, hs⟩ : ∃ s, l[k]? = some s := ⟨_, List.getElem?_eq_getElem (by rw [HL.out]; exact hlt)⟩
      obtain ⟨b, off, rfl, hok, hblt, hsa⟩ := HST.out.open HL.out hs
      have HMEM := Lib.hid (List.mem_of_getElem? hs)
      obtain ⟨kind, dev, si, z, pa, pcap, bs, pa', pcap', bs'⟩ := s
      obtain ⟨P, hP⟩ : ∃ P, bs.length = P := ⟨_, rfl⟩
      obtain ⟨P', hP'⟩ : ∃ P, bs'.length = P := ⟨_, rfl⟩
      have HPL := Lib.hid hP
      have HPL' := Lib.hid hP'
      have HOK := Lib.hid hok
      have hB := A.out.bel
      have d0 : wr.cell? ⟨b, off + k * 6, none⟩ = some (.int .i64 kind) := (hB.cell (p := ⟨b, off + k * 6, none⟩) hblt).trans hsa.c0
      have d1 : wr.cell? ⟨b, off + k * 6 + 1, none⟩ = some (.int .i64 dev) := (hB.cell (p := ⟨b, off + k * 6 + 1, none⟩) hblt).trans hsa.c1
      have d2 : wr.cell? ⟨b, off + k * 6 + 2, none⟩ = some (.int .i64 si) := (hB.cell (p := ⟨b, off + k * 6 + 2, none⟩) hblt).trans hsa.c2
      have d3 : wr.cell? ⟨b, off + k * 6 + 3, none⟩ = some (.int .u8 z) := (hB.cell (p := ⟨b, off + k * 6 + 3, none⟩) hblt).trans hsa.c3
      have d4 : wr.cell? ⟨b, off + k * 6 + 4, none⟩ = some (.slice pa P pcap) := (hB.cell (p := ⟨b, off + k * 6 + 4, none⟩) hblt).trans (hsa.c4.trans (by rw [← hP]; rfl))
      have d5 : wr.cell? ⟨b, off + k * 6 + 5, none⟩ = some (.slice pa' P' pcap') := (hB.cell (p := ⟨b, off + k * 6 + 5, none⟩) hblt).trans (hsa.c5.trans (by rw [← hP']; rfl))
      have g1 : (k : Int) < (L : Int) := by omega
      have HLT := Lib.hid hlt
      have HWR : Hid (wrap64 ((k : Int) + 1) = (k : Int) + 1) := IntWalk.wrap64_in _ (by have := HLF.out; omega)
      obtain ⟨W, hW⟩ : ∃ W, wr.alloc (.cells #[.int .i64 kind, .int .i64 dev, .int .i64 si, .int .u8 z, .slice pa P pcap, .slice pa' P' pcap'] 35) = W := ⟨_, rfl⟩
      have hrow : W.heap[wr.heap.size]? = some (.cells #[.int .i64 kind, .int .i64 dev, .int .i64 si, .int .u8 z, .slice pa P pcap, .slice pa' P' pcap'] 35 (0, 0)) := by rw [← hW]; exact heap_alloc_new wr _
      have AW : Hid (RAt w W rb p0 p1 S (fun k => k = wr.heap.size)) := A.out.below (by rw [← hW]; exact (Below.refl _ _).alloc (Nat.le_refl _) _) _ (fun k hk => .inr ⟨by omega, by rw [← hW, hk]; simp⟩)
      have hBW : Below wr.heap.size wr W := by rw [← hW]; exact (Below.refl _ _).alloc (Nat.le_refl _) _
      have HBW := Lib.hid hBW
      have EQ0 : Hid (wr.heap.size < W.heap.size) := AW.out.lt rfl
      have HX : Hid (∀ x : World, x.heap[wr.heap.size]? = W.heap[wr.heap.size]? → x.cell? ⟨wr.heap.size, 0, none⟩ = some (.int .i64 kind) ∧ x.cell? ⟨wr.heap.size, 1, none⟩ = some (.int .i64 dev) ∧ x.cell? ⟨wr.heap.size, 2, none⟩ = some (.int .i64 si) ∧ x.cell? ⟨wr.heap.size, 3, none⟩ = some (.int .u8 z) ∧ x.cell? ⟨wr.heap.size, 4, none⟩ = some (.slice pa P pcap) ∧ x.cell? ⟨wr.heap.size, 5, none⟩ = some (.slice pa' P' pcap')) := fun x hx => by
        rw [hrow] at hx
        refine ⟨?_, ?_, ?_, ?_, ?_, ?_⟩ <;> (rw [cell_of_row _ _ _ _ _ _ hx]; rfl)
      have hmx : Try.prog.follows .mixedOrders = true := by kernel_rfl
      clear hsa hs hok hP hP' hlt hk hrow hB hblt hBW
      obtain ⟨dn, hdn⟩ : ∃ dn, S.done = dn := ⟨_, rfl⟩
      have HDN := Lib.hid hdn
      have hw2 : wrap64 (dn + 1) = dn + 1 := by rw [← hdn]; exact HFIT.out.done
      rw [hdn]
      clear hdn A
      obtain ⟨f0, f1, f2, f3, f4, f5⟩ := HX.out W rfl
      by_cases hk0 : kind = 0
      · subst hk0
        have hC1 : ∀ y : Ext W, y.1.cell? ⟨wr.heap.size, 1, none⟩ = _ := fun y => (HX.out y.1 ((y.2.block _ EQ0.out).trans rfl)).2.1
        have hC2 : ∀ y : Ext W, y.1.cell? ⟨wr.heap.size, 2, none⟩ = _ := fun y => (HX.out y.1 ((y.2.block _ EQ0.out).trans rfl)).2.2.1
        have hC3 : ∀ y : Ext W, y.1.cell? ⟨wr.heap.size, 3, none⟩ = _ := fun y => (HX.out y.1 ((y.2.block _ EQ0.out).trans rfl)).2.2.2.1
        go_wp2_with fail
        clear f0 f1 f2 f3 f4 f5
        refine region_plan (fun x => ∃ y : Ext W, x = y.1) 8 (.takes [0, 1, 2, 3, 4, 5, 6] (.one 7 .leaf)) hmx (by kernel_rfl) (by intro c x v a w h; cases x <;> exact h) ⟨⟨World.drew W, (Below.refl _ W).drew⟩, rfl⟩ ?_
        repeat (rw [wpPlan_takes_cons]; simp only [nth_zero, nth_succ]; go_big_quiet_step (fail); refine wpQuiet_nil ?_)
        rw [wpPlan_takes_nil, wpPlan_one]
        simp only [nth_zero, nth_succ]
        go_wp2_with fail
        refine (fill_any z _).mono ?_
        rintro e x1 ⟨rfl, hb⟩
        have Hx1 : Hid (Below W.heap.size W x1) := (Below.refl _ W).drew.trans hb
        clear hb
        go_wp2_with fail
        refine planPost_mk ⟨⟨x1, Hx1.out⟩, rfl⟩ ?_
        rw [wpPlan_leaf]
        simp only [List.drop_succ_cons, List.drop_zero]
        go_wp2_with fail
        go_at_call 12
        refine ((AW.out.beside Hx1.out).write HFIT.out HF255.out dev si (isBlk_fill z)).mono ?_
        rintro e x2 ⟨rfl, hb, he⟩
        clear hC1 hC2 hC3
        have B2' := Lib.hid hb
        have F2' : Hid ((S.write dev si (fillB z)).Few (k + 1)) := RS.few_write F.out (by have := HLT.out; have := HLF.out; omega) dev si _
        have UP := U.out.write dev si (fillB z)
        clear hb he
        rcases UP with ⟨u2, ⟨h1, h2⟩ | ⟨h1, h2⟩⟩
        · rw [h1]
          obtain ⟨S', hS'⟩ : ∃ S', S.write dev si (fillB z) = S' := ⟨_, rfl⟩
          have U2 := Lib.hid u2
          have DE : Hid (S'.done = dn + 1) := by show _ = _; rw [← hS', h2, HDN.out]
          rw [hS'] at B2' F2' U2
          have B2 := B2'
          have F2 := F2'
          clear u2 h1 h2 hS' B2' F2'
          go_wp2_with fail
          go_at_call 23
          refine (B2.out.done).mono ?_
          rintro e w' ⟨rfl, hx⟩
          obtain rfl := hx.symm
          clear hx
          rw [DE.out]
          go_wp2_with fail
          go_at_call 22
          refine (B2.out.isDown).mono ?_
          rintro e w' ⟨rfl, hx⟩
          obtain rfl := hx.symm
          clear hx
          rw [U2.out.down]
          go_wp2_with fail
          refine ⟨?_, next_lt HWR.out HLT.out⟩
          obtain ⟨k', q1, q2, q3⟩ := next_rel (C := fun k' => k' = k + 1) HWR.out HLT.out rfl
          exact ⟨k', S', q1, q2, by rw [DE.out], B2.out.less _ (fun _ h => h.elim), U2, by rw [q3, DE.out]; have := DN.out; rw [HDN.out] at this; refine (?_ : _ ∧ _); omega, by rw [q3]; exact F2⟩
        · rw [h1]
          obtain ⟨S', hS'⟩ : ∃ S', S.write dev si (fillB z) = S' := ⟨_, rfl⟩
          have U2 := Lib.hid u2
          have DE : Hid (S'.done = dn) := by show _ = _; rw [← hS', h2, HDN.out]
          rw [hS'] at B2' F2' U2
          have B2 := B2'
          have F2 := F2'
          clear u2 h1 h2 hS' B2' F2'
          go_wp2_with fail
          go_at_call 23
          refine (B2.out.done).mono ?_
          rintro e w' ⟨rfl, hx⟩
          obtain rfl := hx.symm
          clear hx
          rw [DE.out]
          go_wp2_with fail
          go_at_call 22
          refine (B2.out.isDown).mono ?_
          rintro e w' ⟨rfl, hx⟩
          obtain rfl := hx.symm
          clear hx
          rw [U2.out.down]
          go_wp2_with fail
          refine ⟨?_, next_lt HWR.out HLT.out⟩
          obtain ⟨k', q1, q2, q3⟩ := next_rel (C := fun k' => k' = k + 1) HWR.out HLT.out rfl
          exact ⟨k', S', q1, q2, by rw [DE.out], B2.out.less _ (fun _ h => h.elim), U2, by rw [q3, DE.out]; have := DN.out; rw [HDN.out] at this; refine (?_ : _ ∧ _); omega, by rw [q3]; exact F2⟩
      by_cases hk2 : kind = 2
      · subst hk2
        go_wp2_with fail
        clear f0 f1 f2 f3 f4 f5
        go_at_call 17
        refine (AW.out.flush HFIT.out dev).mono ?_
        rintro e x2 ⟨rfl, hb, he⟩
        have B2' := Lib.hid hb
        have F2' : Hid ((S.flush dev).Few (k + 1)) := RS.few_flush (F.out.mono (by omega)) dev
        have UP := U.out.flush dev
        clear hb he
        rcases UP with ⟨u2, ⟨h1, h2⟩ | ⟨h1, h2⟩⟩
        · rw [h1]
          obtain ⟨S', hS'⟩ : ∃ S', S.flush dev = S' := ⟨_, rfl⟩
          have U2 := Lib.hid u2
          have DE : Hid (S'.done = dn + 1) := by show _ = _; rw [← hS', h2, HDN.out]
          rw [hS'] at B2' F2' U2
          have B2 := B2'
          have F2 := F2'
          clear u2 h1 h2 hS' B2' F2'
          go_wp2_with fail
          go_at_call 23
          refine (B2.out.done).mono ?_
          rintro e w' ⟨rfl, hx⟩
          obtain rfl := hx.symm
          clear hx
          rw [DE.out]
          go_wp2_with fail
          go_at_call 22
          refine (B2.out.isDown).mono ?_
          rintro e w' ⟨rfl, hx⟩
          obtain rfl := hx.symm
          clear hx
          rw [U2.out.down]
          go_wp2_with fail
          refine ⟨?_, next_lt HWR.out HLT.out⟩
          obtain ⟨k', q1, q2, q3⟩ := next_rel (C := fun k' => k' = k + 1) HWR.out HLT.out rfl
          exact ⟨k', S', q1, q2, by rw [DE.out], B2.out.less _ (fun _ h => h.elim), U2, by rw [q3, DE.out]; have := DN.out; rw [HDN.out] at this; refine (?_ : _ ∧ _); omega, by rw [q3]; exact F2⟩
        · rw [h1]
          obtain ⟨S', hS'⟩ : ∃ S', S.flush dev = S' := ⟨_, rfl⟩
          have U2 := Lib.hid u2
          have DE : Hid (S'.done = dn) := by show _ = _; rw [← hS', h2, HDN.out]
          rw [hS'] at B2' F2' U2
          have B2 := B2'
          have F2 := F2'
          clear u2 h1 h2 hS' B2' F2'
          go_wp2_with fail
          go_at_call 23
          refine (B2.out.done).mono ?_
          rintro e w' ⟨rfl, hx⟩
          obtain rfl := hx.symm
          clear hx
          rw [DE.out]
          go_wp2_with fail
          go_at_call 22
          refine (B2.out.isDown).mono ?_
          rintro e w' ⟨rfl, hx⟩
          obtain rfl := hx.symm
          clear hx
          rw [U2.out.down]
          go_wp2_with fail
          refine ⟨?_, next_lt HWR.out HLT.out⟩
          obtain ⟨k', q1, q2, q3⟩ := next_rel (C := fun k' => k' = k + 1) HWR.out HLT.out rfl
          exact ⟨k', S', q1, q2, by rw [DE.out], B2.out.less _ (fun _ h => h.elim), U2, by rw [q3, DE.out]; have := DN.out; rw [HDN.out] at this; refine (?_ : _ ∧ _); omega, by rw [q3]; exact F2⟩
      by_cases hk3 : kind = 3
      · subst hk3
        go_wp2_with fail
        clear f0 f1 f2 f3 f4 f5
        go_at_call 19
        have s0 : Sl .u8 w (.slice pa P pcap) bs := by rw [← HPL.out]; exact HOK.out.pick0
        have s1 : Sl .u8 w (.slice pa' P' pcap') bs' := by rw [← HPL'.out]; exact HOK.out.pick1
        refine (AW.out.crash (s0.below AW.out.bel) (s1.below AW.out.bel) HOK.out.bytes0 HOK.out.bytes1 (fun hn b off len cap e => .inl (s0.lt_of hn e)) (fun hn b off len cap e => .inl (s1.lt_of hn e)) (HF255.out.mono (by omega))).mono ?_
        rintro e x2 ⟨rfl, hb, -⟩
        clear s0 s1
        obtain ⟨S', hS'⟩ : ∃ S', S.crash bs bs' = S' := ⟨_, rfl⟩
        have B2 := Lib.hid hb
        have U2 : Hid (S.crash bs bs').Up := (RS.crash_up S bs bs').1
        have F2 : Hid ((S.crash bs bs').Few (k + 1)) := RS.few_crash S bs bs' _
        have DE : Hid ((S.crash bs bs').done = dn) := HDN.out
        rw [hS'] at B2 U2 F2 DE
        clear hb hS'
        go_wp2_with fail
        go_at_call 23
        refine (B2.out.done).mono ?_
        rintro e w' ⟨rfl, hx⟩
        obtain rfl := hx.symm
        clear hx
        rw [DE.out]
        go_wp2_with fail
        go_at_call 22
        refine (B2.out.isDown).mono ?_
        rintro e w' ⟨rfl, hx⟩
        obtain rfl := hx.symm
        clear hx
        rw [U2.out.down]
        go_wp2_with fail
        refine ⟨?_, next_lt HWR.out HLT.out⟩
        obtain ⟨k', q1, q2, q3⟩ := next_rel (C := fun k' => k' = k + 1) HWR.out HLT.out rfl
        exact ⟨k', S', q1, q2, by rw [DE.out], B2.out.less _ (fun _ h => h.elim), U2, by rw [q3, DE.out]; have := DN.out; rw [HDN.out] at this; refine (?_ : _ ∧ _); omega, by rw [q3]; exact F2⟩
      · have hk0' : (kind == 0) = false := by simpa using hk0
        have hk2' : (kind == 2) = false := by simpa using hk2
        have hk3' : (kind == 3) = false := by simpa using hk3
        go_wp2_with fail
        clear f0 f1 f2 f3 f4 f5
        go_at_call 15
        refine (AW.out.read dev si).mono ?_
        rintro e x2 ⟨rfl, hbl⟩
        have hb := AW.out.beside hbl
        clear hbl
        obtain ⟨S', hS'⟩ : ∃ S', S = S' := ⟨_, rfl⟩
        have B2 := Lib.hid hb
        have U2 : Hid (S).Up := U.out
        have F2 : Hid ((S).Few (k + 1)) := F.out.mono (by omega)
        have DE : Hid ((S).done = dn) := HDN.out
        rw [hS'] at B2 U2 F2 DE
        clear hb hS'
        go_wp2_with fail
        go_at_call 23
        refine (B2.out.done).mono ?_
        rintro e w' ⟨rfl, hx⟩
        obtain rfl := hx.symm
        clear hx
        rw [DE.out]
        go_wp2_with fail
        go_at_call 22
        refine (B2.out.isDown).mono ?_
        rintro e w' ⟨rfl, hx⟩
        obtain rfl := hx.symm
        clear hx
        rw [U2.out.down]
        go_wp2_with fail
        refine ⟨?_, next_lt HWR.out HLT.out⟩
        obtain ⟨k', q1, q2, q3⟩ := next_rel (C := fun k' => k' = k + 1) HWR.out HLT.out rfl
        exact ⟨k', S', q1, q2, by rw [DE.out], B2.out.less _ (fun _ h => h.elim), U2, by rw [q3, DE.out]; have := DN.out; rw [HDN.out] at this; refine (?_ : _ ∧ _); omega, by rw [q3]; exact F2⟩
    · obtain rfl : k = L := by omega
      have g1 : ¬ (k : Int) < (k : Int) := by omega
      clear hk hlt HST F
      go_wp2_with fail
      go_at_call 9
      refine (HW.out _).mono ?_
      rintro e w2 ⟨rfl, hB⟩
      have HB2 : Hid (Below w.heap.size w w2) := A.out.bel.trans (hB.mono A.out.bel.size)
      clear hB
      go_wp2_with fail
      go_ret
      exact ⟨rfl, HB2.out⟩

set_option maxRecDepth 100000 in
theorem lifted (os : Os) (started : os.Started) (H : Type) (enc : TypeId × Value → H) :
    ReturnsInHanded {} Try.checked os 7 .any (Rows.rigDoneSpec.pre6 enc Try.prog Try.f7 Rows.rigDoneRow.domain false) (Rows.rigDoneSpec.post enc Try.prog Try.f7 false true false false) := by
  refine returnsInHanded_of_change (C := Try.checked) own started (by kernel_rfl) Try.func7
    (ChangeSpec.witness6 (enc := enc) (C := Try.checked) false ⟨#[], #[.slice none 0 0], []⟩ 8 (by kernel_rfl) (by kernel_rfl) (by kernel_rfl) (by kernel_rfl)) ?_
  intro W base args ds gs before hval0 hW hcnd _
  have hval : ∀ (j : Nat) t v, Try.f7.params[j]? = some t → args[j]? = some v → Value.okWide Try.prog W .any base t v := hval0
  have hW' := hW
  obtain ⟨p, q, hA0, hV, rfl, hfz, hnd⟩ := hW
  have hA : DataW.TrodAll enc Try.prog W 0 (fun _ => true) true Try.f7.params.toList args.toList ds p := hA0
  rw [Try.params7] at hA hval
  obtain ⟨v0, vs0, d0, ds0, p0, q0, hargs, rfl, rfl, h0, r0⟩ := trodAll_cons hA
  obtain ⟨rfl, rfl, rfl⟩ := trodAll_nil r0
  obtain rfl : args = #[v0] := by cases args; simp_all
  obtain ⟨rfl, rfl⟩ := trodVars_none hV
  have lt0 : ∀ x ∈ p0, x.block < W.heap.size := by obtain ⟨m, hm⟩ := h0; exact DataW.trod_lt m _ _ _ hm
  have a0 := Arg.mk (hval 0 23 v0 rfl rfl) h0
  clear hA0 hval0
  refine (walk v0 W a0).mono fun e W' ⟨he, bel⟩ => ?_
  subst he
  exact ⟨_, rfl, _, _, _, [], _, [], hW', trodAll_mk1 (shut_bool Try.underlying4 _), (trodAll_cons_mk (Below.trod laidOut (by kernel_rfl) (of_decide_eq_true (by kernel_rfl)) h0 bel lt0) trodAll_mk0), rfl, bel.frame _, fun h => by cases h⟩

theorem over : Rows.rigDoneRow.holds Try.pinned (OpenSpec.ofChange Rows.rigDoneSpec) :=
  OpenClaim.holds_of_wide 7 Try.f7 rfl rfl rfl rfl rfl rfl rfl ⟨rfl, rfl, rfl, rfl, rfl⟩ rfl rfl rfl rfl rfl (by kernel_rfl) Try.func7 (by kernel_rfl)
    (of_decide_eq_true (by kernel_rfl)) (by unfold Func.isWrapper; first | (rw [if_pos (by decide +kernel)]; kernel_rfl) | (rw [if_neg (by decide +kernel)]; exact ⟨rfl, rfl⟩))
    (fun os started H enc _ => lifted os started H enc)

theorem proved : Rows.RigDoneSaid := over
#print axioms proved
end Go.Proofs.Ytompbjdhdjafgaa.rigDone
