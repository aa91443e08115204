/- Whatever the steps and the size, DiskReads returns true and leaves its arguments as they were; no conditions. -/
import Derived.Test.YtagieoomekmjcaaMod
import Derived.Test.YtagieoomekmjcaaReads
import Derived.Test.YtagieoomekmjcaaSteps
import Derived.Test.YtagieoomekmjcaaQuiet
import Derived.Test.YtagieoomekmjcaaDWakes
namespace Go.Proofs.Ytagieoomekmjcaa.diskReads
open Go.ChangeShapes Go.WideShapes Go.ChangeAt Go.RowKit
set_option linter.unusedVariables false
attribute [-simp] Try.isAgg37 Try.zeroValue37
attribute [-go_sem] loadVar storeVar
attribute [local go_sem] zero_blk build_blk loadVar_open storeVar_open store_fill eq_fill eq_fill_z zero_20

set_option maxRecDepth 100000 in
set_option maxHeartbeats 4000000 in
theorem walk (v0 v1 : Value) (w : World) (w0 : Arg w 22 v0) (w1 : Arg w 5 v1) :
    Calls Try.prog 7 #[v0, v1] w fun e w' => e = .returned (.bool true) ∧ Below w.heap.size w w' := by
  obtain ⟨l, hst⟩ := w0.steps
  obtain ⟨y, rfl, wy⟩ := w1.int Try.underlying5
  have by_ := bounds_u8 wy
  have y0 := by_.1
  have y1 := by_.2
  obtain ⟨N, hN⟩ : ∃ N : Nat, 1 + y % 20 = (N : Int) ∧ 1 ≤ N ∧ N ≤ 20 := ⟨(1 + y % 20).toNat, by omega, by omega, by omega⟩
  obtain ⟨hN, hN1, hN2⟩ := hN
  have HW := Lib.hid (wakes_any)
  have HST := Lib.hid hst
  have HF := Lib.hid (fun w' (h : Below w.heap.size w w') => fair_any _ _ w' (hst.below h))
  have hst' := hst
  obtain ⟨a, cap, rfl, -, -, -, -⟩ := hst'
  obtain ⟨L, hL⟩ : ∃ L, l.length = L := ⟨_, rfl⟩
  have HL := Lib.hid hL
  rw [hL] at HST HF ⊢
  obtain ⟨fb, hfb⟩ : ∃ fb, fairB l = fb := ⟨_, rfl⟩
  have HFB := Lib.hid hfb
  rw [hfb] at HF
  have HN := Lib.hid hN
  have HN12 : Hid (1 ≤ N ∧ N ≤ 20) := ⟨hN1, hN2⟩
  clear hst hL hfb w0 w1 wy by_ hN1 hN2
  go_enter Try.func7, Try.ntmps7
  go_wp2_with fail
  refine (At.new N w w (Below.refl _ _) HN12.out.1 (by have := HN12.out; omega) (fun _ => False) (fun _ h => h.elim)).mono ?_
  rintro e w1 ⟨rb, rfl, a1, -⟩
  have A1 := Lib.hid a1
  clear a1
  go_wp2_with fail
  refine (HF.out w1 A1.out.bel).mono ?_
  rintro e w' ⟨rfl, hx⟩
  obtain rfl := hx.symm
  clear hx HF
  cases fb with
  | false =>
    go_wp2_with fail
    refine (HW.out _).mono ?_
    rintro e w2 ⟨rfl, hB⟩
    have HB2 : Hid (Below w.heap.size w w2) := A1.out.bel.trans (hB.mono A1.out.bel.size)
    clear hB
    go_wp2_with fail
    go_ret
    exact ⟨rfl, HB2.out⟩
  | true =>
  have HLF : Hid (L ≤ 200) := by
    have := HFB.out
    unfold fairB at this
    rw [Bool.and_eq_true, decide_eq_true_eq, HL.out] at this
    exact this.2
  clear HFB
  go_wp2_with fail
  obtain ⟨W1, hW1⟩ : ∃ W1, w1.alloc (.cells z20 60) = W1 := ⟨_, rfl⟩
  rw [hW1]
  have hB1 : Below w1.heap.size w1 W1 := by rw [← hW1]; exact (Below.refl _ _).alloc (Nat.le_refl _) _
  have A2 : Hid (At w W1 rb N (fun _ => zsec) (fun k => k = w1.heap.size)) := A1.out.below hB1 _ (fun k hk => .inr ⟨by omega, by rw [← hW1, hk]; simp⟩)
  have V2 : Hid (Warr W1 w1.heap.size (fun _ => 0)) := by rw [← hW1]; exact Warr.new w1
  have Z1 : Hid (w.heap.size ≤ w1.heap.size) := A1.out.bel.size
  clear hW1 hB1 A1
  go_loopw [9] (fun i wr => ∃ (k : Nat) (D : Nat → Sec) (want : Nat → Int), k ≤ L ∧ i = .int .i64 k ∧ Hid (At w wr rb N D (fun k => k = w1.heap.size)) ∧ Hid (Warr wr w1.heap.size want) ∧ Hid (∀ j, j < N → (D j).look = fillB (want j)) ∧ Hid (∀ j, j < N → (D j).vs.length ≤ k)) (fun i _ => L - (intOf i).toNat)
  case atStart => exact ⟨0, _, _, Nat.zero_le _, rfl, A2, V2, fun j _ => rfl, fun j _ => by simp [zsec]⟩
  case round =>
    obtain ⟨k, D, want, hk, rfl, A, V, E, F⟩ := hrel
    by_cases hlt : k < L
    · obtain ⟨s, hs⟩ : ∃ s, l[k]? = some s := ⟨_, List.getElem?_eq_getElem (by rw [HL.out]; exact hlt)⟩
      obtain ⟨b, off, rfl, c0, c1, c2⟩ : ∃ b off, a = some ⟨b, off, none⟩ ∧ (∀ x, Below w.heap.size w x → x.cell? ⟨b, off + k * 4, none⟩ = some (.int .i64 s.kind)) ∧ (∀ x, Below w.heap.size w x → x.cell? ⟨b, off + k * 4 + 1, none⟩ = some (.int .i64 s.i)) ∧ (∀ x, Below w.heap.size w x → x.cell? ⟨b, off + k * 4 + 2, none⟩ = some (.int .u8 s.v)) := by
        obtain ⟨a', cap', e, _, _, _, h4⟩ := HST.out
        simp only [Value.slice.injEq] at e
        obtain ⟨rfl, _, rfl⟩ := e
        rcases h4 with e | ⟨b, off, rfl, h5, h6⟩
        · have := HL.out; rw [e] at this; simp at this; omega
        · have h7 := h6 k s hs
          exact ⟨b, off, rfl, fun x hx => (hx.cell (p := ⟨b, off + k * 4, none⟩) h5).trans h7.c0, fun x hx => (hx.cell (p := ⟨b, off + k * 4 + 1, none⟩) h5).trans h7.c1, fun x hx => (hx.cell (p := ⟨b, off + k * 4 + 2, none⟩) h5).trans h7.c2⟩
      obtain ⟨kind, hkind⟩ : ∃ q, s.kind = q := ⟨_, rfl⟩
      obtain ⟨si, hsi⟩ : ∃ q, s.i = q := ⟨_, rfl⟩
      obtain ⟨z, hz⟩ : ∃ q, s.v = q := ⟨_, rfl⟩
      rw [hkind] at c0
      rw [hsi] at c1
      rw [hz] at c2
      obtain ⟨K, hK⟩ : ∃ K : Nat, modI si (N : Int) = (K : Int) := ⟨(modI si N).toNat, by have := (modI_bd (k := si) (n := (N : Int)) (by have := HN12.out; omega)).1; omega⟩
      have HKN : Hid (K < N) := by have := (modI_bd (k := si) (n := (N : Int)) (by have := HN12.out; omega)).2; show _ < _; omega
      have HM : Hid (∀ w : World, Calls Try.prog 26 #[.int .i64 si, .int .i64 (N : Int)] w fun e w' => e = .returned (.int .i64 (K : Int)) ∧ w' = w) := by
        intro w
        have := mod_any si (N : Int) w (by have := HN12.out; omega)
        rw [hK] at this
        exact this
      have C0 := Lib.hid c0
      have C1 := Lib.hid c1
      have C2 := Lib.hid c2
      have d0 := c0 wr A.out.bel
      have d1 := c1 wr A.out.bel
      have g1 : (k : Int) < (L : Int) := by omega
      have HLT := Lib.hid hlt
      have HWR : Hid (wrap64 ((k : Int) + 1) = (k : Int) + 1) := IntWalk.wrap64_in _ (by have := HLF.out; omega)
      clear c0 c1 c2 hs hkind hsi hz hK hlt hk
      by_cases hk2 : kind = 2
      · subst hk2
        go_wp2_with fail
        refine (HM.out _).mono ?_
        rintro e w' ⟨rfl, hx⟩
        obtain rfl := hx.symm
        go_wp2_with fail
        refine A.out.flush.mono ?_
        rintro e x1 ⟨rfl, a0, hown⟩
        have B1 := Lib.hid a0
        have V1 : Hid (Warr x1 w1.heap.size want) := V.out.same (hown _ rfl)
        have E1 : Hid (∀ j, j < N → (settled D (fun j => (D j).vs.length) (looseTo D N) j).look = fillB (want j)) := fun j hj => (flushed_look D N j hj).trans (E.out j hj)
        have F1 : Hid (∀ j, j < N → (settled D (fun j => (D j).vs.length) (looseTo D N) j).vs.length ≤ k + 1) := fun j hj => Nat.le_trans (flushed_few D N j) (Nat.le_succ_of_le (F.out j hj))
        clear a0 hown A V E F
        go_wp2_with fail
        refine ⟨?_, next_lt HWR.out HLT.out⟩
        obtain ⟨k', q1, q2, q3⟩ := next_rel (C := fun k' => k' = k + 1) HWR.out HLT.out rfl
        exact ⟨k', _, want, q1, q2, B1, V1, E1, by rw [q3]; exact F1⟩
      · have g2 : (kind == 2) = false := by simpa using hk2
        clear hk2
        go_wp2_with fail
        refine (HM.out _).mono ?_
        rintro e w' ⟨rfl, hx⟩
        obtain rfl := hx.symm
        have d2 := C2.out wr A.out.bel
        go_wp2_with fail
        refine (fill_any z _).mono ?_
        rintro e x1 ⟨rfl, hb⟩
        have B1 := Lib.hid (A.out.beside hb)
        have V1 : Hid (Warr x1 w1.heap.size want) := V.out.same (hb.block _ (by obtain ⟨f, q1, q2, q3, q4, q5⟩ := A.out; exact q3 _ rfl))
        have hk20 : K < 20 := by have := HKN.out; have := HN12.out; omega
        obtain ⟨X2, hX2⟩ : ∃ X2, x1.setCells w1.heap.size (K * 64) (fillB z) = X2 := ⟨_, rfl⟩
        have s1 := V1.out.store hk20 z
        rw [hX2] at s1
        have V2 : Hid (Warr X2 w1.heap.size (upd want K z)) := by rw [← hX2]; exact V1.out.set hk20 z
        have B2 : Hid (At w X2 rb N D (fun k => k = w1.heap.size)) := by
          rw [← hX2]
          exact B1.out.own rfl Z1.out _ (below_setCells (Nat.le_refl _) _ _ _) (fun j hj => by
            rcases Nat.lt_or_ge j x1.heap.size with h | h
            · exact World.heap_setCells_other x1 _ _ _ h hj
            · rw [Array.getElem?_eq_none h, Array.getElem?_eq_none (by rw [size_setCells]; exact h)]) (size_setCells _ _ _ _)
        have l2 := V2.out.load hk20
        rw [upd_same] at l2
        have g3 : (K : Int) < 20 := by omega
        clear hb A V hk20 hX2 B1 V1
        go_wp2_with fail
        have hKf : (D K).vs.length ≤ 255 := by have := F.out K HKN.out; have := HLT.out; have := HLF.out; omega
        go_at_call 12
        refine (B2.out.write HKN.out (isBlk_fill z) hKf).mono ?_
        rintro e x3 ⟨rfl, a0, hown⟩
        have B3 := Lib.hid a0
        have V3 : Hid (Warr x3 w1.heap.size (upd want K z)) := V2.out.same (hown _ rfl)
        have L3 : Hid ((upd D K ((D K).add (fillB z)) K).look = fillB z) := by show _ = _; rw [upd_same]; exact add_look _ _ hKf
        have E3 : Hid (∀ j, j < N → (upd D K ((D K).add (fillB z)) j).look = fillB (upd want K z j)) := fun j hj => by
          by_cases e : j = K
          · subst e; rw [upd_same, upd_same]; exact add_look _ _ hKf
          · rw [upd_other _ _ e, upd_other _ _ e]; exact E.out j hj
        have F3 : Hid (∀ j, j < N → (upd D K ((D K).add (fillB z)) j).vs.length ≤ k + 1) := fun j hj => by
          by_cases e : j = K
          · subst e; rw [upd_same, add_more _ _ hKf]; have := F.out j hj; omega
          · rw [upd_other _ _ e]; exact Nat.le_succ_of_le (F.out j hj)
        clear a0 hown E F B2 V2 l2 s1 hKf
        obtain ⟨D', hD'⟩ : ∃ D', upd D K ((D K).add (fillB z)) = D' := ⟨_, rfl⟩
        obtain ⟨want', hwant'⟩ : ∃ want', upd want K z = want' := ⟨_, rfl⟩
        have HWK : Hid (want' K = z) := by rw [← hwant']; exact upd_same _ _ _
        rw [hD'] at B3 L3 E3 F3
        rw [hwant'] at V3 E3
        clear hD' hwant'
        go_wp2_with fail
        go_at_call 16
        refine (B3.out.read HKN.out).mono ?_
        rintro e x4 ⟨rfl, hb⟩
        rw [L3.out]
        have hb4 := Lib.hid hb
        clear hb
        go_wp2_with fail
        obtain ⟨X, hX⟩ : ∃ X, x4.alloc (.cells (fillB z).toArray 37) = X := ⟨_, rfl⟩
        rw [hX]
        have hBX : Below x3.heap.size x3 X := by rw [← hX]; exact hb4.out.alloc hb4.out.size _
        have B4 := Lib.hid (B3.out.beside hBX)
        have V4 : Hid (Warr X w1.heap.size want') := V3.out.same (hBX.block _ (by obtain ⟨f, q1, q2, q3, q4, q5⟩ := B3.out; exact q3 _ rfl))
        have kX : X.heap[x4.heap.size]? = some (.cells (fillB z).toArray 37 (0, 0)) := by rw [← hX]; exact heap_alloc_new x4 _
        have hk20 : K < 20 := by have := HKN.out; have := HN12.out; omega
        have hsz : w1.heap.size < X.heap.size := by obtain ⟨f, q1, q2, q3, q4, q5⟩ := B4.out; exact q3 _ rfl
        have r1 : ∀ x : Ext X, (loadVar 37 ⟨x4.heap.size, 0, none⟩).run Try.prog x.1 = .ok (.agg (fillB z).toArray) x.1 := fun x => load_at ((x.2.block _ (Array.getElem?_eq_some_iff.1 kX).1).trans kX) (isBlk_fill _)
        have r2 : ∀ x : Ext X, (loadVar 37 ⟨w1.heap.size, K * 64, none⟩).run Try.prog x.1 = .ok (.agg (fillB z).toArray) x.1 := fun x => by
          have := (V4.out.same (x.2.block _ hsz)).load hk20
          rwa [HWK.out] at this
        have g5 : (0 : Int) ≤ (K : Int) := by omega
        clear hX hBX kX B3 V3 hb4 hsz hk20
        refine region_ext (by kernel_rfl) (by kernel_rfl) ?_
        repeat (go_big_quiet_step (fail))
        refine wpQuiet_nil ?_
        intro x
        go_wp2_with fail
        refine ⟨?_, next_lt HWR.out HLT.out⟩
        obtain ⟨k', q1, q2, q3⟩ := next_rel (C := fun k' => k' = k + 1) HWR.out HLT.out rfl
        exact ⟨k', D', want', q1, q2, B4.out.beside x.2, V4.out.same (x.2.block _ (by obtain ⟨f, q1, q2, q3, q4, q5⟩ := B4.out; exact q3 _ rfl)), E3, by rw [q3]; exact F3⟩
    · obtain rfl : k = L := by omega
      have g1 : ¬ (k : Int) < (k : Int) := by omega
      clear hk hlt
      clear HST
      go_wp2_with fail
      go_loopw [13] (fun i wr => ∃ j : Nat, j ≤ N ∧ i = .int .i64 j ∧ Hid (At w wr rb N D (fun k => k = w1.heap.size)) ∧ Hid (Warr wr w1.heap.size want)) (fun i _ => N - (intOf i).toNat)
      case atStart => exact ⟨0, Nat.zero_le _, rfl, A, V⟩
      case round =>
        obtain ⟨j, hj, rfl, A, V⟩ := hrel
        by_cases hlt : j < N
        · have g2 : (j : Int) < (N : Int) := by omega
          have g5 : (0 : Int) ≤ (j : Int) := by omega
          have g6 : (j : Int) < 20 := by have := HN12.out; omega
          have HLT := Lib.hid hlt
          have HWR : Hid (wrap64 ((j : Int) + 1) = (j : Int) + 1) := IntWalk.wrap64_in _ (by have := HN12.out; omega)
          obtain ⟨z, hz⟩ : ∃ z, want j = z := ⟨_, rfl⟩
          have HZ := Lib.hid hz
          clear hlt hj hz
          go_wp2_with fail
          go_at_call 16
          refine (A.out.read HLT.out).mono ?_
          rintro e x4 ⟨rfl, hb⟩
          rw [E.out j HLT.out, HZ.out]
          have hb4 := Lib.hid hb
          clear hb
          go_wp2_with fail
          obtain ⟨X, hX⟩ : ∃ X, x4.alloc (.cells (fillB z).toArray 37) = X := ⟨_, rfl⟩
          rw [hX]
          have hBX : Below wr.heap.size wr X := by rw [← hX]; exact hb4.out.alloc hb4.out.size _
          have B4 := Lib.hid (A.out.beside hBX)
          have V4 : Hid (Warr X w1.heap.size want) := V.out.same (hBX.block _ (by obtain ⟨f, q1, q2, q3, q4, q5⟩ := A.out; exact q3 _ rfl))
          have kX : X.heap[x4.heap.size]? = some (.cells (fillB z).toArray 37 (0, 0)) := by rw [← hX]; exact heap_alloc_new x4 _
          have hsz : w1.heap.size < X.heap.size := by obtain ⟨f, q1, q2, q3, q4, q5⟩ := B4.out; exact q3 _ rfl
          have r1 : ∀ x : Ext X, (loadVar 37 ⟨x4.heap.size, 0, none⟩).run Try.prog x.1 = .ok (.agg (fillB z).toArray) x.1 := fun x => load_at ((x.2.block _ (Array.getElem?_eq_some_iff.1 kX).1).trans kX) (isBlk_fill _)
          have r2 : ∀ x : Ext X, (loadVar 37 ⟨w1.heap.size, j * 64, none⟩).run Try.prog x.1 = .ok (.agg (fillB z).toArray) x.1 := fun x => by
            have := (V4.out.same (x.2.block _ hsz)).load (k := j) (by have := HLT.out; have := HN12.out; omega)
            rwa [HZ.out] at this
          clear hX hBX kX hb4 hsz A V
          refine region_ext (by kernel_rfl) (by kernel_rfl) ?_
          repeat (go_big_quiet_step (fail))
          refine wpQuiet_nil ?_
          intro x
          go_wp2_with fail
          exact ⟨⟨j + 1, HLT.out, by simp, B4.out.beside x.2, V4.out.same (x.2.block _ (by obtain ⟨f, q1, q2, q3, q4, q5⟩ := B4.out; exact q3 _ rfl))⟩, by have := HLT.out; simp [intOf]; omega⟩
        · obtain rfl : j = N := by omega
          have g2 : ¬ (j : Int) < (j : Int) := by omega
          clear hj hlt
          go_wp2_with fail
          go_at_call 9
          refine (HW.out _).mono ?_
          rintro e w2 ⟨rfl, hB⟩
          have HB2 : Hid (Below w.heap.size w w2) := A.out.bel.trans (hB.mono A.out.bel.size)
          clear hB
          go_wp2_with fail
          go_ret
          exact ⟨rfl, HB2.out⟩

set_option maxRecDepth 100000 in
theorem lifted (os : Os) (started : os.Started) (H : Type) (enc : TypeId × Value → H) :
    ReturnsInHanded {} Try.checked os 7 .any (Rows.diskReadsSpec.pre6 enc Try.prog Try.f7 Rows.diskReadsRow.domain false) (Rows.diskReadsSpec.post enc Try.prog Try.f7 false true false false) := by
  refine returnsInHanded_of_change (C := Try.checked) own started (by kernel_rfl) Try.func7
    (ChangeSpec.witness6 (enc := enc) (C := Try.checked) false ⟨#[], #[.slice none 0 0, .int .u8 0], []⟩ 8 (by kernel_rfl) (by kernel_rfl) (by kernel_rfl) (by kernel_rfl)) ?_
  intro W base args ds gs before hval0 hW hcnd _
  have hval : ∀ (j : Nat) t v, Try.f7.params[j]? = some t → args[j]? = some v → Value.okWide Try.prog W .any base t v := hval0
  have hW' := hW
  obtain ⟨p, q, hA0, hV, rfl, hfz, hnd⟩ := hW
  have hA : DataW.TrodAll enc Try.prog W 0 (fun _ => true) true Try.f7.params.toList args.toList ds p := hA0
  rw [Try.params7] at hA hval
  obtain ⟨v0, vs0, d0, ds0, p0, q0, hargs, rfl, rfl, h0, r0⟩ := trodAll_cons hA
  obtain ⟨v1, vs1, d1, ds1, p1, q1, rfl, rfl, rfl, h1, r1⟩ := trodAll_cons r0
  obtain ⟨rfl, rfl, rfl⟩ := trodAll_nil r1
  obtain rfl : args = #[v0, v1] := by cases args; simp_all
  obtain ⟨rfl, rfl⟩ := trodVars_none hV
  have lt0 : ∀ x ∈ p0, x.block < W.heap.size := by obtain ⟨m, hm⟩ := h0; exact DataW.trod_lt m _ _ _ hm
  have a0 := Arg.mk (hval 0 22 v0 rfl rfl) h0
  have lt1 : ∀ x ∈ p1, x.block < W.heap.size := by obtain ⟨m, hm⟩ := h1; exact DataW.trod_lt m _ _ _ hm
  have a1 := Arg.mk (hval 1 5 v1 rfl rfl) h1
  clear hA0 hval0
  refine (walk v0 v1 W a0 a1).mono fun e W' ⟨he, bel⟩ => ?_
  subst he
  exact ⟨_, rfl, _, _, _, [], _, [], hW', trodAll_mk1 (shut_bool Try.underlying4 _), (trodAll_cons_mk (Below.trod laidOut (by kernel_rfl) (of_decide_eq_true (by kernel_rfl)) h0 bel lt0) (trodAll_cons_mk (Below.trod laidOut (by kernel_rfl) (of_decide_eq_true (by kernel_rfl)) h1 bel lt1) trodAll_mk0)), rfl, bel.frame _, fun h => by cases h⟩

theorem over : Rows.diskReadsRow.holds Try.pinned (OpenSpec.ofChange Rows.diskReadsSpec) :=
  OpenClaim.holds_of_wide 7 Try.f7 rfl rfl rfl rfl rfl rfl rfl ⟨rfl, rfl, rfl, rfl, rfl⟩ rfl rfl rfl rfl rfl (by kernel_rfl) Try.func7 (by kernel_rfl)
    (of_decide_eq_true (by kernel_rfl)) (by unfold Func.isWrapper; first | (rw [if_pos (by decide +kernel)]; kernel_rfl) | (rw [if_neg (by decide +kernel)]; exact ⟨rfl, rfl⟩))
    (fun os started H enc _ => lifted os started H enc)

theorem proved : Rows.DiskReadsSaid := over
#print axioms proved
end Go.Proofs.Ytagieoomekmjcaa.diskReads
