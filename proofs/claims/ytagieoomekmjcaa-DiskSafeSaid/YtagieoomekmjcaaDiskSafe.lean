/- Whatever the steps and the picks, DiskSafe returns true and leaves its arguments as they were; no conditions. -/
import Derived.Test.YtagieoomekmjcaaBytes
import Derived.Test.YtagieoomekmjcaaMod
import Derived.Test.YtagieoomekmjcaaSafe
import Derived.Test.YtagieoomekmjcaaSteps
import Derived.Test.YtagieoomekmjcaaQuiet
import Derived.Test.YtagieoomekmjcaaDWakes
namespace Go.Proofs.Ytagieoomekmjcaa.diskSafe
open Go.ChangeShapes Go.WideShapes Go.ChangeAt Go.RowKit
set_option linter.unusedVariables false
attribute [-simp] Try.isAgg37 Try.zeroValue37
attribute [-go_sem] loadVar storeVar
attribute [local go_sem] zero_blk build_blk loadVar_open storeVar_open store_fill eq_fill eq_fill_z

set_option maxRecDepth 100000 in
set_option maxHeartbeats 8000000 in
theorem walk (v0 v1 v2 : Value) (w : World) (w0 : Arg w 22 v0) (w1 : Arg w 22 v1) (w2 : Arg w 32 v2) :
    Calls Try.prog 4 #[v0, v1, v2] w fun e w' => e = .returned (.bool true) ∧ Below w.heap.size w w' := by
  obtain ⟨l, hst⟩ := w0.steps
  obtain ⟨m, hst2⟩ := w1.steps
  obtain ⟨a2, L2, cap2, bs, rfl, hlen2, hmax2, hs2, hb2⟩ := w2.bytes Try.underlying32 Try.underlying5 (by kernel_rfl)
  have HW := Lib.hid (wakes_any)
  have HF := Lib.hid (fun w' (h : Below w.heap.size w w') => fair_any _ _ w' (hst.below h))
  have HG := Lib.hid (fun w' (h : Below w.heap.size w w') => fair_any _ _ w' (hst2.below h))
  have HST := Lib.hid hst
  have HST2 := Lib.hid hst2
  have HS2 := Lib.hid hs2
  have HB2 := Lib.hid hb2
  have HL2 := Lib.hid hlen2
  have HM2 := Lib.hid hmax2
  obtain ⟨a, cap, rfl, -, -, -, -⟩ := hst
  obtain ⟨a1, cap1, rfl, -, -, -, -⟩ := hst2
  obtain ⟨L, hL⟩ : ∃ L, l.length = L := ⟨_, rfl⟩
  obtain ⟨M, hM⟩ : ∃ M, m.length = M := ⟨_, rfl⟩
  have HL := Lib.hid hL
  have HM := Lib.hid hM
  rw [hL] at HST HF ⊢
  rw [hM] at HST2 HG ⊢
  obtain ⟨fb, hfb⟩ : ∃ fb, fairB l = fb := ⟨_, rfl⟩
  obtain ⟨gb, hgb⟩ : ∃ gb, fairB m = gb := ⟨_, rfl⟩
  have HFB := Lib.hid hfb
  have HGB := Lib.hid hgb
  rw [hfb] at HF
  rw [hgb] at HG
  clear hL hM hfb hgb hlen2 hmax2 hs2 hb2 w0 w1 w2
  go_enter Try.func4, Try.ntmps4
  go_wp2_with fail
  go_at_call 10
  refine (At.new 6 w w (Below.refl _ _) (by omega) (by omega) (fun _ => False) (fun _ h => h.elim)).mono ?_
  rintro e w1 ⟨rb, rfl, a0, -⟩
  have A1 := Lib.hid a0
  clear a0
  go_wp2_with fail
  go_at_call 8
  refine (HF.out w1 A1.out.bel).mono ?_
  rintro e w' ⟨rfl, hx⟩
  obtain rfl := hx.symm
  clear hx HF
  by_cases hgo : ¬ (fb = true ∧ gb = true ∧ L2 ≤ 300)
  · have hq : fb = false ∨ (fb = true ∧ gb = false) ∨ (fb = true ∧ gb = true ∧ (300 : Int) < (L2 : Int)) := by
      cases fb with
      | false => exact .inl rfl
      | true => cases gb with
        | false => exact .inr (.inl ⟨rfl, rfl⟩)
        | true => refine .inr (.inr ⟨rfl, rfl, ?_⟩); simp at hgo; omega
    clear hgo
    rcases hq with rfl | ⟨rfl, rfl⟩ | ⟨rfl, rfl, q⟩
    · go_wp2_with fail
      go_at_call 9
      refine (HW.out _).mono ?_
      rintro e w2 ⟨rfl, hB⟩
      have HB2 : Hid (Below w.heap.size w w2) := A1.out.bel.trans (hB.mono A1.out.bel.size)
      clear hB
      go_wp2_with fail
      go_ret
      exact ⟨rfl, HB2.out⟩
    all_goals
      go_wp2_with fail
      go_at_call 8
      refine (HG.out w1 A1.out.bel).mono ?_
      rintro e w' ⟨rfl, hx⟩
      obtain rfl := hx.symm
      clear hx HG
      go_wp2_with fail
      go_at_call 9
      refine (HW.out _).mono ?_
      rintro e w2 ⟨rfl, hB⟩
      have HB2 : Hid (Below w.heap.size w w2) := A1.out.bel.trans (hB.mono A1.out.bel.size)
      clear hB
      go_wp2_with fail
      go_ret
      exact ⟨rfl, HB2.out⟩
  obtain ⟨rfl, rfl, hL2⟩ := Classical.not_not.1 hgo
  clear hgo
  have HLF : Hid (L ≤ 200) := by
    have := HFB.out
    unfold fairB at this
    rw [Bool.and_eq_true, decide_eq_true_eq, HL.out] at this
    exact this.2
  have HMF : Hid (M ≤ 200) := by
    have := HGB.out
    unfold fairB at this
    rw [Bool.and_eq_true, decide_eq_true_eq, HM.out] at this
    exact this.2
  have q2 : ¬ (300 : Int) < (L2 : Int) := by omega
  have q3 : decide ((300 : Int) < (L2 : Int)) = false := by simpa using q2
  have HL300 := Lib.hid hL2
  clear HFB HGB hL2
  go_wp2_with fail
  go_at_call 8
  refine (HG.out w1 A1.out.bel).mono ?_
  rintro e w' ⟨rfl, hx⟩
  obtain rfl := hx.symm
  clear hx HG
  go_wp2_with fail
  obtain ⟨W1, hW1⟩ : ∃ W1, w1.alloc (.cells #[.int .u8 0, .int .u8 0, .int .u8 0, .int .u8 0, .int .u8 0, .int .u8 0] 55) = W1 := ⟨_, rfl⟩
  rw [hW1]
  have hB1 : Below w1.heap.size w1 W1 := by rw [← hW1]; exact (Below.refl _ _).alloc (Nat.le_refl _) _
  have A2 : Hid (At w W1 rb 6 (fun _ => zsec) (fun k => k = w1.heap.size)) := A1.out.below hB1 _ (fun k hk => .inr ⟨by omega, by rw [← hW1, hk]; simp⟩)
  have V2 : Hid (Six W1 w1.heap.size (fun _ => 0)) := by rw [← hW1]; exact Six.new w1 _
  have Z1 : Hid (w.heap.size ≤ w1.heap.size) := A1.out.bel.size
  clear hW1 hB1 A1 q2 q3
  go_loopw [10] (fun i wr => ∃ (k : Nat) (D : Nat → Sec) (was : Nat → Int), k ≤ L ∧ i = .int .i64 k ∧ Hid (At w wr rb 6 D (fun k => k = w1.heap.size)) ∧ Hid (Six wr w1.heap.size was) ∧ Hid (∀ j, j < 6 → (D j).look = fillB (was j)) ∧ Hid (∀ j, j < 6 → (D j).vs.length ≤ k)) (fun i _ => L - (intOf i).toNat)
  case atStart => exact ⟨0, _, _, Nat.zero_le _, rfl, A2, V2, fun j _ => rfl, fun j _ => by simp [zsec]⟩
  case round =>
    obtain ⟨k, D, was, hk, rfl, A, V, E, F⟩ := hrel
    by_cases hlt : k < L
    · obtain ⟨s, hs⟩ : ∃ s, l[k]? = some s := ⟨_, List.getElem?_eq_getElem (by rw [HL.out]; exact hlt)⟩
      obtain ⟨b, off, rfl, hok, c0, c1, c2, c3⟩ := HST.out.open HL.out hs
      obtain ⟨si, hsi⟩ : ∃ q, s.i = q := ⟨_, rfl⟩
      obtain ⟨z, hz⟩ : ∃ q, s.v = q := ⟨_, rfl⟩
      rw [hsi] at c1
      rw [hz] at c2
      obtain ⟨K, hK⟩ : ∃ K : Nat, modI si 6 = (K : Int) := ⟨(modI si 6).toNat, by have := (modI_bd (k := si) (n := 6) (by omega)).1; omega⟩
      have HKN : Hid (K < 6) := by have := (modI_bd (k := si) (n := 6) (by omega)).2; show _ < _; omega
      have HMO : Hid (∀ w : World, Calls Try.prog 26 #[.int .i64 si, .int .i64 6] w fun e w' => e = .returned (.int .i64 (K : Int)) ∧ w' = w) := by
        intro w
        have := mod_any si 6 w (by omega)
        rw [hK] at this
        exact this
      have C2 := Lib.hid c2
      have d1 := c1 wr A.out.bel
      have d2 := c2 wr A.out.bel
      have g1 : (k : Int) < (L : Int) := by omega
      have HLT := Lib.hid hlt
      have HWR : Hid (wrap64 ((k : Int) + 1) = (k : Int) + 1) := IntWalk.wrap64_in _ (by have := HLF.out; omega)
      clear c0 c1 c2 c3 hs hok hsi hz hK hlt hk
      go_wp2_with fail
      go_at_call 26
      refine (HMO.out _).mono ?_
      rintro e w' ⟨rfl, hx⟩
      obtain rfl := hx.symm
      clear hx
      go_wp2_with fail
      go_at_call 13
      refine (fill_any z _).mono ?_
      rintro e x1 ⟨rfl, hb⟩
      have B1 := Lib.hid (A.out.beside hb)
      have V1 : Hid (Six x1 w1.heap.size was) := V.out.same (hb.block _ (A.out.lt rfl))
      have hKf : (D K).vs.length ≤ 255 := by have := F.out K HKN.out; have := HLT.out; have := HLF.out; omega
      clear hb A V d1 d2
      go_wp2_with fail
      go_at_call 12
      refine (B1.out.write HKN.out (isBlk_fill z) hKf).mono ?_
      rintro e x3 ⟨rfl, a0, hown⟩
      have B3 := Lib.hid a0
      have V3 : Hid (Six x3 w1.heap.size was) := V1.out.same (hown _ rfl)
      have E3 : Hid (∀ j, j < 6 → (upd D K ((D K).add (fillB z)) j).look = fillB (upd was K z j)) := fun j hj => by
        by_cases e : j = K
        · subst e; rw [upd_same, upd_same]; exact add_look _ _ hKf
        · rw [upd_other _ _ e, upd_other _ _ e]; exact E.out j hj
      have F3 : Hid (∀ j, j < 6 → (upd D K ((D K).add (fillB z)) j).vs.length ≤ k + 1) := fun j hj => by
        by_cases e : j = K
        · subst e; rw [upd_same, add_more _ _ hKf]; have := F.out j hj; omega
        · rw [upd_other _ _ e]; exact Nat.le_succ_of_le (F.out j hj)
      have d2 := C2.out x3 B3.out.bel
      have s1 := V3.out.1 K HKN.out
      have s2 := V3.out.2 K
      have g3 : (K : Int) < 6 := by have := HKN.out; omega
      clear a0 hown B1 V1 E F hKf
      go_wp2_with fail
      refine ⟨?_, next_lt HWR.out HLT.out⟩
      obtain ⟨k', q1, q2, q3⟩ := next_rel (C := fun k' => k' = k + 1) HWR.out HLT.out rfl
      exact ⟨k', _, _, q1, q2, B3.out.setCell rfl Z1.out _, V3.out.set HKN.out z, E3, by rw [q3]; exact F3⟩
    · obtain rfl : k = L := by omega
      have g1 : ¬ (k : Int) < (k : Int) := by omega
      clear hk hlt HST A2 V2
      go_wp2_with fail
      go_at_call 18
      refine A.out.flush.mono ?_
      rintro e x1 ⟨rfl, a0, hown⟩
      obtain ⟨D2, hD2⟩ : ∃ D2, settled D (fun j => (D j).vs.length) (looseTo D 6) = D2 := ⟨_, rfl⟩
      have N2 : Hid (∀ j, j < 6 → (D2 j).vs = []) := fun j hj => by rw [← hD2]; exact flushed_none D 6 j hj
      have E2 : Hid (∀ j, j < 6 → (D2 j).c = fillB (was j)) := fun j hj => by rw [← hD2, flushed_c D 6 j hj]; exact E.out j hj
      rw [hD2] at a0
      have B1 := Lib.hid a0
      have V1 : Hid (Six x1 w1.heap.size was) := V.out.same (hown _ rfl)
      clear a0 hown A V E F hD2
      go_wp2_with fail
      go_at_call 23
      refine B1.out.loose.mono ?_
      rintro e x2 ⟨lv, rfl, -, hb, hnil⟩
      obtain rfl := hnil (tight_of N2.out)
      have B2 := Lib.hid (B1.out.beside hb)
      have V2 : Hid (Six x2 w1.heap.size was) := V1.out.same (hb.block _ (B1.out.lt rfl))
      clear hb hnil B1 V1
      go_wp2_with fail
      go_loopw [12] (fun i wr => ∃ (r : Nat) (D : Nat → Sec), r ≤ M ∧ i = .int .i64 r ∧ Hid (At w wr rb 6 D (fun k => k = w1.heap.size)) ∧ Hid (Six wr w1.heap.size was) ∧ Hid (∀ j, j < 6 → (D j).c = fillB (was j)) ∧ Hid (∀ j, j < 6 → (D j).vs.length ≤ r) ∧
          Hid (∀ j, j < 6 → ∀ u ∈ (D j).vs, ∃ (r' : Nat) (s : St), m[r']? = some s ∧ modI s.i 6 = (j : Int) ∧ u = fillB s.v)) (fun i _ => M - (intOf i).toNat)
      case atStart => exact ⟨0, D2, Nat.zero_le _, rfl, B2, V2, E2, fun j hj => by rw [N2.out j hj]; simp, fun j hj u hu => by rw [N2.out j hj] at hu; cases hu⟩
      case round =>
        obtain ⟨r, D, hr, rfl, A, V, E, F, G⟩ := hrel
        by_cases hlt : r < M
        · obtain ⟨s, hs⟩ : ∃ s, m[r]? = some s := ⟨_, List.getElem?_eq_getElem (by rw [HM.out]; exact hlt)⟩
          obtain ⟨b, off, rfl, hok, c0, c1, c2, c3⟩ := HST2.out.open HM.out hs
          have HSS := Lib.hid hs
          obtain ⟨K, hK⟩ : ∃ K : Nat, modI s.i 6 = (K : Int) := ⟨(modI s.i 6).toNat, by have := (modI_bd (k := s.i) (n := 6) (by omega)).1; omega⟩
          have HKN : Hid (K < 6) := by have := (modI_bd (k := s.i) (n := 6) (by omega)).2; show _ < _; omega
          have HKE := Lib.hid hK
          obtain ⟨si, hsi⟩ : ∃ q, s.i = q := ⟨_, rfl⟩
          obtain ⟨z, hz⟩ : ∃ q, s.v = q := ⟨_, rfl⟩
          have HZ := Lib.hid hz
          rw [hsi] at c1 hK
          rw [hz] at c2
          have HMO : Hid (∀ w : World, Calls Try.prog 26 #[.int .i64 si, .int .i64 6] w fun e w' => e = .returned (.int .i64 (K : Int)) ∧ w' = w) := by
            intro w
            have := mod_any si 6 w (by omega)
            rw [hK] at this
            exact this
          have hBel := A.out.bel
          have d1 : ∀ x : Ext wr, x.1.cell? ⟨b, off + r * 4 + 1, none⟩ = some (.int .i64 si) := fun x => c1 x.1 (hBel.trans (x.2.mono hBel.size))
          have d2 : ∀ x : Ext wr, x.1.cell? ⟨b, off + r * 4 + 2, none⟩ = some (.int .u8 z) := fun x => c2 x.1 (hBel.trans (x.2.mono hBel.size))
          have g1 : (r : Int) < (M : Int) := by omega
          have g0 : (0 : Int) ≤ (r : Int) := by omega
          have HLT := Lib.hid hlt
          have HWR : Hid (wrap64 ((r : Int) + 1) = (r : Int) + 1) := IntWalk.wrap64_in _ (by have := HMF.out; omega)
          have hKf : Hid ((D K).vs.length ≤ 255) := by have := F.out K HKN.out; have := HLT.out; have := HMF.out; show _ ≤ _; omega
          have hmx : Try.prog.follows .mixedOrders = true := by kernel_rfl
          clear c0 c1 c2 c3 hs hok hsi hz hK hlt hr hBel
          go_wp2_with fail
          refine region_plan (fun x => ∃ y : Ext wr, x = y.1) 13 (.takes [0, 1, 2, 3, 4, 5, 7, 8, 9, 10, 11] (.one 6 (.one 12 .leaf))) hmx (by kernel_rfl) (by intro c x v a w h; cases x <;> exact h) ⟨⟨wr.drew, (Below.refl _ wr).drew⟩, rfl⟩ ?_
          repeat (rw [wpPlan_takes_cons]; simp only [nth_zero, nth_succ]; go_big_quiet_step (fail); refine wpQuiet_nil ?_)
          rw [wpPlan_takes_nil, wpPlan_one]
          simp only [nth_zero, nth_succ]
          go_wp2_with fail
          go_at_call 26
          refine (HMO.out _).mono ?_
          rintro e w' ⟨rfl, hx⟩
          obtain rfl := hx.symm
          clear hx
          go_wp2_with fail
          refine planPost_mk ⟨⟨wr.drew, (Below.refl _ wr).drew⟩, rfl⟩ ?_
          rw [wpPlan_one]
          simp only [nth_zero, nth_succ]
          go_wp2_with fail
          go_at_call 13
          refine (fill_any z _).mono ?_
          rintro e y1 ⟨rfl, hb⟩
          have hb' : Below wr.heap.size wr y1 := (Below.refl _ wr).drew.trans hb
          have B1 := Lib.hid (A.out.beside hb')
          have V1 : Hid (Six y1 w1.heap.size was) := V.out.same (hb'.block _ (A.out.lt rfl))
          have HY1 := Lib.hid hb'
          clear hb hb' A V d1 d2
          go_wp2_with fail
          refine planPost_mk ⟨⟨y1, HY1.out⟩, rfl⟩ ?_
          rw [wpPlan_leaf]
          simp only [List.drop_succ_cons, List.drop_zero]
          go_wp2_with fail
          go_at_call 12
          refine (B1.out.write HKN.out (isBlk_fill z) hKf.out).mono ?_
          rintro e y2 ⟨rfl, a0, hown⟩
          have B3 := Lib.hid a0
          have V3 : Hid (Six y2 w1.heap.size was) := V1.out.same (hown _ rfl)
          have hadd : (D K).add (fillB z) = ⟨(D K).c, (D K).vs ++ [fillB z]⟩ := by unfold Sec.add; rw [if_neg (by have := hKf.out; omega)]
          have E3 : Hid (∀ j, j < 6 → (upd D K ((D K).add (fillB z)) j).c = fillB (was j)) := fun j hj => by
            by_cases e : j = K
            · subst e; rw [upd_same, hadd]; exact E.out j hj
            · rw [upd_other _ _ e]; exact E.out j hj
          have F3 : Hid (∀ j, j < 6 → (upd D K ((D K).add (fillB z)) j).vs.length ≤ r + 1) := fun j hj => by
            by_cases e : j = K
            · subst e; rw [upd_same, add_more _ _ hKf.out]; have := F.out j hj; omega
            · rw [upd_other _ _ e]; exact Nat.le_succ_of_le (F.out j hj)
          have G3 : Hid (∀ j, j < 6 → ∀ u ∈ (upd D K ((D K).add (fillB z)) j).vs, ∃ (r' : Nat) (s : St), m[r']? = some s ∧ modI s.i 6 = (j : Int) ∧ u = fillB s.v) := fun j hj u hu => by
            by_cases e : j = K
            · subst e
              rw [upd_same, hadd] at hu
              rcases List.mem_append.1 hu with hu | hu
              · exact G.out j hj u hu
              · exact ⟨r, s, HSS.out, HKE.out, by rw [HZ.out]; exact List.mem_singleton.1 hu⟩
            · rw [upd_other _ _ e] at hu; exact G.out j hj u hu
          clear a0 hown B1 V1 E F G hadd
          go_wp2_with fail
          refine ⟨?_, next_lt HWR.out HLT.out⟩
          obtain ⟨k', q1, q2, q3⟩ := next_rel (C := fun k' => k' = r + 1) HWR.out HLT.out rfl
          exact ⟨k', _, q1, q2, B3, V3, E3, by rw [q3]; exact F3, G3⟩
        · obtain rfl : M = r := by omega
          have g1 : ¬ (M : Int) < (M : Int) := by omega
          obtain ⟨v3, w3, HA, HO, HBW⟩ := copy_lit wr (.slice a2 L2 cap2) bs (HS2.out.below A.out.bel) (by have := HL2.out; have := HL300.out; omega)
          clear hr hlt B2 V2
          go_wp2_with (at_builtin; refine wpList_append_run (.tmp 112) (.tmp 113) 32 rfl rfl _ _ _ rfl rfl HA.out ?_)
          have hrow := HO.out
          have hS3 : Sl .u8 w3 v3 bs := sl_own (bs := bs) hrow
          have A3 := Lib.hid (A.out.below HBW.out (fun k => k = w1.heap.size ∨ (wr.heap.size ≤ k ∧ k < w3.heap.size)) (fun k hk => hk))
          have V3 : Hid (Six w3 w1.heap.size was) := V.out.same (HBW.out.block _ (A.out.lt rfl))
          go_at_call 20
          refine (A3.out.crash hS3 HB2.out (fun b off len cap e => by have := hrow.lt b (by rw [e]; rfl); exact .inr (.inr this)) (fun i hi => by have := F.out i hi; have := HMF.out; omega)).mono ?_
          rintro e x4 ⟨rfl, a0, hown⟩
          obtain ⟨D3, hD3⟩ : ∃ D3, settled D (crashG D bs) (looseTo D 6) = D3 := ⟨_, rfl⟩
          have N3 : Hid (∀ j, j < 6 → (D3 j).vs = []) := fun j hj => by rw [← hD3]; exact settled_none D _ 6 j hj
          have E3 : Hid (∀ j, j < 6 → ∃ q, (D3 j).look = fillB q ∧ (q = was j ∨ ∃ (r' : Nat) (s : St), m[r']? = some s ∧ modI s.i 6 = (j : Int) ∧ q = s.v)) := fun j hj => by
            rw [← hD3]
            rcases settled_either D (crashG D bs) 6 j hj with h | h
            · exact ⟨was j, by rw [h]; exact E.out j hj, .inl rfl⟩
            · obtain ⟨r', s, h1, h2, h3⟩ := G.out j hj _ h
              exact ⟨s.v, h3, .inr ⟨r', s, h1, h2, rfl⟩⟩
          rw [hD3] at a0
          have B4 : Hid (At w x4 rb 6 D3 (fun k => k = w1.heap.size)) := a0.below (Below.refl _ _) _ (fun k hk => .inl (.inl hk))
          have V4 : Hid (Six x4 w1.heap.size was) := V3.out.same (hown _ (.inl rfl))
          clear a0 hown A V E F G hD3 A3 V3 hS3 hrow HA HO HBW
          go_wp2_with fail
          go_loopw [13] (fun i wr => ∃ j : Nat, j ≤ 6 ∧ i = .int .i64 j ∧ Hid (At w wr rb 6 D3 (fun k => k = w1.heap.size)) ∧ Hid (Six wr w1.heap.size was)) (fun i _ => 6 - (intOf i).toNat)
          case atStart => exact ⟨0, Nat.zero_le _, rfl, B4, V4⟩
          case round =>
            obtain ⟨j, hj, rfl, A, V⟩ := hrel
            by_cases hlt : j < 6
            · have g2 : (j : Int) < 6 := by omega
              have g5 : (0 : Int) ≤ (j : Int) := by omega
              have HLT := Lib.hid hlt
              obtain ⟨q, hq1, hq2⟩ := E3.out j hlt
              have HQ1 := Lib.hid hq1
              have HQ2 := Lib.hid hq2
              obtain ⟨z0, hz0⟩ : ∃ z0, was j = z0 := ⟨_, rfl⟩
              have HZ0 := Lib.hid hz0
              clear hlt hj hq1 hq2 hz0
              go_wp2_with fail
              go_at_call 16
              refine (A.out.read HLT.out).mono ?_
              rintro e x5 ⟨rfl, hb⟩
              rw [HQ1.out]
              have hb4 := Lib.hid hb
              clear hb
              go_wp2_with fail
              obtain ⟨X, hX⟩ : ∃ X, x5.alloc (.cells (fillB q).toArray 37) = X := ⟨_, rfl⟩
              rw [hX]
              have hBX : Below wr.heap.size wr X := by rw [← hX]; exact hb4.out.alloc hb4.out.size _
              have B5 := Lib.hid (A.out.beside hBX)
              have V5 : Hid (Six X w1.heap.size was) := V.out.same (hBX.block _ (A.out.lt rfl))
              have kX : X.heap[x5.heap.size]? = some (.cells (fillB q).toArray 37 (0, 0)) := by rw [← hX]; exact heap_alloc_new x5 _
              have HKX := Lib.hid kX
              have hsz : w1.heap.size < X.heap.size := B5.out.lt rfl
              have r1 : ∀ x : Ext X, (loadVar 37 ⟨x5.heap.size, 0, none⟩).run Try.prog x.1 = .ok (.agg (fillB q).toArray) x.1 := fun x => load_at ((x.2.block _ (Array.getElem?_eq_some_iff.1 kX).1).trans kX) (isBlk_fill _)
              have r2 : ∀ x : Ext X, x.1.cell? ⟨w1.heap.size, j, none⟩ = some (.int .u8 z0) := fun x => by
                have := (V5.out.same (x.2.block _ hsz)).1 j HLT.out
                rwa [HZ0.out] at this
              have Q1 : Hid (∀ x : Ext X, Calls Try.prog 13 #[.int .u8 z0] x.1 fun e w'' => e = .returned (.agg (fillB z0).toArray) ∧ ∃ y : Ext X, w'' = y.1) := fun x => calls_ext x (fill_any z0 _)
              clear hX hBX kX hb4 hsz A V
              refine region_ext (by kernel_rfl) (by kernel_rfl) ?_
              repeat (go_big_quiet_step (with_reducible (first | exact Q1.out _)))
              refine wpQuiet_nil ?_
              intro x0
              obtain ⟨Y, hY⟩ : ∃ Y, x0.1 = Y := ⟨_, rfl⟩
              have HXY : Hid (Below X.heap.size X Y) := by rw [← hY]; exact x0.2
              rw [hY]
              clear hY x0 r1 r2 Q1
              go_wp2_with fail
              go_loopw [16, 17] (fun o i wr => ∃ (r : Nat) (okb : Bool), r ≤ M ∧ i = .int .i64 r ∧ o = .bool okb ∧ Hid (q = z0 ∨ (∃ (r' : Nat) (s : St), r' < r ∧ m[r']? = some s ∧ modI s.i 6 = (j : Int) ∧ q = s.v) → okb = true) ∧ Hid (Below X.heap.size X wr)) (fun _ i _ => M - (intOf i).toNat)
              case atStart => exact ⟨0, _, Nat.zero_le _, rfl, rfl, fun h => by rcases h with h | ⟨r', s, h, _⟩; rw [h]; simp; omega, HXY.out⟩
              case round =>
                obtain ⟨r, okb, hr, rfl, rfl, P, HBY⟩ := hrel
                by_cases hlt4 : r < M
                · obtain ⟨s, hs⟩ : ∃ s, m[r]? = some s := ⟨_, List.getElem?_eq_getElem (by rw [HM.out]; exact hlt4)⟩
                  obtain ⟨b, off, rfl, hok, c0, c1, c2, c3⟩ := HST2.out.open HM.out hs
                  have HSS := Lib.hid hs
                  obtain ⟨K, hK⟩ : ∃ K : Nat, modI s.i 6 = (K : Int) := ⟨(modI s.i 6).toNat, by have := (modI_bd (k := s.i) (n := 6) (by omega)).1; omega⟩
                  have HKE := Lib.hid hK
                  obtain ⟨si, hsi⟩ : ∃ q, s.i = q := ⟨_, rfl⟩
                  obtain ⟨z, hz⟩ : ∃ q, s.v = q := ⟨_, rfl⟩
                  have HZ := Lib.hid hz
                  rw [hsi] at c1 hK
                  rw [hz] at c2
                  have hBel : Below w.heap.size w wr := B5.out.bel.trans (HBY.out.mono B5.out.bel.size)
                  have d1 : ∀ x : Ext wr, x.1.cell? ⟨b, off + r * 4 + 1, none⟩ = some (.int .i64 si) := fun x => c1 x.1 (hBel.trans (x.2.mono hBel.size))
                  have d2 : ∀ x : Ext wr, x.1.cell? ⟨b, off + r * 4 + 2, none⟩ = some (.int .u8 z) := fun x => c2 x.1 (hBel.trans (x.2.mono hBel.size))
                  have d3 : ∀ x : Ext wr, (loadVar 37 ⟨x5.heap.size, 0, none⟩).run Try.prog x.1 = .ok (.agg (fillB q).toArray) x.1 := fun x => by
                    have hb := HBY.out.trans (x.2.mono HBY.out.size)
                    exact load_at ((hb.block _ (Array.getElem?_eq_some_iff.1 HKX.out).1).trans HKX.out) (isBlk_fill _)
                  have Q1 : Hid (∀ x : Ext wr, Calls Try.prog 26 #[.int .i64 si, .int .i64 6] x.1 fun e w'' => e = .returned (.int .i64 (K : Int)) ∧ ∃ y : Ext wr, w'' = y.1) := fun x => calls_ext x ((mod_any si 6 x.1 (by omega)).mono fun e w' ⟨h1, h2⟩ => ⟨by rw [h1, hK], by subst h2; exact Below.refl _ _⟩)
                  have Q2 : Hid (∀ x : Ext wr, Calls Try.prog 13 #[.int .u8 z] x.1 fun e w'' => e = .returned (.agg (fillB z).toArray) ∧ ∃ y : Ext wr, w'' = y.1) := fun x => calls_ext x (fill_any z _)
                  have g1 : (r : Int) < (M : Int) := by omega
                  have g0 : (0 : Int) ≤ (r : Int) := by omega
                  have HLT4 := Lib.hid hlt4
                  have HWR : Hid (wrap64 ((r : Int) + 1) = (r : Int) + 1) := IntWalk.wrap64_in _ (by have := HMF.out; omega)
                  have next : ∀ okb' : Bool, (okb = true → okb' = true) → (K = j → q = z → okb' = true) → Hid (q = z0 ∨ (∃ (r' : Nat) (s : St), r' < r + 1 ∧ m[r']? = some s ∧ modI s.i 6 = (j : Int) ∧ q = s.v) → okb' = true) := fun okb' h1 h2 h => by
                    rcases h with h | ⟨r', s', h3, h4, h5, h6⟩
                    · exact h1 (P.out (.inl h))
                    · by_cases e : r' < r
                      · exact h1 (P.out (.inr ⟨r', s', e, h4, h5, h6⟩))
                      · obtain rfl : r' = r := by omega
                        rw [HSS.out] at h4
                        cases h4
                        rw [HKE.out] at h5
                        exact h2 (by omega) (by rw [h6, HZ.out])
                  have HNX := Lib.hid next
                  clear c0 c1 c2 c3 hs hok hsi hz hK hlt4 hr hBel next
                  cases okb with
                  | true =>
                    go_wp2_with fail
                    refine region_ext (by kernel_rfl) (by kernel_rfl) ?_
                    repeat (go_big_quiet_step (with_reducible (first | exact Q1.out _ | exact Q2.out _)))
                    refine wpQuiet_nil ?_
                    intro x
                    go_wp2_with fail
                    refine ⟨?_, next_lt HWR.out HLT4.out⟩
                    obtain ⟨k', q1, q2, q3⟩ := next_rel (C := fun k' => k' = r + 1) HWR.out HLT4.out rfl
                    exact ⟨k', true, q1, q2, rfl, by rw [q3]; exact HNX.out _ (fun _ => rfl) (fun _ _ => rfl), HBY.out.trans (x.2.mono HBY.out.size)⟩
                  | false =>
                    by_cases hKj : K = j
                    · subst hKj
                      have gq : (((K : Nat) : Int) == (K : Int)) = true := by simp
                      go_wp2_with fail
                      refine region_ext (by kernel_rfl) (by kernel_rfl) ?_
                      repeat (go_big_quiet_step (with_reducible (first | exact Q1.out _ | exact Q2.out _)))
                      refine wpQuiet_nil ?_
                      intro x
                      go_wp2_with fail
                      refine ⟨?_, next_lt HWR.out HLT4.out⟩
                      obtain ⟨k', q1, q2, q3⟩ := next_rel (C := fun k' => k' = r + 1) HWR.out HLT4.out rfl
                      exact ⟨k', _, q1, q2, rfl, by rw [q3]; exact HNX.out _ (fun h => by cases h) (fun _ h => by rw [h]; simp), HBY.out.trans (x.2.mono HBY.out.size)⟩
                    · have gq : ((K : Int) == (j : Int)) = false := by simp; omega
                      have HKJ := Lib.hid hKj
                      clear hKj
                      go_wp2_with fail
                      refine region_ext (by kernel_rfl) (by kernel_rfl) ?_
                      repeat (go_big_quiet_step (with_reducible (first | exact Q1.out _ | exact Q2.out _)))
                      refine wpQuiet_nil ?_
                      intro x
                      go_wp2_with fail
                      refine ⟨?_, next_lt HWR.out HLT4.out⟩
                      obtain ⟨k', q1, q2, q3⟩ := next_rel (C := fun k' => k' = r + 1) HWR.out HLT4.out rfl
                      exact ⟨k', _, q1, q2, rfl, by rw [q3]; exact HNX.out _ (fun h => by cases h) (fun h => absurd h HKJ.out), HBY.out.trans (x.2.mono HBY.out.size)⟩
                · obtain rfl : M = r := by omega
                  obtain rfl : okb = true := P.out (by
                    rcases HQ2.out with h | ⟨r', s, h1, h2, h3⟩
                    · exact .inl (by rw [h, HZ0.out])
                    · exact .inr ⟨r', s, by have := (List.getElem?_eq_some_iff.1 h1).1; have := HM.out; omega, h1, h2, h3⟩)
                  have g1 : ¬ (M : Int) < (M : Int) := by omega
                  clear hr hlt4 P
                  go_wp2_with fail
                  exact ⟨⟨j + 1, HLT.out, by simp, B5.out.beside HBY.out, V5.out.same (HBY.out.block _ (B5.out.lt rfl))⟩, by have := HLT.out; simp [intOf]; omega⟩
            · obtain rfl : j = 6 := by omega
              have g2 : ¬ (6 : Int) < 6 := by omega
              clear hj hlt
              go_wp2_with fail
              go_at_call 23
              refine A.out.loose.mono ?_
              rintro e x2 ⟨lv, rfl, -, hb, hnil⟩
              obtain rfl := hnil (tight_of N3.out)
              have B5 := Lib.hid (A.out.beside hb)
              clear hb hnil
              go_wp2_with fail
              go_at_call 9
              refine (HW.out _).mono ?_
              rintro e w2 ⟨rfl, hB⟩
              have HB3 : Hid (Below w.heap.size w w2) := B5.out.bel.trans (hB.mono B5.out.bel.size)
              clear hB
              go_wp2_with fail
              go_ret
              exact ⟨rfl, HB3.out⟩

set_option maxRecDepth 100000 in
theorem lifted (os : Os) (started : os.Started) (H : Type) (enc : TypeId × Value → H) :
    ReturnsInHanded {} Try.checked os 4 .any (Rows.diskSafeSpec.pre6 enc Try.prog Try.f4 Rows.diskSafeRow.domain false) (Rows.diskSafeSpec.post enc Try.prog Try.f4 false true false false) := by
  refine returnsInHanded_of_change (C := Try.checked) own started (by kernel_rfl) Try.func4
    (ChangeSpec.witness6 (enc := enc) (C := Try.checked) false ⟨#[], #[.slice none 0 0, .slice none 0 0, .slice none 0 0], []⟩ 8 (by kernel_rfl) (by kernel_rfl) (by kernel_rfl) (by kernel_rfl)) ?_
  intro W base args ds gs before hval0 hW hcnd _
  have hval : ∀ (j : Nat) t v, Try.f4.params[j]? = some t → args[j]? = some v → Value.okWide Try.prog W .any base t v := hval0
  have hW' := hW
  obtain ⟨p, q, hA0, hV, rfl, hfz, hnd⟩ := hW
  have hA : DataW.TrodAll enc Try.prog W 0 (fun _ => true) true Try.f4.params.toList args.toList ds p := hA0
  rw [Try.params4] at hA hval
  obtain ⟨v0, vs0, d0, ds0, p0, q0, hargs, rfl, rfl, h0, r0⟩ := trodAll_cons hA
  obtain ⟨v1, vs1, d1, ds1, p1, q1, rfl, rfl, rfl, h1, r1⟩ := trodAll_cons r0
  obtain ⟨v2, vs2, d2, ds2, p2, q2, rfl, rfl, rfl, h2, r2⟩ := trodAll_cons r1
  obtain ⟨rfl, rfl, rfl⟩ := trodAll_nil r2
  obtain rfl : args = #[v0, v1, v2] := by cases args; simp_all
  obtain ⟨rfl, rfl⟩ := trodVars_none hV
  have lt0 : ∀ x ∈ p0, x.block < W.heap.size := by obtain ⟨m, hm⟩ := h0; exact DataW.trod_lt m _ _ _ hm
  have a0 := Arg.mk (hval 0 22 v0 rfl rfl) h0
  have lt1 : ∀ x ∈ p1, x.block < W.heap.size := by obtain ⟨m, hm⟩ := h1; exact DataW.trod_lt m _ _ _ hm
  have a1 := Arg.mk (hval 1 22 v1 rfl rfl) h1
  have lt2 : ∀ x ∈ p2, x.block < W.heap.size := by obtain ⟨m, hm⟩ := h2; exact DataW.trod_lt m _ _ _ hm
  have a2 := Arg.mk (hval 2 32 v2 rfl rfl) h2
  clear hA0 hval0
  refine (walk v0 v1 v2 W a0 a1 a2).mono fun e W' ⟨he, bel⟩ => ?_
  subst he
  exact ⟨_, rfl, _, _, _, [], _, [], hW', trodAll_mk1 (shut_bool Try.underlying4 _), (trodAll_cons_mk (Below.trod laidOut (by kernel_rfl) (of_decide_eq_true (by kernel_rfl)) h0 bel lt0) (trodAll_cons_mk (Below.trod laidOut (by kernel_rfl) (of_decide_eq_true (by kernel_rfl)) h1 bel lt1) (trodAll_cons_mk (Below.trod laidOut (by kernel_rfl) (of_decide_eq_true (by kernel_rfl)) h2 bel lt2) trodAll_mk0))), rfl, bel.frame _, fun h => by cases h⟩

theorem over : Rows.diskSafeRow.holds Try.pinned (OpenSpec.ofChange Rows.diskSafeSpec) :=
  OpenClaim.holds_of_wide 4 Try.f4 rfl rfl rfl rfl rfl rfl rfl ⟨rfl, rfl, rfl, rfl, rfl⟩ rfl rfl rfl rfl rfl (by kernel_rfl) Try.func4 (by kernel_rfl)
    (of_decide_eq_true (by kernel_rfl)) (by unfold Func.isWrapper; first | (rw [if_pos (by decide +kernel)]; kernel_rfl) | (rw [if_neg (by decide +kernel)]; exact ⟨rfl, rfl⟩))
    (fun os started H enc _ => lifted os started H enc)

theorem proved : Rows.DiskSafeSaid := over
#print axioms proved
end Go.Proofs.Ytagieoomekmjcaa.diskSafe
