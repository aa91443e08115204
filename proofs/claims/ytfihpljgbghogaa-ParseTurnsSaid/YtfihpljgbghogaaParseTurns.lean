/- A stream's bytes cut short are too short, at whatever place; with one byte turned they are not taken; with one more they are too long (P17.1). -/
import Derived.Test.YtfihpljgbghogaaPB4
namespace Go.Proofs.Ytfihpljgbghogaa.parseTurns
open Go.ChangeShapes Go.WideShapes Go.ChangeAt Go.RowKit
set_option linter.unusedVariables false
set_option linter.unusedSimpArgs false
attribute [-simp] Try.isAgg49 Try.zeroValue49 Try.isAgg26 Try.zeroValue26 Try.isAgg31 Try.zeroValue31
attribute [-go_sem] loadVar storeVar
attribute [local go_sem] loadVar_openRG storeVar_openRG zero_rcP build_rcP zero_smP build_sm3P zero_gt build_gtE build_gtS

set_option maxRecDepth 100000 in
set_option maxHeartbeats 8000000 in
theorem walk (v0 v1 v2 : Value) (w : World) (w0 : Arg w 26 v0) (w1 : Arg w 3 v1) (w2 : Arg w 5 v2) :
    Calls Try.prog 5 #[v0, v1, v2] w fun e w' => e = .returned (.bool true) ∧ Below w.heap.size w w' := by
  obtain ⟨s, hs0⟩ := w0.stream
  obtain ⟨at0, rfl, -⟩ := w1.int Try.underlying3
  obtain ⟨by0, rfl, hby⟩ := w2.int Try.underlying5
  have V2 : Hid (0 ≤ by0 ∧ by0 < 256) := by obtain ⟨x1, x2⟩ := bounds_u8 hby; exact ⟨x1, by omega⟩
  have HWK := Lib.hid pa_wakes
  have HS0 := Lib.hid hs0
  obtain ⟨r, ⟨⟨⟨xa, xn, xc⟩, rfl, -⟩, -, -, -⟩⟩ := hs0
  have HSO := Lib.hid HS0.out.ok
  obtain ⟨sl, hsl⟩ : ∃ b, s.bl = b := ⟨_, rfl⟩
  obtain ⟨sb, hsb⟩ : ∃ b, s.ba = b := ⟨_, rfl⟩
  obtain ⟨si, hsi⟩ : ∃ b, s.id = b := ⟨_, rfl⟩
  have HFS : Hid (∀ x : World, Below w.heap.size w x → _) := fun x hx => sm_fair (HS0.out.below hx)
  have HGS : Hid (∀ x : World, Below w.heap.size w x → _) := fun x hx => rf16_good (HS0.out.below hx)
  have HES : Hid (∀ x : World, sGood s → Below w.heap.size w x → _) := fun x hg hx => sm_encode (HS0.out.below hx) hg
  rw [hsl, hsb, hsi] at HFS HGS HES ⊢
  obtain ⟨B, hB⟩ : ∃ B, w.heap.size = B := ⟨_, rfl⟩
  obtain ⟨X, hX⟩ : ∃ X, w.alloc (.cells #[.int .i64 sl, .int .i64 sb, .int .i64 si, .slice xa xn xc] 26) = X := ⟨_, rfl⟩
  have k1 : RowC X B 26 (smL sl sb si (xa, xn, xc)) := by rw [← hX, ← hB]; exact RowC.new w _ _
  have hXb : Below w.heap.size w X := by rw [← hX]; exact below_new w _
  have HXB := Lib.hid hXb
  have HLD : Hid (∀ x : World, Below X.heap.size X x → (loadVar 26 ⟨B, 0, none⟩).run Try.prog x = .ok (smV sl sb si (xa, xn, xc)) x) := fun x hx => load_smC (k1.below hx)
  have l1 := HLD.out X (Below.refl _ _)
  have C1 := Lib.hid (HFS.out X hXb)
  simp only [smV, slV] at l1 C1 HFS HGS HES HLD ⊢
  clear k1 hXb hsl hsb hsi hby w0 w1 w2 HFS
  go_enter Try.func5, Try.ntmps5
  go_wp2_with fail
  refine C1.out.mono ?_
  rintro e y1 ⟨t1, rfl, -, hy⟩
  have KY1 := Lib.hid hy
  have HY1 : Hid (Below w.heap.size w y1) := HXB.out.trans (hy.mono HXB.out.size)
  clear C1 hy l1
  cases t1 with
  | false =>
    go_wp2_with fail
    refine (HWK.out _).mono ?_
    rintro e zz ⟨rfl, hzz⟩
    have HFIN : Hid (Below w.heap.size w zz) := HY1.out.trans (hzz.mono HY1.out.size)
    clear hzz
    go_wp2_with fail
    go_ret
    exact ⟨rfl, HFIN.out⟩
  | true =>
    have l1 := HLD.out y1 KY1.out
    have C2 := Lib.hid (HGS.out y1 HY1.out)
    clear HGS
    go_wp2_with fail
    refine C2.out.mono ?_
    rintro e y2 ⟨t2, rfl, ht2, hy⟩
    have KY2 : Hid (Below X.heap.size X y2) := KY1.out.trans (hy.mono KY1.out.size)
    have HY2 : Hid (Below w.heap.size w y2) := HXB.out.trans (KY2.out.mono HXB.out.size)
    clear C2 hy l1
    cases t2 with
    | false =>
      clear ht2
      go_wp2_with fail
      refine (HWK.out _).mono ?_
      rintro e zz ⟨rfl, hzz⟩
      have HFIN : Hid (Below w.heap.size w zz) := HY2.out.trans (hzz.mono HY2.out.size)
      clear hzz
      go_wp2_with fail
      go_ret
      exact ⟨rfl, HFIN.out⟩
    | true =>
      have hg : sGood s := ht2.1 rfl
      have l2 := HLD.out y2 KY2.out
      have HE1 := Lib.hid (HES.out y2 hg HY2.out)
      have HGD := Lib.hid hg
      have hbe := isBytes_encB HSO.out
      have HBE := Lib.hid hbe
      obtain ⟨bs, hbs⟩ : ∃ b, encB s = b := ⟨_, rfl⟩
      obtain ⟨L, hL⟩ : ∃ l, bs.length = l := ⟨_, rfl⟩
      have hL1 : 33 ≤ L ∧ L ≤ 300000 := by
        have h1 := rsLen_small hg s.re.length
        rw [List.take_length] at h1
        have h2 := encB_length s
        rw [hbs, hL] at h2
        omega
      obtain ⟨K, hK⟩ : ∃ K : Nat, modI at0 (L : Int) = (K : Int) := ⟨(modI at0 (L : Int)).toNat, by have := (modI_bd (k := at0) (n := (L : Int)) (by omega)).1; omega⟩
      have hKl : K < L := by have := (modI_bd (k := at0) (n := (L : Int)) (by omega)).2; omega
      have HM : Hid (∀ w : World, Calls Try.prog 16 #[.int .i64 at0, .int .i64 (L : Int)] w fun e w' => e = .returned (.int .i64 (K : Int)) ∧ w' = w) := by
        intro w
        have := mod_any at0 (L : Int) w (by omega)
        rw [hK] at this
        exact this
      have HCUT : Hid (paE (bs.take K) = 21) := by show _ = _; rw [← hbs]; exact pa_cut hg (by rw [hbs, hL]; exact hKl)
      have HMORE : Hid (paE (bs ++ [by0]) = 2) := by show _ = _; rw [← hbs]; exact pa_more hg by0
      obtain ⟨y, hy⟩ : ∃ y, bs[K]?.getD 0 = y := ⟨_, rfl⟩
      rw [hbs] at HBE HE1
      have HY := Lib.hid hy
      obtain ⟨r1, r2⟩ := HBE.out K
      rw [hy] at r1 r2
      obtain ⟨y', hy'⟩ : ∃ y', bits BinOp.xor IntKind.u8 y by0 = y' := ⟨_, rfl⟩
      have hyb : 0 ≤ y' ∧ y' < 256 := by rw [← hy']; exact u8_xor_bd ⟨r1, r2⟩ V2.out
      have HTURN : Hid ((paE (bs.set K y') == 0) = (by0 == 0)) := by
        show _ = _
        rw [Bool.eq_iff_iff]
        simp only [beq_iff_eq]
        constructor
        · intro h
          by_cases hz : by0 = 0
          · exact hz
          · exfalso
            refine pa_turn (s := s) HSO.out (by rw [hbs]; exact HBE.out) (k := K) (by rw [hbs, hL]; exact hKl) hyb ?_ (by rw [hbs]; exact h)
            rw [hbs, hy, ← hy']
            exact fun e => hz ((u8_xor_eq ⟨r1, r2⟩ V2.out).1 e)
        · intro h
          have e : y' = y := by rw [← hy']; exact (u8_xor_eq ⟨r1, r2⟩ V2.out).2 h
          have e2 : bs.set K y' = bs := by
            have hk : K < bs.length := by rw [hL]; exact hKl
            rw [e, ← hy, List.getElem?_eq_getElem hk]
            simp
          rw [e2, ← hbs]
          exact (pa_full hg).1
      have HL := Lib.hid hL
      have HY' := Lib.hid hy'
      have HYB := Lib.hid hyb
      have k0 : (0 : Int) ≤ (K : Int) := by omega
      have kl : (K : Int) < (L : Int) := by omega
      have L0 : 33 ≤ (L : Int) := by omega
      have L2 : (L : Int) ≤ 300000 := by omega
      clear hg hbe hbs hL hK hy hy' hyb ht2 HES r1 r2
      go_wp2_with fail
      refine HE1.out.mono ?_
      rintro e y3 ⟨u, rfl, ho, hb⟩
      obtain ⟨g, cap, rfl⟩ := Joins.ownsRow_form ho (by have := HL.out; omega)
      have HY3 : Hid (Below w.heap.size w y3) := HY2.out.trans (hb.mono HY2.out.size)
      rw [HL.out]
      have hsl := OwnB.sl ho
      rw [HL.out] at hsl
      have HSL := Lib.hid hsl
      have kc : (L : Int) ≤ (cap : Int) := by
        obtain ⟨a', c', e', h1, -⟩ := hsl
        cases e'
        omega
      have q1 : ((L : Int) == 0) = false := by rw [beq_eq_false_iff_ne]; omega
      have q2 : decide ((L : Nat) = 0) = false := by simp; omega
      clear ho hb HE1 l2 hsl
      go_wp2_with fail
      refine (HM.out _).mono ?_
      rintro e z ⟨rfl, hz⟩
      subst hz
      have HP1 := Lib.hid (pa_smi ((sl_hi HSL.out (Nat.le_of_lt hKl)).2 _ HSL.out) (HBE.out.take K))
      rw [HCUT.out] at HP1
      obtain ⟨a1, ha1⟩ : ∃ b, (paS (bs.take K)).bl = b := ⟨_, rfl⟩
      obtain ⟨a2, ha2⟩ : ∃ b, (paS (bs.take K)).ba = b := ⟨_, rfl⟩
      obtain ⟨a3, ha3⟩ : ∃ b, (paS (bs.take K)).id = b := ⟨_, rfl⟩
      rw [ha1, ha2, ha3] at HP1
      have q3 : (K : Int) ≤ (L : Int) := by omega
      clear HM ha1 ha2 ha3
      go_wp2_with fail
      refine HP1.out.mono ?_
      rintro e x4 ⟨⟨d1, d2, d3⟩, rfl, -, hb⟩
      obtain ⟨Y4, T4, -, bY4⟩ := new_smx x4 a1 a2 a3 (d1, d2, d3)
      obtain ⟨D4, hD4⟩ : ∃ D, x4.heap.size = D := ⟨_, rfl⟩
      rw [hD4] at T4
      have K4 : Hid (Below w.heap.size w Y4) := HY3.out.trans ((hb.trans (bY4.mono hb.size)).mono HY3.out.size)
      have HS4 : Hid (Sl .u8 Y4 (.slice (some ⟨g, 0, none⟩) L cap) bs) := HSL.out.below (hb.trans (bY4.mono hb.size))
      obtain ⟨v5, w5, HA, HO, HB5⟩ := copy_lit Y4 _ bs HS4.out (by rw [HL.out]; omega)
      obtain ⟨g5, cap5, rfl⟩ := Joins.ownsRow_form HO.out (by have := HL.out; omega)
      rw [HL.out] at HA
      have c3 : w5.cell? ⟨g5, K, none⟩ = some (.int .u8 y) := by
        rw [HO.out.cellAt K (by have := HL.out; omega)]
        have h1 : K < bs.length := by have := HL.out; omega
        have h2 := HY.out
        rw [List.getElem?_eq_getElem h1] at h2
        simp only [Option.getD_some] at h2
        simp [h1, h2]
      have f3 := HO.out.frozenAt K
      have HG : Hid (Y4.heap.size ≤ g5) := (HO.out.lt g5 rfl).1
      have HST := Lib.hid (HO.out.stored K (.int .u8 y'))
      obtain ⟨w6, hw6⟩ : ∃ W, w5.setCell ⟨g5, K, none⟩ (.int .u8 y') = W := ⟨_, rfl⟩
      have hset : w6.ownsRow Y4.heap.size 5 1 (.slice (some ⟨g5, 0, none⟩) (bs.set K y').length cap5) (bs.set K y').length ((bs.set K y').map (Value.int .u8)) := by
        rw [← hw6, List.map_set, List.length_set, HL.out]
        have := HST.out.1
        rw [HL.out] at this
        exact this
      have S6 := Sl.of_owns hset
      rw [List.length_set, HL.out] at S6
      have b6 : Below Y4.heap.size Y4 w6 := by rw [← hw6]; exact HB5.out.setCell (p := ⟨g5, K, none⟩) HG.out _
      have K6 : Hid (Below w.heap.size w w6) := K4.out.trans (b6.mono K4.out.size)
      have HS6 : Hid (Sl .u8 w6 (.slice (some ⟨g, 0, none⟩) L cap) bs) := HS4.out.below b6
      have HP6 := Lib.hid (pa_smi S6 (HBE.out.set HYB.out))
      obtain ⟨E6, hE6⟩ : ∃ E, paE (bs.set K y') = E := ⟨_, rfl⟩
      have hcc : (E6 == 0) = (by0 == 0) := by rw [← hE6]; exact HTURN.out
      rw [hE6] at HP6
      obtain ⟨b1, hb1⟩ : ∃ b, (paS (bs.set K y')).bl = b := ⟨_, rfl⟩
      obtain ⟨b2, hb2⟩ : ∃ b, (paS (bs.set K y')).ba = b := ⟨_, rfl⟩
      obtain ⟨b3, hb3⟩ : ∃ b, (paS (bs.set K y')).id = b := ⟨_, rfl⟩
      rw [hb1, hb2, hb3] at HP6
      have hx : bits BinOp.xor IntKind.u8 y by0 = y' := HY'.out
      have HCC := Lib.hid hcc
      simp only [smV, slV] at T4 ⊢
      rw [HL.out] at HO
      clear hb bY4 hset S6 b6 HP1 hE6 hb1 hb2 hb3 HTURN HST hcc
      go_wp2_with (at_builtin; refine wpList_append_run (.tmp 49) (.tmp 50) 22 rfl rfl _ _ _ rfl rfl HA.out ?_)
      try rw [HL.out]
      try go_wp2_with fail
      refine HP6.out.mono ?_
      rintro e x7 ⟨⟨i1, i2, i3⟩, rfl, -, hb⟩
      obtain ⟨Y7, T7, -, bY7⟩ := new_smx x7 b1 b2 b3 (i1, i2, i3)
      obtain ⟨D7, hD7⟩ : ∃ D, x7.heap.size = D := ⟨_, rfl⟩
      rw [hD7] at T7
      have K7 : Hid (Below w.heap.size w Y7) := K6.out.trans ((hb.trans (bY7.mono hb.size)).mono K6.out.size)
      have HS7 : Hid (Sl .u8 Y7 (.slice (some ⟨g, 0, none⟩) L cap) bs) := HS6.out.below (hb.trans (bY7.mono hb.size))
      obtain ⟨⟨h1, h2, h3⟩, w8, ⟨j1, j2, j3⟩, w9, A1, A2, S9, B9⟩ := app_two HS7.out (by rw [HL.out]; omega) by0
      have L9 := slice_1 by0 w8
      have HP9 := Lib.hid (pa_smi S9 (isBytes_app HBE.out (bytes_one V2.out)))
      rw [HMORE.out] at HP9
      obtain ⟨m1, hm1⟩ : ∃ b, (paS (bs ++ [by0])).bl = b := ⟨_, rfl⟩
      obtain ⟨m2, hm2⟩ : ∃ b, (paS (bs ++ [by0])).ba = b := ⟨_, rfl⟩
      obtain ⟨m3, hm3⟩ : ∃ b, (paS (bs ++ [by0])).id = b := ⟨_, rfl⟩
      rw [hm1, hm2, hm3] at HP9
      have HA1 := Lib.hid A1
      have HA2 := Lib.hid A2
      have HL9 := Lib.hid L9
      have K9 : Hid (Below w.heap.size w w9) := K7.out.trans (B9.mono K7.out.size)
      simp only [smV, slV] at T7 HA1 HA2 HP9 ⊢
      clear hb bY7 A1 A2 S9 B9 L9 HP6 hm1 hm2 hm3 T4 hD4 c3 f3 hw6 hx HA
      go_wp2_with (first | ((with_reducible refine gate_build ?_); refine wpList_build_run 22 1 _ rfl rfl [(0, _)] _ rfl HL9.out ?_) | (at_builtin; first | refine wpList_append_run (.tmp 65) (.tmp 66) 22 rfl rfl _ _ _ rfl rfl HA1.out ?_ | refine wpList_append_run (.tmp 67) (.tmp 69) 22 rfl rfl _ _ _ rfl rfl HA2.out ?_))
      refine HP9.out.mono ?_
      rintro e x10 ⟨⟨n1, n2, n3⟩, rfl, -, hb⟩
      obtain ⟨Y10, T10, -, bY10⟩ := new_smx x10 m1 m2 m3 (n1, n2, n3)
      obtain ⟨D10, hD10⟩ : ∃ D, x10.heap.size = D := ⟨_, rfl⟩
      rw [hD10] at T10
      have K10 : Hid (Below w.heap.size w Y10) := K9.out.trans ((hb.trans (bY10.mono hb.size)).mono K9.out.size)
      simp only [smV, slV] at T10 ⊢
      have hcc := HCC.out
      clear hb bY10 HP9 HL9 HA1 HA2 T7 hD7
      go_wp2_with fail
      try rw [hcc]
      try go_wp2_with fail
      refine (HWK.out _).mono ?_
      rintro e zz ⟨rfl, hzz⟩
      have HFIN : Hid (Below w.heap.size w zz) := K10.out.trans (hzz.mono K10.out.size)
      clear hzz
      go_wp2_with fail
      go_ret
      exact ⟨rfl, HFIN.out⟩

set_option maxRecDepth 100000 in
theorem lifted (os : Os) (started : os.Started) (H : Type) (enc : TypeId × Value → H) :
    ReturnsInHanded {} Try.checked os 5 .any (Rows.parseTurnsSpec.pre6 enc Try.prog Try.f5 Rows.parseTurnsRow.domain false) (Rows.parseTurnsSpec.post enc Try.prog Try.f5 false true false false) := by
  refine returnsInHanded_of_change (C := Try.checked) own started (by kernel_rfl) Try.func5
    (ChangeSpec.witness6 (enc := enc) (C := Try.checked) false ⟨#[], #[.agg #[.int .i64 0, .int .i64 0, .int .i64 0, .slice none 0 0], .int .i64 0, .int .u8 0], []⟩ 8 (by kernel_rfl) (by kernel_rfl) (by kernel_rfl) (by kernel_rfl)) ?_
  intro W base args ds gs before hval0 hW hcnd _
  have hval : ∀ (j : Nat) t v, Try.f5.params[j]? = some t → args[j]? = some v → Value.okWide Try.prog W .any base t v := hval0
  have hW' := hW
  obtain ⟨p, q, hA0, hV, rfl, hfz, hnd⟩ := hW
  have hA : DataW.TrodAll enc Try.prog W 0 (fun _ => true) true Try.f5.params.toList args.toList ds p := hA0
  rw [Try.params5] at hA hval
  obtain ⟨v0, vs0, d0, ds0, p0, q0, hargs, rfl, rfl, h0, r0⟩ := trodAll_cons hA
  obtain ⟨v1, vs1, d1, ds1, p1, q1, rfl, rfl, rfl, h1, r1⟩ := trodAll_cons r0
  obtain ⟨v2, vs2, d2, ds2, p2, q2, rfl, rfl, rfl, h2, r2⟩ := trodAll_cons r1
  obtain ⟨rfl, rfl, rfl⟩ := trodAll_nil r2
  obtain rfl : args = #[v0, v1, v2] := by cases args; simp_all
  obtain ⟨rfl, rfl⟩ := trodVars_none hV
  have lt0 : ∀ x ∈ p0, x.block < W.heap.size := by obtain ⟨m, hm⟩ := h0; exact DataW.trod_lt m _ _ _ hm
  have a0 := Arg.mk (hval 0 26 v0 rfl rfl) h0
  have lt1 : ∀ x ∈ p1, x.block < W.heap.size := by obtain ⟨m, hm⟩ := h1; exact DataW.trod_lt m _ _ _ hm
  have a1 := Arg.mk (hval 1 3 v1 rfl rfl) h1
  have lt2 : ∀ x ∈ p2, x.block < W.heap.size := by obtain ⟨m, hm⟩ := h2; exact DataW.trod_lt m _ _ _ hm
  have a2 := Arg.mk (hval 2 5 v2 rfl rfl) h2
  clear hA0 hval0
  refine (walk v0 v1 v2 W a0 a1 a2).mono fun e W' ⟨he, bel⟩ => ?_
  subst he
  exact ⟨_, rfl, _, _, _, [], _, [], hW', trodAll_mk1 (shut_bool Try.underlying4 _), (trodAll_cons_mk (Below.trod laidOut (by kernel_rfl) (of_decide_eq_true (by kernel_rfl)) h0 bel lt0) (trodAll_cons_mk (Below.trod laidOut (by kernel_rfl) (of_decide_eq_true (by kernel_rfl)) h1 bel lt1) (trodAll_cons_mk (Below.trod laidOut (by kernel_rfl) (of_decide_eq_true (by kernel_rfl)) h2 bel lt2) trodAll_mk0))), rfl, bel.frame _, fun h => by cases h⟩

set_option maxRecDepth 100000 in
theorem over : Rows.parseTurnsRow.holds Try.pinned (OpenSpec.ofChange Rows.parseTurnsSpec) :=
  OpenClaim.holds_of_wide 5 Try.f5 rfl rfl rfl rfl rfl rfl rfl ⟨rfl, rfl, rfl, rfl, rfl⟩ rfl rfl rfl rfl rfl (by kernel_rfl) Try.func5 (by kernel_rfl)
    (of_decide_eq_true (by kernel_rfl)) (by unfold Func.isWrapper; first | (rw [if_pos (by decide +kernel)]; kernel_rfl) | (rw [if_neg (by decide +kernel)]; exact ⟨rfl, rfl⟩))
    (fun os started H enc _ => lifted os started H enc)

theorem proved : Rows.ParseTurnsSaid := over
#print axioms proved
end Go.Proofs.Ytfihpljgbghogaa.parseTurns
