/- sentence -/
import Derived.Test.YtlnljanhnodhkaaK3
namespace Go.Proofs.Ytlnljanhnodhkaa.streamApart
open Go.ChangeShapes Go.WideShapes Go.ChangeAt Go.RowKit
set_option linter.unusedVariables false
set_option linter.unusedSimpArgs false
attribute [-simp] Try.isAgg39 Try.zeroValue39 Try.isAgg24 Try.zeroValue24 Try.isAgg41 Try.zeroValue41
attribute [-go_sem] loadVar storeVar
attribute [local go_sem] loadVar_openRSB storeVar_openRSB zero_rc zero_smB zero_blk build_rcZ build_rcD build_sm3 build_sm4 build_sm2

set_option maxRecDepth 100000 in
set_option maxHeartbeats 4000000 in
theorem walk (v0 v1 : Value) (w : World) (w0 : Arg w 24 v0) (w1 : Arg w 24 v1) :
    Calls Try.prog 4 #[v0, v1] w fun e w' => e = .returned (.bool true) ∧ Below w.heap.size w w' := by
  obtain ⟨s, hs0⟩ := w0.stream
  obtain ⟨t, ht0⟩ := w1.stream
  have HS0 := Lib.hid hs0
  have HT0 := Lib.hid ht0
  obtain ⟨r, ⟨⟨⟨xa, xn, xc⟩, rfl, hR⟩, -, -, -⟩⟩ := hs0
  obtain ⟨r', ⟨⟨⟨ya, yn, yc⟩, rfl, -⟩, -, -, -⟩⟩ := ht0
  have HR0 := Lib.hid hR
  have hxn : xn = s.re.length ∧ xn ≤ maxLen := by obtain ⟨a', c', e, h1, h2⟩ := hR.len; cases e; exact ⟨rfl, by omega⟩
  obtain ⟨hxn, hxm⟩ := hxn
  have HL := Lib.hid hxn
  have hmx : (xn : Int) ≤ 9223372036854775807 := by unfold maxLen at hxm; omega
  have HWK := Lib.hid sm_wakes
  have HOS := Lib.hid HS0.out.ok
  have HOT := Lib.hid HT0.out.ok
  have HFS : Hid (∀ x : World, Below w.heap.size w x → _) := fun x hx => sm_fair (HS0.out.below hx)
  have HFT : Hid (∀ x : World, Below w.heap.size w x → _) := fun x hx => sm_fair (HT0.out.below hx)
  have HGS : Hid (∀ x : World, Below w.heap.size w x → _) := fun x hx => sm_good (HS0.out.below hx)
  have HGT : Hid (∀ x : World, Below w.heap.size w x → _) := fun x hx => sm_good (HT0.out.below hx)
  have HSS : Hid (∀ x : World, Below w.heap.size w x → _) := fun x hx => sm_same (HS0.out.below hx) (HT0.out.below hx)
  have HES : Hid (∀ x : World, sGood s → Below w.heap.size w x → _) := fun x hg hx => sm_encode (HS0.out.below hx) hg
  have HET : Hid (∀ x : World, sGood t → Below w.heap.size w x → _) := fun x hg hx => sm_encode (HT0.out.below hx) hg
  have HESN : Hid (∀ x : World, ¬ sGood s → Below w.heap.size w x → _) := fun x hg hx => sm_encodeN (HS0.out.below hx) hg
  have HETN : Hid (∀ x : World, ¬ sGood t → Below w.heap.size w x → _) := fun x hg hx => sm_encodeN (HT0.out.below hx) hg
  obtain ⟨bl, hbl⟩ : ∃ b, s.bl = b := ⟨_, rfl⟩
  obtain ⟨ba, hba⟩ : ∃ b, s.ba = b := ⟨_, rfl⟩
  obtain ⟨id, hid⟩ : ∃ b, s.id = b := ⟨_, rfl⟩
  obtain ⟨bl', hbl'⟩ : ∃ b, t.bl = b := ⟨_, rfl⟩
  obtain ⟨ba', hba'⟩ : ∃ b, t.ba = b := ⟨_, rfl⟩
  obtain ⟨id', hid'⟩ : ∃ b, t.id = b := ⟨_, rfl⟩
  have HBL := Lib.hid hbl
  rw [hbl, hba, hid] at HFS HGS HSS HES HESN ⊢
  rw [hbl', hba', hid'] at HFT HGT HSS HET HETN ⊢
  obtain ⟨B, hB⟩ : ∃ B, w.heap.size = B := ⟨_, rfl⟩
  have HSZ := Lib.hid hB
  obtain ⟨X, hX⟩ : ∃ X, (w.alloc (.cells #[.int .i64 bl, .int .i64 ba, .int .i64 id, .slice xa xn xc] 24)).alloc (.cells #[.int .i64 bl', .int .i64 ba', .int .i64 id', .slice ya yn yc] 24) = X := ⟨_, rfl⟩
  have k1 : RowC X B 24 (smL bl ba id (xa, xn, xc)) := by rw [← hX, ← hB]; exact (RowC.new w _ _).below (below_new _ _)
  have k2 : RowC X (B + 1) 24 (smL bl' ba' id' (ya, yn, yc)) := by
    rw [← hX, ← hB]
    have := RowC.new (w.alloc (.cells #[.int .i64 bl, .int .i64 ba, .int .i64 id, .slice xa xn xc] 24)) 24 (smL bl' ba' id' (ya, yn, yc))
    rwa [World.size_alloc] at this
  have hXb : Below w.heap.size w X := by rw [← hX]; exact ((Below.refl _ w).alloc (Nat.le_refl _) _).alloc (by simp) _
  have K1 := Lib.hid k1
  have K2 := Lib.hid k2
  have HXB := Lib.hid hXb
  have HLD : Hid (∀ x : World, Below X.heap.size X x → (loadVar 24 ⟨B, 0, none⟩).run Try.prog x = .ok (smV bl ba id (xa, xn, xc)) x ∧ (loadVar 24 ⟨B + 1, 0, none⟩).run Try.prog x = .ok (smV bl' ba' id' (ya, yn, yc)) x) := fun x hx => ⟨load_smC (k1.below hx), load_smC (k2.below hx)⟩
  obtain ⟨l1, l2⟩ := HLD.out X (Below.refl _ _)
  have C1 := Lib.hid (HFS.out X hXb)
  simp only [smV, slV] at l1 l2 C1 HFS HFT HGS HGT HSS HES HET HESN HETN HLD ⊢
  clear k1 k2 hXb hR hbl hba hid hbl' hba' hid' hxn hxm w0 w1
  go_enter Try.func4, Try.ntmps4
  go_wp2_with fail
  refine C1.out.mono ?_
  rintro e y1 ⟨t1, rfl, -, hy⟩
  have KY1 := Lib.hid hy
  have HY1 : Hid (Below w.heap.size w y1) := HXB.out.trans (hy.mono HXB.out.size)
  clear C1 hy l1 l2
  cases t1 with
  | false =>
    go_wp2_with fail
    refine (HWK.out y1).mono ?_
    rintro e zz ⟨rfl, hzz⟩
    have HFIN : Hid (Below w.heap.size w zz) := HY1.out.trans (hzz.mono HY1.out.size)
    clear hzz
    go_wp2_with fail
    go_ret
    exact ⟨rfl, HFIN.out⟩
  | true =>
    obtain ⟨l1, l2⟩ := HLD.out y1 KY1.out
    have C2 := Lib.hid (HFT.out y1 HY1.out)
    go_wp2_with fail
    refine C2.out.mono ?_
    rintro e y2 ⟨t2, rfl, -, hy⟩
    have KY2 : Hid (Below X.heap.size X y2) := KY1.out.trans (hy.mono KY1.out.size)
    have HY2 : Hid (Below w.heap.size w y2) := HXB.out.trans (KY2.out.mono HXB.out.size)
    clear C2 hy l1 l2
    cases t2 with
    | false =>
      go_wp2_with fail
      refine (HWK.out y2).mono ?_
      rintro e zz ⟨rfl, hzz⟩
      have HFIN : Hid (Below w.heap.size w zz) := HY2.out.trans (hzz.mono HY2.out.size)
      clear hzz
      go_wp2_with fail
      go_ret
      exact ⟨rfl, HFIN.out⟩
    | true =>
      obtain ⟨l1, l2⟩ := HLD.out y2 KY2.out
      by_cases gs : sGood s
      · have C3 := Lib.hid (HES.out y2 gs HY2.out)
        go_wp2_with fail
        refine C3.out.mono ?_
        rintro e y3 ⟨u1, rfl, ho1, hy⟩
        have HO1 := Lib.hid ho1
        have KY3 : Hid (Below X.heap.size X y3) := KY2.out.trans (hy.mono KY2.out.size)
        have HY3 : Hid (Below w.heap.size w y3) := HXB.out.trans (KY3.out.mono HXB.out.size)
        clear C3 hy l1 l2
        obtain ⟨l1, l2⟩ := HLD.out y3 KY3.out
        by_cases gt : sGood t
        · have C4 := Lib.hid (HET.out y3 gt HY3.out)
          go_wp2_with fail
          refine C4.out.mono ?_
          rintro e y4 ⟨u2, rfl, ho2, hy⟩
          have HO2 := Lib.hid ho2
          have B34 := Lib.hid hy
          have KY4 : Hid (Below X.heap.size X y4) := KY3.out.trans (hy.mono KY3.out.size)
          have HY4 : Hid (Below w.heap.size w y4) := HXB.out.trans (KY4.out.mono HXB.out.size)
          clear C4 hy l1 l2
          obtain ⟨l1, l2⟩ := HLD.out y4 KY4.out
          have C5 := Lib.hid (calls_yes (HGS.out y4 HY4.out) gs)
          go_wp2_with fail
          refine C5.out.mono ?_
          rintro e y5 ⟨rfl, hy⟩
          have B45 := Lib.hid hy
          have KY5 : Hid (Below X.heap.size X y5) := KY4.out.trans (hy.mono KY4.out.size)
          have HY5 : Hid (Below w.heap.size w y5) := HXB.out.trans (KY5.out.mono HXB.out.size)
          clear C5 hy l1 l2
          obtain ⟨l1, l2⟩ := HLD.out y5 KY5.out
          have C6 := Lib.hid (calls_yes (HGT.out y5 HY5.out) gt)
          go_wp2_with fail
          refine C6.out.mono ?_
          rintro e y6 ⟨rfl, hy⟩
          have B46 : Hid (Below y4.heap.size y4 y6) := B45.out.trans (hy.mono B45.out.size)
          have B36 : Hid (Below y3.heap.size y3 y6) := B34.out.trans (B46.out.mono B34.out.size)
          have KY6 : Hid (Below X.heap.size X y6) := KY5.out.trans (hy.mono KY5.out.size)
          have HY6 : Hid (Below w.heap.size w y6) := HXB.out.trans (KY6.out.mono HXB.out.size)
          clear C6 hy l1 l2
          have hb3 : Below y3.heap.size y3 y6 := B36.out
          obtain ⟨⟨a1, n1, c1⟩, rfl, -⟩ := own_slV HO1.out
          obtain ⟨⟨a2, n2, c2⟩, rfl, -⟩ := own_slV HO2.out
          have s1 : ∀ z : Ext y6, Sl .u8 z.1 (slV (a1, n1, c1)) (encB s) := fun z => ((OwnB.sl HO1.out).below hb3).below z.2
          have s2 : ∀ z : Ext y6, Sl .u8 z.1 (slV (a2, n2, c2)) (encB t) := fun z => ((OwnB.sl HO2.out).below B46.out).below z.2
          have BB : Hid (∀ z : Ext y6, Calls Try.prog 14 #[slV (a1, n1, c1), slV (a2, n2, c2)] z.1 fun e w'' => e = .returned (.bool (decide (s = t))) ∧ ∃ x : Ext y6, w'' = x.1) := fun z => (eqk_bytes _ _ _ _ z.1 (s1 z) (s2 z) (isBytes_encB HOS.out) (isBytes_encB HOT.out)).mono fun e w'' ⟨h1, h2⟩ => ⟨by rw [h1, enc_iff gs gt], z, h2⟩
          have SS : Hid (∀ z : Ext y6, Calls Try.prog 17 #[.agg #[.int .i64 bl, .int .i64 ba, .int .i64 id, .slice xa xn xc], .agg #[.int .i64 bl', .int .i64 ba', .int .i64 id', .slice ya yn yc]] z.1 fun e w'' => e = .returned (.bool (decide (s = t))) ∧ ∃ x : Ext y6, w'' = x.1) := fun z => calls_ext z (HSS.out z.1 (HY6.out.trans (z.2.mono HY6.out.size)))
          have L1 : ∀ z : Ext y6, (loadVar 24 ⟨B, 0, none⟩).run Try.prog z.1 = .ok (.agg #[.int .i64 bl, .int .i64 ba, .int .i64 id, .slice xa xn xc]) z.1 := fun z => (HLD.out z.1 (KY6.out.trans (z.2.mono KY6.out.size))).1
          have L2 : ∀ z : Ext y6, (loadVar 24 ⟨B + 1, 0, none⟩).run Try.prog z.1 = .ok (.agg #[.int .i64 bl', .int .i64 ba', .int .i64 id', .slice ya yn yc]) z.1 := fun z => (HLD.out z.1 (KY6.out.trans (z.2.mono KY6.out.size))).2
          obtain ⟨dd, hdd⟩ : ∃ d, decide (s = t) = d := ⟨_, rfl⟩
          rw [hdd] at BB SS
          have qd : (dd != dd) = false := by simp
          simp only [slV] at BB ⊢
          clear s1 s2 hb3 hdd
          go_wp2_with fail
          refine region_ext (by kernel_rfl) (by kernel_rfl) ?_
          repeat (go_big_quiet_step (with_reducible (first | exact BB.out _ | exact SS.out _)))
          try (with_reducible refine wpQuiet_nil ?_)
          rintro ⟨y7, hy⟩
          simp only
          have KY7 : Hid (Below X.heap.size X y7) := KY6.out.trans (hy.mono KY6.out.size)
          have HY7 : Hid (Below w.heap.size w y7) := HXB.out.trans (KY7.out.mono HXB.out.size)
          clear hy L1 L2 BB SS
          have HLE : Hid ((encB s).length = 33 + rsLen s.re) := encB_length s
          have d0 := (K1.out.below KY7.out).cell 0 _ rfl
          have GS := Lib.hid gs
          have hun : n1 = (encB s).length := by obtain ⟨q, e, e2⟩ := own_slV HO1.out; simp only [slV, Value.slice.injEq] at e; omega
          have HUN := Lib.hid hun
          clear gs hun
          go_wp2_with fail
          clear d0
          go_loopw [9, 10, 11] (fun ev mv iv wr => ∃ k : Nat, k ≤ xn ∧ iv = .int .i64 (k : Int) ∧ ev = .int .i64 (endS s.re k) ∧ mv = .int .i64 ((33 + rsLen (s.re.take k) : Nat) : Int) ∧ Hid (Below X.heap.size X wr)) (fun _ _ iv _ => xn - (intOf iv).toNat)
          case atStart => exact ⟨0, Nat.zero_le _, rfl, rfl, by simp [rsLen], KY7⟩
          case round =>
            obtain ⟨k, hk, rfl, rfl, rfl, HB⟩ := hrel
            have e3 := (K1.out.below HB.out).cell 3 _ rfl
            simp only [slV] at e3
            by_cases hlt : k < xn
            · have g1 : (k : Int) < (xn : Int) := by omega
              have HLT := Lib.hid hlt
              have HW1 : Hid (wrap64 ((k : Int) + 1) = (k : Int) + 1) := IntWalk.wrap64_in _ (by have := GS.out.many; rw [← HL.out] at this; omega)
              obtain ⟨x, hx⟩ : ∃ x, s.re[k]? = some x := ⟨_, List.getElem?_eq_getElem (by rw [← HL.out]; exact hlt)⟩
              have hBw : Below w.heap.size w wr := HXB.out.trans (HB.out.mono HXB.out.size)
              obtain ⟨b, off, q, rfl, hbl, hrq, hqi, m1, m2, m3, m4⟩ := (HR0.out.below hBw).at hx
              obtain ⟨q1, q2, q3, ⟨da, dn, dc⟩⟩ := q
              have LR := load_rc m1 m2 m3 m4
              have ST := new_rc wr (q1, q2, q3, (da, dn, dc))
              obtain ⟨C, hC⟩ : ∃ C, wr.heap.size = C := ⟨_, rfl⟩
              obtain ⟨W2, hW2⟩ : ∃ W2, wr.alloc (.cells (rvL (q1, q2, q3, (da, dn, dc))).toArray 39) = W2 := ⟨_, rfl⟩
              rw [hW2, hC] at ST
              have b2 : Below wr.heap.size wr W2 := by rw [← hW2]; exact below_new wr _
              have rC : RowC W2 C 39 (rvL (q1, q2, q3, (da, dn, dc))) := by rw [← hW2, ← hC]; exact RowC.new wr _ _
              have z0 := rC.cell 0 _ rfl
              have z1 := rC.cell 1 _ rfl
              have z3 := rC.cell 3 _ rfl
              have HB2 : Hid (Below X.heap.size X W2) := HB.out.trans (b2.mono HB.out.size)
              have hat := GS.out.at hx
              have hel := endS_le GS.out hx
              have hlen := GS.out.len hx
              have hrl := rsLen_small GS.out k
              have hdn : dn = x.da.length := (Sl.cellW hqi.da).1
              have hq1 : q1 = x.fr := hqi.fr
              have hq2 : q2 = x.ct := hqi.ct
              obtain ⟨E, hE⟩ : ∃ E, endS s.re k = E := ⟨_, rfl⟩
              obtain ⟨M, hM⟩ : ∃ M, rsLen (s.re.take k) = M := ⟨_, rfl⟩
              rw [hE] at hel ⊢
              rw [hM] at hrl ⊢
              have v1 : decide (q1 < E) = false := by simp; omega
              have v2 : decide (q2 < 1) = false := by simp; omega
              have HWE : Hid (wrap64 (q1 + q2) = q1 + q2) := IntWalk.wrap64_in _ (by omega)
              have HWM : Hid (wrap64 (13 + (dn : Int)) = 13 + (dn : Int)) := IntWalk.wrap64_in _ (by omega)
              have HWN : Hid (wrap64 (33 + (M : Int) + (13 + (dn : Int))) = ((33 + (M + (13 + dn)) : Nat) : Int)) := by show _ = _; rw [show 33 + (M : Int) + (13 + (dn : Int)) = ((33 + (M + (13 + dn)) : Nat) : Int) by omega]; exact IntWalk.wrap64_in _ (by omega)
              have HES2 : Hid (endS s.re (k + 1) = q1 + q2) := by show _ = _; rw [endS_succ hx, hq1, hq2]
              have HRS2 : Hid (rsLen (s.re.take (k + 1)) = M + (13 + dn)) := by show _ = _; rw [rsLen_take hx, hM, hdn]
              simp only [rvV, slV] at LR ST z3
              simp only [rvL, slV] at hW2
              clear hbl hrq hqi m1 m2 m3 m4 hx hlt b2 rC hat hel hlen hrl hdn hq1 hq2 hE hM hBw
              have w1 := HWE.out
              have w2 := HWM.out
              have w3 := HWN.out
              go_wp2_with fail
              go_roundw
              case rel => exact ⟨k + 1, HLT.out, by first | (simp; done) | (rw [HW1.out]; simp), by first | (rw [HES2.out]; done) | rw [HES2.out, HWE.out], by rw [HRS2.out]; exact congrArg (Value.int .i64) HWN.out, HB2⟩
              case measure => have := HLT.out; first | (simp [intOf]; omega) | (rw [HW1.out]; simp [intOf]; omega)
            · have g1 : ¬ (k : Int) < (xn : Int) := by omega
              obtain rfl : k = xn := by omega
              have hen := (endS_bl GS.out (k := k) (by rw [HL.out]; exact Nat.le_refl _)).2
              obtain ⟨E, hE⟩ : ∃ E, endS s.re k = E := ⟨_, rfl⟩
              rw [hE, HBL.out] at hen
              rw [hE]
              have v1 : decide (E ≤ bl) = true := by simpa using hen
              have e0 := (K1.out.below HB.out).cell 0 _ rfl
              have HT : Hid (n1 = 33 + rsLen (s.re.take k)) := by show _ = _; rw [HUN.out, HLE.out, HL.out, List.take_length]
              obtain ⟨M, hM⟩ : ∃ M, 33 + rsLen (s.re.take k) = M := ⟨_, rfl⟩
              rw [hM] at HT ⊢
              obtain rfl : n1 = M := HT.out
              have v2 : ((n1 : Int) == (n1 : Int)) = true := by simp
              have HBw : Hid (Below w.heap.size w wr) := HXB.out.trans (HB.out.mono HXB.out.size)
              clear hlt hE hM hen
              go_wp2_with fail
              refine (HWK.out wr).mono ?_
              rintro e zz ⟨rfl, hzz⟩
              have HFIN : Hid (Below w.heap.size w zz) := HBw.out.trans (hzz.mono HBw.out.size)
              clear hzz
              go_wp2_with fail
              go_ret
              exact ⟨rfl, HFIN.out⟩
        · have C4 := Lib.hid (HETN.out y3 gt HY3.out)
          go_wp2_with fail
          refine C4.out.mono ?_
          rintro e y4 ⟨rfl, hy⟩
          have B34 := Lib.hid hy
          have KY4 : Hid (Below X.heap.size X y4) := KY3.out.trans (hy.mono KY3.out.size)
          have HY4 : Hid (Below w.heap.size w y4) := HXB.out.trans (KY4.out.mono HXB.out.size)
          clear C4 hy l1 l2
          obtain ⟨l1, l2⟩ := HLD.out y4 KY4.out
          have C5 := Lib.hid (calls_yes (HGS.out y4 HY4.out) gs)
          go_wp2_with fail
          refine C5.out.mono ?_
          rintro e y5 ⟨rfl, hy⟩
          have B45 := Lib.hid hy
          have KY5 : Hid (Below X.heap.size X y5) := KY4.out.trans (hy.mono KY4.out.size)
          have HY5 : Hid (Below w.heap.size w y5) := HXB.out.trans (KY5.out.mono HXB.out.size)
          clear C5 hy l1 l2
          obtain ⟨l1, l2⟩ := HLD.out y5 KY5.out
          have C6 := Lib.hid (calls_no (HGT.out y5 HY5.out) gt)
          go_wp2_with fail
          refine C6.out.mono ?_
          rintro e y6 ⟨rfl, hy⟩
          have B46 : Hid (Below y4.heap.size y4 y6) := B45.out.trans (hy.mono B45.out.size)
          have B36 : Hid (Below y3.heap.size y3 y6) := B34.out.trans (B46.out.mono B34.out.size)
          have KY6 : Hid (Below X.heap.size X y6) := KY5.out.trans (hy.mono KY5.out.size)
          have HY6 : Hid (Below w.heap.size w y6) := HXB.out.trans (KY6.out.mono HXB.out.size)
          clear C6 hy l1 l2
          obtain ⟨⟨a1, n1, c1⟩, rfl, -⟩ := own_slV HO1.out
          simp only [slV]
          go_wp2_with fail
          refine region_ext (by kernel_rfl) (by kernel_rfl) ?_
          repeat (go_big_quiet_step (fail))
          try (with_reducible refine wpQuiet_nil ?_)
          rintro ⟨y7, hy⟩
          simp only
          have KY7 : Hid (Below X.heap.size X y7) := KY6.out.trans (hy.mono KY6.out.size)
          have HY7 : Hid (Below w.heap.size w y7) := HXB.out.trans (KY7.out.mono HXB.out.size)
          clear hy
          have HLE : Hid ((encB s).length = 33 + rsLen s.re) := encB_length s
          have d0 := (K1.out.below KY7.out).cell 0 _ rfl
          have GS := Lib.hid gs
          have hun : n1 = (encB s).length := by obtain ⟨q, e, e2⟩ := own_slV HO1.out; simp only [slV, Value.slice.injEq] at e; omega
          have HUN := Lib.hid hun
          clear gs hun
          go_wp2_with fail
          clear d0
          go_loopw [9, 10, 11] (fun ev mv iv wr => ∃ k : Nat, k ≤ xn ∧ iv = .int .i64 (k : Int) ∧ ev = .int .i64 (endS s.re k) ∧ mv = .int .i64 ((33 + rsLen (s.re.take k) : Nat) : Int) ∧ Hid (Below X.heap.size X wr)) (fun _ _ iv _ => xn - (intOf iv).toNat)
          case atStart => exact ⟨0, Nat.zero_le _, rfl, rfl, by simp [rsLen], KY7⟩
          case round =>
            obtain ⟨k, hk, rfl, rfl, rfl, HB⟩ := hrel
            have e3 := (K1.out.below HB.out).cell 3 _ rfl
            simp only [slV] at e3
            by_cases hlt : k < xn
            · have g1 : (k : Int) < (xn : Int) := by omega
              have HLT := Lib.hid hlt
              have HW1 : Hid (wrap64 ((k : Int) + 1) = (k : Int) + 1) := IntWalk.wrap64_in _ (by have := GS.out.many; rw [← HL.out] at this; omega)
              obtain ⟨x, hx⟩ : ∃ x, s.re[k]? = some x := ⟨_, List.getElem?_eq_getElem (by rw [← HL.out]; exact hlt)⟩
              have hBw : Below w.heap.size w wr := HXB.out.trans (HB.out.mono HXB.out.size)
              obtain ⟨b, off, q, rfl, hbl, hrq, hqi, m1, m2, m3, m4⟩ := (HR0.out.below hBw).at hx
              obtain ⟨q1, q2, q3, ⟨da, dn, dc⟩⟩ := q
              have LR := load_rc m1 m2 m3 m4
              have ST := new_rc wr (q1, q2, q3, (da, dn, dc))
              obtain ⟨C, hC⟩ : ∃ C, wr.heap.size = C := ⟨_, rfl⟩
              obtain ⟨W2, hW2⟩ : ∃ W2, wr.alloc (.cells (rvL (q1, q2, q3, (da, dn, dc))).toArray 39) = W2 := ⟨_, rfl⟩
              rw [hW2, hC] at ST
              have b2 : Below wr.heap.size wr W2 := by rw [← hW2]; exact below_new wr _
              have rC : RowC W2 C 39 (rvL (q1, q2, q3, (da, dn, dc))) := by rw [← hW2, ← hC]; exact RowC.new wr _ _
              have z0 := rC.cell 0 _ rfl
              have z1 := rC.cell 1 _ rfl
              have z3 := rC.cell 3 _ rfl
              have HB2 : Hid (Below X.heap.size X W2) := HB.out.trans (b2.mono HB.out.size)
              have hat := GS.out.at hx
              have hel := endS_le GS.out hx
              have hlen := GS.out.len hx
              have hrl := rsLen_small GS.out k
              have hdn : dn = x.da.length := (Sl.cellW hqi.da).1
              have hq1 : q1 = x.fr := hqi.fr
              have hq2 : q2 = x.ct := hqi.ct
              obtain ⟨E, hE⟩ : ∃ E, endS s.re k = E := ⟨_, rfl⟩
              obtain ⟨M, hM⟩ : ∃ M, rsLen (s.re.take k) = M := ⟨_, rfl⟩
              rw [hE] at hel ⊢
              rw [hM] at hrl ⊢
              have v1 : decide (q1 < E) = false := by simp; omega
              have v2 : decide (q2 < 1) = false := by simp; omega
              have HWE : Hid (wrap64 (q1 + q2) = q1 + q2) := IntWalk.wrap64_in _ (by omega)
              have HWM : Hid (wrap64 (13 + (dn : Int)) = 13 + (dn : Int)) := IntWalk.wrap64_in _ (by omega)
              have HWN : Hid (wrap64 (33 + (M : Int) + (13 + (dn : Int))) = ((33 + (M + (13 + dn)) : Nat) : Int)) := by show _ = _; rw [show 33 + (M : Int) + (13 + (dn : Int)) = ((33 + (M + (13 + dn)) : Nat) : Int) by omega]; exact IntWalk.wrap64_in _ (by omega)
              have HES2 : Hid (endS s.re (k + 1) = q1 + q2) := by show _ = _; rw [endS_succ hx, hq1, hq2]
              have HRS2 : Hid (rsLen (s.re.take (k + 1)) = M + (13 + dn)) := by show _ = _; rw [rsLen_take hx, hM, hdn]
              simp only [rvV, slV] at LR ST z3
              simp only [rvL, slV] at hW2
              clear hbl hrq hqi m1 m2 m3 m4 hx hlt b2 rC hat hel hlen hrl hdn hq1 hq2 hE hM hBw
              have w1 := HWE.out
              have w2 := HWM.out
              have w3 := HWN.out
              go_wp2_with fail
              go_roundw
              case rel => exact ⟨k + 1, HLT.out, by first | (simp; done) | (rw [HW1.out]; simp), by first | (rw [HES2.out]; done) | rw [HES2.out, HWE.out], by rw [HRS2.out]; exact congrArg (Value.int .i64) HWN.out, HB2⟩
              case measure => have := HLT.out; first | (simp [intOf]; omega) | (rw [HW1.out]; simp [intOf]; omega)
            · have g1 : ¬ (k : Int) < (xn : Int) := by omega
              obtain rfl : k = xn := by omega
              have hen := (endS_bl GS.out (k := k) (by rw [HL.out]; exact Nat.le_refl _)).2
              obtain ⟨E, hE⟩ : ∃ E, endS s.re k = E := ⟨_, rfl⟩
              rw [hE, HBL.out] at hen
              rw [hE]
              have v1 : decide (E ≤ bl) = true := by simpa using hen
              have e0 := (K1.out.below HB.out).cell 0 _ rfl
              have HT : Hid (n1 = 33 + rsLen (s.re.take k)) := by show _ = _; rw [HUN.out, HLE.out, HL.out, List.take_length]
              obtain ⟨M, hM⟩ : ∃ M, 33 + rsLen (s.re.take k) = M := ⟨_, rfl⟩
              rw [hM] at HT ⊢
              obtain rfl : n1 = M := HT.out
              have v2 : ((n1 : Int) == (n1 : Int)) = true := by simp
              have HBw : Hid (Below w.heap.size w wr) := HXB.out.trans (HB.out.mono HXB.out.size)
              clear hlt hE hM hen
              go_wp2_with fail
              refine (HWK.out wr).mono ?_
              rintro e zz ⟨rfl, hzz⟩
              have HFIN : Hid (Below w.heap.size w zz) := HBw.out.trans (hzz.mono HBw.out.size)
              clear hzz
              go_wp2_with fail
              go_ret
              exact ⟨rfl, HFIN.out⟩
      · have C3 := Lib.hid (HESN.out y2 gs HY2.out)
        go_wp2_with fail
        refine C3.out.mono ?_
        rintro e y3 ⟨rfl, hy⟩
        have KY3 : Hid (Below X.heap.size X y3) := KY2.out.trans (hy.mono KY2.out.size)
        have HY3 : Hid (Below w.heap.size w y3) := HXB.out.trans (KY3.out.mono HXB.out.size)
        clear C3 hy l1 l2
        obtain ⟨l1, l2⟩ := HLD.out y3 KY3.out
        by_cases gt : sGood t
        · have C4 := Lib.hid (HET.out y3 gt HY3.out)
          go_wp2_with fail
          refine C4.out.mono ?_
          rintro e y4 ⟨u2, rfl, ho2, hy⟩
          have HO2 := Lib.hid ho2
          have B34 := Lib.hid hy
          have KY4 : Hid (Below X.heap.size X y4) := KY3.out.trans (hy.mono KY3.out.size)
          have HY4 : Hid (Below w.heap.size w y4) := HXB.out.trans (KY4.out.mono HXB.out.size)
          clear C4 hy l1 l2
          obtain ⟨l1, l2⟩ := HLD.out y4 KY4.out
          have C5 := Lib.hid (calls_no (HGS.out y4 HY4.out) gs)
          go_wp2_with fail
          refine C5.out.mono ?_
          rintro e y5 ⟨rfl, hy⟩
          have B45 := Lib.hid hy
          have KY5 : Hid (Below X.heap.size X y5) := KY4.out.trans (hy.mono KY4.out.size)
          have HY5 : Hid (Below w.heap.size w y5) := HXB.out.trans (KY5.out.mono HXB.out.size)
          clear C5 hy l1 l2
          obtain ⟨l1, l2⟩ := HLD.out y5 KY5.out
          have C6 := Lib.hid (calls_yes (HGT.out y5 HY5.out) gt)
          go_wp2_with fail
          refine C6.out.mono ?_
          rintro e y6 ⟨rfl, hy⟩
          have B46 : Hid (Below y4.heap.size y4 y6) := B45.out.trans (hy.mono B45.out.size)
          have B36 : Hid (Below y3.heap.size y3 y6) := B34.out.trans (B46.out.mono B34.out.size)
          have KY6 : Hid (Below X.heap.size X y6) := KY5.out.trans (hy.mono KY5.out.size)
          have HY6 : Hid (Below w.heap.size w y6) := HXB.out.trans (KY6.out.mono HXB.out.size)
          clear C6 hy l1 l2
          go_wp2_with fail
          refine region_ext (by kernel_rfl) (by kernel_rfl) ?_
          repeat (go_big_quiet_step (fail))
          try (with_reducible refine wpQuiet_nil ?_)
          rintro ⟨y7, hy⟩
          simp only
          have KY7 : Hid (Below X.heap.size X y7) := KY6.out.trans (hy.mono KY6.out.size)
          have HY7 : Hid (Below w.heap.size w y7) := HXB.out.trans (KY7.out.mono HXB.out.size)
          clear hy
          go_wp2_with fail
          refine (HWK.out y7).mono ?_
          rintro e zz ⟨rfl, hzz⟩
          have HFIN : Hid (Below w.heap.size w zz) := HY7.out.trans (hzz.mono HY7.out.size)
          clear hzz
          go_wp2_with fail
          go_ret
          exact ⟨rfl, HFIN.out⟩
        · have C4 := Lib.hid (HETN.out y3 gt HY3.out)
          go_wp2_with fail
          refine C4.out.mono ?_
          rintro e y4 ⟨rfl, hy⟩
          have B34 := Lib.hid hy
          have KY4 : Hid (Below X.heap.size X y4) := KY3.out.trans (hy.mono KY3.out.size)
          have HY4 : Hid (Below w.heap.size w y4) := HXB.out.trans (KY4.out.mono HXB.out.size)
          clear C4 hy l1 l2
          obtain ⟨l1, l2⟩ := HLD.out y4 KY4.out
          have C5 := Lib.hid (calls_no (HGS.out y4 HY4.out) gs)
          go_wp2_with fail
          refine C5.out.mono ?_
          rintro e y5 ⟨rfl, hy⟩
          have B45 := Lib.hid hy
          have KY5 : Hid (Below X.heap.size X y5) := KY4.out.trans (hy.mono KY4.out.size)
          have HY5 : Hid (Below w.heap.size w y5) := HXB.out.trans (KY5.out.mono HXB.out.size)
          clear C5 hy l1 l2
          obtain ⟨l1, l2⟩ := HLD.out y5 KY5.out
          have C6 := Lib.hid (calls_no (HGT.out y5 HY5.out) gt)
          go_wp2_with fail
          refine C6.out.mono ?_
          rintro e y6 ⟨rfl, hy⟩
          have B46 : Hid (Below y4.heap.size y4 y6) := B45.out.trans (hy.mono B45.out.size)
          have B36 : Hid (Below y3.heap.size y3 y6) := B34.out.trans (B46.out.mono B34.out.size)
          have KY6 : Hid (Below X.heap.size X y6) := KY5.out.trans (hy.mono KY5.out.size)
          have HY6 : Hid (Below w.heap.size w y6) := HXB.out.trans (KY6.out.mono HXB.out.size)
          clear C6 hy l1 l2
          go_wp2_with fail
          refine region_ext (by kernel_rfl) (by kernel_rfl) ?_
          repeat (go_big_quiet_step (fail))
          try (with_reducible refine wpQuiet_nil ?_)
          rintro ⟨y7, hy⟩
          simp only
          have KY7 : Hid (Below X.heap.size X y7) := KY6.out.trans (hy.mono KY6.out.size)
          have HY7 : Hid (Below w.heap.size w y7) := HXB.out.trans (KY7.out.mono HXB.out.size)
          clear hy
          go_wp2_with fail
          refine (HWK.out y7).mono ?_
          rintro e zz ⟨rfl, hzz⟩
          have HFIN : Hid (Below w.heap.size w zz) := HY7.out.trans (hzz.mono HY7.out.size)
          clear hzz
          go_wp2_with fail
          go_ret
          exact ⟨rfl, HFIN.out⟩

set_option maxRecDepth 100000 in
theorem lifted (os : Os) (started : os.Started) (H : Type) (enc : TypeId × Value → H) :
    ReturnsInHanded {} Try.checked os 4 .any (Rows.streamApartSpec.pre6 enc Try.prog Try.f4 Rows.streamApartRow.domain false) (Rows.streamApartSpec.post enc Try.prog Try.f4 false true false false) := by
  refine returnsInHanded_of_change (C := Try.checked) own started (by kernel_rfl) Try.func4
    (ChangeSpec.witness6 (enc := enc) (C := Try.checked) false ⟨#[], #[.agg #[.int .i64 0, .int .i64 0, .int .i64 0, .slice none 0 0], .agg #[.int .i64 0, .int .i64 0, .int .i64 0, .slice none 0 0]], []⟩ 8 (by kernel_rfl) (by kernel_rfl) (by kernel_rfl) (by kernel_rfl)) ?_
  intro W base args ds gs before hval0 hW hcnd _
  have hval : ∀ (j : Nat) t v, Try.f4.params[j]? = some t → args[j]? = some v → Value.okWide Try.prog W .any base t v := hval0
  have hW' := hW
  obtain ⟨p, q, hA0, hV, rfl, hfz, hnd⟩ := hW
  have hA : DataW.TrodAll enc Try.prog W 0 (fun _ => true) true Try.f4.params.toList args.toList ds p := hA0
  rw [Try.params4] at hA hval
  obtain ⟨v0, vs0, d0, ds0, p0, q0, hargs, rfl, rfl, h0, r0⟩ := trodAll_cons hA
  obtain ⟨v1, vs1, d1, ds1, p1, q1, rfl, rfl, rfl, h1, r1⟩ := trodAll_cons r0
  obtain ⟨rfl, rfl, rfl⟩ := trodAll_nil r1
  obtain rfl : args = #[v0, v1] := by cases args; simp_all
  obtain ⟨rfl, rfl⟩ := trodVars_none hV
  have lt0 : ∀ x ∈ p0, x.block < W.heap.size := by obtain ⟨m, hm⟩ := h0; exact DataW.trod_lt m _ _ _ hm
  have a0 := Arg.mk (hval 0 24 v0 rfl rfl) h0
  have lt1 : ∀ x ∈ p1, x.block < W.heap.size := by obtain ⟨m, hm⟩ := h1; exact DataW.trod_lt m _ _ _ hm
  have a1 := Arg.mk (hval 1 24 v1 rfl rfl) h1
  clear hA0 hval0
  refine (walk v0 v1 W a0 a1).mono fun e W' ⟨he, bel⟩ => ?_
  subst he
  exact ⟨_, rfl, _, _, _, [], _, [], hW', trodAll_mk1 (shut_bool Try.underlying4 _), (trodAll_cons_mk (Below.trod laidOut (by kernel_rfl) (of_decide_eq_true (by kernel_rfl)) h0 bel lt0) (trodAll_cons_mk (Below.trod laidOut (by kernel_rfl) (of_decide_eq_true (by kernel_rfl)) h1 bel lt1) trodAll_mk0)), rfl, bel.frame _, fun h => by cases h⟩

set_option maxRecDepth 100000 in
theorem over : Rows.streamApartRow.holds Try.pinned (OpenSpec.ofChange Rows.streamApartSpec) :=
  OpenClaim.holds_of_wide 4 Try.f4 rfl rfl rfl rfl rfl rfl rfl ⟨rfl, rfl, rfl, rfl, rfl⟩ rfl rfl rfl rfl rfl (by kernel_rfl) Try.func4 (by kernel_rfl)
    (of_decide_eq_true (by kernel_rfl)) (by unfold Func.isWrapper; first | (rw [if_pos (by decide +kernel)]; kernel_rfl) | (rw [if_neg (by decide +kernel)]; exact ⟨rfl, rfl⟩))
    (fun os started H enc _ => lifted os started H enc)

theorem proved : Rows.StreamApartSaid := over
#print axioms proved
end Go.Proofs.Ytlnljanhnodhkaa.streamApart
