/- The ground of the proofs, part 3. -/
import Derived.Test.YtlnljanhnodhkaaK2
import Derived.RangeFuncBox
import Derived.Lib.Hide
import Derived.LoopTactic
/- The document's stream: Good. -/
namespace Go.Proofs.Ytlnljanhnodhkaa
open Go.RowKit Go.Shelf
set_option linter.unusedVariables false
set_option linter.unusedSimpArgs false
attribute [-simp] Try.isAgg39 Try.zeroValue39 Try.isAgg24 Try.zeroValue24
attribute [-go_sem] loadVar storeVar
set_option maxRecDepth 100000 in
theorem zero_smA (w : World) : (zeroValue 24).run Try.prog w = .ok (.agg #[.int .i64 0, .int .i64 0, .int .i64 0, .slice none 0 0]) w := by kernel_rfl
attribute [local go_sem] loadVar_openRS storeVar_openRS zero_rc zero_smA

theorem rcR_take {W : World} {a : Option Addr} {n c : Nat} {r : List RV} {l : List RC} (h : RcR W (.slice a n c) r l) {k : Nat} (hk : k ≤ l.length) : RcR W (.slice a k c) (r.take k) (l.take k) := by
  obtain ⟨a', cap, e, h1, h2, hz, hr, hs, h4⟩ := h
  obtain ⟨rfl, rfl, rfl⟩ := Value.slice.inj e
  refine ⟨a, c, by rw [List.length_take, Nat.min_eq_left hk], by rw [List.length_take]; omega, h2, hz, by rw [List.length_take, List.length_take, hr], fun j q s hq hl => ?_, ?_⟩
  · rw [List.getElem?_take] at hq hl
    split at hq
    · rename_i hj
      rw [if_pos hj] at hl
      exact hs j q s hq hl
    · cases hq
  · rcases h4 with rfl | ⟨b, off, rfl, h5, h6⟩
    · exact .inl (by simp)
    · refine .inr ⟨b, off, rfl, h5, fun j q hq => ?_⟩
      rw [List.getElem?_take] at hq
      split at hq
      · exact h6 j q hq
      · cases hq
theorem least_hyp {s : SM} (hh : hdOk s.bl s.ba s.id) {k : Nat} {x : RC} (h : okTo s k) (hx : s.re[k]? = some x) :
    (s.re.take k = [] ∧ leastAt s.re k = 0) ∨ ∃ j p, (s.re.take k).length = j + 1 ∧ (s.re.take k)[j]? = some p ∧ 0 ≤ p.fr + p.ct ∧ p.fr + p.ct ≤ 64 ∧ leastAt s.re k = if x.ze == p.ze then p.fr + p.ct + 1 else p.fr + p.ct := by
  have hkl := (List.getElem?_eq_some_iff.1 hx).1
  match k with
  | 0 => exact .inl ⟨rfl, rfl⟩
  | j + 1 =>
    have hp := List.getElem?_eq_getElem (l := s.re) (i := j) (by omega)
    obtain ⟨b1, b2, b3, b4⟩ := okTo_from hh h hp
    refine .inr ⟨j, _, by rw [List.length_take]; omega, by rw [List.getElem?_take, if_pos (by omega)]; exact hp, by omega, by omega, ?_⟩
    rw [leastAt_succ hp hx, least_ok (by omega) (by omega)]
theorem calls_extB {P : Program} {f : FuncId} {args : Array Value} {W : World} {p : Prop} (x : Ext W) (h : Calls P f args x.1 (RetB p x.1)) (t : Bool) (ht : t = true ↔ p) :
    Calls P f args x.1 fun e w'' => e = .returned (.bool t) ∧ ∃ y : Ext W, w'' = y.1 :=
  h.mono fun e w' ⟨u, h1, h2, h3⟩ => ⟨by rw [h1, show u = t from by rw [Bool.eq_iff_iff, h2, ht]], ⟨w', x.2.trans (h3.mono x.2.size)⟩, rfl⟩

set_option maxRecDepth 100000 in
set_option maxHeartbeats 8000000 in
/-- **Good**, the document's. -/
theorem rf16_good {w : World} {v : Value} {s : SM} (h : Smi w v s) : Calls Try.prog 13 #[v] w (RetB (sGood s) w) := by
  obtain ⟨r, ⟨⟨⟨xa, xn, xc⟩, rfl, hR⟩, ib, ia, ii⟩⟩ := h
  have HS := Lib.hid hR
  have hxn : xn = s.re.length := by obtain ⟨a', c', e, h1, h2⟩ := hR.len; cases e; rfl
  obtain ⟨hlc, hcm⟩ : xn ≤ xc ∧ xc ≤ maxLen := by obtain ⟨a', c', e, h1, h2⟩ := hR.len; cases e; exact ⟨h1, h2⟩
  have HL := Lib.hid hxn
  have HLC := Lib.hid hlc
  have hmx : (xn : Int) ≤ 9223372036854775807 := by unfold maxLen at hcm; omega
  have hmc : (xc : Int) ≤ 9223372036854775807 := by unfold maxLen at hcm; omega
  obtain ⟨bl, hbl⟩ : ∃ b, s.bl = b := ⟨_, rfl⟩
  obtain ⟨ba, hba⟩ : ∃ b, s.ba = b := ⟨_, rfl⟩
  obtain ⟨id, hid⟩ : ∃ b, s.id = b := ⟨_, rfl⟩
  have HBL := Lib.hid hbl
  have HBA := Lib.hid hba
  obtain ⟨B, hB⟩ : ∃ B, w.heap.size = B := ⟨_, rfl⟩
  have HSZ := Lib.hid hB
  obtain ⟨X, hX⟩ : ∃ X, w.alloc (.cells #[.int .i64 bl, .int .i64 ba, .int .i64 id, .slice xa xn xc] 24) = X := ⟨_, rfl⟩
  have hXs : X.heap.size = B + 1 := by rw [← hX, ← hB]; simp
  have k1 : RowC X B 24 (smL bl ba id (xa, xn, xc)) := by rw [← hX, ← hB]; exact RowC.new w _ _
  have hXb : Below B w X := by rw [← hX, ← hB]; exact below_new w _
  have LS := load_smC k1
  have hhd := rf16_head bl ba id (xa, xn, xc) X
  have K1 := Lib.hid k1
  have HXB := Lib.hid hXb
  have HXS := Lib.hid hXs
  rw [hbl, hba, hid]
  simp only [smV, slV] at LS hhd ⊢
  by_cases hh : hdOk bl ba id
  · have HH := Lib.hid (calls_yes hhd hh)
    have HHD : Hid (hdOk s.bl s.ba s.id) := by show hdOk _ _ _; rw [hbl, hba, hid]; exact hh
    clear hhd hh k1 hXb hXs hlc hcm ib ia ii hR hbl hba hid hxn
    go_enter Try.func13, Try.ntmps13
    go_wp2_with fail
    refine HH.out.mono ?_
    rintro e y ⟨rfl, hy⟩
    obtain ⟨D, hD⟩ : ∃ D, y.heap.size = D := ⟨_, rfl⟩
    have hDB : B + 1 ≤ D := by rw [← hD, ← HXS.out]; exact hy.size
    have LS2 := load_smC (K1.out.below hy)
    have ST := new_sm y bl ba id (xa, xn, xc)
    obtain ⟨Y, hY⟩ : ∃ Y, y.alloc (.cells (smL bl ba id (xa, xn, xc)).toArray 24) = Y := ⟨_, rfl⟩
    rw [hY, hD] at ST
    have bY : Below y.heap.size y Y := by rw [← hY]; exact below_new y _
    have rD : RowC Y D 24 (smL bl ba id (xa, xn, xc)) := by rw [← hY, ← hD]; exact RowC.new y _ _
    have rB : RowC Y B 24 (smL bl ba id (xa, xn, xc)) := (K1.out.below hy).below bY
    have cD := rD.cell 3 _ rfl
    have fD := rD.frozen 3
    have I1 : Hid (RowC (Y.setCell ⟨D, 3, none⟩ (.slice none 0 0)) B 24 (smL bl ba id (xa, xn, xc))) := set_other rB (by omega) 3 _
    have I2 : Hid (RowC (Y.setCell ⟨D, 3, none⟩ (.slice none 0 0)) D 24 (smL bl ba id (none, 0, 0))) := rD.set 3 _
    have I3 : Hid (Below B w (Y.setCell ⟨D, 3, none⟩ (.slice none 0 0))) := set_below ((HXB.out.trans (hy.mono (by have := HXS.out; omega))).trans (bY.mono (by omega))) (by omega) 3 _
    have HDB := Lib.hid hDB
    simp only [smV, slV] at ST LS2 cD
    clear hy bY rD rB LS hDB hX
    go_wp2_with fail
    clear ST LS2 cD fD hY hD
    obtain ⟨W, hW⟩ : ∃ W, Y.setCell ⟨D, 3, none⟩ (.slice none 0 0) = W := ⟨_, rfl⟩
    rw [hW] at I1 I2 I3
    try rw [hW]
    clear hW
    go_loopw [4] (fun iv wr => ∃ (k : Nat) (pv : SlV), k ≤ xn ∧ iv = .int .i64 (k : Int) ∧ Hid (RowC wr B 24 (smL bl ba id (xa, xn, xc))) ∧ Hid (RowC wr D 24 (smL bl ba id pv)) ∧ Hid (RcR w (slV pv) (r.take k) (s.re.take k)) ∧ Hid (Below B w wr) ∧ Hid (okTo s k)) (fun iv _ => xn - (intOf iv).toNat)
    case atStart => exact ⟨0, (none, 0, 0), Nat.zero_le _, rfl, I1, I2, by rw [List.take_zero, List.take_zero]; exact RcR.nil _, I3, okTo_zero s⟩
    case round =>
      obtain ⟨k, ⟨pa, pn, pc⟩, hk, rfl, H1, H2, H3, H4, H5⟩ := hrel
      have c3 := H1.out.cell 3 _ rfl
      simp only [slV] at c3
      by_cases hlt : k < xn
      · have g1 : (k : Int) < (xn : Int) := by omega
        have HLT := Lib.hid hlt
        have HW1 : Hid (wrap64 ((k : Int) + 1) = (k : Int) + 1) := IntWalk.wrap64_in _ (by omega)
        obtain ⟨x, hx⟩ : ∃ x, s.re[k]? = some x := ⟨_, List.getElem?_eq_getElem (by rw [← HL.out]; exact hlt)⟩
        have hRw := HS.out.below (by rw [HSZ.out]; exact H4.out)
        obtain ⟨b, off, q, rfl, hbl, hrq, hqi, d1, d2, d3, d4⟩ := hRw.at hx
        obtain ⟨q1, q2, q3, ⟨da, dn, dc⟩⟩ := q
        have eq1 := hqi.fr
        have eq2 := hqi.ct
        have eq3 := hqi.ze
        simp only at eq1 eq2 eq3
        have hHD := HHD.out
        rw [HBL.out] at hHD
        have hlo := least_hyp HHD.out H5.out hx
        have LR : ∀ y : Ext wr, (loadVar 39 ⟨b, off + k * 4, none⟩).run Try.prog y.1 = .ok (rvV (q1, q2, q3, (da, dn, dc))) y.1 := fun y => load_rc ((y.2.cell (p := ⟨b, off + k * 4, none⟩) hbl).trans d1) ((y.2.cell (p := ⟨b, off + k * 4 + 1, none⟩) hbl).trans d2) ((y.2.cell (p := ⟨b, off + k * 4 + 2, none⟩) hbl).trans d3) ((y.2.cell (p := ⟨b, off + k * 4 + 3, none⟩) hbl).trans d4)
        have LD : ∀ y : Ext wr, (loadVar 24 ⟨D, 0, none⟩).run Try.prog y.1 = .ok (smV bl ba id (pa, pn, pc)) y.1 := fun y => load_smC (H2.out.below y.2)
        have c3y : ∀ y : Ext wr, y.1.cell? ⟨B, 3, none⟩ = some (.slice (some ⟨b, off, none⟩) xn xc) := fun y => (H1.out.below y.2).cell 3 _ rfl
        have hnx : ∀ y : Ext wr, Calls Try.prog 33 #[smV bl ba id (pa, pn, pc), rvV (q1, q2, q3, (da, dn, dc))] y.1 (RetB (rcOk s k x) y.1) := fun y => by
          have := rf16_next (w := y.1) (id := id) (ba := ba) ⟨hHD.1, hHD.2.1⟩ (H3.out.below (H4.out.trans (y.2.mono (by have := H4.out.size; rw [HSZ.out] at this; exact this)) |> fun hh => by rw [HSZ.out]; exact hh)) (x := x) (d := (da, dn, dc)) (hqi.da.below y.2) _ hlo
          rw [← eq1, ← eq2, ← eq3] at this
          have e : (plOk bl (leastAt s.re k) x ∧ daOk ba x) = rcOk s k x := by unfold rcOk; rw [HBL.out, HBA.out]
          rw [e] at this
          exact this
        have HX := Lib.hid hx
        clear hRw hbl hrq hqi d1 d2 d3 d4 eq1 eq2 eq3 hHD hlo hx hlt
        simp only [smV, rvV, slV] at LR LD hnx c3y
        by_cases ho : rcOk s k x
        · have HNX : Hid (∀ y : Ext wr, _) := fun y => calls_extB y (hnx y) true ⟨fun _ => ho, fun _ => rfl⟩
          have HO : Hid (okTo s (k + 1)) := okTo_succ H5.out HX.out ho
          clear hnx ho
          have HSR : Hid (RcR w (.slice (some ⟨b, off, none⟩) (k + 1) xc) (r.take (k + 1)) (s.re.take (k + 1))) := rcR_take HS.out (by rw [← HL.out]; have := HLT.out; omega)
          go_wp2_with fail
          refine region_ext (by kernel_rfl) (by kernel_rfl) ?_
          repeat (go_big_quiet_step (with_reducible (first | exact HNX.out _)))
          try (with_reducible refine wpQuiet_nil ?_)
          intro z
          have HZ : Hid (Below B w z.1) := H4.out.trans (z.2.mono (by have := H4.out.size; rw [HSZ.out] at this; exact this))
          have e1 := c3y z
          have rD := H2.out.below z.2
          have rB := H1.out.below z.2
          have fD := rD.frozen 3
          have cD := rD.cell 3 _ rfl
          have J1 : Hid (RowC (z.1.setCell ⟨D, 3, none⟩ (.slice (some ⟨b, off, none⟩) (k + 1) xc)) B 24 (smL bl ba id (some ⟨b, off, none⟩, xn, xc))) := set_other rB (by have := HDB.out; omega) 3 _
          have J2 : Hid (RowC (z.1.setCell ⟨D, 3, none⟩ (.slice (some ⟨b, off, none⟩) (k + 1) xc)) D 24 (smL bl ba id (some ⟨b, off, none⟩, k + 1, xc))) := rD.set 3 _
          have J3 : Hid (Below B w (z.1.setCell ⟨D, 3, none⟩ (.slice (some ⟨b, off, none⟩) (k + 1) xc))) := set_below HZ.out (by have := HDB.out; omega) 3 _
          have g2 : (k : Int) + 1 ≤ (xc : Int) := by have := HLC.out; omega
          have g3 : (0 : Int) ≤ (k : Int) + 1 := by omega
          simp only [slV] at cD
          clear LR LD c3y rD rB
          go_wp2_with fail
          go_roundw
          case rel => exact ⟨k + 1, (some ⟨b, off, none⟩, k + 1, xc), HLT.out, by first | (simp; done) | (rw [HW1.out]; simp), J1, J2, HSR, J3, HO⟩
          case measure => have := HLT.out; first | (simp [intOf]; omega) | (rw [HW1.out]; simp [intOf]; omega)
        · have HNX : Hid (∀ y : Ext wr, _) := fun y => calls_extB y (hnx y) false ⟨fun h => (by cases h), fun h => absurd h ho⟩
          have HN : Hid (¬ sGood s) := sGood_not HX.out ho
          clear hnx ho
          go_wp2_with fail
          refine region_ext (by kernel_rfl) (by kernel_rfl) ?_
          repeat (go_big_quiet_step (with_reducible (first | exact HNX.out _)))
          try (with_reducible refine wpQuiet_nil ?_)
          intro z
          have HZ : Hid (Below B w z.1) := H4.out.trans (z.2.mono (by have := H4.out.size; rw [HSZ.out] at this; exact this))
          clear LR LD c3y
          go_wp2_with fail
          go_ret
          exact RetB.no HN.out (by rw [HSZ.out]; exact HZ.out)
      · have g1 : ¬ (k : Int) < (xn : Int) := by omega
        obtain rfl : k = xn := by omega
        have HGD : Hid (sGood s) := okTo_all (by rw [← HL.out]; exact H5.out) HHD.out
        go_wp2_with fail
        go_ret
        exact RetB.yes HGD.out (by rw [HSZ.out]; exact H4.out)
  · have HH := Lib.hid (calls_no hhd hh)
    have HN : Hid (¬ sGood s) := by intro hg; have := hg.1; rw [hbl, hba, hid] at this; exact hh this
    clear hhd hh k1 hXb hXs hlc hcm ib ia ii hR hbl hba hid hxn
    go_enter Try.func13, Try.ntmps13
    go_wp2_with fail
    refine HH.out.mono ?_
    rintro e y ⟨rfl, hy⟩
    have HB3 : Hid (Below B w y) := HXB.out.trans (hy.mono (by have := HXS.out; omega))
    clear hy
    go_wp2_with fail
    go_ret
    exact RetB.no HN.out (by rw [HSZ.out]; exact HB3.out)
end Go.Proofs.Ytlnljanhnodhkaa

/- The helpers of the statements on le: two rows of bytes alike; the document's own answers. -/
namespace Go.Proofs.Ytlnljanhnodhkaa
open Go.RowKit Go.Shelf
set_option linter.unusedVariables false

set_option maxRecDepth 100000 in
set_option maxHeartbeats 2000000 in
theorem refPut_some (n : Int) (size : Nat) (w : World) (hs1 : 1 ≤ size) (hs2 : size ≤ 16) (hn0 : 0 ≤ n) (hn1 : n < 18446744073709551616) :
    Calls Try.prog 26 #[.int .u64 n, .int .i64 (size : Int)] w fun e w' => ∃ v, e = .returned v ∧ w'.ownsRow w.heap.size 5 1 v size ((putL n size).map (Value.int .u8)) ∧ Below w.heap.size w w' := by
  obtain ⟨i0, hi, hz0, hz1, hz2⟩ := info_parts info_u8
  have g1 : ¬ ((size : Int) < 1) := by omega
  have g2 : ¬ (16 < (size : Int)) := by omega
  have g3 : decide ((size : Int) < 1) = false := by simpa using g1
  have g4 : decide (16 < (size : Int)) = false := by simpa using g2
  go_enter Try.func26, Try.ntmps26
  go_wp2_with (first | (at_make; refine wpList_make_full _ rfl _ _ 25 rfl w.heap.size 5 i0 (.int .u8 0) 1 Try.underlying25 hi hz0 hz1 .i64 .i64 _ _ size rfl rfl rfl rfl (by rw [hz2]; omega) (by unfold maxLen; omega) (by simp) ?_; intro w1 hown1 hgrow1))
  have hown2 : w1.ownsRow w.heap.size 5 1 (.slice (some ⟨w.heap.size, 0, none⟩) size size) size (putP n size 0) := by
    rw [putP_zero]
    rw [show (Value.int IntKind.u8 0).cells = #[.int .u8 0] from rfl, toList_madeCells_one, Nat.mul_one] at hown1
    exact hown1
  have hB1 : Below w.heap.size w w1 := (Below.refl _ w).grown hgrow1 (Nat.le_refl _) (fun k e => by cases e)
  have HO := Lib.hid hown2
  have HB := Lib.hid hB1
  clear hown1 hgrow1 hown2 hB1 g1 g2 g3 g4
  go_loopw [6] (fun i wr => ∃ k : Nat, k ≤ nPlaces (size : Int) ∧ i = .int .i64 k ∧ wr.ownsRow w.heap.size 5 1 (.slice (some ⟨w.heap.size, 0, none⟩) size size) size (putP n size k) ∧ Below w.heap.size w wr) (fun i _ => 8 - (intOf i).toNat)
  case atStart => exact ⟨0, Nat.zero_le _, rfl, HO.out, HB.out⟩
  case round =>
    obtain ⟨k, hk, rfl, hrow, hB⟩ := hrel
    have hk8 := nPlaces_le (size : Int)
    by_cases hlt : k < nPlaces (size : Int)
    · have hl : k < size := by have := nPlaces_lt hlt; omega
      have hl8 : k < 8 := by omega
      have hl8' : (k : Int) < 8 := by omega
      obtain ⟨z, c3⟩ : ∃ z, wr.cell? ⟨w.heap.size, k, none⟩ = some (.int .u8 z) := by
        rw [hrow.cellAt k (by omega)]
        unfold putP
        simp [hl]
      have f3 := hrow.frozenAt k
      have hst := hrow.stored k (.int .u8 (n / 2 ^ (8 * k) % 256))
      have HST := Lib.hid hst
      have HB1 := Lib.hid hB
      clear hrow hst hB
      go_wp2
      go_roundw
      case rel => exact ⟨k + 1, by omega, by go_num, by rw [putP_succ]; exact HST.out.1, HB1.out.setCell (p := ⟨w.heap.size, k, none⟩) (Nat.le_refl _) _⟩
      case measure => simp [intOf]; omega
    · have hk' : k = nPlaces (size : Int) := by omega
      have hd : ¬ (k < size ∧ k < 8) := by
        rintro ⟨h1, h2⟩
        unfold nPlaces at hk'; split at hk' <;> omega
      have hfin : wr.ownsRow w.heap.size 5 1 (.slice (some ⟨w.heap.size, 0, none⟩) size size) size ((putL n size).map (Value.int .u8)) := by
        rw [← putP_all, ← hk']; exact hrow
      have HF := Lib.hid hfin
      have HB1 := Lib.hid hB
      clear hk' hrow hB hfin
      by_cases h1 : k < size
      · have h2 : ¬ k < 8 := fun h => hd ⟨h1, h⟩
        have h3 : decide ((k : Int) < 8) = false := by simp; omega
        clear hd
        go_wp2
        go_ret
        exact ⟨_, rfl, HF.out, HB1.out⟩
      · have h3 : decide ((k : Int) < (size : Int)) = false := by simp; omega
        clear hd
        go_wp2
        go_ret
        exact ⟨_, rfl, HF.out, HB1.out⟩

end Go.Proofs.Ytlnljanhnodhkaa

/- The document's stream: sealed, Encode. -/
namespace Go.Proofs.Ytlnljanhnodhkaa
open Go.RowKit Go.Shelf
set_option linter.unusedVariables false
set_option linter.unusedSimpArgs false
attribute [-simp] Try.isAgg39 Try.zeroValue39 Try.isAgg24 Try.zeroValue24
attribute [-go_sem] loadVar storeVar
attribute [local go_sem] loadVar_openRS storeVar_openRS zero_rc zero_smA

set_option maxRecDepth 100000 in
theorem rput_sl {x : World} (n : Int) (k : Nat) (h1 : 1 ≤ k) (h2 : k ≤ 16) (h0 : 0 ≤ n) (h3 : n < 18446744073709551616) : Calls Try.prog 26 #[.int .u64 n, .int .i64 (k : Int)] x fun e w' => ∃ a c, e = .returned (.slice a k c) ∧ Sl .u8 w' (.slice a k c) (putL n k) ∧ Below x.heap.size x w' := by
  refine (refPut_some n k x h1 h2 h0 h3).mono ?_
  rintro e w' ⟨v, rfl, hrow, hb⟩
  have hs := Sl.of_owns (bs := putL n k) (by rw [putL_length]; exact hrow)
  obtain ⟨a, c, hv, -⟩ := id hs
  rw [putL_length] at hv
  subst hv
  exact ⟨a, c, rfl, hs, hb⟩

set_option maxRecDepth 100000 in
set_option maxHeartbeats 4000000 in
/-- **sealed**. -/
theorem rf16_sealed {W x : World} {v : SlV} {bs : List Int} (h : OwnB W x (slV v) bs) (hb : Below W.heap.size W x) (hr : IsBytes bs) (hl : bs.length ≤ 900000) :
    Calls Try.prog 27 #[slV v] x fun e w' => ∃ u : SlV, e = .returned (slV u) ∧ OwnB W w' (slV u) (sld bs) ∧ Below W.heap.size W w' := by
  obtain ⟨a, n, c⟩ := v
  have HO := Lib.hid h
  have HBX := Lib.hid hb
  have HC := Lib.hid (refCheck_any _ bs x (OwnB.sl h) hr)
  obtain ⟨K, hK⟩ : ∃ K, fnvMore fnvInit bs = K := ⟨_, rfl⟩
  have hu : IsU64 (fnvMore fnvInit bs) := isU64_more bs isU64_init
  rw [hK] at HC hu
  have HP : Hid (∀ x : World, Calls Try.prog 26 #[.int .u64 K, .int .i64 8] x fun e w' => ∃ a c, e = .returned (.slice a 8 c) ∧ Sl .u8 w' (.slice a 8 c) (putL K 8) ∧ Below x.heap.size x w') := fun x => rput_sl (x := x) K 8 (by omega) (by omega) hu.1 hu.2
  have HE : Hid (bs ++ putL K 8 = sld bs) := by show _ = _; simp [sld, hK]
  have HLn : Hid (bs.length ≤ 900000) := hl
  simp only [slV] at HC ⊢
  clear hu hr h hb hl hK
  go_enter Try.func27, Try.ntmps27
  go_wp2_with fail
  refine HC.out.mono ?_
  rintro e y ⟨rfl, rfl⟩
  go_wp2_with fail
  refine (HP.out y).mono ?_
  rintro e z ⟨a1, c1, rfl, hs, hz⟩
  have HZ : Hid (Below y.heap.size y z) := hz
  obtain ⟨v3, y3, r3, o3, b3⟩ := (HO.out.below HZ.out).app (HBX.out.trans (HZ.out.mono HBX.out.size)) hs (by have := HLn.out; rw [putL_length]; omega)
  rw [HE.out] at o3
  obtain ⟨⟨vx, vn, vc⟩, rfl, -⟩ := own_slV o3.out
  simp only [slV] at r3
  clear hs hz
  go_wp2_with (at_builtin; refine wpList_append_run (.tmp 3) (.tmp 6) 25 rfl rfl _ _ _ rfl rfl r3.out ?_)
  go_ret
  exact ⟨(vx, vn, vc), rfl, o3.out, b3.out⟩

set_option maxRecDepth 100000 in
set_option maxHeartbeats 4000000 in
/-- **Encode**, the document's, of what may not be. -/
theorem rf16_encodeN {w : World} {v : Value} {s : SM} (h : Smi w v s) (hn : ¬ sGood s) : Calls Try.prog 11 #[v] w fun e w' => e = .returned (.tuple #[.slice none 0 0, .int .i64 11]) ∧ Below w.heap.size w w' := by
  have HG : Hid (∀ y : World, Below w.heap.size w y → Calls Try.prog 13 #[v] y fun e w' => e = .returned (.bool false) ∧ Below y.heap.size y w') := fun y hy => calls_no (rf16_good (h.below hy)) hn
  obtain ⟨r, ⟨⟨⟨xa, xn, xc⟩, rfl, hR⟩, ib, ia, ii⟩⟩ := h
  obtain ⟨bl, hbl⟩ : ∃ b, s.bl = b := ⟨_, rfl⟩
  obtain ⟨ba, hba⟩ : ∃ b, s.ba = b := ⟨_, rfl⟩
  obtain ⟨id, hid⟩ : ∃ b, s.id = b := ⟨_, rfl⟩
  rw [hbl, hba, hid] at HG ⊢
  obtain ⟨X, hX⟩ : ∃ X, w.alloc (.cells #[.int .i64 bl, .int .i64 ba, .int .i64 id, .slice xa xn xc] 24) = X := ⟨_, rfl⟩
  have k1 : RowC X w.heap.size 24 (smL bl ba id (xa, xn, xc)) := by rw [← hX]; exact RowC.new w _ _
  have hXb : Below w.heap.size w X := by rw [← hX]; exact below_new w _
  have HXB := Lib.hid hXb
  have LS := load_smC k1
  have HG2 := Lib.hid (HG.out X hXb)
  simp only [smV, slV] at LS HG2 ⊢
  clear hXb k1 hbl hba hid hR ib ia ii HG hn
  go_enter Try.func11, Try.ntmps11
  go_wp2_with fail
  refine HG2.out.mono ?_
  rintro e y ⟨rfl, hy⟩
  have HY : Hid (Below w.heap.size w y) := HXB.out.trans (hy.mono HXB.out.size)
  clear hy
  go_wp2_with fail
  refine bodyPost_ret (results_tmp2 rfl _ _ _) rfl ?_
  exact ⟨rfl, HY.out⟩
--ENC
theorem own_weakX {W X x : World} {v : Value} {bs : List Int} (h : x.ownsRow X.heap.size 5 1 v bs.length (u8s bs)) (hN : W.heap.size ≤ X.heap.size) : OwnB W x v bs := own_weakS h hN
theorem bytes_eq_mk (x : RC) : rcB x = [mkB x] ++ putL x.fr 2 ++ putL x.ct 2 ++ x.da := rfl
set_option maxRecDepth 100000 in
set_option maxHeartbeats 8000000 in
/-- **Encode**, the document's, of what may be. -/
theorem rf16_encode {w : World} {v : Value} {s : SM} (h : Smi w v s) (hg : sGood s) : Calls Try.prog 11 #[v] w fun e w' => ∃ u, e = .returned (.tuple #[u, .int .i64 0]) ∧ OwnB w w' u (encB s) ∧ Below w.heap.size w w' := by
  have hmx : Try.prog.follows .mixedOrders = true := by kernel_rfl
  have hok := h.ok
  have HG : Hid (∀ y : World, Below w.heap.size w y → Calls Try.prog 13 #[v] y fun e w' => e = .returned (.bool true) ∧ Below y.heap.size y w') := fun y hy => calls_yes (rf16_good (h.below hy)) hg
  obtain ⟨r, ⟨⟨⟨xa, xn, xc⟩, rfl, hR⟩, ib, ia, ii⟩⟩ := h
  have HS := Lib.hid hR
  have hxn : xn = s.re.length := by obtain ⟨a', c', e, h1, h2⟩ := hR.len; cases e; rfl
  have HL := Lib.hid hxn
  have HSG := Lib.hid hg
  have HIB := Lib.hid (isBytes_bodyB hok)
  have HIH := Lib.hid (isBytes_hdB s)
  have HIR : Hid (∀ x ∈ s.re, IsBytes (rcB x)) := fun x hx => isBytes_rcB (hok.re x hx).da
  have HHB : Hid ([82, 86, 83, 49] ++ putL s.bl 2 ++ putL (s.ba + 1) 4 ++ putL s.id 4 ++ putL (s.re.length : Int) 2 = hdB s) := rfl
  obtain ⟨h1, h2, h3, h4, h5⟩ := hg.1
  have hmany : xn ≤ 64 := by rw [hxn]; exact hg.many
  obtain ⟨bl, hbl⟩ : ∃ b, s.bl = b := ⟨_, rfl⟩
  obtain ⟨ba, hba⟩ : ∃ b, s.ba = b := ⟨_, rfl⟩
  obtain ⟨id, hid⟩ : ∃ b, s.id = b := ⟨_, rfl⟩
  rw [← hxn, hbl, hba, hid] at HHB
  rw [hbl, hba, hid] at HG ⊢
  rw [hbl] at h1 h2
  rw [hid] at h3 h4 h5
  rw [hba] at h5
  have hb0 : -1 ≤ ba := by omega
  have hb1 : ba ≤ 1000000 := by omega
  have hb2 : 0 ≤ ba + 1 := by omega
  have HWB : Hid (wrap64 (ba + 1) = ba + 1) := IntWalk.wrap64_in _ (by omega)
  have HP1 : Hid (∀ x : World, Calls Try.prog 26 #[.int .u64 bl, .int .i64 2] x fun e w' => ∃ a c, e = .returned (.slice a 2 c) ∧ Sl .u8 w' (.slice a 2 c) (putL bl 2) ∧ Below x.heap.size x w') := fun x => rput_sl (x := x) bl 2 (by omega) (by omega) (by omega) (by omega)
  have HP2 : Hid (∀ x : World, Calls Try.prog 26 #[.int .u64 (ba + 1), .int .i64 4] x fun e w' => ∃ a c, e = .returned (.slice a 4 c) ∧ Sl .u8 w' (.slice a 4 c) (putL (ba + 1) 4) ∧ Below x.heap.size x w') := fun x => rput_sl (x := x) (ba + 1) 4 (by omega) (by omega) (by omega) (by omega)
  have HP3 : Hid (∀ x : World, Calls Try.prog 26 #[.int .u64 id, .int .i64 4] x fun e w' => ∃ a c, e = .returned (.slice a 4 c) ∧ Sl .u8 w' (.slice a 4 c) (putL id 4) ∧ Below x.heap.size x w') := fun x => rput_sl (x := x) id 4 (by omega) (by omega) (by omega) (by omega)
  have HP4 : Hid (∀ x : World, Calls Try.prog 26 #[.int .u64 (xn : Int), .int .i64 2] x fun e w' => ∃ a c, e = .returned (.slice a 2 c) ∧ Sl .u8 w' (.slice a 2 c) (putL (xn : Int) 2) ∧ Below x.heap.size x w') := fun x => rput_sl (x := x) (xn : Int) 2 (by omega) (by omega) (by omega) (by omega)
  obtain ⟨B, hB⟩ : ∃ B, w.heap.size = B := ⟨_, rfl⟩
  have HSZ := Lib.hid hB
  obtain ⟨X, hX⟩ : ∃ X, w.alloc (.cells #[.int .i64 bl, .int .i64 ba, .int .i64 id, .slice xa xn xc] 24) = X := ⟨_, rfl⟩
  have hXs : X.heap.size = B + 1 := by rw [← hX, ← hB]; simp
  have k1 : RowC X B 24 (smL bl ba id (xa, xn, xc)) := by rw [← hX, ← hB]; exact RowC.new w _ _
  have hXb : Below B w X := by rw [← hX, ← hB]; exact below_new w _
  have LS := load_smC k1
  have HG2 := Lib.hid (HG.out X (by rw [hB]; exact hXb))
  have K1 := Lib.hid k1
  have HXB := Lib.hid hXb
  have HXS := Lib.hid hXs
  simp only [smV, slV] at LS HG2 ⊢
  clear hXb k1 hbl hba hid hR ib ia ii HG hg hxn hXs hok h5
  go_enter Try.func11, Try.ntmps11
  go_wp2_with fail
  refine HG2.out.mono ?_
  rintro e y ⟨rfl, hy⟩
  have Ky := Lib.hid hy
  obtain ⟨y0, hy0⟩ : ∃ Y, y.alloc (.cells #[.int .u8 82, .int .u8 86, .int .u8 83, .int .u8 49] 5) = Y := ⟨_, rfl⟩
  have Oy0 : Hid (OwnB X y0 (slV (some ⟨y.heap.size, 0, none⟩, 4, 4)) [82, 86, 83, 49]) := by show OwnB _ _ _ _; rw [← hy0]; exact own_magic X y hy.size
  have Ky0 : Hid (Below X.heap.size X y0) := by show Below _ _ _; rw [← hy0]; exact hy.trans ((below_new y _).mono hy.size)
  have c0 : y0.cell? ⟨B, 0, none⟩ = some (.int .i64 bl) := (K1.out.below Ky0.out).cell 0 _ rfl
  clear hy LS hX hB
  go_wp2_with fail
  go_at_call 26
  refine (HP1.out y0).mono ?_
  rintro e y1 ⟨a1, n1, rfl, hs, hb⟩
  have Ky1 : Hid (Below X.heap.size X y1) := Ky0.out.trans (hb.mono Ky0.out.size)
  have Oy1 : Hid (OwnB X y1 (slV (some ⟨y.heap.size, 0, none⟩, 4, 4)) [82, 86, 83, 49]) := Oy0.out.below hb
  have S1 := Lib.hid hs
  clear hs hb
  clear c0 hy0
  obtain ⟨vy2, y2, r3, o3, b3⟩ := Oy1.out.app Ky1.out S1.out (by simp [putL_length])
  obtain ⟨⟨py2, qy2, cy2⟩, rfl, -⟩ := own_slV o3.out
  simp only [slV] at r3
  have Ky2 := b3
  have Oy2 : Hid (OwnB X y2 (slV (py2, qy2, cy2)) ([82, 86, 83, 49] ++ putL bl 2)) := by have h := o3.out; first | exact h | simpa using h
  clear o3 b3
  go_wp2_with (at_builtin; refine wpList_append_run (.tmp 12) (.tmp 16) 25 rfl rfl _ _ _ rfl rfl r3.out ?_)
  clear r3
  have e1 : ∀ z : Ext X, z.1.cell? ⟨B, 1, none⟩ = some (.int .i64 ba) := fun z => (K1.out.below z.2).cell 1 _ rfl
  have e2 : ∀ z : Ext X, z.1.cell? ⟨B, 2, none⟩ = some (.int .i64 id) := fun z => (K1.out.below z.2).cell 2 _ rfl
  have w1 := HWB.out
  obtain ⟨y3, hy3⟩ : ∃ Y, y2.drew = Y := ⟨_, rfl⟩
  have Oy3 : Hid (OwnB X y3 (slV (py2, qy2, cy2)) ([82, 86, 83, 49] ++ putL bl 2)) := by show OwnB _ _ _ _; rw [← hy3]; exact Oy2.out.below (Below.refl _ y2).drew
  have Ky3 : Hid (Below X.heap.size X y3) := by show Below _ _ _; rw [← hy3]; exact Ky2.out.trans ((Below.refl _ y2).drew.mono Ky2.out.size)
  refine region_plan (fun x => ∃ z : Ext X, x = z.1) 12 (.takes [0, 1, 2, 3, 4, 7, 8, 9] (.one 5 (.one 6 (.one 10 (.one 11 .leaf))))) hmx (by kernel_rfl) (by intro c x v a w h; cases x <;> exact h) ⟨⟨y2.drew, by rw [hy3]; exact Ky3.out⟩, rfl⟩ ?_
  repeat (rw [wpPlan_takes_cons]; simp only [nth_zero, nth_succ]; go_big_quiet_step (fail); refine wpQuiet_nil ?_)
  rw [wpPlan_takes_nil]
  try rw [hy3]
  clear e1 e2 w1 hy3 h1 h2 h3 h4 hb0 hb1 hb2
  rw [wpPlan_one]
  simp only [nth_zero, nth_succ]
  go_wp2_with fail
  go_at_call 26
  refine (HP2.out y3).mono ?_
  rintro e y4 ⟨a2, n2, rfl, hs, hb⟩
  have Ky4 : Hid (Below X.heap.size X y4) := Ky3.out.trans (hb.mono Ky3.out.size)
  have Oy4 : Hid (OwnB X y4 (slV (py2, qy2, cy2)) ([82, 86, 83, 49] ++ putL bl 2)) := Oy3.out.below hb
  have S2 := Lib.hid hs
  clear hs hb
  go_wp2_with fail
  refine planPost_mk ⟨⟨y4, Ky4.out⟩, rfl⟩ ?_
  rw [wpPlan_one]
  simp only [nth_zero, nth_succ]
  obtain ⟨vy5, y5, r3, o3, b3⟩ := Oy4.out.app Ky4.out S2.out (by simp [putL_length])
  obtain ⟨⟨py5, qy5, cy5⟩, rfl, -⟩ := own_slV o3.out
  simp only [slV] at r3
  have Ky5 := b3
  have Oy5 : Hid (OwnB X y5 (slV (py5, qy5, cy5)) ([82, 86, 83, 49] ++ putL bl 2 ++ putL (ba + 1) 4)) := by have h := o3.out; first | exact h | simpa using h
  clear o3 b3
  refine wpList_append_run (.tmp 18) (.tmp 23) 25 rfl rfl _ _ _ rfl rfl r3.out ?_
  clear r3
  go_wp2_with fail
  refine planPost_mk ⟨⟨y5, Ky5.out⟩, rfl⟩ ?_
  rw [wpPlan_one]
  simp only [nth_zero, nth_succ]
  go_wp2_with fail
  go_at_call 26
  refine (HP3.out y5).mono ?_
  rintro e y6 ⟨a3, n3, rfl, hs, hb⟩
  have Ky6 : Hid (Below X.heap.size X y6) := Ky5.out.trans (hb.mono Ky5.out.size)
  have Oy6 : Hid (OwnB X y6 (slV (py5, qy5, cy5)) ([82, 86, 83, 49] ++ putL bl 2 ++ putL (ba + 1) 4)) := Oy5.out.below hb
  have S3 := Lib.hid hs
  clear hs hb
  go_wp2_with fail
  refine planPost_mk ⟨⟨y6, Ky6.out⟩, rfl⟩ ?_
  rw [wpPlan_one]
  simp only [nth_zero, nth_succ]
  obtain ⟨vy7, y7, r3, o3, b3⟩ := Oy6.out.app Ky6.out S3.out (by simp [putL_length])
  obtain ⟨⟨py7, qy7, cy7⟩, rfl, -⟩ := own_slV o3.out
  simp only [slV] at r3
  have Ky7 := b3
  have Oy7 : Hid (OwnB X y7 (slV (py7, qy7, cy7)) ([82, 86, 83, 49] ++ putL bl 2 ++ putL (ba + 1) 4 ++ putL id 4)) := by have h := o3.out; first | exact h | simpa using h
  clear o3 b3
  refine wpList_append_run (.tmp 24) (.tmp 28) 25 rfl rfl _ _ _ rfl rfl r3.out ?_
  clear r3
  go_wp2_with fail
  refine planPost_mk ⟨⟨y7, Ky7.out⟩, rfl⟩ ?_
  rw [wpPlan_leaf]
  simp only [List.drop_succ_cons, List.drop_zero]
  have c3 : y7.cell? ⟨B, 3, none⟩ = some (.slice xa xn xc) := (K1.out.below Ky7.out).cell 3 _ rfl
  go_wp2_with fail
  go_at_call 26
  refine (HP4.out y7).mono ?_
  rintro e y8 ⟨a4, n4, rfl, hs, hb⟩
  have Ky8 : Hid (Below X.heap.size X y8) := Ky7.out.trans (hb.mono Ky7.out.size)
  have Oy8 : Hid (OwnB X y8 (slV (py7, qy7, cy7)) ([82, 86, 83, 49] ++ putL bl 2 ++ putL (ba + 1) 4 ++ putL id 4)) := Oy7.out.below hb
  have S4 := Lib.hid hs
  clear hs hb
  clear c3
  obtain ⟨vy9, y9, r3, o3, b3⟩ := Oy8.out.app Ky8.out S4.out (by simp [putL_length])
  obtain ⟨⟨py9, qy9, cy9⟩, rfl, -⟩ := own_slV o3.out
  simp only [slV] at r3
  have Ky9 := b3
  have Oy9 : Hid (OwnB X y9 (slV (py9, qy9, cy9)) ([82, 86, 83, 49] ++ putL bl 2 ++ putL (ba + 1) 4 ++ putL id 4 ++ putL (xn : Int) 2)) := by have h := o3.out; first | exact h | simpa using h
  clear o3 b3
  rw [HHB.out] at Oy9
  have HSE := Lib.hid (rf16_sealed Oy9.out Ky9.out HIH.out (by rw [hdB_length]; omega))
  go_wp2_with (at_builtin; refine wpList_append_run (.tmp 30) (.tmp 35) 25 rfl rfl _ _ _ rfl rfl r3.out ?_)
  clear r3
  simp only [slV] at HSE
  refine HSE.out.mono ?_
  rintro e ya ⟨⟨pa, qa, ca⟩, rfl, oa, ka⟩
  have Oya : Hid (OwnB X ya (slV (pa, qa, ca)) (toB s 0)) := by show OwnB _ _ _ _; rw [toB_zero]; exact oa
  have Kya := Lib.hid ka
  clear oa ka HSE
  simp only [slV]
  go_wp2_with fail
  clear HP1 HP2 HP3 HP4 HHB HWB HIH
  go_loopw [4, 5] (fun bv iv wr => ∃ (k : Nat) (u : SlV), k ≤ xn ∧ iv = .int .i64 (k : Int) ∧ bv = slV u ∧ Hid (OwnB X wr (slV u) (toB s k)) ∧ Hid (Below X.heap.size X wr)) (fun _ iv _ => xn - (intOf iv).toNat)
  case atStart => exact ⟨0, (pa, qa, ca), Nat.zero_le _, rfl, rfl, Oya, Kya⟩
  case round =>
    obtain ⟨k, ⟨ba1, ba2, ba3⟩, hk, rfl, rfl, OB, KB⟩ := hrel
    have c3 : wr.cell? ⟨B, 3, none⟩ = some (.slice xa xn xc) := (K1.out.below KB.out).cell 3 _ rfl
    simp only [slV]
    by_cases hlt : k < xn
    · have g1 : (k : Int) < (xn : Int) := by omega
      have HLT := Lib.hid hlt
      have HW1 : Hid (wrap64 ((k : Int) + 1) = (k : Int) + 1) := IntWalk.wrap64_in _ (by omega)
      obtain ⟨x, hx⟩ : ∃ x, s.re[k]? = some x := ⟨_, List.getElem?_eq_getElem (by rw [← HL.out]; exact hlt)⟩
      have hBw : Below w.heap.size w wr := by rw [HSZ.out]; exact HXB.out.trans (KB.out.mono (by have := HXS.out; omega))
      obtain ⟨b, off, q, rfl, hbl, hrq, hqi, d1, d2, d3, d4⟩ := (HS.out.below hBw).at hx
      obtain ⟨q1, q2, q3, ⟨da, dn, dc⟩⟩ := q
      have LR := load_rc d1 d2 d3 d4
      have ST := new_rc wr (q1, q2, q3, (da, dn, dc))
      obtain ⟨C, hC⟩ : ∃ C, wr.heap.size = C := ⟨_, rfl⟩
      obtain ⟨W2, hW2⟩ : ∃ W2, wr.alloc (.cells (rvL (q1, q2, q3, (da, dn, dc))).toArray 39) = W2 := ⟨_, rfl⟩
      rw [hW2, hC] at ST
      have b2 : Below wr.heap.size wr W2 := by rw [← hW2]; exact below_new wr _
      have hW2s : W2.heap.size = C + 1 := by rw [← hW2, ← hC]; simp
      have rC : RowC W2 C 39 (rvL (q1, q2, q3, (da, dn, dc))) := by rw [← hW2, ← hC]; exact RowC.new wr _ _
      obtain ⟨W3, hW3⟩ : ∃ W3, W2.alloc (.cells #[.int .u8 1] 5) = W3 := ⟨_, rfl⟩
      have b3 : Below W2.heap.size W2 W3 := by rw [← hW3]; exact below_new W2 _
      have o3 : OwnB W2 W3 (.slice (some ⟨C + 1, 0, none⟩) 1 1) [1] := by rw [← hW3, ← hW2s]; exact ownB_one W2 W2 (Nat.le_refl _) 1
      have r3 : RowC W3 (C + 1) 5 [.int .u8 1] := by rw [← hW3, ← hW2s]; exact RowC.new W2 _ _
      have z2 := (rC.below b3).cell 2 _ rfl
      have gat := HSG.out.at hx
      have glen := HSG.out.len hx
      have gto := toB_len HSG.out k
      have f1 : 0 ≤ q1 ∧ q1 ≤ 64 := by have := hqi.fr; simp only at this; omega
      have f2 : 0 ≤ q2 ∧ q2 ≤ 64 := by have := hqi.ct; simp only at this; omega
      have HPA : Hid (∀ x : World, Calls Try.prog 26 #[.int .u64 q1, .int .i64 2] x fun e w' => ∃ a c, e = .returned (.slice a 2 c) ∧ Sl .u8 w' (.slice a 2 c) (putL q1 2) ∧ Below x.heap.size x w') := fun x => rput_sl (x := x) q1 2 (by omega) (by omega) (by omega) (by omega)
      have HPB : Hid (∀ x : World, Calls Try.prog 26 #[.int .u64 q2, .int .i64 2] x fun e w' => ∃ a c, e = .returned (.slice a 2 c) ∧ Sl .u8 w' (.slice a 2 c) (putL q2 2) ∧ Below x.heap.size x w') := fun x => rput_sl (x := x) q2 2 (by omega) (by omega) (by omega) (by omega)
      have HTS := Lib.hid (toB_succ hx)
      have HTO := Lib.hid gto
      have HGL : Hid (x.da.length ≤ 4096) := glen
      have HRX := Lib.hid (HIR.out x (List.mem_of_getElem? hx))
      have HDS : Hid (Sl .u8 W2 (.slice da dn dc) x.da) := (hqi.da).below b2
      have HRC : Hid ([if q3 then 2 else 1] ++ putL q1 2 ++ putL q2 2 ++ x.da = rcB x) := by show _ = _; rw [bytes_eq_mk, ← hqi.fr, ← hqi.ct]; unfold mkB; rw [← hqi.ze]
      have RC := Lib.hid rC
      have B2 := Lib.hid b2
      have f10 := f1.1
      have f11 := f1.2
      have f20 := f2.1
      have f21 := f2.2
      simp only [rvV, slV] at LR ST
      simp only [rvL, slV] at hW2 z2
      clear hbl hrq hqi d1 d2 d3 d4 hBw gat glen gto f1 f2 hx hlt b2 rC
      cases q3 with
      | true =>
        have HRD : Hid ([2] ++ putL q1 2 ++ putL q2 2 ++ x.da = rcB x) := HRC.out
        clear HRC
        have fr3 := r3.frozen 0
        have ce3 := r3.cell 0 _ rfl
        obtain ⟨x0, hx0⟩ : ∃ Y, W3.setCell ⟨C + 1, 0, none⟩ (.int .u8 2) = Y := ⟨_, rfl⟩
        have Ox0 : Hid (OwnB W2 x0 (slV (some ⟨C + 1, 0, none⟩, 1, 1)) [2]) := by show OwnB _ _ _ _; rw [← hx0]; have := (World.ownsRow.stored o3 0 (.int .u8 2)).1; exact this
        have Kx0 : Hid (Below W2.heap.size W2 x0) := by show Below _ _ _; rw [← hx0]; exact set_below b3 (by omega) 0 _
        clear o3 b3 r3
        go_wp2_with fail
        try rw [hx0]
        clear hx0 fr3 ce3
        have e1 : ∀ z : Ext W2, z.1.cell? ⟨C, 0, none⟩ = some (.int .i64 q1) := fun z => (RC.out.below z.2).cell 0 _ rfl
        have e2 : ∀ z : Ext W2, z.1.cell? ⟨C, 1, none⟩ = some (.int .i64 q2) := fun z => (RC.out.below z.2).cell 1 _ rfl
        obtain ⟨x1, hx1⟩ : ∃ Y, x0.drew = Y := ⟨_, rfl⟩
        have Ox1 : Hid (OwnB W2 x1 (slV (some ⟨C + 1, 0, none⟩, 1, 1)) [2]) := by show OwnB _ _ _ _; rw [← hx1]; exact Ox0.out.below (Below.refl _ x0).drew
        have Kx1 : Hid (Below W2.heap.size W2 x1) := by show Below _ _ _; rw [← hx1]; exact Kx0.out.trans ((Below.refl _ x0).drew.mono Kx0.out.size)
        refine region_plan (fun x => ∃ z : Ext W2, x = z.1) 11 (.takes [0, 1, 2, 3, 6, 7, 8] (.one 4 (.one 5 (.one 9 (.one 10 .leaf))))) hmx (by kernel_rfl) (by intro c x v a w h; cases x <;> exact h) ⟨⟨x0.drew, by rw [hx1]; exact Kx1.out⟩, rfl⟩ ?_
        repeat (rw [wpPlan_takes_cons]; simp only [nth_zero, nth_succ]; go_big_quiet_step (fail); refine wpQuiet_nil ?_)
        rw [wpPlan_takes_nil]
        try rw [hx1]
        clear e1 e2 hx1
        rw [wpPlan_one]
        simp only [nth_zero, nth_succ]
        go_wp2_with fail
        go_at_call 26
        refine (HPA.out x1).mono ?_
        rintro e x2 ⟨a1, n1, rfl, hs, hb⟩
        have Kx2 : Hid (Below W2.heap.size W2 x2) := Kx1.out.trans (hb.mono Kx1.out.size)
        have Ox2 : Hid (OwnB W2 x2 (slV (some ⟨C + 1, 0, none⟩, 1, 1)) [2]) := Ox1.out.below hb
        have S1 := Lib.hid hs
        clear hs hb
        go_wp2_with fail
        refine planPost_mk ⟨⟨x2, Kx2.out⟩, rfl⟩ ?_
        rw [wpPlan_one]
        simp only [nth_zero, nth_succ]
        obtain ⟨vx3, x3, r3, o3, b3⟩ := Ox2.out.app Kx2.out S1.out (by simp [putL_length])
        obtain ⟨⟨px3, qx3, cx3⟩, rfl, -⟩ := own_slV o3.out
        simp only [slV] at r3
        have Kx3 := b3
        have Ox3 : Hid (OwnB W2 x3 (slV (px3, qx3, cx3)) ([2] ++ putL q1 2)) := by have h := o3.out; first | exact h | simpa using h
        clear o3 b3
        refine wpList_append_run (.tmp 55) (.tmp 59) 25 rfl rfl _ _ _ rfl rfl r3.out ?_
        clear r3
        go_wp2_with fail
        refine planPost_mk ⟨⟨x3, Kx3.out⟩, rfl⟩ ?_
        rw [wpPlan_one]
        simp only [nth_zero, nth_succ]
        go_wp2_with fail
        go_at_call 26
        refine (HPB.out x3).mono ?_
        rintro e x4 ⟨a2, n2, rfl, hs, hb⟩
        have Kx4 : Hid (Below W2.heap.size W2 x4) := Kx3.out.trans (hb.mono Kx3.out.size)
        have Ox4 : Hid (OwnB W2 x4 (slV (px3, qx3, cx3)) ([2] ++ putL q1 2)) := Ox3.out.below hb
        have S2 := Lib.hid hs
        clear hs hb
        go_wp2_with fail
        refine planPost_mk ⟨⟨x4, Kx4.out⟩, rfl⟩ ?_
        rw [wpPlan_one]
        simp only [nth_zero, nth_succ]
        obtain ⟨vx5, x5, r3, o3, b3⟩ := Ox4.out.app Kx4.out S2.out (by simp [putL_length])
        obtain ⟨⟨px5, qx5, cx5⟩, rfl, -⟩ := own_slV o3.out
        simp only [slV] at r3
        have Kx5 := b3
        have Ox5 : Hid (OwnB W2 x5 (slV (px5, qx5, cx5)) ([2] ++ putL q1 2 ++ putL q2 2)) := by have h := o3.out; first | exact h | simpa using h
        clear o3 b3
        refine wpList_append_run (.tmp 60) (.tmp 64) 25 rfl rfl _ _ _ rfl rfl r3.out ?_
        clear r3
        go_wp2_with fail
        refine planPost_mk ⟨⟨x5, Kx5.out⟩, rfl⟩ ?_
        rw [wpPlan_leaf]
        simp only [List.drop_succ_cons, List.drop_zero]
        have c4 : x5.cell? ⟨C, 3, none⟩ = some (.slice da dn dc) := (RC.out.below Kx5.out).cell 3 _ rfl
        obtain ⟨vx6, x6, r3, o3, b3⟩ := Ox5.out.app Kx5.out (HDS.out.below Kx5.out) (by simp [putL_length]; have := HGL.out; omega)
        obtain ⟨⟨px6, qx6, cx6⟩, rfl, -⟩ := own_slV o3.out
        simp only [slV] at r3
        have Kx6 := b3
        have Ox6 : Hid (OwnB W2 x6 (slV (px6, qx6, cx6)) ([2] ++ putL q1 2 ++ putL q2 2 ++ x.da)) := by have h := o3.out; first | exact h | simpa using h
        clear o3 b3
        rw [HRD.out] at Ox6
        have HSE := Lib.hid (rf16_sealed Ox6.out Kx6.out HRX.out (by rw [rcB_length]; have := HGL.out; omega))
        go_wp2_with (at_builtin; refine wpList_append_run (.tmp 67) (.tmp 69) 25 rfl rfl _ _ _ rfl rfl r3.out ?_)
        clear r3 c4
        simp only [slV] at HSE
        refine HSE.out.mono ?_
        rintro e x7 ⟨⟨p7, q7, c7⟩, rfl, o7, k7⟩
        have Kw7 : Below wr.heap.size wr x7 := B2.out.trans (k7.mono B2.out.size)
        obtain ⟨v8, x8, r8, o8, b8⟩ := OwnB.app (OB.out.below Kw7) (KB.out.trans (Kw7.mono KB.out.size)) (OwnB.sl o7) (by rw [sld_length, rcB_length]; have := HGL.out; have := HTO.out; omega)
        rw [← HTS.out] at o8
        obtain ⟨⟨p8, q8, c8⟩, rfl, -⟩ := own_slV o8.out
        simp only [slV] at r8 ⊢
        clear o7 k7 Kw7 HSE
        go_wp2_with (at_builtin; refine wpList_append_run (.tmp 66) (.tmp 71) 25 rfl rfl _ _ _ rfl rfl r8.out ?_)
        go_roundw
        case rel => exact ⟨k + 1, (p8, q8, c8), HLT.out, by first | (simp; done) | (rw [HW1.out]; simp), rfl, o8, b8⟩
        case measure => have := HLT.out; first | (simp [intOf]; omega) | (rw [HW1.out]; simp [intOf]; omega)
      | false =>
        have HRD : Hid ([1] ++ putL q1 2 ++ putL q2 2 ++ x.da = rcB x) := HRC.out
        clear HRC
        obtain ⟨x0, hx0⟩ : ∃ Y, Y = W3 := ⟨_, rfl⟩
        subst hx0
        have Ox0 : Hid (OwnB W2 x0 (slV (some ⟨C + 1, 0, none⟩, 1, 1)) [1]) := o3
        have Kx0 : Hid (Below W2.heap.size W2 x0) := b3
        clear o3 b3 r3
        go_wp2_with fail
        have e1 : ∀ z : Ext W2, z.1.cell? ⟨C, 0, none⟩ = some (.int .i64 q1) := fun z => (RC.out.below z.2).cell 0 _ rfl
        have e2 : ∀ z : Ext W2, z.1.cell? ⟨C, 1, none⟩ = some (.int .i64 q2) := fun z => (RC.out.below z.2).cell 1 _ rfl
        obtain ⟨x1, hx1⟩ : ∃ Y, x0.drew = Y := ⟨_, rfl⟩
        have Ox1 : Hid (OwnB W2 x1 (slV (some ⟨C + 1, 0, none⟩, 1, 1)) [1]) := by show OwnB _ _ _ _; rw [← hx1]; exact Ox0.out.below (Below.refl _ x0).drew
        have Kx1 : Hid (Below W2.heap.size W2 x1) := by show Below _ _ _; rw [← hx1]; exact Kx0.out.trans ((Below.refl _ x0).drew.mono Kx0.out.size)
        refine region_plan (fun x => ∃ z : Ext W2, x = z.1) 11 (.takes [0, 1, 2, 3, 6, 7, 8] (.one 4 (.one 5 (.one 9 (.one 10 .leaf))))) hmx (by kernel_rfl) (by intro c x v a w h; cases x <;> exact h) ⟨⟨x0.drew, by rw [hx1]; exact Kx1.out⟩, rfl⟩ ?_
        repeat (rw [wpPlan_takes_cons]; simp only [nth_zero, nth_succ]; go_big_quiet_step (fail); refine wpQuiet_nil ?_)
        rw [wpPlan_takes_nil]
        try rw [hx1]
        clear e1 e2 hx1
        rw [wpPlan_one]
        simp only [nth_zero, nth_succ]
        go_wp2_with fail
        go_at_call 26
        refine (HPA.out x1).mono ?_
        rintro e x2 ⟨a1, n1, rfl, hs, hb⟩
        have Kx2 : Hid (Below W2.heap.size W2 x2) := Kx1.out.trans (hb.mono Kx1.out.size)
        have Ox2 : Hid (OwnB W2 x2 (slV (some ⟨C + 1, 0, none⟩, 1, 1)) [1]) := Ox1.out.below hb
        have S1 := Lib.hid hs
        clear hs hb
        go_wp2_with fail
        refine planPost_mk ⟨⟨x2, Kx2.out⟩, rfl⟩ ?_
        rw [wpPlan_one]
        simp only [nth_zero, nth_succ]
        obtain ⟨vx3, x3, r3, o3, b3⟩ := Ox2.out.app Kx2.out S1.out (by simp [putL_length])
        obtain ⟨⟨px3, qx3, cx3⟩, rfl, -⟩ := own_slV o3.out
        simp only [slV] at r3
        have Kx3 := b3
        have Ox3 : Hid (OwnB W2 x3 (slV (px3, qx3, cx3)) ([1] ++ putL q1 2)) := by have h := o3.out; first | exact h | simpa using h
        clear o3 b3
        refine wpList_append_run (.tmp 55) (.tmp 59) 25 rfl rfl _ _ _ rfl rfl r3.out ?_
        clear r3
        go_wp2_with fail
        refine planPost_mk ⟨⟨x3, Kx3.out⟩, rfl⟩ ?_
        rw [wpPlan_one]
        simp only [nth_zero, nth_succ]
        go_wp2_with fail
        go_at_call 26
        refine (HPB.out x3).mono ?_
        rintro e x4 ⟨a2, n2, rfl, hs, hb⟩
        have Kx4 : Hid (Below W2.heap.size W2 x4) := Kx3.out.trans (hb.mono Kx3.out.size)
        have Ox4 : Hid (OwnB W2 x4 (slV (px3, qx3, cx3)) ([1] ++ putL q1 2)) := Ox3.out.below hb
        have S2 := Lib.hid hs
        clear hs hb
        go_wp2_with fail
        refine planPost_mk ⟨⟨x4, Kx4.out⟩, rfl⟩ ?_
        rw [wpPlan_one]
        simp only [nth_zero, nth_succ]
        obtain ⟨vx5, x5, r3, o3, b3⟩ := Ox4.out.app Kx4.out S2.out (by simp [putL_length])
        obtain ⟨⟨px5, qx5, cx5⟩, rfl, -⟩ := own_slV o3.out
        simp only [slV] at r3
        have Kx5 := b3
        have Ox5 : Hid (OwnB W2 x5 (slV (px5, qx5, cx5)) ([1] ++ putL q1 2 ++ putL q2 2)) := by have h := o3.out; first | exact h | simpa using h
        clear o3 b3
        refine wpList_append_run (.tmp 60) (.tmp 64) 25 rfl rfl _ _ _ rfl rfl r3.out ?_
        clear r3
        go_wp2_with fail
        refine planPost_mk ⟨⟨x5, Kx5.out⟩, rfl⟩ ?_
        rw [wpPlan_leaf]
        simp only [List.drop_succ_cons, List.drop_zero]
        have c4 : x5.cell? ⟨C, 3, none⟩ = some (.slice da dn dc) := (RC.out.below Kx5.out).cell 3 _ rfl
        obtain ⟨vx6, x6, r3, o3, b3⟩ := Ox5.out.app Kx5.out (HDS.out.below Kx5.out) (by simp [putL_length]; have := HGL.out; omega)
        obtain ⟨⟨px6, qx6, cx6⟩, rfl, -⟩ := own_slV o3.out
        simp only [slV] at r3
        have Kx6 := b3
        have Ox6 : Hid (OwnB W2 x6 (slV (px6, qx6, cx6)) ([1] ++ putL q1 2 ++ putL q2 2 ++ x.da)) := by have h := o3.out; first | exact h | simpa using h
        clear o3 b3
        rw [HRD.out] at Ox6
        have HSE := Lib.hid (rf16_sealed Ox6.out Kx6.out HRX.out (by rw [rcB_length]; have := HGL.out; omega))
        go_wp2_with (at_builtin; refine wpList_append_run (.tmp 67) (.tmp 69) 25 rfl rfl _ _ _ rfl rfl r3.out ?_)
        clear r3 c4
        simp only [slV] at HSE
        refine HSE.out.mono ?_
        rintro e x7 ⟨⟨p7, q7, c7⟩, rfl, o7, k7⟩
        have Kw7 : Below wr.heap.size wr x7 := B2.out.trans (k7.mono B2.out.size)
        obtain ⟨v8, x8, r8, o8, b8⟩ := OwnB.app (OB.out.below Kw7) (KB.out.trans (Kw7.mono KB.out.size)) (OwnB.sl o7) (by rw [sld_length, rcB_length]; have := HGL.out; have := HTO.out; omega)
        rw [← HTS.out] at o8
        obtain ⟨⟨p8, q8, c8⟩, rfl, -⟩ := own_slV o8.out
        simp only [slV] at r8 ⊢
        clear o7 k7 Kw7 HSE
        go_wp2_with (at_builtin; refine wpList_append_run (.tmp 66) (.tmp 71) 25 rfl rfl _ _ _ rfl rfl r8.out ?_)
        go_roundw
        case rel => exact ⟨k + 1, (p8, q8, c8), HLT.out, by first | (simp; done) | (rw [HW1.out]; simp), rfl, o8, b8⟩
        case measure => have := HLT.out; first | (simp [intOf]; omega) | (rw [HW1.out]; simp [intOf]; omega)
    · have g1 : ¬ (k : Int) < (xn : Int) := by omega
      obtain rfl : k = xn := by omega
      have OB2 : Hid (OwnB X wr (slV (ba1, ba2, ba3)) (bodyB s)) := by have h := OB.out; rw [HL.out, toB_all] at h; exact h
      have hlb : (bodyB s).length ≤ 300000 := by have := toB_len HSG.out s.re.length; rwa [toB_all] at this
      have HLB := Lib.hid hlb
      obtain ⟨ck, hck⟩ : ∃ ck, fnvMore fnvInit (bodyB s) = ck := ⟨_, rfl⟩
      have hu : IsU64 (fnvMore fnvInit (bodyB s)) := isU64_more (bodyB s) isU64_init
      rw [hck] at hu
      have HC := Lib.hid (refCheck_any _ (bodyB s) wr (OwnB.sl OB2.out) HIB.out)
      rw [hck] at HC
      have HP := Lib.hid (fun x => refPut_some ck 8 x (by omega) (by omega) hu.1 hu.2)
      have HE : Hid (bodyB s ++ [69] ++ putL ck 8 = encB s) := by show _ = _; simp [encB, hck]
      simp only [slV] at HC
      clear hlb hck hu
      go_wp2_with fail
      refine HC.out.mono ?_
      rintro e y ⟨rfl, rfl⟩
      clear HC
      go_wp2_with fail
      refine (HP.out y).mono ?_
      rintro e z ⟨v8, rfl, ho8, hz⟩
      obtain ⟨⟨pa', pn', pc'⟩, rfl, -⟩ := own_slV ho8
      obtain ⟨z1, hz1⟩ : ∃ Y, z.alloc (.cells #[.int .u8 69] 5) = Y := ⟨_, rfl⟩
      have b1 : Below z.heap.size z z1 := by rw [← hz1]; exact below_new z _
      have s69 : Sl .u8 z1 (.slice (some ⟨z.heap.size, 0, none⟩) 1 1) [69] := by rw [← hz1]; exact OwnB.sl (ownB_one z z (Nat.le_refl _) 69)
      have Kz1 : Below y.heap.size y z1 := hz.trans (b1.mono hz.size)
      have ob := OwnB.below OB2.out Kz1
      have hX1 : Below X.heap.size X z1 := KB.out.trans (Kz1.mono KB.out.size)
      obtain ⟨v2, z2, r2, o2, g2⟩ := run_append_bytes X.heap.size z1 _ (bodyB s) ob _ [69] s69 (by have := HLB.out; simp; omega) hX1.size
      have b2 : Below X.heap.size X z2 := hX1.grown g2 hX1.size (fun j e => (World.ownsRow.lt ob j e).1)
      have ho9 := (own_belowT ho8 b1).kept g2 (by
        cases ha : (slV (pa', pn', pc')).ownBlock with
        | none => exact .inl rfl
        | some j =>
          refine .inr fun e => ?_
          have h1 := (World.ownsRow.lt ho8 j ha).1
          have h2 := (World.ownsRow.lt OB2.out j e.symm).2
          omega)
      obtain ⟨v3, z3, r3, o3, g3⟩ := run_append_bytes X.heap.size z2 _ (bodyB s ++ [69]) o2 _ (putL ck 8) (Sl.of_owns (bs := putL ck 8) (by rw [putL_length]; exact ho9)) (by have := HLB.out; simp [putL_length]; omega) b2.size
      have b3 : Below X.heap.size X z3 := b2.grown g3 b2.size (fun j e => (World.ownsRow.lt o2 j e).1)
      rw [HE.out] at o3
      obtain ⟨⟨p2, q2, c2⟩, rfl, -⟩ := own_slV o2
      obtain ⟨⟨p3, q3, c3'⟩, rfl, -⟩ := own_slV o3
      have R2 := Lib.hid r2
      have R3 := Lib.hid r3
      have O3 := Lib.hid o3
      have B3 := Lib.hid b3
      simp only [slV] at R2 R3 ⊢
      clear ho8 hz b1 s69 Kz1 ob hX1 r2 o2 g2 b2 ho9 r3 o3 g3 b3
      go_wp2_with (at_builtin; first | refine wpList_append_run (.tmp 76) (.tmp 77) 25 rfl rfl _ _ _ rfl rfl R2.out ?_ | refine wpList_append_run (.tmp 78) (.tmp 79) 25 rfl rfl _ _ _ rfl rfl R3.out ?_)
      refine bodyPost_ret (results_tmp2 rfl _ _ _) rfl ?_
      refine ⟨_, rfl, ?_, by rw [HSZ.out]; exact HXB.out.trans (B3.out.mono (by have := HXS.out; omega))⟩
      exact own_weakX O3.out (by rw [HSZ.out]; have := HXS.out; omega)
end Go.Proofs.Ytlnljanhnodhkaa

