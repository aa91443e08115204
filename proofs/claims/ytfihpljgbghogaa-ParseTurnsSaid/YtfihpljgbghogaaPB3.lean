/- The ground of the proofs, part 3. -/
import Derived.Test.YtfihpljgbghogaaPB2
import Derived.LoopTactic
/- The helpers of the statements on streams: Fair, Copy; revetmentkeep's Streams. -/
namespace Go.Proofs.Ytfihpljgbghogaa
open Go.RowKit Go.Shelf
set_option linter.unusedVariables false
set_option linter.unusedSimpArgs false
attribute [-simp] Try.isAgg49 Try.zeroValue49 Try.isAgg26 Try.zeroValue26
attribute [-go_sem] loadVar storeVar
attribute [local go_sem] loadVar_openRS storeVar_openRS zero_rc zero_smB

/-- No more than that is asked. -/
def smFair (s : SM) : Prop := s.re.length ≤ 70 ∧ ∀ x ∈ s.re, x.da.length ≤ 8000

set_option maxRecDepth 100000 in
set_option maxHeartbeats 8000000 in
/-- **Fair**. -/
theorem sm_fair {w : World} {v : Value} {s : SM} (h : Smi w v s) : Calls Try.prog 11 #[v] w fun e w' => ∃ t, e = .returned (.bool t) ∧ (t = true → smFair s) ∧ Below w.heap.size w w' := by
  obtain ⟨r, ⟨⟨⟨xa, xn, xc⟩, rfl, hR⟩, ib, ia, ii⟩⟩ := h
  have HS := Lib.hid hR
  have hxn : xn = s.re.length := by obtain ⟨a', c', e, h1, h2⟩ := hR.len; cases e; rfl
  obtain ⟨hlc, hcm⟩ : xn ≤ xc ∧ xc ≤ maxLen := by obtain ⟨a', c', e, h1, h2⟩ := hR.len; cases e; exact ⟨h1, h2⟩
  have HL := Lib.hid hxn
  have hmx : (xn : Int) ≤ 9223372036854775807 := by unfold maxLen at hcm; omega
  obtain ⟨bl, hbl⟩ : ∃ b, s.bl = b := ⟨_, rfl⟩
  obtain ⟨ba, hba⟩ : ∃ b, s.ba = b := ⟨_, rfl⟩
  obtain ⟨id, hid⟩ : ∃ b, s.id = b := ⟨_, rfl⟩
  obtain ⟨B, hB⟩ : ∃ B, w.heap.size = B := ⟨_, rfl⟩
  have HSZ := Lib.hid hB
  obtain ⟨X, hX⟩ : ∃ X, w.alloc (.cells #[.int .i64 bl, .int .i64 ba, .int .i64 id, .slice xa xn xc] 26) = X := ⟨_, rfl⟩
  have k1 : RowC X B 26 (smL bl ba id (xa, xn, xc)) := by rw [← hX, ← hB]; exact RowC.new w _ _
  have hXb : Below B w X := by rw [← hX, ← hB]; exact below_new w _
  have c3 := k1.cell 3 _ rfl
  have HXB := Lib.hid hXb
  have HRX : Hid (RcR X (.slice xa xn xc) r s.re) := hR.below (by rw [hB]; exact hXb)
  rw [hbl, hba, hid]
  simp only [smV, slV] at c3 ⊢
  clear k1 hXb hlc hcm ib ia ii hR hbl hba hid hxn
  go_enter Try.func11, Try.ntmps11
  go_wp2_with fail
  go_loop [3, 4] (fun nv iv => ∃ (k n : Nat), k ≤ xn ∧ iv = .int .i64 (k : Int) ∧ nv = .int .i64 (n : Int) ∧ Hid (n ≤ 8000) ∧ Hid (∀ x ∈ s.re.take k, x.da.length ≤ 8000)) (fun _ iv => xn - (intOf iv).toNat)
  case atStart => exact ⟨0, 0, Nat.zero_le _, rfl, rfl, Nat.zero_le _, fun x hx => by simp at hx⟩
  case round =>
    obtain ⟨k, n, hk, rfl, rfl, HN, HA⟩ := hrel
    by_cases hlt : k < xn
    · have g1 : (k : Int) < (xn : Int) := by omega
      have HLT := Lib.hid hlt
      have HW1 : Hid (wrap64 ((k : Int) + 1) = (k : Int) + 1) := IntWalk.wrap64_in _ (by omega)
      obtain ⟨x, hx⟩ : ∃ x, s.re[k]? = some x := ⟨_, List.getElem?_eq_getElem (by rw [← HL.out]; exact hlt)⟩
      obtain ⟨b, off, q, rfl, hbl, hrq, hqi, d1, d2, d3, d4⟩ := HRX.out.at hx
      obtain ⟨q1, q2, q3, ⟨da, dn, dc⟩⟩ := q
      have hdn : dn = x.da.length := (Sl.cellW hqi.da).1
      have HDN := Lib.hid hdn
      have hn8 := HN.out
      obtain ⟨m, hm⟩ : ∃ m, min dn 10000 = m := ⟨_, rfl⟩
      have hmin : ∀ (ts : Array TypeId) (t : TypeId) (W : World), (Builtin.min_ ts t #[.int .i64 (dn : Int), .int .i64 10000]).run Try.prog W = .ok (.int .i64 (m : Int)) W := fun ts t W => by
        rw [run_min_int2, ← hm]
        congr 2
        split <;> omega
      have HW2 : Hid (wrap64 ((n : Int) + (m : Int)) = ((n + m : Nat) : Int)) := by show _ = _; rw [show (n : Int) + (m : Int) = ((n + m : Nat) : Int) by omega]; exact IntWalk.wrap64_in _ (by omega)
      have HMM := Lib.hid hm
      have HTK : Hid (s.re.take (k + 1) = s.re.take k ++ [x]) := by show _ = _; rw [List.take_add_one, hx]; rfl
      simp only [slV] at d4
      clear hbl hrq hqi d1 d2 d3 hx hlt hdn hm
      by_cases h8 : 8000 < n + m
      · have q8 : decide (((n + m : Nat) : Int) > 8000) = true := by simp; omega
        have q8b : decide ((n : Int) + (m : Int) > 8000) = true := by simp; omega
        have w2 := HW2.out
        go_wp2_with fail
        go_ret
        first | exact ⟨false, rfl, (fun h => by cases h), by rw [HSZ.out]; exact HXB.out⟩ | exact .inl ⟨rfl, HXB.out⟩
      · have q8 : decide (((n + m : Nat) : Int) > 8000) = false := by simp; omega
        have q8b : decide ((n : Int) + (m : Int) > 8000) = false := by simp; omega
        have w2 := HW2.out
        have HN8 : Hid (n + m ≤ 8000) := by show _ ≤ _; omega
        clear h8
        go_wp2_with fail
        go_round
        case rel => exact ⟨k + 1, n + m, HLT.out, by first | (simp; done) | (rw [HW1.out]; simp), by first | (simp; done) | (rw [HW2.out]), HN8, fun y hy => by
          rw [HTK.out] at hy
          rcases List.mem_append.1 hy with hy | hy
          · exact HA.out y hy
          · obtain rfl : y = x := by simpa using hy
            have := HMM.out; have := HDN.out; have := HN8.out; omega⟩
        case measure => have := HLT.out; first | (simp [intOf]; omega) | (rw [HW1.out]; simp [intOf]; omega)
    · have g1 : ¬ (k : Int) < (xn : Int) := by omega
      obtain rfl : k = xn := by omega
      have HALL : Hid (∀ x ∈ s.re, x.da.length ≤ 8000) := fun x hx => HA.out x (by rw [HL.out, List.take_length]; exact hx)
      by_cases h70 : k ≤ 70
      · have q70 : decide ((k : Int) ≤ 70) = true := by simp; omega
        have H70 := Lib.hid h70
        clear h70
        go_wp2_with fail
        go_ret
        have hf : smFair s := ⟨by rw [← HL.out]; exact H70.out, HALL.out⟩
        first | exact ⟨true, rfl, fun _ => hf, by rw [HSZ.out]; exact HXB.out⟩ | exact .inr ⟨rfl, hf, HXB.out⟩
      · have q70 : decide ((k : Int) ≤ 70) = false := by simp; omega
        clear h70
        go_wp2_with fail
        go_ret
        first | exact ⟨false, rfl, (fun h => by cases h), by rw [HSZ.out]; exact HXB.out⟩ | exact .inl ⟨rfl, HXB.out⟩
theorem rc_slV {N : Nat} {W : World} {v : Value} {l : List RC} (h : RcO N W v l) : ∃ q : SlV, v = slV q ∧ q.2.1 = l.length := by
  obtain ⟨r, h1, h2, h3⟩ := h
  exact own_slV h2

theorem RcO.keptC {N B : Nat} {W W' : World} {v : Value} {l : List RC} {t : TypeId} {C : List Value} (h : RcO N W v l) (hB : RowC W B t C) (h1 : 49 ≠ t) (h2 : 5 ≠ t) (hg : W.grownBy W' (some B)) : RcO N W' v l := by
  obtain ⟨r, e1, e2, e3⟩ := h
  exact ⟨r, e1, e2.kept hg (.inr (row_ne e2 hB h1)), fun j q s a b => by
    obtain ⟨f1, f2, f3, f4, f5⟩ := e3 j q s a b
    exact ⟨f1, f2, f3, f4.kept hg (.inr (row_ne f4 hB h2)), f5⟩⟩
set_option maxRecDepth 100000 in
theorem store_smC {x : World} {B : Nat} {old : List Value} (bl ba id : Int) (v : SlV) (hr : RowC x B 26 old) (ho : old.length = 4) :
    ∃ y, (storeVar 26 ⟨B, 0, none⟩ (smV bl ba id v)).run Try.prog x = .ok () y ∧ RowC y B 26 (smL bl ba id v) ∧ x.grownBy y (some B) := by
  refine ⟨_, run_storeVar_row x B _ _ old.toArray (smL bl ba id v).toArray hr size_sm (by simpa [smL] using ho) (by kernel_rfl), setRow_heap x B _ _ _ _ hr, ?_⟩
  exact ⟨rfl, rfl, rfl, by rw [setRow_size]; exact Nat.le_refl _, fun k _ hk => setRow_other x B k _ (fun e => hk (by rw [e]))⟩
theorem sm_ext {s t : SM} (h1 : s.bl = t.bl) (h2 : s.ba = t.ba) (h3 : s.id = t.id) (h4 : s.re = t.re) : s = t := by cases s; cases t; simp_all
theorem rc_ext {s t : RC} (h1 : s.fr = t.fr) (h2 : s.ct = t.ct) (h3 : s.ze = t.ze) (h4 : s.da = t.da) : s = t := by cases s; cases t; simp_all
noncomputable instance : DecidableEq SM := fun a b => Classical.propDecidable _

set_option maxRecDepth 100000 in
set_option maxHeartbeats 8000000 in
/-- **Streams**: two held against each other. -/
theorem sm_same {w : World} {v u : Value} {s t : SM} (h : Smi w v s) (k : Smi w u t) : Calls Try.prog 10 #[v, u] w fun e w' => e = .returned (.bool (decide (s = t))) ∧ Below w.heap.size w w' := by
  have hmx : Try.prog.follows .mixedOrders = true := by kernel_rfl
  obtain ⟨Z, hZ⟩ : ∃ b, decide (s = t) = b := ⟨_, rfl⟩
  have hno : s ≠ t → Z = false := fun h => by rw [← hZ]; exact decide_eq_false h
  have hyes : s = t → Z = true := fun h => by rw [← hZ]; exact decide_eq_true h
  have HNO := Lib.hid hno
  have HYES := Lib.hid hyes
  rw [hZ]
  clear hZ hno hyes
  have hokS := h.ok
  have hokT := k.ok
  obtain ⟨r, ⟨⟨⟨xa, xn, xc⟩, rfl, hR⟩, -, -, -⟩⟩ := h
  obtain ⟨r', ⟨⟨⟨ya, yn, yc⟩, rfl, hR'⟩, -, -, -⟩⟩ := k
  have HS := Lib.hid hR
  have HT := Lib.hid hR'
  have hxn : xn = s.re.length ∧ xn ≤ maxLen := by obtain ⟨a', c', e, h1, h2⟩ := hR.len; cases e; exact ⟨rfl, by omega⟩
  have hyn : yn = t.re.length ∧ yn ≤ maxLen := by obtain ⟨a', c', e, h1, h2⟩ := hR'.len; cases e; exact ⟨rfl, by omega⟩
  obtain ⟨hxn, hxm⟩ := hxn
  obtain ⟨hyn, hym⟩ := hyn
  have HL := Lib.hid hxn
  have HL' := Lib.hid hyn
  have hmx1 : (xn : Int) ≤ 9223372036854775807 := by unfold maxLen at hxm; omega
  have hmx2 : (yn : Int) ≤ 9223372036854775807 := by unfold maxLen at hym; omega
  obtain ⟨bl, hbl⟩ : ∃ b, s.bl = b := ⟨_, rfl⟩
  obtain ⟨ba, hba⟩ : ∃ b, s.ba = b := ⟨_, rfl⟩
  obtain ⟨id, hid⟩ : ∃ b, s.id = b := ⟨_, rfl⟩
  obtain ⟨bl', hbl'⟩ : ∃ b, t.bl = b := ⟨_, rfl⟩
  obtain ⟨ba', hba'⟩ : ∃ b, t.ba = b := ⟨_, rfl⟩
  obtain ⟨id', hid'⟩ : ∃ b, t.id = b := ⟨_, rfl⟩
  have H1 := Lib.hid hbl
  have H2 := Lib.hid hba
  have H3 := Lib.hid hid
  have H1' := Lib.hid hbl'
  have H2' := Lib.hid hba'
  have H3' := Lib.hid hid'
  have HOS := Lib.hid hokS
  have HOT := Lib.hid hokT
  obtain ⟨B, hB⟩ : ∃ B, w.heap.size = B := ⟨_, rfl⟩
  have HSZ := Lib.hid hB
  obtain ⟨X, hX⟩ : ∃ X, (w.alloc (.cells #[.int .i64 bl, .int .i64 ba, .int .i64 id, .slice xa xn xc] 26)).alloc (.cells #[.int .i64 bl', .int .i64 ba', .int .i64 id', .slice ya yn yc] 26) = X := ⟨_, rfl⟩
  have k1 : RowC X B 26 (smL bl ba id (xa, xn, xc)) := by rw [← hX, ← hB]; exact (RowC.new w _ _).below (below_new _ _)
  have k2 : RowC X (B + 1) 26 (smL bl' ba' id' (ya, yn, yc)) := by
    rw [← hX, ← hB]
    have := RowC.new (w.alloc (.cells #[.int .i64 bl, .int .i64 ba, .int .i64 id, .slice xa xn xc] 26)) 26 (smL bl' ba' id' (ya, yn, yc))
    rwa [World.size_alloc] at this
  have hXb : Below B w X := by rw [← hX, ← hB]; exact ((Below.refl _ w).alloc (Nat.le_refl _) _).alloc (by simp) _
  have K1 := Lib.hid k1
  have K2 := Lib.hid k2
  have HXB := Lib.hid hXb
  have c0 := k1.cell 0 _ rfl
  have c1 := k1.cell 1 _ rfl
  have c2 := k1.cell 2 _ rfl
  have c3 := k1.cell 3 _ rfl
  have d0 := k2.cell 0 _ rfl
  have d1 := k2.cell 1 _ rfl
  have d2 := k2.cell 2 _ rfl
  have d3 := k2.cell 3 _ rfl
  have hst : ∀ {a b : SM}, a = b → a.bl = b.bl ∧ a.ba = b.ba ∧ a.id = b.id ∧ a.re = b.re := fun h => by subst h; exact ⟨rfl, rfl, rfl, rfl⟩
  have HST := Lib.hid (fun h => hst (a := s) (b := t) h)
  rw [hbl, hba, hid, hbl', hba', hid']
  simp only [smV, slV] at c3 d3 ⊢
  clear k1 k2 hXb hR hR' hbl hba hid hbl' hba' hid' hxn hyn hxm hym hst hokS hokT
  by_cases p1 : bl = bl'
  · have q1 : (bl != bl') = false := by simp [p1]
    have P1 := Lib.hid p1
    clear p1
    by_cases p2 : ba = ba'
    · have q2 : (ba != ba') = false := by simp [p2]
      have P2 := Lib.hid p2
      clear p2
      by_cases p3 : id = id'
      · have q3 : (id != id') = false := by simp [p3]
        have P3 := Lib.hid p3
        clear p3
        by_cases p4 : xn = yn
        · have q4 : ((xn : Int) != (yn : Int)) = false := by simp; omega
          have P4 := Lib.hid p4
          clear p4
          go_enter Try.func10, Try.ntmps10
          go_wp2_with fail
          go_loopw [5] (fun iv wr => ∃ k : Nat, k ≤ xn ∧ iv = .int .i64 (k : Int) ∧ Hid (Below X.heap.size X wr) ∧ Hid (s.re.take k = t.re.take k)) (fun iv _ => xn - (intOf iv).toNat)
          case atStart => exact ⟨0, Nat.zero_le _, rfl, Below.refl _ _, rfl⟩
          case round =>
            obtain ⟨k, hk, rfl, HB, HE⟩ := hrel
            have e3 := (K1.out.below HB.out).cell 3 _ rfl
            have f3 := (K2.out.below HB.out).cell 3 _ rfl
            simp only [slV] at e3 f3
            by_cases hlt : k < xn
            · skip
              have g1 : (k : Int) < (xn : Int) := by omega
              have HLT := Lib.hid hlt
              have HP4 := P4.out
              have HW1 : Hid (wrap64 ((k : Int) + 1) = (k : Int) + 1) := IntWalk.wrap64_in _ (by omega)
              obtain ⟨x, hx⟩ : ∃ x, s.re[k]? = some x := ⟨_, List.getElem?_eq_getElem (by rw [← HL.out]; exact hlt)⟩
              obtain ⟨y, hy⟩ : ∃ y, t.re[k]? = some y := ⟨_, List.getElem?_eq_getElem (by rw [← HL'.out]; omega)⟩
              have hBw : Below w.heap.size w wr := by rw [HSZ.out]; exact HXB.out.trans (HB.out.mono (by have := K1.out.lt; omega))
              obtain ⟨b, off, q, rfl, hbl, hrq, hqi, m1, m2, m3, m4⟩ := (HS.out.below hBw).at hx
              obtain ⟨b', off', q', rfl, hbl', hrq', hqi', n1, n2, n3, n4⟩ := (HT.out.below hBw).at hy
              obtain ⟨q1, q2, q3, ⟨xa1, xn1, xc1⟩⟩ := q
              obtain ⟨r1, r2, r3, ⟨ya1, yn1, yc1⟩⟩ := q'
              have LX : ∀ z : Ext wr, (loadVar 49 ⟨b, off + k * 4, none⟩).run Try.prog z.1 = .ok (rvV (q1, q2, q3, (xa1, xn1, xc1))) z.1 := fun z => load_rc ((z.2.cell (p := ⟨b, off + k * 4, none⟩) hbl).trans m1) ((z.2.cell (p := ⟨b, off + k * 4 + 1, none⟩) hbl).trans m2) ((z.2.cell (p := ⟨b, off + k * 4 + 2, none⟩) hbl).trans m3) ((z.2.cell (p := ⟨b, off + k * 4 + 3, none⟩) hbl).trans m4)
              have LY : ∀ z : Ext wr, (loadVar 49 ⟨b', off' + k * 4, none⟩).run Try.prog z.1 = .ok (rvV (r1, r2, r3, (ya1, yn1, yc1))) z.1 := fun z => load_rc ((z.2.cell (p := ⟨b', off' + k * 4, none⟩) hbl').trans n1) ((z.2.cell (p := ⟨b', off' + k * 4 + 1, none⟩) hbl').trans n2) ((z.2.cell (p := ⟨b', off' + k * 4 + 2, none⟩) hbl').trans n3) ((z.2.cell (p := ⟨b', off' + k * 4 + 3, none⟩) hbl').trans n4)
              have e3y : ∀ z : Ext wr, z.1.cell? ⟨B, 3, none⟩ = some (.slice (some ⟨b, off, none⟩) xn xc) := fun z => ((K1.out.below HB.out).below z.2).cell 3 _ rfl
              have f3y : ∀ z : Ext wr, z.1.cell? ⟨B + 1, 3, none⟩ = some (.slice (some ⟨b', off', none⟩) yn yc) := fun z => ((K2.out.below HB.out).below z.2).cell 3 _ rfl
              have HEX := Lib.hid hqi
              have HEY := Lib.hid hqi'
              have HX := Lib.hid hx
              have HY := Lib.hid hy
              have g2 : (k : Int) < (yn : Int) := by omega
              obtain ⟨C, hC⟩ : ∃ C, wr.heap.size = C := ⟨_, rfl⟩
              have HC := Lib.hid hC
              have hXs : X.heap.size ≤ C := by rw [← hC]; exact HB.out.size
              have HXS2 := Lib.hid hXs
              have HSZX : Hid (B ≤ X.heap.size) := by show _ ≤ _; have := K1.out.lt; omega
              have HBY : Hid (∀ z : World, Below wr.heap.size wr z → Calls Try.prog 13 #[.slice xa1 xn1 xc1, .slice ya1 yn1 yc1] z fun e w' => e = .returned (.bool (decide (x.da = y.da))) ∧ w' = z) := fun z hz => eqk_bytes _ _ _ _ z (HEX.out.da.below hz) (HEY.out.da.below hz) HEX.out.ok.da HEY.out.ok.da
              simp only [rvV, slV] at LX LY
              clear hbl hbl' hrq hrq' hqi hqi' m1 m2 m3 m4 n1 n2 n3 n4 hBw hx hy hlt hX hXs HP4
              by_cases z1 : q1 = r1
              · have w1 : (q1 != r1) = false := by simp [z1]
                have ZZ1 := Lib.hid z1
                clear z1
                by_cases z2 : q2 = r2
                · have w2 : (q2 != r2) = false := by simp [z2]
                  have ZZ2 := Lib.hid z2
                  clear z2
                  by_cases z3 : q3 = r3
                  · have w3 : (q3 != r3) = false := by simp [z3]
                    have w3x : (r3 != r3) = false := by simp
                    have ZZ3 := Lib.hid z3
                    clear z3
                    by_cases z4 : x.da = y.da
                    · have w4 : decide (x.da = y.da) = true := decide_eq_true z4
                      have HXY : Hid (x = y) := rc_ext (HEX.out.fr.symm.trans (ZZ1.out.trans HEY.out.fr)) (HEX.out.ct.symm.trans (ZZ2.out.trans HEY.out.ct)) (HEX.out.ze.symm.trans (ZZ3.out.trans HEY.out.ze)) z4
                      have HE2 : Hid (s.re.take (k + 1) = t.re.take (k + 1)) := by show _ = _; rw [List.take_add_one, List.take_add_one, HX.out, HY.out, HE.out, HXY.out]
                      rw [w4] at HBY
                      clear z4 w4
                      go_wp2_with fail
                      refine region_plan (fun x => ∃ z : Ext wr, x = z.1) 13 (.takes [0, 1, 2, 3, 4, 5, 6, 7, 8, 9] (.two 10 11 (.one 11 (.one 12 .leaf)) (.one 10 (.one 12 .leaf)))) hmx (by kernel_rfl) (by intro c x v a w h; cases x <;> exact h) ⟨⟨wr.drew, (Below.refl _ wr).drew⟩, rfl⟩ ?_
                      repeat (rw [wpPlan_takes_cons]; simp only [nth_zero, nth_succ]; go_big_quiet_step (fail); refine wpQuiet_nil ?_)
                      rw [wpPlan_takes_nil]
                      clear LX LY e3y f3y e3 f3
                      obtain ⟨y0, hy0⟩ : ∃ Y, wr.drew = Y := ⟨_, rfl⟩
                      have Ky0 : Below wr.heap.size wr y0 := by rw [← hy0]; exact (Below.refl _ wr).drew
                      have hy0s : y0.heap.size = C := by rw [← hy0, ← HC.out]; rfl
                      try rw [hy0]
                      clear hy0
                      obtain ⟨y1, hy1⟩ : ∃ Y, y0.alloc (.cells #[.int .i64 0, .int .i64 0, .bool false, .slice none 0 0] 49) = Y := ⟨_, rfl⟩
                      have b1 : Below y0.heap.size y0 y1 := by rw [← hy1]; exact below_new y0 _
                      have hy1s : y1.heap.size = C + 1 := by rw [← hy1, ← hy0s]; simp
                      have rc1 : RowC y1 C 49 [.int .i64 0, .int .i64 0, .bool false, .slice none 0 0] := by rw [← hy1, ← hy0s]; exact RowC.new y0 _ _
                      obtain ⟨y2, hy2⟩ : ∃ Y, y1.alloc (.cells #[.int .i64 0, .int .i64 0, .bool false, .slice none 0 0] 49) = Y := ⟨_, rfl⟩
                      have b2 : Below y1.heap.size y1 y2 := by rw [← hy2]; exact below_new y1 _
                      have rc2 : RowC y2 (C + 1) 49 [.int .i64 0, .int .i64 0, .bool false, .slice none 0 0] := by rw [← hy2, ← hy1s]; exact RowC.new y1 _ _
                      have rc1b := rc1.below b2
                      have Ky1 : Below wr.heap.size wr y1 := Ky0.trans (b1.mono Ky0.size)
                      have Ky2 : Below wr.heap.size wr y2 := Ky1.trans (b2.mono Ky1.size)
                      rw [wpPlan_two]
                      refine ⟨?_, ?_⟩
                      · simp only [nth_zero, nth_succ]
                        go_wp2_with fail
                        try rw [hy1]
                        try rw [hy0s]
                        refine planPost_mk ⟨⟨y1, Ky1⟩, rfl⟩ ?_
                        rw [wpPlan_one]
                        simp only [nth_zero, nth_succ]
                        go_wp2_with fail
                        try rw [hy2]
                        try rw [hy1s]
                        refine planPost_mk ⟨⟨y2, Ky2⟩, rfl⟩ ?_
                        obtain ⟨y3, S3, r63, g3⟩ := store_rcC (q1, q2, q3, (xa1, xn1, xc1)) rc1b rfl
                        have r73 := rc2.grown g3 (by simp)
                        have Ky3 : Below wr.heap.size wr y3 := Ky2.grown g3 Ky2.size (fun j e => by cases e; have := HC.out; omega)
                        obtain ⟨y4, S4, r74, g4⟩ := store_rcC (r1, r2, r3, (ya1, yn1, yc1)) r73 rfl
                        have r64 := r63.grown g4 (by simp)
                        have Ky4 : Below wr.heap.size wr y4 := Ky3.grown g4 Ky3.size (fun j e => by cases e; have := HC.out; omega)
                        have HK4 := Lib.hid Ky4
                        have a0 := r64.cell 0 _ rfl
                        have a1 := r64.cell 1 _ rfl
                        have a2 := r64.cell 2 _ rfl
                        have a3 := r64.cell 3 _ rfl
                        have b0 := r74.cell 0 _ rfl
                        have bb1 := r74.cell 1 _ rfl
                        have bb2 := r74.cell 2 _ rfl
                        have b3 := r74.cell 3 _ rfl
                        have HBX := Lib.hid (HBY.out y4 Ky4)
                        have HKX : Hid (Below X.heap.size X y4) := HB.out.trans (Ky4.mono (by rw [HC.out]; exact HXS2.out))
                        simp only [rvV, slV] at S3 S4 a3 b3
                        clear r63 r73 r74 r64 g3 g4 b1 b2 rc1 rc2 rc1b hy1 hy2 hy0s hy1s
                        rw [wpPlan_one]
                        simp only [nth_zero, nth_succ]
                        go_wp2_with fail
                        refine planPost_mk ⟨⟨y3, Ky3⟩, rfl⟩ ?_
                        rw [wpPlan_leaf]
                        simp only [List.drop_succ_cons, List.drop_zero]
                        clear Ky0 Ky1 Ky2 Ky3 Ky4
                        go_wp2_with fail
                        refine HBX.out.mono ?_
                        rintro e z ⟨rfl, rfl⟩
                        go_wp2_with fail
                        go_roundw
                        case rel => exact ⟨k + 1, HLT.out, by first | (simp; done) | (rw [HW1.out]; simp), HKX, HE2⟩
                        case measure => have := HLT.out; first | (simp [intOf]; omega) | (rw [HW1.out]; simp [intOf]; omega)
                      · simp only [nth_zero, nth_succ]
                        go_wp2_with fail
                        try rw [hy1]
                        try rw [hy0s]
                        refine planPost_mk ⟨⟨y1, Ky1⟩, rfl⟩ ?_
                        rw [wpPlan_one]
                        simp only [nth_zero, nth_succ]
                        go_wp2_with fail
                        try rw [hy2]
                        try rw [hy1s]
                        refine planPost_mk ⟨⟨y2, Ky2⟩, rfl⟩ ?_
                        obtain ⟨y3, S3, r63, g3⟩ := store_rcC (q1, q2, q3, (xa1, xn1, xc1)) rc2 rfl
                        have r73 := rc1b.grown g3 (by simp)
                        have Ky3 : Below wr.heap.size wr y3 := Ky2.grown g3 Ky2.size (fun j e => by cases e; have := HC.out; omega)
                        obtain ⟨y4, S4, r74, g4⟩ := store_rcC (r1, r2, r3, (ya1, yn1, yc1)) r73 rfl
                        have r64 := r63.grown g4 (by simp)
                        have Ky4 : Below wr.heap.size wr y4 := Ky3.grown g4 Ky3.size (fun j e => by cases e; have := HC.out; omega)
                        have HK4 := Lib.hid Ky4
                        have a0 := r64.cell 0 _ rfl
                        have a1 := r64.cell 1 _ rfl
                        have a2 := r64.cell 2 _ rfl
                        have a3 := r64.cell 3 _ rfl
                        have b0 := r74.cell 0 _ rfl
                        have bb1 := r74.cell 1 _ rfl
                        have bb2 := r74.cell 2 _ rfl
                        have b3 := r74.cell 3 _ rfl
                        have HBX := Lib.hid (HBY.out y4 Ky4)
                        have HKX : Hid (Below X.heap.size X y4) := HB.out.trans (Ky4.mono (by rw [HC.out]; exact HXS2.out))
                        simp only [rvV, slV] at S3 S4 a3 b3
                        clear r63 r73 r74 r64 g3 g4 b1 b2 rc1 rc2 rc1b hy1 hy2 hy0s hy1s
                        rw [wpPlan_one]
                        simp only [nth_zero, nth_succ]
                        go_wp2_with fail
                        refine planPost_mk ⟨⟨y3, Ky3⟩, rfl⟩ ?_
                        rw [wpPlan_leaf]
                        simp only [List.drop_succ_cons, List.drop_zero]
                        clear Ky0 Ky1 Ky2 Ky3 Ky4
                        go_wp2_with fail
                        refine HBX.out.mono ?_
                        rintro e z ⟨rfl, rfl⟩
                        go_wp2_with fail
                        go_roundw
                        case rel => exact ⟨k + 1, HLT.out, by first | (simp; done) | (rw [HW1.out]; simp), HKX, HE2⟩
                        case measure => have := HLT.out; first | (simp [intOf]; omega) | (rw [HW1.out]; simp [intOf]; omega)
                    · have w4 : decide (x.da = y.da) = false := decide_eq_false z4
                      have HZN : Hid (Z = false) := HNO.out (fun h => by have h1 := (HST.out h).2.2.2; have h2 : x = y := (by have h3 := HX.out; rw [h1, HY.out] at h3; cases h3; rfl); exact z4 (congrArg RC.da h2))
                      rw [w4] at HBY
                      clear z4 w4
                      go_wp2_with fail
                      refine region_plan (fun x => ∃ z : Ext wr, x = z.1) 13 (.takes [0, 1, 2, 3, 4, 5, 6, 7, 8, 9] (.two 10 11 (.one 11 (.one 12 .leaf)) (.one 10 (.one 12 .leaf)))) hmx (by kernel_rfl) (by intro c x v a w h; cases x <;> exact h) ⟨⟨wr.drew, (Below.refl _ wr).drew⟩, rfl⟩ ?_
                      repeat (rw [wpPlan_takes_cons]; simp only [nth_zero, nth_succ]; go_big_quiet_step (fail); refine wpQuiet_nil ?_)
                      rw [wpPlan_takes_nil]
                      clear LX LY e3y f3y e3 f3
                      obtain ⟨y0, hy0⟩ : ∃ Y, wr.drew = Y := ⟨_, rfl⟩
                      have Ky0 : Below wr.heap.size wr y0 := by rw [← hy0]; exact (Below.refl _ wr).drew
                      have hy0s : y0.heap.size = C := by rw [← hy0, ← HC.out]; rfl
                      try rw [hy0]
                      clear hy0
                      obtain ⟨y1, hy1⟩ : ∃ Y, y0.alloc (.cells #[.int .i64 0, .int .i64 0, .bool false, .slice none 0 0] 49) = Y := ⟨_, rfl⟩
                      have b1 : Below y0.heap.size y0 y1 := by rw [← hy1]; exact below_new y0 _
                      have hy1s : y1.heap.size = C + 1 := by rw [← hy1, ← hy0s]; simp
                      have rc1 : RowC y1 C 49 [.int .i64 0, .int .i64 0, .bool false, .slice none 0 0] := by rw [← hy1, ← hy0s]; exact RowC.new y0 _ _
                      obtain ⟨y2, hy2⟩ : ∃ Y, y1.alloc (.cells #[.int .i64 0, .int .i64 0, .bool false, .slice none 0 0] 49) = Y := ⟨_, rfl⟩
                      have b2 : Below y1.heap.size y1 y2 := by rw [← hy2]; exact below_new y1 _
                      have rc2 : RowC y2 (C + 1) 49 [.int .i64 0, .int .i64 0, .bool false, .slice none 0 0] := by rw [← hy2, ← hy1s]; exact RowC.new y1 _ _
                      have rc1b := rc1.below b2
                      have Ky1 : Below wr.heap.size wr y1 := Ky0.trans (b1.mono Ky0.size)
                      have Ky2 : Below wr.heap.size wr y2 := Ky1.trans (b2.mono Ky1.size)
                      rw [wpPlan_two]
                      refine ⟨?_, ?_⟩
                      · simp only [nth_zero, nth_succ]
                        go_wp2_with fail
                        try rw [hy1]
                        try rw [hy0s]
                        refine planPost_mk ⟨⟨y1, Ky1⟩, rfl⟩ ?_
                        rw [wpPlan_one]
                        simp only [nth_zero, nth_succ]
                        go_wp2_with fail
                        try rw [hy2]
                        try rw [hy1s]
                        refine planPost_mk ⟨⟨y2, Ky2⟩, rfl⟩ ?_
                        obtain ⟨y3, S3, r63, g3⟩ := store_rcC (q1, q2, q3, (xa1, xn1, xc1)) rc1b rfl
                        have r73 := rc2.grown g3 (by simp)
                        have Ky3 : Below wr.heap.size wr y3 := Ky2.grown g3 Ky2.size (fun j e => by cases e; have := HC.out; omega)
                        obtain ⟨y4, S4, r74, g4⟩ := store_rcC (r1, r2, r3, (ya1, yn1, yc1)) r73 rfl
                        have r64 := r63.grown g4 (by simp)
                        have Ky4 : Below wr.heap.size wr y4 := Ky3.grown g4 Ky3.size (fun j e => by cases e; have := HC.out; omega)
                        have HK4 := Lib.hid Ky4
                        have a0 := r64.cell 0 _ rfl
                        have a1 := r64.cell 1 _ rfl
                        have a2 := r64.cell 2 _ rfl
                        have a3 := r64.cell 3 _ rfl
                        have b0 := r74.cell 0 _ rfl
                        have bb1 := r74.cell 1 _ rfl
                        have bb2 := r74.cell 2 _ rfl
                        have b3 := r74.cell 3 _ rfl
                        have HBX := Lib.hid (HBY.out y4 Ky4)
                        have HKX : Hid (Below X.heap.size X y4) := HB.out.trans (Ky4.mono (by rw [HC.out]; exact HXS2.out))
                        simp only [rvV, slV] at S3 S4 a3 b3
                        clear r63 r73 r74 r64 g3 g4 b1 b2 rc1 rc2 rc1b hy1 hy2 hy0s hy1s
                        rw [wpPlan_one]
                        simp only [nth_zero, nth_succ]
                        go_wp2_with fail
                        refine planPost_mk ⟨⟨y3, Ky3⟩, rfl⟩ ?_
                        rw [wpPlan_leaf]
                        simp only [List.drop_succ_cons, List.drop_zero]
                        clear Ky0 Ky1 Ky2 Ky3 Ky4
                        go_wp2_with fail
                        refine HBX.out.mono ?_
                        rintro e z ⟨rfl, rfl⟩
                        go_wp2_with fail
                        go_ret
                        rw [HZN.out]
                        exact ⟨rfl, by rw [HSZ.out]; exact HXB.out.trans (HKX.out.mono HSZX.out)⟩
                      · simp only [nth_zero, nth_succ]
                        go_wp2_with fail
                        try rw [hy1]
                        try rw [hy0s]
                        refine planPost_mk ⟨⟨y1, Ky1⟩, rfl⟩ ?_
                        rw [wpPlan_one]
                        simp only [nth_zero, nth_succ]
                        go_wp2_with fail
                        try rw [hy2]
                        try rw [hy1s]
                        refine planPost_mk ⟨⟨y2, Ky2⟩, rfl⟩ ?_
                        obtain ⟨y3, S3, r63, g3⟩ := store_rcC (q1, q2, q3, (xa1, xn1, xc1)) rc2 rfl
                        have r73 := rc1b.grown g3 (by simp)
                        have Ky3 : Below wr.heap.size wr y3 := Ky2.grown g3 Ky2.size (fun j e => by cases e; have := HC.out; omega)
                        obtain ⟨y4, S4, r74, g4⟩ := store_rcC (r1, r2, r3, (ya1, yn1, yc1)) r73 rfl
                        have r64 := r63.grown g4 (by simp)
                        have Ky4 : Below wr.heap.size wr y4 := Ky3.grown g4 Ky3.size (fun j e => by cases e; have := HC.out; omega)
                        have HK4 := Lib.hid Ky4
                        have a0 := r64.cell 0 _ rfl
                        have a1 := r64.cell 1 _ rfl
                        have a2 := r64.cell 2 _ rfl
                        have a3 := r64.cell 3 _ rfl
                        have b0 := r74.cell 0 _ rfl
                        have bb1 := r74.cell 1 _ rfl
                        have bb2 := r74.cell 2 _ rfl
                        have b3 := r74.cell 3 _ rfl
                        have HBX := Lib.hid (HBY.out y4 Ky4)
                        have HKX : Hid (Below X.heap.size X y4) := HB.out.trans (Ky4.mono (by rw [HC.out]; exact HXS2.out))
                        simp only [rvV, slV] at S3 S4 a3 b3
                        clear r63 r73 r74 r64 g3 g4 b1 b2 rc1 rc2 rc1b hy1 hy2 hy0s hy1s
                        rw [wpPlan_one]
                        simp only [nth_zero, nth_succ]
                        go_wp2_with fail
                        refine planPost_mk ⟨⟨y3, Ky3⟩, rfl⟩ ?_
                        rw [wpPlan_leaf]
                        simp only [List.drop_succ_cons, List.drop_zero]
                        clear Ky0 Ky1 Ky2 Ky3 Ky4
                        go_wp2_with fail
                        refine HBX.out.mono ?_
                        rintro e z ⟨rfl, rfl⟩
                        go_wp2_with fail
                        go_ret
                        rw [HZN.out]
                        exact ⟨rfl, by rw [HSZ.out]; exact HXB.out.trans (HKX.out.mono HSZX.out)⟩
                  · have w3 : (q3 != r3) = true := by simp; exact z3
                    have ZZ3 := Lib.hid z3
                    clear z3
                    have HZN : Hid (Z = false) := HNO.out (fun h => by have h1 := (HST.out h).2.2.2; have h2 : x = y := (by have h3 := HX.out; rw [h1, HY.out] at h3; cases h3; rfl); exact ZZ3.out (HEX.out.ze.trans ((congrArg RC.ze h2).trans HEY.out.ze.symm)))
                    go_wp2_with fail
                    refine region_plan (fun x => ∃ z : Ext wr, x = z.1) 13 (.takes [0, 1, 2, 3, 4, 5, 6, 7, 8, 9] (.two 10 11 (.one 11 (.one 12 .leaf)) (.one 10 (.one 12 .leaf)))) hmx (by kernel_rfl) (by intro c x v a w h; cases x <;> exact h) ⟨⟨wr.drew, (Below.refl _ wr).drew⟩, rfl⟩ ?_
                    repeat (rw [wpPlan_takes_cons]; simp only [nth_zero, nth_succ]; go_big_quiet_step (fail); refine wpQuiet_nil ?_)
                    rw [wpPlan_takes_nil]
                    clear LX LY e3y f3y e3 f3
                    obtain ⟨y0, hy0⟩ : ∃ Y, wr.drew = Y := ⟨_, rfl⟩
                    have Ky0 : Below wr.heap.size wr y0 := by rw [← hy0]; exact (Below.refl _ wr).drew
                    have hy0s : y0.heap.size = C := by rw [← hy0, ← HC.out]; rfl
                    try rw [hy0]
                    clear hy0
                    obtain ⟨y1, hy1⟩ : ∃ Y, y0.alloc (.cells #[.int .i64 0, .int .i64 0, .bool false, .slice none 0 0] 49) = Y := ⟨_, rfl⟩
                    have b1 : Below y0.heap.size y0 y1 := by rw [← hy1]; exact below_new y0 _
                    have hy1s : y1.heap.size = C + 1 := by rw [← hy1, ← hy0s]; simp
                    have rc1 : RowC y1 C 49 [.int .i64 0, .int .i64 0, .bool false, .slice none 0 0] := by rw [← hy1, ← hy0s]; exact RowC.new y0 _ _
                    obtain ⟨y2, hy2⟩ : ∃ Y, y1.alloc (.cells #[.int .i64 0, .int .i64 0, .bool false, .slice none 0 0] 49) = Y := ⟨_, rfl⟩
                    have b2 : Below y1.heap.size y1 y2 := by rw [← hy2]; exact below_new y1 _
                    have rc2 : RowC y2 (C + 1) 49 [.int .i64 0, .int .i64 0, .bool false, .slice none 0 0] := by rw [← hy2, ← hy1s]; exact RowC.new y1 _ _
                    have rc1b := rc1.below b2
                    have Ky1 : Below wr.heap.size wr y1 := Ky0.trans (b1.mono Ky0.size)
                    have Ky2 : Below wr.heap.size wr y2 := Ky1.trans (b2.mono Ky1.size)
                    rw [wpPlan_two]
                    refine ⟨?_, ?_⟩
                    · simp only [nth_zero, nth_succ]
                      go_wp2_with fail
                      try rw [hy1]
                      try rw [hy0s]
                      refine planPost_mk ⟨⟨y1, Ky1⟩, rfl⟩ ?_
                      rw [wpPlan_one]
                      simp only [nth_zero, nth_succ]
                      go_wp2_with fail
                      try rw [hy2]
                      try rw [hy1s]
                      refine planPost_mk ⟨⟨y2, Ky2⟩, rfl⟩ ?_
                      obtain ⟨y3, S3, r63, g3⟩ := store_rcC (q1, q2, q3, (xa1, xn1, xc1)) rc1b rfl
                      have r73 := rc2.grown g3 (by simp)
                      have Ky3 : Below wr.heap.size wr y3 := Ky2.grown g3 Ky2.size (fun j e => by cases e; have := HC.out; omega)
                      obtain ⟨y4, S4, r74, g4⟩ := store_rcC (r1, r2, r3, (ya1, yn1, yc1)) r73 rfl
                      have r64 := r63.grown g4 (by simp)
                      have Ky4 : Below wr.heap.size wr y4 := Ky3.grown g4 Ky3.size (fun j e => by cases e; have := HC.out; omega)
                      have HK4 := Lib.hid Ky4
                      have a0 := r64.cell 0 _ rfl
                      have a1 := r64.cell 1 _ rfl
                      have a2 := r64.cell 2 _ rfl
                      have a3 := r64.cell 3 _ rfl
                      have b0 := r74.cell 0 _ rfl
                      have bb1 := r74.cell 1 _ rfl
                      have bb2 := r74.cell 2 _ rfl
                      have b3 := r74.cell 3 _ rfl
                      have HBX := Lib.hid (HBY.out y4 Ky4)
                      have HKX : Hid (Below X.heap.size X y4) := HB.out.trans (Ky4.mono (by rw [HC.out]; exact HXS2.out))
                      simp only [rvV, slV] at S3 S4 a3 b3
                      clear r63 r73 r74 r64 g3 g4 b1 b2 rc1 rc2 rc1b hy1 hy2 hy0s hy1s
                      rw [wpPlan_one]
                      simp only [nth_zero, nth_succ]
                      go_wp2_with fail
                      refine planPost_mk ⟨⟨y3, Ky3⟩, rfl⟩ ?_
                      rw [wpPlan_leaf]
                      simp only [List.drop_succ_cons, List.drop_zero]
                      clear Ky0 Ky1 Ky2 Ky3 Ky4
                      go_wp2_with fail
                      go_ret
                      rw [HZN.out]
                      exact ⟨rfl, by rw [HSZ.out]; exact HXB.out.trans (HKX.out.mono HSZX.out)⟩
                    · simp only [nth_zero, nth_succ]
                      go_wp2_with fail
                      try rw [hy1]
                      try rw [hy0s]
                      refine planPost_mk ⟨⟨y1, Ky1⟩, rfl⟩ ?_
                      rw [wpPlan_one]
                      simp only [nth_zero, nth_succ]
                      go_wp2_with fail
                      try rw [hy2]
                      try rw [hy1s]
                      refine planPost_mk ⟨⟨y2, Ky2⟩, rfl⟩ ?_
                      obtain ⟨y3, S3, r63, g3⟩ := store_rcC (q1, q2, q3, (xa1, xn1, xc1)) rc2 rfl
                      have r73 := rc1b.grown g3 (by simp)
                      have Ky3 : Below wr.heap.size wr y3 := Ky2.grown g3 Ky2.size (fun j e => by cases e; have := HC.out; omega)
                      obtain ⟨y4, S4, r74, g4⟩ := store_rcC (r1, r2, r3, (ya1, yn1, yc1)) r73 rfl
                      have r64 := r63.grown g4 (by simp)
                      have Ky4 : Below wr.heap.size wr y4 := Ky3.grown g4 Ky3.size (fun j e => by cases e; have := HC.out; omega)
                      have HK4 := Lib.hid Ky4
                      have a0 := r64.cell 0 _ rfl
                      have a1 := r64.cell 1 _ rfl
                      have a2 := r64.cell 2 _ rfl
                      have a3 := r64.cell 3 _ rfl
                      have b0 := r74.cell 0 _ rfl
                      have bb1 := r74.cell 1 _ rfl
                      have bb2 := r74.cell 2 _ rfl
                      have b3 := r74.cell 3 _ rfl
                      have HBX := Lib.hid (HBY.out y4 Ky4)
                      have HKX : Hid (Below X.heap.size X y4) := HB.out.trans (Ky4.mono (by rw [HC.out]; exact HXS2.out))
                      simp only [rvV, slV] at S3 S4 a3 b3
                      clear r63 r73 r74 r64 g3 g4 b1 b2 rc1 rc2 rc1b hy1 hy2 hy0s hy1s
                      rw [wpPlan_one]
                      simp only [nth_zero, nth_succ]
                      go_wp2_with fail
                      refine planPost_mk ⟨⟨y3, Ky3⟩, rfl⟩ ?_
                      rw [wpPlan_leaf]
                      simp only [List.drop_succ_cons, List.drop_zero]
                      clear Ky0 Ky1 Ky2 Ky3 Ky4
                      go_wp2_with fail
                      go_ret
                      rw [HZN.out]
                      exact ⟨rfl, by rw [HSZ.out]; exact HXB.out.trans (HKX.out.mono HSZX.out)⟩
                · have w2 : (q2 != r2) = true := by simp; exact z2
                  have ZZ2 := Lib.hid z2
                  clear z2
                  have HZN : Hid (Z = false) := HNO.out (fun h => by have h1 := (HST.out h).2.2.2; have h2 : x = y := (by have h3 := HX.out; rw [h1, HY.out] at h3; cases h3; rfl); exact ZZ2.out (HEX.out.ct.trans ((congrArg RC.ct h2).trans HEY.out.ct.symm)))
                  go_wp2_with fail
                  refine region_plan (fun x => ∃ z : Ext wr, x = z.1) 13 (.takes [0, 1, 2, 3, 4, 5, 6, 7, 8, 9] (.two 10 11 (.one 11 (.one 12 .leaf)) (.one 10 (.one 12 .leaf)))) hmx (by kernel_rfl) (by intro c x v a w h; cases x <;> exact h) ⟨⟨wr.drew, (Below.refl _ wr).drew⟩, rfl⟩ ?_
                  repeat (rw [wpPlan_takes_cons]; simp only [nth_zero, nth_succ]; go_big_quiet_step (fail); refine wpQuiet_nil ?_)
                  rw [wpPlan_takes_nil]
                  clear LX LY e3y f3y e3 f3
                  obtain ⟨y0, hy0⟩ : ∃ Y, wr.drew = Y := ⟨_, rfl⟩
                  have Ky0 : Below wr.heap.size wr y0 := by rw [← hy0]; exact (Below.refl _ wr).drew
                  have hy0s : y0.heap.size = C := by rw [← hy0, ← HC.out]; rfl
                  try rw [hy0]
                  clear hy0
                  obtain ⟨y1, hy1⟩ : ∃ Y, y0.alloc (.cells #[.int .i64 0, .int .i64 0, .bool false, .slice none 0 0] 49) = Y := ⟨_, rfl⟩
                  have b1 : Below y0.heap.size y0 y1 := by rw [← hy1]; exact below_new y0 _
                  have hy1s : y1.heap.size = C + 1 := by rw [← hy1, ← hy0s]; simp
                  have rc1 : RowC y1 C 49 [.int .i64 0, .int .i64 0, .bool false, .slice none 0 0] := by rw [← hy1, ← hy0s]; exact RowC.new y0 _ _
                  obtain ⟨y2, hy2⟩ : ∃ Y, y1.alloc (.cells #[.int .i64 0, .int .i64 0, .bool false, .slice none 0 0] 49) = Y := ⟨_, rfl⟩
                  have b2 : Below y1.heap.size y1 y2 := by rw [← hy2]; exact below_new y1 _
                  have rc2 : RowC y2 (C + 1) 49 [.int .i64 0, .int .i64 0, .bool false, .slice none 0 0] := by rw [← hy2, ← hy1s]; exact RowC.new y1 _ _
                  have rc1b := rc1.below b2
                  have Ky1 : Below wr.heap.size wr y1 := Ky0.trans (b1.mono Ky0.size)
                  have Ky2 : Below wr.heap.size wr y2 := Ky1.trans (b2.mono Ky1.size)
                  rw [wpPlan_two]
                  refine ⟨?_, ?_⟩
                  · simp only [nth_zero, nth_succ]
                    go_wp2_with fail
                    try rw [hy1]
                    try rw [hy0s]
                    refine planPost_mk ⟨⟨y1, Ky1⟩, rfl⟩ ?_
                    rw [wpPlan_one]
                    simp only [nth_zero, nth_succ]
                    go_wp2_with fail
                    try rw [hy2]
                    try rw [hy1s]
                    refine planPost_mk ⟨⟨y2, Ky2⟩, rfl⟩ ?_
                    obtain ⟨y3, S3, r63, g3⟩ := store_rcC (q1, q2, q3, (xa1, xn1, xc1)) rc1b rfl
                    have r73 := rc2.grown g3 (by simp)
                    have Ky3 : Below wr.heap.size wr y3 := Ky2.grown g3 Ky2.size (fun j e => by cases e; have := HC.out; omega)
                    obtain ⟨y4, S4, r74, g4⟩ := store_rcC (r1, r2, r3, (ya1, yn1, yc1)) r73 rfl
                    have r64 := r63.grown g4 (by simp)
                    have Ky4 : Below wr.heap.size wr y4 := Ky3.grown g4 Ky3.size (fun j e => by cases e; have := HC.out; omega)
                    have HK4 := Lib.hid Ky4
                    have a0 := r64.cell 0 _ rfl
                    have a1 := r64.cell 1 _ rfl
                    have a2 := r64.cell 2 _ rfl
                    have a3 := r64.cell 3 _ rfl
                    have b0 := r74.cell 0 _ rfl
                    have bb1 := r74.cell 1 _ rfl
                    have bb2 := r74.cell 2 _ rfl
                    have b3 := r74.cell 3 _ rfl
                    have HBX := Lib.hid (HBY.out y4 Ky4)
                    have HKX : Hid (Below X.heap.size X y4) := HB.out.trans (Ky4.mono (by rw [HC.out]; exact HXS2.out))
                    simp only [rvV, slV] at S3 S4 a3 b3
                    clear r63 r73 r74 r64 g3 g4 b1 b2 rc1 rc2 rc1b hy1 hy2 hy0s hy1s
                    rw [wpPlan_one]
                    simp only [nth_zero, nth_succ]
                    go_wp2_with fail
                    refine planPost_mk ⟨⟨y3, Ky3⟩, rfl⟩ ?_
                    rw [wpPlan_leaf]
                    simp only [List.drop_succ_cons, List.drop_zero]
                    clear Ky0 Ky1 Ky2 Ky3 Ky4
                    go_wp2_with fail
                    go_ret
                    rw [HZN.out]
                    exact ⟨rfl, by rw [HSZ.out]; exact HXB.out.trans (HKX.out.mono HSZX.out)⟩
                  · simp only [nth_zero, nth_succ]
                    go_wp2_with fail
                    try rw [hy1]
                    try rw [hy0s]
                    refine planPost_mk ⟨⟨y1, Ky1⟩, rfl⟩ ?_
                    rw [wpPlan_one]
                    simp only [nth_zero, nth_succ]
                    go_wp2_with fail
                    try rw [hy2]
                    try rw [hy1s]
                    refine planPost_mk ⟨⟨y2, Ky2⟩, rfl⟩ ?_
                    obtain ⟨y3, S3, r63, g3⟩ := store_rcC (q1, q2, q3, (xa1, xn1, xc1)) rc2 rfl
                    have r73 := rc1b.grown g3 (by simp)
                    have Ky3 : Below wr.heap.size wr y3 := Ky2.grown g3 Ky2.size (fun j e => by cases e; have := HC.out; omega)
                    obtain ⟨y4, S4, r74, g4⟩ := store_rcC (r1, r2, r3, (ya1, yn1, yc1)) r73 rfl
                    have r64 := r63.grown g4 (by simp)
                    have Ky4 : Below wr.heap.size wr y4 := Ky3.grown g4 Ky3.size (fun j e => by cases e; have := HC.out; omega)
                    have HK4 := Lib.hid Ky4
                    have a0 := r64.cell 0 _ rfl
                    have a1 := r64.cell 1 _ rfl
                    have a2 := r64.cell 2 _ rfl
                    have a3 := r64.cell 3 _ rfl
                    have b0 := r74.cell 0 _ rfl
                    have bb1 := r74.cell 1 _ rfl
                    have bb2 := r74.cell 2 _ rfl
                    have b3 := r74.cell 3 _ rfl
                    have HBX := Lib.hid (HBY.out y4 Ky4)
                    have HKX : Hid (Below X.heap.size X y4) := HB.out.trans (Ky4.mono (by rw [HC.out]; exact HXS2.out))
                    simp only [rvV, slV] at S3 S4 a3 b3
                    clear r63 r73 r74 r64 g3 g4 b1 b2 rc1 rc2 rc1b hy1 hy2 hy0s hy1s
                    rw [wpPlan_one]
                    simp only [nth_zero, nth_succ]
                    go_wp2_with fail
                    refine planPost_mk ⟨⟨y3, Ky3⟩, rfl⟩ ?_
                    rw [wpPlan_leaf]
                    simp only [List.drop_succ_cons, List.drop_zero]
                    clear Ky0 Ky1 Ky2 Ky3 Ky4
                    go_wp2_with fail
                    go_ret
                    rw [HZN.out]
                    exact ⟨rfl, by rw [HSZ.out]; exact HXB.out.trans (HKX.out.mono HSZX.out)⟩
              · have w1 : (q1 != r1) = true := by simp; exact z1
                have ZZ1 := Lib.hid z1
                clear z1
                have HZN : Hid (Z = false) := HNO.out (fun h => by have h1 := (HST.out h).2.2.2; have h2 : x = y := (by have h3 := HX.out; rw [h1, HY.out] at h3; cases h3; rfl); exact ZZ1.out (HEX.out.fr.trans ((congrArg RC.fr h2).trans HEY.out.fr.symm)))
                go_wp2_with fail
                refine region_plan (fun x => ∃ z : Ext wr, x = z.1) 13 (.takes [0, 1, 2, 3, 4, 5, 6, 7, 8, 9] (.two 10 11 (.one 11 (.one 12 .leaf)) (.one 10 (.one 12 .leaf)))) hmx (by kernel_rfl) (by intro c x v a w h; cases x <;> exact h) ⟨⟨wr.drew, (Below.refl _ wr).drew⟩, rfl⟩ ?_
                repeat (rw [wpPlan_takes_cons]; simp only [nth_zero, nth_succ]; go_big_quiet_step (fail); refine wpQuiet_nil ?_)
                rw [wpPlan_takes_nil]
                clear LX LY e3y f3y e3 f3
                obtain ⟨y0, hy0⟩ : ∃ Y, wr.drew = Y := ⟨_, rfl⟩
                have Ky0 : Below wr.heap.size wr y0 := by rw [← hy0]; exact (Below.refl _ wr).drew
                have hy0s : y0.heap.size = C := by rw [← hy0, ← HC.out]; rfl
                try rw [hy0]
                clear hy0
                obtain ⟨y1, hy1⟩ : ∃ Y, y0.alloc (.cells #[.int .i64 0, .int .i64 0, .bool false, .slice none 0 0] 49) = Y := ⟨_, rfl⟩
                have b1 : Below y0.heap.size y0 y1 := by rw [← hy1]; exact below_new y0 _
                have hy1s : y1.heap.size = C + 1 := by rw [← hy1, ← hy0s]; simp
                have rc1 : RowC y1 C 49 [.int .i64 0, .int .i64 0, .bool false, .slice none 0 0] := by rw [← hy1, ← hy0s]; exact RowC.new y0 _ _
                obtain ⟨y2, hy2⟩ : ∃ Y, y1.alloc (.cells #[.int .i64 0, .int .i64 0, .bool false, .slice none 0 0] 49) = Y := ⟨_, rfl⟩
                have b2 : Below y1.heap.size y1 y2 := by rw [← hy2]; exact below_new y1 _
                have rc2 : RowC y2 (C + 1) 49 [.int .i64 0, .int .i64 0, .bool false, .slice none 0 0] := by rw [← hy2, ← hy1s]; exact RowC.new y1 _ _
                have rc1b := rc1.below b2
                have Ky1 : Below wr.heap.size wr y1 := Ky0.trans (b1.mono Ky0.size)
                have Ky2 : Below wr.heap.size wr y2 := Ky1.trans (b2.mono Ky1.size)
                rw [wpPlan_two]
                refine ⟨?_, ?_⟩
                · simp only [nth_zero, nth_succ]
                  go_wp2_with fail
                  try rw [hy1]
                  try rw [hy0s]
                  refine planPost_mk ⟨⟨y1, Ky1⟩, rfl⟩ ?_
                  rw [wpPlan_one]
                  simp only [nth_zero, nth_succ]
                  go_wp2_with fail
                  try rw [hy2]
                  try rw [hy1s]
                  refine planPost_mk ⟨⟨y2, Ky2⟩, rfl⟩ ?_
                  obtain ⟨y3, S3, r63, g3⟩ := store_rcC (q1, q2, q3, (xa1, xn1, xc1)) rc1b rfl
                  have r73 := rc2.grown g3 (by simp)
                  have Ky3 : Below wr.heap.size wr y3 := Ky2.grown g3 Ky2.size (fun j e => by cases e; have := HC.out; omega)
                  obtain ⟨y4, S4, r74, g4⟩ := store_rcC (r1, r2, r3, (ya1, yn1, yc1)) r73 rfl
                  have r64 := r63.grown g4 (by simp)
                  have Ky4 : Below wr.heap.size wr y4 := Ky3.grown g4 Ky3.size (fun j e => by cases e; have := HC.out; omega)
                  have HK4 := Lib.hid Ky4
                  have a0 := r64.cell 0 _ rfl
                  have a1 := r64.cell 1 _ rfl
                  have a2 := r64.cell 2 _ rfl
                  have a3 := r64.cell 3 _ rfl
                  have b0 := r74.cell 0 _ rfl
                  have bb1 := r74.cell 1 _ rfl
                  have bb2 := r74.cell 2 _ rfl
                  have b3 := r74.cell 3 _ rfl
                  have HBX := Lib.hid (HBY.out y4 Ky4)
                  have HKX : Hid (Below X.heap.size X y4) := HB.out.trans (Ky4.mono (by rw [HC.out]; exact HXS2.out))
                  simp only [rvV, slV] at S3 S4 a3 b3
                  clear r63 r73 r74 r64 g3 g4 b1 b2 rc1 rc2 rc1b hy1 hy2 hy0s hy1s
                  rw [wpPlan_one]
                  simp only [nth_zero, nth_succ]
                  go_wp2_with fail
                  refine planPost_mk ⟨⟨y3, Ky3⟩, rfl⟩ ?_
                  rw [wpPlan_leaf]
                  simp only [List.drop_succ_cons, List.drop_zero]
                  clear Ky0 Ky1 Ky2 Ky3 Ky4
                  go_wp2_with fail
                  go_ret
                  rw [HZN.out]
                  exact ⟨rfl, by rw [HSZ.out]; exact HXB.out.trans (HKX.out.mono HSZX.out)⟩
                · simp only [nth_zero, nth_succ]
                  go_wp2_with fail
                  try rw [hy1]
                  try rw [hy0s]
                  refine planPost_mk ⟨⟨y1, Ky1⟩, rfl⟩ ?_
                  rw [wpPlan_one]
                  simp only [nth_zero, nth_succ]
                  go_wp2_with fail
                  try rw [hy2]
                  try rw [hy1s]
                  refine planPost_mk ⟨⟨y2, Ky2⟩, rfl⟩ ?_
                  obtain ⟨y3, S3, r63, g3⟩ := store_rcC (q1, q2, q3, (xa1, xn1, xc1)) rc2 rfl
                  have r73 := rc1b.grown g3 (by simp)
                  have Ky3 : Below wr.heap.size wr y3 := Ky2.grown g3 Ky2.size (fun j e => by cases e; have := HC.out; omega)
                  obtain ⟨y4, S4, r74, g4⟩ := store_rcC (r1, r2, r3, (ya1, yn1, yc1)) r73 rfl
                  have r64 := r63.grown g4 (by simp)
                  have Ky4 : Below wr.heap.size wr y4 := Ky3.grown g4 Ky3.size (fun j e => by cases e; have := HC.out; omega)
                  have HK4 := Lib.hid Ky4
                  have a0 := r64.cell 0 _ rfl
                  have a1 := r64.cell 1 _ rfl
                  have a2 := r64.cell 2 _ rfl
                  have a3 := r64.cell 3 _ rfl
                  have b0 := r74.cell 0 _ rfl
                  have bb1 := r74.cell 1 _ rfl
                  have bb2 := r74.cell 2 _ rfl
                  have b3 := r74.cell 3 _ rfl
                  have HBX := Lib.hid (HBY.out y4 Ky4)
                  have HKX : Hid (Below X.heap.size X y4) := HB.out.trans (Ky4.mono (by rw [HC.out]; exact HXS2.out))
                  simp only [rvV, slV] at S3 S4 a3 b3
                  clear r63 r73 r74 r64 g3 g4 b1 b2 rc1 rc2 rc1b hy1 hy2 hy0s hy1s
                  rw [wpPlan_one]
                  simp only [nth_zero, nth_succ]
                  go_wp2_with fail
                  refine planPost_mk ⟨⟨y3, Ky3⟩, rfl⟩ ?_
                  rw [wpPlan_leaf]
                  simp only [List.drop_succ_cons, List.drop_zero]
                  clear Ky0 Ky1 Ky2 Ky3 Ky4
                  go_wp2_with fail
                  go_ret
                  rw [HZN.out]
                  exact ⟨rfl, by rw [HSZ.out]; exact HXB.out.trans (HKX.out.mono HSZX.out)⟩
            · have g1 : ¬ (k : Int) < (xn : Int) := by omega
              obtain rfl : k = xn := by omega
              have hz : Z = true := HYES.out (sm_ext (H1.out.trans (P1.out.trans H1'.out.symm)) (H2.out.trans (P2.out.trans H2'.out.symm)) (H3.out.trans (P3.out.trans H3'.out.symm)) (by have := HE.out; rw [HL.out, List.take_length] at this; rw [this, ← HL.out, P4.out, HL'.out, List.take_length]))
              have HZ := Lib.hid hz
              clear hz
              go_wp2_with fail
              go_ret
              rw [HZ.out]
              exact ⟨rfl, by first | exact HXB.out.trans (HB.out.mono (by have := K1.out.lt; omega)) | (rw [HSZ.out]; exact HXB.out.trans (HB.out.mono (by have := K1.out.lt; omega)))⟩
        · have q4 : ((xn : Int) != (yn : Int)) = true := by simp; omega
          have P4 := Lib.hid p4
          clear p4
          go_enter Try.func10, Try.ntmps10
          go_wp2_with fail
          go_ret
          have hz : Z = false := HNO.out (fun h => by have h := HST.out h; exact P4.out (by rw [HL.out, HL'.out, h.2.2.2]))
          rw [hz]
          exact ⟨rfl, by rw [HSZ.out]; exact HXB.out⟩
      · have q3 : (id != id') = true := by simp; exact p3
        have P3 := Lib.hid p3
        clear p3
        go_enter Try.func10, Try.ntmps10
        go_wp2_with fail
        go_ret
        have hz : Z = false := HNO.out (fun h => by have h := HST.out h; exact P3.out (H3.out.symm.trans (h.2.2.1.trans H3'.out)))
        rw [hz]
        exact ⟨rfl, by rw [HSZ.out]; exact HXB.out⟩
    · have q2 : (ba != ba') = true := by simp; exact p2
      have P2 := Lib.hid p2
      clear p2
      go_enter Try.func10, Try.ntmps10
      go_wp2_with fail
      go_ret
      have hz : Z = false := HNO.out (fun h => by have h := HST.out h; exact P2.out (H2.out.symm.trans (h.2.1.trans H2'.out)))
      rw [hz]
      exact ⟨rfl, by rw [HSZ.out]; exact HXB.out⟩
  · have q1 : (bl != bl') = true := by simp; exact p1
    have P1 := Lib.hid p1
    clear p1
    go_enter Try.func10, Try.ntmps10
    go_wp2_with fail
    go_ret
    have hz : Z = false := HNO.out (fun h => by have h := HST.out h; exact P1.out (H1.out.symm.trans (h.1.trans H1'.out)))
    rw [hz]
    exact ⟨rfl, by rw [HSZ.out]; exact HXB.out⟩
end Go.Proofs.Ytfihpljgbghogaa

/- The developers' parse: the head. -/
namespace Go.Proofs.Ytfihpljgbghogaa
open Go.RowKit Go.Shelf
set_option linter.unusedVariables false
set_option linter.unusedSimpArgs false
attribute [-simp] Try.isAgg49 Try.zeroValue49 Try.isAgg26 Try.zeroValue26
attribute [-go_sem] loadVar storeVar
attribute [local go_sem] loadVar_openRS storeVar_openRS zero_rc
section
set_option maxRecDepth 100000
set_option maxHeartbeats 4000000
theorem res3 {P : Program} {fn : Func} {p u v' : Tmp} {ty : TypeId} {tmps : Array Value} {w : World} {ad : Addr} {v : Value} (h : fn.results = #[.cell p ty, .tmp u, .tmp v']) (ha : tmps.getD p undef = .pointer (some ad)) (hl : (loadVar ty ad).run P w = .ok v w) :
    (results fn tmps).run P w = .ok (.tuple #[v, tmps.getD u undef, tmps.getD v' undef]) w := by
  have e : (asAddr (.pointer (some ad))).run P w = .ok ad w := by simp [asAddr]
  have ha' : tmps[p]?.getD undef = .pointer (some ad) := by simpa using ha
  simp [results, h, Sem.run_bind, Result.andThen, ha', e, hl]
set_option maxRecDepth 100000 in
theorem zero_smP (w : World) : (zeroValue 26).run Try.prog w = .ok (.agg #[.int .i64 0, .int .i64 0, .int .i64 0, .slice none 0 0]) w := by kernel_rfl
set_option maxRecDepth 100000 in
theorem build_sm0 (w : World) : (Instr.build 26 #[]).run Try.prog w = .ok (.agg #[.int .i64 0, .int .i64 0, .int .i64 0, .slice none 0 0]) w := by kernel_rfl
set_option maxRecDepth 100000 in
theorem build_sm3P (a b c : Int) (w : World) : (Instr.build 26 #[(0, .int .i64 a), (1, .int .i64 b), (2, .int .i64 c)]).run Try.prog w = .ok (.agg #[.int .i64 a, .int .i64 b, .int .i64 c, .slice none 0 0]) w := by kernel_rfl
attribute [local go_sem] zero_smP build_sm0 build_sm3P
set_option maxRecDepth 100000 in
/-- A stream into the result's own cell. -/
theorem sm_exit {w W X : World} {B : Nat} {C : List Value} (hwB : B ≤ W.heap.size) (hb : Below B w W) (hK : RowC W B 26 C) (hl : C.length = 4) (hX : Below W.heap.size W X) (bl ba id : Int) (v : SlV) :
    ∃ y, (storeVar 26 ⟨B, 0, none⟩ (.agg #[.int .i64 bl, .int .i64 ba, .int .i64 id, slV v])).run Try.prog X = .ok () y ∧ (loadVar 26 ⟨B, 0, none⟩).run Try.prog y = .ok (smV bl ba id v) y ∧ Below B w y := by
  obtain ⟨y, h1, h2, h3⟩ := store_smC bl ba id v (hK.below hX) hl
  exact ⟨y, h1, load_smC h2, (hb.trans (hX.mono hwB)).grown h3 (Nat.le_trans hwB hX.size) (fun k e => by cases e; exact Nat.le_refl _)⟩
theorem isBytes_mgk : IsBytes mgk := isBytes_magic
theorem mgk_eq {xs : List Int} (h : IsBytes xs) : ((strOfNums xs).toList == [82, 86, 83, 49]) = decide (xs = mgk) := by
  have hm : (strOfNums mgk).toList = [82, 86, 83, 49] := by rw [Lib.strOfNums_toList]; decide +kernel
  rw [← hm]
  by_cases h2 : xs = mgk
  · subst h2; simp
  · rw [decide_eq_false h2]
    refine beq_eq_false_iff_ne.2 fun e => h2 (strQ_inj h isBytes_mgk ?_)
    rw [Lib.strOfNums_toList, Lib.strOfNums_toList] at e
    unfold strOfNums
    rw [show (xs.map fun n => UInt8.ofNat n.toNat) = mgk.map fun n => UInt8.ofNat n.toNat from e]
theorem getL_bdN {bs : List Int} (h : IsBytes bs) (n : Nat) (hn : n ≤ 8) : 0 ≤ getL (bs.take n) ∧ getL (bs.take n) < 2 ^ (8 * n) := by
  have hp := IsBytes.take h n
  refine ⟨(getL_bd _ hp).1, ?_⟩
  have h1 := (getN_bd (bs.take n) hp (nPlaces ((bs.take n).length : Int))).2
  have h2 : nPlaces ((bs.take n).length : Int) ≤ n := by
    have : (bs.take n).length ≤ n := by rw [List.length_take]; omega
    rcases nPlaces_cases ((bs.take n).length : Int) with ⟨-, e⟩ | ⟨e, -⟩ <;> omega
  have h3 : (2 : Int) ^ (8 * nPlaces ((bs.take n).length : Int)) ≤ 2 ^ (8 * n) := by exact_mod_cast Nat.pow_le_pow_right (by omega : 0 < 2) (by omega)
  exact Int.lt_of_lt_of_le h1 h3
/-- The ways of the head. -/
theorem hd_ways (b : List Int) :
    (b.length < 4 ∧ hdE b = 21) ∨ (4 ≤ b.length ∧ ¬ b.take 4 = mgk ∧ hdE b = 20) ∨ (4 ≤ b.length ∧ b.take 4 = mgk ∧ b.length < 24 ∧ hdE b = 21) ∨
    (24 ≤ b.length ∧ b.take 4 = mgk ∧ ¬ fnvMore fnvInit (b.take 16) = getL ((b.drop 16).take 8) ∧ hdE b = 22) ∨
    (24 ≤ b.length ∧ b.take 4 = mgk ∧ fnvMore fnvInit (b.take 16) = getL ((b.drop 16).take 8) ∧
      (((getL ((b.drop 4).take 2) < 1 ∨ 64 < getL ((b.drop 4).take 2)) ∧ hdE b = 23) ∨
       (1 ≤ getL ((b.drop 4).take 2) ∧ getL ((b.drop 4).take 2) ≤ 64 ∧ idsOk (getL ((b.drop 6).take 4)) (getL ((b.drop 10).take 4)) = false ∧ hdE b = 25) ∨
       (1 ≤ getL ((b.drop 4).take 2) ∧ getL ((b.drop 4).take 2) ≤ 64 ∧ idsOk (getL ((b.drop 6).take 4)) (getL ((b.drop 10).take 4)) = true ∧ hdE b = 0))) := by
  unfold hdE
  by_cases h1 : b.length < 4
  · exact .inl ⟨h1, if_pos h1⟩
  rw [if_neg h1]
  by_cases h2 : b.take 4 = mgk
  · rw [if_neg (by simp [h2])]
    by_cases h3 : b.length < 24
    · exact .inr (.inr (.inl ⟨by omega, h2, h3, if_pos h3⟩))
    rw [if_neg h3]
    by_cases h4 : fnvMore fnvInit (b.take 16) = getL ((b.drop 16).take 8)
    · rw [if_neg (by simp [h4])]
      refine .inr (.inr (.inr (.inr ⟨by omega, h2, h4, ?_⟩)))
      by_cases h5 : getL ((b.drop 4).take 2) < 1 ∨ 64 < getL ((b.drop 4).take 2)
      · exact .inl ⟨h5, if_pos h5⟩
      · rw [if_neg h5]
        have hi := idsOk_iff (bl := getL ((b.drop 4).take 2)) (nx := getL ((b.drop 6).take 4)) (id := getL ((b.drop 10).take 4)) (by omega)
        by_cases h6 : hdOk (getL ((b.drop 4).take 2)) (getL ((b.drop 6).take 4) - 1) (getL ((b.drop 10).take 4))
        · exact .inr (.inr ⟨by omega, by omega, hi.2 h6, if_neg (by simp [h6])⟩)
        · exact .inr (.inl ⟨by omega, by omega, by rw [Bool.eq_false_iff]; exact fun e => h6 (hi.1 e), if_pos h6⟩)
    · exact .inr (.inr (.inr (.inl ⟨by omega, h2, h4, if_pos h4⟩)))
  · exact .inr (.inl ⟨by omega, h2, if_pos h2⟩)
def HdOut (bs : List Int) (w : World) (e : Ending) (w' : World) : Prop :=
  ∃ bl ba id cn : Int, e = .returned (.tuple #[smV bl ba id (none, 0, 0), .int .u64 cn, .int .i64 (hdE bs)]) ∧ (hdE bs = 0 → hdS bs = ⟨bl, ba, id, []⟩ ∧ cn = (hdM bs : Int)) ∧ Below w.heap.size w w'
set_option maxRecDepth 100000 in
/-- **head**. -/
theorem pa_hd {v : Value} {bs : List Int} {w : World} (hv : Sl .u8 w v bs) (hr : IsBytes bs) : Calls Try.prog 19 #[v] w (HdOut bs w) := by
  have hways := hd_ways bs
  obtain ⟨a, c, rfl, hca, hmx, -⟩ := (show Sl _ _ _ _ from hv)
  obtain ⟨n, hn⟩ : ∃ n, bs.length = n := ⟨_, rfl⟩
  rw [hn] at hv hca hways ⊢
  obtain ⟨B, hB⟩ : ∃ B, w.heap.size = B := ⟨_, rfl⟩
  obtain ⟨W, hW⟩ : ∃ W, w.alloc (.cells #[.int .i64 0, .int .i64 0, .int .i64 0, .slice none 0 0] 26) = W := ⟨_, rfl⟩
  have hK : RowC W B 26 [.int .i64 0, .int .i64 0, .int .i64 0, .slice none 0 0] := by rw [← hW, ← hB]; exact RowC.new w _ _
  have hBl : Below B w W := by rw [← hW, ← hB]; exact below_new w _
  have HX : Hid (∀ X : World, Below W.heap.size W X → ∀ (bl ba id : Int) (v : SlV), _) := fun X hX bl ba id v => sm_exit (by rw [← hB]; exact hBl.size) hBl hK rfl hX bl ba id v
  have hvW := hv.below (hB ▸ hBl)
  have hnn : (n : Int) ≤ 9223372036854775807 := by unfold maxLen at hmx; omega
  rcases hways with ⟨h1, hE⟩ | h1
  · have g1 : decide ((n : Int) < 4) = true := by simp; omega
    have g2 : decide (n < 4) = true := by simp; omega
    obtain ⟨y, hS, hL, hF⟩ := HX.out W (Below.refl _ _) 0 0 0 (none, 0, 0)
    have HL := Lib.hid hL
    have HF := Lib.hid hF
    simp only [slV] at hS
    clear hL hF
    have HE := Lib.hid hE
    clear hE hv hvW hK hBl h1 hca hmx hn hr hnn
    go_enter Try.func19, Try.ntmps19
    go_wp2_with fail
    refine bodyPost_ret (res3 rfl rfl HL.out) rfl ?_
    exact ⟨0, 0, 0, 0, by rw [HE.out]; rfl, (fun e => by rw [HE.out] at e; cases e), by rw [hB]; exact HF.out⟩
  have h4 : 4 ≤ n := by rcases h1 with h | h | h | h <;> omega
  have g1 : decide ((n : Int) < 4) = false := by simp; omega
  have g2 : decide (n < 4) = false := by simp; omega
  have k1 : (4 : Int) ≤ (n : Int) := by omega
  have k2 : (n : Int) ≤ (c : Int) := by omega
  have s4 := (sl_hi (K := 4) hvW (by omega)).2 W hvW
  have cv := conv_sl s4
  have em := mgk_eq (hr.take 4)
  obtain ⟨s1, hs1⟩ : ∃ s, strOfNums (bs.take 4) = s := ⟨_, rfl⟩
  rw [hs1] at cv em
  clear hs1 s4
  rcases h1 with ⟨h1, h2, hE⟩ | ⟨h1, h2, h3, hE⟩ | h1
  · rw [decide_eq_false h2] at em
    obtain ⟨y, hS, hL, hF⟩ := HX.out W (Below.refl _ _) 0 0 0 (none, 0, 0)
    have HL := Lib.hid hL
    have HF := Lib.hid hF
    simp only [slV] at hS
    clear hL hF
    have HE := Lib.hid hE
    clear hE hv hvW hK hBl h1 hca hmx hn hr hnn h2 h4
    go_enter Try.func19, Try.ntmps19
    go_wp2_with fail
    refine bodyPost_ret (res3 rfl rfl HL.out) rfl ?_
    exact ⟨0, 0, 0, 0, by rw [HE.out]; rfl, (fun e => by rw [HE.out] at e; cases e), by rw [hB]; exact HF.out⟩
  · rw [decide_eq_true h2] at em
    have g3 : decide ((n : Int) < 24) = true := by simp; omega
    have g4 : decide (n < 24) = true := by simp; omega
    obtain ⟨y, hS, hL, hF⟩ := HX.out W (Below.refl _ _) 0 0 0 (none, 0, 0)
    have HL := Lib.hid hL
    have HF := Lib.hid hF
    simp only [slV] at hS
    clear hL hF
    have HE := Lib.hid hE
    clear hE hv hvW hK hBl h1 hca hmx hn hr hnn h2 h3 h4
    go_enter Try.func19, Try.ntmps19
    go_wp2_with fail
    refine bodyPost_ret (res3 rfl rfl HL.out) rfl ?_
    exact ⟨0, 0, 0, 0, by rw [HE.out]; rfl, (fun e => by rw [HE.out] at e; cases e), by rw [hB]; exact HF.out⟩
  have h24 : 24 ≤ n := by rcases h1 with h | h <;> omega
  have h2 : bs.take 4 = mgk := by rcases h1 with h | h <;> exact h.2.1
  rw [decide_eq_true h2] at em
  have g3 : decide ((n : Int) < 24) = false := by simp; omega
  have g4 : decide (n < 24) = false := by simp; omega
  have k3 : (24 : Int) ≤ (n : Int) := by omega
  have k4 : (24 : Int) ≤ (c : Int) := by omega
  have s24 := (sl_hi (K := 24) hvW (by omega)).2 W hvW
  have q24 := pa_checked s24 (hr.take 24) (m := 16) (by rw [List.length_take]; omega)
  rw [List.take_take, List.drop_take] at q24
  have HQ := Lib.hid q24
  clear q24 s24
  rcases h1 with ⟨-, -, h3, hE⟩ | ⟨-, -, h3, hE⟩
  · rw [show min 16 24 = 16 from rfl, show 24 - 16 = 8 from rfl, decide_eq_false h3] at HQ
    have HE := Lib.hid hE
    clear hE hv hvW hK hBl h24 hca hmx hn hr hnn h2 h3 h4
    go_enter Try.func19, Try.ntmps19
    go_wp2_with fail
    refine HQ.out.mono ?_
    rintro e x1 ⟨rfl, hb⟩
    obtain ⟨y, hS, hL, hF⟩ := HX.out x1 hb 0 0 0 (none, 0, 0)
    have HL := Lib.hid hL
    have HF := Lib.hid hF
    simp only [slV] at hS
    clear hL hF
    clear hb
    go_wp2_with fail
    refine bodyPost_ret (res3 rfl rfl HL.out) rfl ?_
    exact ⟨0, 0, 0, 0, by rw [HE.out]; rfl, (fun e => by rw [HE.out] at e; cases e), by rw [hB]; exact HF.out⟩
  rw [show min 16 24 = 16 from rfl, show 24 - 16 = 8 from rfl, decide_eq_true h3] at HQ
  have hc4 : ¬ c = 4 := by omega
  have HS : Hid (∀ x : World, Below W.heap.size W x → Sl .u8 x (.slice (a.map fun x => x.add 4) 20 (c - 4)) ((bs.drop 4).take 20)) := fun x hx => by
    have := pa_mid (hvW.below hx) (K := 4) (m := 20) (by omega)
    rwa [if_neg hc4] at this
  have e1 : ((bs.drop 4).take 20).take 2 = (bs.drop 4).take 2 := by rw [List.take_take]; rfl
  have e2 : (((bs.drop 4).take 20).drop 2).take 4 = (bs.drop 6).take 4 := by rw [List.drop_take, List.take_take, List.drop_drop]; rfl
  have e3 : ((((bs.drop 4).take 20).drop 2).drop 4).take 4 = (bs.drop 10).take 4 := by rw [List.drop_drop, List.drop_take, List.take_take, List.drop_drop]; rfl
  have e4 : (((((bs.drop 4).take 20).drop 2).drop 4).drop 4).take 2 = (bs.drop 14).take 2 := by rw [List.drop_drop, List.drop_drop, List.drop_take, List.take_take, List.drop_drop]; rfl
  obtain ⟨bl, hbl⟩ : ∃ q, getL ((bs.drop 4).take 2) = q := ⟨_, rfl⟩
  obtain ⟨nx, hnx⟩ : ∃ q, getL ((bs.drop 6).take 4) = q := ⟨_, rfl⟩
  obtain ⟨id, hid⟩ : ∃ q, getL ((bs.drop 10).take 4) = q := ⟨_, rfl⟩
  obtain ⟨cn, hcn⟩ : ∃ q, getL ((bs.drop 14).take 2) = q := ⟨_, rfl⟩
  have b1 := getL_bdN (hr.drop 4) 2 (by omega)
  have b2 := getL_bdN (hr.drop 6) 4 (by omega)
  have b3 := getL_bdN (hr.drop 10) 4 (by omega)
  have b4 := getL_bdN (hr.drop 14) 2 (by omega)
  have hS0 : hdS bs = ⟨bl, nx - 1, id, []⟩ := by unfold hdS; rw [hbl, hnx, hid]
  have hM0 : cn = (hdM bs : Int) := by unfold hdM; rw [hcn, Int.toNat_of_nonneg (by rw [← hcn]; exact b4.1)]
  rw [hbl] at b1 hE
  rw [hnx] at b2 hE
  rw [hid] at b3 hE
  rw [hcn] at b4
  have E1 := Lib.hid (e1 ▸ hbl)
  have E2 := Lib.hid (e2 ▸ hnx)
  have E3 := Lib.hid (e3 ▸ hid)
  have E4 := Lib.hid (e4 ▸ hcn)
  obtain ⟨bl0, bl1⟩ := b1
  obtain ⟨nx0, nx1⟩ := b2
  obtain ⟨id0, id1⟩ := b3
  obtain ⟨cn0, cn1⟩ := b4
  simp only [Nat.reduceMul, Int.reducePow] at bl1 nx1 id1 cn1
  have HR20 := Lib.hid ((hr.drop 4).take 20)
  have HL20 : Hid (((bs.drop 4).take 20).length = 20) := by show _ = _; rw [List.length_take, List.length_drop]; omega
  have HSM := Lib.hid hS0
  have HMM := Lib.hid hM0
  obtain ⟨us, hus⟩ : ∃ us, (bs.drop 4).take 20 = us := ⟨_, rfl⟩
  rw [hus] at HS HR20 HL20 E1 E2 E3 E4
  have HEE := Lib.hid hE
  clear hE hv hvW hK hBl h24 hca hmx hn hr hnn h2 h3 h4 e1 e2 e3 e4 hbl hnx hid hcn hS0 hM0 hus
  go_enter Try.func19, Try.ntmps19
  go_wp2_with fail
  refine HQ.out.mono ?_
  rintro e x0 ⟨rfl, hb0⟩
  have K0 := Lib.hid hb0
  clear hb0 em cv
  go_wp2_with fail
  go_at_call 40
  refine (newReader_any _ us x0 (HS.out x0 K0.out) (by rw [HL20.out]; omega)).mono ?_
  rintro e x1 ⟨rb, rfl, hrb, hR, hb⟩
  obtain ⟨N, hN⟩ : ∃ N, x1.heap.size = N := ⟨_, rfl⟩
  rw [hN] at hR
  have HRB : Hid (W.heap.size ≤ rb) := Nat.le_trans K0.out.size (Nat.le_of_lt hrb)
  have R1 := Lib.hid hR
  have K1 : Hid (Below W.heap.size W x1) := K0.out.trans (hb.mono K0.out.size)
  clear hR hb hrb hN
  go_wp2_with fail
  go_at_call 41
  refine (num_yes rb us 2 x1 R1.out HR20.out (by rw [HL20.out]; omega)).mono ?_
  rintro e x2 ⟨rfl, hR, hg⟩
  rw [E1.out]
  have R2 := Lib.hid hR
  have K2 : Hid (Below W.heap.size W x2) := K1.out.grown hg K1.out.size (fun k e => by cases e; exact HRB.out)
  clear hR hg
  go_wp2_with fail
  go_at_call 41
  refine (num_yes rb (us.drop 2) 4 x2 R2.out (HR20.out.drop 2) (by rw [List.length_drop, HL20.out]; omega)).mono ?_
  rintro e x3 ⟨rfl, hR, hg⟩
  rw [E2.out]
  have R3 := Lib.hid hR
  have K3 : Hid (Below W.heap.size W x3) := K2.out.grown hg K2.out.size (fun k e => by cases e; exact HRB.out)
  clear hR hg
  go_wp2_with fail
  go_at_call 41
  refine (num_yes rb ((us.drop 2).drop 4) 4 x3 R3.out ((HR20.out.drop 2).drop 4) (by rw [List.length_drop, List.length_drop, HL20.out]; omega)).mono ?_
  rintro e x4 ⟨rfl, hR, hg⟩
  rw [E3.out]
  have R4 := Lib.hid hR
  have K4 : Hid (Below W.heap.size W x4) := K3.out.grown hg K3.out.size (fun k e => by cases e; exact HRB.out)
  clear hR hg
  go_wp2_with fail
  go_at_call 41
  refine (num_yes rb (((us.drop 2).drop 4).drop 4) 2 x4 R4.out (((HR20.out.drop 2).drop 4).drop 4) (by rw [List.length_drop, List.length_drop, List.length_drop, HL20.out]; omega)).mono ?_
  rintro e x5 ⟨rfl, hR, hg⟩
  rw [E4.out]
  have K5 : Hid (Below W.heap.size W x5) := K4.out.grown hg K4.out.size (fun k e => by cases e; exact HRB.out)
  clear hR hg
  rcases HEE.out with ⟨h5, hE⟩ | ⟨h5, h6, h7, hE⟩ | ⟨h5, h6, h7, hE⟩
  · have HE := Lib.hid hE
    obtain ⟨y, hS, hL, hF⟩ := HX.out x5 K5.out 0 0 0 (none, 0, 0)
    have HL := Lib.hid hL
    have HF := Lib.hid hF
    simp only [slV] at hS
    clear hL hF
    clear hE HEE
    rcases (show bl < 1 ∨ (¬ bl < 1 ∧ 64 < bl) by omega) with h | ⟨h, h'⟩
    · have g5 : decide (bl < 1) = true := by simpa using h
      clear h h5
      go_wp2_with fail
      refine bodyPost_ret (res3 rfl rfl HL.out) rfl ?_
      exact ⟨0, 0, 0, 0, by rw [HE.out]; rfl, (fun e => by rw [HE.out] at e; cases e), by rw [hB]; exact HF.out⟩
    · have g5 : decide (bl < 1) = false := by simpa using h
      have g6 : decide (64 < bl) = true := by simpa using h'
      clear h h' h5
      go_wp2_with fail
      refine bodyPost_ret (res3 rfl rfl HL.out) rfl ?_
      exact ⟨0, 0, 0, 0, by rw [HE.out]; rfl, (fun e => by rw [HE.out] at e; cases e), by rw [hB]; exact HF.out⟩
  · have HE := Lib.hid hE
    obtain ⟨y, hS, hL, hF⟩ := HX.out x5 K5.out 0 0 0 (none, 0, 0)
    have HL := Lib.hid hL
    have HF := Lib.hid hF
    simp only [slV] at hS
    clear hL hF
    have HI := Lib.hid (pa_ids nx id x5)
    rw [h7] at HI
    have g5 : decide (bl < 1) = false := by simpa using h5
    have g6 : decide (64 < bl) = false := by simpa using h6
    clear hE HEE h5 h6 h7
    go_wp2_with fail
    refine HI.out.mono ?_
    rintro e x6 ⟨rfl, rfl⟩
    go_wp2_with fail
    refine bodyPost_ret (res3 rfl rfl HL.out) rfl ?_
    exact ⟨0, 0, 0, 0, by rw [HE.out]; rfl, (fun e => by rw [HE.out] at e; cases e), by rw [hB]; exact HF.out⟩
  · have HE := Lib.hid hE
    obtain ⟨y, hS, hL, hF⟩ := HX.out x5 K5.out bl (nx - 1) id (none, 0, 0)
    have HL := Lib.hid hL
    have HF := Lib.hid hF
    simp only [slV] at hS
    clear hL hF
    have HI := Lib.hid (pa_ids nx id x5)
    rw [h7] at HI
    have g5 : decide (bl < 1) = false := by simpa using h5
    have g6 : decide (64 < bl) = false := by simpa using h6
    clear hE HEE h5 h6 h7
    go_wp2_with fail
    refine HI.out.mono ?_
    rintro e x6 ⟨rfl, rfl⟩
    go_wp2_with fail
    refine bodyPost_ret (res3 rfl rfl HL.out) rfl ?_
    exact ⟨bl, nx - 1, id, cn, by rw [HE.out]; rfl, (fun e => ⟨HSM.out, HMM.out⟩), by rw [hB]; exact HF.out⟩
end
end Go.Proofs.Ytfihpljgbghogaa

/- The developers' parse: one record. -/
namespace Go.Proofs.Ytfihpljgbghogaa
open Go.RowKit Go.Shelf
set_option linter.unusedVariables false
set_option linter.unusedSimpArgs false
attribute [-simp] Try.isAgg49 Try.zeroValue49 Try.isAgg26 Try.zeroValue26
attribute [-go_sem] loadVar storeVar
section
set_option maxRecDepth 100000
set_option maxHeartbeats 4000000
set_option maxRecDepth 100000 in
theorem zero_rcP (w : World) : (zeroValue 49).run Try.prog w = .ok (.agg #[.int .i64 0, .int .i64 0, .bool false, .slice none 0 0]) w := by kernel_rfl
set_option maxRecDepth 100000 in
theorem build_rc0 (w : World) : (Instr.build 49 #[]).run Try.prog w = .ok (.agg #[.int .i64 0, .int .i64 0, .bool false, .slice none 0 0]) w := by kernel_rfl
set_option maxRecDepth 100000 in
theorem build_rcP (a b : Int) (z : Bool) (w : World) : (Instr.build 49 #[(0, .int .i64 a), (1, .int .i64 b), (2, .bool z)]).run Try.prog w = .ok (.agg #[.int .i64 a, .int .i64 b, .bool z, .slice none 0 0]) w := by kernel_rfl
attribute [local go_sem] loadVar_openRS storeVar_openRS zero_rcP build_rc0 build_rcP
set_option maxRecDepth 100000 in
/-- A record into the result's own cell. -/
theorem rc_exit {w W X : World} {B : Nat} {C : List Value} (hwB : B ≤ W.heap.size) (hb : Below B w W) (hK : RowC W B 49 C) (hl : C.length = 4) (hX : Below W.heap.size W X) (q : RV) :
    ∃ y, (storeVar 49 ⟨B, 0, none⟩ (rvV q)).run Try.prog X = .ok () y ∧ (loadVar 49 ⟨B, 0, none⟩).run Try.prog y = .ok (rvV q) y ∧ Below B w y ∧ RowC X B 49 C ∧ X.grownBy y (some B) := by
  obtain ⟨y, h1, h2, h3⟩ := store_rcC q (hK.below hX) hl
  exact ⟨y, h1, load_rcC h2, (hb.trans (hX.mono hwB)).grown h3 (Nat.le_trans hwB hX.size) (fun k e => by cases e; exact Nat.le_refl _), hK.below hX, h3⟩
set_option maxRecDepth 100000 in
/-- A cut in the midst. -/
theorem pa_cutS {b o n c K m : Nat} (h1 : K + m ≤ n) (h2 : n ≤ c) (h3 : 0 < m) (L H : Int) (hL : L = (K : Int)) (hH : H = ((K + m : Nat) : Int)) (W : World) :
    (Instr.sliceAt 22 (.slice (some ⟨b, o, none⟩) n c) (some (.int .i64 L)) (some (.int .i64 H)) none).run Try.prog W = .ok (.slice (some ⟨b, o + K, none⟩) m (c - K)) W := by
  subst hH hL
  rw [run_sliceAt_slice (h := elem_bytes), run_slice_lh (ht := elem_bytes) (kl := .i64) (kh := .i64) (h0 := by omega) (h1 := by omega) (h2 := by omega), sizeOf_byte]
  simp only [Result.andThen, sliced, Int.toNat_natCast, Nat.mul_one]
  rw [if_neg (by omega), show K + m - K = m by omega]
  simp [Addr.add]
/-- A record's number of bytes of data. -/
def rcNb (bs : List Int) : Nat := rcN (bs[0]?.getD 0) (getL ((bs.drop 3).take 2))
/-- The ways of a record. -/
theorem rc_ways (bl : Int) (bs : List Int) :
    (bs.length < 5 ∧ rcE bl bs = 21) ∨ (5 ≤ bs.length ∧
     ((¬ bs[0]?.getD 0 = 1 ∧ ¬ bs[0]?.getD 0 = 2 ∧ rcE bl bs = 11) ∨ ((bs[0]?.getD 0 = 1 ∨ bs[0]?.getD 0 = 2) ∧
      (((getL ((bs.drop 3).take 2) < 1 ∨ bl < getL ((bs.drop 1).take 2) + getL ((bs.drop 3).take 2)) ∧ rcE bl bs = 25) ∨ (1 ≤ getL ((bs.drop 3).take 2) ∧ getL ((bs.drop 1).take 2) + getL ((bs.drop 3).take 2) ≤ bl ∧
       ((bs.length < 5 + rcNb bs + 8 ∧ rcE bl bs = 21) ∨ (5 + rcNb bs + 8 ≤ bs.length ∧
        ((¬ fnvMore fnvInit (bs.take (5 + rcNb bs)) = getL ((bs.drop (5 + rcNb bs)).take 8) ∧ rcE bl bs = 22) ∨
         (fnvMore fnvInit (bs.take (5 + rcNb bs)) = getL ((bs.drop (5 + rcNb bs)).take 8) ∧ rcE bl bs = 0 ∧
          rcX bs = ⟨getL ((bs.drop 1).take 2), getL ((bs.drop 3).take 2), decide (bs[0]?.getD 0 = 2), (bs.drop 5).take (rcNb bs)⟩))))))))) := by
  by_cases h5 : bs.length < 5
  · exact .inl ⟨h5, rcE_short h5⟩
  refine .inr ⟨by omega, ?_⟩
  obtain ⟨m, p0, p1, q0, q1, y, rfl⟩ := five_list (b := bs) (by omega)
  have eN : rcNb (m :: p0 :: p1 :: q0 :: q1 :: y) = rcN m (getL [q0, q1]) := rfl
  rw [eN]
  obtain ⟨N, hN⟩ : ∃ N, rcN m (getL [q0, q1]) = N := ⟨_, rfl⟩
  rw [hN]
  have e0 : (m :: p0 :: p1 :: q0 :: q1 :: y)[0]?.getD 0 = m := rfl
  have e1 : getL (((m :: p0 :: p1 :: q0 :: q1 :: y).drop 1).take 2) = getL [p0, p1] := rfl
  have e2 : getL (((m :: p0 :: p1 :: q0 :: q1 :: y).drop 3).take 2) = getL [q0, q1] := rfl
  have e3 : (m :: p0 :: p1 :: q0 :: q1 :: y).take (5 + N) = m :: p0 :: p1 :: q0 :: q1 :: y.take N := by rw [Nat.add_comm]; rfl
  have e4 : (m :: p0 :: p1 :: q0 :: q1 :: y).drop (5 + N) = y.drop N := by rw [Nat.add_comm]; rfl
  have e5 : (m :: p0 :: p1 :: q0 :: q1 :: y).drop 5 = y := rfl
  have e6 : (m :: p0 :: p1 :: q0 :: q1 :: y).length = y.length + 5 := rfl
  have hX : rcX (m :: p0 :: p1 :: q0 :: q1 :: y) = ⟨getL [p0, p1], getL [q0, q1], decide (m = 2), y.take N⟩ := by rw [← hN]; rfl
  rw [e0, e1, e2, e3, e4, e5, e6, hX]
  simp only [rcE]
  rw [hN]
  by_cases h1 : m ≠ 1 ∧ m ≠ 2
  · exact .inl ⟨h1.1, h1.2, if_pos h1⟩
  rw [if_neg h1]
  refine .inr ⟨by omega, ?_⟩
  by_cases h2 : getL [q0, q1] < 1 ∨ bl < getL [p0, p1] + getL [q0, q1]
  · exact .inl ⟨h2, if_pos h2⟩
  rw [if_neg h2]
  refine .inr ⟨by omega, by omega, ?_⟩
  by_cases h3 : y.length < N + 8
  · exact .inl ⟨by omega, if_pos h3⟩
  rw [if_neg h3]
  refine .inr ⟨by omega, ?_⟩
  by_cases h4 : fnvMore fnvInit (m :: p0 :: p1 :: q0 :: q1 :: y.take N) ≠ getL ((y.drop N).take 8)
  · exact .inl ⟨h4, if_pos h4⟩
  · exact .inr ⟨by simpa using h4, if_neg h4, trivial⟩
def RcOut (bl : Int) (bs : List Int) (w : World) (e : Ending) (w' : World) : Prop :=
  ∃ q : RV, e = .returned (.tuple #[rvV q, .int .i64 (rcE bl bs)]) ∧ (rcE bl bs = 0 → RcF w.heap.size w' q (rcX bs)) ∧ Below w.heap.size w w'
set_option maxRecDepth 100000 in
/-- **record**. -/
theorem pa_rec {v : Value} {bs : List Int} {w : World} {bl : Int} (hbl : 1 ≤ bl ∧ bl ≤ 64) (hv : Sl .u8 w v bs) (hr : IsBytes bs) : Calls Try.prog 20 #[v, .int .i64 bl] w (RcOut bl bs w) := by
  have hways := rc_ways bl bs
  obtain ⟨a, c, rfl, hca, hmx, hly, -⟩ := (show Sl _ _ _ _ from hv)
  obtain ⟨n, hn⟩ : ∃ n, bs.length = n := ⟨_, rfl⟩
  rw [hn] at hv hca hways ⊢
  obtain ⟨B, hB⟩ : ∃ B, w.heap.size = B := ⟨_, rfl⟩
  obtain ⟨W, hW⟩ : ∃ W, w.alloc (.cells #[.int .i64 0, .int .i64 0, .bool false, .slice none 0 0] 49) = W := ⟨_, rfl⟩
  have hK : RowC W B 49 [.int .i64 0, .int .i64 0, .bool false, .slice none 0 0] := by rw [← hW, ← hB]; exact RowC.new w _ _
  have hBl : Below B w W := by rw [← hW, ← hB]; exact below_new w _
  have hBW : B ≤ W.heap.size := by rw [← hB]; exact hBl.size
  have HX : Hid (∀ X : World, Below W.heap.size W X → ∀ q : RV, _) := fun X hX q => rc_exit hBW hBl hK rfl hX q
  have hvW := hv.below (hB ▸ hBl)
  have hnn : (n : Int) ≤ 9223372036854775807 := by unfold maxLen at hmx; omega
  rcases hways with ⟨h1, hE⟩ | ⟨h5, hways⟩
  · have g1 : decide ((n : Int) < 5) = true := by simp; omega
    have g2 : decide (n < 5) = true := by simp; omega
    obtain ⟨y, hS, hL, hF, -⟩ := HX.out W (Below.refl _ _) (0, 0, false, (none, 0, 0))
    have HL := Lib.hid hL
    have HF := Lib.hid hF
    have HE := Lib.hid hE
    simp only [rvV, slV] at hS
    clear hL hF hE hv hvW hK hBl h1 hca hmx hn hr hnn hly
    go_enter Try.func20, Try.ntmps20
    go_wp2_with fail
    refine bodyPost_ret (results_cell2 rfl rfl HL.out) rfl ?_
    exact ⟨(0, 0, false, (none, 0, 0)), by rw [HE.out]; rfl, (fun e => by rw [HE.out] at e; cases e), by rw [hB]; exact HF.out⟩
  obtain ⟨b, o, rfl, hbw, hcell⟩ : ∃ b o, a = some ⟨b, o, none⟩ ∧ b < w.heap.size ∧ ∀ j, j < n → w.cell? ⟨b, o + j, none⟩ = some (.int .u8 (bs[j]?.getD 0)) := by
    rcases hly with h | ⟨b, o, h4, h5', h6⟩
    · rw [h] at hn; simp at hn; omega
    · exact ⟨b, o, h4, h5', fun j hj => h6 j (by omega)⟩
  have g1 : decide ((n : Int) < 5) = false := by simp; omega
  have g2 : decide (n < 5) = false := by simp; omega
  have hn0 : 0 < n := by omega
  obtain ⟨m, hm⟩ : ∃ y, bs[0]?.getD 0 = y := ⟨_, rfl⟩
  have HC0 : Hid (∀ x : World, Below W.heap.size W x → x.cell? ⟨b, o, none⟩ = some (.int .u8 m)) := fun x hx => by
    have hz := hcell 0 hn0
    rw [hm, Nat.add_zero] at hz
    have hbW : b < W.heap.size := by rw [← hB] at hBW; omega
    exact (hx.cell (p := ⟨b, o, none⟩) hbW).trans (((hB ▸ hBl : Below w.heap.size w W).cell (p := ⟨b, o, none⟩) hbw).trans hz)
  have c0 := HC0.out W (Below.refl _ _)
  rw [hm] at hways
  clear hcell hly hbw
  rcases hways with ⟨h1, h2, hE⟩ | ⟨h1, hways⟩
  · have g3 : (m != 1) = true := by simpa using h1
    have g4 : (m != 2) = true := by simpa using h2
    obtain ⟨y, hS, hL, hF, -⟩ := HX.out W (Below.refl _ _) (0, 0, false, (none, 0, 0))
    have HL := Lib.hid hL
    have HF := Lib.hid hF
    simp only [rvV, slV] at hS
    clear hL hF
    have HE := Lib.hid hE
    clear hE hv hvW hK hBl h1 h2 hca hmx hn hr hnn hm h5
    go_enter Try.func20, Try.ntmps20
    go_wp2_with fail
    refine bodyPost_ret (results_cell2 rfl rfl HL.out) rfl ?_
    exact ⟨(0, 0, false, (none, 0, 0)), by rw [HE.out]; rfl, (fun e => by rw [HE.out] at e; cases e), by rw [hB]; exact HF.out⟩
  -- the numbers
  have k1 : (5 : Int) ≤ (n : Int) := by omega
  have k2 : (n : Int) ≤ (c : Int) := by omega
  have hc1 : ¬ c = 1 := by omega
  have HS : Hid (∀ x : World, Below W.heap.size W x → Sl .u8 x (.slice (some ⟨b, o + 1, none⟩) 4 (c - 1)) ((bs.drop 1).take 4)) := fun x hx => by
    have := pa_mid (hvW.below hx) (K := 1) (m := 4) (by omega)
    rw [if_neg hc1] at this
    simpa [Addr.add] using this
  have HV : Hid (∀ x : World, Below W.heap.size W x → Sl .u8 x (.slice (some ⟨b, o, none⟩) n c) bs) := fun x hx => hvW.below hx
  have e1 : ((bs.drop 1).take 4).take 2 = (bs.drop 1).take 2 := by rw [List.take_take]; rfl
  have e2 : (((bs.drop 1).take 4).drop 2).take 2 = (bs.drop 3).take 2 := by rw [List.drop_take, List.take_take, List.drop_drop]; rfl
  obtain ⟨N, hN⟩ : ∃ N, rcNb bs = N := ⟨_, rfl⟩
  have hNd : N = rcN m (getL ((bs.drop 3).take 2)) := by rw [← hN, ← hm]; rfl
  rw [hN] at hways
  obtain ⟨fr, hfr⟩ : ∃ q, getL ((bs.drop 1).take 2) = q := ⟨_, rfl⟩
  obtain ⟨ct, hct⟩ : ∃ q, getL ((bs.drop 3).take 2) = q := ⟨_, rfl⟩
  have b1 := getL_bdN (hr.drop 1) 2 (by omega)
  have b2 := getL_bdN (hr.drop 3) 2 (by omega)
  rw [hfr] at b1 hways
  rw [hct] at b2 hways hNd
  have E1 := Lib.hid (e1 ▸ hfr)
  have E2 := Lib.hid (e2 ▸ hct)
  obtain ⟨fr0, fr1⟩ := b1
  obtain ⟨ct0, ct1⟩ := b2
  simp only [Nat.reduceMul, Int.reducePow] at fr1 ct1
  have HR4 := Lib.hid ((hr.drop 1).take 4)
  have HL4 : Hid (((bs.drop 1).take 4).length = 4) := by show _ = _; rw [List.length_take, List.length_drop]; omega
  obtain ⟨us, hus⟩ : ∃ us, (bs.drop 1).take 4 = us := ⟨_, rfl⟩
  rw [hus] at HS HR4 HL4 E1 E2
  have HW := Lib.hid hways
  have HRB := Lib.hid hr
  have HLN := Lib.hid hn
  have HCA := Lib.hid (And.intro hca h5)
  have HND := Lib.hid hNd
  obtain ⟨l0, l1⟩ := hbl
  clear hv hvW hK hBl hca hmx hn hr h5 hm hways e1 e2 hfr hct hus hN hNd
  rcases h1 with rfl | rfl
  · go_enter Try.func20, Try.ntmps20
    go_wp2_with fail
    go_at_call 40
    refine (newReader_any _ us W (HS.out W (Below.refl _ _)) (by rw [HL4.out]; omega)).mono ?_
    rintro e x1 ⟨rb, rfl, hrb, hR, hb⟩
    obtain ⟨M, hM⟩ : ∃ N, x1.heap.size = N := ⟨_, rfl⟩
    rw [hM] at hR
    have HRX : Hid (W.heap.size ≤ rb) := Nat.le_of_lt hrb
    have R1 := Lib.hid hR
    have K1 : Hid (Below W.heap.size W x1) := hb
    clear hR hb hrb hM c0
    go_wp2_with fail
    go_at_call 41
    refine (num_yes rb us 2 x1 R1.out HR4.out (by rw [HL4.out]; omega)).mono ?_
    rintro e x2 ⟨rfl, hR, hg⟩
    rw [E1.out]
    have R2 := Lib.hid hR
    have K2 : Hid (Below W.heap.size W x2) := K1.out.grown hg K1.out.size (fun k e => by cases e; exact HRX.out)
    clear hR hg
    go_wp2_with fail
    go_at_call 41
    refine (num_yes rb (us.drop 2) 2 x2 R2.out (HR4.out.drop 2) (by rw [List.length_drop, HL4.out]; omega)).mono ?_
    rintro e x3 ⟨rfl, hR, hg⟩
    rw [E2.out]
    have K3 : Hid (Below W.heap.size W x3) := K2.out.grown hg K2.out.size (fun k e => by cases e; exact HRX.out)
    clear hR hg
    rcases HW.out with ⟨h5, hE⟩ | ⟨h5, h6, h7⟩
    · have HE := Lib.hid hE
      obtain ⟨y, hS, hL, hF, -⟩ := HX.out x3 K3.out (0, 0, false, (none, 0, 0))
      have HL := Lib.hid hL
      have HF := Lib.hid hF
      simp only [rvV, slV] at hS
      clear hL hF
      clear hE HW
      rcases (show ct < 1 ∨ (¬ ct < 1 ∧ bl < fr + ct) by omega) with h | ⟨h, h'⟩
      · have g5 : decide (ct < 1) = true := by simpa using h
        clear h h5
        go_wp2_with fail
        refine bodyPost_ret (results_cell2 rfl rfl HL.out) rfl ?_
        exact ⟨(0, 0, false, (none, 0, 0)), by rw [HE.out]; rfl, (fun e => by rw [HE.out] at e; cases e), by rw [hB]; exact HF.out⟩
        
      · have g5 : decide (ct < 1) = false := by simpa using h
        have g6 : decide (bl < fr + ct) = true := by simpa using h'
        clear h h' h5
        go_wp2_with fail
        refine bodyPost_ret (results_cell2 rfl rfl HL.out) rfl ?_
        exact ⟨(0, 0, false, (none, 0, 0)), by rw [HE.out]; rfl, (fun e => by rw [HE.out] at e; cases e), by rw [hB]; exact HF.out⟩
        
    have g5 : decide (ct < 1) = false := by simp; omega
    have g6 : decide (bl < fr + ct) = false := by simp; omega
    have ct2 : ct ≤ 64 := by omega
    have ct3 : 1 ≤ ct := by omega
    have hNv : (N : Int) = ct * 64 := by
      have := HND.out
      unfold rcN at this
      rw [if_neg (by decide)] at this; omega
    obtain ⟨S, hSN⟩ : ∃ S, S = 5 + N := ⟨_, rfl⟩
    have HSN := Lib.hid hSN
    have HNV := Lib.hid hNv
    have hsz : 5 + ct * 64 = (S : Int) := by omega
    have s0 : (5 : Int) ≤ (S : Int) := by omega
    have s1 : (S : Int) ≤ 5000 := by omega
    obtain ⟨C, hC⟩ : ∃ C, x3.heap.size = C := ⟨_, rfl⟩
    obtain ⟨X4, hX4⟩ : ∃ X, x3.alloc (.cells #[.int .i64 fr, .int .i64 ct, .bool false, .slice none 0 0] 49) = X := ⟨_, rfl⟩
    have ST : (storeVar 49 ⟨C, 0, none⟩ (.agg #[.int .i64 fr, .int .i64 ct, .bool false, .slice none 0 0])).run Try.prog (x3.alloc (.cells #[.int .i64 0, .int .i64 0, .bool false, .slice none 0 0] 49)) = .ok () X4 := by rw [← hX4, ← hC]; exact new_rc x3 (fr, ct, false, (none, 0, 0))
    have r4 : RowC X4 C 49 (rvL (fr, ct, false, (none, 0, 0))) := by rw [← hX4, ← hC]; exact RowC.new x3 _ _
    have b4 : Below x3.heap.size x3 X4 := by rw [← hX4]; exact below_new _ _
    have K4 : Hid (Below W.heap.size W X4) := K3.out.trans (b4.mono K3.out.size)
    have HCW : Hid (W.heap.size ≤ C) := by rw [← hC]; exact K3.out.size
    have L4 : (loadVar 49 ⟨C, 0, none⟩).run Try.prog X4 = .ok (.agg #[.int .i64 fr, .int .i64 ct, .bool false, .slice none 0 0]) X4 := load_rcC r4
    have RR4 := Lib.hid r4
    have HP := Lib.hid (pa_plain fr ct false (none, 0, 0) X4 ⟨ct0, by omega⟩)
    simp only [rvV, slV] at HP
    have c0 := HC0.out x3 K3.out
    have HWW := Lib.hid h7
    clear h5 h6 h7 HW b4 r4 hX4 hNv hSN
    go_wp2_with fail
    refine HP.out.mono ?_
    rintro e x5 ⟨rfl, hb⟩
    simp only [if_true, if_false, Bool.false_eq_true]
    have r5 := RR4.out.below hb
    have RR5 := Lib.hid r5
    have K5 : Hid (Below W.heap.size W x5) := K4.out.trans (hb.mono K4.out.size)
    rw [hsz]
    clear hb c0 L4 ST hC HP hsz
    have HS8 : Hid (∀ x : World, (Instr.sliceAt 22 (.slice (some ⟨b, o, none⟩) n c) none (some (.int .i64 ((S : Int) + 8))) none).run Try.prog x = .ok (.slice (some ⟨b, o, none⟩) (S + 8) c) x ∨ n < S + 8) := fun x => by
      by_cases h : n < S + 8
      · exact .inr h
      · exact .inl ((sl_hi (K := S + 8) (HV.out W (Below.refl _ _)) (by omega)).1 x)
    rcases HWW.out with ⟨h8, hE⟩ | ⟨h8, h9⟩
    · have HE := Lib.hid hE
      obtain ⟨y, hS, hL, hF, -⟩ := HX.out x5 K5.out (0, 0, false, (none, 0, 0))
      have HL := Lib.hid hL
      have HF := Lib.hid hF
      simp only [rvV, slV] at hS
      clear hL hF
      have g7 : decide ((n : Int) < (S : Int) + 8) = true := by have := HSN.out; simp; omega
      clear hE HWW h8
      go_wp2_with fail
      refine bodyPost_ret (results_cell2 rfl rfl HL.out) rfl ?_
      exact ⟨(0, 0, false, (none, 0, 0)), by rw [HE.out]; rfl, (fun e => by rw [HE.out] at e; cases e), by rw [hB]; exact HF.out⟩
      
    have g7 : decide ((n : Int) < (S : Int) + 8) = false := by have := HSN.out; simp; omega
    have h8' : ¬ n < S + 8 := by have := HSN.out; omega
    have HS9 : Hid (∀ x : World, (Instr.sliceAt 22 (.slice (some ⟨b, o, none⟩) n c) none (some (.int .i64 ((S : Int) + 8))) none).run Try.prog x = .ok (.slice (some ⟨b, o, none⟩) (S + 8) c) x) := fun x => (HS8.out x).resolve_right h8'
    have q8 := pa_checked ((sl_hi (K := S + 8) (HV.out x5 K5.out) (by omega)).2 _ (HV.out x5 K5.out)) (HRB.out.take (S + 8)) (m := S) (by rw [List.length_take, HLN.out]; omega)
    rw [List.take_take, List.drop_take, Nat.min_eq_left (by omega), show S + 8 - S = 8 by omega] at q8
    have HQ := Lib.hid q8
    have H8 := Lib.hid h8'
    clear q8 h8 h8' HS8 HWW
    rcases h9 with ⟨h9, hE⟩ | ⟨h9, hE, hX⟩
    · rw [← HSN.out] at h9
      rw [decide_eq_false h9] at HQ
      have HE := Lib.hid hE
      clear hE h9
      go_wp2_with ((with_reducible refine gate_slice 69 ?_); refine wpList_slice_run (.tmp 69) 22 none (some (.tmp 71)) rfl rfl _ _ _ _ rfl rfl rfl (HS9.out _) ?_)
      refine HQ.out.mono ?_
      rintro e x6 ⟨rfl, hb⟩
      obtain ⟨y, hS, hL, hF, -⟩ := HX.out x6 (K5.out.trans (hb.mono K5.out.size)) (0, 0, false, (none, 0, 0))
      have HL := Lib.hid hL
      have HF := Lib.hid hF
      simp only [rvV, slV] at hS
      clear hL hF
      clear hb
      go_wp2_with fail
      refine bodyPost_ret (results_cell2 rfl rfl HL.out) rfl ?_
      exact ⟨(0, 0, false, (none, 0, 0)), by rw [HE.out]; rfl, (fun e => by rw [HE.out] at e; cases e), by rw [hB]; exact HF.out⟩
      
    rw [← HSN.out] at h9
    rw [decide_eq_true h9] at HQ
    have HE := Lib.hid hE
    have HXX := Lib.hid hX
    clear hE h9 hX
    go_wp2_with ((with_reducible refine gate_slice 69 ?_); refine wpList_slice_run (.tmp 69) 22 none (some (.tmp 71)) rfl rfl _ _ _ _ rfl rfl rfl (HS9.out _) ?_)
    refine HQ.out.mono ?_
    rintro e x6 ⟨rfl, hb⟩
    have r6 := RR5.out.below hb
    have RR6 := Lib.hid r6
    have K6 : Hid (Below W.heap.size W x6) := K5.out.trans (hb.mono K5.out.size)
    have c2 := r6.cell 2 _ rfl
    clear hb HQ r6
    have hN0 : 0 < N := by have := HNV.out; omega
    have HS5 : Hid (∀ x : World, (Instr.sliceAt 22 (.slice (some ⟨b, o, none⟩) n c) (some (.int .i64 5)) (some (.int .i64 (S : Int))) none).run Try.prog x = .ok (.slice (some ⟨b, o + 5, none⟩) N (c - 5)) x) := fun x => pa_cutS (K := 5) (m := N) (by have := HSN.out; have := H8.out; omega) HCA.out.1 hN0 5 (S : Int) rfl (by rw [HSN.out]) x
    have s5 : Sl .u8 x6 (.slice (some ⟨b, o + 5, none⟩) N (c - 5)) ((bs.drop 5).take N) := by
      have := pa_mid (HV.out x6 K6.out) (K := 5) (m := N) (by have := HSN.out; have := H8.out; omega)
      rw [if_neg (by have := HCA.out.1; have := HSN.out; have := H8.out; omega)] at this
      simpa [Addr.add] using this
    have hl5 : ((bs.drop 5).take N).length = N := by rw [List.length_take, List.length_drop, HLN.out]; have := HSN.out; have := H8.out; omega
    have HCL := Lib.hid (bi_clone _ _ x6 s5 (by rw [hl5]; have := HNV.out; omega))
    have HL5 := Lib.hid hl5
    clear s5 hl5 hN0
    go_wp2_with ((with_reducible refine gate_slice 79 ?_); refine wpList_slice_run (.tmp 79) 22 (some (.const (.int .i64 5))) (some (.tmp 80)) rfl rfl _ _ _ _ rfl rfl rfl (HS5.out _) ?_)
    refine HCL.out.mono ?_
    rintro e x7 ⟨v', rfl, ho, hb⟩
    obtain ⟨⟨ua, un, uc⟩, rfl, -⟩ := own_slV ho
    have r7 := RR6.out.below hb
    have c3 := r7.cell 3 _ rfl
    have f3 := r7.frozen 3
    simp only [slV] at c3 ⊢
    have K7 : Hid (Below W.heap.size W x7) := K6.out.trans (hb.mono K6.out.size)
    have ho7 := own_weak ho (M := B) (Nat.le_trans hBW K6.out.size)
    have hg8 := grownBy_setCell' x7 C (.slice ua un uc)
    obtain ⟨X8, hX8⟩ : ∃ X, x7.setCell ⟨C, 3, none⟩ (.slice ua un uc) = X := ⟨_, rfl⟩
    have r8 : RowC X8 C 49 (rvL (fr, ct, false, (ua, un, uc))) := by rw [← hX8]; exact r7.set 3 (.slice ua un uc)
    have K8 : Hid (Below W.heap.size W X8) := by rw [← hX8]; exact set_below K7.out HCW.out 3 _
    have ho8 := own_setB ho7 r7 (by decide) 3 (.slice ua un uc)
    rw [hX8] at ho8
    obtain ⟨y, hS, hL, hF, hRB, hgy⟩ := HX.out X8 K8.out (fr, ct, false, (ua, un, uc))
    have ho9 := ho8.kept hgy (.inr (row_ne ho8 hRB (by decide)))
    have HO := Lib.hid ho9
    have HL := Lib.hid hL
    have HF := Lib.hid hF
    simp only [rvV, slV] at hS
    have L8 : (loadVar 49 ⟨C, 0, none⟩).run Try.prog X8 = .ok (.agg #[.int .i64 fr, .int .i64 ct, .bool false, .slice ua un uc]) X8 := load_rcC r8
    clear hL hF ho7 ho8 ho9 hg8 r7 r8 hRB hgy ho hb HCL
    go_wp2_with fail
    refine bodyPost_ret (results_cell2 rfl rfl HL.out) rfl ?_
    refine ⟨(fr, ct, false, (ua, un, uc)), by rw [HE.out]; rfl, fun _ => ?_, by rw [hB]; exact HF.out⟩
    rw [HXX.out, hB]
    exact ⟨rfl, rfl, rfl, HO.out, ⟨(show I64 fr from ⟨by omega, by omega⟩), (show I64 ct from ⟨by omega, by omega⟩), (HRB.out.drop 5).take N⟩⟩
  · go_enter Try.func20, Try.ntmps20
    go_wp2_with fail
    go_at_call 40
    refine (newReader_any _ us W (HS.out W (Below.refl _ _)) (by rw [HL4.out]; omega)).mono ?_
    rintro e x1 ⟨rb, rfl, hrb, hR, hb⟩
    obtain ⟨M, hM⟩ : ∃ N, x1.heap.size = N := ⟨_, rfl⟩
    rw [hM] at hR
    have HRX : Hid (W.heap.size ≤ rb) := Nat.le_of_lt hrb
    have R1 := Lib.hid hR
    have K1 : Hid (Below W.heap.size W x1) := hb
    clear hR hb hrb hM c0
    go_wp2_with fail
    go_at_call 41
    refine (num_yes rb us 2 x1 R1.out HR4.out (by rw [HL4.out]; omega)).mono ?_
    rintro e x2 ⟨rfl, hR, hg⟩
    rw [E1.out]
    have R2 := Lib.hid hR
    have K2 : Hid (Below W.heap.size W x2) := K1.out.grown hg K1.out.size (fun k e => by cases e; exact HRX.out)
    clear hR hg
    go_wp2_with fail
    go_at_call 41
    refine (num_yes rb (us.drop 2) 2 x2 R2.out (HR4.out.drop 2) (by rw [List.length_drop, HL4.out]; omega)).mono ?_
    rintro e x3 ⟨rfl, hR, hg⟩
    rw [E2.out]
    have K3 : Hid (Below W.heap.size W x3) := K2.out.grown hg K2.out.size (fun k e => by cases e; exact HRX.out)
    clear hR hg
    rcases HW.out with ⟨h5, hE⟩ | ⟨h5, h6, h7⟩
    · have HE := Lib.hid hE
      obtain ⟨y, hS, hL, hF, -⟩ := HX.out x3 K3.out (0, 0, false, (none, 0, 0))
      have HL := Lib.hid hL
      have HF := Lib.hid hF
      simp only [rvV, slV] at hS
      clear hL hF
      clear hE HW
      rcases (show ct < 1 ∨ (¬ ct < 1 ∧ bl < fr + ct) by omega) with h | ⟨h, h'⟩
      · have g5 : decide (ct < 1) = true := by simpa using h
        clear h h5
        go_wp2_with fail
        refine bodyPost_ret (results_cell2 rfl rfl HL.out) rfl ?_
        exact ⟨(0, 0, false, (none, 0, 0)), by rw [HE.out]; rfl, (fun e => by rw [HE.out] at e; cases e), by rw [hB]; exact HF.out⟩
        
      · have g5 : decide (ct < 1) = false := by simpa using h
        have g6 : decide (bl < fr + ct) = true := by simpa using h'
        clear h h' h5
        go_wp2_with fail
        refine bodyPost_ret (results_cell2 rfl rfl HL.out) rfl ?_
        exact ⟨(0, 0, false, (none, 0, 0)), by rw [HE.out]; rfl, (fun e => by rw [HE.out] at e; cases e), by rw [hB]; exact HF.out⟩
        
    have g5 : decide (ct < 1) = false := by simp; omega
    have g6 : decide (bl < fr + ct) = false := by simp; omega
    have ct2 : ct ≤ 64 := by omega
    have ct3 : 1 ≤ ct := by omega
    have hNv : N = 0 := by
      have := HND.out
      unfold rcN at this
      rw [if_pos rfl] at this; exact this
    obtain ⟨S, hSN⟩ : ∃ S, S = 5 + N := ⟨_, rfl⟩
    have HSN := Lib.hid hSN
    have HNV := Lib.hid hNv
    have hsz : (5 : Int) = (S : Int) := by omega
    have s0 : (5 : Int) ≤ (S : Int) := by omega
    have s1 : (S : Int) ≤ 5000 := by omega
    obtain ⟨C, hC⟩ : ∃ C, x3.heap.size = C := ⟨_, rfl⟩
    obtain ⟨X4, hX4⟩ : ∃ X, x3.alloc (.cells #[.int .i64 fr, .int .i64 ct, .bool true, .slice none 0 0] 49) = X := ⟨_, rfl⟩
    have ST : (storeVar 49 ⟨C, 0, none⟩ (.agg #[.int .i64 fr, .int .i64 ct, .bool true, .slice none 0 0])).run Try.prog (x3.alloc (.cells #[.int .i64 0, .int .i64 0, .bool false, .slice none 0 0] 49)) = .ok () X4 := by rw [← hX4, ← hC]; exact new_rc x3 (fr, ct, true, (none, 0, 0))
    have r4 : RowC X4 C 49 (rvL (fr, ct, true, (none, 0, 0))) := by rw [← hX4, ← hC]; exact RowC.new x3 _ _
    have b4 : Below x3.heap.size x3 X4 := by rw [← hX4]; exact below_new _ _
    have K4 : Hid (Below W.heap.size W X4) := K3.out.trans (b4.mono K3.out.size)
    have HCW : Hid (W.heap.size ≤ C) := by rw [← hC]; exact K3.out.size
    have L4 : (loadVar 49 ⟨C, 0, none⟩).run Try.prog X4 = .ok (.agg #[.int .i64 fr, .int .i64 ct, .bool true, .slice none 0 0]) X4 := load_rcC r4
    have RR4 := Lib.hid r4
    have HP := Lib.hid (pa_plain fr ct true (none, 0, 0) X4 ⟨ct0, by omega⟩)
    simp only [rvV, slV] at HP
    have c0 := HC0.out x3 K3.out
    have HWW := Lib.hid h7
    clear h5 h6 h7 HW b4 r4 hX4 hNv hSN
    go_wp2_with fail
    refine HP.out.mono ?_
    rintro e x5 ⟨rfl, hb⟩
    simp only [if_true, if_false, Bool.false_eq_true]
    have r5 := RR4.out.below hb
    have RR5 := Lib.hid r5
    have K5 : Hid (Below W.heap.size W x5) := K4.out.trans (hb.mono K4.out.size)
    rw [hsz]
    clear hb c0 L4 ST hC HP hsz
    have HS8 : Hid (∀ x : World, (Instr.sliceAt 22 (.slice (some ⟨b, o, none⟩) n c) none (some (.int .i64 ((S : Int) + 8))) none).run Try.prog x = .ok (.slice (some ⟨b, o, none⟩) (S + 8) c) x ∨ n < S + 8) := fun x => by
      by_cases h : n < S + 8
      · exact .inr h
      · exact .inl ((sl_hi (K := S + 8) (HV.out W (Below.refl _ _)) (by omega)).1 x)
    rcases HWW.out with ⟨h8, hE⟩ | ⟨h8, h9⟩
    · have HE := Lib.hid hE
      obtain ⟨y, hS, hL, hF, -⟩ := HX.out x5 K5.out (0, 0, false, (none, 0, 0))
      have HL := Lib.hid hL
      have HF := Lib.hid hF
      simp only [rvV, slV] at hS
      clear hL hF
      have g7 : decide ((n : Int) < (S : Int) + 8) = true := by have := HSN.out; simp; omega
      clear hE HWW h8
      go_wp2_with fail
      refine bodyPost_ret (results_cell2 rfl rfl HL.out) rfl ?_
      exact ⟨(0, 0, false, (none, 0, 0)), by rw [HE.out]; rfl, (fun e => by rw [HE.out] at e; cases e), by rw [hB]; exact HF.out⟩
      
    have g7 : decide ((n : Int) < (S : Int) + 8) = false := by have := HSN.out; simp; omega
    have h8' : ¬ n < S + 8 := by have := HSN.out; omega
    have HS9 : Hid (∀ x : World, (Instr.sliceAt 22 (.slice (some ⟨b, o, none⟩) n c) none (some (.int .i64 ((S : Int) + 8))) none).run Try.prog x = .ok (.slice (some ⟨b, o, none⟩) (S + 8) c) x) := fun x => (HS8.out x).resolve_right h8'
    have q8 := pa_checked ((sl_hi (K := S + 8) (HV.out x5 K5.out) (by omega)).2 _ (HV.out x5 K5.out)) (HRB.out.take (S + 8)) (m := S) (by rw [List.length_take, HLN.out]; omega)
    rw [List.take_take, List.drop_take, Nat.min_eq_left (by omega), show S + 8 - S = 8 by omega] at q8
    have HQ := Lib.hid q8
    have H8 := Lib.hid h8'
    clear q8 h8 h8' HS8 HWW
    rcases h9 with ⟨h9, hE⟩ | ⟨h9, hE, hX⟩
    · rw [← HSN.out] at h9
      rw [decide_eq_false h9] at HQ
      have HE := Lib.hid hE
      clear hE h9
      go_wp2_with ((with_reducible refine gate_slice 69 ?_); refine wpList_slice_run (.tmp 69) 22 none (some (.tmp 71)) rfl rfl _ _ _ _ rfl rfl rfl (HS9.out _) ?_)
      refine HQ.out.mono ?_
      rintro e x6 ⟨rfl, hb⟩
      obtain ⟨y, hS, hL, hF, -⟩ := HX.out x6 (K5.out.trans (hb.mono K5.out.size)) (0, 0, false, (none, 0, 0))
      have HL := Lib.hid hL
      have HF := Lib.hid hF
      simp only [rvV, slV] at hS
      clear hL hF
      clear hb
      go_wp2_with fail
      refine bodyPost_ret (results_cell2 rfl rfl HL.out) rfl ?_
      exact ⟨(0, 0, false, (none, 0, 0)), by rw [HE.out]; rfl, (fun e => by rw [HE.out] at e; cases e), by rw [hB]; exact HF.out⟩
      
    rw [← HSN.out] at h9
    rw [decide_eq_true h9] at HQ
    have HE := Lib.hid hE
    have HXX := Lib.hid hX
    clear hE h9 hX
    go_wp2_with ((with_reducible refine gate_slice 69 ?_); refine wpList_slice_run (.tmp 69) 22 none (some (.tmp 71)) rfl rfl _ _ _ _ rfl rfl rfl (HS9.out _) ?_)
    refine HQ.out.mono ?_
    rintro e x6 ⟨rfl, hb⟩
    have r6 := RR5.out.below hb
    have RR6 := Lib.hid r6
    have K6 : Hid (Below W.heap.size W x6) := K5.out.trans (hb.mono K5.out.size)
    have c2 := r6.cell 2 _ rfl
    clear hb HQ r6
    obtain ⟨y, hS, hL, hF, -⟩ := HX.out x6 K6.out (fr, ct, true, (none, 0, 0))
    have HL := Lib.hid hL
    have HF := Lib.hid hF
    simp only [rvV, slV] at hS
    have L6 : (loadVar 49 ⟨C, 0, none⟩).run Try.prog x6 = .ok (.agg #[.int .i64 fr, .int .i64 ct, .bool true, .slice none 0 0]) x6 := load_rcC RR6.out
    clear hL hF
    go_wp2_with fail
    refine bodyPost_ret (results_cell2 rfl rfl HL.out) rfl ?_
    refine ⟨(fr, ct, true, (none, 0, 0)), by rw [HE.out]; rfl, fun _ => ?_, by rw [hB]; exact HF.out⟩
    rw [HXX.out, HNV.out]
    exact ⟨rfl, rfl, rfl, World.ownsRow_nil _ _ _ _, ⟨(show I64 fr from ⟨by omega, by omega⟩), (show I64 ct from ⟨by omega, by omega⟩), isBytes_nil⟩⟩
end
end Go.Proofs.Ytfihpljgbghogaa

/- The developers' parse: all of it. -/
namespace Go.Proofs.Ytfihpljgbghogaa
open Go.RowKit Go.Shelf
set_option linter.unusedVariables false
set_option linter.unusedSimpArgs false
attribute [-simp] Try.isAgg49 Try.zeroValue49 Try.isAgg26 Try.zeroValue26
attribute [-go_sem] loadVar storeVar
attribute [local go_sem] Oper.semAt_some
section
set_option maxRecDepth 100000
set_option maxHeartbeats 8000000
attribute [local go_sem] loadVar_openRS storeVar_openRS zero_rcP build_rc0 build_rcP zero_smP build_sm0 build_sm3P
theorem wpQuiet_slice_runP {P : Program} {C : World → Prop} {ops : Array Oper} {rest : List Oper} {o : Oper} {a : Act} {Q : Act → Prop} (s : Operand) (t : TypeId) (lo hi : Option Operand)
    (ho : o.op = .slice t s lo hi none) (hw : Region.wanted o (yielded ops a.tmps) = true) (vs v' : Value) (l h : Option Value) (hs : a.eval s = vs) (hl : lo.map a.eval = l) (hh : hi.map a.eval = h)
    (hrun : ∀ x, C x → (Instr.sliceAt t vs l h none).run P x = .ok v' x) (hK : wpQuiet P ops C Q rest (a.put o.dst v')) : wpQuiet P ops C Q (o :: rest) a := by
  unfold wpQuiet
  rw [if_pos hw]
  refine ⟨v', fun x hx => ?_, hK⟩
  unfold Oper.quietAt
  simp [execOp, ho, hs, hl, hh, hrun x hx, Result.andThen]
  exact ⟨rfl, rfl⟩
theorem RcF.weak {N M : Nat} {W : World} {q : RV} {s : RC} (h : RcF N W q s) (hM : M ≤ N) : RcF M W q s := ⟨h.fr, h.ct, h.ze, own_weak h.da hM, h.ok⟩
theorem RcF.keptR {N B : Nat} {W W' : World} {q : RV} {s : RC} {t : TypeId} {C : List Value} (h : RcF N W q s) (hB : RowC W B t C) (h2 : 5 ≠ t) (hg : W.grownBy W' (some B)) : RcF N W' q s :=
  ⟨h.fr, h.ct, h.ze, h.da.kept hg (.inr (row_ne h.da hB h2)), h.ok⟩
theorem RcF.val {N : Nat} {W : World} {q : RV} {s : RC} (h : RcF N W q s) : ∃ d : SlV, q = (s.fr, s.ct, s.ze, d) := by
  obtain ⟨a, b, c, d⟩ := q
  have h1 := h.fr
  have h2 := h.ct
  have h3 := h.ze
  simp only at h1 h2 h3
  subst h1 h2 h3
  exact ⟨d, rfl⟩
/-- What lies while the records are read. -/
structure PaI (B D n : Nat) (bl ba id : Int) (bs : List Int) (M : Nat) (w : World) (k a : Nat) (s : SM) (u : SlV) (W : World) : Prop where
  go : goP bs (M - k) s a = goP bs M ⟨bl, ba, id, []⟩ 24
  gd : sGood s
  e1 : s.bl = bl
  e2 : s.ba = ba
  e3 : s.id = id
  rd : RowC W D 26 (smL bl ba id u)
  rb : RowC W B 26 [.int .i64 0, .int .i64 0, .int .i64 0, .slice none 0 0]
  re : RcO B W (slV u) s.re
  be : Below B w W
theorem PaI.below {B D n M k a : Nat} {bl ba id : Int} {bs : List Int} {w W W' : World} {s : SM} {u : SlV} (h : PaI B D n bl ba id bs M w k a s u W) (hBW : B ≤ W.heap.size) (hb : Below W.heap.size W W') : PaI B D n bl ba id bs M w k a s u W' :=
  ⟨h.go, h.gd, h.e1, h.e2, h.e3, h.rd.below hb, h.rb.below hb, h.re.below hb, h.be.trans (hb.mono hBW)⟩
def PaOut (bs : List Int) (w : World) (e : Ending) (w' : World) : Prop :=
  ∃ u : SlV, e = .returned (.tuple #[smV (paS bs).bl (paS bs).ba (paS bs).id u, .int .i64 (paE bs)]) ∧ RcO w.heap.size w' (slV u) (paS bs).re ∧ Below w.heap.size w w'
set_option maxRecDepth 100000 in
/-- A result with an error. -/
theorem pa_bad {B : Nat} {w X : World} {bs : List Int} {E : Int} {C : List Value} (hB : w.heap.size = B) (hE : paE bs = E) (h0 : E ≠ 0) (hK : RowC X B 26 C) (hl : C.length = 4) (hb : Below B w X) :
    ∃ y, (storeVar 26 ⟨B, 0, none⟩ (.agg #[.int .i64 0, .int .i64 0, .int .i64 0, .slice none 0 0])).run Try.prog X = .ok () y ∧ (loadVar 26 ⟨B, 0, none⟩).run Try.prog y = .ok (smV 0 0 0 (none, 0, 0)) y ∧ PaOut bs w (.returned (.tuple #[smV 0 0 0 (none, 0, 0), .int .i64 E])) y := by
  obtain ⟨y, h1, h2, h3⟩ := store_smC 0 0 0 (none, 0, 0) hK hl
  have hS : paS bs = smz := by unfold paS; rw [if_neg (by rw [hE]; exact h0)]
  have hBX : B ≤ X.heap.size := by rw [← hB] at hb ⊢; exact hb.size
  refine ⟨y, h1, load_smC h2, (none, 0, 0), ?_, ?_, ?_⟩
  · rw [hS, hE]; rfl
  · rw [hS]; exact RcO.nil _ _
  · rw [hB]; exact hb.grown h3 hBX (fun k e => by cases e; exact Nat.le_refl _)
set_option maxHeartbeats 20000000
set_option maxRecDepth 100000 in
/-- **Parse**. -/
theorem pa_parse {v : Value} {bs : List Int} {w : World} (hv : Sl .u8 w v bs) (hr : IsBytes bs) : Calls Try.prog 8 #[v] w (PaOut bs w) := by
  have hmxo : Try.prog.follows .mixedOrders = true := by kernel_rfl
  obtain ⟨a0, c, rfl, hca, hmx, -⟩ := (show Sl _ _ _ _ from hv)
  obtain ⟨n, hn⟩ : ∃ n, bs.length = n := ⟨_, rfl⟩
  rw [hn] at hv hca ⊢
  obtain ⟨B, hB⟩ : ∃ B, w.heap.size = B := ⟨_, rfl⟩
  obtain ⟨W, hW⟩ : ∃ W, w.alloc (.cells #[.int .i64 0, .int .i64 0, .int .i64 0, .slice none 0 0] 26) = W := ⟨_, rfl⟩
  have hK : RowC W B 26 [.int .i64 0, .int .i64 0, .int .i64 0, .slice none 0 0] := by rw [← hW, ← hB]; exact RowC.new w _ _
  have hBl : Below B w W := by rw [← hW, ← hB]; exact below_new w _
  have hBW : B ≤ W.heap.size := by rw [← hB]; rw [← hB] at hBl; exact hBl.size
  have hnn : (n : Int) ≤ 9223372036854775807 := by unfold maxLen at hmx; omega
  have HH := Lib.hid (pa_hd (hv.below (hB ▸ hBl)) hr)
  have HV : Hid (∀ x : World, Below B w x → Sl .u8 x (.slice a0 n c) bs) := fun x hx => hv.below (hB ▸ hx)
  have HRB := Lib.hid hr
  have HLN := Lib.hid hn
  have HK := Lib.hid hK
  have HBL := Lib.hid hBl
  clear hv hr hn hK hBl hmx
  go_enter Try.func8, Try.ntmps8
  go_wp2_with fail
  try go_step3
  try go_wp2_with fail
  refine HH.out.mono ?_
  rintro e x1 ⟨bl, ba, id, cn, rfl, hh, hb1⟩
  have K1 : Hid (Below W.heap.size W x1) := hb1
  have hK1 := HK.out.below hb1
  have HB1 : Hid (Below B w x1) := HBL.out.trans (hb1.mono hBW)
  obtain ⟨D, hD⟩ : ∃ D, x1.heap.size = D := ⟨_, rfl⟩
  have hBD : B < D := by rw [← hD]; exact hK1.lt
  obtain ⟨X2, hX2⟩ : ∃ X, x1.alloc (.cells #[.int .i64 bl, .int .i64 ba, .int .i64 id, .slice none 0 0] 26) = X := ⟨_, rfl⟩
  have ST : (storeVar 26 ⟨D, 0, none⟩ (smV bl ba id (none, 0, 0))).run Try.prog (x1.alloc (.cells #[.int .i64 0, .int .i64 0, .int .i64 0, .slice none 0 0] 26)) = .ok () X2 := by rw [← hX2, ← hD]; exact new_sm x1 bl ba id (none, 0, 0)
  have b2 : Below x1.heap.size x1 X2 := by rw [← hX2]; exact below_new _ _
  have rd2 : RowC X2 D 26 (smL bl ba id (none, 0, 0)) := by rw [← hX2, ← hD]; exact RowC.new x1 _ _
  have rb2 := hK1.below b2
  have be2 : Below B w X2 := HB1.out.trans (b2.mono (by rw [hD]; omega))
  simp only [smV, slV] at ST ⊢
  by_cases h0 : hdE bs = 0
  · obtain ⟨hS0, hcn⟩ := hh h0
    obtain ⟨M, hM⟩ : ∃ M, hdM bs = M := ⟨_, rfl⟩
    rw [hM] at hcn
    subst hcn
    have hM1 : (M : Int) < 65536 := by
      have := getL_bdN (HRB.out.drop 14) 2 (by omega)
      rw [← hM]
      unfold hdM
      rw [Int.toNat_of_nonneg this.1]
      exact this.2
    obtain ⟨q24, -, hok⟩ := hd_back HRB.out h0
    rw [hS0] at hok
    have hbl : Hid (1 ≤ bl ∧ bl ≤ 64) := ⟨hok.1, hok.2.1⟩
    have h24 : 24 ≤ n := by rw [← HLN.out]; exact q24
    have HPE : Hid (paE bs = if (goP bs M ⟨bl, ba, id, []⟩ 24).1 ≠ 0 then (goP bs M ⟨bl, ba, id, []⟩ 24).1 else enE bs (goP bs M ⟨bl, ba, id, []⟩ 24).2.2) := by
      show _ = _
      unfold paE
      rw [if_neg (by simp [h0]), hM, hS0]
    have HPS : Hid (paE bs = 0 → paS bs = (goP bs M ⟨bl, ba, id, []⟩ 24).2.1) := fun e => by
      unfold paS
      rw [if_pos e, hM, hS0]
    have I0 : PaI B D n bl ba id bs M w 0 24 ⟨bl, ba, id, []⟩ (none, 0, 0) X2 :=
      ⟨rfl, ⟨hok, fun k x hk => by cases hk⟩, rfl, rfl, rfl, rd2, rb2, RcO.nil _ _, be2⟩
    have HI0 := Lib.hid I0
    have HOK := Lib.hid hok
    have hzz : hdE bs = 0 := h0
    rw [hzz]
    clear hh h0 hS0 hM hok q24 I0 hb1 hK1 b2 rd2 rb2 be2 hzz
    go_wp2_with fail
    go_step3
    go_wp2_with fail
    go_loopw [6, 7, 20] (fun ev av iv wr => ∃ (k a : Nat) (s : SM) (u : SlV), k ≤ M ∧ a ≤ n ∧ ev = .int .i64 0 ∧ av = .int .i64 (a : Int) ∧ iv = .int .u64 (k : Int) ∧ Hid (PaI B D n bl ba id bs M w k a s u wr)) (fun _ _ iv _ => M - (intOf iv).toNat)
    case atStart => exact ⟨0, 24, _, _, Nat.zero_le _, h24, rfl, rfl, rfl, HI0⟩
    case round =>
      obtain ⟨k, a, s, u, hk, han, rfl, rfl, rfl, HI⟩ := hrel
      obtain ⟨u1, u2, u3⟩ := u
      have hM0 : 0 ≤ (M : Int) := by omega
      have hsl := HV.out wr HI.out.be
      have k2 : (n : Int) ≤ (c : Int) := by omega
      have ka : (a : Int) ≤ (n : Int) := by omega
      by_cases hkM : k < M
      · have g1 : (k : Int) < (M : Int) := by omega
        have g2 : decide ((k : Int) < (M : Int)) = true := by simpa using g1
        obtain ⟨N1, hN1⟩ : ∃ N, M - k = N + 1 := ⟨M - k - 1, by omega⟩
        have HN1 : Hid (M - (k + 1) = N1) := by show _ = _; omega
        have HKM := Lib.hid hkM
        obtain ⟨R, hR⟩ : ∃ R, wr.heap.size = R := ⟨_, rfl⟩
        have hBR : B ≤ R := by rw [← hR]; exact Nat.le_of_lt HI.out.rb.lt
        have hDR : D < R := by rw [← hR]; exact HI.out.rd.lt
        obtain ⟨V1, hV1⟩ : ∃ V, wr.alloc (.cells #[.int .i64 0, .int .i64 0, .bool false, .slice none 0 0] 49) = V := ⟨_, rfl⟩
        have b1 : Below wr.heap.size wr V1 := by rw [← hV1]; exact below_new _ _
        have r1 : RowC V1 R 49 [.int .i64 0, .int .i64 0, .bool false, .slice none 0 0] := by rw [← hV1, ← hR]; exact RowC.new wr _ _
        obtain ⟨V2, hV2⟩ : ∃ V, V1.drew = V := ⟨_, rfl⟩
        have b2 : Below V1.heap.size V1 V2 := by rw [← hV2]; exact (Below.refl _ _).drew
        have b12 : Below wr.heap.size wr V2 := b1.trans (b2.mono b1.size)
        have I1 := HI.out.below (by rw [hR]; exact hBR) b1
        have I2 := HI.out.below (by rw [hR]; exact hBR) b12
        have r2 := r1.below b2
        have HB1 := Lib.hid b1
        have HB12 := Lib.hid b12
        have HD1 := Lib.hid I1.rd
        have HB2 := Lib.hid I1.rb
        have dD1 : ∀ z : KpS V1 D B, z.1.cell? ⟨D, 0, none⟩ = some (.int .i64 bl) := fun z => (z.fst I1.rd).cell 0 _ rfl
        obtain ⟨ra, hrun, hsub⟩ := sl_lo hsl han
        have HRUN := Lib.hid hrun
        have hs2 := hsub V2 (hsl.below b12)
        have HRC := Lib.hid (pa_rec hbl.out hs2 (HRB.out.drop a))
        have HI2 := Lib.hid I2
        have HR2 := Lib.hid r2
        have H0 : Hid (∃ z : KpS V1 D B, V2 = z.1) := ⟨⟨V2, kpS_of I1.rd I1.rb I2.rd I2.rb⟩, rfl⟩
        have hab : Hid (∀ q : Nat, a ≤ q → True) := fun _ _ => trivial
        clear hkM b1 b2 b12 I1 I2 r1 r2 hrun hsub hs2 hsl hab
        go_wp2_with fail
        refine region_plan (fun x => ∃ z : KpS V1 D B, x = z.1) 10 (.takes [0, 1, 2, 3, 4] (.one 5 (.takes [6, 7, 8] (.one 9 .leaf)))) hmxo (by kernel_rfl) (by intro c x v a w h; cases x <;> exact h) (by rw [hV2]; exact H0.out) ?_
        rw [hV2]
        rw [wpPlan_takes_cons]; simp only [nth_zero, nth_succ]; go_big_quiet_step (fail); refine wpQuiet_nil ?_
        rw [wpPlan_takes_cons]; simp only [nth_zero, nth_succ]; go_big_quiet_step (fail); refine wpQuiet_nil ?_
        rw [wpPlan_takes_cons]; simp only [nth_zero, nth_succ]; refine wpQuiet_slice_runP (.tmp 23) 22 (some (.tmp 24)) none rfl rfl _ _ _ _ rfl rfl rfl (fun x _ => HRUN.out x) ?_; refine wpQuiet_nil ?_; simp only [Act.put, List.setIfInBounds_toArray, List.set_cons_succ, List.set_cons_zero]
        repeat (rw [wpPlan_takes_cons]; simp only [nth_zero, nth_succ]; go_big_quiet_step (fail); refine wpQuiet_nil ?_)
        rw [wpPlan_takes_nil, wpPlan_one]
        simp only [nth_zero, nth_succ]
        clear dD1
        go_wp2_with fail
        go_at_call 20
        refine HRC.out.mono ?_
        rintro e y1 ⟨q, rfl, hq, hb⟩
        obtain ⟨qa, qb, qc, qd⟩ := q
        have J1 := HI2.out.below (Nat.le_trans hBR (by have := HR2.out.lt; omega)) hb
        have rr1 := HR2.out.below hb
        have b1y : Below wr.heap.size wr y1 := HB12.out.trans (hb.mono HB12.out.size)
        obtain ⟨y2, hS2, rr2, hg2⟩ := store_rcC (qa, qb, qc, qd) rr1 rfl
        have b2y : Below wr.heap.size wr y2 := b1y.grown hg2 b1y.size (fun j e => by cases e; omega)
        have J2 := HI.out.below (by rw [hR]; exact hBR) b2y
        have HJ2 := Lib.hid J2
        have HRR2 := Lib.hid rr2
        have HB2Y := Lib.hid b2y
        have HQ : Hid (rcE bl (bs.drop a) = 0 → RcF B y2 (qa, qb, qc, qd) (rcX (bs.drop a))) := fun e => ((hq e).weak (Nat.le_trans hBR (by have := HR2.out.lt; omega))).keptR rr1 (by decide) hg2
        have HJ1 : Hid (∃ z : KpS V1 D B, y1 = z.1) := ⟨⟨y1, kpS_of HD1.out HB2.out J1.rd J1.rb⟩, rfl⟩
        have HJJ : Hid (∃ z : KpS V1 D B, y2 = z.1) := ⟨⟨y2, kpS_of HD1.out HB2.out J2.rd J2.rb⟩, rfl⟩
        simp only [rvV] at hS2 ⊢
        clear hq hb J1 rr1 b1y hg2 b2y J2 rr2
        go_wp2_with fail
        refine planPost_mk HJ1.out ?_
        repeat (rw [wpPlan_takes_cons]; simp only [nth_zero, nth_succ]; go_big_quiet_step (fail); refine wpQuiet_nil ?_)
        rw [wpPlan_takes_nil, wpPlan_one]
        simp only [nth_zero, nth_succ]
        go_wp2_with fail
        refine planPost_mk HJJ.out ?_
        rw [wpPlan_leaf]
        simp only [List.drop_succ_cons, List.drop_zero]
        have HGO : Hid (goP bs (N1 + 1) s a = goP bs M ⟨bl, ba, id, []⟩ 24) := by show _ = _; rw [← hN1]; exact HI.out.go
        have hsb : s.bl = bl := HI.out.e1
        by_cases hE : rcE bl (bs.drop a) = 0
        · obtain ⟨f1, f2, -, f4, f5⟩ := rcE_back (HRB.out.drop a) hE
          rw [List.length_drop, HLN.out] at f2
          have hq := HQ.out hE
          have hadd : (sGood (s.add (rcX (bs.drop a))) → goP bs (N1 + 1) s a = goP bs N1 (s.add (rcX (bs.drop a))) (a + (13 + (rcX (bs.drop a)).da.length))) ∧ (¬ sGood (s.add (rcX (bs.drop a))) → goP bs (N1 + 1) s a = (26, s, a)) := by
            rw [← hsb] at hE
            exact ⟨fun hg => goP_on hE hg, fun hg => goP_order hE hg⟩
          obtain ⟨x, hx⟩ : ∃ x, rcX (bs.drop a) = x := ⟨_, rfl⟩
          rw [hx] at f1 f2 f4 f5 hq hadd
          obtain ⟨d, hqd⟩ := hq.val
          cases hqd
          obtain ⟨xf, hxf⟩ : ∃ y, x.fr = y := ⟨_, rfl⟩
          obtain ⟨xc, hxc⟩ : ∃ y, x.ct = y := ⟨_, rfl⟩
          obtain ⟨xz, hxz⟩ : ∃ y, x.ze = y := ⟨_, rfl⟩
          obtain ⟨Ln, hLn⟩ : ∃ y, x.da.length = y := ⟨_, rfl⟩
          obtain ⟨d1, d2, d3⟩ := qd
          have hct : 0 ≤ xc ∧ xc ≤ 100000 := by rw [← hxc]; have := f1.ct; omega
          have hpl : (if xz then (5 : Int) else 5 + xc * 64) = 5 + (Ln : Int) := by
            have := f1.da
            rw [hxz, hxc, hLn] at this
            rw [this]
            cases xz <;> simp
          have J := HJ2.out
          have hmany := HI.out.gd.many
          obtain ⟨v', y4, hA, hO4, hg4⟩ := rc_append J.re (Nat.le_of_lt J.rb.lt) hq (by omega)
          obtain ⟨⟨v1, v2, v3⟩, rfl, -⟩ := rc_slV hO4
          obtain ⟨rr, hrr1, hrr2, hrr3⟩ := J.re
          have rd4 := J.rd.grown hg4 (row_ne hrr2 J.rd (by decide))
          have rb4 := J.rb.grown hg4 (row_ne hrr2 J.rb (by decide))
          have rR4 := HRR2.out.grown hg4 (fun e => by have := (HI.out.re.base R e).2; omega)
          have be4 : Below B w y4 := J.be.grown hg4 (Nat.le_of_lt J.rb.lt) (fun j e => (J.re.base j e).1)
          have c3 := J.rd.cell 3 _ rfl
          have c34 := rd4.cell 3 _ rfl
          have f34 := rd4.frozen 3
          have L2 : (loadVar 49 ⟨R, 0, none⟩).run Try.prog y2 = .ok (rvV (x.fr, x.ct, x.ze, (d1, d2, d3))) y2 := load_rcC HRR2.out
          have SL := slice_rc1 y2 (x.fr, x.ct, x.ze, (d1, d2, d3))
          obtain ⟨y3, hy3⟩ : ∃ y, y2.alloc (.cells (rvL (x.fr, x.ct, x.ze, (d1, d2, d3))).toArray 49) = y := ⟨_, rfl⟩
          obtain ⟨Z2, hZ2⟩ : ∃ z, y2.heap.size = z := ⟨_, rfl⟩
          rw [hy3, hZ2] at hA SL
          obtain ⟨y5, hy5⟩ : ∃ y, y4.setCell ⟨D, 3, none⟩ (.slice v1 v2 v3) = y := ⟨_, rfl⟩
          have rd5 : RowC y5 D 26 (smL bl ba id (v1, v2, v3)) := by rw [← hy5]; exact rd4.set 3 (.slice v1 v2 v3)
          have rb5 : RowC y5 B 26 [.int .i64 0, .int .i64 0, .int .i64 0, .slice none 0 0] := by rw [← hy5]; exact set_other rb4 (by omega) 3 _
          have rR5 : RowC y5 R 49 (rvL (x.fr, x.ct, x.ze, (d1, d2, d3))) := by rw [← hy5]; exact set_other rR4 (by omega) 3 _
          have re5 : RcO B y5 (slV (v1, v2, v3)) (s.re ++ [x]) := by rw [← hy5]; exact hO4.keptC rd4 (by decide) (by decide) (grownBy_setCellJ y4 D 3 _)
          have be5 : Below B w y5 := by rw [← hy5]; exact set_below be4 (by omega) 3 _
          have L5 : (loadVar 26 ⟨D, 0, none⟩).run Try.prog y5 = .ok (smV bl ba id (v1, v2, v3)) y5 := load_smC rd5
          obtain ⟨rr5, hrr5⟩ := re5.rcs
          have hok5 := HOK.out
          have hsmi : Smi y5 (smV bl ba id (v1, v2, v3)) (s.add x) := ⟨rr5, ⟨⟨(v1, v2, v3), by show _ = smV s.bl s.ba s.id _; rw [HI.out.e1, HI.out.e2, HI.out.e3], hrr5⟩, by show I64 s.bl; rw [HI.out.e1]; have := hok5.1; have := hok5.2.1; unfold I64; omega, by show I64 s.ba; rw [HI.out.e2]; obtain ⟨-, -, -, h4, h5⟩ := hok5; unfold I64; omega, by show I64 s.id; rw [HI.out.e3]; obtain ⟨-, -, h3, h4, -⟩ := hok5; unfold I64; omega⟩⟩
          have HGD := Lib.hid (sm_good hsmi)
          have HSL := Lib.hid SL
          have HA := Lib.hid hA
          have HADD := Lib.hid hadd
          have RD5 := Lib.hid rd5
          have RB5 := Lib.hid rb5
          have RR5 := Lib.hid rR5
          have RE5 := Lib.hid re5
          have BE5 := Lib.hid be5
          have HLN2 := Lib.hid hLn
          rw [hE]
          rw [hxf, hxc, hxz] at L2 HSL RR5
          rw [hxf, hxc, hxz]
          have kan : (a : Int) + 13 + (Ln : Int) ≤ (n : Int) := by rw [hLn] at f2; omega
          have HLE : Hid (a + (13 + Ln) ≤ n) := by show _ ≤ _; omega
          simp only [rvV, slV] at HSL
          simp only [rvV, smV, slV] at c3 c34 L2 L5 HA HGD ⊢
          clear SL hA hadd rd5 rb5 rR5 re5 be5 hsmi hok5 hO4 hg4 rd4 rb4 rR4 be4 hrr1 hrr2 hrr3 hrr5 J hmany f1 f2 f4 f5 hq hE hx hxf hxc hxz hLn HQ HRC
          go_wp2_with (first | ((with_reducible refine gate_build ?_); refine wpList_build_run 24 1 _ rfl rfl [(0, _)] _ rfl HSL.out ?_) | (at_builtin; refine wpList_append_run (.tmp 34) (.tmp 36) 24 rfl rfl _ _ _ rfl rfl (HA.out _) ?_))
          refine HGD.out.mono ?_
          rintro e z ⟨t, rfl, ht, hb⟩
          have be6 : Below B w z := BE5.out.trans (hb.mono (Nat.le_of_lt RB5.out.lt))
          have rb6 := RB5.out.below hb
          have rd6 := RD5.out.below hb
          have rR6 := RR5.out.below hb
          have re6 := RE5.out.below hb
          have c36 := rd6.cell 3 _ rfl
          cases t with
          | false =>
            have hng : ¬ sGood (s.add x) := fun hg => by have := ht.2 hg; cases this
            have hgo := HADD.out.2 hng
            rw [HGO.out] at hgo
            have hpe : paE bs = 26 := by rw [HPE.out, hgo]; rfl
            obtain ⟨y, hS, hL, hP⟩ := pa_bad hB hpe (by decide) rb6 rfl be6
            have HL := Lib.hid hL
            have HP := Lib.hid hP
            clear hL hP be6 rb6 rd6 rR6 re6 hb ht hng hgo hpe L2 L5 c3 c34 c36 f34
            go_wp2_with fail
            try rw [Exit.noGoto_ret]
            exact bodyPost_ret (results_cell2 rfl rfl HL.out) rfl HP.out
          | true =>
            have hg : sGood (s.add x) := ht.1 rfl
            have hgo := HADD.out.1 hg
            rw [HGO.out] at hgo
            have L6 : (loadVar 49 ⟨R, 0, none⟩).run Try.prog z = .ok (.agg #[.int .i64 xf, .int .i64 xc, .bool xz, .slice d1 d2 d3]) z := load_rcC rR6
            have HPL := Lib.hid (pa_plain xf xc xz (d1, d2, d3) z hct)
            simp only [rvV, slV] at HPL
            have I6 : PaI B D n bl ba id bs M w (k + 1) (a + (13 + x.da.length)) (s.add x) (v1, v2, v3) z :=
              ⟨by rw [HN1.out]; exact hgo.symm, hg, HI.out.e1, HI.out.e2, HI.out.e3, rd6, rb6, re6, be6⟩
            rw [HLN2.out] at I6
            have HI6 := Lib.hid I6
            have hbz : B ≤ z.heap.size := Nat.le_of_lt rb6.lt
            clear I6 be6 rb6 rd6 rR6 re6 hb ht hg hgo L2 L5 c3 c34 c36 f34
            go_wp2_with fail
            refine HPL.out.mono ?_
            rintro e z2 ⟨rfl, hb⟩
            rw [hpl]
            have HI7 := Lib.hid (HI6.out.below hbz hb)
            clear hb L6 hpl hct
            have hLn0 : 0 ≤ (Ln : Int) := by omega
            go_wp2_with fail
            go_roundw
            case rel => exact ⟨k + 1, a + (13 + Ln), s.add x, (v1, v2, v3), HKM.out, HLE.out, rfl, by congr 1; push_cast; omega, by first | (congr 1; push_cast; omega) | simp, HI7⟩
            case measure => have := HKM.out; first | (simp [intOf]; omega) | (simp only [intOf]; omega)
        · have hgo : goP bs (N1 + 1) s a = (rcE s.bl (bs.drop a), s, a) := goP_bad (by rw [hsb]; exact hE)
          rw [HGO.out, hsb] at hgo
          have hpe : paE bs = rcE bl (bs.drop a) := by rw [HPE.out, hgo]; exact if_pos hE
          obtain ⟨y, hS, hL, hP⟩ := pa_bad hB hpe hE HJ2.out.rb rfl HJ2.out.be
          obtain ⟨E, hEE⟩ : ∃ E, rcE bl (bs.drop a) = E := ⟨_, rfl⟩
          rw [hEE] at hE hP ⊢
          have q1 : (E != 0) = true := by simpa using hE
          have q2 : (E == 0) = false := by simpa using hE
          have HL := Lib.hid hL
          have HP := Lib.hid hP
          clear hL hP hE hEE hgo hpe HQ HRC
          go_wp2_with fail
          try rw [Exit.noGoto_ret]
          exact bodyPost_ret (results_cell2 rfl rfl HL.out) rfl HP.out
      · obtain rfl : k = M := by omega
        have hgo := HI.out.go
        rw [Nat.sub_self, goP] at hgo
        have hpe : paE bs = enE bs a := by rw [HPE.out, ← hgo]; exact if_neg (by simp)
        have hEND := Lib.hid (pa_end hsl HRB.out (k := a) (by rw [HLN.out]; exact han))
        have HPE2 := Lib.hid hpe
        have HGO2 := Lib.hid hgo
        clear hgo hpe hsl
        go_wp2_with fail
        refine hEND.out.mono ?_
        rintro e z ⟨rfl, hb⟩
        have I1 := HI.out.below (Nat.le_of_lt HI.out.rb.lt) hb
        by_cases hE : enE bs a = 0
        · obtain ⟨y, hS, hrb, hg⟩ := store_smC bl ba id (u1, u2, u3) I1.rb rfl
          have L1 : (loadVar 26 ⟨D, 0, none⟩).run Try.prog z = .ok (smV bl ba id (u1, u2, u3)) z := load_smC I1.rd
          have hL := load_smC hrb
          have hPS : paS bs = s := by
            rw [HPS.out (by rw [HPE2.out]; exact hE), ← HGO2.out]
          have hP : PaOut bs w (.returned (.tuple #[smV bl ba id (u1, u2, u3), .int .i64 0])) y := by
            refine ⟨(u1, u2, u3), ?_, ?_, ?_⟩
            · rw [hPS, HPE2.out, hE, HI.out.e1, HI.out.e2, HI.out.e3]
            · rw [hPS, hB]; exact I1.re.keptC I1.rb (by decide) (by decide) hg
            · rw [hB]; exact I1.be.grown hg (Nat.le_of_lt I1.rb.lt) (fun j e => by cases e; exact Nat.le_refl _)
          have HL := Lib.hid hL
          have HP := Lib.hid hP
          rw [hE]
          simp only [smV, slV] at hS L1
          clear hL hP hrb hg I1 hb hE hPS
          go_wp2_with fail
          try rw [Exit.noGoto_ret]
          exact bodyPost_ret (results_cell2 rfl rfl HL.out) rfl HP.out
        · obtain ⟨y, hS, hL, hP⟩ := pa_bad hB HPE2.out hE I1.rb rfl I1.be
          obtain ⟨E, hEE⟩ : ∃ E, enE bs a = E := ⟨_, rfl⟩
          rw [hEE] at hE hP ⊢
          have q1 : (E != 0) = true := by simpa using hE
          have q2 : (E == 0) = false := by simpa using hE
          have HL := Lib.hid hL
          have HP := Lib.hid hP
          clear hL hP hE hEE I1 hb
          go_wp2_with fail
          try rw [Exit.noGoto_ret]
          exact bodyPost_ret (results_cell2 rfl rfl HL.out) rfl HP.out
  · obtain ⟨y, hS, hL, hP⟩ := pa_bad hB (paE_hd h0) h0 rb2 rfl be2
    have HL := Lib.hid hL
    have HP := Lib.hid hP
    have g1 : (hdE bs != 0) = true := by simpa using h0
    have g2 : (hdE bs == 0) = false := by simpa using h0
    obtain ⟨E, hE⟩ : ∃ E, hdE bs = E := ⟨_, rfl⟩
    rw [hE] at g1 g2 HP ⊢
    clear hL hP h0 hh hb1 hK1 b2 rd2 rb2 be2 hE
    go_wp2_with fail
    try rw [Exit.noGoto_ret]
    exact bodyPost_ret (results_cell2 rfl rfl HL.out) rfl HP.out
end
end Go.Proofs.Ytfihpljgbghogaa

/- The helpers of the statements on le: two rows of bytes alike; the document's own answers. -/
namespace Go.Proofs.Ytfihpljgbghogaa
open Go.RowKit Go.Shelf
set_option linter.unusedVariables false

set_option maxRecDepth 100000 in
set_option maxHeartbeats 2000000 in
/-- **ref.Get**: by definition. -/
theorem refGet_at (a : Option Addr) (len cap : Nat) (bs : List Int) (hlen : bs.length = len) (hcap : len ≤ 9223372036854775807) (w : World) (hA : Lies w a len bs) (hr : IsBytes bs) :
    Calls Try.prog 27 #[.slice a len cap] w fun e w' => e = .returned (.int .u64 (getL bs)) ∧ w' = w := by
  have HL := Lib.hid hlen
  have hA := Lib.hid hA
  have hr := Lib.hid hr
  clear hlen
  go_enter Try.func27, Try.ntmps27
  go_wp2
  go_loop [3, 4] (fun v i => ∃ k : Nat, k ≤ nPlaces (len : Int) ∧ i = .int .i64 k ∧ v = .int .u64 (getN bs k)) (fun _ i => 8 - (intOf i).toNat)
  case atStart => exact ⟨0, Nat.zero_le _, rfl, rfl⟩
  case round =>
    obtain ⟨k, hk, rfl, rfl⟩ := hrel
    have hk8 := nPlaces_le (len : Int)
    by_cases hlt : k < nPlaces (len : Int)
    · have hl : k < len := by have := nPlaces_lt hlt; omega
      have hl8 : k < 8 := by omega
      have hl8' : (k : Int) < 8 := by omega
      obtain ⟨b, off, rfl, hb, hc⟩ : ∃ b off, a = some ⟨b, off, none⟩ ∧ b < w.heap.size ∧ ∀ j, j < len → w.cell? ⟨b, off + j, none⟩ = some (.int .u8 (bs[j]?.getD 0)) := by
        rcases hA.out with h | h
        · omega
        · exact h
      have c3 := hc k hl
      obtain ⟨r1, r2⟩ := hr.out k
      have HS := Lib.hid (getN_plus bs hr.out k hl8)
      obtain ⟨y, hy⟩ : ∃ y, bs[k]?.getD 0 = y := ⟨_, rfl⟩
      rw [hy] at c3 r1 r2 HS
      obtain ⟨v, hv⟩ : ∃ v, getN bs k = v := ⟨_, rfl⟩
      rw [hv] at HS ⊢
      clear hc hy hv
      go_wp2
      go_round
      case rel => exact ⟨k + 1, by omega, by go_num, by rw [HS.out]⟩
      case measure => simp [intOf]; omega
    · have hk' : k = nPlaces (len : Int) := by omega
      have hd : ¬ (k < len ∧ k < 8) := by
        rintro ⟨h1, h2⟩
        unfold nPlaces at hk'; split at hk' <;> omega
      have HK := Lib.hid hk'
      clear hk'
      by_cases h1 : k < len
      · have h2 : ¬ k < 8 := fun h => hd ⟨h1, h⟩
        have h3 : decide ((k : Int) < 8) = false := by simp; omega
        clear hd
        go_wp2
        go_ret
        refine ⟨?_, rfl⟩
        rw [HK.out]; simp [getL, HL.out]
      · have h3 : decide ((k : Int) < (len : Int)) = false := by simp; omega
        clear hd
        go_wp2
        go_ret
        refine ⟨?_, rfl⟩
        rw [HK.out]; simp [getL, HL.out]

set_option maxRecDepth 100000 in
theorem refGet_any (v : Value) (bs : List Int) (w : World) (hv : Sl .u8 w v bs) (hr : IsBytes bs) :
    Calls Try.prog 27 #[v] w fun e w' => e = .returned (.int .u64 (getL bs)) ∧ w' = w := by
  obtain ⟨a, cap, rfl, hl, h2⟩ := Lies.of_sl hv
  unfold maxLen at h2
  exact refGet_at a bs.length cap bs rfl (by omega) w hl hr

set_option maxRecDepth 100000 in
set_option maxHeartbeats 2000000 in
theorem refPut_some (n : Int) (size : Nat) (w : World) (hs1 : 1 ≤ size) (hs2 : size ≤ 16) (hn0 : 0 ≤ n) (hn1 : n < 18446744073709551616) :
    Calls Try.prog 17 #[.int .u64 n, .int .i64 (size : Int)] w fun e w' => ∃ v, e = .returned v ∧ w'.ownsRow w.heap.size 5 1 v size ((putL n size).map (Value.int .u8)) ∧ Below w.heap.size w w' := by
  obtain ⟨i0, hi, hz0, hz1, hz2⟩ := info_parts info_u8
  have g1 : ¬ ((size : Int) < 1) := by omega
  have g2 : ¬ (16 < (size : Int)) := by omega
  have g3 : decide ((size : Int) < 1) = false := by simpa using g1
  have g4 : decide (16 < (size : Int)) = false := by simpa using g2
  go_enter Try.func17, Try.ntmps17
  go_wp2_with (first | (at_make; refine wpList_make_full _ rfl _ _ 22 rfl w.heap.size 5 i0 (.int .u8 0) 1 Try.underlying22 hi hz0 hz1 .i64 .i64 _ _ size rfl rfl rfl rfl (by rw [hz2]; omega) (by unfold maxLen; omega) (by simp) ?_; intro w1 hown1 hgrow1))
  have hown2 : w1.ownsRow w.heap.size 5 1 (.slice (some ⟨w.heap.size, 0, none⟩) size size) size (putP n size 0) := by
    rw [putP_zero]
    rw [show (Value.int IntKind.u8 0).cells = #[.int .u8 0] from rfl, toList_madeCells_one, Nat.mul_one] at hown1
    exact hown1
  have hB1 : Below w.heap.size w w1 := (Below.refl _ w).grown hgrow1 (Nat.le_refl _) (fun k e => by cases e)
  have HO := Lib.hid hown2
  have HB := Lib.hid hB1
  clear hown1 hgrow1 hown2 hB1 g1 g2 g3 g4
  go_loopw [6] (fun i wr => ∃ k : Nat, k ≤ nPlaces (size : Int) ∧ i = .int .i64 k ∧ wr.ownsRow w.heap.size 5 1 (.slice (some ⟨w.heap.size, 0, none⟩) size size) size (putP n size k) ∧ Below w.heap.size w wr) (fun i _ => 8 - (intOf i).toNat)
  case atStart => exact ⟨0, Nat.zero_le _, rfl, HO.out, HB.out⟩
  case round =>
    obtain ⟨k, hk, rfl, hrow, hB⟩ := hrel
    have hk8 := nPlaces_le (size : Int)
    by_cases hlt : k < nPlaces (size : Int)
    · have hl : k < size := by have := nPlaces_lt hlt; omega
      have hl8 : k < 8 := by omega
      have hl8' : (k : Int) < 8 := by omega
      obtain ⟨z, c3⟩ : ∃ z, wr.cell? ⟨w.heap.size, k, none⟩ = some (.int .u8 z) := by
        rw [hrow.cellAt k (by omega)]
        unfold putP
        simp [hl]
      have f3 := hrow.frozenAt k
      have hst := hrow.stored k (.int .u8 (n / 2 ^ (8 * k) % 256))
      have HST := Lib.hid hst
      have HB1 := Lib.hid hB
      clear hrow hst hB
      go_wp2
      go_roundw
      case rel => exact ⟨k + 1, by omega, by go_num, by rw [putP_succ]; exact HST.out.1, HB1.out.setCell (p := ⟨w.heap.size, k, none⟩) (Nat.le_refl _) _⟩
      case measure => simp [intOf]; omega
    · have hk' : k = nPlaces (size : Int) := by omega
      have hd : ¬ (k < size ∧ k < 8) := by
        rintro ⟨h1, h2⟩
        unfold nPlaces at hk'; split at hk' <;> omega
      have hfin : wr.ownsRow w.heap.size 5 1 (.slice (some ⟨w.heap.size, 0, none⟩) size size) size ((putL n size).map (Value.int .u8)) := by
        rw [← putP_all, ← hk']; exact hrow
      have HF := Lib.hid hfin
      have HB1 := Lib.hid hB
      clear hk' hrow hB hfin
      by_cases h1 : k < size
      · have h2 : ¬ k < 8 := fun h => hd ⟨h1, h⟩
        have h3 : decide ((k : Int) < 8) = false := by simp; omega
        clear hd
        go_wp2
        go_ret
        exact ⟨_, rfl, HF.out, HB1.out⟩
      · have h3 : decide ((k : Int) < (size : Int)) = false := by simp; omega
        clear hd
        go_wp2
        go_ret
        exact ⟨_, rfl, HF.out, HB1.out⟩

end Go.Proofs.Ytfihpljgbghogaa

/- The document's parse: numbers, checks; what it hands back. -/
namespace Go.Proofs.Ytfihpljgbghogaa
open Go.RowKit Go.Shelf
set_option linter.unusedVariables false
set_option linter.unusedSimpArgs false
attribute [-simp] Try.isAgg49 Try.zeroValue49 Try.isAgg26 Try.zeroValue26 Try.isAgg31 Try.zeroValue31
attribute [-go_sem] loadVar storeVar
section
set_option maxRecDepth 100000
set_option maxHeartbeats 4000000
set_option maxRecDepth 100000 in
theorem rf17_num {v : Value} {bs : List Int} {w : World} (hv : Sl .u8 w v bs) (hr : IsBytes bs) (hn : getL bs < 9223372036854775808) : Calls Try.prog 24 #[v] w fun e w' => e = .returned (.int .i64 (getL bs)) ∧ w' = w := by
  have HG := Lib.hid (refGet_any v bs w hv hr)
  have h0 := (getL_bd bs hr).1
  obtain ⟨G, hG⟩ : ∃ g, getL bs = g := ⟨_, rfl⟩
  rw [hG] at HG hn h0 ⊢
  clear hv hr hG
  go_enter Try.func24, Try.ntmps24
  go_wp2_with fail
  refine HG.out.mono ?_
  rintro e w' ⟨rfl, rfl⟩
  go_wp2_with fail
  go_ret
  first | exact ⟨rfl, rfl⟩ | exact ⟨by rw [IntWalk.wrap64_in _ (by omega)], rfl⟩
set_option maxRecDepth 100000 in
theorem rf17_sealed {v : Value} {bs : List Int} {w : World} (hv : Sl .u8 w v bs) (hr : IsBytes bs) {m : Nat} (hl : bs.length = m + 8) :
    Calls Try.prog 23 #[v] w fun e w' => e = .returned (.bool (decide (fnvMore fnvInit (bs.take m) = getL (bs.drop m)))) ∧ Below w.heap.size w w' := by
  obtain ⟨a, c, rfl, hca, hmx, -⟩ := (show Sl _ _ _ _ from hv)
  obtain ⟨n, hn⟩ : ∃ n, bs.length = n := ⟨_, rfl⟩
  rw [hn] at hv hca hl ⊢
  have W1 : wrap64 ((n : Int) - 8) = (m : Int) := by unfold maxLen at hmx; rw [IntWalk.wrap64_in _ (by omega)]; omega
  have k1 : (m : Int) ≤ (n : Int) := by omega
  have k2 : (n : Int) ≤ (c : Int) := by omega
  have k0 : (0 : Int) ≤ (m : Int) := by omega
  obtain ⟨C, hC⟩ : ∃ q, fnvMore fnvInit (bs.take m) = q := ⟨_, rfl⟩
  obtain ⟨G, hG⟩ : ∃ q, getL (bs.drop m) = q := ⟨_, rfl⟩
  have S1 : ∀ x : Ext w, Sl .u8 x.1 (.slice a m c) (bs.take m) := fun x => (sl_hi (hv.below x.2) (by omega)).2 _ (hv.below x.2)
  have S2 : ∀ x : Ext w, Sl .u8 x.1 (.slice (if c = m then a else a.map fun x => x.add m) (n - m) (c - m)) (bs.drop m) := fun x => sl_lo_at (hv.below x.2) (by omega)
  have Q1 : Hid (∀ x : Ext w, Calls Try.prog 18 #[.slice a m c] x.1 fun e w'' => e = .returned (.int .u64 C) ∧ ∃ y : Ext w, w'' = y.1) := fun x => (refCheck_any _ _ _ (S1 x) (hr.take m)).mono fun e w'' ⟨h1, h2⟩ => ⟨by rw [h1, hC], x, h2⟩
  have Q2 : Hid (∀ x : Ext w, Calls Try.prog 27 #[.slice (if c = m then a else a.map fun x => x.add m) (n - m) (c - m)] x.1 fun e w'' => e = .returned (.int .u64 G) ∧ ∃ y : Ext w, w'' = y.1) := fun x => (refGet_any _ _ _ (S2 x) (hr.drop m)).mono fun e w'' ⟨h1, h2⟩ => ⟨by rw [h1, hG], x, h2⟩
  rw [hC, hG]
  obtain ⟨Z, hZ⟩ : ∃ z, decide (C = G) = z := ⟨_, rfl⟩
  have HZ : Hid ((C == G) = Z) := by show _ = _; rw [← hZ]; rfl
  rw [hZ]
  clear hv hr hl hca hmx hC hG hZ S1 S2 hn
  go_enter Try.func23, Try.ntmps23
  go_wp2_with fail
  refine region_ext (by kernel_rfl) (by kernel_rfl) ?_
  repeat (go_big_quiet_step (with_reducible (first | exact Q1.out _ | exact Q2.out _)))
  refine wpQuiet_nil ?_
  intro x
  rw [HZ.out]
  go_wp2_with fail
  all_goals
    go_ret
    exact ⟨rfl, x.2⟩

/-! A Got. -/
def gtV (bl ba id : Int) (v : SlV) (E : Int) : Value := .agg #[.int .i64 bl, .int .i64 ba, .int .i64 id, slV v, .int .i64 E]
def gtL (bl ba id : Int) (v : SlV) (E : Int) : List Value := [.int .i64 bl, .int .i64 ba, .int .i64 id, slV v, .int .i64 E]
set_option maxRecDepth 100000 in
theorem size_gt : (Try.prog.info? 31).map (·.size) = some 5 := by kernel_rfl
set_option maxRecDepth 100000 in
theorem zero_gt (w : World) : (zeroValue 31).run Try.prog w = .ok (.agg #[.int .i64 0, .int .i64 0, .int .i64 0, .slice none 0 0, .int .i64 0]) w := by kernel_rfl
set_option maxRecDepth 100000 in
theorem build_gtE (E : Int) (w : World) : (Instr.build 31 #[(1, .int .i64 E)]).run Try.prog w = .ok (.agg #[.int .i64 0, .int .i64 0, .int .i64 0, .slice none 0 0, .int .i64 E]) w := by kernel_rfl
set_option maxRecDepth 100000 in
theorem build_gtS (a b c : Int) (x : Option Addr) (n m : Nat) (w : World) : (Instr.build 31 #[(0, .agg #[.int .i64 a, .int .i64 b, .int .i64 c, .slice x n m])]).run Try.prog w = .ok (.agg #[.int .i64 a, .int .i64 b, .int .i64 c, .slice x n m, .int .i64 0]) w := by kernel_rfl
set_option maxRecDepth 100000 in
theorem load_gtC {x : World} {B : Nat} {bl ba id E : Int} {v : SlV} (hr : RowC x B 31 (gtL bl ba id v E)) : (loadVar 31 ⟨B, 0, none⟩).run Try.prog x = .ok (gtV bl ba id v E) x :=
  run_loadVar_mid x B 0 _ (gtL bl ba id v E) _ hr.range Try.underlying31 rfl (by kernel_rfl)
set_option maxRecDepth 100000 in
theorem store_gtC {x : World} {B : Nat} {old : List Value} (bl ba id : Int) (v : SlV) (E : Int) (hr : RowC x B 31 old) (ho : old.length = 5) :
    ∃ y, (storeVar 31 ⟨B, 0, none⟩ (gtV bl ba id v E)).run Try.prog x = .ok () y ∧ RowC y B 31 (gtL bl ba id v E) ∧ x.grownBy y (some B) := by
  refine ⟨_, run_storeVar_row x B _ _ old.toArray (gtL bl ba id v E).toArray hr size_gt (by simpa [gtL] using ho) (by kernel_rfl), setRow_heap x B _ _ _ _ hr, ?_⟩
  exact ⟨rfl, rfl, rfl, by rw [setRow_size]; exact Nat.le_refl _, fun k _ hk => setRow_other x B k _ (fun e => hk (by rw [e]))⟩
def RfOut (bs : List Int) (w : World) (e : Ending) (w' : World) : Prop :=
  ∃ u : SlV, e = .returned (gtV (paS bs).bl (paS bs).ba (paS bs).id u (paE bs)) ∧ RcO w.heap.size w' (slV u) (paS bs).re ∧ Below w.heap.size w w'
set_option maxRecDepth 100000 in
/-- A result with an error. -/
theorem rf_bad {B : Nat} {w X : World} {bs : List Int} {E : Int} {C : List Value} (hB : w.heap.size = B) (hE : paE bs = E) (h0 : E ≠ 0) (hK : RowC X B 31 C) (hl : C.length = 5) (hb : Below B w X) :
    ∃ y, (storeVar 31 ⟨B, 0, none⟩ (.agg #[.int .i64 0, .int .i64 0, .int .i64 0, .slice none 0 0, .int .i64 E])).run Try.prog X = .ok () y ∧ (loadVar 31 ⟨B, 0, none⟩).run Try.prog y = .ok (gtV 0 0 0 (none, 0, 0) E) y ∧ RfOut bs w (.returned (gtV 0 0 0 (none, 0, 0) E)) y := by
  obtain ⟨y, h1, h2, h3⟩ := store_gtC 0 0 0 (none, 0, 0) E hK hl
  have hS : paS bs = smz := by unfold paS; rw [if_neg (by rw [hE]; exact h0)]
  have hBX : B ≤ X.heap.size := by rw [← hB] at hb ⊢; exact hb.size
  refine ⟨y, h1, load_gtC h2, (none, 0, 0), ?_, ?_, ?_⟩
  · rw [hS, hE]; rfl
  · rw [hS]; exact RcO.nil _ _
  · rw [hB]; exact hb.grown h3 hBX (fun k e => by cases e; exact Nat.le_refl _)
end
end Go.Proofs.Ytfihpljgbghogaa

/- The document's stream: Head, Next. -/
namespace Go.Proofs.Ytfihpljgbghogaa
open Go.RowKit Go.Shelf
set_option linter.unusedVariables false
set_option linter.unusedSimpArgs false
attribute [-simp] Try.isAgg49 Try.zeroValue49 Try.isAgg26 Try.zeroValue26
attribute [-go_sem] loadVar storeVar
attribute [local go_sem] loadVar_openRS storeVar_openRS zero_rc zero_sm

set_option maxRecDepth 100000 in
set_option maxHeartbeats 4000000 in
/-- **Head**, the document's. -/
theorem rf16_head (bl ba id : Int) (x : SlV) (w : World) : Calls Try.prog 25 #[smV bl ba id x] w fun e w' => ∃ t, e = .returned (.bool t) ∧ (t = true ↔ hdOk bl ba id) ∧ Below w.heap.size w w' := by
  obtain ⟨a, n, c⟩ := x
  obtain ⟨W, hW⟩ : ∃ W, w.alloc (.cells #[.int .i64 bl, .int .i64 ba, .int .i64 id, .slice a n c] 26) = W := ⟨_, rfl⟩
  have r : RowC W w.heap.size 26 [.int .i64 bl, .int .i64 ba, .int .i64 id, .slice a n c] := by rw [← hW]; exact RowC.new w _ _
  have HB : Hid (Below w.heap.size w W) := by show Below _ _ _; rw [← hW]; exact below_new w _
  have c0 := r.cell 0 _ rfl
  have c1 := r.cell 1 _ rfl
  have c2 := r.cell 2 _ rfl
  simp only [smV, slV]
  clear r
  by_cases p0 : 1 ≤ bl
  · have q0 : decide (bl ≥ 1) = true := by simpa using p0
    have P0 := Lib.hid p0
    clear p0
    by_cases p1 : bl ≤ 64
    · have q1 : decide (bl ≤ 64) = true := by simpa using p1
      have P1 := Lib.hid p1
      clear p1
      by_cases p2 : 1 ≤ id
      · have q2 : decide (id ≥ 1) = true := by simpa using p2
        have P2 := Lib.hid p2
        clear p2
        by_cases p3 : id ≤ 1000000
        · have q3 : decide (id ≤ 1000000) = true := by simpa using p3
          have P3 := Lib.hid p3
          clear p3
          by_cases p4 : ba = -1
          · have q4 : (ba == -1) = true := by simpa using p4
            have P4 := Lib.hid p4
            clear p4
            go_enter Try.func25, Try.ntmps25
            go_wp2_with fail
            go_ret
            have := P0.out
            have := P1.out
            have := P2.out
            have := P3.out
            have := P4.out
            first | exact ⟨true, rfl, by unfold hdOk; simp; omega, HB.out⟩ | exact .inr ⟨rfl, by unfold hdOk; omega, HB.out⟩
          · have q4 : (ba == -1) = false := by simpa using p4
            have P4 := Lib.hid p4
            clear p4
            by_cases p5 : 1 ≤ ba
            · have q5 : decide (ba ≥ 1) = true := by simpa using p5
              have P5 := Lib.hid p5
              clear p5
              by_cases p6 : ba < id
              · have q6 : decide (ba < id) = true := by simpa using p6
                have P6 := Lib.hid p6
                clear p6
                go_enter Try.func25, Try.ntmps25
                go_wp2_with fail
                go_ret
                have := P0.out
                have := P1.out
                have := P2.out
                have := P3.out
                have := P4.out
                have := P5.out
                have := P6.out
                first | exact ⟨true, rfl, by unfold hdOk; simp; omega, HB.out⟩ | exact .inr ⟨rfl, by unfold hdOk; omega, HB.out⟩
              · have q6 : decide (ba < id) = false := by simpa using p6
                have P6 := Lib.hid p6
                clear p6
                go_enter Try.func25, Try.ntmps25
                go_wp2_with fail
                go_ret
                have := P0.out
                have := P1.out
                have := P2.out
                have := P3.out
                have := P4.out
                have := P5.out
                have := P6.out
                first | exact ⟨false, rfl, by unfold hdOk; simp; omega, HB.out⟩ | exact .inl ⟨rfl, by unfold hdOk; omega, HB.out⟩
            · have q5 : decide (ba ≥ 1) = false := by simpa using p5
              have P5 := Lib.hid p5
              clear p5
              go_enter Try.func25, Try.ntmps25
              go_wp2_with fail
              go_ret
              have := P0.out
              have := P1.out
              have := P2.out
              have := P3.out
              have := P4.out
              have := P5.out
              first | exact ⟨false, rfl, by unfold hdOk; simp; omega, HB.out⟩ | exact .inl ⟨rfl, by unfold hdOk; omega, HB.out⟩
        · have q3 : decide (id ≤ 1000000) = false := by simpa using p3
          have P3 := Lib.hid p3
          clear p3
          go_enter Try.func25, Try.ntmps25
          go_wp2_with fail
          go_ret
          have := P0.out
          have := P1.out
          have := P2.out
          have := P3.out
          first | exact ⟨false, rfl, by unfold hdOk; simp; omega, HB.out⟩ | exact .inl ⟨rfl, by unfold hdOk; omega, HB.out⟩
      · have q2 : decide (id ≥ 1) = false := by simpa using p2
        have P2 := Lib.hid p2
        clear p2
        go_enter Try.func25, Try.ntmps25
        go_wp2_with fail
        go_ret
        have := P0.out
        have := P1.out
        have := P2.out
        first | exact ⟨false, rfl, by unfold hdOk; simp; omega, HB.out⟩ | exact .inl ⟨rfl, by unfold hdOk; omega, HB.out⟩
    · have q1 : decide (bl ≤ 64) = false := by simpa using p1
      have P1 := Lib.hid p1
      clear p1
      go_enter Try.func25, Try.ntmps25
      go_wp2_with fail
      go_ret
      have := P0.out
      have := P1.out
      first | exact ⟨false, rfl, by unfold hdOk; simp; omega, HB.out⟩ | exact .inl ⟨rfl, by unfold hdOk; omega, HB.out⟩
  · have q0 : decide (bl ≥ 1) = false := by simpa using p0
    have P0 := Lib.hid p0
    clear p0
    go_enter Try.func25, Try.ntmps25
    go_wp2_with fail
    go_ret
    have := P0.out
    first | exact ⟨false, rfl, by unfold hdOk; simp; omega, HB.out⟩ | exact .inl ⟨rfl, by unfold hdOk; omega, HB.out⟩
end Go.Proofs.Ytfihpljgbghogaa

/- The document's stream: Next. -/
namespace Go.Proofs.Ytfihpljgbghogaa
open Go.RowKit Go.Shelf
set_option linter.unusedVariables false
set_option linter.unusedSimpArgs false
attribute [-simp] Try.isAgg49 Try.zeroValue49 Try.isAgg26 Try.zeroValue26
attribute [-go_sem] loadVar storeVar
attribute [local go_sem] loadVar_openRS storeVar_openRS zero_rc zero_sm

/-- A bool that tells whether p, and new memory. -/
def RetB (p : Prop) (w : World) (e : Ending) (w' : World) : Prop := ∃ t, e = .returned (.bool t) ∧ (t = true ↔ p) ∧ Below w.heap.size w w'
theorem RetB.yes {p : Prop} {w w' : World} (hp : p) (hb : Below w.heap.size w w') : RetB p w (.returned (.bool true)) w' := ⟨true, rfl, ⟨fun _ => hp, fun _ => rfl⟩, hb⟩
theorem RetB.no {p : Prop} {w w' : World} (hp : ¬ p) (hb : Below w.heap.size w w') : RetB p w (.returned (.bool false)) w' := ⟨false, rfl, ⟨fun h => (by cases h), fun h => absurd h hp⟩, hb⟩

theorem sl_pieceC {w : World} {b off cap m : Nat} {bs : List Int} {len : Nat} (h : Sl .u8 w (.slice (some ⟨b, off, none⟩) len cap) bs) (hlen0 : 64 * m = len) (hl : bs.length = 64 * m) {k : Nat} (hk : k < m) :
    Sl .u8 w (.slice (some ⟨b, off + k * 64, none⟩) ((k + 1) * 64 - k * 64) (cap - k * 64)) ((bs.drop (64 * k)).take 64) := by
  obtain ⟨a', c', e, h1, h2, h3, -⟩ := h
  obtain ⟨rfl, -, rfl⟩ := Value.slice.inj e
  have hlen : ((bs.drop (64 * k)).take 64).length = 64 := by simp; omega
  rcases h3 with h3 | ⟨b', o', e', h4, h5⟩
  · rw [h3] at hl; simp at hl; omega
  · cases e'
    have := Sl.at (k := .u8) (w := w) (b := b) (off := off + k * 64) (cap := cap - k * 64) (bs := (bs.drop (64 * k)).take 64) (by omega) (by omega) h4 (fun j hj => by
      rw [hlen] at hj
      rw [List.getElem?_take, if_pos hj, List.getElem?_drop, show off + k * 64 + j = off + (64 * k + j) by omega]
      exact h5 _ (by omega))
    rw [hlen] at this
    rw [show (k + 1) * 64 - k * 64 = 64 by omega]
    exact this
set_option maxRecDepth 100000 in
set_option maxHeartbeats 8000000 in
/-- **Next**, the document's. -/
theorem rf16_next {w : World} {bl ba id : Int} (hb : 1 ≤ bl ∧ bl ≤ 64) {pv : SlV} {rr : List RV} {pl : List RC} (hp : RcR w (slV pv) rr pl) {x : RC} {d : SlV} (hd : Sl .u8 w (slV d) x.da) (lo : Int)
    (hlo : (pl = [] ∧ lo = 0) ∨ ∃ k p, pl.length = k + 1 ∧ pl[k]? = some p ∧ 0 ≤ p.fr + p.ct ∧ p.fr + p.ct ≤ 64 ∧ lo = if x.ze == p.ze then p.fr + p.ct + 1 else p.fr + p.ct) :
    Calls Try.prog 26 #[smV bl ba id pv, rvV (x.fr, x.ct, x.ze, d)] w (RetB (plOk bl lo x ∧ daOk ba x) w) := by
  have HLO : Hid (0 ≤ lo) := by
    rcases hlo with ⟨-, rfl⟩ | ⟨k, p, -, -, h1, h2, rfl⟩
    · exact Int.le_refl 0
    · show 0 ≤ _; split <;> omega
  have HHL := Lib.hid hlo
  have HP := Lib.hid hp
  obtain ⟨pa, pn, pc⟩ := pv
  obtain ⟨a, n, c⟩ := d
  obtain ⟨fr, ct, ze, da⟩ := x
  obtain ⟨hn, hmx, hca⟩ := Sl.cellW hd
  simp only at hn hmx hca
  obtain ⟨B, hBB⟩ : ∃ B, w.heap.size = B := ⟨_, rfl⟩
  have HSZ := Lib.hid hBB
  obtain ⟨hpn, hpm⟩ : pn = pl.length ∧ pn ≤ maxLen := by obtain ⟨a', c', e, h1, h2⟩ := hp.len; cases e; exact ⟨rfl, by omega⟩
  have HPN := Lib.hid hpn
  have hpm' : (pn : Int) ≤ 9223372036854775807 := by unfold maxLen at hpm; omega
  have hmx' : (n : Int) ≤ 9223372036854775807 := by unfold maxLen at hmx; omega
  have hcap : n ≤ c ∧ (c : Int) ≤ 9223372036854775807 := by obtain ⟨a', c', e, h1, h2, -⟩ := hd; simp only [slV, Value.slice.injEq] at e; obtain ⟨-, e2, e3⟩ := e; unfold maxLen at h2; simp only at *; omega
  obtain ⟨hc1, hc2⟩ := hcap
  have HN := Lib.hid hn
  have HCA := Lib.hid hca
  have HD := Lib.hid hd
  obtain ⟨hb1, hb2⟩ := hb
  obtain ⟨W, hW⟩ : ∃ W, (w.alloc (.cells #[.int .i64 bl, .int .i64 ba, .int .i64 id, .slice pa pn pc] 26)).alloc (.cells #[.int .i64 fr, .int .i64 ct, .bool ze, .slice a n c] 49) = W := ⟨_, rfl⟩
  have r0 : RowC W B 26 [.int .i64 bl, .int .i64 ba, .int .i64 id, .slice pa pn pc] := by rw [← hW, ← hBB]; exact (RowC.new w _ _).below (below_new _ _)
  have r1 : RowC W (B + 1) 49 [.int .i64 fr, .int .i64 ct, .bool ze, .slice a n c] := by
    rw [← hW, ← hBB]
    have := RowC.new (w.alloc (.cells #[.int .i64 bl, .int .i64 ba, .int .i64 id, .slice pa pn pc] 26)) 49 [.int .i64 fr, .int .i64 ct, .bool ze, .slice a n c]
    rwa [World.size_alloc] at this
  have hWB : Below B w W := by rw [← hW, ← hBB]; exact ((Below.refl _ w).alloc (Nat.le_refl _) _).alloc (by simp) _
  have HWB := Lib.hid hWB
  have hWs : W.heap.size = B + 2 := by rw [← hW, ← hBB]; simp
  have HWS := Lib.hid hWs
  have s0 := r0.cell 0 _ rfl
  have s1 := r0.cell 1 _ rfl
  have s3 := r0.cell 3 _ rfl
  have x0 := r1.cell 0 _ rfl
  have x1 := r1.cell 1 _ rfl
  have x2 := r1.cell 2 _ rfl
  have x3 := r1.cell 3 _ rfl
  have R1 := Lib.hid r1
  obtain ⟨Q, hQ⟩ : ∃ Q, (plOk bl lo ⟨fr, ct, ze, da⟩ ∧ daOk ba ⟨fr, ct, ze, da⟩) = Q := ⟨_, rfl⟩
  have HQ := Lib.hid hQ
  rw [hQ]
  simp only [smV, rvV, slV]
  clear r0 r1 hWB hWs hQ hn hca hd hp hlo hpn hmx hpm
  by_cases p1 : ct < 1
  · have q1 : decide (ct < 1) = true := by simp; omega
    have P1 := Lib.hid p1
    clear p1
    try have w1 := HW1.out
    try have hw := HW2.out
    try have hpk1 := HW3.out
    try have w64 := HW4.out
    go_enter Try.func26, Try.ntmps26
    go_wp2_with fail
    go_ret
    refine RetB.no (fun h => ?_) (by rw [HSZ.out]; exact HWB.out)
    rw [← HQ.out] at h
    obtain ⟨⟨h1, h2, h3, h4⟩, h5, h6⟩ := h
    have := HLO.out; have := P1.out; simp only at *; omega
  · have q1 : decide (ct < 1) = false := by simp; omega
    have P1 := Lib.hid p1
    clear p1
    by_cases p2 : fr < 0
    · have q2 : decide (fr < 0) = true := by simp; omega
      have P2 := Lib.hid p2
      clear p2
      try have w1 := HW1.out
      try have hw := HW2.out
      try have hpk1 := HW3.out
      try have w64 := HW4.out
      go_enter Try.func26, Try.ntmps26
      go_wp2_with fail
      go_ret
      refine RetB.no (fun h => ?_) (by rw [HSZ.out]; exact HWB.out)
      rw [← HQ.out] at h
      obtain ⟨⟨h1, h2, h3, h4⟩, h5, h6⟩ := h
      have := HLO.out; have := P2.out; simp only at *; omega
    · have q2 : decide (fr < 0) = false := by simp; omega
      have P2 := Lib.hid p2
      clear p2
      by_cases p3 : bl ≤ fr
      · have q3 : decide (fr ≥ bl) = true := by simp; omega
        have P3 := Lib.hid p3
        clear p3
        try have w1 := HW1.out
        try have hw := HW2.out
        try have hpk1 := HW3.out
        try have w64 := HW4.out
        go_enter Try.func26, Try.ntmps26
        go_wp2_with fail
        go_ret
        refine RetB.no (fun h => ?_) (by rw [HSZ.out]; exact HWB.out)
        rw [← HQ.out] at h
        obtain ⟨⟨h1, h2, h3, h4⟩, h5, h6⟩ := h
        have := HLO.out; have := P3.out; simp only at *; omega
      · have q3 : decide (fr ≥ bl) = false := by simp; omega
        have P3 := Lib.hid p3
        clear p3
        have HW1 : Hid (wrap64 (bl - fr) = bl - fr) := IntWalk.wrap64_in _ (by have := P2.out; have := P3.out; omega)
        by_cases p4 : bl - fr < ct
        · have q4 : decide (ct > bl - fr) = true := by simp; omega
          have P4 := Lib.hid p4
          clear p4
          try have w1 := HW1.out
          try have hw := HW2.out
          try have hpk1 := HW3.out
          try have w64 := HW4.out
          go_enter Try.func26, Try.ntmps26
          go_wp2_with fail
          go_ret
          refine RetB.no (fun h => ?_) (by rw [HSZ.out]; exact HWB.out)
          rw [← HQ.out] at h
          obtain ⟨⟨h1, h2, h3, h4⟩, h5, h6⟩ := h
          have := HLO.out; have := P4.out; simp only at *; omega
        · have q4 : decide (ct > bl - fr) = false := by simp; omega
          have P4 := Lib.hid p4
          clear p4
          cases ze with
          | true =>
            by_cases p5 : ba = -1
            · have q5 : (ba == -1) = true := by simpa using p5
              have P5 := Lib.hid p5
              clear p5
              try have w1 := HW1.out
              try have hw := HW2.out
              try have hpk1 := HW3.out
              try have w64 := HW4.out
              go_enter Try.func26, Try.ntmps26
              go_wp2_with fail
              go_ret
              refine RetB.no (fun h => ?_) (by rw [HSZ.out]; exact HWB.out)
              rw [← HQ.out] at h
              obtain ⟨⟨h1, h2, h3, h4⟩, h5, h6⟩ := h
              exact (h5 rfl).1 P5.out
            · have q5 : (ba == -1) = false := by simpa using p5
              have P5 := Lib.hid p5
              clear p5
              by_cases p6 : n = 0
              · have q6 : ((n : Int) != 0) = false := by simpa using p6
                have P6 := Lib.hid p6
                have HDO : Hid (daOk ba ⟨fr, ct, true, da⟩) := ⟨fun _ => ⟨P5.out, List.eq_nil_of_length_eq_zero (HN.out.symm.trans P6.out)⟩, fun h => (by cases h)⟩
                clear p6
                rcases HHL.out with ⟨hpl, hl0⟩ | ⟨k, p, hpl, hpk, h01, h02, hlo2⟩
                · obtain ⟨rfl, hpl⟩ : pn = 0 ∧ lo = 0 := ⟨by rw [HPN.out, hpl]; rfl, hl0⟩
                  subst hpl
                  have HPK : Hid (plOk bl 0 ⟨fr, ct, true, da⟩) := by have a1 := P1.out; have a2 := P2.out; have a3 := P3.out; have a4 := P4.out; exact ⟨by simp only; omega, by simp only; omega, by simp only; omega, by simp only; omega⟩
                  try have w1 := HW1.out
                  try have hw := HW2.out
                  try have hpk1 := HW3.out
                  try have w64 := HW4.out
                  go_enter Try.func26, Try.ntmps26
                  go_wp2_with fail
                  go_ret
                  exact RetB.yes (by rw [← HQ.out]; exact ⟨HPK.out, HDO.out⟩) (by rw [HSZ.out]; exact HWB.out)
                · obtain ⟨b, o, q, rfl, hbl, hrq, hqi, k1, k2, k3, k4⟩ := (HP.out.below (by rw [HSZ.out]; exact HWB.out)).at hpk
                  obtain ⟨y1, y2, y3, ⟨ya, yn, yc⟩⟩ := q
                  have LD := load_rc k1 k2 k3 k4
                  have ST := new_rc W (y1, y2, y3, (ya, yn, yc))
                  obtain ⟨W2, hW2⟩ : ∃ W2, W.alloc (.cells (rvL (y1, y2, y3, (ya, yn, yc))).toArray 49) = W2 := ⟨_, rfl⟩
                  rw [hW2] at ST
                  rw [HWS.out] at ST
                  have b2 : Below W.heap.size W W2 := by rw [← hW2]; exact below_new W _
                  have hWs := HWS.out
                  have HWB2 : Hid (Below B w W2) := HWB.out.trans (b2.mono (by have := HWS.out; omega))
                  have R2 : RowC W2 (B + 2) 49 (rvL (y1, y2, y3, (ya, yn, yc))) := by rw [← hW2, ← HWS.out]; exact RowC.new W _ _
                  have z0 := R2.cell 0 _ rfl
                  have z1 := R2.cell 1 _ rfl
                  have z2 := R2.cell 2 _ rfl
                  have R1b := R1.out.below b2
                  have x0' := R1b.cell 0 _ rfl
                  have x1' := R1b.cell 1 _ rfl
                  have x2' := R1b.cell 2 _ rfl
                  have x3' := R1b.cell 3 _ rfl
                  have HE1 := Lib.hid hqi.fr
                  have HE2 := Lib.hid hqi.ct
                  have HE3 := Lib.hid hqi.ze
                  obtain ⟨e, he⟩ : ∃ e, y1 + y2 = e := ⟨_, rfl⟩
                  have HEE : Hid (p.fr + p.ct = e) := by show _ = _; rw [← HE1.out, ← HE2.out]; exact he
                  rw [HEE.out] at h01 h02 hlo2
                  rw [← HE3.out] at hlo2
                  simp only at hlo2
                  have HW2 : Hid (wrap64 (y1 + y2) = e) := by show _ = _; rw [he]; exact IntWalk.wrap64_in _ (by omega)
                  have HPN2 : Hid (pn = k + 1) := by show _ = _; rw [HPN.out, hpl]
                  have HW3 : Hid (wrap64 (((k + 1 : Nat) : Int) - 1) = (k : Int)) := by show _ = _; rw [show ((k + 1 : Nat) : Int) - 1 = (k : Int) by omega]; exact IntWalk.wrap64_in _ (by have := HPN2.out; omega)
                  obtain rfl : pn = k + 1 := HPN2.out
                  have HLO2 := Lib.hid hlo2
                  have HHE : Hid (0 ≤ e ∧ e ≤ 64) := ⟨h01, h02⟩
                  simp only [rvV, slV] at LD ST
                  simp only [rvL, slV] at hW2
                  clear hbl hrq hqi k1 k2 k3 k4 b2 R2 R1b he h01 h02 hlo2 hpl hpk
                  by_cases p7 : fr < e
                  · have q7 : decide (fr < e) = true := by simpa using p7
                    have P7 := Lib.hid p7
                    clear p7
                    try have w1 := HW1.out
                    try have hw := HW2.out
                    try have hpk1 := HW3.out
                    try have w64 := HW4.out
                    go_enter Try.func26, Try.ntmps26
                    go_wp2_with fail
                    try rw [hW2]
                    go_ret
                    refine RetB.no (fun h => ?_) (by rw [HSZ.out]; exact HWB2.out)
                    rw [← HQ.out] at h
                    obtain ⟨⟨h1, h2, h3, h4⟩, h5, h6⟩ := h
                    have h8 := HLO2.out; have := P7.out; simp only at *; split at h8 <;> omega
                  · have q7 : decide (fr < e) = false := by simpa using p7
                    have P7 := Lib.hid p7
                    clear p7
                    by_cases p8 : fr = e
                    · have q8 : (fr == e) = true := by simpa using p8
                      have P8 := Lib.hid p8
                      by_cases p9 : true = y3
                      · subst p9
                        have q9 : (true == true) = true := rfl
                        clear p8
                        try have w1 := HW1.out
                        try have hw := HW2.out
                        try have hpk1 := HW3.out
                        try have w64 := HW4.out
                        go_enter Try.func26, Try.ntmps26
                        go_wp2_with fail
                        try rw [hW2]
                        go_ret
                        refine RetB.no (fun h => ?_) (by rw [HSZ.out]; exact HWB2.out)
                        rw [← HQ.out] at h
                        obtain ⟨⟨h1, h2, h3, h4⟩, h5, h6⟩ := h
                        have h8 := HLO2.out; have := P8.out; simp only [q9, if_true] at *; omega
                      · have q9 : (true == y3) = false := by simpa using p9
                        have P9 := Lib.hid p9
                        clear p8 p9
                        have HPK : Hid (plOk bl lo ⟨fr, ct, true, da⟩) := by have a1 := P1.out; have a2 := P2.out; have a3 := P3.out; have a4 := P4.out; have a7 := P7.out; have a8 := HLO2.out; have a9 := P8.out; rw [q9, if_neg (by decide)] at a8 <;> exact ⟨by simp only; omega, by simp only; omega, by simp only; omega, by simp only; omega⟩
                        try have w1 := HW1.out
                        try have hw := HW2.out
                        try have hpk1 := HW3.out
                        try have w64 := HW4.out
                        go_enter Try.func26, Try.ntmps26
                        go_wp2_with fail
                        go_ret
                        exact RetB.yes (by rw [← HQ.out]; exact ⟨HPK.out, HDO.out⟩) (by rw [HSZ.out]; exact HWB2.out)
                    · have q8 : (fr == e) = false := by simpa using p8
                      have P8 := Lib.hid p8
                      clear p8
                      have HPK : Hid (plOk bl lo ⟨fr, ct, true, da⟩) := by have a1 := P1.out; have a2 := P2.out; have a3 := P3.out; have a4 := P4.out; have a7 := P7.out; have a8 := HLO2.out; have a9 := P8.out; split at a8 <;> exact ⟨by simp only; omega, by simp only; omega, by simp only; omega, by simp only; omega⟩
                      try have w1 := HW1.out
                      try have hw := HW2.out
                      try have hpk1 := HW3.out
                      try have w64 := HW4.out
                      go_enter Try.func26, Try.ntmps26
                      go_wp2_with fail
                      go_ret
                      exact RetB.yes (by rw [← HQ.out]; exact ⟨HPK.out, HDO.out⟩) (by rw [HSZ.out]; exact HWB2.out)
              · have q6 : ((n : Int) != 0) = true := by simpa using p6
                have P6 := Lib.hid p6
                clear p6
                try have w1 := HW1.out
                try have hw := HW2.out
                try have hpk1 := HW3.out
                try have w64 := HW4.out
                go_enter Try.func26, Try.ntmps26
                go_wp2_with fail
                go_ret
                refine RetB.no (fun h => ?_) (by rw [HSZ.out]; exact HWB.out)
                rw [← HQ.out] at h
                obtain ⟨⟨h1, h2, h3, h4⟩, h5, h6⟩ := h
                have h7 := (h5 rfl).2
                simp only at h7
                exact P6.out (by rw [HN.out, h7]; rfl)
          | false =>
            rcases HHL.out with ⟨hpl, hl0⟩ | ⟨k, p, hpl, hpk, h01, h02, hlo2⟩
            · obtain ⟨rfl, hpl⟩ : pn = 0 ∧ lo = 0 := ⟨by rw [HPN.out, hpl]; rfl, hl0⟩
              subst hpl
              have HPK : Hid (plOk bl 0 ⟨fr, ct, false, da⟩) := by have a1 := P1.out; have a2 := P2.out; have a3 := P3.out; have a4 := P4.out; exact ⟨by simp only; omega, by simp only; omega, by simp only; omega, by simp only; omega⟩
              obtain ⟨m, rfl⟩ : ∃ m : Nat, ct = (m : Int) := ⟨ct.toNat, by have := P1.out; omega⟩
              have hm64 : m ≤ 64 ∧ 1 ≤ m := by have := P1.out; have := P2.out; have := P4.out; omega
              have HW4 : Hid (wrap64 ((m : Int) * 64) = (m : Int) * 64) := IntWalk.wrap64_in _ (by omega)
              by_cases p10 : n = 64 * m
              · have q10 : ((n : Int) != (m : Int) * 64) = false := by simp; omega
                have P10 := Lib.hid p10
                have HM := Lib.hid hm64
                obtain ⟨b', o', rfl, -⟩ := HCA.out (by omega)
                have HSL : Hid (Sl .u8 W (.slice (some ⟨b', o', none⟩) n c) da) := HD.out.below (by rw [HSZ.out]; exact HWB.out)
                clear p10
                try have w1 := HW1.out
                try have hw := HW2.out
                try have hpk1 := HW3.out
                try have w64 := HW4.out
                go_enter Try.func26, Try.ntmps26
                go_wp2_with fail
                try clear w1
                try clear w64
                try clear hw
                try clear hpk1
                clear q1 q2 q3 q4 hb1 hb2
                go_loop [7] (fun iv => ∃ k : Nat, k ≤ m ∧ iv = .int .i64 (k : Int) ∧ Hid (∀ j, j < k → chunkZ da j = false)) (fun iv => m - (intOf iv).toNat)
                case atStart => exact ⟨0, Nat.zero_le _, rfl, fun j hj => by omega⟩
                case round =>
                  obtain ⟨k, hk, rfl, HZ⟩ := hrel
                  by_cases hlt : k < m
                  · have g1 : (k : Int) < (m : Int) := by omega
                    have HF := Lib.hid (rf16_zero (sl_pieceC HSL.out P10.out.symm (HN.out.symm.trans P10.out) hlt))
                    have HC : Hid (allZ ((da.drop (64 * k)).take 64) = chunkZ da k) := rfl
                    rw [HC.out] at HF
                    have W1a : Hid (wrap64 ((k : Int) * 64) = (k : Int) * 64) := IntWalk.wrap64_in _ (by omega)
                    have W1b : Hid (wrap64 ((k : Int) + 1) = (k : Int) + 1) := IntWalk.wrap64_in _ (by omega)
                    have W1c : Hid (wrap64 (((k : Int) + 1) * 64) = ((k : Int) + 1) * 64) := IntWalk.wrap64_in _ (by omega)
                    have g2 : ((k : Int) + 1) * 64 ≤ (c : Int) := by have := P10.out; omega
                    have g3 : (0 : Int) ≤ (k : Int) * 64 := by omega
                    have g4 : (0 : Int) ≤ ((k : Int) + 1) * 64 := by omega
                    have g5 : (k : Int) * 64 ≤ ((k : Int) + 1) * 64 := by omega
                    have g6 : ¬ c = k * 64 := by have := P10.out; omega
                    have HLT := Lib.hid hlt
                    have w1a := W1a.out
                    have w1b := W1b.out
                    have w1c := W1c.out
                    clear hlt
                    cases hc : chunkZ da k with
                    | true =>
                      rw [hc] at HF
                      have HN2 : Hid (¬ daOk ba ⟨fr, (m : Int), false, da⟩) := fun h => by have := (h.2 rfl).2 k (by have := HLT.out; simp only; omega); rw [hc] at this; cases this
                      clear hc
                      go_wp2_with fail
                      refine HF.out.mono ?_
                      rintro e y ⟨rfl, rfl⟩
                      go_wp2_with fail
                      go_ret
                      exact RetB.no (fun h => by rw [← HQ.out] at h; exact HN2.out h.2) (by rw [HSZ.out]; exact HWB.out)
                    | false =>
                      rw [hc] at HF
                      have HZ2 : Hid (∀ j, j < k + 1 → chunkZ da j = false) := fun j hj => by
                        by_cases e : j = k
                        · subst e; exact hc
                        · exact HZ.out j (by omega)
                      clear hc
                      go_wp2_with fail
                      refine HF.out.mono ?_
                      rintro e y ⟨rfl, rfl⟩
                      go_wp2_with fail
                      go_round
                      case rel => exact ⟨k + 1, HLT.out, by first | (simp; done) | (rw [W1b.out]; simp), HZ2⟩
                      case measure => have := HLT.out; first | (simp [intOf]; omega) | (rw [W1b.out]; simp [intOf]; omega)
                  · have g1 : ¬ (k : Int) < (m : Int) := by omega
                    obtain rfl : k = m := by omega
                    have HDO : Hid (daOk ba ⟨fr, (k : Int), false, da⟩) := ⟨fun h => (by cases h), fun _ => ⟨by have h1 := P10.out; have h2 := HN.out; simp only; omega, fun j hj => HZ.out j (by simp only at hj; omega)⟩⟩
                    go_wp2_with fail
                    go_ret
                    exact RetB.yes (by rw [← HQ.out]; exact ⟨HPK.out, HDO.out⟩) (by rw [HSZ.out]; exact HWB.out)
              · have q10 : ((n : Int) != (m : Int) * 64) = true := by simp; omega
                have P10 := Lib.hid p10
                clear p10
                try have w1 := HW1.out
                try have hw := HW2.out
                try have hpk1 := HW3.out
                try have w64 := HW4.out
                go_enter Try.func26, Try.ntmps26
                go_wp2_with fail
                go_ret
                refine RetB.no (fun h => ?_) (by rw [HSZ.out]; exact HWB.out)
                rw [← HQ.out] at h
                obtain ⟨⟨h1, h2, h3, h4⟩, h5, h6⟩ := h
                have h7 := (h6 rfl).1
                simp only at h7
                rw [← HN.out] at h7
                exact P10.out (by omega)
            · obtain ⟨b, o, q, rfl, hbl, hrq, hqi, k1, k2, k3, k4⟩ := (HP.out.below (by rw [HSZ.out]; exact HWB.out)).at hpk
              obtain ⟨y1, y2, y3, ⟨ya, yn, yc⟩⟩ := q
              have LD := load_rc k1 k2 k3 k4
              have ST := new_rc W (y1, y2, y3, (ya, yn, yc))
              obtain ⟨W2, hW2⟩ : ∃ W2, W.alloc (.cells (rvL (y1, y2, y3, (ya, yn, yc))).toArray 49) = W2 := ⟨_, rfl⟩
              rw [hW2] at ST
              rw [HWS.out] at ST
              have b2 : Below W.heap.size W W2 := by rw [← hW2]; exact below_new W _
              have hWs := HWS.out
              have HWB2 : Hid (Below B w W2) := HWB.out.trans (b2.mono (by have := HWS.out; omega))
              have R2 : RowC W2 (B + 2) 49 (rvL (y1, y2, y3, (ya, yn, yc))) := by rw [← hW2, ← HWS.out]; exact RowC.new W _ _
              have z0 := R2.cell 0 _ rfl
              have z1 := R2.cell 1 _ rfl
              have z2 := R2.cell 2 _ rfl
              have R1b := R1.out.below b2
              have x0' := R1b.cell 0 _ rfl
              have x1' := R1b.cell 1 _ rfl
              have x2' := R1b.cell 2 _ rfl
              have x3' := R1b.cell 3 _ rfl
              have HE1 := Lib.hid hqi.fr
              have HE2 := Lib.hid hqi.ct
              have HE3 := Lib.hid hqi.ze
              obtain ⟨e, he⟩ : ∃ e, y1 + y2 = e := ⟨_, rfl⟩
              have HEE : Hid (p.fr + p.ct = e) := by show _ = _; rw [← HE1.out, ← HE2.out]; exact he
              rw [HEE.out] at h01 h02 hlo2
              rw [← HE3.out] at hlo2
              simp only at hlo2
              have HW2 : Hid (wrap64 (y1 + y2) = e) := by show _ = _; rw [he]; exact IntWalk.wrap64_in _ (by omega)
              have HPN2 : Hid (pn = k + 1) := by show _ = _; rw [HPN.out, hpl]
              have HW3 : Hid (wrap64 (((k + 1 : Nat) : Int) - 1) = (k : Int)) := by show _ = _; rw [show ((k + 1 : Nat) : Int) - 1 = (k : Int) by omega]; exact IntWalk.wrap64_in _ (by have := HPN2.out; omega)
              obtain rfl : pn = k + 1 := HPN2.out
              have HLO2 := Lib.hid hlo2
              have HHE : Hid (0 ≤ e ∧ e ≤ 64) := ⟨h01, h02⟩
              simp only [rvV, slV] at LD ST
              simp only [rvL, slV] at hW2
              clear hbl hrq hqi k1 k2 k3 k4 b2 R2 R1b he h01 h02 hlo2 hpl hpk
              by_cases p7 : fr < e
              · have q7 : decide (fr < e) = true := by simpa using p7
                have P7 := Lib.hid p7
                clear p7
                try have w1 := HW1.out
                try have hw := HW2.out
                try have hpk1 := HW3.out
                try have w64 := HW4.out
                go_enter Try.func26, Try.ntmps26
                go_wp2_with fail
                try rw [hW2]
                go_ret
                refine RetB.no (fun h => ?_) (by rw [HSZ.out]; exact HWB2.out)
                rw [← HQ.out] at h
                obtain ⟨⟨h1, h2, h3, h4⟩, h5, h6⟩ := h
                have h8 := HLO2.out; have := P7.out; simp only at *; split at h8 <;> omega
              · have q7 : decide (fr < e) = false := by simpa using p7
                have P7 := Lib.hid p7
                clear p7
                by_cases p8 : fr = e
                · have q8 : (fr == e) = true := by simpa using p8
                  have P8 := Lib.hid p8
                  by_cases p9 : false = y3
                  · subst p9
                    have q9 : (false == false) = true := rfl
                    clear p8
                    try have w1 := HW1.out
                    try have hw := HW2.out
                    try have hpk1 := HW3.out
                    try have w64 := HW4.out
                    go_enter Try.func26, Try.ntmps26
                    go_wp2_with fail
                    try rw [hW2]
                    go_ret
                    refine RetB.no (fun h => ?_) (by rw [HSZ.out]; exact HWB2.out)
                    rw [← HQ.out] at h
                    obtain ⟨⟨h1, h2, h3, h4⟩, h5, h6⟩ := h
                    have h8 := HLO2.out; have := P8.out; simp only [q9, if_true] at *; omega
                  · have q9 : (false == y3) = false := by simpa using p9
                    have P9 := Lib.hid p9
                    clear p8 p9
                    have HPK : Hid (plOk bl lo ⟨fr, ct, false, da⟩) := by have a1 := P1.out; have a2 := P2.out; have a3 := P3.out; have a4 := P4.out; have a7 := P7.out; have a8 := HLO2.out; have a9 := P8.out; rw [q9, if_neg (by decide)] at a8 <;> exact ⟨by simp only; omega, by simp only; omega, by simp only; omega, by simp only; omega⟩
                    obtain ⟨m, rfl⟩ : ∃ m : Nat, ct = (m : Int) := ⟨ct.toNat, by have := P1.out; omega⟩
                    have hm64 : m ≤ 64 ∧ 1 ≤ m := by have := P1.out; have := P2.out; have := P4.out; omega
                    have HW4 : Hid (wrap64 ((m : Int) * 64) = (m : Int) * 64) := IntWalk.wrap64_in _ (by omega)
                    by_cases p10 : n = 64 * m
                    · have q10 : ((n : Int) != (m : Int) * 64) = false := by simp; omega
                      have P10 := Lib.hid p10
                      have HM := Lib.hid hm64
                      obtain ⟨b', o', rfl, -⟩ := HCA.out (by omega)
                      have HSL : Hid (Sl .u8 W2 (.slice (some ⟨b', o', none⟩) n c) da) := HD.out.below (by rw [HSZ.out]; exact HWB2.out)
                      clear p10
                      try have w1 := HW1.out
                      try have hw := HW2.out
                      try have hpk1 := HW3.out
                      try have w64 := HW4.out
                      go_enter Try.func26, Try.ntmps26
                      go_wp2_with fail
                      try rw [hW2]
                      try clear w1
                      try clear w64
                      try clear hw
                      try clear hpk1
                      clear q1 q2 q3 q4 hb1 hb2
                      go_loop [7] (fun iv => ∃ k : Nat, k ≤ m ∧ iv = .int .i64 (k : Int) ∧ Hid (∀ j, j < k → chunkZ da j = false)) (fun iv => m - (intOf iv).toNat)
                      case atStart => exact ⟨0, Nat.zero_le _, rfl, fun j hj => by omega⟩
                      case round =>
                        obtain ⟨k, hk, rfl, HZ⟩ := hrel
                        by_cases hlt : k < m
                        · have g1 : (k : Int) < (m : Int) := by omega
                          have HF := Lib.hid (rf16_zero (sl_pieceC HSL.out P10.out.symm (HN.out.symm.trans P10.out) hlt))
                          have HC : Hid (allZ ((da.drop (64 * k)).take 64) = chunkZ da k) := rfl
                          rw [HC.out] at HF
                          have W1a : Hid (wrap64 ((k : Int) * 64) = (k : Int) * 64) := IntWalk.wrap64_in _ (by omega)
                          have W1b : Hid (wrap64 ((k : Int) + 1) = (k : Int) + 1) := IntWalk.wrap64_in _ (by omega)
                          have W1c : Hid (wrap64 (((k : Int) + 1) * 64) = ((k : Int) + 1) * 64) := IntWalk.wrap64_in _ (by omega)
                          have g2 : ((k : Int) + 1) * 64 ≤ (c : Int) := by have := P10.out; omega
                          have g3 : (0 : Int) ≤ (k : Int) * 64 := by omega
                          have g4 : (0 : Int) ≤ ((k : Int) + 1) * 64 := by omega
                          have g5 : (k : Int) * 64 ≤ ((k : Int) + 1) * 64 := by omega
                          have g6 : ¬ c = k * 64 := by have := P10.out; omega
                          have HLT := Lib.hid hlt
                          have w1a := W1a.out
                          have w1b := W1b.out
                          have w1c := W1c.out
                          clear hlt
                          cases hc : chunkZ da k with
                          | true =>
                            rw [hc] at HF
                            have HN2 : Hid (¬ daOk ba ⟨fr, (m : Int), false, da⟩) := fun h => by have := (h.2 rfl).2 k (by have := HLT.out; simp only; omega); rw [hc] at this; cases this
                            clear hc
                            go_wp2_with fail
                            refine HF.out.mono ?_
                            rintro e y ⟨rfl, rfl⟩
                            go_wp2_with fail
                            go_ret
                            exact RetB.no (fun h => by rw [← HQ.out] at h; exact HN2.out h.2) (by rw [HSZ.out]; exact HWB2.out)
                          | false =>
                            rw [hc] at HF
                            have HZ2 : Hid (∀ j, j < k + 1 → chunkZ da j = false) := fun j hj => by
                              by_cases e : j = k
                              · subst e; exact hc
                              · exact HZ.out j (by omega)
                            clear hc
                            go_wp2_with fail
                            refine HF.out.mono ?_
                            rintro e y ⟨rfl, rfl⟩
                            go_wp2_with fail
                            go_round
                            case rel => exact ⟨k + 1, HLT.out, by first | (simp; done) | (rw [W1b.out]; simp), HZ2⟩
                            case measure => have := HLT.out; first | (simp [intOf]; omega) | (rw [W1b.out]; simp [intOf]; omega)
                        · have g1 : ¬ (k : Int) < (m : Int) := by omega
                          obtain rfl : k = m := by omega
                          have HDO : Hid (daOk ba ⟨fr, (k : Int), false, da⟩) := ⟨fun h => (by cases h), fun _ => ⟨by have h1 := P10.out; have h2 := HN.out; simp only; omega, fun j hj => HZ.out j (by simp only at hj; omega)⟩⟩
                          go_wp2_with fail
                          go_ret
                          exact RetB.yes (by rw [← HQ.out]; exact ⟨HPK.out, HDO.out⟩) (by rw [HSZ.out]; exact HWB2.out)
                    · have q10 : ((n : Int) != (m : Int) * 64) = true := by simp; omega
                      have P10 := Lib.hid p10
                      clear p10
                      try have w1 := HW1.out
                      try have hw := HW2.out
                      try have hpk1 := HW3.out
                      try have w64 := HW4.out
                      go_enter Try.func26, Try.ntmps26
                      go_wp2_with fail
                      try rw [hW2]
                      go_ret
                      refine RetB.no (fun h => ?_) (by rw [HSZ.out]; exact HWB2.out)
                      rw [← HQ.out] at h
                      obtain ⟨⟨h1, h2, h3, h4⟩, h5, h6⟩ := h
                      have h7 := (h6 rfl).1
                      simp only at h7
                      rw [← HN.out] at h7
                      exact P10.out (by omega)
                · have q8 : (fr == e) = false := by simpa using p8
                  have P8 := Lib.hid p8
                  clear p8
                  have HPK : Hid (plOk bl lo ⟨fr, ct, false, da⟩) := by have a1 := P1.out; have a2 := P2.out; have a3 := P3.out; have a4 := P4.out; have a7 := P7.out; have a8 := HLO2.out; have a9 := P8.out; split at a8 <;> exact ⟨by simp only; omega, by simp only; omega, by simp only; omega, by simp only; omega⟩
                  obtain ⟨m, rfl⟩ : ∃ m : Nat, ct = (m : Int) := ⟨ct.toNat, by have := P1.out; omega⟩
                  have hm64 : m ≤ 64 ∧ 1 ≤ m := by have := P1.out; have := P2.out; have := P4.out; omega
                  have HW4 : Hid (wrap64 ((m : Int) * 64) = (m : Int) * 64) := IntWalk.wrap64_in _ (by omega)
                  by_cases p10 : n = 64 * m
                  · have q10 : ((n : Int) != (m : Int) * 64) = false := by simp; omega
                    have P10 := Lib.hid p10
                    have HM := Lib.hid hm64
                    obtain ⟨b', o', rfl, -⟩ := HCA.out (by omega)
                    have HSL : Hid (Sl .u8 W2 (.slice (some ⟨b', o', none⟩) n c) da) := HD.out.below (by rw [HSZ.out]; exact HWB2.out)
                    clear p10
                    try have w1 := HW1.out
                    try have hw := HW2.out
                    try have hpk1 := HW3.out
                    try have w64 := HW4.out
                    go_enter Try.func26, Try.ntmps26
                    go_wp2_with fail
                    try rw [hW2]
                    try clear w1
                    try clear w64
                    try clear hw
                    try clear hpk1
                    clear q1 q2 q3 q4 hb1 hb2
                    go_loop [7] (fun iv => ∃ k : Nat, k ≤ m ∧ iv = .int .i64 (k : Int) ∧ Hid (∀ j, j < k → chunkZ da j = false)) (fun iv => m - (intOf iv).toNat)
                    case atStart => exact ⟨0, Nat.zero_le _, rfl, fun j hj => by omega⟩
                    case round =>
                      obtain ⟨k, hk, rfl, HZ⟩ := hrel
                      by_cases hlt : k < m
                      · have g1 : (k : Int) < (m : Int) := by omega
                        have HF := Lib.hid (rf16_zero (sl_pieceC HSL.out P10.out.symm (HN.out.symm.trans P10.out) hlt))
                        have HC : Hid (allZ ((da.drop (64 * k)).take 64) = chunkZ da k) := rfl
                        rw [HC.out] at HF
                        have W1a : Hid (wrap64 ((k : Int) * 64) = (k : Int) * 64) := IntWalk.wrap64_in _ (by omega)
                        have W1b : Hid (wrap64 ((k : Int) + 1) = (k : Int) + 1) := IntWalk.wrap64_in _ (by omega)
                        have W1c : Hid (wrap64 (((k : Int) + 1) * 64) = ((k : Int) + 1) * 64) := IntWalk.wrap64_in _ (by omega)
                        have g2 : ((k : Int) + 1) * 64 ≤ (c : Int) := by have := P10.out; omega
                        have g3 : (0 : Int) ≤ (k : Int) * 64 := by omega
                        have g4 : (0 : Int) ≤ ((k : Int) + 1) * 64 := by omega
                        have g5 : (k : Int) * 64 ≤ ((k : Int) + 1) * 64 := by omega
                        have g6 : ¬ c = k * 64 := by have := P10.out; omega
                        have HLT := Lib.hid hlt
                        have w1a := W1a.out
                        have w1b := W1b.out
                        have w1c := W1c.out
                        clear hlt
                        cases hc : chunkZ da k with
                        | true =>
                          rw [hc] at HF
                          have HN2 : Hid (¬ daOk ba ⟨fr, (m : Int), false, da⟩) := fun h => by have := (h.2 rfl).2 k (by have := HLT.out; simp only; omega); rw [hc] at this; cases this
                          clear hc
                          go_wp2_with fail
                          refine HF.out.mono ?_
                          rintro e y ⟨rfl, rfl⟩
                          go_wp2_with fail
                          go_ret
                          exact RetB.no (fun h => by rw [← HQ.out] at h; exact HN2.out h.2) (by rw [HSZ.out]; exact HWB2.out)
                        | false =>
                          rw [hc] at HF
                          have HZ2 : Hid (∀ j, j < k + 1 → chunkZ da j = false) := fun j hj => by
                            by_cases e : j = k
                            · subst e; exact hc
                            · exact HZ.out j (by omega)
                          clear hc
                          go_wp2_with fail
                          refine HF.out.mono ?_
                          rintro e y ⟨rfl, rfl⟩
                          go_wp2_with fail
                          go_round
                          case rel => exact ⟨k + 1, HLT.out, by first | (simp; done) | (rw [W1b.out]; simp), HZ2⟩
                          case measure => have := HLT.out; first | (simp [intOf]; omega) | (rw [W1b.out]; simp [intOf]; omega)
                      · have g1 : ¬ (k : Int) < (m : Int) := by omega
                        obtain rfl : k = m := by omega
                        have HDO : Hid (daOk ba ⟨fr, (k : Int), false, da⟩) := ⟨fun h => (by cases h), fun _ => ⟨by have h1 := P10.out; have h2 := HN.out; simp only; omega, fun j hj => HZ.out j (by simp only at hj; omega)⟩⟩
                        go_wp2_with fail
                        go_ret
                        exact RetB.yes (by rw [← HQ.out]; exact ⟨HPK.out, HDO.out⟩) (by rw [HSZ.out]; exact HWB2.out)
                  · have q10 : ((n : Int) != (m : Int) * 64) = true := by simp; omega
                    have P10 := Lib.hid p10
                    clear p10
                    try have w1 := HW1.out
                    try have hw := HW2.out
                    try have hpk1 := HW3.out
                    try have w64 := HW4.out
                    go_enter Try.func26, Try.ntmps26
                    go_wp2_with fail
                    try rw [hW2]
                    go_ret
                    refine RetB.no (fun h => ?_) (by rw [HSZ.out]; exact HWB2.out)
                    rw [← HQ.out] at h
                    obtain ⟨⟨h1, h2, h3, h4⟩, h5, h6⟩ := h
                    have h7 := (h6 rfl).1
                    simp only at h7
                    rw [← HN.out] at h7
                    exact P10.out (by omega)
end Go.Proofs.Ytfihpljgbghogaa

/- The document's stream: Good. -/
namespace Go.Proofs.Ytfihpljgbghogaa
open Go.RowKit Go.Shelf
set_option linter.unusedVariables false
set_option linter.unusedSimpArgs false
attribute [-simp] Try.isAgg49 Try.zeroValue49 Try.isAgg26 Try.zeroValue26
attribute [-go_sem] loadVar storeVar
set_option maxRecDepth 100000 in
theorem zero_smA (w : World) : (zeroValue 26).run Try.prog w = .ok (.agg #[.int .i64 0, .int .i64 0, .int .i64 0, .slice none 0 0]) w := by kernel_rfl
attribute [local go_sem] loadVar_openRS storeVar_openRS zero_rc zero_smA

theorem rcR_take {W : World} {a : Option Addr} {n c : Nat} {r : List RV} {l : List RC} (h : RcR W (.slice a n c) r l) {k : Nat} (hk : k ≤ l.length) : RcR W (.slice a k c) (r.take k) (l.take k) := by
  obtain ⟨a', cap, e, h1, h2, hz, hr, hs, h4⟩ := h
  obtain ⟨rfl, rfl, rfl⟩ := Value.slice.inj e
  refine ⟨a, c, by rw [List.length_take, Nat.min_eq_left hk], by rw [List.length_take]; omega, h2, hz, by rw [List.length_take, List.length_take, hr], fun j q s hq hl => ?_, ?_⟩
  · rw [List.getElem?_take] at hq hl
    split at hq
    · rename_i hj
      rw [if_pos hj] at hl
      exact hs j q s hq hl
    · cases hq
  · rcases h4 with rfl | ⟨b, off, rfl, h5, h6⟩
    · exact .inl (by simp)
    · refine .inr ⟨b, off, rfl, h5, fun j q hq => ?_⟩
      rw [List.getElem?_take] at hq
      split at hq
      · exact h6 j q hq
      · cases hq
theorem least_hyp {s : SM} (hh : hdOk s.bl s.ba s.id) {k : Nat} {x : RC} (h : okTo s k) (hx : s.re[k]? = some x) :
    (s.re.take k = [] ∧ leastAt s.re k = 0) ∨ ∃ j p, (s.re.take k).length = j + 1 ∧ (s.re.take k)[j]? = some p ∧ 0 ≤ p.fr + p.ct ∧ p.fr + p.ct ≤ 64 ∧ leastAt s.re k = if x.ze == p.ze then p.fr + p.ct + 1 else p.fr + p.ct := by
  have hkl := (List.getElem?_eq_some_iff.1 hx).1
  match k with
  | 0 => exact .inl ⟨rfl, rfl⟩
  | j + 1 =>
    have hp := List.getElem?_eq_getElem (l := s.re) (i := j) (by omega)
    obtain ⟨b1, b2, b3, b4⟩ := okTo_from hh h hp
    refine .inr ⟨j, _, by rw [List.length_take]; omega, by rw [List.getElem?_take, if_pos (by omega)]; exact hp, by omega, by omega, ?_⟩
    rw [leastAt_succ hp hx, least_ok (by omega) (by omega)]
theorem calls_extB {P : Program} {f : FuncId} {args : Array Value} {W : World} {p : Prop} (x : Ext W) (h : Calls P f args x.1 (RetB p x.1)) (t : Bool) (ht : t = true ↔ p) :
    Calls P f args x.1 fun e w'' => e = .returned (.bool t) ∧ ∃ y : Ext W, w'' = y.1 :=
  h.mono fun e w' ⟨u, h1, h2, h3⟩ => ⟨by rw [h1, show u = t from by rw [Bool.eq_iff_iff, h2, ht]], ⟨w', x.2.trans (h3.mono x.2.size)⟩, rfl⟩

set_option maxRecDepth 100000 in
set_option maxHeartbeats 8000000 in
/-- **Good**, the document's. -/
theorem rf16_good {w : World} {v : Value} {s : SM} (h : Smi w v s) : Calls Try.prog 15 #[v] w (RetB (sGood s) w) := by
  obtain ⟨r, ⟨⟨⟨xa, xn, xc⟩, rfl, hR⟩, ib, ia, ii⟩⟩ := h
  have HS := Lib.hid hR
  have hxn : xn = s.re.length := by obtain ⟨a', c', e, h1, h2⟩ := hR.len; cases e; rfl
  obtain ⟨hlc, hcm⟩ : xn ≤ xc ∧ xc ≤ maxLen := by obtain ⟨a', c', e, h1, h2⟩ := hR.len; cases e; exact ⟨h1, h2⟩
  have HL := Lib.hid hxn
  have HLC := Lib.hid hlc
  have hmx : (xn : Int) ≤ 9223372036854775807 := by unfold maxLen at hcm; omega
  have hmc : (xc : Int) ≤ 9223372036854775807 := by unfold maxLen at hcm; omega
  obtain ⟨bl, hbl⟩ : ∃ b, s.bl = b := ⟨_, rfl⟩
  obtain ⟨ba, hba⟩ : ∃ b, s.ba = b := ⟨_, rfl⟩
  obtain ⟨id, hid⟩ : ∃ b, s.id = b := ⟨_, rfl⟩
  have HBL := Lib.hid hbl
  have HBA := Lib.hid hba
  obtain ⟨B, hB⟩ : ∃ B, w.heap.size = B := ⟨_, rfl⟩
  have HSZ := Lib.hid hB
  obtain ⟨X, hX⟩ : ∃ X, w.alloc (.cells #[.int .i64 bl, .int .i64 ba, .int .i64 id, .slice xa xn xc] 26) = X := ⟨_, rfl⟩
  have hXs : X.heap.size = B + 1 := by rw [← hX, ← hB]; simp
  have k1 : RowC X B 26 (smL bl ba id (xa, xn, xc)) := by rw [← hX, ← hB]; exact RowC.new w _ _
  have hXb : Below B w X := by rw [← hX, ← hB]; exact below_new w _
  have LS := load_smC k1
  have hhd := rf16_head bl ba id (xa, xn, xc) X
  have K1 := Lib.hid k1
  have HXB := Lib.hid hXb
  have HXS := Lib.hid hXs
  rw [hbl, hba, hid]
  simp only [smV, slV] at LS hhd ⊢
  by_cases hh : hdOk bl ba id
  · have HH := Lib.hid (calls_yes hhd hh)
    have HHD : Hid (hdOk s.bl s.ba s.id) := by show hdOk _ _ _; rw [hbl, hba, hid]; exact hh
    clear hhd hh k1 hXb hXs hlc hcm ib ia ii hR hbl hba hid hxn
    go_enter Try.func15, Try.ntmps15
    go_wp2_with fail
    refine HH.out.mono ?_
    rintro e y ⟨rfl, hy⟩
    obtain ⟨D, hD⟩ : ∃ D, y.heap.size = D := ⟨_, rfl⟩
    have hDB : B + 1 ≤ D := by rw [← hD, ← HXS.out]; exact hy.size
    have LS2 := load_smC (K1.out.below hy)
    have ST := new_sm y bl ba id (xa, xn, xc)
    obtain ⟨Y, hY⟩ : ∃ Y, y.alloc (.cells (smL bl ba id (xa, xn, xc)).toArray 26) = Y := ⟨_, rfl⟩
    rw [hY, hD] at ST
    have bY : Below y.heap.size y Y := by rw [← hY]; exact below_new y _
    have rD : RowC Y D 26 (smL bl ba id (xa, xn, xc)) := by rw [← hY, ← hD]; exact RowC.new y _ _
    have rB : RowC Y B 26 (smL bl ba id (xa, xn, xc)) := (K1.out.below hy).below bY
    have cD := rD.cell 3 _ rfl
    have fD := rD.frozen 3
    have I1 : Hid (RowC (Y.setCell ⟨D, 3, none⟩ (.slice none 0 0)) B 26 (smL bl ba id (xa, xn, xc))) := set_other rB (by omega) 3 _
    have I2 : Hid (RowC (Y.setCell ⟨D, 3, none⟩ (.slice none 0 0)) D 26 (smL bl ba id (none, 0, 0))) := rD.set 3 _
    have I3 : Hid (Below B w (Y.setCell ⟨D, 3, none⟩ (.slice none 0 0))) := set_below ((HXB.out.trans (hy.mono (by have := HXS.out; omega))).trans (bY.mono (by omega))) (by omega) 3 _
    have HDB := Lib.hid hDB
    simp only [smV, slV] at ST LS2 cD
    clear hy bY rD rB LS hDB hX
    go_wp2_with fail
    clear ST LS2 cD fD hY hD
    obtain ⟨W, hW⟩ : ∃ W, Y.setCell ⟨D, 3, none⟩ (.slice none 0 0) = W := ⟨_, rfl⟩
    rw [hW] at I1 I2 I3
    try rw [hW]
    clear hW
    go_loopw [4] (fun iv wr => ∃ (k : Nat) (pv : SlV), k ≤ xn ∧ iv = .int .i64 (k : Int) ∧ Hid (RowC wr B 26 (smL bl ba id (xa, xn, xc))) ∧ Hid (RowC wr D 26 (smL bl ba id pv)) ∧ Hid (RcR w (slV pv) (r.take k) (s.re.take k)) ∧ Hid (Below B w wr) ∧ Hid (okTo s k)) (fun iv _ => xn - (intOf iv).toNat)
    case atStart => exact ⟨0, (none, 0, 0), Nat.zero_le _, rfl, I1, I2, by rw [List.take_zero, List.take_zero]; exact RcR.nil _, I3, okTo_zero s⟩
    case round =>
      obtain ⟨k, ⟨pa, pn, pc⟩, hk, rfl, H1, H2, H3, H4, H5⟩ := hrel
      have c3 := H1.out.cell 3 _ rfl
      simp only [slV] at c3
      by_cases hlt : k < xn
      · have g1 : (k : Int) < (xn : Int) := by omega
        have HLT := Lib.hid hlt
        have HW1 : Hid (wrap64 ((k : Int) + 1) = (k : Int) + 1) := IntWalk.wrap64_in _ (by omega)
        obtain ⟨x, hx⟩ : ∃ x, s.re[k]? = some x := ⟨_, List.getElem?_eq_getElem (by rw [← HL.out]; exact hlt)⟩
        have hRw := HS.out.below (by rw [HSZ.out]; exact H4.out)
        obtain ⟨b, off, q, rfl, hbl, hrq, hqi, d1, d2, d3, d4⟩ := hRw.at hx
        obtain ⟨q1, q2, q3, ⟨da, dn, dc⟩⟩ := q
        have eq1 := hqi.fr
        have eq2 := hqi.ct
        have eq3 := hqi.ze
        simp only at eq1 eq2 eq3
        have hHD := HHD.out
        rw [HBL.out] at hHD
        have hlo := least_hyp HHD.out H5.out hx
        have LR : ∀ y : Ext wr, (loadVar 49 ⟨b, off + k * 4, none⟩).run Try.prog y.1 = .ok (rvV (q1, q2, q3, (da, dn, dc))) y.1 := fun y => load_rc ((y.2.cell (p := ⟨b, off + k * 4, none⟩) hbl).trans d1) ((y.2.cell (p := ⟨b, off + k * 4 + 1, none⟩) hbl).trans d2) ((y.2.cell (p := ⟨b, off + k * 4 + 2, none⟩) hbl).trans d3) ((y.2.cell (p := ⟨b, off + k * 4 + 3, none⟩) hbl).trans d4)
        have LD : ∀ y : Ext wr, (loadVar 26 ⟨D, 0, none⟩).run Try.prog y.1 = .ok (smV bl ba id (pa, pn, pc)) y.1 := fun y => load_smC (H2.out.below y.2)
        have c3y : ∀ y : Ext wr, y.1.cell? ⟨B, 3, none⟩ = some (.slice (some ⟨b, off, none⟩) xn xc) := fun y => (H1.out.below y.2).cell 3 _ rfl
        have hnx : ∀ y : Ext wr, Calls Try.prog 26 #[smV bl ba id (pa, pn, pc), rvV (q1, q2, q3, (da, dn, dc))] y.1 (RetB (rcOk s k x) y.1) := fun y => by
          have := rf16_next (w := y.1) (id := id) (ba := ba) ⟨hHD.1, hHD.2.1⟩ (H3.out.below (H4.out.trans (y.2.mono (by have := H4.out.size; rw [HSZ.out] at this; exact this)) |> fun hh => by rw [HSZ.out]; exact hh)) (x := x) (d := (da, dn, dc)) (hqi.da.below y.2) _ hlo
          rw [← eq1, ← eq2, ← eq3] at this
          have e : (plOk bl (leastAt s.re k) x ∧ daOk ba x) = rcOk s k x := by unfold rcOk; rw [HBL.out, HBA.out]
          rw [e] at this
          exact this
        have HX := Lib.hid hx
        clear hRw hbl hrq hqi d1 d2 d3 d4 eq1 eq2 eq3 hHD hlo hx hlt
        simp only [smV, rvV, slV] at LR LD hnx c3y
        by_cases ho : rcOk s k x
        · have HNX : Hid (∀ y : Ext wr, _) := fun y => calls_extB y (hnx y) true ⟨fun _ => ho, fun _ => rfl⟩
          have HO : Hid (okTo s (k + 1)) := okTo_succ H5.out HX.out ho
          clear hnx ho
          have HSR : Hid (RcR w (.slice (some ⟨b, off, none⟩) (k + 1) xc) (r.take (k + 1)) (s.re.take (k + 1))) := rcR_take HS.out (by rw [← HL.out]; have := HLT.out; omega)
          go_wp2_with fail
          refine region_ext (by kernel_rfl) (by kernel_rfl) ?_
          repeat (go_big_quiet_step (with_reducible (first | exact HNX.out _)))
          try (with_reducible refine wpQuiet_nil ?_)
          intro z
          have HZ : Hid (Below B w z.1) := H4.out.trans (z.2.mono (by have := H4.out.size; rw [HSZ.out] at this; exact this))
          have e1 := c3y z
          have rD := H2.out.below z.2
          have rB := H1.out.below z.2
          have fD := rD.frozen 3
          have cD := rD.cell 3 _ rfl
          have J1 : Hid (RowC (z.1.setCell ⟨D, 3, none⟩ (.slice (some ⟨b, off, none⟩) (k + 1) xc)) B 26 (smL bl ba id (some ⟨b, off, none⟩, xn, xc))) := set_other rB (by have := HDB.out; omega) 3 _
          have J2 : Hid (RowC (z.1.setCell ⟨D, 3, none⟩ (.slice (some ⟨b, off, none⟩) (k + 1) xc)) D 26 (smL bl ba id (some ⟨b, off, none⟩, k + 1, xc))) := rD.set 3 _
          have J3 : Hid (Below B w (z.1.setCell ⟨D, 3, none⟩ (.slice (some ⟨b, off, none⟩) (k + 1) xc))) := set_below HZ.out (by have := HDB.out; omega) 3 _
          have g2 : (k : Int) + 1 ≤ (xc : Int) := by have := HLC.out; omega
          have g3 : (0 : Int) ≤ (k : Int) + 1 := by omega
          simp only [slV] at cD
          clear LR LD c3y rD rB
          go_wp2_with fail
          go_roundw
          case rel => exact ⟨k + 1, (some ⟨b, off, none⟩, k + 1, xc), HLT.out, by first | (simp; done) | (rw [HW1.out]; simp), J1, J2, HSR, J3, HO⟩
          case measure => have := HLT.out; first | (simp [intOf]; omega) | (rw [HW1.out]; simp [intOf]; omega)
        · have HNX : Hid (∀ y : Ext wr, _) := fun y => calls_extB y (hnx y) false ⟨fun h => (by cases h), fun h => absurd h ho⟩
          have HN : Hid (¬ sGood s) := sGood_not HX.out ho
          clear hnx ho
          go_wp2_with fail
          refine region_ext (by kernel_rfl) (by kernel_rfl) ?_
          repeat (go_big_quiet_step (with_reducible (first | exact HNX.out _)))
          try (with_reducible refine wpQuiet_nil ?_)
          intro z
          have HZ : Hid (Below B w z.1) := H4.out.trans (z.2.mono (by have := H4.out.size; rw [HSZ.out] at this; exact this))
          clear LR LD c3y
          go_wp2_with fail
          go_ret
          exact RetB.no HN.out (by rw [HSZ.out]; exact HZ.out)
      · have g1 : ¬ (k : Int) < (xn : Int) := by omega
        obtain rfl : k = xn := by omega
        have HGD : Hid (sGood s) := okTo_all (by rw [← HL.out]; exact H5.out) HHD.out
        go_wp2_with fail
        go_ret
        exact RetB.yes HGD.out (by rw [HSZ.out]; exact H4.out)
  · have HH := Lib.hid (calls_no hhd hh)
    have HN : Hid (¬ sGood s) := by intro hg; have := hg.1; rw [hbl, hba, hid] at this; exact hh this
    clear hhd hh k1 hXb hXs hlc hcm ib ia ii hR hbl hba hid hxn
    go_enter Try.func15, Try.ntmps15
    go_wp2_with fail
    refine HH.out.mono ?_
    rintro e y ⟨rfl, hy⟩
    have HB3 : Hid (Below B w y) := HXB.out.trans (hy.mono (by have := HXS.out; omega))
    clear hy
    go_wp2_with fail
    go_ret
    exact RetB.no HN.out (by rw [HSZ.out]; exact HB3.out)
end Go.Proofs.Ytfihpljgbghogaa

