/- Whatever the bytes and the sizes, LeTakes returns true and leaves its arguments as they were; no conditions. -/
import Derived.Test.YtplmobijconfeaaFrame
namespace Go.Proofs.Ytplmobijconfeaa.leTakes
open Go.ChangeShapes Go.WideShapes Go.ChangeAt Go.RowKit
open Go.ChangeMaps (open_string shut_string)
set_option linter.unusedVariables false

set_option maxRecDepth 100000 in
set_option maxHeartbeats 2000000 in
theorem walk (a0 : Option Addr) (len0 cap0 : Nat) (z0 : List Int) (a1 : Option Addr) (len1 cap1 : Nat) (z1 : List Int) (w : World) (w0 : IsRow .u8 w a0 len0 cap0 z0) (w1 : IsRow .u8 w a1 len1 cap1 z1) :
    Calls Try.prog 7 #[.slice a0 len0 cap0, .slice a1 len1 cap1] w fun e w' => e = .returned (.bool true) ∧ Below w.heap.size w w' := by
  obtain ⟨hs, hb, hlen⟩ := bytes_of_row w0
  obtain ⟨hs1, hb1, hlen1⟩ := bytes_of_row w1
  have HW := Lib.hid (wakes_any)
  generalize hxs : z0.take len0 = xs at hs hb hlen
  generalize hys : z1.take len1 = ys at hs1 hb1 hlen1
  have HS := Lib.hid hs
  have HL := Lib.hid hlen
  have HS1 := Lib.hid hs1
  have HB1 := Lib.hid hb1
  have HL1 := Lib.hid hlen1
  clear hxs hs hb hlen hys hs1 hb1 hlen1 w0 w1
  by_cases hbig : 5000 < len0 ∨ 100 < len1
  · have hq : (5000 : Int) < (len0 : Int) ∨ (¬ (5000 : Int) < (len0 : Int) ∧ decide ((5000 : Int) < (len0 : Int)) = false ∧ (100 : Int) < (len1 : Int)) := by
      by_cases h : 5000 < len0
      · left; omega
      · right; refine ⟨by omega, by simp; omega, by omega⟩
    clear hbig
    rcases hq with q | ⟨q1, q2, q3⟩
    all_goals
      go_enter Try.func7, Try.ntmps7
      go_wp2_with fail
      refine (HW.out _).mono ?_
      rintro e w' ⟨rfl, hB⟩
      have HB2 := Lib.hid hB
      clear hB
      go_wp2_with fail
      go_ret
      exact ⟨rfl, HB2.out⟩
  have q1 : ¬ (5000 : Int) < (len0 : Int) := by omega
  have q2 : ¬ (100 : Int) < (len1 : Int) := by omega
  have q3 : decide ((5000 : Int) < (len0 : Int)) = false := by simpa using q1
  have q4 : decide ((100 : Int) < (len1 : Int)) = false := by simpa using q2
  go_enter Try.func7, Try.ntmps7
  go_wp2_with fail
  refine (newReader_any _ xs _ HS.out (by have := HL.out; omega)).mono ?_
  rintro e w1 ⟨rb, rfl, hrb, hR, hB⟩
  have HR := Lib.hid hR
  have HB := Lib.hid hB
  have Hrb := Lib.hid hrb
  clear hR hB hrb q3 q4
  go_wp2_with fail
  go_loopw [6, 7] (fun av i wr => ∃ (k : Nat) (done rest : List Int), k ≤ len1 ∧ i = .int .i64 k ∧ Hid (xs = done ++ rest) ∧ Hid (wr.ownsRow w1.heap.size 5 1 av done.length (done.map (Value.int .u8))) ∧ Hid (Rdr wr w1.heap.size rb rest) ∧ Hid (Below w.heap.size w wr)) (fun _ i _ => len1 - (intOf i).toNat)
  case atStart => exact ⟨0, [], xs, Nat.zero_le _, rfl, rfl, World.ownsRow_nil _ _ _ _, HR.out, HB.out⟩
  case round =>
    obtain ⟨k, done, rest, hk, rfl, HX, HO, HRd, HBw⟩ := hrel
    obtain ⟨R, hR⟩ : ∃ R, rest.length = R := ⟨_, rfl⟩
    have hR2 : R ≤ 5000 ∧ done.length ≤ 5000 := by
      have h1 := congrArg List.length HX.out
      rw [HL.out, List.length_append] at h1
      omega
    obtain ⟨hRm, hDm⟩ := hR2
    have HRl := Lib.hid hR
    clear hR
    by_cases hlt : k < len1
    · obtain ⟨b, off, ha, hb, hc⟩ : ∃ b off, a1 = some ⟨b, off, none⟩ ∧ b < w.heap.size ∧ w.cell? ⟨b, off + k, none⟩ = some (.int .u8 (ys[k]?.getD 0)) := by
        obtain ⟨a, cap, e, _, _, hl, _⟩ := HS1.out
        simp only [Value.slice.injEq] at e
        obtain ⟨rfl, _, _⟩ := e
        rcases hl with h | ⟨b, off, e, h3, h4⟩
        · have := HL1.out; rw [h] at this; simp at this; omega
        · exact ⟨b, off, e, h3, h4 k (by have := HL1.out; omega)⟩
      have c3 : wr.cell? ⟨b, off + k, none⟩ = some (.int .u8 (ys[k]?.getD 0)) := (HBw.out.cell (p := ⟨b, off + k, none⟩) hb).trans hc
      obtain ⟨y1, y2⟩ := HB1.out k
      obtain ⟨y, hy⟩ : ∃ y, ys[k]?.getD 0 = y := ⟨_, rfl⟩
      rw [hy] at c3 y1 y2
      obtain ⟨K, hK⟩ : ∃ K : Nat, y % 9 = (K : Int) := ⟨(y % 9).toNat, by omega⟩
      have hK9 : K < 9 := by omega
      subst ha
      clear hy hc
      have hleft := left_rdr rb rest wr HRd.out
      rw [HRl.out] at hleft
      have HLe := Lib.hid hleft
      clear hleft
      go_wp2_with fail
      refine HLe.out.mono ?_
      rintro e w' ⟨rfl, rfl⟩
      clear HLe c3 y1 y2
      go_wp2_with fail
      clear hK
      by_cases hKR : K ≤ R
      · refine (take_yes rb rest K _ HRd.out (by rw [HRl.out]; exact hKR) (by rw [HRl.out]; omega)).mono ?_
        rintro e w2 ⟨g, rfl, hg, hrow, hR2, hgr⟩
        have htl : (rest.take K).length = K := by rw [List.length_take, HRl.out]; omega
        have hdl : (((rest.drop K).length : Nat) : Int) = (R : Int) - (K : Int) := by rw [List.length_drop, HRl.out]; omega
        have hsp : Sl .u8 w2 (.slice (some ⟨g, 0, none⟩) K K) (rest.take K) := by
          have := sl_new hrow (by rw [htl]; unfold maxLen; omega)
          rw [htl] at this
          exact this
        have HO2 : Hid (w2.ownsRow w1.heap.size 5 1 u6 done.length (done.map (Value.int .u8))) := HO.out.kept hgr (.inr (HRd.out.not_row HO.out))
        have HB2 : Hid (Below w.heap.size w w2) := HBw.out.grown hgr HBw.out.size (fun k e => by cases e; exact Nat.le_of_lt Hrb.out)
        have hleft := left_rdr rb _ w2 hR2
        rw [hdl] at hleft
        have HLe := Lib.hid hleft
        have HP := Lib.hid hsp
        have HT := Lib.hid htl
        have HR2 := Lib.hid hR2
        clear hg hrow hR2 hgr htl hdl hsp hleft
        have p1 : (K : Int) ≤ (R : Int) := by omega
        have p2 : decide ((K : Int) ≤ (R : Int)) = true := by simpa using p1
        have p3 : decide (K ≤ R) = true := by simpa using hKR
        go_wp2_with fail
        refine HLe.out.mono ?_
        rintro e w' ⟨rfl, rfl⟩
        clear HLe
        obtain ⟨v', w3, hrun, ho3, hg3⟩ := run_append_bytes w1.heap.size w' u6 done HO2.out (.slice (some ⟨g, 0, none⟩) K K) (rest.take K) HP.out (by rw [HT.out]; omega) (Nat.le_trans (by obtain ⟨_, _, _, _, _, _, _, _, _, h⟩ := HR2.out; exact h) (Nat.le_refl _))
        have HO3 := Lib.hid ho3
        have HR3 : Hid (Rdr w3 w1.heap.size rb (rest.drop K)) := HR2.out.kept hg3 (fun r e => (HO2.out.lt r e).1)
        have HB3 : Hid (Below w.heap.size w w3) := HB2.out.grown hg3 HB2.out.size (fun r e => Nat.le_trans HB.out.size (HO2.out.lt r e).1)
        have HA := Lib.hid hrun
        clear ho3 hg3 hrun HO2 HP HB2 HR2
        go_wp2_with (at_builtin; refine wpList_append_run (.tmp 79) (.tmp 80) 23 rfl rfl _ _ _ rfl rfl HA.out ?_)
        go_roundw
        case rel => exact ⟨k + 1, done ++ rest.take K, rest.drop K, by omega, by go_num, by rw [List.append_assoc, List.take_append_drop]; exact HX, HO3, HR3, HB3⟩
        case measure => simp [intOf]; omega
      · have p1 : ¬ (K : Int) ≤ (R : Int) := by omega
        have p2 : decide ((K : Int) ≤ (R : Int)) = false := by simpa using p1
        have p3 : decide (K ≤ R) = false := by simpa using hKR
        refine (take_no rb rest K _ HRd.out (.inr (by rw [HRl.out]; omega))).mono ?_
        rintro e w' ⟨rfl, rfl⟩
        have hleft := left_rdr rb rest w' HRd.out
        rw [HRl.out] at hleft
        have HLe := Lib.hid hleft
        clear hleft
        go_wp2_with fail
        refine HLe.out.mono ?_
        rintro e w' ⟨rfl, rfl⟩
        clear HLe
        obtain ⟨v', w3, hrun, ho3, hg3⟩ := run_append_bytes w1.heap.size w' u6 done HO.out (.slice none 0 0) [] (Sl.nil _ _) (by simp; omega) (Nat.le_trans (by obtain ⟨_, _, _, _, _, _, _, _, _, h⟩ := HRd.out; exact h) (Nat.le_refl _))
        have HO3 := Lib.hid ho3
        have HR3 : Hid (Rdr w3 w1.heap.size rb rest) := HRd.out.kept hg3 (fun r e => (HO.out.lt r e).1)
        have HB3 : Hid (Below w.heap.size w w3) := HBw.out.grown hg3 HBw.out.size (fun r e => Nat.le_trans HB.out.size (HO.out.lt r e).1)
        have HA := Lib.hid hrun
        clear ho3 hg3 hrun
        go_wp2_with (at_builtin; refine wpList_append_run (.tmp 79) (.tmp 80) 23 rfl rfl _ _ _ rfl rfl HA.out ?_)
        go_roundw
        case rel => exact ⟨k + 1, done ++ [], rest, by omega, by go_num, by rw [List.append_nil]; exact HX, HO3, HR3, HB3⟩
        case measure => simp [intOf]; omega
    · have hleft := left_rdr rb rest wr HRd.out
      rw [HRl.out] at hleft
      have HLe := Lib.hid hleft
      clear hleft
      have p0 : ¬ (k : Int) < (len1 : Int) := by omega
      go_wp2_with fail
      refine HLe.out.mono ?_
      rintro e w' ⟨rfl, rfl⟩
      clear HLe
      go_wp2_with fail
      refine (take_yes rb rest R _ HRd.out (by rw [HRl.out]; exact Nat.le_refl _) (by rw [HRl.out]; omega)).mono ?_
      rintro e w2 ⟨g, rfl, hg, hrow, hR2, hgr⟩
      have htl : (rest.take R).length = R := by rw [List.length_take, HRl.out]; omega
      have hta : rest.take R = rest := List.take_of_length_le (by rw [HRl.out]; exact Nat.le_refl _)
      have hda : rest.drop R = [] := List.drop_of_length_le (by rw [HRl.out]; exact Nat.le_refl _)
      have hsp : Sl .u8 w2 (.slice (some ⟨g, 0, none⟩) R R) rest := by
        have := sl_new hrow (by rw [htl]; unfold maxLen; omega)
        rw [htl, hta] at this
        exact this
      rw [hda] at hR2
      have HO2 : Hid (w2.ownsRow w1.heap.size 5 1 u6 done.length (done.map (Value.int .u8))) := HO.out.kept hgr (.inr (HRd.out.not_row HO.out))
      have HB2 : Hid (Below w.heap.size w w2) := HBw.out.grown hgr HBw.out.size (fun k e => by cases e; exact Nat.le_of_lt Hrb.out)
      obtain ⟨v', w3, hrun, ho3, hg3⟩ := run_append_bytes w1.heap.size w2 u6 done HO2.out (.slice (some ⟨g, 0, none⟩) R R) rest hsp (by rw [HRl.out]; omega) (by obtain ⟨_, _, _, _, _, _, _, _, _, h⟩ := hR2; exact h)
      rw [← HX.out] at ho3
      have hB3 : Below w.heap.size w w3 := HB2.out.grown hg3 HB2.out.size (fun r e => Nat.le_trans HB.out.size (HO2.out.lt r e).1)
      have S3 : Hid (Sl .u8 w3 v' xs) := Sl.of_owns ho3
      have S4 : Hid (Sl .u8 w3 (.slice a0 len0 cap0) xs) := HS.out.below hB3
      have HR3 : Rdr w3 w1.heap.size rb [] := hR2.kept hg3 (fun r e => (HO2.out.lt r e).1)
      have hleft := left_rdr rb [] w3 HR3
      have HLe := Lib.hid hleft
      have HA := Lib.hid hrun
      have B3 := Lib.hid hB3
      clear hg hrow hR2 hgr htl hta hda hsp ho3 hg3 hrun hB3 HO2 HB2 HR3 hleft
      go_wp2_with (at_builtin; refine wpList_append_run (.tmp 91) (.tmp 92) 23 rfl rfl _ _ _ rfl rfl HA.out ?_)
      refine (bytes_yes _ _ xs _ S3.out S4.out).mono ?_
      rintro e w' ⟨rfl, rfl⟩
      go_wp2_with fail
      refine HLe.out.mono ?_
      rintro e w' ⟨rfl, rfl⟩
      go_wp2_with fail
      refine (HW.out _).mono ?_
      rintro e w5 ⟨rfl, hB5⟩
      have B5 : Hid (Below w.heap.size w w5) := B3.out.trans (hB5.mono B3.out.size)
      clear hB5
      go_wp2_with fail
      go_ret
      exact ⟨rfl, B5.out⟩

set_option maxRecDepth 100000 in
theorem lifted (os : Os) (started : os.Started) (H : Type) (enc : TypeId × Value → H) :
    ReturnsInHanded {} Try.checked os 7 .any (Rows.leTakesSpec.pre6 enc Try.prog Try.f7 Rows.leTakesRow.domain false) (Rows.leTakesSpec.post enc Try.prog Try.f7 false true false false) := by
  refine returnsInHanded_of_change (C := Try.checked) own started (by kernel_rfl) Try.func7
    (ChangeSpec.witness6 (enc := enc) (C := Try.checked) false ⟨#[], #[.slice none 0 0, .slice none 0 0], []⟩ 8 (by kernel_rfl) (by kernel_rfl) (by kernel_rfl) (by kernel_rfl)) ?_
  intro W base args ds gs before hval0 hW hcnd _
  have hval : ∀ (j : Nat) t v, Try.f7.params[j]? = some t → args[j]? = some v → Value.okWide Try.prog W .any base t v := hval0
  have hW' := hW
  obtain ⟨p, q, hA0, hV, rfl, hfz, hnd⟩ := hW
  have hA : DataW.TrodAll enc Try.prog W 0 (fun _ => true) true Try.f7.params.toList args.toList ds p := hA0
  rw [Try.params7] at hA hval
  obtain ⟨v0, vs0, d0, ds0, p0, q0, hargs, rfl, rfl, h0, r0⟩ := trodAll_cons hA
  obtain ⟨v1, vs1, d1, ds1, p1, q1, rfl, rfl, rfl, h1, r1⟩ := trodAll_cons r0
  obtain ⟨rfl, rfl, rfl⟩ := trodAll_nil r1
  obtain rfl : args = #[v0, v1] := by cases args; simp_all
  obtain ⟨rfl, rfl⟩ := trodVars_none hV
  obtain ⟨a0, len0, cap0, rfl⟩ := okWide_slice Try.underlying23 (hval 0 23 v0 rfl rfl)
  have k0 := h0
  have lt0 : ∀ x ∈ p0, x.block < W.heap.size := by obtain ⟨m, hm⟩ := k0; exact DataW.trod_lt m _ _ _ hm
  obtain ⟨z0, w0⟩ : ∃ zs, IsRow .u8 W a0 len0 cap0 zs := by
    obtain ⟨fuel, hf⟩ := h0
    rcases open_ints Try.underlying23 Try.underlying5 (by kernel_rfl) hf with ⟨hcs, _⟩ | ⟨x, l, c, zs, hcs, _, hl, hm, hz, _, hcell, hwz⟩
    · simp [Value.cells] at hcs
      obtain ⟨rfl, rfl, rfl⟩ := hcs
      exact ⟨[], .inl ⟨rfl, rfl, rfl, rfl⟩⟩
    · simp [Value.cells] at hcs
      obtain ⟨rfl, rfl, rfl⟩ := hcs
      exact ⟨zs, .inr ⟨_, rfl, hl, hm, by simpa using hz, hcell, hwz⟩⟩
  obtain ⟨a1, len1, cap1, rfl⟩ := okWide_slice Try.underlying23 (hval 1 23 v1 rfl rfl)
  have k1 := h1
  have lt1 : ∀ x ∈ p1, x.block < W.heap.size := by obtain ⟨m, hm⟩ := k1; exact DataW.trod_lt m _ _ _ hm
  obtain ⟨z1, w1⟩ : ∃ zs, IsRow .u8 W a1 len1 cap1 zs := by
    obtain ⟨fuel, hf⟩ := h1
    rcases open_ints Try.underlying23 Try.underlying5 (by kernel_rfl) hf with ⟨hcs, _⟩ | ⟨x, l, c, zs, hcs, _, hl, hm, hz, _, hcell, hwz⟩
    · simp [Value.cells] at hcs
      obtain ⟨rfl, rfl, rfl⟩ := hcs
      exact ⟨[], .inl ⟨rfl, rfl, rfl, rfl⟩⟩
    · simp [Value.cells] at hcs
      obtain ⟨rfl, rfl, rfl⟩ := hcs
      exact ⟨zs, .inr ⟨_, rfl, hl, hm, by simpa using hz, hcell, hwz⟩⟩
  clear hA0 hval0
  refine (walk a0 len0 cap0 z0 a1 len1 cap1 z1 W w0 w1).mono fun e W' ⟨he, bel⟩ => ?_
  subst he
  exact ⟨_, rfl, _, _, _, [], _, [], hW', trodAll_mk1 (shut_bool Try.underlying4 _), (trodAll_cons_mk (Below.trod laidOut (by kernel_rfl) (of_decide_eq_true (by kernel_rfl)) k0 bel lt0) (trodAll_cons_mk (Below.trod laidOut (by kernel_rfl) (of_decide_eq_true (by kernel_rfl)) k1 bel lt1) trodAll_mk0)), rfl, bel.frame _, fun h => by cases h⟩

theorem over : Rows.leTakesRow.holds Try.pinned (OpenSpec.ofChange Rows.leTakesSpec) :=
  OpenClaim.holds_of_wide 7 Try.f7 rfl rfl rfl rfl rfl rfl rfl ⟨rfl, rfl, rfl, rfl, rfl⟩ rfl rfl rfl rfl rfl (by kernel_rfl) Try.func7 (by kernel_rfl)
    (of_decide_eq_true (by kernel_rfl)) (by unfold Func.isWrapper; first | (rw [if_pos (by decide +kernel)]; kernel_rfl) | (rw [if_neg (by decide +kernel)]; exact ⟨rfl, rfl⟩))
    (fun os started H enc _ => lifted os started H enc)

theorem proved : Rows.LeTakesSaid := over
#print axioms proved
end Go.Proofs.Ytplmobijconfeaa.leTakes
