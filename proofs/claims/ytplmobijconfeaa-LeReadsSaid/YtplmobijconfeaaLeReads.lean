/- Whatever the bytes and the steps, LeReads returns true and leaves its arguments as they were; no conditions. -/
import Derived.Test.YtplmobijconfeaaFrame
import Derived.Deep.SlicePairs
namespace Go.Proofs.Ytplmobijconfeaa.leReads
open Go.ChangeShapes Go.WideShapes Go.ChangeAt Go.RowKit Go.Deep
set_option linter.unusedVariables false

/-- The steps that came in. -/
def IsSteps (w : World) (a : Option Addr) (len : Nat) (T : Nat → Bool) (S : Nat → Int) : Prop :=
  len = 0 ∨ ∃ b off, a = some ⟨b, off, none⟩ ∧ b < w.heap.size ∧ ∀ i, i < len → w.cell? ⟨b, off + i * 2, none⟩ = some (.bool (T i)) ∧ w.cell? ⟨b, off + i * 2 + 1, none⟩ = some (.int .i64 (S i)) ∧ (Lit.int .i64 (S i)).wf = true

set_option maxRecDepth 100000 in
set_option maxHeartbeats 4000000 in
theorem walk (a0 : Option Addr) (len0 cap0 : Nat) (z0 : List Int) (a1 : Option Addr) (len1 cap1 : Nat) (T : Nat → Bool) (S : Nat → Int) (w : World) (w0 : IsRow .u8 w a0 len0 cap0 z0) (w1 : IsSteps w a1 len1 T S) :
    Calls Try.prog 4 #[.slice a0 len0 cap0, .slice a1 len1 cap1] w fun e w' => e = .returned (.bool true) ∧ Below w.heap.size w w' := by
  obtain ⟨hs, hb, hlen⟩ := bytes_of_row w0
  have HW := Lib.hid (wakes_any)
  generalize hxs : z0.take len0 = xs at hs hb hlen
  have HS := Lib.hid hs
  have HBy := Lib.hid hb
  have HL := Lib.hid hlen
  have HT := Lib.hid w1
  clear hxs hs hb hlen w0 w1
  by_cases hbig : 5000 < len0 ∨ 300 < len1
  · have hq : (5000 : Int) < (len0 : Int) ∨ (¬ (5000 : Int) < (len0 : Int) ∧ decide ((5000 : Int) < (len0 : Int)) = false ∧ (300 : Int) < (len1 : Int)) := by
      by_cases h : 5000 < len0
      · left; omega
      · right; refine ⟨by omega, by simp; omega, by omega⟩
    clear hbig
    rcases hq with q | ⟨q1, q2, q3⟩
    all_goals
      go_enter Try.func4, Try.ntmps4
      go_wp2_with fail
      refine (HW.out _).mono ?_
      rintro e w' ⟨rfl, hB⟩
      have HB2 := Lib.hid hB
      clear hB
      go_wp2_with fail
      go_ret
      exact ⟨rfl, HB2.out⟩
  have q1 : ¬ (5000 : Int) < (len0 : Int) := by omega
  have q2 : ¬ (300 : Int) < (len1 : Int) := by omega
  have q3 : decide ((5000 : Int) < (len0 : Int)) = false := by simpa using q1
  have q4 : decide ((300 : Int) < (len1 : Int)) = false := by simpa using q2
  have ho0 : (w.alloc (.cells #[] 5)).ownsRow w.heap.size 5 1 (.slice (some ⟨w.heap.size, 0, none⟩) 0 0) ([] : List Int).length (([] : List Int).map (Value.int .u8)) := World.ownsRow_lit w #[] 0 (Nat.le_refl _) (by unfold maxLen; omega) rfl
  obtain ⟨v3, w3, hrun, ho3, hg3⟩ := run_append_bytes w.heap.size (w.alloc (.cells #[] 5)) _ [] ho0 (.slice a0 len0 cap0) xs (HS.out.below ((Below.refl _ _).alloc (Nat.le_refl _) _)) (by have := HL.out; simp; omega) (by simp)
  have hB3 : Below w.heap.size w w3 := ((Below.refl _ _).alloc (Nat.le_refl _) _).grown hg3 (by simp) (fun k e => by simp [Value.ownBlock] at e; omega)
  rw [List.nil_append] at ho3
  have hs3 : Sl .u8 w3 v3 xs := Sl.of_owns ho3
  have hA := Lib.hid hrun
  have O3 := Lib.hid ho3
  have S3 := Lib.hid hs3
  have B3 := Lib.hid hB3
  clear hrun ho3 hs3 hB3 ho0 hg3
  go_enter Try.func4, Try.ntmps4
  go_wp2_with (at_builtin; refine wpList_append_run (.tmp 24) (.tmp 25) 23 rfl rfl _ _ _ rfl rfl hA.out ?_)
  refine (newReader_any _ xs _ S3.out (by have := HL.out; omega)).mono ?_
  rintro e w1 ⟨rb, rfl, hrb, hR, hB⟩
  have HR := Lib.hid hR
  have HB : Hid (Below w.heap.size w w1) := B3.out.trans (hB.mono B3.out.size)
  have Hrb : Hid (w.heap.size ≤ rb) := Nat.le_of_lt (Nat.lt_of_le_of_lt B3.out.size hrb)
  have HO : Hid (w1.ownsRow w.heap.size 5 1 v3 xs.length (xs.map (Value.int .u8))) := O3.out.kept (grown_below hB none) (by rcases O3.out.2 with ⟨h, _⟩ | ⟨g, c, cur, h, _⟩ <;> rw [h] <;> simp [Value.ownBlock])
  clear hR hB hrb q3 q4 hA O3 S3 B3
  go_wp2_with fail
  go_loopw [7, 8] (fun rv i wr => ∃ (k R : Nat) (ra : Option Addr) (rc : Nat) (rest : List Int), k ≤ len1 ∧ R ≤ 5000 ∧ i = .int .i64 k ∧ rv = .slice ra R rc ∧ Hid (rest.length = R) ∧ Hid (IsBytes rest) ∧ Hid (Sl .u8 w (.slice ra R rc) rest) ∧
      Hid (wr.ownsRow w.heap.size 5 1 v3 xs.length (xs.map (Value.int .u8))) ∧ Hid (Rdr wr w1.heap.size rb rest) ∧ Hid (Below w.heap.size w wr)) (fun _ i _ => len1 - (intOf i).toNat)
  case atStart => exact ⟨0, len0, a0, cap0, xs, Nat.zero_le _, by omega, rfl, rfl, HL.out, HBy.out, HS.out, HO.out, HR.out, HB.out⟩
  case round =>
    obtain ⟨k, R, ra, rc, rest, hk, hR5, rfl, rfl, HRl, HRb, HRs, HOw, HRd, HBw⟩ := hrel
    by_cases hlt : k < len1
    · obtain ⟨b, off, ha, hb, hc⟩ : ∃ b off, a1 = some ⟨b, off, none⟩ ∧ b < w.heap.size ∧ w.cell? ⟨b, off + k * 2, none⟩ = some (.bool (T k)) ∧ w.cell? ⟨b, off + k * 2 + 1, none⟩ = some (.int .i64 (S k)) ∧ (Lit.int .i64 (S k)).wf = true := by
        rcases HT.out with h | ⟨b, off, e, h3, h4⟩
        · omega
        · exact ⟨b, off, e, h3, h4 k hlt⟩
      subst ha
      obtain ⟨hc1, hc2, hwf⟩ := hc
      obtain ⟨y1, y2⟩ := bounds_i64 hwf
      have c1 : wr.cell? ⟨b, off + k * 2, none⟩ = some (.bool (T k)) := (HBw.out.cell (p := ⟨b, off + k * 2, none⟩) hb).trans hc1
      have c2 : wr.cell? ⟨b, off + k * 2 + 1, none⟩ = some (.int .i64 (S k)) := (HBw.out.cell (p := ⟨b, off + k * 2 + 1, none⟩) hb).trans hc2
      obtain ⟨t, ht⟩ : ∃ t, T k = t := ⟨_, rfl⟩
      obtain ⟨s, hs⟩ : ∃ s, S k = s := ⟨_, rfl⟩
      rw [ht] at c1
      rw [hs] at c2 y1 y2
      clear hc1 hc2 hwf ht hs
      have HX : ∀ w2 : World, (wr.alloc (.cells #[.bool t, .int .i64 s] 33)).grownBy w2 (some rb) → w2.cell? ⟨wr.heap.size, 1, none⟩ = some (.int .i64 s) ∧ Hid (w2.ownsRow w.heap.size 5 1 v3 xs.length (xs.map (Value.int .u8))) ∧ Hid (Below w.heap.size w w2) := by
        intro w2 hg
        have hN : rb < wr.heap.size := by
          obtain ⟨_, _, _, _, _, _, _, _, h5, h6⟩ := HRd.out
          omega
        refine ⟨?_, ?_, ?_⟩
        · exact (World.cell?_of_block (hg.block wr.heap.size (by simp) (by simp; omega))).trans (by simp)
        · exact (HOw.out.alloc _).kept hg (.inr (HRd.out.not_row HOw.out))
        · exact (HBw.out.alloc HBw.out.size _).grown hg (by have := HBw.out.size; simp; omega) (fun r e => by cases e; exact Hrb.out)
      have HRX : Hid (Rdr (wr.alloc (.cells #[.bool t, .int .i64 s] 33)) w1.heap.size rb rest) := HRd.out.kept (World.grownBy_alloc wr _ none) (fun r e => by cases e)
      have HX := Lib.hid HX
      by_cases hfit : 0 ≤ s ∧ s ≤ (R : Int)
      · obtain ⟨K, rfl⟩ := Int.eq_ofNat_of_zero_le hfit.1
        have hKR : K ≤ R := by omega
        have p1 : (K : Int) ≤ (R : Int) := by omega
        have p2 : decide ((K : Int) ≤ (R : Int)) = true := by simpa using p1
        have p3 : decide (K ≤ R) = true := by simpa using hKR
        obtain ⟨hh1, hh2⟩ := sl_hi HRs.out hKR
        obtain ⟨ra', hl1, hl2⟩ := sl_lo HRs.out hKR
        have HH1 := Lib.hid hh1
        have HH2 := Lib.hid (hh2 w HRs.out)
        have HL1 := Lib.hid hl1
        have HL2 := Lib.hid (hl2 w HRs.out)
        clear hh1 hh2 hl1 hl2 hfit
        cases t
        · go_wp2_with fail
          refine (num_yes rb rest K _ HRX.out HRb.out (by rw [HRl.out]; exact hKR)).mono ?_
          rintro e w2 ⟨rfl, hR2, hg⟩
          obtain ⟨c3, HO2, HB2⟩ := HX.out w2 hg
          have HR2 := Lib.hid hR2
          obtain ⟨G, hG⟩ : ∃ G, getL (rest.take K) = G := ⟨_, rfl⟩
          have HG := Lib.hid hG
          rw [hG]
          clear hR2 hg c1 c2 hG
          go_wp2_with ((with_reducible refine gate_slice 99 ?_); refine wpList_slice_run (.tmp 99) 23 none (some (.tmp 101)) rfl rfl _ _ _ _ rfl rfl rfl (HH1.out _) ?_)
          have hq := refGet_any (.slice ra K rc) (rest.take K) w2 (HH2.out.below HB2.out) (HRb.out.take K)
          rw [HG.out] at hq
          refine hq.mono ?_
          clear hq
          rintro e w' ⟨rfl, rfl⟩
          have hleft := left_rdr rb _ w' HR2.out
          rw [List.length_drop, HRl.out] at hleft
          have HLe := Lib.hid hleft
          clear hleft
          go_wp2_with ((with_reducible refine gate_slice 116 ?_); refine wpList_slice_run (.tmp 116) 23 (some (.tmp 118)) none rfl rfl _ _ _ _ rfl rfl rfl (HL1.out _) ?_)
          refine HLe.out.mono ?_
          rintro e w' ⟨rfl, rfl⟩
          go_wp2_with fail
          go_roundw
          case rel => exact ⟨k + 1, R - K, ra', rc - K, rest.drop K, by omega, by omega, by go_num, rfl, (by show _ = _; rw [List.length_drop, HRl.out]), HRb.out.drop K, HL2.out, HO2, HR2, HB2⟩
          case measure => simp [intOf]; omega
        · go_wp2_with fail
          refine (take_yes rb rest K _ HRX.out (by rw [HRl.out]; exact hKR) (by rw [HRl.out]; omega)).mono ?_
          rintro e w2 ⟨g, rfl, hg0, hrow, hR2, hg⟩
          obtain ⟨c3, HO2, HB2⟩ := HX.out w2 hg
          have HR2 := Lib.hid hR2
          have htl : (rest.take K).length = K := by rw [List.length_take, HRl.out]; omega
          have hsp : Sl .u8 w2 (.slice (some ⟨g, 0, none⟩) K K) (rest.take K) := by
            have := sl_new hrow (by rw [htl]; unfold maxLen; omega)
            rw [htl] at this
            exact this
          have HP := Lib.hid hsp
          clear hR2 hg hg0 hrow c1 c2 htl hsp
          go_wp2_with ((with_reducible refine gate_slice 68 ?_); refine wpList_slice_run (.tmp 68) 23 none (some (.tmp 70)) rfl rfl _ _ _ _ rfl rfl rfl (HH1.out _) ?_)
          refine (bytes_yes _ _ (rest.take K) w2 HP.out (HH2.out.below HB2.out)).mono ?_
          rintro e w' ⟨rfl, rfl⟩
          have hleft := left_rdr rb _ w' HR2.out
          rw [List.length_drop, HRl.out] at hleft
          have HLe := Lib.hid hleft
          clear hleft
          go_wp2_with ((with_reducible refine gate_slice 116 ?_); refine wpList_slice_run (.tmp 116) 23 (some (.tmp 118)) none rfl rfl _ _ _ _ rfl rfl rfl (HL1.out _) ?_)
          refine HLe.out.mono ?_
          rintro e w' ⟨rfl, rfl⟩
          go_wp2_with fail
          go_roundw
          case rel => exact ⟨k + 1, R - K, ra', rc - K, rest.drop K, by omega, by omega, by go_num, rfl, (by show _ = _; rw [List.length_drop, HRl.out]), HRb.out.drop K, HL2.out, HO2, HR2, HB2⟩
          case measure => simp [intOf]; omega
      · have hq : (s < 0 ∧ decide (0 ≤ s) = false) ∨ (0 ≤ s ∧ ¬ s ≤ (R : Int) ∧ decide (0 ≤ s) = true ∧ decide (s ≤ (R : Int)) = false) := by
          by_cases h : s < 0
          · left; exact ⟨h, by simp; omega⟩
          · right; exact ⟨by omega, by omega, by simp; omega, by simp; omega⟩
        have hno : Hid (s < 0 ∨ (rest.length : Int) < s) := by
          show _ ∨ _
          rw [HRl.out]; omega
        clear hfit
        cases t
        · rcases hq with ⟨z1, z2⟩ | ⟨z1, z2, z3, z4⟩
          all_goals
            go_wp2_with fail
            refine (num_no rb rest s _ HRX.out hno.out).mono ?_
            rintro e w2 ⟨rfl, hB⟩
            have hg := grown_below hB (some rb)
            obtain ⟨c3, HO2, HB2⟩ := HX.out w2 hg
            have HR2 : Hid (Rdr w2 w1.heap.size rb rest) := HRX.out.below (grown_below hB none)
            clear hB hg c1 c2
            have hleft := left_rdr rb rest w2 HR2.out
            rw [HRl.out] at hleft
            have HLe := Lib.hid hleft
            clear hleft
            go_wp2_with fail
            refine HLe.out.mono ?_
            rintro e w' ⟨rfl, rfl⟩
            go_wp2_with fail
            go_roundw
            case rel => exact ⟨k + 1, R, ra, rc, rest, by omega, hR5, by go_num, rfl, HRl, HRb, HRs, HO2, HR2, HB2⟩
            case measure => simp [intOf]; omega
        · rcases hq with ⟨z1, z2⟩ | ⟨z1, z2, z3, z4⟩
          all_goals
            go_wp2_with fail
            refine (take_no rb rest s _ HRX.out hno.out).mono ?_
            rintro e w2 ⟨rfl, he⟩
            have hg : (wr.alloc (.cells #[.bool true, .int .i64 s] 33)).grownBy w2 (some rb) := by rw [he]; exact World.grownBy.refl _ _
            have HR2 : Hid (Rdr w2 w1.heap.size rb rest) := by rw [he]; exact HRX
            obtain ⟨c3, HO2, HB2⟩ := HX.out w2 hg
            clear he hg c1 c2
            have hleft := left_rdr rb rest w2 HR2.out
            rw [HRl.out] at hleft
            have HLe := Lib.hid hleft
            clear hleft
            go_wp2_with fail
            refine HLe.out.mono ?_
            rintro e w' ⟨rfl, rfl⟩
            go_wp2_with fail
            go_roundw
            case rel => exact ⟨k + 1, R, ra, rc, rest, by omega, hR5, by go_num, rfl, HRl, HRb, HRs, HO2, HR2, HB2⟩
            case measure => simp [intOf]; omega
    · have p0 : ¬ (k : Int) < (len1 : Int) := by omega
      have S1 : Hid (Sl .u8 wr v3 xs) := Sl.of_owns HOw.out
      have S2 : Hid (Sl .u8 wr (.slice a0 len0 cap0) xs) := HS.out.below HBw.out
      go_wp2_with fail
      refine (bytes_yes _ _ xs _ S1.out S2.out).mono ?_
      rintro e w' ⟨rfl, rfl⟩
      go_wp2_with fail
      refine (HW.out _).mono ?_
      rintro e w5 ⟨rfl, hB5⟩
      have B5 : Hid (Below w.heap.size w w5) := HBw.out.trans (hB5.mono HBw.out.size)
      clear hB5
      go_wp2_with fail
      go_ret
      exact ⟨rfl, B5.out⟩

theorem steps_of (x : Addr) (len : Nat) (V0 V1 : Nat → Value) (W : World) (h : ∀ i, i < len → ∃ (t : Bool) (s : Int), W.cell? (x.add (i * 2)) = some (.bool t) ∧ W.cell? (x.add (i * 2 + 1)) = some (.int .i64 s) ∧ (Lit.int .i64 s).wf = true) :
    ∃ T S, IsSteps W (some x) len T S := by
  by_cases h0 : len = 0
  · exact ⟨fun _ => false, fun _ => 0, .inl h0⟩
  · obtain ⟨b, off, spot⟩ := x
    obtain ⟨_, _, hc0, _, _⟩ := h 0 (by omega)
    have hspot : spot = none := by simpa [Addr.add] using World.cell?_spot hc0
    subst hspot
    have hb : b < W.heap.size := by
      obtain ⟨o, ho, _⟩ := cells_of_cell hc0
      have := (Array.getElem?_eq_some_iff.1 ho).1
      simpa [Addr.add] using this
    have hplain : ∀ j, (⟨b, off, none⟩ : Addr).add j = ⟨b, off + j, none⟩ := by intro j; unfold Addr.add; split <;> simp_all
    have hT : ∀ i, ∃ q : Bool × Int, i < len → W.cell? ⟨b, off + i * 2, none⟩ = some (.bool q.1) ∧ W.cell? ⟨b, off + i * 2 + 1, none⟩ = some (.int .i64 q.2) ∧ (Lit.int .i64 q.2).wf = true := by
      intro i
      by_cases hi : i < len
      · obtain ⟨t, s, h1, h2, h3⟩ := h i hi
        rw [hplain] at h1 h2
        exact ⟨(t, s), fun _ => ⟨h1, h2, h3⟩⟩
      · exact ⟨(false, 0), fun h => absurd h hi⟩
    exact ⟨fun i => (Classical.choose (hT i)).1, fun i => (Classical.choose (hT i)).2, .inr ⟨b, off, rfl, hb, fun i hi => Classical.choose_spec (hT i) hi⟩⟩

set_option maxRecDepth 100000 in
theorem lifted (os : Os) (started : os.Started) (H : Type) (enc : TypeId × Value → H) :
    ReturnsInHanded {} Try.checked os 4 .any (Rows.leReadsSpec.pre6 enc Try.prog Try.f4 Rows.leReadsRow.domain false) (Rows.leReadsSpec.post enc Try.prog Try.f4 false true false false) := by
  refine returnsInHanded_of_change (C := Try.checked) own started (by kernel_rfl) Try.func4
    (ChangeSpec.witness6 (enc := enc) (C := Try.checked) false ⟨#[], #[.slice none 0 0, .slice none 0 0], []⟩ 8 (by kernel_rfl) (by kernel_rfl) (by kernel_rfl) (by kernel_rfl)) ?_
  intro W base args ds gs before hval0 hW hcnd _
  have hval : ∀ (j : Nat) t v, Try.f4.params[j]? = some t → args[j]? = some v → Value.okWide Try.prog W .any base t v := hval0
  have hW' := hW
  obtain ⟨p, q, hA0, hV, rfl, hfz, hnd⟩ := hW
  have hA : DataW.TrodAll enc Try.prog W 0 (fun _ => true) true Try.f4.params.toList args.toList ds p := hA0
  rw [Try.params4] at hA hval
  obtain ⟨v0, vs0, d0, ds0, p0, q0, hargs, rfl, rfl, h0, r0⟩ := trodAll_cons hA
  obtain ⟨v1, vs1, d1, ds1, p1, q1, rfl, rfl, rfl, h1, r1⟩ := trodAll_cons r0
  obtain ⟨rfl, rfl, rfl⟩ := trodAll_nil r1
  obtain rfl : args = #[v0, v1] := by cases args; simp_all
  obtain ⟨rfl, rfl⟩ := trodVars_none hV
  obtain ⟨a0, len0, cap0, rfl⟩ := okWide_slice Try.underlying23 (hval 0 23 v0 rfl rfl)
  have k0 := h0
  have lt0 : ∀ x ∈ p0, x.block < W.heap.size := by obtain ⟨m, hm⟩ := k0; exact DataW.trod_lt m _ _ _ hm
  obtain ⟨z0, w0⟩ : ∃ zs, IsRow .u8 W a0 len0 cap0 zs := by
    obtain ⟨fuel, hf⟩ := h0
    rcases open_ints Try.underlying23 Try.underlying5 (by kernel_rfl) hf with ⟨hcs, _⟩ | ⟨x, l, c, zs, hcs, _, hl, hm, hz, _, hcell, hwz⟩
    · simp [Value.cells] at hcs
      obtain ⟨rfl, rfl, rfl⟩ := hcs
      exact ⟨[], .inl ⟨rfl, rfl, rfl, rfl⟩⟩
    · simp [Value.cells] at hcs
      obtain ⟨rfl, rfl, rfl⟩ := hcs
      exact ⟨zs, .inr ⟨_, rfl, hl, hm, by simpa using hz, hcell, hwz⟩⟩
  obtain ⟨a1, len1, cap1, rfl⟩ := okWide_slice Try.underlying29 (hval 1 29 v1 rfl rfl)
  have k1 := h1
  have lt1 : ∀ x ∈ p1, x.block < W.heap.size := by obtain ⟨m, hm⟩ := k1; exact DataW.trod_lt m _ _ _ hm
  obtain ⟨T, S, w1⟩ : ∃ T S, IsSteps W a1 len1 T S := by
    obtain ⟨fuel, hf⟩ := h1
    rcases open_slice_pairs Try.underlying29 Try.underlying33 (by kernel_rfl) rfl rfl (by kernel_rfl) (by kernel_rfl) hf with ⟨hcs, _⟩ | ⟨x, l, c, m, n, V0, V1, D0, D1, P0, P1, hcs, _, hl, hm, hmm, _, hi⟩
    · simp [Value.cells] at hcs
      obtain ⟨rfl, rfl, rfl⟩ := hcs
      exact ⟨fun _ => false, fun _ => 0, .inl rfl⟩
    · simp [Value.cells] at hcs
      obtain ⟨rfl, rfl, rfl⟩ := hcs
      exact steps_of x _ V0 V1 _ (fun i h => by
        have hlm : i < m := by rw [hmm]; split <;> omega
        obtain ⟨h1, h2, h3, h4⟩ := hi i hlm
        obtain ⟨t, e1, _⟩ := DataW.trod_bool Try.underlying4 h3
        obtain ⟨s, e2, _, ws⟩ := DataW.trod_int Try.underlying3 h4
        simp at e1 e2
        rw [e1] at h1
        rw [e2] at h2
        exact ⟨t, s, h1, h2, ws⟩)
  clear hA0 hval0
  refine (walk a0 len0 cap0 z0 a1 len1 cap1 T S W w0 w1).mono fun e W' ⟨he, bel⟩ => ?_
  subst he
  exact ⟨_, rfl, _, _, _, [], _, [], hW', trodAll_mk1 (shut_bool Try.underlying4 _), (trodAll_cons_mk (Below.trod laidOut (by kernel_rfl) (of_decide_eq_true (by kernel_rfl)) k0 bel lt0) (trodAll_cons_mk (Below.trod laidOut (by kernel_rfl) (of_decide_eq_true (by kernel_rfl)) k1 bel lt1) trodAll_mk0)), rfl, bel.frame _, fun h => by cases h⟩

theorem over : Rows.leReadsRow.holds Try.pinned (OpenSpec.ofChange Rows.leReadsSpec) :=
  OpenClaim.holds_of_wide 4 Try.f4 rfl rfl rfl rfl rfl rfl rfl ⟨rfl, rfl, rfl, rfl, rfl⟩ rfl rfl rfl rfl rfl (by kernel_rfl) Try.func4 (by kernel_rfl)
    (of_decide_eq_true (by kernel_rfl)) (by unfold Func.isWrapper; first | (rw [if_pos (by decide +kernel)]; kernel_rfl) | (rw [if_neg (by decide +kernel)]; exact ⟨rfl, rfl⟩))
    (fun os started H enc _ => lifted os started H enc)

theorem proved : Rows.LeReadsSaid := over
#print axioms proved
end Go.Proofs.Ytplmobijconfeaa.leReads
