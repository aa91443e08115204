/- What happens in one set is nothing to the other one: blocks, dirty slots and whose turn is next; for all steps (up to 100 of them) and all numbers of ways. -/
import Derived.Test.YtlpmikbplngmnaaWdP
import Derived.Test.YtlpmikbplngmnaaMod
namespace Go.Proofs.Ytlpmikbplngmnaa.waysSets
open Go.ChangeShapes Go.WideShapes Go.ChangeAt Go.RowKit
set_option linter.unusedVariables false
open Go.Shelf Go.Lib
set_option linter.unusedSimpArgs false

set_option maxRecDepth 100000 in
set_option maxHeartbeats 2000000 in
theorem walk (v0 v1 : Value) (w : World) (w0 : Arg w 23 v0) (w1 : Arg w 41 v1) :
    Calls Try.prog 7 #[v0, v1] w fun e w' => e = .returned (.bool true) ∧ Below w.heap.size w w' := by
  obtain ⟨l, hst⟩ := w0.wts
  obtain ⟨a, b, rfl, wa, wb⟩ := w1.two Try.underlying41 Try.underlying5 (by kernel_rfl) (by kernel_rfl)
  obtain ⟨ha0, ha1⟩ := bounds_u8 wa
  obtain ⟨la, cap, rfl, hl1, hl2, hl3, hl4⟩ := id hst
  obtain ⟨L, hL⟩ : ∃ L, l.length = L := ⟨_, rfl⟩
  obtain ⟨B, hB⟩ : ∃ B, w.heap.size = B := ⟨_, rfl⟩
  obtain ⟨W, hW⟩ : ∃ W, w.alloc (.cells #[.int .u8 a, .int .u8 b] 41) = W := ⟨_, rfl⟩
  have r : RowC W B 41 [.int .u8 a, .int .u8 b] := by rw [← hW, ← hB]; exact RowC.new _ _ _
  have HB : Hid (Below w.heap.size w W) := by show Below w.heap.size w W; rw [← hW]; exact below_new _ _
  have HSZ := Lib.hid hB
  have c0 := r.cell 0 _ rfl
  have HST : Hid (Wts w (.slice la l.length cap) l) := hst
  have HLL := Lib.hid hL
  rw [hL] at hl1 HST ⊢
  obtain ⟨M, hM⟩ : ∃ M : Nat, 1 + a % 4 = (M : Int) := ⟨(1 + a % 4).toNat, by omega⟩
  have hM1 : 1 ≤ M := by omega
  have hM4 : M ≤ 4 := by omega
  have HLM : Hid (L ≤ maxLen) := Nat.le_trans hl1 hl2
  clear wa wb w0 w1 hl1 hl2 hl3 hl4 hst r hL
  by_cases hlong : 100 < L
  · have g0 : decide (100 < (L : Int)) = true := by simp; omega
    clear hlong c0
    go_enter Try.func7, Try.ntmps7
    go_wp2_with fail
    refine (ways_wakes _).mono ?_
    rintro e x ⟨rfl, h⟩
    have B2 := Lib.hid (HB.out.trans (h.mono HB.out.size))
    clear h
    go_wp2_with fail
    go_ret
    exact ⟨rfl, B2.out⟩
  · have g0 : decide (100 < (L : Int)) = false := by simp; omega
    have hL100 : L ≤ 100 := by omega
    have HN1 := Lib.hid (WAt.new (w0 := w) HB.out 2 M (by decide) (by decide) hM1 hM4)
    have HN2 : Hid (∀ p x, WAt w x p (mNew 2 M) → Calls Try.prog 9 #[.int .i64 2, .int .i64 (M : Int)] x fun e w' => ∃ q : WPos, e = .returned (.tuple #[q.v, .int .i64 0]) ∧ W2 w w' p q (mNew 2 M) (mNew 2 M)) := fun p x h => W2.new h 2 M (by decide) (by decide) hM1 hM4
    have HT0 : Hid (Tw (mNew 2 M) (mNew 2 M)) := Tw.new hM1 hM4
    have KS : Hid (∀ k, k < L → ∃ s : Wt, ∃ bb off, la = some ⟨bb, off, none⟩ ∧ s.Ok ∧ ∀ x : World, Below w.heap.size w x → WtAt x bb (off + k * 4) s) := fun k hk => by
      have hkl : k < l.length := by rw [HLL.out]; exact hk
      obtain ⟨bb, off, e1, e2, e3, e4⟩ := HST.out.open HLL.out (List.getElem?_eq_getElem hkl)
      exact ⟨_, bb, off, e1, e2, fun x hx => e4.below e3 hx⟩
    clear hlong
    go_enter Try.func7, Try.ntmps7
    go_wp2_with fail
    refine HN1.out.mono ?_
    rintro e x ⟨p, rfl, h, -⟩
    have A1 := Lib.hid h
    clear h
    unfold WPos.v
    go_wp2_with fail
    refine (HN2.out p x A1.out).mono ?_
    rintro e x2 ⟨q, rfl, h⟩
    have A2 := Lib.hid h
    clear h A1 HN1 HN2
    unfold WPos.v
    go_wp2_with fail
    clear c0
    go_loopw [10] (fun iv wr => ∃ (k : Nat) (X Y : WM), k ≤ L ∧ iv = .int .i64 (k : Int) ∧ Hid (Tw X Y) ∧ Hid (X.wy = M) ∧ Hid (W2 w wr p q X Y)) (fun iv _ => L - (intOf iv).toNat)
    case atStart => exact ⟨0, _, _, Nat.zero_le _, rfl, HT0, rfl, A2⟩
    case round =>
      obtain ⟨k, X, Y, hk, rfl, HT, HWY, HA⟩ := hrel
      clear A2 HT0
      by_cases hlt : k < L
      · have g1 : (k : Int) < (L : Int) := by omega
        have HLT := Lib.hid hlt
        obtain ⟨s, bb, off, rfl, hok, hsx⟩ := KS.out k hlt
        obtain ⟨n, hn⟩ : ∃ n, modI s.block 16 = n := ⟨_, rfl⟩
        have hn0 : 0 ≤ n := by rw [← hn]; exact (modI_bd (by decide)).1
        have hn1 : n < 16 := by rw [← hn]; exact (modI_bd (by decide)).2
        have HMod : Hid (∀ x : World, Calls Try.prog 26 #[.int .i64 s.block, .int .i64 16] x fun e w' => e = .returned (.int .i64 n) ∧ w' = x) := fun x => by rw [← hn]; exact mod_any _ _ x (by decide)
        have HSX := Lib.hid hsx
        have d1 := (HSX.out _ HA.out.bel).c1
        clear hsx hn hok
        go_wp2_with fail
        refine (HMod.out _).mono ?_
        rintro e x3 ⟨rfl, rfl⟩
        clear d1
        by_cases he : n % 2 = 0
        · have q1 : (n % 2 == 0) = true := by simpa using he
          have hr := HT.out.room hn0 he
          obtain ⟨o, hO⟩ : ∃ o, (mRoom X n).1 = o := ⟨_, rfl⟩
          have K1 := Lib.hid (HA.out.room1 HT.out.a n (by omega))
          have K2 : Hid (∀ y, W2 w y p q (mRoom X n).2 Y → Calls Try.prog 11 #[q.v, .int .i64 n] y fun e w' => e = .returned (opP o) ∧ W2 w w' p q (mRoom X n).2 (mRoom Y n).2) := fun y h => by
            have := h.room2 HT.out.b n (by omega)
            rw [← hr.1, hO] at this
            exact this
          have HT2 : Hid (Tw (mRoom X n).2 (mRoom Y n).2) := hr.2
          have HWY2 : Hid ((mRoom X n).2.wy = M) := by show _ = _; rw [← HWY.out]; unfold mRoom; split <;> rfl
          have HE := Lib.hid he
          rw [hO] at K1
          cases o with
          | some i =>
            clear hr he hO
            go_wp2_with fail
            refine K1.out.mono ?_
            rintro e y1 ⟨rfl, h⟩
            have A1 := Lib.hid h
            clear h
            unfold opP
            go_wp2_with fail
            refine (K2.out _ A1.out).mono ?_
            rintro e y2 ⟨rfl, h⟩
            have A2 := Lib.hid h
            clear h
            unfold opP
            have d3 := (HSX.out _ A2.out.bel).c3
            go_wp2_with fail
            refine (A2.out.put1 HT2.out.a (i : Int) n s.dirty (by omega)).mono ?_
            rintro e y3 ⟨rfl, h⟩
            have A3 := Lib.hid h
            clear h d3
            have d3 := (HSX.out _ A3.out.bel).c3
            go_wp2_with fail
            refine (A3.out.put2 HT2.out.b (i : Int) n s.dirty (by omega)).mono ?_
            rintro e y4 ⟨rfl, h⟩
            have A4 := Lib.hid h
            clear h d3
            have HT3 : Hid (Tw (mPut (mRoom X n).2 (i : Int) n s.dirty) (mPut (mRoom Y n).2 (i : Int) n s.dirty)) := HT2.out.put hn0 HE.out _ _
            have HWY3 : Hid ((mPut (mRoom X n).2 (i : Int) n s.dirty).wy = M) := by show _ = _; rw [← HWY2.out]; unfold mPut; split <;> rfl
            go_wp2_with fail
            exact ⟨⟨k + 1, _, _, HLT.out, by simp, HT3, HWY3, A4⟩, by have := HLT.out; simp [intOf]; omega⟩
          | none =>
            obtain ⟨v, v1, v2, -, -⟩ := full_dirt HT.out.a hn0 hO
            have hsX := full_same HT.out.a hn0 hO
            have hsY := full_same HT.out.b hn0 (hr.1.symm.trans hO)
            rw [of_even HT.out.sa he, Nat.zero_mul, Nat.zero_add] at v2
            have hd := HT.out.dirt hn0 he
            have K3 : Hid (∀ y, W2 w y p q X Y → Calls Try.prog 19 #[p.v, .int .i64 n] y fun e w' => e = .returned (.tuple #[.int .i64 (v : Int), .bool true]) ∧ W2 w w' p q (mDirt X n).2 Y) := fun y h => by
              have := h.dirt1 HT.out.a n (by omega)
              rw [v2] at this
              exact this
            have K4 : Hid (∀ y, W2 w y p q (mDirt X n).2 Y → Calls Try.prog 19 #[q.v, .int .i64 n] y fun e w' => e = .returned (.tuple #[.int .i64 (v : Int), .bool true]) ∧ W2 w w' p q (mDirt X n).2 (mDirt Y n).2) := fun y h => by
              have := h.dirt2 HT.out.b n (by omega)
              rw [← hd.1, v2] at this
              exact this
            have HT3 : Hid (Tw (mDirt X n).2 (mDirt Y n).2) := hd.2
            have hwy3 : (mDirt X n).2.wy = X.wy := by unfold mDirt; split <;> rfl
            have HT4 : Hid (Tw (mClean (mDirt X n).2 (v : Int)) (mClean (mDirt Y n).2 (v : Int))) := hd.2.clean (by rw [hwy3]; exact v1)
            have HWY4 : Hid ((mClean (mDirt X n).2 (v : Int)).wy = M) := by show _ = _; rw [← HWY.out, ← hwy3]; unfold mClean; split <;> rfl
            rw [hsX] at K1
            rw [hsX, hsY] at K2
            clear hr he hO hsX hsY hd v2 v1 hwy3 HT2 HWY2
            go_wp2_with fail
            refine K1.out.mono ?_
            rintro e y1 ⟨rfl, h⟩
            have A1 := Lib.hid h
            clear h
            unfold opP
            go_wp2_with fail
            refine (K2.out _ A1.out).mono ?_
            rintro e y2 ⟨rfl, h⟩
            have A2 := Lib.hid h
            clear h
            unfold opP
            go_wp2_with fail
            refine (K3.out _ A2.out).mono ?_
            rintro e y3 ⟨rfl, h⟩
            have A3 := Lib.hid h
            clear h
            go_wp2_with fail
            refine (K4.out _ A3.out).mono ?_
            rintro e y4 ⟨rfl, h⟩
            have A4 := Lib.hid h
            clear h
            go_wp2_with fail
            refine (A4.out.clean1 HT3.out.a (v : Int)).mono ?_
            rintro e y5 ⟨rfl, h⟩
            have A5 := Lib.hid h
            clear h
            go_wp2_with fail
            refine (A5.out.clean2 HT3.out.b (v : Int)).mono ?_
            rintro e y6 ⟨rfl, h⟩
            have A6 := Lib.hid h
            clear h
            go_wp2_with fail
            exact ⟨⟨k + 1, _, _, HLT.out, by simp, HT4, HWY4, A6⟩, by have := HLT.out; simp [intOf]; omega⟩
        · have he1 : n % 2 = 1 := by omega
          have q1 : (n % 2 == 0) = false := by simp; omega
          obtain ⟨o, hO⟩ : ∃ o, (mRoom X n).1 = o := ⟨_, rfl⟩
          have K1 := Lib.hid (HA.out.room1 HT.out.a n (by omega))
          have HT2 : Hid (Tw (mRoom X n).2 Y) := HT.out.roomOdd hn0 he1
          have HWY2 : Hid ((mRoom X n).2.wy = M) := by show _ = _; rw [← HWY.out]; unfold mRoom; split <;> rfl
          rw [hO] at K1
          have HE := Lib.hid he1
          cases o with
          | some i =>
            have HT3 : Hid (Tw (mPut (mRoom X n).2 (i : Int) n s.dirty) Y) := HT2.out.putOdd he1 _ _
            have HWY3 : Hid ((mPut (mRoom X n).2 (i : Int) n s.dirty).wy = M) := by show _ = _; rw [← HWY2.out]; unfold mPut; split <;> rfl
            clear he he1 hO
            go_wp2_with fail
            refine K1.out.mono ?_
            rintro e y1 ⟨rfl, h⟩
            have A1 := Lib.hid h
            clear h
            unfold opP
            have d3 := (HSX.out _ A1.out.bel).c3
            go_wp2_with fail
            refine (A1.out.put1 HT2.out.a (i : Int) n s.dirty (by omega)).mono ?_
            rintro e y3 ⟨rfl, h⟩
            have A3 := Lib.hid h
            clear h d3
            go_wp2_with fail
            exact ⟨⟨k + 1, _, _, HLT.out, by simp, HT3, HWY3, A3⟩, by have := HLT.out; simp [intOf]; omega⟩
          | none =>
            clear he he1 hO
            go_wp2_with fail
            refine K1.out.mono ?_
            rintro e y1 ⟨rfl, h⟩
            have A1 := Lib.hid h
            clear h
            unfold opP
            go_wp2_with fail
            exact ⟨⟨k + 1, _, _, HLT.out, by simp, HT2, HWY2, A1⟩, by have := HLT.out; simp [intOf]; omega⟩
      · obtain rfl : k = L := by omega
        clear hlt
        go_wp2_with fail
        go_loopw [18] (fun iv wr => ∃ k : Nat, k ≤ M ∧ iv = .int .i64 (k : Int) ∧ Hid (W2 w wr p q X Y)) (fun iv _ => M - (intOf iv).toNat)
        case atStart => exact ⟨0, Nat.zero_le _, rfl, HA⟩
        case round =>
          obtain ⟨j, hj, rfl, HA2⟩ := hrel
          by_cases hlt : j < M
          · have g2 : (j : Int) < (M : Int) := by omega
            have HLT := Lib.hid hlt
            have hbk := HT.out.block (i := j) (by rw [HWY.out]; exact hlt)
            obtain ⟨⟨b1, b2, b3⟩, hb⟩ : ∃ b, bkOf X (j : Int) = b := ⟨_, rfl⟩
            have K1 := Lib.hid (HA2.out.block1 HT.out.a (j : Int))
            have K2 : Hid (∀ y, W2 w y p q X Y → Calls Try.prog 28 #[q.v, .int .i64 (j : Int)] y fun e w' => e = .returned (.tuple #[.int .i64 b1, .bool b2, .bool b3]) ∧ W2 w w' p q X Y) := fun y h => by
              have := h.block2 HT.out.b (j : Int)
              rw [← hbk, hb] at this
              exact this
            rw [hb] at K1
            have e2 : (b2 != b2) = false := by simp
            have e3 : (b3 != b3) = false := by simp
            clear hbk hb hlt
            go_wp2_with fail
            refine K1.out.mono ?_
            rintro e y1 ⟨rfl, h⟩
            have A1 := Lib.hid h
            clear h
            go_wp2_with fail
            refine (K2.out _ A1.out).mono ?_
            rintro e y2 ⟨rfl, h⟩
            have A2 := Lib.hid h
            clear h
            go_wp2_with fail
            exact ⟨⟨j + 1, HLT.out, by simp, A2⟩, by have := HLT.out; simp [intOf]; omega⟩
          · obtain rfl : j = M := by omega
            clear hlt
            go_wp2_with fail
            refine (ways_wakes _).mono ?_
            rintro e y ⟨rfl, h⟩
            have B2 : Hid (Below w.heap.size w y) := HA2.out.bel.trans (h.mono HA2.out.bel.size)
            clear h
            go_wp2_with fail
            go_ret
            exact ⟨rfl, B2.out⟩

set_option maxRecDepth 100000 in
theorem lifted (os : Os) (started : os.Started) (H : Type) (enc : TypeId × Value → H) :
    ReturnsInHanded {} Try.checked os 7 .any (Rows.waysSetsSpec.pre6 enc Try.prog Try.f7 Rows.waysSetsRow.domain false) (Rows.waysSetsSpec.post enc Try.prog Try.f7 false true false false) := by
  refine returnsInHanded_of_change (C := Try.checked) own started (by kernel_rfl) Try.func7
    (ChangeSpec.witness6 (enc := enc) (C := Try.checked) false ⟨#[], #[.slice none 0 0, .agg #[.int .u8 0, .int .u8 0]], []⟩ 8 (by kernel_rfl) (by kernel_rfl) (by kernel_rfl) (by kernel_rfl)) ?_
  intro W base args ds gs before hval0 hW hcnd _
  have hval : ∀ (j : Nat) t v, Try.f7.params[j]? = some t → args[j]? = some v → Value.okWide Try.prog W .any base t v := hval0
  have hW' := hW
  obtain ⟨p, q, hA0, hV, rfl, hfz, hnd⟩ := hW
  have hA : DataW.TrodAll enc Try.prog W 0 (fun _ => true) true Try.f7.params.toList args.toList ds p := hA0
  rw [Try.params7] at hA hval
  obtain ⟨v0, vs0, d0, ds0, p0, q0, hargs, rfl, rfl, h0, r0⟩ := trodAll_cons hA
  obtain ⟨v1, vs1, d1, ds1, p1, q1, rfl, rfl, rfl, h1, r1⟩ := trodAll_cons r0
  obtain ⟨rfl, rfl, rfl⟩ := trodAll_nil r1
  obtain rfl : args = #[v0, v1] := by cases args; simp_all
  obtain ⟨rfl, rfl⟩ := trodVars_none hV
  have lt0 : ∀ x ∈ p0, x.block < W.heap.size := by obtain ⟨m, hm⟩ := h0; exact DataW.trod_lt m _ _ _ hm
  have a0 := Arg.mk (hval 0 23 v0 rfl rfl) h0
  have lt1 : ∀ x ∈ p1, x.block < W.heap.size := by obtain ⟨m, hm⟩ := h1; exact DataW.trod_lt m _ _ _ hm
  have a1 := Arg.mk (hval 1 41 v1 rfl rfl) h1
  clear hA0 hval0
  refine (walk v0 v1 W a0 a1).mono fun e W' ⟨he, bel⟩ => ?_
  subst he
  exact ⟨_, rfl, _, _, _, [], _, [], hW', trodAll_mk1 (shut_bool Try.underlying4 _), (trodAll_cons_mk (Below.trod laidOut (by kernel_rfl) (of_decide_eq_true (by kernel_rfl)) h0 bel lt0) (trodAll_cons_mk (Below.trod laidOut (by kernel_rfl) (of_decide_eq_true (by kernel_rfl)) h1 bel lt1) trodAll_mk0)), rfl, bel.frame _, fun h => by cases h⟩

set_option maxRecDepth 100000 in
theorem over : Rows.waysSetsRow.holds Try.pinned (OpenSpec.ofChange Rows.waysSetsSpec) :=
  OpenClaim.holds_of_wide 7 Try.f7 rfl rfl rfl rfl rfl rfl rfl ⟨rfl, rfl, rfl, rfl, rfl⟩ rfl rfl rfl rfl rfl (by kernel_rfl) Try.func7 (by kernel_rfl)
    (of_decide_eq_true (by kernel_rfl)) (by unfold Func.isWrapper; first | (rw [if_pos (by decide +kernel)]; kernel_rfl) | (rw [if_neg (by decide +kernel)]; exact ⟨rfl, rfl⟩))
    (fun os started H enc _ => lifted os started H enc)

theorem proved : Rows.WaysSetsSaid := over
#print axioms proved
end Go.Proofs.Ytlpmikbplngmnaa.waysSets
