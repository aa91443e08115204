/- No block is in two slots, each in its own set; room is never made of a dirty slot; where all are dirty there is none, and cleaning one makes some; for all steps (up to 150) and all sizes. -/
import Derived.Test.YtlpmikbplngmnaaWdU
import Derived.Test.YtlpmikbplngmnaaWyAp
import Derived.Test.YtlpmikbplngmnaaMod
namespace Go.Proofs.Ytlpmikbplngmnaa.waysApart
open Go.ChangeShapes Go.WideShapes Go.ChangeAt Go.RowKit
set_option linter.unusedVariables false
open Go.Shelf Go.Lib
set_option linter.unusedSimpArgs false

set_option maxRecDepth 100000 in
set_option maxHeartbeats 4000000 in
theorem walk (v0 v1 : Value) (w : World) (w0 : Arg w 41 v0) (w1 : Arg w 23 v1) :
    Calls Try.prog 4 #[v0, v1] w fun e w' => e = .returned (.bool true) ∧ Below w.heap.size w w' := by
  have hmx : Try.prog.follows .mixedOrders = true := by kernel_rfl
  obtain ⟨a, b, rfl, wa, wb⟩ := w0.two Try.underlying41 Try.underlying5 (by kernel_rfl) (by kernel_rfl)
  obtain ⟨ha0, ha1⟩ := bounds_u8 wa
  obtain ⟨hb0, hb1⟩ := bounds_u8 wb
  obtain ⟨l, hst⟩ := w1.wts
  obtain ⟨la, cap, rfl, hl1, hl2, hl3, hl4⟩ := id hst
  obtain ⟨L, hL⟩ : ∃ L, l.length = L := ⟨_, rfl⟩
  obtain ⟨B, hB⟩ : ∃ B, w.heap.size = B := ⟨_, rfl⟩
  obtain ⟨W, hW⟩ : ∃ W, w.alloc (.cells #[.int .u8 a, .int .u8 b] 41) = W := ⟨_, rfl⟩
  have r : RowC W B 41 [.int .u8 a, .int .u8 b] := by rw [← hW, ← hB]; exact RowC.new _ _ _
  have HB : Hid (Below w.heap.size w W.drew) := by show Below w.heap.size w W.drew; rw [← hW]; exact (below_new _ _).drew
  have HSZ := Lib.hid hB
  have c0 := r.cell 0 _ rfl
  have c1 := r.cell 1 _ rfl
  have HST : Hid (Wts w (.slice la l.length cap) l) := hst
  have HLL := Lib.hid hL
  rw [hL] at hl1 HST ⊢
  obtain ⟨N, hN⟩ : ∃ N : Nat, 1 + a % 8 = (N : Int) := ⟨(1 + a % 8).toNat, by omega⟩
  obtain ⟨M, hM⟩ : ∃ M : Nat, 1 + b % 4 = (M : Int) := ⟨(1 + b % 4).toNat, by omega⟩
  have hN1 : 1 ≤ N := by omega
  have hN8 : N ≤ 8 := by omega
  have hM1 : 1 ≤ M := by omega
  have hM4 : M ≤ 4 := by omega
  have HLM : Hid (L ≤ maxLen) := Nat.le_trans hl1 hl2
  have HN1 := Lib.hid (WAt.new (w0 := w) HB.out N M hN1 hN8 hM1 hM4)
  clear wa wb w0 w1 hl1 hl2 hl3 hl4 hst r hL
  by_cases hlong : 150 < L
  · skip
    have g0 : decide (150 < (L : Int)) = true := by simp; omega
    clear hlong
    go_enter Try.func4, Try.ntmps4
    go_wp2_with fail
    refine region_plan (fun x => x = W.drew) 11 (.takes [0, 1, 2, 3, 4, 5, 6, 7, 8, 9, 10] .leaf) hmx (by kernel_rfl) (by intro c x v a w h; cases x <;> exact h) rfl ?_
    repeat (rw [wpPlan_takes_cons]; simp only [nth_zero, nth_succ]; go_big_quiet_step (fail); refine wpQuiet_nil ?_)
    rw [wpPlan_takes_nil, wpPlan_leaf]
    simp only [List.drop_succ_cons, List.drop_zero]
    clear c0 c1
    go_wp2_with fail
    refine HN1.out.mono ?_
    rintro e x ⟨q, rfl, h, -⟩
    have A1 := Lib.hid h.bel
    clear h
    unfold WPos.v
    go_wp2_with fail
    refine (ways_wakes _).mono ?_
    rintro e x2 ⟨rfl, h⟩
    have B2 := Lib.hid (A1.out.trans (h.mono A1.out.size))
    clear h
    go_wp2_with fail
    go_ret
    exact ⟨rfl, B2.out⟩
  · have g0 : decide (150 < (L : Int)) = false := by simp; omega
    have hL150 : L ≤ 150 := by omega
    have KS : Hid (∀ k, k < L → ∃ s : Wt, ∃ bb off, la = some ⟨bb, off, none⟩ ∧ s.Ok ∧ ∀ x : World, Below w.heap.size w x → WtAt x bb (off + k * 4) s) := fun k hk => by
      have hkl : k < l.length := by rw [HLL.out]; exact hk
      obtain ⟨bb, off, e1, e2, e3, e4⟩ := HST.out.open HLL.out (List.getElem?_eq_getElem hkl)
      exact ⟨_, bb, off, e1, e2, fun x hx => e4.below e3 hx⟩
    have HE0 : Hid ((mNew N M).ss.length = N ∧ (mNew N M).wy = M) := ⟨by simp [mNew], rfl⟩
    have hNM : N * M ≤ 32 := Nat.le_trans (Nat.mul_le_mul hN8 hM4) (by decide)
    have hNMi : (N : Int) * (M : Int) = ((N * M : Nat) : Int) := by simp
    obtain ⟨Z, hZ⟩ : ∃ Z, N * M = Z := ⟨_, rfl⟩
    rw [hZ] at hNMi hNM
    have HZ := Lib.hid hZ
    clear hlong hZ
    go_enter Try.func4, Try.ntmps4
    go_wp2_with fail
    refine region_plan (fun x => x = W.drew) 11 (.takes [0, 1, 2, 3, 4, 5, 6, 7, 8, 9, 10] .leaf) hmx (by kernel_rfl) (by intro c x v a w h; cases x <;> exact h) rfl ?_
    repeat (rw [wpPlan_takes_cons]; simp only [nth_zero, nth_succ]; go_big_quiet_step (fail); refine wpQuiet_nil ?_)
    rw [wpPlan_takes_nil, wpPlan_leaf]
    simp only [List.drop_succ_cons, List.drop_zero]
    clear c0 c1
    go_wp2_with fail
    refine HN1.out.mono ?_
    rintro e x ⟨q, rfl, h, -⟩
    have A1 := Lib.hid h
    clear h HN1
    unfold WPos.v
    go_wp2_with fail
    go_loopw [9] (fun iv wr => ∃ (k : Nat) (X : WM), k ≤ L ∧ iv = .int .i64 (k : Int) ∧ Hid (X.ss.length = N ∧ X.wy = M) ∧ Hid (WAt w wr q X)) (fun iv _ => L - (intOf iv).toNat)
    case atStart => exact ⟨0, _, Nat.zero_le _, rfl, HE0, A1⟩
    case round =>
      obtain ⟨k, X, hk, rfl, HX, HA⟩ := hrel
      clear A1 HE0
      by_cases hlt : k < L
      · have g1 : (k : Int) < (L : Int) := by omega
        have HLT := Lib.hid hlt
        obtain ⟨s, bb, off, rfl, hok, hsx⟩ := KS.out k hlt
        obtain ⟨n, hn⟩ : ∃ n, modI s.block 40 = n := ⟨_, rfl⟩
        have hn0 : 0 ≤ n := by rw [← hn]; exact (modI_bd (by decide)).1
        have hn1 : n < 40 := by rw [← hn]; exact (modI_bd (by decide)).2
        have HMod : Hid (∀ x : World, Calls Try.prog 26 #[.int .i64 s.block, .int .i64 40] x fun e w' => e = .returned (.int .i64 n) ∧ w' = x) := fun x => by rw [← hn]; exact mod_any _ _ x (by decide)
        have HSX := Lib.hid hsx
        have d1 := (HSX.out _ HA.out.bel).c1
        clear hsx hn hok hlt
        have hsize : Hid (X.size = Z) := by show X.ss.length * X.wy = Z; rw [HX.out.1, HX.out.2]; exact HZ.out
        go_wp2_with fail
        refine (HMod.out _).mono ?_
        rintro e x3 ⟨rfl, rfl⟩
        clear d1
        go_wp2_with fail
        refine HA.out.dirtyU.mono ?_
        rintro e y ⟨ug, uc, cur, rfl, hcur, huc1, huc2, h⟩
        rw [hsize.out] at hcur huc1 ⊢
        have HCur := Lib.hid hcur
        have HUC : Hid (Z ≤ uc ∧ uc ≤ maxLen) := ⟨huc1, huc2⟩
        have A1 := Lib.hid h
        clear h HA hcur huc1 huc2
        obtain ⟨o, hO⟩ : ∃ o, mFind X n = o := ⟨_, rfl⟩
        have HF := Lib.hid (A1.out.find n (by omega))
        rw [hO, opP_eq] at HF
        go_wp2_with fail
        refine HF.out.mono ?_
        rintro e y2 ⟨rfl, h⟩
        have A2 := Lib.hid h
        clear h HF A1
        go_upto_if 91 with (fail)
        go_cut [] from 65 to 236 (fun wx => ∃ X1 : WM, Hid (WAt w wx q X1) ∧ Hid (X1.ss.length = N ∧ X1.wy = M) ∧ Hid (∃ kf, mFind X1 n = some kf))
        case rest =>
          skip
          obtain ⟨X1, B1, B2, ⟨kf, hkf⟩⟩ := hcut
          have HF := Lib.hid (B1.out.find n (by omega))
          rw [hkf] at HF
          have hok := B1.out.ok
          have hz1 : X1.size = Z := by show X1.ss.length * X1.wy = Z; rw [B2.out.1, B2.out.2]; exact HZ.out
          have HOne : Hid (∀ x y, x < Z → y < Z → x ≠ y → (bkOf X1 (x : Int)).2.2 = true → (bkOf X1 (y : Int)).2.2 = true → (bkOf X1 (x : Int)).1 ≠ (bkOf X1 (y : Int)).1) := fun x y hx hy hne e1 e2 => by
            obtain ⟨a1, a2⟩ := ap_bk hok (by rw [hz1]; exact hx) e1
            obtain ⟨b1, b2⟩ := ap_bk hok (by rw [hz1]; exact hy) e2
            rw [a1, b1]
            exact ap_one hok (by rw [hz1]; exact hx) (by rw [hz1]; exact hy) hne a2
          have HOwn : Hid (∀ x, x < Z → (bkOf X1 (x : Int)).2.2 = true → 0 ≤ (bkOf X1 (x : Int)).1 ∧ (bkOf X1 (x : Int)).1 % (N : Int) = ((x / M : Nat) : Int)) := fun x hx e1 => by
            obtain ⟨a1, a2⟩ := ap_bk hok (by rw [hz1]; exact hx) e1
            have := ap_own hok (by rw [hz1]; exact hx) a2
            rw [B2.out.1, B2.out.2] at this
            rw [a1]
            exact ⟨by omega, this⟩
          clear hkf hok hz1
          go_wp2_with fail
          refine HF.out.mono ?_
          rintro e y3 ⟨rfl, h⟩
          have C1 := Lib.hid h
          clear h HF B1
          unfold opP
          go_wp2_with fail
          go_loopw [21] (fun iv wr2 => ∃ j : Nat, j ≤ Z ∧ iv = .int .i64 (j : Int) ∧ Hid (WAt w wr2 q X1)) (fun iv _ => Z - (intOf iv).toNat)
          case atStart => exact ⟨0, Nat.zero_le _, rfl, C1⟩
          case round =>
            clear C1
            obtain ⟨j, hj, rfl, C1⟩ := hrel
            by_cases hlt2 : j < Z
            · have g2 : (j : Int) < (Z : Int) := by omega
              have HLT2 := Lib.hid hlt2
              obtain ⟨⟨b1, b2, b3⟩, hb⟩ : ∃ b, bkOf X1 (j : Int) = b := ⟨_, rfl⟩
              have HBk := Lib.hid (C1.out.block (j : Int))
              have KO1 : Hid (∀ i, i < j → b3 = true → (bkOf X1 (i : Int)).2.2 = true → b1 ≠ (bkOf X1 (i : Int)).1) := fun i hi e1 e2 => by
                have := HOne.out j i hlt2 (by omega) (by omega) (by rw [hb]; exact e1) e2
                rw [hb] at this
                exact this
              have KO2 : Hid (b3 = true → 0 ≤ b1 ∧ b1 % (N : Int) = ((j / M : Nat) : Int)) := fun e1 => by
                have := HOwn.out j hlt2 (by rw [hb]; exact e1)
                rw [hb] at this
                exact this
              rw [hb] at HBk
              obtain ⟨Q, hQ⟩ : ∃ Q, j / M = Q := ⟨_, rfl⟩
              have hQi : (j : Int) / (M : Int) = (Q : Int) := by rw [← hQ]; simp
              have hQl : Q ≤ j := by rw [← hQ]; exact Nat.div_le_self _ _
              rw [hQ] at KO2
              have hj32 : j < 32 := by omega
              clear hlt2 hb hQ
              go_wp2_with fail
              refine HBk.out.mono ?_
              rintro e y4 ⟨rfl, h, -⟩
              have C2 := Lib.hid h
              clear h HBk C1
              go_wp2_with fail
              go_loopw [25] (fun iv wr3 => ∃ i : Nat, i ≤ j ∧ iv = .int .i64 (i : Int) ∧ Hid (WAt w wr3 q X1)) (fun iv _ => j - (intOf iv).toNat)
              case atStart => exact ⟨0, Nat.zero_le _, rfl, C2⟩
              case round =>
                clear C2
                obtain ⟨i, hi, rfl, C2⟩ := hrel
                by_cases hlt3 : i < j
                · have g3 : (i : Int) < (j : Int) := by omega
                  have HLT3 := Lib.hid hlt3
                  obtain ⟨⟨f1, f2, f3⟩, hf⟩ : ∃ b, bkOf X1 (i : Int) = b := ⟨_, rfl⟩
                  have HBk := Lib.hid (C2.out.block (i : Int))
                  have hone := KO1.out i hlt3
                  rw [hf] at HBk hone
                  simp only at hone
                  clear hlt3 hf
                  by_cases h3 : b3 = true ∧ f3 = true
                  · obtain ⟨rfl, rfl⟩ := h3
                    have q1 : (b1 == f1) = false := by simpa using hone rfl rfl
                    clear hone
                    go_wp2_with fail
                    refine HBk.out.mono ?_
                    rintro e y5 ⟨rfl, h, -⟩
                    have C3 := Lib.hid h
                    clear h HBk
                    go_wp2_with fail
                    exact ⟨⟨i + 1, HLT3.out, by simp, C3⟩, by have := HLT3.out; simp [intOf]; omega⟩
                  · clear hone
                    have q0 : b3 = false ∨ (b3 = true ∧ f3 = false) := by
                      cases b3
                      · exact .inl rfl
                      · right
                        refine ⟨rfl, ?_⟩
                        cases f3
                        · rfl
                        · exact absurd ⟨rfl, rfl⟩ h3
                    clear h3
                    rcases q0 with rfl | ⟨rfl, rfl⟩
                    · go_wp2_with fail
                      refine HBk.out.mono ?_
                      rintro e y5 ⟨rfl, h, -⟩
                      have C3 := Lib.hid h
                      clear h HBk
                      go_wp2_with fail
                      exact ⟨⟨i + 1, HLT3.out, by simp, C3⟩, by have := HLT3.out; simp [intOf]; omega⟩
                    · go_wp2_with fail
                      refine HBk.out.mono ?_
                      rintro e y5 ⟨rfl, h, -⟩
                      have C3 := Lib.hid h
                      clear h HBk
                      go_wp2_with fail
                      exact ⟨⟨i + 1, HLT3.out, by simp, C3⟩, by have := HLT3.out; simp [intOf]; omega⟩
                · obtain rfl : i = j := by omega
                  clear hlt3
                  have C3 : Hid (WAt w wr.drew q X1) := C2.out.below ((Below.refl _ _).drew)
                  cases b3 with
                  | true =>
                    obtain ⟨k1, k2⟩ := KO2.out rfl
                    clear KO1 KO2 C2
                    go_wp2_with fail
                    refine region_plan (fun x => x = wr.drew) 9 (.takes [0, 1, 2, 3, 4, 5, 6, 7, 8] .leaf) hmx (by kernel_rfl) (by intro c x v a w h; cases x <;> exact h) rfl ?_
                    repeat (rw [wpPlan_takes_cons]; simp only [nth_zero, nth_succ]; go_big_quiet_step (fail); try (with_reducible refine wpQuiet_nil ?_))
                    rw [wpPlan_takes_nil, wpPlan_leaf]
                    simp only [List.drop_succ_cons, List.drop_zero]
                    go_wp2_with fail
                    exact ⟨⟨i + 1, HLT2.out, by simp, C3⟩, by have := HLT2.out; simp [intOf]; omega⟩
                  | false =>
                    clear KO1 KO2 C2
                    go_wp2_with fail
                    refine region_plan (fun x => x = wr.drew) 9 (.takes [0, 1, 2, 3, 4, 5, 6, 7, 8] .leaf) hmx (by kernel_rfl) (by intro c x v a w h; cases x <;> exact h) rfl ?_
                    repeat (rw [wpPlan_takes_cons]; simp only [nth_zero, nth_succ]; go_big_quiet_step (fail); try (with_reducible refine wpQuiet_nil ?_))
                    rw [wpPlan_takes_nil, wpPlan_leaf]
                    simp only [List.drop_succ_cons, List.drop_zero]
                    go_wp2_with fail
                    exact ⟨⟨i + 1, HLT2.out, by simp, C3⟩, by have := HLT2.out; simp [intOf]; omega⟩
            · obtain rfl : j = Z := by omega
              clear hlt2
              go_wp2_with fail
              exact ⟨⟨k + 1, X1, HLT.out, by simp, B2, C1⟩, by have := HLT.out; simp [intOf]; omega⟩
        case first =>
          skip
          have hok := A2.out.at.ok
          have hof : n % (N : Int) = (X.of n : Int) := by rw [← HX.out.1]; exact of_eq hok.st1 n
          have hofl : X.of n < N := by have := of_lt hok.st1 n; rw [HX.out.1] at this; exact this
          cases o with
          | some i =>
            skip
            have hfs := find_some hok hO
            have d3 := (HSX.out _ A2.out.bel).c3
            have HP := Lib.hid (A2.out.at.put (i : Int) n s.dirty (by omega))
            have HX2 : Hid ((mPut X (i : Int) n s.dirty).ss.length = N ∧ (mPut X (i : Int) n s.dirty).wy = M) := by
              have := ap_put_st X (i : Int) n s.dirty
              exact ⟨this.1.trans HX.out.1, this.2.trans HX.out.2⟩
            have HFd : Hid (∃ kf, mFind (mPut X (i : Int) n s.dirty) n = some kf) := ap_put hok hn0 hfs.2.1 hfs.2.2.2 (.inr hO) s.dirty
            simp only [opN, Option.isSome_some]
            clear hO hfs hof hofl hok
            go_wp2_with fail
            refine HP.out.mono ?_
            rintro e y3 ⟨rfl, h⟩
            have A3 := Lib.hid h
            clear h
            go_wp2_with fail
            go_meet
            case rel => exact ⟨_, A3, HX2, HFd⟩
          | none =>
            obtain ⟨o2, hO2⟩ : ∃ o, (mRoom X n).1 = o := ⟨_, rfl⟩
            have hni := (noin_find hok hn0).2 hO
            have HR := Lib.hid (A2.out.room n (by omega))
            rw [hO2, opP_eq] at HR
            simp only [opN, Option.isSome_none]
            clear hO
            go_wp2_with fail
            refine HR.out.mono ?_
            rintro e y3 ⟨rfl, h⟩
            have A3 := Lib.hid h
            clear h HR
            go_upto_if 108 with (fail)
            go_cut [14] from 65 to 236 (fun s14 wx => ∃ (i : Nat) (Xr : WM), s14 = .int .i64 (i : Int) ∧ Hid (WAt w wx q Xr) ∧ Hid (Xr.ss.length = N ∧ Xr.wy = M) ∧ Hid (i < Z ∧ ((i / M : Nat) : Int) = n % (N : Int)) ∧ Hid (∃ kf, mFind (mPut Xr (i : Int) n s.dirty) n = some kf))
            case rest =>
              skip
              obtain ⟨i, Xr, rfl, B1, B2, B3, B4⟩ := hcut
              have hiZ := B3.out.1
              have hiq := B3.out.2
              obtain ⟨Q, hQ⟩ : ∃ Q, i / M = Q := ⟨_, rfl⟩
              have hQi : (i : Int) / (M : Int) = (Q : Int) := by rw [← hQ]; simp
              have hQl : Q ≤ i := by rw [← hQ]; exact Nat.div_le_self _ _
              rw [hQ] at hiq
              have hiq2 : n % (N : Int) = (Q : Int) := hiq.symm
              have e1 : decide ((i : Int) < 0) = false := by simp
              have e2 : decide ((Z : Int) ≤ (i : Int)) = false := by simp; omega
              have e3 : decide (Z ≤ i) = false := by simp; omega
              have HP := Lib.hid (fun (x : World) (hx : WAt w x q Xr) => hx.put (i : Int) n s.dirty (by omega))
              have HX2 : Hid ((mPut Xr (i : Int) n s.dirty).ss.length = N ∧ (mPut Xr (i : Int) n s.dirty).wy = M) := by
                have := ap_put_st Xr (i : Int) n s.dirty
                exact ⟨this.1.trans B2.out.1, this.2.trans B2.out.2⟩
              have B1d : Hid (WAt w wc.drew q Xr) := B1.out.below ((Below.refl _ _).drew)
              have d3 := (HSX.out _ B1d.out.bel).c3
              clear hQ hiq hof hofl hO2 hni hok
              go_wp2_with fail
              refine region_plan (fun x => x = wc.drew) 16 (.takes [0, 1, 2, 3, 4, 5, 6, 7, 8, 9, 10, 11, 12, 13, 14, 15] .leaf) hmx (by kernel_rfl) (by intro c x v a w h; cases x <;> exact h) rfl ?_
              repeat (rw [wpPlan_takes_cons]; simp only [nth_zero, nth_succ]; go_big_quiet_step (fail); try (with_reducible refine wpQuiet_nil ?_))
              rw [wpPlan_takes_nil, wpPlan_leaf]
              simp only [List.drop_succ_cons, List.drop_zero]
              go_wp2_with fail
              refine (HP.out _ B1d.out).mono ?_
              rintro e y4 ⟨rfl, h⟩
              have A4 := Lib.hid h
              clear h
              go_wp2_with fail
              go_meet
              case rel => exact ⟨_, A4, HX2, B4⟩
            case first =>
              cases o2 with
              | some i =>
                skip
                have hra := room_at hok hn0 hO2
                have HX2 : Hid ((mRoom X n).2.ss.length = N ∧ (mRoom X n).2.wy = M) := by
                  have := ap_room_st X n
                  exact ⟨this.1.trans HX.out.1, this.2.trans HX.out.2⟩
                have HI : Hid (i < Z ∧ ((i / M : Nat) : Int) = n % (N : Int)) := by
                  have h1 := hra.1
                  have h2 := hra.2
                  rw [hsize.out] at h1
                  rw [HX.out.2] at h2
                  exact ⟨h1, by rw [h2, hof]⟩
                have HFd : Hid (∃ kf, mFind (mPut (mRoom X n).2 (i : Int) n s.dirty) n = some kf) := ap_room_put hok hn0 hni hO2 s.dirty
                have A4 := Lib.hid A3.out.at
                simp only [opN, Option.isSome_some]
                clear hra hO2 hni hof hofl hok
                go_wp2_with fail
                go_meet
                case rel => exact ⟨i, _, rfl, A4, HX2, HI, HFd⟩
              | none =>
                skip
                obtain ⟨v, v1, v2, v3, v4⟩ := full_dirt hok hn0 hO2
                have hsX := full_same hok hn0 hO2
                have hdst := ap_dirt_st X n
                have hof2 : (mDirt X n).2.of n = X.of n := by unfold WM.of; rw [hdst.1]
                rw [HX.out.2] at v1 v2 v3 v4
                obtain ⟨so, hso⟩ : ∃ so, X.of n = so := ⟨_, rfl⟩
                rw [hso] at v2 v3 v4 hof hofl
                obtain ⟨V, hV⟩ : ∃ V, so * M + v = V := ⟨_, rfl⟩
                rw [hV] at v2 v4
                have hVq : V / M = so := by rw [← hV]; exact at_div v1
                have hVi : (V : Int) / (M : Int) = (so : Int) := by rw [← hVq]; simp
                have hVZ : V < Z := by rw [← hV, ← HZ.out]; exact at_lt hofl v1
                have hVle : V ≤ 32 := by omega
                rw [hsX] at A3
                have HD := Lib.hid (A3.out.dirtiest n (by omega))
                rw [v2] at HD
                have KU : Hid (∀ (x : World), WU w x q (mDirt X n).2 ug cur → ∀ j, j < M → ∃ z : Int, 0 ≤ z ∧ x.cell? ⟨ug, so * M + j, none⟩ = some (.int .i64 z)) := fun x hx j hj => by
                  obtain ⟨e1, e2⟩ := v3 j hj
                  have hjz : so * M + j < Z := by rw [← HZ.out]; exact at_lt hofl hj
                  have hsl : X.of n < X.ss.length := of_lt hok.st1 n
                  have hd := ap_dirty hsl (w := j) (by rw [HX.out.2]; exact hj)
                  rw [hso, HX.out.2, e1] at hd
                  refine ⟨((X.set so).slot j).b, e2, ?_⟩
                  rw [hx.cell, ← Array.getElem?_toList]
                  have ht : (cur.toList.take Z)[so * M + j]? = ((mDirty X).map (Value.int .i64))[so * M + j]? := by rw [HCur.out]
                  rw [List.getElem?_take, if_pos hjz, List.getElem?_map, hd] at ht
                  exact ht
                have HCl : Hid (∀ x, WU w x q (mDirt X n).2 ug cur → Calls Try.prog 21 #[q.v, .int .i64 (V : Int)] x fun e w' => e = .returned (.tuple #[]) ∧ WAt w w' q (mClean (mDirt X n).2 (V : Int))) := fun x hx => hx.at.clean (V : Int)
                have HRm : Hid (∀ x, WAt w x q (mClean (mDirt X n).2 (V : Int)) → Calls Try.prog 11 #[q.v, .int .i64 n] x fun e w' => e = .returned (.tuple #[.int .i64 (V : Int), .bool true]) ∧ WAt w w' q (mRoom (mClean (mDirt X n).2 (V : Int)) n).2) := fun x hx => by
                  have := hx.room n (by omega)
                  rw [v4] at this
                  exact this
                have hcst := ap_clean_st (mDirt X n).2 (V : Int)
                have hrst := ap_room_st (mClean (mDirt X n).2 (V : Int)) n
                have HX2 : Hid ((mRoom (mClean (mDirt X n).2 (V : Int)) n).2.ss.length = N ∧ (mRoom (mClean (mDirt X n).2 (V : Int)) n).2.wy = M) :=
                  ⟨hrst.1.trans (hcst.1.trans (hdst.1.trans HX.out.1)), hrst.2.trans (hcst.2.trans (hdst.2.trans HX.out.2))⟩
                have HI : Hid (V < Z ∧ ((V / M : Nat) : Int) = n % (N : Int)) := ⟨hVZ, by rw [hVq, hof]⟩
                have HFd : Hid (∃ kf, mFind (mPut (mRoom (mClean (mDirt X n).2 (V : Int)) n).2 (V : Int) n s.dirty) n = some kf) := ap_room_put ((hok.dirt n).clean _) hn0 (noin_clean (hok.dirt n) (noin_dirt hok hn0 hni) _) v4 s.dirty
                simp only [opN, Option.isSome_none]
                clear hO2 hni hok v2 v3 v4 hsX hdst hof2 hso hV hVq hcst hrst
                go_wp2_with fail
                refine HD.out.mono ?_
                rintro e y4 ⟨rfl, h⟩
                have A4 := Lib.hid h
                clear h HD
                unfold opP
                go_wp2_with fail
                refine region_plan (fun x => x = y4.drew) 10 (.takes [0, 1, 2, 3, 4, 5, 6, 7, 8, 9] .leaf) hmx (by kernel_rfl) (by intro c x v a w h; cases x <;> exact h) rfl ?_
                repeat (rw [wpPlan_takes_cons]; simp only [nth_zero, nth_succ]; go_big_quiet_step (fail); try (with_reducible refine wpQuiet_nil ?_))
                rw [wpPlan_takes_nil, wpPlan_leaf]
                simp only [List.drop_succ_cons, List.drop_zero]
                have A5 : Hid (WU w y4.drew q (mDirt X n).2 ug cur) := ⟨A4.out.1, WP.below (WyG.isRes _ _ _ _ _ _ _ _) (RowR.isRes _ _ _) A4.out.2 ((Below.refl _ _).drew)⟩
                have hsm : so * M + M ≤ Z := by
                  rw [← HZ.out]
                  calc so * M + M = (so + 1) * M := by rw [Nat.add_mul, Nat.one_mul]
                    _ ≤ N * M := Nat.mul_le_mul_right _ hofl
                clear A4
                go_wp2_with fail
                go_loopw [18] (fun iv wr2 => ∃ j : Nat, j ≤ M ∧ iv = .int .i64 (j : Int) ∧ Hid (WU w wr2 q (mDirt X n).2 ug cur)) (fun iv _ => M - (intOf iv).toNat)
                case atStart => exact ⟨0, Nat.zero_le _, rfl, A5⟩
                case round =>
                  obtain ⟨j, hj, rfl, A6⟩ := hrel
                  by_cases hlt3 : j < M
                  · have g3 : (j : Int) < (M : Int) := by omega
                    have HLT3 := Lib.hid hlt3
                    obtain ⟨z, hz0, hz1⟩ := KU.out _ A6.out j hlt3
                    have g4 : decide (z < 0) = false := by simpa using hz0
                    clear hlt3 hz0
                    go_wp2_with fail
                    exact ⟨⟨j + 1, HLT3.out, by simp, A6⟩, by have := HLT3.out; simp [intOf]; omega⟩
                  · obtain rfl : j = M := by omega
                    clear hlt3
                    go_wp2_with fail
                    refine (HCl.out _ A6.out).mono ?_
                    rintro e y5 ⟨rfl, h⟩
                    have A7 := Lib.hid h
                    clear h
                    go_wp2_with fail
                    refine (HRm.out _ A7.out).mono ?_
                    rintro e y6 ⟨rfl, h⟩
                    have A8 := Lib.hid h
                    clear h
                    go_wp2_with fail
                    go_meet
                    case rel => exact ⟨V, _, rfl, A8, HX2, HI, HFd⟩
      · skip
        obtain rfl : k = L := by omega
        clear hlt
        go_wp2_with fail
        refine (ways_wakes _).mono ?_
        rintro e y ⟨rfl, h⟩
        have B2 := Lib.hid (HA.out.bel.trans (h.mono HA.out.bel.size))
        clear h
        go_wp2_with fail
        go_ret
        exact ⟨rfl, B2.out⟩

set_option maxRecDepth 100000 in
theorem lifted (os : Os) (started : os.Started) (H : Type) (enc : TypeId × Value → H) :
    ReturnsInHanded {} Try.checked os 4 .any (Rows.waysApartSpec.pre6 enc Try.prog Try.f4 Rows.waysApartRow.domain false) (Rows.waysApartSpec.post enc Try.prog Try.f4 false true false false) := by
  refine returnsInHanded_of_change (C := Try.checked) own started (by kernel_rfl) Try.func4
    (ChangeSpec.witness6 (enc := enc) (C := Try.checked) false ⟨#[], #[.agg #[.int .u8 0, .int .u8 0], .slice none 0 0], []⟩ 8 (by kernel_rfl) (by kernel_rfl) (by kernel_rfl) (by kernel_rfl)) ?_
  intro W base args ds gs before hval0 hW hcnd _
  have hval : ∀ (j : Nat) t v, Try.f4.params[j]? = some t → args[j]? = some v → Value.okWide Try.prog W .any base t v := hval0
  have hW' := hW
  obtain ⟨p, q, hA0, hV, rfl, hfz, hnd⟩ := hW
  have hA : DataW.TrodAll enc Try.prog W 0 (fun _ => true) true Try.f4.params.toList args.toList ds p := hA0
  rw [Try.params4] at hA hval
  obtain ⟨v0, vs0, d0, ds0, p0, q0, hargs, rfl, rfl, h0, r0⟩ := trodAll_cons hA
  obtain ⟨v1, vs1, d1, ds1, p1, q1, rfl, rfl, rfl, h1, r1⟩ := trodAll_cons r0
  obtain ⟨rfl, rfl, rfl⟩ := trodAll_nil r1
  obtain rfl : args = #[v0, v1] := by cases args; simp_all
  obtain ⟨rfl, rfl⟩ := trodVars_none hV
  have lt0 : ∀ x ∈ p0, x.block < W.heap.size := by obtain ⟨m, hm⟩ := h0; exact DataW.trod_lt m _ _ _ hm
  have a0 := Arg.mk (hval 0 41 v0 rfl rfl) h0
  have lt1 : ∀ x ∈ p1, x.block < W.heap.size := by obtain ⟨m, hm⟩ := h1; exact DataW.trod_lt m _ _ _ hm
  have a1 := Arg.mk (hval 1 23 v1 rfl rfl) h1
  clear hA0 hval0
  refine (walk v0 v1 W a0 a1).mono fun e W' ⟨he, bel⟩ => ?_
  subst he
  exact ⟨_, rfl, _, _, _, [], _, [], hW', trodAll_mk1 (shut_bool Try.underlying4 _), (trodAll_cons_mk (Below.trod laidOut (by kernel_rfl) (of_decide_eq_true (by kernel_rfl)) h0 bel lt0) (trodAll_cons_mk (Below.trod laidOut (by kernel_rfl) (of_decide_eq_true (by kernel_rfl)) h1 bel lt1) trodAll_mk0)), rfl, bel.frame _, fun h => by cases h⟩

set_option maxRecDepth 100000 in
theorem over : Rows.waysApartRow.holds Try.pinned (OpenSpec.ofChange Rows.waysApartSpec) :=
  OpenClaim.holds_of_wide 4 Try.f4 rfl rfl rfl rfl rfl rfl rfl ⟨rfl, rfl, rfl, rfl, rfl⟩ rfl rfl rfl rfl rfl (by kernel_rfl) Try.func4 (by kernel_rfl)
    (of_decide_eq_true (by kernel_rfl)) (by unfold Func.isWrapper; first | (rw [if_pos (by decide +kernel)]; kernel_rfl) | (rw [if_neg (by decide +kernel)]; exact ⟨rfl, rfl⟩))
    (fun os started H enc _ => lifted os started H enc)

theorem proved : Rows.WaysApartSaid := over
#print axioms proved
end Go.Proofs.Ytlpmikbplngmnaa.waysApart
