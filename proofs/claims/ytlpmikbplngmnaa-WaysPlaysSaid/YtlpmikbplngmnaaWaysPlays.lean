/- Blocks that come into slots, are found, cleaned, dropped, one behind the other: each answer and each slot as the document's map has it; for all sizes and all steps (up to 200 of them). -/
import Derived.Test.YtlpmikbplngmnaaWdQR
import Derived.Test.YtlpmikbplngmnaaWdS
import Derived.Test.YtlpmikbplngmnaaMod
namespace Go.Proofs.Ytlpmikbplngmnaa.waysPlays
open Go.ChangeShapes Go.WideShapes Go.ChangeAt Go.RowKit
set_option linter.unusedVariables false
open Go.Shelf Go.Lib
set_option linter.unusedSimpArgs false

set_option maxRecDepth 100000 in
set_option maxHeartbeats 8000000 in
theorem walk (v0 v1 : Value) (w : World) (w0 : Arg w 22 v0) (w1 : Arg w 23 v1) :
    Calls Try.prog 3 #[v0, v1] w fun e w' => e = .returned (.bool true) ∧ Below w.heap.size w w' := by
  obtain ⟨a, b, rfl, wa, wb⟩ := w0.two Try.underlying22 Try.underlying3 (by kernel_rfl) (by kernel_rfl)
  obtain ⟨ha0, ha1⟩ := bounds_i64 wa
  obtain ⟨hb0, hb1⟩ := bounds_i64 wb
  obtain ⟨l, hst⟩ := w1.wts
  obtain ⟨la, cap, rfl, hl1, hl2, hl3, hl4⟩ := id hst
  obtain ⟨L, hL⟩ : ∃ L, l.length = L := ⟨_, rfl⟩
  obtain ⟨B, hB⟩ : ∃ B, w.heap.size = B := ⟨_, rfl⟩
  obtain ⟨W, hW⟩ : ∃ W, w.alloc (.cells #[.int .i64 a, .int .i64 b] 22) = W := ⟨_, rfl⟩
  have r : RowC W B 22 [.int .i64 a, .int .i64 b] := by rw [← hW, ← hB]; exact RowC.new _ _ _
  have HB : Hid (Below w.heap.size w W) := by show Below w.heap.size w W; rw [← hW]; exact below_new _ _
  have HSZ := Lib.hid hB
  have c0 := r.cell 0 _ rfl
  have c1 := r.cell 1 _ rfl
  have HR := Lib.hid r
  have HST : Hid (Wts w (.slice la l.length cap) l) := hst
  have HLL := Lib.hid hL
  rw [hL] at hl1 HST ⊢
  have HLM : Hid (L ≤ maxLen) := Nat.le_trans hl1 hl2
  clear wa wb w0 w1 hl1 hl2 hl3 hl4 hst r hL
  by_cases hlong : 200 < L
  · skip
    have g0 : decide (200 < (L : Int)) = true := by simp; omega
    clear hlong c0 c1
    go_enter Try.func3, Try.ntmps3
    go_wp2_with fail
    refine (ways_wakes _).mono ?_
    rintro e x ⟨rfl, h⟩
    have B2 := Lib.hid (HB.out.trans (h.mono HB.out.size))
    clear h
    go_wp2_with fail
    go_ret
    exact ⟨rfl, B2.out⟩
  · have g0 : decide (200 < (L : Int)) = false := by simp; omega
    have hL200 : L ≤ 200 := by omega
    clear hlong
    by_cases hgood : 1 ≤ a ∧ a ≤ 8 ∧ 1 ≤ b ∧ b ≤ 4
    · obtain ⟨N, rfl⟩ : ∃ N : Nat, a = (N : Int) := ⟨a.toNat, by omega⟩
      obtain ⟨M, rfl⟩ : ∃ M : Nat, b = (M : Int) := ⟨b.toNat, by omega⟩
      have hN1 : 1 ≤ N := by omega
      have hN8 : N ≤ 8 := by omega
      have hM1 : 1 ≤ M := by omega
      have hM4 : M ≤ 4 := by omega
      have HN1 := Lib.hid (WAt.new (w0 := w) HB.out N M hN1 hN8 hM1 hM4)
      have HN2 : Hid (∀ p x, WAt w x p (mNew N M) → Calls Try.prog 10 #[.int .i64 (N : Int), .int .i64 (M : Int)] x fun e w' => ∃ q : WPos, e = .returned (.tuple #[q.v, .int .i64 0]) ∧ W3 w w' p q (mNew N M) (mNew N M) NoR) := fun p x h => W3.new h N M hN1 hN8 hM1 hM4
      have HO0 : Hid (WmOk (mNew N M)) := new_ok hN1 hN8 hM1 hM4
      have KS : Hid (∀ k, k < L → ∃ s : Wt, ∃ bb off, la = some ⟨bb, off, none⟩ ∧ s.Ok ∧ ∀ x : World, Below w.heap.size w x → WtAt x bb (off + k * 4) s) := fun k hk => by
        have hkl : k < l.length := by rw [HLL.out]; exact hk
        obtain ⟨bb, off, e1, e2, e3, e4⟩ := HST.out.open HLL.out (List.getElem?_eq_getElem hkl)
        exact ⟨_, bb, off, e1, e2, fun x hx => e4.below e3 hx⟩
      clear ha0 ha1 hb0 hb1 hgood hN1 hN8 hM1 hM4 HB
      go_enter Try.func3, Try.ntmps3
      go_wp2_with fail
      refine HN1.out.mono ?_
      rintro e x ⟨p, rfl, h, hWx⟩
      have A1 := Lib.hid h
      have d0 := (HR.out.below hWx).cell 0 _ rfl
      have d1 := (HR.out.below hWx).cell 1 _ rfl
      clear h hWx HN1 c0 c1
      unfold WPos.v
      go_wp2_with fail
      refine (HN2.out p x A1.out).mono ?_
      rintro e x2 ⟨q, rfl, h⟩
      have A2 := Lib.hid h
      clear h A1 HN2 d0 d1
      unfold WPos.v
      go_wp2_with fail
      go_loopw [9] (fun iv wr => ∃ (k : Nat) (X : WM), k ≤ L ∧ iv = .int .i64 (k : Int) ∧ Hid (WmOk X) ∧ Hid (W3 w wr p q X X NoR)) (fun iv _ => L - (intOf iv).toNat)
      case atStart => exact ⟨0, _, Nat.zero_le _, rfl, HO0, A2⟩
      case round =>
        clear A2 HO0
        obtain ⟨k, X, hk, rfl, HO, HA⟩ := hrel
        by_cases hlt : k < L
        · have g1 : (k : Int) < (L : Int) := by omega
          have HLT := Lib.hid hlt
          obtain ⟨s, bb, off, rfl, hok, hsx⟩ := KS.out k hlt
          obtain ⟨kd, bl, sl, dy⟩ := s
          have hbl : bl ≤ 9223372036854775807 := hok.b1
          obtain ⟨d0, d1, d2, d3⟩ := hsx _ HA.out.bel
          simp only at d0 d1 d2 d3
          obtain ⟨C, hC⟩ : ∃ C, wr.heap.size = C := ⟨_, rfl⟩
          obtain ⟨Y, hY⟩ : ∃ Y, wr.alloc (.cells #[.int .i64 kd, .int .i64 bl, .int .i64 sl, .bool dy] 33) = Y := ⟨_, rfl⟩
          have hbY : Below wr.heap.size wr Y := by rw [← hY]; exact below_new _ _
          have hrY : RowC Y C 33 [.int .i64 kd, .int .i64 bl, .int .i64 sl, .bool dy] := by rw [← hY, ← hC]; exact RowC.new _ _ _
          have HA2 : Hid (W3 w Y p q X X (RowR C [.int .i64 kd, .int .i64 bl, .int .i64 sl, .bool dy].toArray 33)) := W3.beside HA.out hbY (by omega) hrY
          have hT : IsRes (RowR C [.int .i64 kd, .int .i64 bl, .int .i64 sl, .bool dy].toArray 33) := RowR.isRes _ _ _
          obtain ⟨T, hTd⟩ : ∃ T, RowR C [.int .i64 kd, .int .i64 bl, .int .i64 sl, .bool dy].toArray 33 = T := ⟨_, rfl⟩
          have KC : Hid (∀ (x : World) (X1 X2 : WM), W3 w x p q X1 X2 T → x.cell? ⟨C, 0, none⟩ = some (.int .i64 kd) ∧ x.cell? ⟨C, 1, none⟩ = some (.int .i64 bl) ∧ x.cell? ⟨C, 2, none⟩ = some (.int .i64 sl) ∧ x.cell? ⟨C, 3, none⟩ = some (.bool dy)) := fun x X1 X2 hx => by
            rw [← hTd] at hx
            exact ⟨hx.cell 0, hx.cell 1, hx.cell 2, hx.cell 3⟩
          rw [hTd] at HA2 hT
          have HTT := Lib.hid hT
          clear hsx hok hbY hrY hT hTd hlt HA
          obtain ⟨e0, e1, e2, e3⟩ := KC.out Y _ _ HA2.out
          go_upto_block 2 with (fail)
          go_cut [11, 12, 13] from 44 to 211 (fun s11 s12 s13 wx => ∃ (X1 : WM) (a b : Int) (z : Bool), s11 = .int .i64 a ∧ s12 = .int .i64 b ∧ s13 = .bool z ∧ Hid (0 ≤ kd → kd ≤ 2 → ∃ o, a = opN o ∧ b = opI o ∧ z = o.isSome) ∧ Hid (WmOk X1) ∧ Hid (W3 w wx p q X1 X1 T))
          case rest =>
            as_aux_lemma =>
              obtain ⟨X1, a, b, z, rfl, rfl, rfl, HV, HO1, A1⟩ := hcut
              clear e0 e1 e2 e3
              obtain ⟨e0, -⟩ := KC.out _ _ _ A1.out
              by_cases k0 : 0 ≤ kd
              · by_cases k2 : kd ≤ 2
                · have g2 : decide (0 ≤ kd) = true := by simpa using k0
                  have g3 : decide (kd ≤ 2) = true := by simpa using k2
                  obtain ⟨o, rfl, rfl, rfl⟩ := HV.out k0 k2
                  clear HV k0 k2
                  cases o with
                  | some i =>
                    have g4 : decide (0 ≤ (i : Int)) = true := by simp
                    have g5 : ((i : Int) != (i : Int)) = false := by simp
                    simp only [opN, opI, Option.isSome_some]
                    go_wp2_with fail
                    refine (A1.out.same HTT.out HO1.out).mono ?_
                    rintro e y ⟨rfl, h⟩
                    have A2 := Lib.hid h.forget
                    clear h
                    go_wp2_with fail
                    exact ⟨⟨k + 1, X1, HLT.out, by simp, HO1, A2⟩, by have := HLT.out; simp [intOf]; omega⟩
                  | none =>
                    simp only [opN, opI, Option.isSome_none]
                    go_wp2_with fail
                    refine (A1.out.same HTT.out HO1.out).mono ?_
                    rintro e y ⟨rfl, h⟩
                    have A2 := Lib.hid h.forget
                    clear h
                    go_wp2_with fail
                    exact ⟨⟨k + 1, X1, HLT.out, by simp, HO1, A2⟩, by have := HLT.out; simp [intOf]; omega⟩
                · have g2 : decide (0 ≤ kd) = true := by simpa using k0
                  have g3 : decide (kd ≤ 2) = false := by simpa using k2
                  clear HV k0 k2
                  go_wp2_with fail
                  refine (A1.out.same HTT.out HO1.out).mono ?_
                  rintro e y ⟨rfl, h⟩
                  have A2 := Lib.hid h.forget
                  clear h
                  go_wp2_with fail
                  exact ⟨⟨k + 1, X1, HLT.out, by simp, HO1, A2⟩, by have := HLT.out; simp [intOf]; omega⟩
              · have g2 : decide (0 ≤ kd) = false := by simpa using k0
                clear HV k0
                go_wp2_with fail
                refine (A1.out.same HTT.out HO1.out).mono ?_
                rintro e y ⟨rfl, h⟩
                have A2 := Lib.hid h.forget
                clear h
                go_wp2_with fail
                exact ⟨⟨k + 1, X1, HLT.out, by simp, HO1, A2⟩, by have := HLT.out; simp [intOf]; omega⟩
          case first =>
            skip
            by_cases h0 : kd = 0
            · obtain rfl : kd = 0 := h0
              as_aux_lemma =>
                obtain ⟨o, hO⟩ : ∃ o, (mRoom X bl).1 = o := ⟨_, rfl⟩
                have K1 : Hid (∀ y, W3 w y p q X X T → Calls Try.prog 11 #[.pointer (some ⟨p.P, 0, none⟩), .int .i64 bl] y fun e w' => e = .returned (opP o) ∧ W3 w w' p q (mRoom X bl).2 X T) := fun y h => by
                  have g := h.roomD HTT.out HO.out bl hbl
                  rw [hO] at g
                  exact g
                have K2 : Hid (∀ y, W3 w y p q (mRoom X bl).2 X T → Calls Try.prog 12 #[.pointer (some ⟨q.P, 0, none⟩), .int .i64 bl] y fun e w' => e = .returned (.int .i64 (opI o)) ∧ W3 w w' p q (mRoom X bl).2 (mRoom X bl).2 T) := fun y h => by
                  have g := h.roomQ HTT.out HO.out bl hbl
                  rw [hO] at g
                  exact g
                have HOR : Hid (WmOk (mRoom X bl).2) := HO.out.room bl
                clear hO
                cases o with
                | some i =>
                  have K3 : Hid (∀ y, W3 w y p q (mRoom X bl).2 (mRoom X bl).2 T → Calls Try.prog 13 #[.pointer (some ⟨p.P, 0, none⟩), .int .i64 (i : Int), .int .i64 bl, .bool dy] y fun e w' => e = .returned (.tuple #[]) ∧ W3 w w' p q (mPut (mRoom X bl).2 (i : Int) bl dy) (mRoom X bl).2 T) := fun y h => h.putD HTT.out HOR.out (i : Int) bl dy hbl
                  have K4 : Hid (∀ y, W3 w y p q (mPut (mRoom X bl).2 (i : Int) bl dy) (mRoom X bl).2 T → Calls Try.prog 14 #[.pointer (some ⟨q.P, 0, none⟩), .int .i64 (i : Int), .int .i64 bl, .bool dy] y fun e w' => e = .returned (.tuple #[]) ∧ W3 w w' p q (mPut (mRoom X bl).2 (i : Int) bl dy) (mPut (mRoom X bl).2 (i : Int) bl dy) T) := fun y h => h.putQ HTT.out HOR.out (i : Int) bl dy hbl
                  have HOP : Hid (WmOk (mPut (mRoom X bl).2 (i : Int) bl dy)) := HOR.out.put (i : Int) bl dy
                  go_wp2_with fail
                  refine (K1.out _ HA2.out).mono ?_
                  rintro e yA1 ⟨rfl, h⟩
                  have A1 := Lib.hid h
                  clear h e0 e1 e2 e3
                  obtain ⟨e0, e1, e2, e3⟩ := KC.out yA1 _ _ A1.out
                  unfold opP
                  go_wp2_with fail
                  refine (K2.out _ A1.out).mono ?_
                  rintro e yA2 ⟨rfl, h⟩
                  have A2 := Lib.hid h
                  clear h e0 e1 e2 e3
                  obtain ⟨e0, e1, e2, e3⟩ := KC.out yA2 _ _ A2.out
                  simp only [opI]
                  go_wp2_with fail
                  refine (K3.out _ A2.out).mono ?_
                  rintro e yA3 ⟨rfl, h⟩
                  have A3 := Lib.hid h
                  clear h e0 e1 e2 e3
                  obtain ⟨e0, e1, e2, e3⟩ := KC.out yA3 _ _ A3.out
                  go_wp2_with fail
                  refine (K4.out _ A3.out).mono ?_
                  rintro e yA4 ⟨rfl, h⟩
                  have A4 := Lib.hid h
                  clear h e0 e1 e2 e3
                  obtain ⟨e0, e1, e2, e3⟩ := KC.out yA4 _ _ A4.out
                  go_wp2_with fail
                  go_meet
                  case rel => exact ⟨(mPut (mRoom X bl).2 (i : Int) bl dy), _, _, _, rfl, rfl, rfl, fun _ _ => ⟨some i, rfl, rfl, rfl⟩, HOP, A4⟩
                | none =>
                  go_wp2_with fail
                  refine (K1.out _ HA2.out).mono ?_
                  rintro e yA1 ⟨rfl, h⟩
                  have A1 := Lib.hid h
                  clear h e0 e1 e2 e3
                  obtain ⟨e0, e1, e2, e3⟩ := KC.out yA1 _ _ A1.out
                  unfold opP
                  go_wp2_with fail
                  refine (K2.out _ A1.out).mono ?_
                  rintro e yA2 ⟨rfl, h⟩
                  have A2 := Lib.hid h
                  clear h e0 e1 e2 e3
                  obtain ⟨e0, e1, e2, e3⟩ := KC.out yA2 _ _ A2.out
                  simp only [opI]
                  go_wp2_with fail
                  go_meet
                  case rel => exact ⟨(mRoom X bl).2, _, _, _, rfl, rfl, rfl, fun _ _ => ⟨none, rfl, rfl, rfl⟩, HOR, A2⟩
            · have q0 : (kd == 0) = false := by simpa using h0
              by_cases h1 : kd = 1
              · obtain rfl : kd = 1 := h1
                as_aux_lemma =>
                  obtain ⟨o, hO⟩ : ∃ o, mFind X bl = o := ⟨_, rfl⟩
                  have K1 : Hid (∀ y, W3 w y p q X X T → Calls Try.prog 15 #[.pointer (some ⟨p.P, 0, none⟩), .int .i64 bl] y fun e w' => e = .returned (opP o) ∧ W3 w w' p q X X T) := fun y h => by
                    have g := h.findD HTT.out HO.out bl hbl
                    rw [hO] at g
                    exact g
                  have K2 : Hid (∀ y, W3 w y p q X X T → Calls Try.prog 16 #[.pointer (some ⟨q.P, 0, none⟩), .int .i64 bl] y fun e w' => e = .returned (.int .i64 (opI o)) ∧ W3 w w' p q X X T) := fun y h => by
                    have g := h.findQ HTT.out HO.out bl hbl
                    rw [hO] at g
                    exact g
                  clear hO
                  cases o with
                  | some i =>
                    have K3 : Hid (∀ y, W3 w y p q X X T → Calls Try.prog 17 #[.pointer (some ⟨p.P, 0, none⟩), .int .i64 (i : Int)] y fun e w' => e = .returned (.tuple #[]) ∧ W3 w w' p q (mTouch X (i : Int)) X T) := fun y h => h.touchD HTT.out HO.out (i : Int)
                    have K4 : Hid (∀ y, W3 w y p q (mTouch X (i : Int)) X T → Calls Try.prog 18 #[.pointer (some ⟨q.P, 0, none⟩), .int .i64 (i : Int)] y fun e w' => e = .returned (.tuple #[]) ∧ W3 w w' p q (mTouch X (i : Int)) (mTouch X (i : Int)) T) := fun y h => h.touchQ HTT.out HO.out (i : Int)
                    have HOP : Hid (WmOk (mTouch X (i : Int))) := HO.out.touch (i : Int)
                    go_wp2_with fail
                    refine (K1.out _ HA2.out).mono ?_
                    rintro e yA1 ⟨rfl, h⟩
                    have A1 := Lib.hid h
                    clear h e0 e1 e2 e3
                    obtain ⟨e0, e1, e2, e3⟩ := KC.out yA1 _ _ A1.out
                    unfold opP
                    go_wp2_with fail
                    refine (K2.out _ A1.out).mono ?_
                    rintro e yA2 ⟨rfl, h⟩
                    have A2 := Lib.hid h
                    clear h e0 e1 e2 e3
                    obtain ⟨e0, e1, e2, e3⟩ := KC.out yA2 _ _ A2.out
                    simp only [opI]
                    go_wp2_with fail
                    refine (K3.out _ A2.out).mono ?_
                    rintro e yA3 ⟨rfl, h⟩
                    have A3 := Lib.hid h
                    clear h e0 e1 e2 e3
                    obtain ⟨e0, e1, e2, e3⟩ := KC.out yA3 _ _ A3.out
                    go_wp2_with fail
                    refine (K4.out _ A3.out).mono ?_
                    rintro e yA4 ⟨rfl, h⟩
                    have A4 := Lib.hid h
                    clear h e0 e1 e2 e3
                    obtain ⟨e0, e1, e2, e3⟩ := KC.out yA4 _ _ A4.out
                    go_wp2_with fail
                    go_meet
                    case rel => exact ⟨(mTouch X (i : Int)), _, _, _, rfl, rfl, rfl, fun _ _ => ⟨some i, rfl, rfl, rfl⟩, HOP, A4⟩
                  | none =>
                    have K4 : Hid (∀ y, W3 w y p q X X T → Calls Try.prog 18 #[.pointer (some ⟨q.P, 0, none⟩), .int .i64 (-1)] y fun e w' => e = .returned (.tuple #[]) ∧ W3 w w' p q X X T) := fun y h => by
                      have g := h.touchQ HTT.out HO.out (-1)
                      rw [touch_none] at g
                      exact g
                    go_wp2_with fail
                    refine (K1.out _ HA2.out).mono ?_
                    rintro e yA1 ⟨rfl, h⟩
                    have A1 := Lib.hid h
                    clear h e0 e1 e2 e3
                    obtain ⟨e0, e1, e2, e3⟩ := KC.out yA1 _ _ A1.out
                    unfold opP
                    go_wp2_with fail
                    refine (K2.out _ A1.out).mono ?_
                    rintro e yA2 ⟨rfl, h⟩
                    have A2 := Lib.hid h
                    clear h e0 e1 e2 e3
                    obtain ⟨e0, e1, e2, e3⟩ := KC.out yA2 _ _ A2.out
                    simp only [opI]
                    go_wp2_with fail
                    refine (K4.out _ A2.out).mono ?_
                    rintro e yA3 ⟨rfl, h⟩
                    have A3 := Lib.hid h
                    clear h e0 e1 e2 e3
                    obtain ⟨e0, e1, e2, e3⟩ := KC.out yA3 _ _ A3.out
                    go_wp2_with fail
                    go_meet
                    case rel => exact ⟨X, _, _, _, rfl, rfl, rfl, fun _ _ => ⟨none, rfl, rfl, rfl⟩, HO, A3⟩
              · have q1 : (kd == 1) = false := by simpa using h1
                by_cases h2 : kd = 2
                · obtain rfl : kd = 2 := h2
                  as_aux_lemma =>
                    obtain ⟨o, hO⟩ : ∃ o, (mDirt X bl).1 = o := ⟨_, rfl⟩
                    have K1 : Hid (∀ y, W3 w y p q X X T → Calls Try.prog 19 #[.pointer (some ⟨p.P, 0, none⟩), .int .i64 bl] y fun e w' => e = .returned (opP o) ∧ W3 w w' p q (mDirt X bl).2 X T) := fun y h => by
                      have g := h.dirtiestD HTT.out HO.out bl hbl
                      rw [hO] at g
                      exact g
                    have K2 : Hid (∀ y, W3 w y p q (mDirt X bl).2 X T → Calls Try.prog 20 #[.pointer (some ⟨q.P, 0, none⟩), .int .i64 bl] y fun e w' => e = .returned (.int .i64 (opI o)) ∧ W3 w w' p q (mDirt X bl).2 (mDirt X bl).2 T) := fun y h => by
                      have g := h.dirtiestQ HTT.out HO.out bl hbl
                      rw [hO] at g
                      exact g
                    have HOR : Hid (WmOk (mDirt X bl).2) := HO.out.dirt bl
                    clear hO
                    cases o with
                    | some i =>
                      have K3 : Hid (∀ y, W3 w y p q (mDirt X bl).2 (mDirt X bl).2 T → Calls Try.prog 21 #[.pointer (some ⟨p.P, 0, none⟩), .int .i64 (i : Int)] y fun e w' => e = .returned (.tuple #[]) ∧ W3 w w' p q (mClean (mDirt X bl).2 (i : Int)) (mDirt X bl).2 T) := fun y h => h.cleanD HTT.out HOR.out (i : Int)
                      have K4 : Hid (∀ y, W3 w y p q (mClean (mDirt X bl).2 (i : Int)) (mDirt X bl).2 T → Calls Try.prog 22 #[.pointer (some ⟨q.P, 0, none⟩), .int .i64 (i : Int)] y fun e w' => e = .returned (.tuple #[]) ∧ W3 w w' p q (mClean (mDirt X bl).2 (i : Int)) (mClean (mDirt X bl).2 (i : Int)) T) := fun y h => h.cleanQ HTT.out HOR.out (i : Int)
                      have HOP : Hid (WmOk (mClean (mDirt X bl).2 (i : Int))) := HOR.out.clean (i : Int)
                      go_wp2_with fail
                      refine (K1.out _ HA2.out).mono ?_
                      rintro e yA1 ⟨rfl, h⟩
                      have A1 := Lib.hid h
                      clear h e0 e1 e2 e3
                      obtain ⟨e0, e1, e2, e3⟩ := KC.out yA1 _ _ A1.out
                      unfold opP
                      go_wp2_with fail
                      refine (K2.out _ A1.out).mono ?_
                      rintro e yA2 ⟨rfl, h⟩
                      have A2 := Lib.hid h
                      clear h e0 e1 e2 e3
                      obtain ⟨e0, e1, e2, e3⟩ := KC.out yA2 _ _ A2.out
                      simp only [opI]
                      go_wp2_with fail
                      refine (K3.out _ A2.out).mono ?_
                      rintro e yA3 ⟨rfl, h⟩
                      have A3 := Lib.hid h
                      clear h e0 e1 e2 e3
                      obtain ⟨e0, e1, e2, e3⟩ := KC.out yA3 _ _ A3.out
                      go_wp2_with fail
                      refine (K4.out _ A3.out).mono ?_
                      rintro e yA4 ⟨rfl, h⟩
                      have A4 := Lib.hid h
                      clear h e0 e1 e2 e3
                      obtain ⟨e0, e1, e2, e3⟩ := KC.out yA4 _ _ A4.out
                      go_wp2_with fail
                      go_meet
                      case rel => exact ⟨(mClean (mDirt X bl).2 (i : Int)), _, _, _, rfl, rfl, rfl, fun _ _ => ⟨some i, rfl, rfl, rfl⟩, HOP, A4⟩
                    | none =>
                      have K4 : Hid (∀ y, W3 w y p q (mDirt X bl).2 (mDirt X bl).2 T → Calls Try.prog 22 #[.pointer (some ⟨q.P, 0, none⟩), .int .i64 (-1)] y fun e w' => e = .returned (.tuple #[]) ∧ W3 w w' p q (mDirt X bl).2 (mDirt X bl).2 T) := fun y h => by
                        have g := h.cleanQ HTT.out HOR.out (-1)
                        rw [clean_none] at g
                        exact g
                      go_wp2_with fail
                      refine (K1.out _ HA2.out).mono ?_
                      rintro e yA1 ⟨rfl, h⟩
                      have A1 := Lib.hid h
                      clear h e0 e1 e2 e3
                      obtain ⟨e0, e1, e2, e3⟩ := KC.out yA1 _ _ A1.out
                      unfold opP
                      go_wp2_with fail
                      refine (K2.out _ A1.out).mono ?_
                      rintro e yA2 ⟨rfl, h⟩
                      have A2 := Lib.hid h
                      clear h e0 e1 e2 e3
                      obtain ⟨e0, e1, e2, e3⟩ := KC.out yA2 _ _ A2.out
                      simp only [opI]
                      go_wp2_with fail
                      refine (K4.out _ A2.out).mono ?_
                      rintro e yA3 ⟨rfl, h⟩
                      have A3 := Lib.hid h
                      clear h e0 e1 e2 e3
                      obtain ⟨e0, e1, e2, e3⟩ := KC.out yA3 _ _ A3.out
                      go_wp2_with fail
                      go_meet
                      case rel => exact ⟨(mDirt X bl).2, _, _, _, rfl, rfl, rfl, fun _ _ => ⟨none, rfl, rfl, rfl⟩, HOR, A3⟩
                · have q2 : (kd == 2) = false := by simpa using h2
                  by_cases h3 : kd = 3
                  · obtain rfl : kd = 3 := h3
                    as_aux_lemma =>
                      have K1 : Hid (∀ y, W3 w y p q X X T → Calls Try.prog 21 #[.pointer (some ⟨p.P, 0, none⟩), .int .i64 sl] y fun e w' => e = .returned (.tuple #[]) ∧ W3 w w' p q (mClean X sl) X T) := fun y h => h.cleanD HTT.out HO.out sl
                      have K2 : Hid (∀ y, W3 w y p q (mClean X sl) X T → Calls Try.prog 22 #[.pointer (some ⟨q.P, 0, none⟩), .int .i64 sl] y fun e w' => e = .returned (.tuple #[]) ∧ W3 w w' p q (mClean X sl) (mClean X sl) T) := fun y h => h.cleanQ HTT.out HO.out sl
                      have HOP : Hid (WmOk (mClean X sl)) := HO.out.clean sl
                      go_wp2_with fail
                      refine (K1.out _ HA2.out).mono ?_
                      rintro e yA1 ⟨rfl, h⟩
                      have A1 := Lib.hid h
                      clear h e0 e1 e2 e3
                      obtain ⟨e0, e1, e2, e3⟩ := KC.out yA1 _ _ A1.out
                      go_wp2_with fail
                      refine (K2.out _ A1.out).mono ?_
                      rintro e yA2 ⟨rfl, h⟩
                      have A2 := Lib.hid h
                      clear h e0 e1 e2 e3
                      obtain ⟨e0, e1, e2, e3⟩ := KC.out yA2 _ _ A2.out
                      go_wp2_with fail
                      go_meet
                      case rel => exact ⟨(mClean X sl), _, _, _, rfl, rfl, rfl, fun h1 h2 => absurd h2 (by decide), HOP, A2⟩
                  · have q3 : (kd == 3) = false := by simpa using h3
                    by_cases h4 : kd = 4
                    · obtain rfl : kd = 4 := h4
                      as_aux_lemma =>
                        have K1 : Hid (∀ y, W3 w y p q X X T → Calls Try.prog 23 #[.pointer (some ⟨p.P, 0, none⟩), .int .i64 sl] y fun e w' => e = .returned (.tuple #[]) ∧ W3 w w' p q (mDrop X sl) X T) := fun y h => h.dropD HTT.out HO.out sl
                        have K2 : Hid (∀ y, W3 w y p q (mDrop X sl) X T → Calls Try.prog 24 #[.pointer (some ⟨q.P, 0, none⟩), .int .i64 sl] y fun e w' => e = .returned (.tuple #[]) ∧ W3 w w' p q (mDrop X sl) (mDrop X sl) T) := fun y h => h.dropQ HTT.out HO.out sl
                        have HOP : Hid (WmOk (mDrop X sl)) := HO.out.drop sl
                        go_wp2_with fail
                        refine (K1.out _ HA2.out).mono ?_
                        rintro e yA1 ⟨rfl, h⟩
                        have A1 := Lib.hid h
                        clear h e0 e1 e2 e3
                        obtain ⟨e0, e1, e2, e3⟩ := KC.out yA1 _ _ A1.out
                        go_wp2_with fail
                        refine (K2.out _ A1.out).mono ?_
                        rintro e yA2 ⟨rfl, h⟩
                        have A2 := Lib.hid h
                        clear h e0 e1 e2 e3
                        obtain ⟨e0, e1, e2, e3⟩ := KC.out yA2 _ _ A2.out
                        go_wp2_with fail
                        go_meet
                        case rel => exact ⟨(mDrop X sl), _, _, _, rfl, rfl, rfl, fun h1 h2 => absurd h2 (by decide), HOP, A2⟩
                    · have q4 : (kd == 4) = false := by simpa using h4
                      by_cases h5 : kd = 5
                      · obtain rfl : kd = 5 := h5
                        as_aux_lemma =>
                          have K1 : Hid (∀ y, W3 w y p q X X T → Calls Try.prog 13 #[.pointer (some ⟨p.P, 0, none⟩), .int .i64 sl, .int .i64 bl, .bool dy] y fun e w' => e = .returned (.tuple #[]) ∧ W3 w w' p q (mPut X sl bl dy) X T) := fun y h => h.putD HTT.out HO.out sl bl dy hbl
                          have K2 : Hid (∀ y, W3 w y p q (mPut X sl bl dy) X T → Calls Try.prog 14 #[.pointer (some ⟨q.P, 0, none⟩), .int .i64 sl, .int .i64 bl, .bool dy] y fun e w' => e = .returned (.tuple #[]) ∧ W3 w w' p q (mPut X sl bl dy) (mPut X sl bl dy) T) := fun y h => h.putQ HTT.out HO.out sl bl dy hbl
                          have HOP : Hid (WmOk (mPut X sl bl dy)) := HO.out.put sl bl dy
                          go_wp2_with fail
                          refine (K1.out _ HA2.out).mono ?_
                          rintro e yA1 ⟨rfl, h⟩
                          have A1 := Lib.hid h
                          clear h e0 e1 e2 e3
                          obtain ⟨e0, e1, e2, e3⟩ := KC.out yA1 _ _ A1.out
                          go_wp2_with fail
                          refine (K2.out _ A1.out).mono ?_
                          rintro e yA2 ⟨rfl, h⟩
                          have A2 := Lib.hid h
                          clear h e0 e1 e2 e3
                          obtain ⟨e0, e1, e2, e3⟩ := KC.out yA2 _ _ A2.out
                          go_wp2_with fail
                          go_meet
                          case rel => exact ⟨(mPut X sl bl dy), _, _, _, rfl, rfl, rfl, fun h1 h2 => absurd h2 (by decide), HOP, A2⟩
                      · have q5 : (kd == 5) = false := by simpa using h5
                        by_cases h6 : kd = 6
                        · obtain rfl : kd = 6 := h6
                          as_aux_lemma =>
                            have K1 : Hid (∀ y, W3 w y p q X X T → Calls Try.prog 17 #[.pointer (some ⟨p.P, 0, none⟩), .int .i64 sl] y fun e w' => e = .returned (.tuple #[]) ∧ W3 w w' p q (mTouch X sl) X T) := fun y h => h.touchD HTT.out HO.out sl
                            have K2 : Hid (∀ y, W3 w y p q (mTouch X sl) X T → Calls Try.prog 18 #[.pointer (some ⟨q.P, 0, none⟩), .int .i64 sl] y fun e w' => e = .returned (.tuple #[]) ∧ W3 w w' p q (mTouch X sl) (mTouch X sl) T) := fun y h => h.touchQ HTT.out HO.out sl
                            have HOP : Hid (WmOk (mTouch X sl)) := HO.out.touch sl
                            go_wp2_with fail
                            refine (K1.out _ HA2.out).mono ?_
                            rintro e yA1 ⟨rfl, h⟩
                            have A1 := Lib.hid h
                            clear h e0 e1 e2 e3
                            obtain ⟨e0, e1, e2, e3⟩ := KC.out yA1 _ _ A1.out
                            go_wp2_with fail
                            refine (K2.out _ A1.out).mono ?_
                            rintro e yA2 ⟨rfl, h⟩
                            have A2 := Lib.hid h
                            clear h e0 e1 e2 e3
                            obtain ⟨e0, e1, e2, e3⟩ := KC.out yA2 _ _ A2.out
                            go_wp2_with fail
                            go_meet
                            case rel => exact ⟨(mTouch X sl), _, _, _, rfl, rfl, rfl, fun h1 h2 => absurd h2 (by decide), HOP, A2⟩
                        · have q6 : (kd == 6) = false := by simpa using h6
                          as_aux_lemma =>
                            have h012 : 0 ≤ kd → kd ≤ 2 → False := fun a b => by omega
                            have HK := Lib.hid h012
                            clear h012 h0 h1 h2 h3 h4 h5 h6
                            go_wp2_with fail
                            go_meet
                            case rel => exact ⟨X, _, _, _, rfl, rfl, rfl, fun h1 h2 => (HK.out h1 h2).elim, HO, HA2⟩
        · skip
          obtain rfl : k = L := by omega
          clear hlt
          go_wp2_with fail
          refine (ways_wakes _).mono ?_
          rintro e y ⟨rfl, h⟩
          have B2 := Lib.hid (HA.out.bel.trans (h.mono HA.out.bel.size))
          clear h
          go_wp2_with fail
          go_ret
          exact ⟨rfl, B2.out⟩
    · skip
      have HN1 := Lib.hid (wd_newNo (w := W) a b hgood)
      have HN2 := Lib.hid (wq_newNo (w := W) a b hgood)
      clear ha0 ha1 hb0 hb1 hgood
      go_enter Try.func3, Try.ntmps3
      go_wp2_with fail
      refine HN1.out.mono ?_
      rintro e x ⟨rfl, rfl⟩
      go_wp2_with fail
      refine HN2.out.mono ?_
      rintro e x2 ⟨rfl, rfl⟩
      clear c0 c1
      go_wp2_with fail
      go_loopw [9] (fun iv wr => iv = .int .i64 0 ∧ wr = x2) (fun _ _ => 0)
      case atStart => exact ⟨rfl, rfl⟩
      case round =>
        obtain ⟨rfl, hw⟩ := hrel
        obtain rfl := hw.symm
        clear hw
        have hbz : Hid (Below w.heap.size w x2) := HB
        by_cases h0 : 0 < L
        · have g9 : (0 : Int) < (L : Int) := by omega
          clear h0
          go_wp2_with fail
          refine (ways_wakes _).mono ?_
          rintro e y ⟨rfl, h⟩
          have B2 := Lib.hid (HB.out.trans (h.mono HB.out.size))
          clear h
          go_wp2_with fail
          go_ret
          exact ⟨rfl, B2.out⟩
        · obtain rfl : L = 0 := by omega
          clear h0
          go_wp2_with fail
          refine (ways_wakes _).mono ?_
          rintro e y ⟨rfl, h⟩
          have B2 := Lib.hid (HB.out.trans (h.mono HB.out.size))
          clear h
          go_wp2_with fail
          go_ret
          exact ⟨rfl, B2.out⟩

set_option maxRecDepth 100000 in
theorem lifted (os : Os) (started : os.Started) (H : Type) (enc : TypeId × Value → H) :
    ReturnsInHanded {} Try.checked os 3 .any (Rows.waysPlaysSpec.pre6 enc Try.prog Try.f3 Rows.waysPlaysRow.domain false) (Rows.waysPlaysSpec.post enc Try.prog Try.f3 false true false false) := by
  refine returnsInHanded_of_change (C := Try.checked) own started (by kernel_rfl) Try.func3
    (ChangeSpec.witness6 (enc := enc) (C := Try.checked) false ⟨#[], #[.agg #[.int .i64 0, .int .i64 0], .slice none 0 0], []⟩ 8 (by kernel_rfl) (by kernel_rfl) (by kernel_rfl) (by kernel_rfl)) ?_
  intro W base args ds gs before hval0 hW hcnd _
  have hval : ∀ (j : Nat) t v, Try.f3.params[j]? = some t → args[j]? = some v → Value.okWide Try.prog W .any base t v := hval0
  have hW' := hW
  obtain ⟨p, q, hA0, hV, rfl, hfz, hnd⟩ := hW
  have hA : DataW.TrodAll enc Try.prog W 0 (fun _ => true) true Try.f3.params.toList args.toList ds p := hA0
  rw [Try.params3] at hA hval
  obtain ⟨v0, vs0, d0, ds0, p0, q0, hargs, rfl, rfl, h0, r0⟩ := trodAll_cons hA
  obtain ⟨v1, vs1, d1, ds1, p1, q1, rfl, rfl, rfl, h1, r1⟩ := trodAll_cons r0
  obtain ⟨rfl, rfl, rfl⟩ := trodAll_nil r1
  obtain rfl : args = #[v0, v1] := by cases args; simp_all
  obtain ⟨rfl, rfl⟩ := trodVars_none hV
  have lt0 : ∀ x ∈ p0, x.block < W.heap.size := by obtain ⟨m, hm⟩ := h0; exact DataW.trod_lt m _ _ _ hm
  have a0 := Arg.mk (hval 0 22 v0 rfl rfl) h0
  have lt1 : ∀ x ∈ p1, x.block < W.heap.size := by obtain ⟨m, hm⟩ := h1; exact DataW.trod_lt m _ _ _ hm
  have a1 := Arg.mk (hval 1 23 v1 rfl rfl) h1
  clear hA0 hval0
  refine (walk v0 v1 W a0 a1).mono fun e W' ⟨he, bel⟩ => ?_
  subst he
  exact ⟨_, rfl, _, _, _, [], _, [], hW', trodAll_mk1 (shut_bool Try.underlying4 _), (trodAll_cons_mk (Below.trod laidOut (by kernel_rfl) (of_decide_eq_true (by kernel_rfl)) h0 bel lt0) (trodAll_cons_mk (Below.trod laidOut (by kernel_rfl) (of_decide_eq_true (by kernel_rfl)) h1 bel lt1) trodAll_mk0)), rfl, bel.frame _, fun h => by cases h⟩

set_option maxRecDepth 100000 in
theorem over : Rows.waysPlaysRow.holds Try.pinned (OpenSpec.ofChange Rows.waysPlaysSpec) :=
  OpenClaim.holds_of_wide 3 Try.f3 rfl rfl rfl rfl rfl rfl rfl ⟨rfl, rfl, rfl, rfl, rfl⟩ rfl rfl rfl rfl rfl (by kernel_rfl) Try.func3 (by kernel_rfl)
    (of_decide_eq_true (by kernel_rfl)) (by unfold Func.isWrapper; first | (rw [if_pos (by decide +kernel)]; kernel_rfl) | (rw [if_neg (by decide +kernel)]; exact ⟨rfl, rfl⟩))
    (fun os started H enc _ => lifted os started H enc)

theorem proved : Rows.WaysPlaysSaid := over
#print axioms proved
end Go.Proofs.Ytlpmikbplngmnaa.waysPlays
