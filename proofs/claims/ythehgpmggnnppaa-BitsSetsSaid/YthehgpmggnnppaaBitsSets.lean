/- What is put into a set is in, and nothing else comes or goes; both sets together have what either has; for every input. -/
import Derived.Test.YthehgpmggnnppaaBiWk
import Derived.Test.YthehgpmggnnppaaBiSet
import Derived.Test.YthehgpmggnnppaaArgSl
namespace Go.Proofs.Ythehgpmggnnppaa.bitsSets
open Go.ChangeShapes Go.WideShapes Go.ChangeAt Go.RowKit
set_option linter.unusedVariables false

set_option maxRecDepth 100000 in
set_option maxHeartbeats 3000000 in
theorem walk (v0 v1 v2 : Value) (w : World) (w0 : Arg w 5 v0) (w1 : Arg w 22 v1) (w2 : Arg w 35 v2) :
    Calls Try.prog 4 #[v0, v1, v2] w fun e w' => e = .returned (.bool true) ∧ Below w.heap.size w w' := by
  have hmx : Try.prog.follows .mixedOrders = true := by kernel_rfl
  obtain ⟨n, rfl, hn⟩ := w0.int Try.underlying5
  obtain ⟨l, ll, cl, xl, rfl, hll, hml, hsl, hbl⟩ := w1.bytes Try.underlying22 Try.underlying5 (by kernel_rfl)
  obtain ⟨cs, rfl, hcl, hcs⟩ := w2.agg (.inr ⟨_, _, Try.underlying35⟩)
  obtain ⟨-, hj⟩ := hcs.array Try.underlying35
  rw [show Try.prog.cellsOf 35 = 2 from by kernel_rfl] at hcl
  simp only [show Try.prog.cellsOf 22 = 1 from by kernel_rfl] at hj
  match cs, hcl with
  | [u, v], _ =>
    obtain ⟨a, la, ca, xa, e1, hla, hma, hsa, hba⟩ := (hj 0 (by omega)).bytes Try.underlying22 Try.underlying5 (by kernel_rfl)
    obtain ⟨b, lb, cb, xb, e2, hlb, hmb, hsb, hbb⟩ := (hj 1 (by omega)).bytes Try.underlying22 Try.underlying5 (by kernel_rfl)
    simp at e1 e2
    subst e1 e2
    have hn8 := range_u8 (zs := [n]) (fun x hx => by rw [List.mem_singleton.1 hx]; exact hn) 0
    simp only [List.getElem?_cons_zero, Option.getD_some] at hn8
    obtain ⟨N, rfl⟩ := Int.eq_ofNat_of_zero_le hn8.1
    obtain ⟨size, hsize⟩ : ∃ size, 1 + N = size := ⟨_, rfl⟩
    have hz1 : 1 ≤ size := by omega
    have hz2 : size ≤ 256 := by omega
    have hzN : 1 + (N : Int) = (size : Int) := by omega
    obtain ⟨W0, hW0⟩ : ∃ W0, w.alloc (.cells #[.slice a la ca, .slice b lb cb] 35) = W0 := ⟨_, rfl⟩
    have hB0 : Below w.heap.size w W0 := by rw [← hW0]; exact (Below.refl _ _).alloc (Nat.le_refl _) _
    have c0 : ∀ y : Ext W0, y.1.cell? ⟨w.heap.size, 0, none⟩ = some (.slice a la ca) := fun y => by rw [y.2.cell (p := ⟨w.heap.size, 0, none⟩) (by rw [← hW0]; simp), ← hW0, cell_of_row _ _ _ _ _ _ (World.alloc_heap_new w _)]; rfl
    have c1 : ∀ y : Ext W0, y.1.cell? ⟨w.heap.size, 1, none⟩ = some (.slice b lb cb) := fun y => by rw [y.2.cell (p := ⟨w.heap.size, 1, none⟩) (by rw [← hW0]; simp), ← hW0, cell_of_row _ _ _ _ _ _ (World.alloc_heap_new w _)]; rfl
    have HLl := Lib.hid hll
    have HSl := Lib.hid (hsl.below hB0)
    have HBl := Lib.hid hbl
    have HLa := Lib.hid hla
    have HSa := Lib.hid (hsa.below hB0)
    have HBa := Lib.hid hba
    have HLb := Lib.hid hlb
    have HSb := Lib.hid (hsb.below hB0)
    have HBb := Lib.hid hbb
    have HB0 := Lib.hid hB0
    clear hll hsl hbl hla hsa hba hlb hsb hbb hj hcs hn hn8 hB0 hsize w0 w1 w2
    go_enter Try.func4, Try.ntmps4
    go_wp2_with fail
    refine region_plan (fun x => ∃ y : Ext W0, x = y.1) 5 (.takes [0, 1, 2, 3, 4] .leaf) hmx (by kernel_rfl) (by intro c x v a w h; cases x <;> exact h) ⟨⟨W0.drew, (Below.refl _ W0).drew⟩, rfl⟩ ?_
    repeat (rw [wpPlan_takes_cons]; simp only [nth_zero, nth_succ]; go_big_quiet_step (fail); try (with_reducible refine wpQuiet_nil ?_))
    rw [wpPlan_takes_nil, wpPlan_leaf]
    simp only [List.drop_succ_cons, List.drop_zero]
    clear c0 c1
    have hD : Below W0.heap.size W0 W0.drew := (Below.refl _ W0).drew
    have F1 := Lib.hid (HSl.out.below hD)
    have F2 := Lib.hid (HSa.out.below hD)
    have F3 := Lib.hid (HSb.out.below hD)
    have B4 := Lib.hid (HB0.out.trans (hD.mono HB0.out.size))
    clear HSl HSa HSb HB0
    clear hD
    obtain ⟨W5, hW5⟩ : ∃ W5, W0.drew = W5 := ⟨_, rfl⟩
    rw [hW5] at F1 F2 F3 B4
    try rw [hW5]
    try simp only [hW5]
    by_cases h1 : 100 < ll
    · have ql : (100 : Int) < (ll : Int) := by omega
      go_wp2_with fail
      refine (bi_wakes _).mono ?_
      rintro e W5 ⟨rfl, b6⟩
      have F7 := Lib.hid (F1.out.below b6)
      have F8 := Lib.hid (F2.out.below b6)
      have F9 := Lib.hid (F3.out.below b6)
      have B10 := Lib.hid (B4.out.trans (b6.mono B4.out.size))
      clear F1 F2 F3 B4
      clear b6
      go_wp2_with fail
      go_ret
      exact ⟨rfl, B10.out⟩
    by_cases h2 : 40 < la
    · have ql : ¬ (100 : Int) < (ll : Int) := by omega
      have qa : (40 : Int) < (la : Int) := by omega
      go_wp2_with fail
      refine (bi_wakes _).mono ?_
      rintro e W5 ⟨rfl, b6⟩
      have F7 := Lib.hid (F1.out.below b6)
      have F8 := Lib.hid (F2.out.below b6)
      have F9 := Lib.hid (F3.out.below b6)
      have B10 := Lib.hid (B4.out.trans (b6.mono B4.out.size))
      clear F1 F2 F3 B4
      clear b6
      go_wp2_with fail
      go_ret
      exact ⟨rfl, B10.out⟩
    by_cases h3 : 40 < lb
    · have ql : ¬ (100 : Int) < (ll : Int) := by omega
      have qa : ¬ (40 : Int) < (la : Int) := by omega
      have qb : (40 : Int) < (lb : Int) := by omega
      go_wp2_with fail
      refine (bi_wakes _).mono ?_
      rintro e W5 ⟨rfl, b6⟩
      have F7 := Lib.hid (F1.out.below b6)
      have F8 := Lib.hid (F2.out.below b6)
      have F9 := Lib.hid (F3.out.below b6)
      have B10 := Lib.hid (B4.out.trans (b6.mono B4.out.size))
      clear F1 F2 F3 B4
      clear b6
      go_wp2_with fail
      go_ret
      exact ⟨rfl, B10.out⟩
    have ql : ¬ (100 : Int) < (ll : Int) := by omega
    have qa : ¬ (40 : Int) < (la : Int) := by omega
    have qb : ¬ (40 : Int) < (lb : Int) := by omega
    have Nl : Hid (xl.length ≤ 100) := by show _ ≤ _; rw [HLl.out]; omega
    have Na : Hid (xa.length ≤ 40) := by show _ ≤ _; rw [HLa.out]; omega
    have Nb : Hid (xb.length ≤ 40) := by show _ ≤ _; rw [HLb.out]; omega
    have hll100 : ll ≤ 100 := by omega
    have hla40 : la ≤ 40 := by omega
    have hlb40 : lb ≤ 40 := by omega
    clear h1 h2 h3 hW0 hW5
    go_wp2_with fail
    refine (bi_new (size : Int) _).mono ?_
    rintro e W5 ⟨v7, rfl, h8, b6⟩
    have F9 := Lib.hid (F1.out.below b6)
    have F10 := Lib.hid (F2.out.below b6)
    have F11 := Lib.hid (F3.out.below b6)
    have B12 := Lib.hid (B4.out.trans (b6.mono B4.out.size))
    clear F1 F2 F3 B4
    clear b6
    have F13 := Lib.hid h8
    clear h8
    rw [← sAt_zero xl size] at F13
    go_wp2_with fail
    go_loopw [10, 11] (fun s i wr => ∃ k : Nat, k ≤ ll ∧ i = .int .i64 (k : Int) ∧ Hid (Sl .u8 wr s (sAt xl size k)) ∧ Hid (Below W5.heap.size W5 wr)) (fun _ i _ => ll - (intOf i).toNat)
    case atStart => exact ⟨0, Nat.zero_le _, rfl, F13, Below.refl _ _⟩
    case round =>
      obtain ⟨k, hk, rfl, HSk, HE⟩ := hrel
      have F14 := Lib.hid (F9.out.below HE.out)
      have F15 := Lib.hid (F10.out.below HE.out)
      have F16 := Lib.hid (F11.out.below HE.out)
      have B17 := Lib.hid (B12.out.trans (HE.out.mono B12.out.size))
      clear F9 F10 F11 B12
      by_cases hlt : k < ll
      · obtain ⟨x, hx, hx8⟩ := byte_of xl HBl.out k
        obtain ⟨gl, ol, rfl, hgl, hcl⟩ : ∃ gl ol, l = some ⟨gl, ol, none⟩ ∧ gl < wr.heap.size ∧ ∀ j, j < ll → wr.cell? ⟨gl, ol + j, none⟩ = some (.int .u8 (xl[j]?.getD 0)) := by
          obtain ⟨_, _, e1, _, _, hh, _⟩ := F14.out
          simp only [Value.slice.injEq] at e1
          obtain ⟨rfl, _, rfl⟩ := e1
          rcases hh with hh | ⟨gl, ol, h1, h2, h3⟩
          · have := HLl.out; rw [hh] at this; simp at this; omega
          · exact ⟨gl, ol, h1, h2, fun j hj => h3 j (by rw [HLl.out]; exact hj)⟩
        have c0 : wr.cell? ⟨gl, ol + k, none⟩ = some (.int .u8 (x : Int)) := by rw [hcl k hlt, hx]
        have HLT := Lib.hid hlt
        have g1 : (k : Int) < (ll : Int) := by omega
        obtain ⟨j, hj⟩ : ∃ j, x % size = j := ⟨_, rfl⟩
        have hjj : (x : Int) % (size : Int) = (j : Int) := by rw [← hj]; simp
        have hj256 : j < 256 := by rw [← hj]; exact Nat.lt_of_lt_of_le (Nat.mod_lt _ hz1) hz2
        have HSS : Hid (sAt xl size (k + 1) = withB (sAt xl size k) (j : Int)) := by show _ = _; rw [sAt_succ xl size k (by rw [HLl.out]; exact hlt), hx, Int.toNat_natCast, hj]
        clear hx hcl hlt hj
        go_wp2_with fail
        refine (bi_with _ _ (j : Int) (wf_i64 (by omega) (by omega)) _ HSk.out (sAt_bytes _ _ _) (by rw [sAt_len]; unfold sizeB; split <;> omega)).mono ?_
        rintro e W18 ⟨v20, rfl, h21, b19⟩
        have F22 := Lib.hid (F14.out.below b19)
        have F23 := Lib.hid (F15.out.below b19)
        have F24 := Lib.hid (F16.out.below b19)
        have F25 := Lib.hid (HSk.out.below b19)
        have B26 := Lib.hid b19
        clear F14 F15 F16 HSk
        clear b19
        have F27 := Lib.hid h21
        clear h21
        rw [← HSS.out] at F27
        go_wp2_with fail
        exact ⟨⟨k + 1, HLT.out, by simp, F27, HE.out.trans (B26.out.mono HE.out.size)⟩, bi_lt HLT.out⟩
      · obtain rfl : k = ll := by omega
        clear hlt hk
        obtain ⟨WA, rfl⟩ : ∃ X, X = wr := ⟨_, rfl⟩
        go_wp2_with fail
        refine (bi_good _ _ (size : Int) _ HSk.out (sAt_bytes _ _ _) (by rw [sAt_len]; unfold sizeB; split <;> omega)).mono ?_
        rintro e W18 ⟨rfl, b19⟩
        have F20 := Lib.hid (F14.out.below b19)
        have F21 := Lib.hid (F15.out.below b19)
        have F22 := Lib.hid (F16.out.below b19)
        have F23 := Lib.hid (HSk.out.below b19)
        have B24 := Lib.hid (B17.out.trans (b19.mono B17.out.size))
        clear F14 F15 F16 HSk B17
        clear b19
        rw [sAt_good xl size _ hz1 hz2]
        go_wp2_with fail
        refine (bi_count _ _ _ F23.out (sAt_bytes _ _ _) (by rw [sAt_len]; unfold sizeB; split <;> omega)).mono ?_
        rintro e W25 ⟨rfl, b26⟩
        have F27 := Lib.hid (F20.out.below b26)
        have F28 := Lib.hid (F21.out.below b26)
        have F29 := Lib.hid (F22.out.below b26)
        have F30 := Lib.hid (F23.out.below b26)
        have B31 := Lib.hid (B24.out.trans (b26.mono B24.out.size))
        clear F20 F21 F22 F23 B24
        clear b26
        go_wp2_with fail
        refine (bi_all _ _ _ F30.out (sAt_bytes _ _ _) (by rw [sAt_len]; unfold sizeB; split <;> omega)).mono ?_
        rintro e W32 ⟨v34, rfl, h35, b33⟩
        have F36 := Lib.hid (F27.out.below b33)
        have F37 := Lib.hid (F28.out.below b33)
        have F38 := Lib.hid (F29.out.below b33)
        have F39 := Lib.hid (F30.out.below b33)
        have B40 := Lib.hid (B31.out.trans (b33.mono B31.out.size))
        clear F27 F28 F29 F30 B31
        clear b33
        have F41 := Lib.hid (sl_nat h35)
        clear h35
        obtain ⟨a42, c43, rfl, -, -, -, -⟩ := F41.out
        clear F41
        rw [List.length_map]
        go_wp2_with fail
        go_loopw [12] (fun i wr => ∃ i0 : Nat, i0 ≤ size ∧ i = .int .i64 (i0 : Int) ∧ Hid (Below W32.heap.size W32 wr)) (fun i _ => size - (intOf i).toNat)
        case atStart => exact ⟨0, Nat.zero_le _, rfl, Below.refl _ _⟩
        case round =>
          obtain ⟨i, hi, rfl, HE2⟩ := hrel
          have F44 := Lib.hid (F36.out.below HE2.out)
          have F45 := Lib.hid (F37.out.below HE2.out)
          have F46 := Lib.hid (F38.out.below HE2.out)
          have F47 := Lib.hid (F39.out.below HE2.out)
          have B48 := Lib.hid (B40.out.trans (HE2.out.mono B40.out.size))
          clear F36 F37 F38 F39 B40
          by_cases hlt2 : i < size
          · obtain ⟨Wo, rfl⟩ : ∃ X, X = wr := ⟨_, rfl⟩
            have HLT2 := Lib.hid hlt2
            have g2 : (i : Int) < (size : Int) := by omega
            have HLl2 : Hid (Lies Wo l k xl) := by
              obtain ⟨_, _, e1, hl1, _⟩ := Lies.of_sl F44.out
              simp only [Value.slice.injEq] at e1
              obtain ⟨rfl, _, rfl⟩ := e1
              rw [HLl.out] at hl1; exact hl1
            clear hlt2 hi
            go_wp2_with fail
            go_loopw [13, 14] (fun v c wr => ∃ m : Nat, m ≤ k ∧ c = .int .i64 (m : Int) ∧ v = .bool (inAt xl size i m) ∧ wr = Wo) (fun _ c _ => k - (intOf c).toNat)
            case atStart => exact ⟨0, Nat.zero_le _, rfl, rfl, rfl⟩
            case round =>
              obtain ⟨m, hm, rfl, rfl, rfl⟩ := hrel
              by_cases hlt3 : m < k
              · obtain ⟨x, hx, hx8⟩ := byte_of xl HBl.out m
                obtain ⟨gl, ol, rfl, hgl, hcl⟩ : ∃ gl ol, l = some ⟨gl, ol, none⟩ ∧ gl < wr.heap.size ∧ ∀ j, j < k → wr.cell? ⟨gl, ol + j, none⟩ = some (.int .u8 (xl[j]?.getD 0)) := by
                  rcases HLl2.out with h | h
                  · omega
                  · exact h
                have c0 : wr.cell? ⟨gl, ol + m, none⟩ = some (.int .u8 (x : Int)) := by rw [hcl m hlt3, hx]
                have HLT3 := Lib.hid hlt3
                have g3 : (m : Int) < (k : Int) := by omega
                obtain ⟨j, hj⟩ : ∃ j, x % size = j := ⟨_, rfl⟩
                have hjj : (x : Int) % (size : Int) = (j : Int) := by rw [← hj]; simp
                have HIS : Hid (inAt xl size i (m + 1) = (inAt xl size i m || (j == i))) := by show _ = _; rw [inAt_succ xl size i m (by rw [HLl.out]; exact hlt3), hx, Int.toNat_natCast, hj]
                obtain ⟨t, ht⟩ : ∃ t, inAt xl size i m = t := ⟨_, rfl⟩
                rw [ht] at HIS ⊢
                clear hx hcl hlt3 hj ht hm
                cases t with
                | true =>
                  go_wp2_with fail
                  exact ⟨⟨m + 1, HLT3.out, by simp, by rw [HIS.out, Bool.true_or], by first | trivial | rfl⟩, bi_lt HLT3.out⟩
                | false =>
                  have hji : ((j : Int) == (i : Int)) = (j == i) := by rw [Bool.eq_iff_iff]; simp only [beq_iff_eq]; omega
                  go_wp2_with fail
                  exact ⟨⟨m + 1, HLT3.out, by simp, by first | (rw [HIS.out, Bool.false_or]; done) | (rw [HIS.out, Bool.false_or, ← hji]; done) | (simp [HIS.out, hji]; done), by first | trivial | rfl⟩, bi_lt HLT3.out⟩
              · obtain rfl : m = k := by omega
                clear hlt3 hm
                obtain ⟨t, ht⟩ : ∃ t, inAt xl size i m = t := ⟨_, rfl⟩
                rw [ht]
                have HHs : Hid (hasB (sAt xl size m) (i : Int) = t) := by show _ = _; rw [has_nat, sAt_bit xl size m hz1 hz2, ht]
                clear ht
                go_wp2_with fail
                refine (bi_has _ _ (i : Int) (wf_i64 (by omega) (by omega)) _ F47.out (sAt_bytes _ _ _)).mono ?_
                rintro e W49 ⟨rfl, b50⟩
                have F51 := Lib.hid (F44.out.below b50)
                have F52 := Lib.hid (F45.out.below b50)
                have F53 := Lib.hid (F46.out.below b50)
                have F54 := Lib.hid (F47.out.below b50)
                have B55 := Lib.hid b50
                clear F44 F45 F46 F47
                clear b50
                rw [HHs.out]
                go_wp2_with fail
                exact ⟨⟨i + 1, HLT2.out, by simp, HE2.out.trans (B55.out.mono HE2.out.size)⟩, bi_lt HLT2.out⟩
          · obtain rfl : i = size := by omega
            clear hlt2 hi
            obtain ⟨WB, rfl⟩ : ∃ X, X = wr := ⟨_, rfl⟩
            go_wp2_with fail
            refine (bi_or _ _ _ _ _ F45.out F46.out HBa.out HBb.out (by have := Na.out; omega) (by have := Nb.out; omega)).mono ?_
            rintro e W49 ⟨v51, rfl, h52, b50⟩
            have F53 := Lib.hid (F44.out.below b50)
            have F54 := Lib.hid (F45.out.below b50)
            have F55 := Lib.hid (F46.out.below b50)
            have F56 := Lib.hid (F47.out.below b50)
            have B57 := Lib.hid (B48.out.trans (b50.mono B48.out.size))
            clear F44 F45 F46 F47 B48
            clear b50
            have F58 := Lib.hid h52
            clear h52
            obtain ⟨M, hM⟩ : ∃ M, max la lb = M := ⟨_, rfl⟩
            have hmax : ∀ (ts : Array TypeId) (t : TypeId) (W : World), (Builtin.max_ ts t #[.int .i64 (la : Int), .int .i64 (lb : Int)]).run Try.prog W = .ok (.int .i64 (M : Int)) W := fun ts t W => by
              rw [run_max_int2, ← hM]
              congr 2
              split <;> omega
            have hM40 : M ≤ 40 := by omega
            clear hM
            go_wp2_with fail
            go_loopw [16] (fun c wr => ∃ k : Nat, k ≤ 8 * M ∧ c = .int .i64 (k : Int) ∧ Hid (Below W49.heap.size W49 wr)) (fun c _ => 8 * M - (intOf c).toNat)
            case atStart => exact ⟨0, Nat.zero_le _, rfl, Below.refl _ _⟩
            case round =>
              obtain ⟨k9, hk9, rfl, HE3⟩ := hrel
              have F59 := Lib.hid (F53.out.below HE3.out)
              have F60 := Lib.hid (F54.out.below HE3.out)
              have F61 := Lib.hid (F55.out.below HE3.out)
              have F62 := Lib.hid (F56.out.below HE3.out)
              have F63 := Lib.hid (F58.out.below HE3.out)
              have B64 := Lib.hid (B57.out.trans (HE3.out.mono B57.out.size))
              clear F53 F54 F55 F56 F58 B57
              by_cases hlt4 : k9 < 8 * M
              · have HLT4 := Lib.hid hlt4
                have g4 : (k9 : Int) < 8 * (M : Int) := by omega
                have g5 : k9 ≤ 320 := by omega
                clear hlt4 hk9
                obtain ⟨ta, hta⟩ : ∃ t, bitAt xa k9 = t := ⟨_, rfl⟩
                obtain ⟨tb, htb⟩ : ∃ t, bitAt xb k9 = t := ⟨_, rfl⟩
                have Ho : Hid (hasB (orB xa xb) (k9 : Int) = (ta || tb)) := by show _ = _; rw [has_nat, or_bit, hta, htb]
                have Ha : Hid (hasB xa (k9 : Int) = ta) := by show _ = _; rw [has_nat, hta]
                have Hb : Hid (hasB xb (k9 : Int) = tb) := by show _ = _; rw [has_nat, htb]
                clear hta htb
                go_wp2_with fail
                refine (bi_has _ _ (k9 : Int) (wf_i64 (by omega) (by omega)) _ F63.out (or_bytes HBa.out HBb.out)).mono ?_
                rintro e W65 ⟨rfl, b66⟩
                have F67 := Lib.hid (F59.out.below b66)
                have F68 := Lib.hid (F60.out.below b66)
                have F69 := Lib.hid (F61.out.below b66)
                have F70 := Lib.hid (F62.out.below b66)
                have F71 := Lib.hid (F63.out.below b66)
                have B72 := Lib.hid b66
                clear F59 F60 F61 F62 F63
                clear b66
                rw [Ho.out]
                go_wp2_with fail
                refine (bi_has _ _ (k9 : Int) (wf_i64 (by omega) (by omega)) _ F68.out HBa.out).mono ?_
                rintro e W73 ⟨rfl, b74⟩
                have F75 := Lib.hid (F67.out.below b74)
                have F76 := Lib.hid (F68.out.below b74)
                have F77 := Lib.hid (F69.out.below b74)
                have F78 := Lib.hid (F70.out.below b74)
                have F79 := Lib.hid (F71.out.below b74)
                have B80 := Lib.hid (B72.out.trans (b74.mono B72.out.size))
                clear F67 F68 F69 F70 F71 B72
                clear b74
                rw [Ha.out]
                cases ta with
                | true =>
                  go_wp2_with fail
                  exact ⟨⟨k9 + 1, HLT4.out, by simp, HE3.out.trans (B80.out.mono HE3.out.size)⟩, bi_lt HLT4.out⟩
                | false =>
                  go_wp2_with fail
                  refine (bi_has _ _ (k9 : Int) (wf_i64 (by omega) (by omega)) _ F77.out HBb.out).mono ?_
                  rintro e W81 ⟨rfl, b82⟩
                  have F83 := Lib.hid (F75.out.below b82)
                  have F84 := Lib.hid (F76.out.below b82)
                  have F85 := Lib.hid (F77.out.below b82)
                  have F86 := Lib.hid (F78.out.below b82)
                  have F87 := Lib.hid (F79.out.below b82)
                  have B88 := Lib.hid (B80.out.trans (b82.mono B80.out.size))
                  clear F75 F76 F77 F78 F79 B80
                  clear b82
                  rw [Hb.out]
                  go_wp2_with fail
                  exact ⟨⟨k9 + 1, HLT4.out, by simp, HE3.out.trans (B88.out.mono HE3.out.size)⟩, bi_lt HLT4.out⟩
              · obtain rfl : k9 = 8 * M := by omega
                have g6 : ¬ (((8 * M : Nat) : Int) < 8 * (M : Int)) := by omega
                clear hlt4 hk9
                obtain ⟨WC, rfl⟩ : ∃ X, X = wr := ⟨_, rfl⟩
                go_wp2_with fail
                refine (bi_count _ _ _ F63.out (or_bytes HBa.out HBb.out) (by have := Na.out; have := Nb.out; first | omega | (simp only [or_length]; omega))).mono ?_
                rintro e W65 ⟨rfl, b66⟩
                have F67 := Lib.hid (F59.out.below b66)
                have F68 := Lib.hid (F60.out.below b66)
                have F69 := Lib.hid (F61.out.below b66)
                have F70 := Lib.hid (F62.out.below b66)
                have F71 := Lib.hid (F63.out.below b66)
                have B72 := Lib.hid (B64.out.trans (b66.mono B64.out.size))
                clear F59 F60 F61 F62 F63 B64
                clear b66
                go_wp2_with fail
                refine (bi_count _ _ _ F68.out HBa.out (by have := Na.out; have := Nb.out; first | omega | (simp only [or_length]; omega))).mono ?_
                rintro e W73 ⟨rfl, b74⟩
                have F75 := Lib.hid (F67.out.below b74)
                have F76 := Lib.hid (F68.out.below b74)
                have F77 := Lib.hid (F69.out.below b74)
                have F78 := Lib.hid (F70.out.below b74)
                have F79 := Lib.hid (F71.out.below b74)
                have B80 := Lib.hid (B72.out.trans (b74.mono B72.out.size))
                clear F67 F68 F69 F70 F71 B72
                clear b74
                go_wp2_with fail
                refine (bi_count _ _ _ F77.out HBb.out (by have := Na.out; have := Nb.out; first | omega | (simp only [or_length]; omega))).mono ?_
                rintro e W81 ⟨rfl, b82⟩
                have F83 := Lib.hid (F75.out.below b82)
                have F84 := Lib.hid (F76.out.below b82)
                have F85 := Lib.hid (F77.out.below b82)
                have F86 := Lib.hid (F78.out.below b82)
                have F87 := Lib.hid (F79.out.below b82)
                have B88 := Lib.hid (B80.out.trans (b82.mono B80.out.size))
                clear F75 F76 F77 F78 F79 B80
                clear b82
                obtain ⟨n1, h1⟩ : ∃ k, (allB (orB xa xb)).length = k := ⟨_, rfl⟩
                obtain ⟨n2, h2⟩ : ∃ k, (allB xa).length = k := ⟨_, rfl⟩
                obtain ⟨n3, h3⟩ : ∃ k, (allB xb).length = k := ⟨_, rfl⟩
                have g7 : (n1 : Int) ≤ (n2 : Int) + (n3 : Int) := by have := count_or xa xb; omega
                have g8 : n2 ≤ 320 := by have := all_len xa; have := Na.out; omega
                have g9 : n3 ≤ 320 := by have := all_len xb; have := Nb.out; omega
                rw [h1, h2, h3]
                clear h1 h2 h3
                go_wp2_with fail
                refine (bi_wakes _).mono ?_
                rintro e W89 ⟨rfl, b90⟩
                have F91 := Lib.hid (F83.out.below b90)
                have F92 := Lib.hid (F84.out.below b90)
                have F93 := Lib.hid (F85.out.below b90)
                have F94 := Lib.hid (F86.out.below b90)
                have F95 := Lib.hid (F87.out.below b90)
                have B96 := Lib.hid (B88.out.trans (b90.mono B88.out.size))
                clear F83 F84 F85 F86 F87 B88
                clear b90
                go_wp2_with fail
                go_ret
                exact ⟨rfl, B96.out⟩

set_option maxRecDepth 100000 in
theorem lifted (os : Os) (started : os.Started) (H : Type) (enc : TypeId × Value → H) :
    ReturnsInHanded {} Try.checked os 4 .any (Rows.bitsSetsSpec.pre6 enc Try.prog Try.f4 Rows.bitsSetsRow.domain false) (Rows.bitsSetsSpec.post enc Try.prog Try.f4 false true false false) := by
  refine returnsInHanded_of_change (C := Try.checked) own started (by kernel_rfl) Try.func4
    (ChangeSpec.witness6 (enc := enc) (C := Try.checked) false ⟨#[], #[.int .u8 0, .slice none 0 0, .agg #[.slice none 0 0, .slice none 0 0]], []⟩ 8 (by kernel_rfl) (by kernel_rfl) (by kernel_rfl) (by kernel_rfl)) ?_
  intro W base args ds gs before hval0 hW hcnd _
  have hval : ∀ (j : Nat) t v, Try.f4.params[j]? = some t → args[j]? = some v → Value.okWide Try.prog W .any base t v := hval0
  have hW' := hW
  obtain ⟨p, q, hA0, hV, rfl, hfz, hnd⟩ := hW
  have hA : DataW.TrodAll enc Try.prog W 0 (fun _ => true) true Try.f4.params.toList args.toList ds p := hA0
  rw [Try.params4] at hA hval
  obtain ⟨v0, vs0, d0, ds0, p0, q0, hargs, rfl, rfl, h0, r0⟩ := trodAll_cons hA
  obtain ⟨v1, vs1, d1, ds1, p1, q1, rfl, rfl, rfl, h1, r1⟩ := trodAll_cons r0
  obtain ⟨v2, vs2, d2, ds2, p2, q2, rfl, rfl, rfl, h2, r2⟩ := trodAll_cons r1
  obtain ⟨rfl, rfl, rfl⟩ := trodAll_nil r2
  obtain rfl : args = #[v0, v1, v2] := by cases args; simp_all
  obtain ⟨rfl, rfl⟩ := trodVars_none hV
  have lt0 : ∀ x ∈ p0, x.block < W.heap.size := by obtain ⟨m, hm⟩ := h0; exact DataW.trod_lt m _ _ _ hm
  have a0 := Arg.mk (hval 0 5 v0 rfl rfl) h0
  have lt1 : ∀ x ∈ p1, x.block < W.heap.size := by obtain ⟨m, hm⟩ := h1; exact DataW.trod_lt m _ _ _ hm
  have a1 := Arg.mk (hval 1 22 v1 rfl rfl) h1
  have lt2 : ∀ x ∈ p2, x.block < W.heap.size := by obtain ⟨m, hm⟩ := h2; exact DataW.trod_lt m _ _ _ hm
  have a2 := Arg.mk (hval 2 35 v2 rfl rfl) h2
  clear hA0 hval0
  refine (walk v0 v1 v2 W a0 a1 a2).mono fun e W' ⟨he, bel⟩ => ?_
  subst he
  exact ⟨_, rfl, _, _, _, [], _, [], hW', trodAll_mk1 (shut_bool Try.underlying4 _), (trodAll_cons_mk (Below.trod laidOut (by kernel_rfl) (of_decide_eq_true (by kernel_rfl)) h0 bel lt0) (trodAll_cons_mk (Below.trod laidOut (by kernel_rfl) (of_decide_eq_true (by kernel_rfl)) h1 bel lt1) (trodAll_cons_mk (Below.trod laidOut (by kernel_rfl) (of_decide_eq_true (by kernel_rfl)) h2 bel lt2) trodAll_mk0))), rfl, bel.frame _, fun h => by cases h⟩

set_option maxRecDepth 100000 in
theorem over : Rows.bitsSetsRow.holds Try.pinned (OpenSpec.ofChange Rows.bitsSetsSpec) :=
  OpenClaim.holds_of_wide 4 Try.f4 rfl rfl rfl rfl rfl rfl rfl ⟨rfl, rfl, rfl, rfl, rfl⟩ rfl rfl rfl rfl rfl (by kernel_rfl) Try.func4 (by kernel_rfl)
    (of_decide_eq_true (by kernel_rfl)) (by unfold Func.isWrapper; first | (rw [if_pos (by decide +kernel)]; kernel_rfl) | (rw [if_neg (by decide +kernel)]; exact ⟨rfl, rfl⟩))
    (fun os started H enc _ => lifted os started H enc)

theorem proved : Rows.BitsSetsSaid := over
#print axioms proved
end Go.Proofs.Ythehgpmggnnppaa.bitsSets
