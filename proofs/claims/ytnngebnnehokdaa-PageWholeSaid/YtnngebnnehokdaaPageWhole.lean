/- The pieces one behind the other are the bytes, and zeros behind. -/
import Derived.Test.YtnngebnnehokdaaPgArg
import Derived.Test.YtnngebnnehokdaaPgAt
import Derived.Test.YtnngebnnehokdaaPgWakes
import Derived.Test.YtnngebnnehokdaaPgRows
import Derived.Test.YtnngebnnehokdaaQuiet
namespace Go.Proofs.Ytnngebnnehokdaa.pageWhole
open Go.ChangeShapes Go.WideShapes Go.ChangeAt Go.RowKit
set_option linter.unusedVariables false
attribute [-simp] Try.isAgg27 Try.zeroValue27 Try.isAgg23 Try.zeroValue23 Try.isAgg25 Try.zeroValue25 Try.isAgg33 Try.zeroValue33
attribute [-go_sem] loadVar storeVar run_equalIn_agg
attribute [local go_sem] zero_blk build_blk zero_bod zero_pg build_pg build_pg0 zero_sec loadVar_open5 storeVar_open5

set_option maxRecDepth 100000 in
set_option maxHeartbeats 4000000 in
theorem walk (v0 : Value) (w : World) (w0 : Arg w 41 v0) :
    Calls Try.prog 6 #[v0] w fun e w' => e = .returned (.bool true) ∧ Below w.heap.size w w' := by
  obtain ⟨a0, len, cap, xs, rfl, hlen, hmax, hs, hb⟩ := w0.bytes Try.underlying41 Try.underlying5 (by kernel_rfl)
  have hl : len ≤ 9223372036854775807 := by unfold maxLen at hmax; omega
  have HS := Lib.hid hs
  have HB := Lib.hid hb
  have HL := Lib.hid hlen
  clear hs hb hlen hmax w0
  by_cases h0 : 5000 < len
  · have h0' : decide ((5000 : Int) < (len : Int)) = true := by simp; omega
    go_enter Try.func6, Try.ntmps6
    go_wp2_with fail
    go_at_call 14
    refine (pgWakes w).mono ?_
    rintro e w' ⟨rfl, hb⟩
    have HB2 := Lib.hid hb
    clear hb
    go_wp2_with fail
    go_ret
    exact ⟨rfl, HB2.out⟩
  · have h0' : decide ((5000 : Int) < (len : Int)) = false := by simp; omega
    have hl5 : len ≤ 5000 := by omega
    obtain ⟨m, hm⟩ : ∃ m, nPcs xs = m := ⟨_, rfl⟩
    have HM : Hid (m = (len + 47) / 48) := by show _ = _; rw [← hm, nPcs, HL.out]
    have hm1 : m ≤ 105 := by have := HM.out; omega
    have hd1 : Int.tdiv ((len : Int) + 48 - 1) 48 = (m : Int) := by rw [Int.tdiv_eq_ediv_of_nonneg (by omega)]; have := HM.out; omega
    have hd2 : Int.tdiv ((len : Int) + 47) 48 = (m : Int) := by rw [Int.tdiv_eq_ediv_of_nonneg (by omega)]; have := HM.out; omega
    go_enter Try.func6, Try.ntmps6
    go_wp2_with fail
    go_at_call 15
    refine (pgCut _ xs w HS.out (by rw [HL.out]; omega)).mono ?_
    rintro e w1 ⟨v1, rfl, ho, hb⟩
    rw [hm] at ho
    obtain ⟨ra, c, rfl, hf⟩ := row_form ho
    have B1 : Hid (Below w.heap.size w w1) := hb
    have S1 := Lib.hid (HS.out.below hb)
    have HF := Lib.hid hf
    clear ho hb hf h0' h0
    go_wp2_with fail
    clear hd1 hd2
    go_loop [4] (fun i => ∃ k : Nat, k ≤ 48 * m ∧ i = .int .i64 k) (fun i => 48 * m - (intOf i).toNat)
    case atStart => exact ⟨0, Nat.zero_le _, rfl⟩
    case round =>
      obtain ⟨k, hk, rfl⟩ := hrel
      by_cases hlt : k < 48 * m
      · have g1 : (k : Int) < (m : Int) * 48 := by omega
        have g2 : decide ((k : Int) < (m : Int) * 48) = true := by simpa using g1
        obtain ⟨g, hra, hgl, hrg⟩ := HF.out (by omega)
        subst hra
        obtain ⟨Q, hQ⟩ : ∃ Q, k / 48 = Q := ⟨_, rfl⟩
        obtain ⟨R, hR⟩ : ∃ R, k % 48 = R := ⟨_, rfl⟩
        have hQR : k = 48 * Q + R := by omega
        have hq : Int.tdiv (k : Int) 48 = (Q : Int) := by rw [Int.tdiv_eq_ediv_of_nonneg (by omega)]; omega
        have hr : Int.tmod (k : Int) 48 = (R : Int) := by rw [Int.tmod_eq_emod_of_nonneg (by omega)]; omega
        have hQm : (Q : Int) < (m : Int) := by omega
        have hR48 : (R : Int) < 48 := by omega
        have cc := hrg (48 * Q + R) _ (rows_cell xs m Q R (by omega) (by omega))
        rw [Nat.zero_add, ← hQR] at cc
        have hkQ : Q * 48 + R = k := by omega
        have HK := Lib.hid hQR
        by_cases hkl : k < len
        · have g3 : decide ((k : Int) < (len : Int)) = true := by simp; omega
          have g4 : (k : Int) < (len : Int) := by omega
          obtain ⟨b, off, ha, cx⟩ : ∃ b off, a0 = some ⟨b, off, none⟩ ∧ w1.cell? ⟨b, off + k, none⟩ = some (.int .u8 (xs[k]?.getD 0)) := by
            obtain ⟨a, cap', e, _, _, h, _⟩ := S1.out
            simp only [Value.slice.injEq] at e
            rcases h with h | ⟨b, off, ha, _, h⟩
            · exfalso; have := HL.out; rw [h] at this; simp at this; omega
            · exact ⟨b, off, e.1.trans ha, h k (by rw [HL.out]; exact hkl)⟩
          subst ha
          obtain ⟨y, hy⟩ : ∃ y, xs[k]?.getD 0 = y := ⟨_, rfl⟩
          rw [hy] at cx cc
          clear hy hQ hR hQR hlt hkl hrg
          go_wp2_with fail
          exact ⟨⟨k + 1, by omega, by go_num⟩, by simp [intOf]; omega⟩
        · have g3 : decide ((k : Int) < (len : Int)) = false := by simp; omega
          have g4 : ¬ (k : Int) < (len : Int) := by omega
          have hy : xs[k]?.getD 0 = 0 := by rw [List.getElem?_eq_none (by rw [HL.out]; omega)]; rfl
          rw [hy] at cc
          clear hy hQ hR hQR hlt hkl hrg
          go_wp2_with fail
          exact ⟨⟨k + 1, by omega, by go_num⟩, by simp [intOf]; omega⟩
      · have g2 : decide ((k : Int) < (m : Int) * 48) = false := by simp; omega
        have g1 : ¬ (k : Int) < (m : Int) * 48 := by omega
        go_wp2_with fail
        go_at_call 14
        refine (pgWakes w1).mono ?_
        rintro e w2 ⟨rfl, hb⟩
        have B2 : Hid (Below w.heap.size w w2) := B1.out.trans (hb.mono B1.out.size)
        clear hb
        go_wp2_with fail
        go_ret
        exact ⟨rfl, B2.out⟩

set_option maxRecDepth 100000 in
theorem lifted (os : Os) (started : os.Started) (H : Type) (enc : TypeId × Value → H) :
    ReturnsInHanded {} Try.checked os 6 .any (Rows.pageWholeSpec.pre6 enc Try.prog Try.f6 Rows.pageWholeRow.domain false) (Rows.pageWholeSpec.post enc Try.prog Try.f6 false true false false) := by
  refine returnsInHanded_of_change (C := Try.checked) own started (by kernel_rfl) Try.func6
    (ChangeSpec.witness6 (enc := enc) (C := Try.checked) false ⟨#[], #[.slice none 0 0], []⟩ 8 (by kernel_rfl) (by kernel_rfl) (by kernel_rfl) (by kernel_rfl)) ?_
  intro W base args ds gs before hval0 hW hcnd _
  have hval : ∀ (j : Nat) t v, Try.f6.params[j]? = some t → args[j]? = some v → Value.okWide Try.prog W .any base t v := hval0
  have hW' := hW
  obtain ⟨p, q, hA0, hV, rfl, hfz, hnd⟩ := hW
  have hA : DataW.TrodAll enc Try.prog W 0 (fun _ => true) true Try.f6.params.toList args.toList ds p := hA0
  rw [Try.params6] at hA hval
  obtain ⟨v0, vs0, d0, ds0, p0, q0, hargs, rfl, rfl, h0, r0⟩ := trodAll_cons hA
  obtain ⟨rfl, rfl, rfl⟩ := trodAll_nil r0
  obtain rfl : args = #[v0] := by cases args; simp_all
  obtain ⟨rfl, rfl⟩ := trodVars_none hV
  have lt0 : ∀ x ∈ p0, x.block < W.heap.size := by obtain ⟨m, hm⟩ := h0; exact DataW.trod_lt m _ _ _ hm
  have a0 := Arg.mk (hval 0 41 v0 rfl rfl) h0
  clear hA0 hval0
  refine (walk v0 W a0).mono fun e W' ⟨he, bel⟩ => ?_
  subst he
  exact ⟨_, rfl, _, _, _, [], _, [], hW', trodAll_mk1 (shut_bool Try.underlying4 _), (trodAll_cons_mk (Below.trod laidOut (by kernel_rfl) (of_decide_eq_true (by kernel_rfl)) h0 bel lt0) trodAll_mk0), rfl, bel.frame _, fun h => by cases h⟩

theorem over : Rows.pageWholeRow.holds Try.pinned (OpenSpec.ofChange Rows.pageWholeSpec) :=
  OpenClaim.holds_of_wide 6 Try.f6 rfl rfl rfl rfl rfl rfl rfl ⟨rfl, rfl, rfl, rfl, rfl⟩ rfl rfl rfl rfl rfl (by kernel_rfl) Try.func6 (by kernel_rfl)
    (of_decide_eq_true (by kernel_rfl)) (by unfold Func.isWrapper; first | (rw [if_pos (by decide +kernel)]; kernel_rfl) | (rw [if_neg (by decide +kernel)]; exact ⟨rfl, rfl⟩))
    (fun os started H enc _ => lifted os started H enc)

theorem proved : Rows.PageWholeSaid := over
#print axioms proved
end Go.Proofs.Ytnngebnnehokdaa.pageWhole
