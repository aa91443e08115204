/- Of a state with nothing all is free, and the least ones come first; so many and one more are not there. -/
import Derived.Test.YtiidfffedoekiaaPoLe
import Derived.Test.YtiidfffedoekiaaArgSl
namespace Go.Proofs.Ytiidfffedoekiaa.poolLeast
open Go.ChangeShapes Go.WideShapes Go.ChangeAt Go.RowKit
set_option linter.unusedVariables false
open Go.Shelf Go.Lib Go.Sort
set_option linter.unusedSimpArgs false
attribute [-simp] Try.isAgg39 Try.zeroValue39 Try.isAgg42 Try.zeroValue42 Try.isAgg48 Try.zeroValue48
attribute [-go_sem] loadVar storeVar
attribute [local go_sem] loadVar_openQ storeVar_openQ zero_sn zero_prs zero_st po_build_pair po_build_sn po_build_pl po_build_st po_build_st0

set_option maxRecDepth 100000 in
set_option maxHeartbeats 2000000 in
theorem walk (v0 v1 : Value) (w : World) (w0 : Arg w 5 v0) (w1 : Arg w 5 v1) :
    Calls Try.prog 8 #[v0, v1] w fun e w' => e = .returned (.bool true) ∧ Below w.heap.size w w' := by
  have hmx : Try.prog.follows .mixedOrders = true := by kernel_rfl
  obtain ⟨x, rfl, wx⟩ := w0.int Try.underlying5
  obtain ⟨hx0, hx1⟩ := bounds_u8 wx
  obtain ⟨y, rfl, wy⟩ := w1.int Try.underlying5
  obtain ⟨hy0, hy1⟩ := bounds_u8 wy
  obtain ⟨a, k, qa1, qa2, ha, qk1, qk2, hk, hw, hn0, hn1⟩ := le_idx hx0 (by omega) hy0 (by omega)
  have HT1 := Lib.hid (le_take a (by omega) (k : Int))
  obtain ⟨ok1, ok2⟩ := le_ok hk ha
  rw [ok1, ok2] at HT1
  have HF := Lib.hid (le_free a (by omega))
  have HU := Lib.hid le_used
  have HT2 := Lib.hid (le_take a (by omega) ((a : Int) + 1))
  obtain ⟨mo1, mo2⟩ := le_more ha
  rw [mo1, mo2] at HT2
  have HT3 := Lib.hid (le_take a (by omega) (-1))
  obtain ⟨ne1, ne2⟩ := le_neg a
  rw [ne1, ne2] at HT3
  have HA := Lib.hid ha
  have HKA := Lib.hid hk
  clear w0 w1 wx wy ok1 ok2 mo1 mo2 ne1 ne2
  go_enter Try.func8, Try.ntmps8
  go_wp2_with fail
  go_at_call 28
  refine (HT1.out _).mono ?_
  rintro e X1 ⟨⟨u0, u1, u2⟩, rfl, hi, hb⟩
  have E1 := Lib.hid hb
  have I1 := Lib.hid hi
  have hu1 : u1 = k := by
    obtain ⟨q', e, e2⟩ := own_slV hi
    simp only [slV, Value.slice.injEq] at e
    rw [List.length_map, List.length_range] at e2
    omega
  subst hu1
  have q0 : ((u1 : Int) == (u1 : Int)) = true := by simp
  have q0a : ((a : Int) == (a : Int)) = true := by simp
  simp only [slV] at I1 ⊢
  clear hi hb HT1 hx0 hx1 hy0 hy1 qa1 qa2 qk1 qk2 hn0 hn1
  go_wp2_with fail
  go_at_call 27
  refine (HF.out _).mono ?_
  rintro e X2 ⟨rfl, hb⟩
  have E2 : Hid (Below w.heap.size w X2) := E1.out.trans (hb.mono E1.out.size)
  have I2 := Lib.hid (I1.out.below hb)
  clear hb I1 E1 HF
  go_wp2_with fail
  go_at_call 26
  refine (HU.out _).mono ?_
  rintro e X3 ⟨⟨ua, uc, rfl⟩, hb⟩
  have E3 : Hid (Below w.heap.size w X3) := E2.out.trans (hb.mono E2.out.size)
  have I3 := Lib.hid (I2.out.below hb)
  clear hb I2 E2 HU
  go_wp2_with fail
  go_loopw [9] (fun iv wr => ∃ i : Nat, i ≤ u1 ∧ iv = .int .i64 (i : Int) ∧ wr = X3) (fun iv _ => u1 - (intOf iv).toNat)
  case atStart => exact ⟨0, Nat.zero_le _, rfl, rfl⟩
  case round =>
    obtain ⟨i, hi, rfl, rfl⟩ := hrel
    by_cases hlt : i < u1
    · have g1 : (i : Int) < (u1 : Int) := by omega
      have HWI : Hid (wrap64 ((i : Int) + 1) = (i : Int) + 1) := IntWalk.wrap64_in _ (by have := HA.out; have := HKA.out; omega)
      obtain ⟨g, rfl, -, c1⟩ := po_at (i := i) (y := (i : Int)) I3.out (by simp [hlt])
      have q1 : ((i : Int) == (i : Int)) = true := by simp
      have HLT := Lib.hid hlt
      clear hi hlt
      go_wp2_with fail
      exact ⟨⟨i + 1, HLT.out, by first | (simp; done) | (simp; exact HWI.out) | (rw [HWI.out]; simp), trivial⟩, by have := HLT.out; first | (simp [intOf]; omega) | (rw [HWI.out]; simp [intOf]; omega) | (simp [intOf, HWI.out]; omega)⟩
    · obtain rfl : i = u1 := by omega
      have g1 : ¬ (i : Int) < (i : Int) := by omega
      clear hi hlt
      go_wp2_with fail
      go_at_call 28
      refine (HT2.out _).mono ?_
      rintro e X4 ⟨⟨z0, z1, z2⟩, rfl, hi, hb⟩
      have E4 : Hid (Below w.heap.size w X4) := E3.out.trans (hb.mono E3.out.size)
      have hz1 : z1 = 0 := by
        obtain ⟨q', e, e2⟩ := own_slV hi
        simp only [slV, Value.slice.injEq] at e
        simp at e2
        omega
      subst hz1
      simp only [slV]
      clear hi hb E3 HT2 I3
      go_wp2_with fail
      go_at_call 28
      refine (HT3.out _).mono ?_
      rintro e X5 ⟨⟨k0, k1, k2⟩, rfl, hi, hb⟩
      have E5 : Hid (Below w.heap.size w X5) := E4.out.trans (hb.mono E4.out.size)
      have hk1 : k1 = 0 := by
        obtain ⟨q', e, e2⟩ := own_slV hi
        simp only [slV, Value.slice.injEq] at e
        simp at e2
        omega
      subst hk1
      simp only [slV]
      clear hi hb E4 HT3
      go_wp2_with fail
      refine (po_wakes _).mono ?_
      rintro e X6 ⟨rfl, hb⟩
      have E6 : Hid (Below w.heap.size w X6) := E5.out.trans (hb.mono E5.out.size)
      clear hb E5
      go_wp2_with fail
      go_ret
      exact ⟨rfl, E6.out⟩

set_option maxRecDepth 100000 in
theorem lifted (os : Os) (started : os.Started) (H : Type) (enc : TypeId × Value → H) :
    ReturnsInHanded {} Try.checked os 8 .any (Rows.poolLeastSpec.pre6 enc Try.prog Try.f8 Rows.poolLeastRow.domain false) (Rows.poolLeastSpec.post enc Try.prog Try.f8 false true false false) := by
  refine returnsInHanded_of_change (C := Try.checked) own started (by kernel_rfl) Try.func8
    (ChangeSpec.witness6 (enc := enc) (C := Try.checked) false ⟨#[], #[.int .u8 0, .int .u8 0], []⟩ 8 (by kernel_rfl) (by kernel_rfl) (by kernel_rfl) (by kernel_rfl)) ?_
  intro W base args ds gs before hval0 hW hcnd _
  have hval : ∀ (j : Nat) t v, Try.f8.params[j]? = some t → args[j]? = some v → Value.okWide Try.prog W .any base t v := hval0
  have hW' := hW
  obtain ⟨p, q, hA0, hV, rfl, hfz, hnd⟩ := hW
  have hA : DataW.TrodAll enc Try.prog W 0 (fun _ => true) true Try.f8.params.toList args.toList ds p := hA0
  rw [Try.params8] at hA hval
  obtain ⟨v0, vs0, d0, ds0, p0, q0, hargs, rfl, rfl, h0, r0⟩ := trodAll_cons hA
  obtain ⟨v1, vs1, d1, ds1, p1, q1, rfl, rfl, rfl, h1, r1⟩ := trodAll_cons r0
  obtain ⟨rfl, rfl, rfl⟩ := trodAll_nil r1
  obtain rfl : args = #[v0, v1] := by cases args; simp_all
  obtain ⟨rfl, rfl⟩ := trodVars_none hV
  have lt0 : ∀ x ∈ p0, x.block < W.heap.size := by obtain ⟨m, hm⟩ := h0; exact DataW.trod_lt m _ _ _ hm
  have a0 := Arg.mk (hval 0 5 v0 rfl rfl) h0
  have lt1 : ∀ x ∈ p1, x.block < W.heap.size := by obtain ⟨m, hm⟩ := h1; exact DataW.trod_lt m _ _ _ hm
  have a1 := Arg.mk (hval 1 5 v1 rfl rfl) h1
  clear hA0 hval0
  refine (walk v0 v1 W a0 a1).mono fun e W' ⟨he, bel⟩ => ?_
  subst he
  exact ⟨_, rfl, _, _, _, [], _, [], hW', trodAll_mk1 (shut_bool Try.underlying4 _), (trodAll_cons_mk (Below.trod laidOut (by kernel_rfl) (of_decide_eq_true (by kernel_rfl)) h0 bel lt0) (trodAll_cons_mk (Below.trod laidOut (by kernel_rfl) (of_decide_eq_true (by kernel_rfl)) h1 bel lt1) trodAll_mk0)), rfl, bel.frame _, fun h => by cases h⟩

set_option maxRecDepth 100000 in
theorem over : Rows.poolLeastRow.holds Try.pinned (OpenSpec.ofChange Rows.poolLeastSpec) :=
  OpenClaim.holds_of_wide 8 Try.f8 rfl rfl rfl rfl rfl rfl rfl ⟨rfl, rfl, rfl, rfl, rfl⟩ rfl rfl rfl rfl rfl (by kernel_rfl) Try.func8 (by kernel_rfl)
    (of_decide_eq_true (by kernel_rfl)) (by unfold Func.isWrapper; first | (rw [if_pos (by decide +kernel)]; kernel_rfl) | (rw [if_neg (by decide +kernel)]; exact ⟨rfl, rfl⟩))
    (fun os started H enc _ => lifted os started H enc)

theorem proved : Rows.PoolLeastSaid := over
#print axioms proved
end Go.Proofs.Ytiidfffedoekiaa.poolLeast
