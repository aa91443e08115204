/- Whatever the bytes and the two bytes, FnvSteps returns true and leaves its arguments as they were; no conditions. -/
import Derived.Test.YtlapfcndngnapaaFrame
import Derived.Test.YtlapfcndngnapaaKeep
import Derived.Test.YtlapfcndngnapaaFnvWakes
namespace Go.Proofs.Ytlapfcndngnapaa.fnvSteps
open Go.ChangeShapes Go.WideShapes Go.ChangeAt Go.RowKit
open Go.ChangeMaps (open_string shut_string)
set_option linter.unusedVariables false

set_option maxRecDepth 100000 in
set_option maxHeartbeats 2000000 in
theorem walk (a0 : Option Addr) (len0 cap0 : Nat) (z0 : List Int) (a1 : Int) (a2 : Int) (w : World) (w0 : IsRow .u8 w a0 len0 cap0 z0) (w1 : (Lit.int .u8 a1).wf = true) (w2 : (Lit.int .u8 a2).wf = true) :
    Calls Try.prog 6 #[.slice a0 len0 cap0, .int .u8 a1, .int .u8 a2] w fun e w' => e = .returned (.bool true) ∧ Below w.heap.size w w' := by
  obtain ⟨hs, hb, hlen⟩ := bytes_of_row w0
  have v0 := bounds_u8 w1
  have x0 := bounds_u8 w2
  have hl : len0 ≤ 9223372036854775807 := by
    obtain ⟨a, c, e, h1, h2, _⟩ := hs
    simp at e
    unfold maxLen at h2; omega
  have HW := Lib.hid (wakes_any)
  generalize hxs : z0.take len0 = xs at hs hb hlen
  have HS := Lib.hid hs
  have HB := Lib.hid hb
  have HL := Lib.hid hlen
  have V1 : Hid (0 ≤ a1 ∧ a1 < 256) := ⟨v0.1, by omega⟩
  have V2 : Hid (0 ≤ a2 ∧ a2 < 256) := ⟨x0.1, by omega⟩
  clear hxs hs hb hlen w0 w1 w2
  obtain ⟨v1, v2⟩ := v0
  obtain ⟨x1, x2⟩ := x0
  by_cases h0 : 20000 < len0
  · have h0' : (20000 : Int) < (len0 : Int) := by omega
    go_enter Try.func6, Try.ntmps6
    go_wp2_with fail
    refine (HW.out _).mono ?_
    rintro e w' ⟨rfl, hB⟩
    have HB2 := Lib.hid hB
    clear hB
    go_wp2_with fail
    go_ret
    exact ⟨rfl, HB2.out⟩
  · have h0' : ¬ (20000 : Int) < (len0 : Int) := by omega
    obtain ⟨H, hH⟩ : ∃ H, fnvMore fnvInit xs = H := ⟨_, rfl⟩
    obtain ⟨C, hC⟩ : ∃ C, fnvStep H a1 = C := ⟨_, rfl⟩
    have HUH : Hid (IsU64 H) := by show IsU64 H; rw [← hH]; exact isU64_more _ isU64_init
    have HX : Hid (fnvMore fnvInit (xs ++ [a1]) = C) := by show _ = _; rw [fnvMore_snoc, hH, hC]
    have H1 : Hid (fnvMore H [a1] = C) := hC
    have hC' : IntKind.u64.wrap (bits BinOp.xor IntKind.u64 H a1 * 1099511628211) = C := hC
    obtain ⟨c1, hc1⟩ : ∃ c, fnvMore fnvInit [a1] = c := ⟨_, rfl⟩
    obtain ⟨c2, hc2⟩ : ∃ c, fnvMore fnvInit [a2] = c := ⟨_, rfl⟩
    have HE : Hid (c1 = c2 ↔ a1 = a2) := by show _ ↔ _; rw [← hc1, ← hc2]; exact one_eq V1.out V2.out
    have HC1 := Lib.hid hc1
    have HC2 := Lib.hid hc2
    have HH := Lib.hid hH
    have HC' := Lib.hid hC'
    clear hC hH hc1 hc2 hC'
    go_enter Try.func6, Try.ntmps6
    go_wp2_with fail
    have hk := check_any _ xs _ HS.out HB.out
    rw [HH.out] at hk
    refine hk.mono ?_
    clear hk
    rintro e w1 ⟨rfl, hB⟩
    have S1 : Hid (Sl .u8 w1 (.slice a0 len0 cap0) xs) := HS.out.below hB
    have B1 : Hid (Below w.heap.size w w1) := Lib.hid hB
    clear hB HS
    obtain ⟨vc, wc, HA, HO, BC⟩ := copy_lit w1 (.slice a0 len0 cap0) xs S1.out (by have := HL.out; omega)
    have hlit := row_new wc [a1]
    obtain ⟨vd, wd, hrun, hod, hgd⟩ := run_append_bytes w1.heap.size (wc.alloc (.cells #[.int .u8 a1] 5)) vc xs (HO.out.alloc _) (.slice (some ⟨wc.heap.size, 0, none⟩) 1 1) [a1] (sl_new hlit (by simp [maxLen])) (by have := HL.out; simp; omega) (by have := BC.out.size; simp; omega)
    have HA2 := Lib.hid hrun
    have S2 : Hid (Sl .u8 wd vd (xs ++ [a1])) := Sl.of_owns hod
    have BX : Below w.heap.size w wc := B1.out.trans (BC.out.mono B1.out.size)
    have B2 : Hid (Below w.heap.size w wd) := (BX.alloc BX.size _).grown hgd (by have := BX.size; simp; omega) (fun k e => Nat.le_trans B1.out.size (HO.out.lt k e).1)
    clear hrun hod hgd hlit BC HO S1 BX B1
    go_wp2_with (first | (at_builtin; refine wpList_append_run (.tmp 15) (.tmp 16) 23 rfl rfl _ _ _ rfl rfl HA.out ?_) | (at_builtin; refine wpList_append_run (.tmp 17) (.tmp 19) 23 rfl rfl _ _ _ rfl rfl HA2.out ?_))
    have hk := check_any _ (xs ++ [a1]) _ S2.out (HB.out.snoc V1.out)
    rw [HX.out] at hk
    refine hk.mono ?_
    clear hk
    rintro e w3 ⟨rfl, hB⟩
    have S3 : Hid (Sl .u8 w3 vd (xs ++ [a1])) := S2.out.below hB
    have B3 : Hid (Below w.heap.size w w3) := B2.out.trans (hB.mono B2.out.size)
    clear hB S2 B2 HA HA2
    have hq := HC'.out
    go_wp2_with fail
    clear hq
    have hk := more_any H _ [a1] _ HUH.out (sl_new (row_new w3 [a1]) (by simp [maxLen])) (bytes_one V1.out)
    rw [H1.out] at hk
    refine hk.mono ?_
    clear hk
    rintro e w4 ⟨rfl, hB⟩
    have BX : Below w3.heap.size w3 w4 := ((Below.refl _ w3).alloc (Nat.le_refl _) _).trans (hB.mono (by simp))
    have S4 : Hid (Sl .u8 w4 vd (xs ++ [a1])) := S3.out.below BX
    have B4 : Hid (Below w.heap.size w w4) := B3.out.trans (BX.mono B3.out.size)
    clear hB S3 B3 BX
    go_wp2_with fail
    have hk := check_any _ (xs ++ [a1]) _ S4.out (HB.out.snoc V1.out)
    rw [HX.out] at hk
    refine hk.mono ?_
    clear hk
    rintro e w5 ⟨rfl, hB⟩
    have B5 : Hid (Below w.heap.size w w5) := B4.out.trans (hB.mono B4.out.size)
    clear hB S4 B4
    go_wp2_with fail
    have hk := check_any _ [a1] _ (sl_new (row_new w5 [a1]) (by simp [maxLen])) (bytes_one V1.out)
    rw [HC1.out] at hk
    refine hk.mono ?_
    clear hk
    rintro e w6 ⟨rfl, hB⟩
    have BX : Below w5.heap.size w5 w6 := ((Below.refl _ w5).alloc (Nat.le_refl _) _).trans (hB.mono (by simp))
    have B6 : Hid (Below w.heap.size w w6) := B5.out.trans (BX.mono B5.out.size)
    clear hB B5 BX
    go_wp2_with fail
    have hk := check_any _ [a2] _ (sl_new (row_new w6 [a2]) (by simp [maxLen])) (bytes_one V2.out)
    rw [HC2.out] at hk
    refine hk.mono ?_
    clear hk
    rintro e w7 ⟨rfl, hB⟩
    have BX : Below w6.heap.size w6 w7 := ((Below.refl _ w6).alloc (Nat.le_refl _) _).trans (hB.mono (by simp))
    have B7 : Hid (Below w.heap.size w w7) := B6.out.trans (BX.mono B6.out.size)
    clear hB B6 BX
    have hcc : (c1 == c2) = (a1 == a2) := by rw [Bool.eq_iff_iff, beq_iff_eq, beq_iff_eq]; exact HE.out
    go_wp2_with fail
    refine (HW.out _).mono ?_
    rintro e w8 ⟨rfl, hB⟩
    have B8 : Hid (Below w.heap.size w w8) := B7.out.trans (hB.mono B7.out.size)
    clear hB B7
    go_wp2_with fail
    go_ret
    exact ⟨rfl, B8.out⟩

set_option maxRecDepth 100000 in
theorem lifted (os : Os) (started : os.Started) (H : Type) (enc : TypeId × Value → H) :
    ReturnsInHanded {} Try.checked os 6 .any (Rows.fnvStepsSpec.pre6 enc Try.prog Try.f6 Rows.fnvStepsRow.domain false) (Rows.fnvStepsSpec.post enc Try.prog Try.f6 false true false false) := by
  refine returnsInHanded_of_change (C := Try.checked) own started (by kernel_rfl) Try.func6
    (ChangeSpec.witness6 (enc := enc) (C := Try.checked) false ⟨#[], #[.slice none 0 0, .int .u8 0, .int .u8 0], []⟩ 8 (by kernel_rfl) (by kernel_rfl) (by kernel_rfl) (by kernel_rfl)) ?_
  intro W base args ds gs before hval0 hW hcnd _
  have hval : ∀ (j : Nat) t v, Try.f6.params[j]? = some t → args[j]? = some v → Value.okWide Try.prog W .any base t v := hval0
  have hW' := hW
  obtain ⟨p, q, hA0, hV, rfl, hfz, hnd⟩ := hW
  have hA : DataW.TrodAll enc Try.prog W 0 (fun _ => true) true Try.f6.params.toList args.toList ds p := hA0
  rw [Try.params6] at hA hval
  obtain ⟨v0, vs0, d0, ds0, p0, q0, hargs, rfl, rfl, h0, r0⟩ := trodAll_cons hA
  obtain ⟨v1, vs1, d1, ds1, p1, q1, rfl, rfl, rfl, h1, r1⟩ := trodAll_cons r0
  obtain ⟨v2, vs2, d2, ds2, p2, q2, rfl, rfl, rfl, h2, r2⟩ := trodAll_cons r1
  obtain ⟨rfl, rfl, rfl⟩ := trodAll_nil r2
  obtain rfl : args = #[v0, v1, v2] := by cases args; simp_all
  obtain ⟨rfl, rfl⟩ := trodVars_none hV
  obtain ⟨a0, len0, cap0, rfl⟩ := okWide_slice Try.underlying23 (hval 0 23 v0 rfl rfl)
  have k0 := h0
  have lt0 : ∀ x ∈ p0, x.block < W.heap.size := by obtain ⟨m, hm⟩ := k0; exact DataW.trod_lt m _ _ _ hm
  obtain ⟨z0, w0⟩ : ∃ zs, IsRow .u8 W a0 len0 cap0 zs := by
    obtain ⟨fuel, hf⟩ := h0
    rcases open_ints Try.underlying23 Try.underlying5 (by kernel_rfl) hf with ⟨hcs, _⟩ | ⟨x, l, c, zs, hcs, _, hl, hm, hz, _, hcell, hwz⟩
    · simp [Value.cells] at hcs
      obtain ⟨rfl, rfl, rfl⟩ := hcs
      exact ⟨[], .inl ⟨rfl, rfl, rfl, rfl⟩⟩
    · simp [Value.cells] at hcs
      obtain ⟨rfl, rfl, rfl⟩ := hcs
      exact ⟨zs, .inr ⟨_, rfl, hl, hm, by simpa using hz, hcell, hwz⟩⟩
  obtain ⟨a1, rfl, rfl, rfl, w1⟩ := open_int Try.underlying5 (hval 1 5 v1 rfl rfl) h1
  obtain ⟨a2, rfl, rfl, rfl, w2⟩ := open_int Try.underlying5 (hval 2 5 v2 rfl rfl) h2
  clear hA0 hval0
  refine (walk a0 len0 cap0 z0 a1 a2 W w0 w1 w2).mono fun e W' ⟨he, bel⟩ => ?_
  subst he
  exact ⟨_, rfl, _, _, _, [], _, [], hW', trodAll_mk1 (shut_bool Try.underlying4 _), (trodAll_cons_mk (Below.trod laidOut (by kernel_rfl) (of_decide_eq_true (by kernel_rfl)) k0 bel lt0) (trodAll_cons_mk (shut_int Try.underlying5 w1) (trodAll_cons_mk (shut_int Try.underlying5 w2) trodAll_mk0))), rfl, bel.frame _, fun h => by cases h⟩

theorem over : Rows.fnvStepsRow.holds Try.pinned (OpenSpec.ofChange Rows.fnvStepsSpec) :=
  OpenClaim.holds_of_wide 6 Try.f6 rfl rfl rfl rfl rfl rfl rfl ⟨rfl, rfl, rfl, rfl, rfl⟩ rfl rfl rfl rfl rfl (by kernel_rfl) Try.func6 (by kernel_rfl)
    (of_decide_eq_true (by kernel_rfl)) (by unfold Func.isWrapper; first | (rw [if_pos (by decide +kernel)]; kernel_rfl) | (rw [if_neg (by decide +kernel)]; exact ⟨rfl, rfl⟩))
    (fun os started H enc _ => lifted os started H enc)

theorem proved : Rows.FnvStepsSaid := over
#print axioms proved
end Go.Proofs.Ytlapfcndngnapaa.fnvSteps
