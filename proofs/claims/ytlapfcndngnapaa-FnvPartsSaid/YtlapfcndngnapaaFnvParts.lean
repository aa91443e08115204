/- Whatever the bytes, the place and the checks, FnvParts returns true and leaves its arguments as they were; no conditions. -/
import Derived.Test.YtlapfcndngnapaaArgSl
import Derived.Test.YtlapfcndngnapaaKeep
import Derived.Test.YtlapfcndngnapaaMod
import Derived.Test.YtlapfcndngnapaaFnvWakes
import Derived.Test.YtlapfcndngnapaaQuiet
namespace Go.Proofs.Ytlapfcndngnapaa.fnvParts
open Go.ChangeShapes Go.WideShapes Go.ChangeAt Go.RowKit
set_option linter.unusedVariables false

set_option maxRecDepth 100000 in
set_option maxHeartbeats 2000000 in
theorem walk (v0 v1 v2 : Value) (w : World) (w0 : Arg w 23 v0) (w1 : Arg w 3 v1) (w2 : Arg w 31 v2) :
    Calls Try.prog 5 #[v0, v1, v2] w fun e w' => e = .returned (.bool true) ∧ Below w.heap.size w w' := by
  obtain ⟨a0, len0, cap0, xs, rfl, hlen, hmax, hs, hb⟩ := w0.bytes Try.underlying23 Try.underlying5 (by kernel_rfl)
  obtain ⟨a1, rfl, -⟩ := w1.int Try.underlying3
  obtain ⟨g, h, rfl, wg, wh⟩ := w2.two Try.underlying31 Try.underlying22 (by kernel_rfl) (by kernel_rfl)
  have hl : len0 ≤ 9223372036854775807 := by unfold maxLen at hmax; omega
  have HW := Lib.hid (wakes_any)
  have HS := Lib.hid hs
  have HB := Lib.hid hb
  have HL := Lib.hid hlen
  have HG : Hid (IsU64 g) := by have := bounds_u64 wg; exact ⟨this.1, by omega⟩
  have HH : Hid (IsU64 h) := by have := bounds_u64 wh; exact ⟨this.1, by omega⟩
  clear hs hb hlen hmax wg wh w0 w1 w2
  by_cases h0 : 20000 < len0
  · have h0' : (20000 : Int) < (len0 : Int) := by omega
    go_enter Try.func5, Try.ntmps5
    go_wp2_with fail
    refine (HW.out _).mono ?_
    rintro e w' ⟨rfl, hB⟩
    have HB2 : Hid (Below w.heap.size w w') := ((Below.refl _ w).alloc (Nat.le_refl _) _).trans (hB.mono (by simp))
    clear hB
    go_wp2_with fail
    go_ret
    exact ⟨rfl, HB2.out⟩
  · have h0' : ¬ (20000 : Int) < (len0 : Int) := by omega
    obtain ⟨K, hK⟩ : ∃ K : Nat, modI a1 ((len0 : Int) + 1) = (K : Int) := ⟨(modI a1 ((len0 : Int) + 1)).toNat, by have := (modI_bd (k := a1) (n := (len0 : Int) + 1) (by omega)).1; omega⟩
    have hKl : K ≤ len0 := by have := (modI_bd (k := a1) (n := (len0 : Int) + 1) (by omega)).2; omega
    have HM : Hid (∀ w : World, Calls Try.prog 13 #[.int .i64 a1, .int .i64 ((len0 : Int) + 1)] w fun e w' => e = .returned (.int .i64 (K : Int)) ∧ w' = w) := by
      intro w
      have := mod_any a1 ((len0 : Int) + 1) w (by omega)
      rw [hK] at this
      exact this
    clear hK
    go_enter Try.func5, Try.ntmps5
    go_wp2_with fail
    refine (HM.out _).mono ?_
    rintro e w' ⟨rfl, rfl⟩
    go_wp2_with fail
    obtain ⟨W, hW⟩ : ∃ W, w.alloc (.cells #[.int .u64 g, .int .u64 h] 31) = W := ⟨_, rfl⟩
    have BW : Below w.heap.size w W := by rw [← hW]; exact (Below.refl _ w).alloc (Nat.le_refl _) _
    have c0 : ∀ x : Ext W, x.1.cell? ⟨w.heap.size, 0, none⟩ = some (.int .u64 g) := fun x => (x.cell (p := ⟨w.heap.size, 0, none⟩) (by rw [← hW]; simp)).trans (by rw [← hW]; simp)
    have c1 : ∀ x : Ext W, x.1.cell? ⟨w.heap.size, 1, none⟩ = some (.int .u64 h) := fun x => (x.cell (p := ⟨w.heap.size, 1, none⟩) (by rw [← hW]; simp)).trans (by rw [← hW]; simp)
    have k0 : (0 : Int) ≤ (K : Int) := by omega
    have k1 : (K : Int) ≤ (len0 : Int) := by omega
    have k2 : (len0 : Int) ≤ (cap0 : Int) := by
      obtain ⟨a, c, e, h1, h2, _⟩ := HS.out
      simp at e
      have := HL.out
      omega
    rw [hW]
    refine region_ext (by kernel_rfl) (by kernel_rfl) ?_
    have S0 : ∀ x : Ext W, Sl .u8 x.1 (.slice a0 len0 cap0) xs := fun x => (HS.out.below BW).below (x.2)
    have S1 : ∀ x : Ext W, Sl .u8 x.1 (.slice a0 K cap0) (xs.take K) := fun x => (sl_hi (S0 x) hKl).2 _ (S0 x)
    obtain ⟨C1, hC1⟩ : ∃ c, fnvMore fnvInit (xs.take K) = c := ⟨_, rfl⟩
    obtain ⟨C0, hC0⟩ : ∃ c, fnvMore fnvInit xs = c := ⟨_, rfl⟩
    obtain ⟨G, hG⟩ : ∃ c, fnvMore g xs = c := ⟨_, rfl⟩
    obtain ⟨H, hH⟩ : ∃ c, fnvMore h xs = c := ⟨_, rfl⟩
    have hU1 : IsU64 C1 := by rw [← hC1]; exact isU64_more _ isU64_init
    have hD : fnvMore C1 (xs.drop K) = C0 := by rw [← hC1, ← fnvMore_append, List.take_append_drop, hC0]
    have hcc : (G == H) = (g == h) := by rw [Bool.eq_iff_iff, beq_iff_eq, beq_iff_eq, ← hG, ← hH]; exact more_eq HB.out HG.out HH.out
    have Q1 : Hid (∀ x : Ext W, Calls Try.prog 8 #[.slice a0 K cap0] x.1 fun e w'' => e = .returned (.int .u64 C1) ∧ ∃ y : Ext W, w'' = y.1) := fun x => calls_ext x (by rw [← hC1]; exact check_any _ _ _ (S1 x) (HB.out.take K))
    have Q0 : Hid (∀ x : Ext W, Calls Try.prog 8 #[.slice a0 len0 cap0] x.1 fun e w'' => e = .returned (.int .u64 C0) ∧ ∃ y : Ext W, w'' = y.1) := fun x => calls_ext x (by rw [← hC0]; exact check_any _ _ _ (S0 x) HB.out)
    have QG : Hid (∀ x : Ext W, Calls Try.prog 10 #[.int .u64 g, .slice a0 len0 cap0] x.1 fun e w'' => e = .returned (.int .u64 G) ∧ ∃ y : Ext W, w'' = y.1) := fun x => calls_ext x (by rw [← hG]; exact more_any _ _ _ _ HG.out (S0 x) HB.out)
    have QH : Hid (∀ x : Ext W, Calls Try.prog 10 #[.int .u64 h, .slice a0 len0 cap0] x.1 fun e w'' => e = .returned (.int .u64 H) ∧ ∃ y : Ext W, w'' = y.1) := fun x => calls_ext x (by rw [← hH]; exact more_any _ _ _ _ HH.out (S0 x) HB.out)
    have QW : Hid (∀ x : Ext W, Calls Try.prog 7 #[] x.1 fun e w'' => e = .returned (.bool true) ∧ ∃ y : Ext W, w'' = y.1) := fun x => calls_ext x (HW.out _)
    have S2 : ∀ x : Ext W, Sl .u8 x.1 (.slice (if cap0 = K then a0 else a0.map fun x => x.add K) (len0 - K) (cap0 - K)) (xs.drop K) := fun x => sl_lo_at (S0 x) hKl
    have Q2 : Hid (∀ x : Ext W, Calls Try.prog 10 #[.int .u64 C1, .slice (if cap0 = K then a0 else a0.map fun x => x.add K) (len0 - K) (cap0 - K)] x.1 fun e w'' => e = .returned (.int .u64 C0) ∧ ∃ y : Ext W, w'' = y.1) := fun x => calls_ext x (by rw [← hD]; exact more_any _ _ _ _ hU1 (S2 x) (HB.out.drop K))
    have BW' := Lib.hid BW
    clear S0 S1 S2 hD hU1 hC1 hC0 hG hH hW BW
    repeat (go_big_quiet_step (with_reducible (first | exact Q1.out _ | exact Q2.out _ | exact Q0.out _ | exact QG.out _ | exact QH.out _ | exact QW.out _)))
    refine wpQuiet_nil ?_
    intro x
    go_wp2_with fail
    all_goals
      go_ret
      exact ⟨rfl, BW'.out.trans (x.2.mono BW'.out.size)⟩

set_option maxRecDepth 100000 in
theorem lifted (os : Os) (started : os.Started) (H : Type) (enc : TypeId × Value → H) :
    ReturnsInHanded {} Try.checked os 5 .any (Rows.fnvPartsSpec.pre6 enc Try.prog Try.f5 Rows.fnvPartsRow.domain false) (Rows.fnvPartsSpec.post enc Try.prog Try.f5 false true false false) := by
  refine returnsInHanded_of_change (C := Try.checked) own started (by kernel_rfl) Try.func5
    (ChangeSpec.witness6 (enc := enc) (C := Try.checked) false ⟨#[], #[.slice none 0 0, .int .i64 0, .agg #[.int .u64 0, .int .u64 0]], []⟩ 8 (by kernel_rfl) (by kernel_rfl) (by kernel_rfl) (by kernel_rfl)) ?_
  intro W base args ds gs before hval0 hW hcnd _
  have hval : ∀ (j : Nat) t v, Try.f5.params[j]? = some t → args[j]? = some v → Value.okWide Try.prog W .any base t v := hval0
  have hW' := hW
  obtain ⟨p, q, hA0, hV, rfl, hfz, hnd⟩ := hW
  have hA : DataW.TrodAll enc Try.prog W 0 (fun _ => true) true Try.f5.params.toList args.toList ds p := hA0
  rw [Try.params5] at hA hval
  obtain ⟨v0, vs0, d0, ds0, p0, q0, hargs, rfl, rfl, h0, r0⟩ := trodAll_cons hA
  obtain ⟨v1, vs1, d1, ds1, p1, q1, rfl, rfl, rfl, h1, r1⟩ := trodAll_cons r0
  obtain ⟨v2, vs2, d2, ds2, p2, q2, rfl, rfl, rfl, h2, r2⟩ := trodAll_cons r1
  obtain ⟨rfl, rfl, rfl⟩ := trodAll_nil r2
  obtain rfl : args = #[v0, v1, v2] := by cases args; simp_all
  obtain ⟨rfl, rfl⟩ := trodVars_none hV
  have lt0 : ∀ x ∈ p0, x.block < W.heap.size := by obtain ⟨m, hm⟩ := h0; exact DataW.trod_lt m _ _ _ hm
  have a0 := Arg.mk (hval 0 23 v0 rfl rfl) h0
  have lt1 : ∀ x ∈ p1, x.block < W.heap.size := by obtain ⟨m, hm⟩ := h1; exact DataW.trod_lt m _ _ _ hm
  have a1 := Arg.mk (hval 1 3 v1 rfl rfl) h1
  have lt2 : ∀ x ∈ p2, x.block < W.heap.size := by obtain ⟨m, hm⟩ := h2; exact DataW.trod_lt m _ _ _ hm
  have a2 := Arg.mk (hval 2 31 v2 rfl rfl) h2
  clear hA0 hval0
  refine (walk v0 v1 v2 W a0 a1 a2).mono fun e W' ⟨he, bel⟩ => ?_
  subst he
  exact ⟨_, rfl, _, _, _, [], _, [], hW', trodAll_mk1 (shut_bool Try.underlying4 _), (trodAll_cons_mk (Below.trod laidOut (by kernel_rfl) (of_decide_eq_true (by kernel_rfl)) h0 bel lt0) (trodAll_cons_mk (Below.trod laidOut (by kernel_rfl) (of_decide_eq_true (by kernel_rfl)) h1 bel lt1) (trodAll_cons_mk (Below.trod laidOut (by kernel_rfl) (of_decide_eq_true (by kernel_rfl)) h2 bel lt2) trodAll_mk0))), rfl, bel.frame _, fun h => by cases h⟩

theorem over : Rows.fnvPartsRow.holds Try.pinned (OpenSpec.ofChange Rows.fnvPartsSpec) :=
  OpenClaim.holds_of_wide 5 Try.f5 rfl rfl rfl rfl rfl rfl rfl ⟨rfl, rfl, rfl, rfl, rfl⟩ rfl rfl rfl rfl rfl (by kernel_rfl) Try.func5 (by kernel_rfl)
    (of_decide_eq_true (by kernel_rfl)) (by unfold Func.isWrapper; first | (rw [if_pos (by decide +kernel)]; kernel_rfl) | (rw [if_neg (by decide +kernel)]; exact ⟨rfl, rfl⟩))
    (fun os started H enc _ => lifted os started H enc)

theorem proved : Rows.FnvPartsSaid := over
#print axioms proved
end Go.Proofs.Ytlapfcndngnapaa.fnvParts
