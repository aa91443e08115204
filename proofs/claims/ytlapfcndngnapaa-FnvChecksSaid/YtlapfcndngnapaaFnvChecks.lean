/- Whatever the check and the bytes, FnvChecks returns true and leaves its arguments as they were; no conditions. -/
import Derived.Test.YtlapfcndngnapaaFrame
import Derived.Test.YtlapfcndngnapaaKeep
import Derived.Test.YtlapfcndngnapaaFnvWakes
namespace Go.Proofs.Ytlapfcndngnapaa.fnvChecks
open Go.ChangeShapes Go.WideShapes Go.ChangeAt Go.RowKit
open Go.ChangeMaps (open_string shut_string)
set_option linter.unusedVariables false

set_option maxRecDepth 100000 in
set_option maxHeartbeats 2000000 in
theorem walk (a0 : Int) (a1 : Option Addr) (len1 cap1 : Nat) (z1 : List Int) (w : World) (w0 : (Lit.int .u64 a0).wf = true) (w1 : IsRow .u8 w a1 len1 cap1 z1) :
    Calls Try.prog 3 #[.int .u64 a0, .slice a1 len1 cap1] w fun e w' => e = .returned (.bool true) ∧ Below w.heap.size w w' := by
  obtain ⟨hs, hb, hlen⟩ := bytes_of_row w1
  obtain ⟨n0, n1⟩ := bounds_u64 w0
  have hl : len1 ≤ 9223372036854775807 := by
    obtain ⟨a, c, e, h1, h2, _⟩ := hs
    simp at e
    unfold maxLen at h2; omega
  have HW := Lib.hid (wakes_any)
  generalize hxs : z1.take len1 = xs at hs hb hlen
  have HS := Lib.hid hs
  have HB := Lib.hid hb
  have HL := Lib.hid hlen
  have HU : Hid (IsU64 a0) := ⟨n0, by omega⟩
  clear hxs hs hb hlen w0 w1 n0 n1
  by_cases h0 : 20000 < len1
  · have h0' : (20000 : Int) < (len1 : Int) := by omega
    go_enter Try.func3, Try.ntmps3
    go_wp2_with fail
    refine (HW.out _).mono ?_
    rintro e w' ⟨rfl, hB⟩
    have HB2 := Lib.hid hB
    clear hB
    go_wp2_with fail
    go_ret
    exact ⟨rfl, HB2.out⟩
  · have h0' : ¬ (20000 : Int) < (len1 : Int) := by omega
    obtain ⟨v3, w3, HA, HO, B3⟩ := copy_lit w (.slice a1 len1 cap1) xs HS.out (by have := HL.out; omega)
    have S4 : Hid (Sl .u8 w3 v3 xs) := Sl.of_owns HO.out
    have S5 : Hid (Sl .u8 w3 (.slice a1 len1 cap1) xs) := HS.out.below B3.out
    clear HO HS
    go_enter Try.func3, Try.ntmps3
    go_wp2_with (at_builtin; refine wpList_append_run (.tmp 10) (.tmp 11) 23 rfl rfl _ _ _ rfl rfl HA.out ?_)
    refine (check_any _ xs _ S4.out HB.out).mono ?_
    rintro e w4 ⟨rfl, hB⟩
    have S6 : Hid (Sl .u8 w4 v3 xs) := S4.out.below hB
    have S7 : Hid (Sl .u8 w4 (.slice a1 len1 cap1) xs) := S5.out.below hB
    have B4 : Hid (Below w.heap.size w w4) := B3.out.trans (hB.mono B3.out.size)
    clear hB S4 S5 B3 HA
    go_wp2_with fail
    refine (refCheck_any _ xs _ S7.out HB.out).mono ?_
    rintro e w' ⟨rfl, rfl⟩
    go_wp2_with fail
    refine (more_any a0 _ xs _ HU.out S6.out HB.out).mono ?_
    rintro e w5 ⟨rfl, hB⟩
    have S8 : Hid (Sl .u8 w5 v3 xs) := S6.out.below hB
    have S9 : Hid (Sl .u8 w5 (.slice a1 len1 cap1) xs) := S7.out.below hB
    have B5 : Hid (Below w.heap.size w w5) := B4.out.trans (hB.mono B4.out.size)
    clear hB S6 S7 B4
    go_wp2_with fail
    refine (refMore_any a0 _ xs _ HU.out S9.out HB.out).mono ?_
    rintro e w' ⟨rfl, rfl⟩
    go_wp2_with fail
    refine (bytes_yes v3 _ xs _ S8.out S9.out).mono ?_
    rintro e w' ⟨rfl, rfl⟩
    go_wp2_with fail
    refine (HW.out _).mono ?_
    rintro e w6 ⟨rfl, hB⟩
    have B6 : Hid (Below w.heap.size w w6) := B5.out.trans (hB.mono B5.out.size)
    clear hB
    go_wp2_with fail
    go_ret
    exact ⟨rfl, B6.out⟩

set_option maxRecDepth 100000 in
theorem lifted (os : Os) (started : os.Started) (H : Type) (enc : TypeId × Value → H) :
    ReturnsInHanded {} Try.checked os 3 .any (Rows.fnvChecksSpec.pre6 enc Try.prog Try.f3 Rows.fnvChecksRow.domain false) (Rows.fnvChecksSpec.post enc Try.prog Try.f3 false true false false) := by
  refine returnsInHanded_of_change (C := Try.checked) own started (by kernel_rfl) Try.func3
    (ChangeSpec.witness6 (enc := enc) (C := Try.checked) false ⟨#[], #[.int .u64 0, .slice none 0 0], []⟩ 8 (by kernel_rfl) (by kernel_rfl) (by kernel_rfl) (by kernel_rfl)) ?_
  intro W base args ds gs before hval0 hW hcnd _
  have hval : ∀ (j : Nat) t v, Try.f3.params[j]? = some t → args[j]? = some v → Value.okWide Try.prog W .any base t v := hval0
  have hW' := hW
  obtain ⟨p, q, hA0, hV, rfl, hfz, hnd⟩ := hW
  have hA : DataW.TrodAll enc Try.prog W 0 (fun _ => true) true Try.f3.params.toList args.toList ds p := hA0
  rw [Try.params3] at hA hval
  obtain ⟨v0, vs0, d0, ds0, p0, q0, hargs, rfl, rfl, h0, r0⟩ := trodAll_cons hA
  obtain ⟨v1, vs1, d1, ds1, p1, q1, rfl, rfl, rfl, h1, r1⟩ := trodAll_cons r0
  obtain ⟨rfl, rfl, rfl⟩ := trodAll_nil r1
  obtain rfl : args = #[v0, v1] := by cases args; simp_all
  obtain ⟨rfl, rfl⟩ := trodVars_none hV
  obtain ⟨a0, rfl, rfl, rfl, w0⟩ := open_int Try.underlying22 (hval 0 22 v0 rfl rfl) h0
  obtain ⟨a1, len1, cap1, rfl⟩ := okWide_slice Try.underlying23 (hval 1 23 v1 rfl rfl)
  have k1 := h1
  have lt1 : ∀ x ∈ p1, x.block < W.heap.size := by obtain ⟨m, hm⟩ := k1; exact DataW.trod_lt m _ _ _ hm
  obtain ⟨z1, w1⟩ : ∃ zs, IsRow .u8 W a1 len1 cap1 zs := by
    obtain ⟨fuel, hf⟩ := h1
    rcases open_ints Try.underlying23 Try.underlying5 (by kernel_rfl) hf with ⟨hcs, _⟩ | ⟨x, l, c, zs, hcs, _, hl, hm, hz, _, hcell, hwz⟩
    · simp [Value.cells] at hcs
      obtain ⟨rfl, rfl, rfl⟩ := hcs
      exact ⟨[], .inl ⟨rfl, rfl, rfl, rfl⟩⟩
    · simp [Value.cells] at hcs
      obtain ⟨rfl, rfl, rfl⟩ := hcs
      exact ⟨zs, .inr ⟨_, rfl, hl, hm, by simpa using hz, hcell, hwz⟩⟩
  clear hA0 hval0
  refine (walk a0 a1 len1 cap1 z1 W w0 w1).mono fun e W' ⟨he, bel⟩ => ?_
  subst he
  exact ⟨_, rfl, _, _, _, [], _, [], hW', trodAll_mk1 (shut_bool Try.underlying4 _), (trodAll_cons_mk (shut_int Try.underlying22 w0) (trodAll_cons_mk (Below.trod laidOut (by kernel_rfl) (of_decide_eq_true (by kernel_rfl)) k1 bel lt1) trodAll_mk0)), rfl, bel.frame _, fun h => by cases h⟩

theorem over : Rows.fnvChecksRow.holds Try.pinned (OpenSpec.ofChange Rows.fnvChecksSpec) :=
  OpenClaim.holds_of_wide 3 Try.f3 rfl rfl rfl rfl rfl rfl rfl ⟨rfl, rfl, rfl, rfl, rfl⟩ rfl rfl rfl rfl rfl (by kernel_rfl) Try.func3 (by kernel_rfl)
    (of_decide_eq_true (by kernel_rfl)) (by unfold Func.isWrapper; first | (rw [if_pos (by decide +kernel)]; kernel_rfl) | (rw [if_neg (by decide +kernel)]; exact ⟨rfl, rfl⟩))
    (fun os started H enc _ => lifted os started H enc)

theorem proved : Rows.FnvChecksSaid := over
#print axioms proved
end Go.Proofs.Ytlapfcndngnapaa.fnvChecks
