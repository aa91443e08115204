/- Whatever the number, the size and the bytes, LePuts returns true and leaves its arguments as they were; no conditions. -/
import Derived.Test.YtplmobijconfeaaFrame
namespace Go.Proofs.Ytplmobijconfeaa.lePuts
open Go.ChangeShapes Go.WideShapes Go.ChangeAt Go.RowKit
open Go.ChangeMaps (open_string shut_string)
set_option linter.unusedVariables false

set_option maxRecDepth 100000 in
set_option maxHeartbeats 2000000 in
theorem walk (a0 : Int) (a1 : Int) (a2 : Option Addr) (len2 cap2 : Nat) (z2 : List Int) (w : World) (w0 : (Lit.int .u64 a0).wf = true) (w1 : (Lit.int .i64 a1).wf = true) (w2 : IsRow .u8 w a2 len2 cap2 z2) :
    Calls Try.prog 3 #[.int .u64 a0, .int .i64 a1, .slice a2 len2 cap2] w fun e w' => e = .returned (.bool true) ∧ Below w.heap.size w w' := by
  obtain ⟨hs, hb, hlen⟩ := bytes_of_row w2
  obtain ⟨n0, n1⟩ := bounds_u64 w0
  have hcap : cap2 ≤ 9223372036854775807 := by
    obtain ⟨a, c, e, h1, h2, _⟩ := hs
    simp at e
    unfold maxLen at h2; omega
  have hl2 : len2 ≤ 9223372036854775807 := by
    obtain ⟨a, c, e, h1, h2, _⟩ := hs
    unfold maxLen at h2; omega
  have HW := Lib.hid (wakes_any)
  generalize hxs : z2.take len2 = xs at hs hb hlen
  have HS := Lib.hid hs
  have HB := Lib.hid hb
  have HL := Lib.hid hlen
  clear hxs hs hb hlen w0 w1 w2
  by_cases h0 : 5000 < len2
  · have h0' : (5000 : Int) < (len2 : Int) := by omega
    go_enter Try.func3, Try.ntmps3
    go_wp2_with fail
    refine (HW.out _).mono ?_
    rintro e w' ⟨rfl, hB⟩
    have HB2 := Lib.hid hB
    clear hB
    go_wp2_with fail
    go_ret
    exact ⟨rfl, HB2.out⟩
  · have h0' : ¬ (5000 : Int) < (len2 : Int) := by omega
    go_enter Try.func3, Try.ntmps3
    go_wp2_with fail
    refine (put_any a0 a1 _ n0 (by omega)).mono ?_
    rintro e w1 ⟨v1, rfl, ho1, hB1⟩
    have S1 : Hid (Sl .u8 w1 v1 (putZ a0 a1)) := Sl.of_owns ho1
    have B1 := Lib.hid hB1
    clear ho1 hB1
    go_wp2_with fail
    refine (refPut_any a0 a1 _ n0 (by omega)).mono ?_
    rintro e w2 ⟨v2, rfl, ho2, hB2⟩
    have S2 : Hid (Sl .u8 w2 v2 (putZ a0 a1)) := Sl.of_owns ho2
    have S1' : Hid (Sl .u8 w2 v1 (putZ a0 a1)) := S1.out.below hB2
    have B2 : Hid (Below w.heap.size w w2) := B1.out.trans (hB2.mono B1.out.size)
    clear ho2 hB2 S1 B1
    go_wp2_with fail
    refine (bytes_yes v1 v2 _ _ S1'.out S2.out).mono ?_
    rintro e w' ⟨rfl, rfl⟩
    have S3 : Hid (Sl .u8 w' (.slice a2 len2 cap2) xs) := HS.out.below B2.out
    clear S1' S2
    have ho0 : (w'.alloc (.cells #[] 5)).ownsRow w'.heap.size 5 1 (.slice (some ⟨w'.heap.size, 0, none⟩) 0 0) ([] : List Int).length (([] : List Int).map (Value.int .u8)) := World.ownsRow_lit w' #[] 0 (Nat.le_refl _) (by unfold maxLen; omega) rfl
    obtain ⟨v3, w3, hrun, ho3, hg3⟩ := run_append_bytes w'.heap.size (w'.alloc (.cells #[] 5)) _ [] ho0 (.slice a2 len2 cap2) xs (S3.out.below ((Below.refl _ _).alloc (Nat.le_refl _) _)) (by have := HL.out; simp; omega) (by simp)
    have hgB : Below w'.heap.size w' w3 := ((Below.refl _ _).alloc (Nat.le_refl _) _).grown hg3 (by simp) (fun k e => by simp [Value.ownBlock] at e; omega)
    have S4 : Hid (Sl .u8 w3 v3 xs) := Lib.hid (by
      have := Sl.of_owns ho3
      simpa using this)
    have S5 : Hid (Sl .u8 w3 (.slice a2 len2 cap2) xs) := S3.out.below hgB
    have B3 : Hid (Below w.heap.size w w3) := B2.out.trans (hgB.mono B2.out.size)
    clear ho0 ho3 hg3 hgB S3
    have HA := Lib.hid hrun
    clear hrun
    go_wp2_with (at_builtin; refine wpList_append_run (.tmp 19) (.tmp 20) 23 rfl rfl _ _ _ rfl rfl HA.out ?_)
    refine (get_any v3 xs _ S4.out HB.out).mono ?_
    rintro e w4 ⟨rfl, hB4⟩
    have S6 : Hid (Sl .u8 w4 (.slice a2 len2 cap2) xs) := S5.out.below hB4
    have B4 : Hid (Below w.heap.size w w4) := B3.out.trans (hB4.mono B3.out.size)
    clear hB4 S5 S4 B3
    go_wp2_with fail
    refine (refGet_any _ xs _ S6.out HB.out).mono ?_
    rintro e w' ⟨rfl, rfl⟩
    go_wp2_with fail
    refine (HW.out _).mono ?_
    rintro e w5 ⟨rfl, hB5⟩
    have B5 : Hid (Below w.heap.size w w5) := B4.out.trans (hB5.mono B4.out.size)
    clear hB5
    go_wp2_with fail
    go_ret
    exact ⟨rfl, B5.out⟩

set_option maxRecDepth 100000 in
theorem lifted (os : Os) (started : os.Started) (H : Type) (enc : TypeId × Value → H) :
    ReturnsInHanded {} Try.checked os 3 .any (Rows.lePutsSpec.pre6 enc Try.prog Try.f3 Rows.lePutsRow.domain false) (Rows.lePutsSpec.post enc Try.prog Try.f3 false true false false) := by
  refine returnsInHanded_of_change (C := Try.checked) own started (by kernel_rfl) Try.func3
    (ChangeSpec.witness6 (enc := enc) (C := Try.checked) false ⟨#[], #[.int .u64 0, .int .i64 0, .slice none 0 0], []⟩ 8 (by kernel_rfl) (by kernel_rfl) (by kernel_rfl) (by kernel_rfl)) ?_
  intro W base args ds gs before hval0 hW hcnd _
  have hval : ∀ (j : Nat) t v, Try.f3.params[j]? = some t → args[j]? = some v → Value.okWide Try.prog W .any base t v := hval0
  have hW' := hW
  obtain ⟨p, q, hA0, hV, rfl, hfz, hnd⟩ := hW
  have hA : DataW.TrodAll enc Try.prog W 0 (fun _ => true) true Try.f3.params.toList args.toList ds p := hA0
  rw [Try.params3] at hA hval
  obtain ⟨v0, vs0, d0, ds0, p0, q0, hargs, rfl, rfl, h0, r0⟩ := trodAll_cons hA
  obtain ⟨v1, vs1, d1, ds1, p1, q1, rfl, rfl, rfl, h1, r1⟩ := trodAll_cons r0
  obtain ⟨v2, vs2, d2, ds2, p2, q2, rfl, rfl, rfl, h2, r2⟩ := trodAll_cons r1
  obtain ⟨rfl, rfl, rfl⟩ := trodAll_nil r2
  obtain rfl : args = #[v0, v1, v2] := by cases args; simp_all
  obtain ⟨rfl, rfl⟩ := trodVars_none hV
  obtain ⟨a0, rfl, rfl, rfl, w0⟩ := open_int Try.underlying22 (hval 0 22 v0 rfl rfl) h0
  obtain ⟨a1, rfl, rfl, rfl, w1⟩ := open_int Try.underlying3 (hval 1 3 v1 rfl rfl) h1
  obtain ⟨a2, len2, cap2, rfl⟩ := okWide_slice Try.underlying23 (hval 2 23 v2 rfl rfl)
  have k2 := h2
  have lt2 : ∀ x ∈ p2, x.block < W.heap.size := by obtain ⟨m, hm⟩ := k2; exact DataW.trod_lt m _ _ _ hm
  obtain ⟨z2, w2⟩ : ∃ zs, IsRow .u8 W a2 len2 cap2 zs := by
    obtain ⟨fuel, hf⟩ := h2
    rcases open_ints Try.underlying23 Try.underlying5 (by kernel_rfl) hf with ⟨hcs, _⟩ | ⟨x, l, c, zs, hcs, _, hl, hm, hz, _, hcell, hwz⟩
    · simp [Value.cells] at hcs
      obtain ⟨rfl, rfl, rfl⟩ := hcs
      exact ⟨[], .inl ⟨rfl, rfl, rfl, rfl⟩⟩
    · simp [Value.cells] at hcs
      obtain ⟨rfl, rfl, rfl⟩ := hcs
      exact ⟨zs, .inr ⟨_, rfl, hl, hm, by simpa using hz, hcell, hwz⟩⟩
  clear hA0 hval0
  refine (walk a0 a1 a2 len2 cap2 z2 W w0 w1 w2).mono fun e W' ⟨he, bel⟩ => ?_
  subst he
  exact ⟨_, rfl, _, _, _, [], _, [], hW', trodAll_mk1 (shut_bool Try.underlying4 _), (trodAll_cons_mk (shut_int Try.underlying22 w0) (trodAll_cons_mk (shut_int Try.underlying3 w1) (trodAll_cons_mk (Below.trod laidOut (by kernel_rfl) (of_decide_eq_true (by kernel_rfl)) k2 bel lt2) trodAll_mk0))), rfl, bel.frame _, fun h => by cases h⟩

theorem over : Rows.lePutsRow.holds Try.pinned (OpenSpec.ofChange Rows.lePutsSpec) :=
  OpenClaim.holds_of_wide 3 Try.f3 rfl rfl rfl rfl rfl rfl rfl ⟨rfl, rfl, rfl, rfl, rfl⟩ rfl rfl rfl rfl rfl (by kernel_rfl) Try.func3 (by kernel_rfl)
    (of_decide_eq_true (by kernel_rfl)) (by unfold Func.isWrapper; first | (rw [if_pos (by decide +kernel)]; kernel_rfl) | (rw [if_neg (by decide +kernel)]; exact ⟨rfl, rfl⟩))
    (fun os started H enc _ => lifted os started H enc)

theorem proved : Rows.LePutsSaid := over
#print axioms proved
end Go.Proofs.Ytplmobijconfeaa.lePuts
