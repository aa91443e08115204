/- Whatever the bytes, the place and the byte, FnvTurns returns true and leaves its arguments as they were; no conditions. -/
import Derived.Test.YtlapfcndngnapaaFrame
import Derived.Test.YtlapfcndngnapaaKeep
import Derived.Test.YtlapfcndngnapaaMod
import Derived.Test.YtlapfcndngnapaaFnvWakes
namespace Go.Proofs.Ytlapfcndngnapaa.fnvTurns
open Go.ChangeShapes Go.WideShapes Go.ChangeAt Go.RowKit
open Go.ChangeMaps (open_string shut_string)
set_option linter.unusedVariables false

set_option maxRecDepth 100000 in
set_option maxHeartbeats 2000000 in
theorem walk (a0 : Option Addr) (len0 cap0 : Nat) (z0 : List Int) (a1 : Int) (a2 : Int) (w : World) (w0 : IsRow .u8 w a0 len0 cap0 z0) (w1 : (Lit.int .i64 a1).wf = true) (w2 : (Lit.int .u8 a2).wf = true) :
    Calls Try.prog 4 #[.slice a0 len0 cap0, .int .i64 a1, .int .u8 a2] w fun e w' => e = .returned (.bool true) ∧ Below w.heap.size w w' := by
  obtain ⟨hs, hb, hlen⟩ := bytes_of_row w0
  obtain ⟨x1, x2⟩ := bounds_u8 w2
  have hl : len0 ≤ 9223372036854775807 := by
    obtain ⟨a, c, e, h1, h2, _⟩ := hs
    simp at e
    unfold maxLen at h2; omega
  have HW := Lib.hid (wakes_any)
  generalize hxs : z0.take len0 = xs at hs hb hlen
  have HS := Lib.hid hs
  have HB := Lib.hid hb
  have HL := Lib.hid hlen
  have V2 : Hid (0 ≤ a2 ∧ a2 < 256) := ⟨x1, by omega⟩
  clear hxs hs hb hlen w0 w1 w2
  by_cases h0 : 20000 < len0
  · have h0' : (20000 : Int) < (len0 : Int) := by omega
    have h1' : decide ((20000 : Int) < (len0 : Int)) = true := by simpa using h0'
    go_enter Try.func4, Try.ntmps4
    go_wp2_with fail
    refine (HW.out _).mono ?_
    rintro e w' ⟨rfl, hB⟩
    have HB2 := Lib.hid hB
    clear hB
    go_wp2_with fail
    go_ret
    exact ⟨rfl, HB2.out⟩
  · have h0' : ¬ (20000 : Int) < (len0 : Int) := by omega
    have h1' : decide ((20000 : Int) < (len0 : Int)) = false := by simpa using h0'
    by_cases hz : len0 = 0
    · have hz' : ((len0 : Nat) : Int) = 0 := by omega
      have hz2 : decide (((len0 : Nat) : Int) = 0) = true := by simpa using hz
      go_enter Try.func4, Try.ntmps4
      go_wp2_with fail
      refine (HW.out _).mono ?_
      rintro e w' ⟨rfl, hB⟩
      have HB2 := Lib.hid hB
      clear hB
      go_wp2_with fail
      go_ret
      exact ⟨rfl, HB2.out⟩
    · have hz' : ¬ ((len0 : Nat) : Int) = 0 := by omega
      have hz2 : decide (((len0 : Nat) : Int) = 0) = false := by simpa using hz
      obtain ⟨vc, wc, HA, HO, BC⟩ := copy_lit w (.slice a0 len0 cap0) xs HS.out (by have := HL.out; omega)
      obtain ⟨g, cap, rfl⟩ := Joins.ownsRow_form HO.out (by have := HL.out; omega)
      obtain ⟨K, hK⟩ : ∃ K : Nat, modI a1 (len0 : Int) = (K : Int) := ⟨(modI a1 (len0 : Int)).toNat, by have := (modI_bd (k := a1) (n := (len0 : Int)) (by omega)).1; omega⟩
      have hKl : K < len0 := by have := (modI_bd (k := a1) (n := (len0 : Int)) (by omega)).2; omega
      have HM : Hid (∀ w : World, Calls Try.prog 13 #[.int .i64 a1, .int .i64 (len0 : Int)] w fun e w' => e = .returned (.int .i64 (K : Int)) ∧ w' = w) := by
        intro w
        have := mod_any a1 (len0 : Int) w (by omega)
        rw [hK] at this
        exact this
      rw [HL.out] at HA
      have c3 : wc.cell? ⟨g, K, none⟩ = some (.int .u8 (xs[K]?.getD 0)) := by
        rw [HO.out.cellAt K (by have := HL.out; omega)]
        have : K < xs.length := by have := HL.out; omega
        simp [this]
      have f3 := HO.out.frozenAt K
      obtain ⟨y, hy⟩ : ∃ y, xs[K]?.getD 0 = y := ⟨_, rfl⟩
      have HY := Lib.hid hy
      obtain ⟨r1, r2⟩ := HB.out K
      rw [hy] at c3 r1 r2
      have hgt : w.heap.size ≤ g := (HO.out.lt g rfl).1
      have HG := Lib.hid hgt
      obtain ⟨y', hy'⟩ : ∃ y', bits BinOp.xor IntKind.u8 y a2 = y' := ⟨_, rfl⟩
      have HY' := Lib.hid hy'
      clear hy hy' hgt hK
      go_enter Try.func4, Try.ntmps4
      go_wp2_with (at_builtin; refine wpList_append_run (.tmp 17) (.tmp 18) 23 rfl rfl _ _ _ rfl rfl HA.out ?_)
      have HST := Lib.hid (HO.out.stored K (.int .u8 y'))
      refine (HM.out _).mono ?_
      rintro e w' ⟨rfl, rfl⟩
      go_wp2_with fail
      rw [HY'.out]
      have hset : (w'.setCell ⟨g, K, none⟩ (.int .u8 y')).ownsRow w.heap.size 5 1 (.slice (some ⟨g, 0, none⟩) (xs.set K y').length cap) (xs.set K y').length ((xs.set K y').map (Value.int .u8)) := by
        rw [List.map_set, List.length_set, HL.out]
        have := HST.out.1
        rw [HL.out] at this
        exact this
      have S2 := Sl.of_owns hset
      rw [List.length_set, HL.out] at S2
      have B2 : Hid (Below w.heap.size w (w'.setCell ⟨g, K, none⟩ (.int .u8 y'))) := BC.out.setCell (p := ⟨g, K, none⟩) HG.out _
      have S3 : Hid (Sl .u8 (w'.setCell ⟨g, K, none⟩ (.int .u8 y')) (.slice a0 len0 cap0) xs) := HS.out.below B2.out
      have HY2 : Hid (0 ≤ y' ∧ y' < 256) := by show 0 ≤ y' ∧ _; rw [← HY'.out]; exact u8_xor_bd ⟨r1, r2⟩ V2.out
      obtain ⟨c1, hc1⟩ : ∃ c, fnvMore fnvInit (xs.set K y') = c := ⟨_, rfl⟩
      obtain ⟨c2, hc2⟩ : ∃ c, fnvMore fnvInit xs = c := ⟨_, rfl⟩
      have HE : Hid (c1 = c2 ↔ a2 = 0) := by
        show _ ↔ _
        rw [← hc1, ← hc2, turn_eq HB.out (by rw [HL.out]; exact hKl) HY2.out isU64_init, HY.out, ← HY'.out, u8_xor_eq ⟨r1, r2⟩ V2.out]
      have HC2 := Lib.hid hc2
      have hk := check_any _ (xs.set K y') _ S2 (HB.out.set HY2.out)
      rw [hc1] at hk
      clear hset S2 HST HO hc1 hc2 HA HM BC HS c3 f3
      obtain ⟨W, hW⟩ : ∃ W, w'.setCell ⟨g, K, none⟩ (.int .u8 y') = W := ⟨_, rfl⟩
      rw [hW] at hk B2 S3 ⊢
      refine hk.mono ?_
      clear hk hW
      rintro e w3 ⟨rfl, hB⟩
      have S4 : Hid (Sl .u8 w3 (.slice a0 len0 cap0) xs) := S3.out.below hB
      have B3 : Hid (Below w.heap.size w w3) := B2.out.trans (hB.mono B2.out.size)
      clear hB S3 B2
      go_wp2_with fail
      have hk := check_any _ xs _ S4.out HB.out
      rw [HC2.out] at hk
      refine hk.mono ?_
      clear hk
      rintro e w4 ⟨rfl, hB⟩
      have B4 : Hid (Below w.heap.size w w4) := B3.out.trans (hB.mono B3.out.size)
      clear hB S4 B3
      have hcc : (c1 == c2) = (a2 == 0) := by rw [Bool.eq_iff_iff, beq_iff_eq, beq_iff_eq]; exact HE.out
      go_wp2_with fail
      refine (HW.out _).mono ?_
      rintro e w8 ⟨rfl, hB⟩
      have B8 : Hid (Below w.heap.size w w8) := B4.out.trans (hB.mono B4.out.size)
      clear hB B4
      go_wp2_with fail
      go_ret
      exact ⟨rfl, B8.out⟩

set_option maxRecDepth 100000 in
theorem lifted (os : Os) (started : os.Started) (H : Type) (enc : TypeId × Value → H) :
    ReturnsInHanded {} Try.checked os 4 .any (Rows.fnvTurnsSpec.pre6 enc Try.prog Try.f4 Rows.fnvTurnsRow.domain false) (Rows.fnvTurnsSpec.post enc Try.prog Try.f4 false true false false) := by
  refine returnsInHanded_of_change (C := Try.checked) own started (by kernel_rfl) Try.func4
    (ChangeSpec.witness6 (enc := enc) (C := Try.checked) false ⟨#[], #[.slice none 0 0, .int .i64 0, .int .u8 0], []⟩ 8 (by kernel_rfl) (by kernel_rfl) (by kernel_rfl) (by kernel_rfl)) ?_
  intro W base args ds gs before hval0 hW hcnd _
  have hval : ∀ (j : Nat) t v, Try.f4.params[j]? = some t → args[j]? = some v → Value.okWide Try.prog W .any base t v := hval0
  have hW' := hW
  obtain ⟨p, q, hA0, hV, rfl, hfz, hnd⟩ := hW
  have hA : DataW.TrodAll enc Try.prog W 0 (fun _ => true) true Try.f4.params.toList args.toList ds p := hA0
  rw [Try.params4] at hA hval
  obtain ⟨v0, vs0, d0, ds0, p0, q0, hargs, rfl, rfl, h0, r0⟩ := trodAll_cons hA
  obtain ⟨v1, vs1, d1, ds1, p1, q1, rfl, rfl, rfl, h1, r1⟩ := trodAll_cons r0
  obtain ⟨v2, vs2, d2, ds2, p2, q2, rfl, rfl, rfl, h2, r2⟩ := trodAll_cons r1
  obtain ⟨rfl, rfl, rfl⟩ := trodAll_nil r2
  obtain rfl : args = #[v0, v1, v2] := by cases args; simp_all
  obtain ⟨rfl, rfl⟩ := trodVars_none hV
  obtain ⟨a0, len0, cap0, rfl⟩ := okWide_slice Try.underlying23 (hval 0 23 v0 rfl rfl)
  have k0 := h0
  have lt0 : ∀ x ∈ p0, x.block < W.heap.size := by obtain ⟨m, hm⟩ := k0; exact DataW.trod_lt m _ _ _ hm
  obtain ⟨z0, w0⟩ : ∃ zs, IsRow .u8 W a0 len0 cap0 zs := by
    obtain ⟨fuel, hf⟩ := h0
    rcases open_ints Try.underlying23 Try.underlying5 (by kernel_rfl) hf with ⟨hcs, _⟩ | ⟨x, l, c, zs, hcs, _, hl, hm, hz, _, hcell, hwz⟩
    · simp [Value.cells] at hcs
      obtain ⟨rfl, rfl, rfl⟩ := hcs
      exact ⟨[], .inl ⟨rfl, rfl, rfl, rfl⟩⟩
    · simp [Value.cells] at hcs
      obtain ⟨rfl, rfl, rfl⟩ := hcs
      exact ⟨zs, .inr ⟨_, rfl, hl, hm, by simpa using hz, hcell, hwz⟩⟩
  obtain ⟨a1, rfl, rfl, rfl, w1⟩ := open_int Try.underlying3 (hval 1 3 v1 rfl rfl) h1
  obtain ⟨a2, rfl, rfl, rfl, w2⟩ := open_int Try.underlying5 (hval 2 5 v2 rfl rfl) h2
  clear hA0 hval0
  refine (walk a0 len0 cap0 z0 a1 a2 W w0 w1 w2).mono fun e W' ⟨he, bel⟩ => ?_
  subst he
  exact ⟨_, rfl, _, _, _, [], _, [], hW', trodAll_mk1 (shut_bool Try.underlying4 _), (trodAll_cons_mk (Below.trod laidOut (by kernel_rfl) (of_decide_eq_true (by kernel_rfl)) k0 bel lt0) (trodAll_cons_mk (shut_int Try.underlying3 w1) (trodAll_cons_mk (shut_int Try.underlying5 w2) trodAll_mk0))), rfl, bel.frame _, fun h => by cases h⟩

theorem over : Rows.fnvTurnsRow.holds Try.pinned (OpenSpec.ofChange Rows.fnvTurnsSpec) :=
  OpenClaim.holds_of_wide 4 Try.f4 rfl rfl rfl rfl rfl rfl rfl ⟨rfl, rfl, rfl, rfl, rfl⟩ rfl rfl rfl rfl rfl (by kernel_rfl) Try.func4 (by kernel_rfl)
    (of_decide_eq_true (by kernel_rfl)) (by unfold Func.isWrapper; first | (rw [if_pos (by decide +kernel)]; kernel_rfl) | (rw [if_neg (by decide +kernel)]; exact ⟨rfl, rfl⟩))
    (fun os started H enc _ => lifted os started H enc)

theorem proved : Rows.FnvTurnsSaid := over
#print axioms proved
end Go.Proofs.Ytlapfcndngnapaa.fnvTurns
