/- The runs of any numbers, the numbers of any runs, and whether any runs lie apart are what the document says; nothing that was handed in changes. -/
import Derived.Test.YtajamblkjmafmaaRuLt
import Derived.Test.YtajamblkjmafmaaRuRO
import Derived.Test.YtajamblkjmafmaaRuRG
import Derived.Test.YtajamblkjmafmaaRuRB
import Derived.Test.YtajamblkjmafmaaRuSm
import Derived.Test.YtajamblkjmafmaaRuWk
import Derived.Test.YtajamblkjmafmaaArgSl
namespace Go.Proofs.Ytajamblkjmafmaa.runsTell
open Go.ChangeShapes Go.WideShapes Go.ChangeAt Go.RowKit
set_option linter.unusedVariables false
set_option linter.unusedSimpArgs false
attribute [-simp] Try.isAgg36 Try.zeroValue36
attribute [-go_sem] loadVar storeVar
attribute [local go_sem] loadVar_openR storeVar_openR zero_rns build_rns0 build_rns

set_option maxRecDepth 100000 in
set_option maxHeartbeats 2000000 in
theorem walk (v0 v1 v2 : Value) (w : World) (w0 : Arg w 22 v0) (w1 : Arg w 23 v1) (w2 : Arg w 3 v2) :
    Calls Try.prog 3 #[v0, v1, v2] w fun e w' => e = .returned (.bool true) ∧ Below w.heap.size w w' := by
  obtain ⟨a, len, cap, xs, rfl, hl, hm, hs, h6⟩ := w0.sl Try.underlying22 Try.underlying3 (by kernel_rfl)
  obtain ⟨m, hp⟩ := w1.rnt
  obtain ⟨n, rfl, wn⟩ := w2.int Try.underlying3
  have hn : Is64 n := bounds_i64 wn
  have hx64 : ∀ x ∈ xs, Is64 x := fun x hx => bounds_i64 (h6 x hx)
  have HP := Lib.hid hp
  obtain ⟨pa, pc, rfl, hp1, hp2, -⟩ := hp
  obtain ⟨M, hM⟩ : ∃ M, m.length = M := ⟨_, rfl⟩
  rw [hM] at HP hp1 ⊢
  subst hl
  obtain ⟨L, hL⟩ : ∃ L, xs.length = L := ⟨_, rfl⟩
  rw [hL] at hs hm ⊢
  have HN := Lib.hid hn
  have H64 := Lib.hid hx64
  have HS := Lib.hid hs
  have HL := Lib.hid hL
  have HM := Lib.hid hM
  have HWK := Lib.hid ru_wakes
  clear w0 w1 w2 wn hn hx64 h6 hs hL hM hp2 hm
  by_cases q1 : 500 < L
  · have e1 : decide ((L : Int) > 500) = true := by simp; omega
    go_enter Try.func3, Try.ntmps3
    go_wp2_with fail
    refine (HWK.out w).mono ?_
    rintro e x ⟨rfl, hb⟩
    go_wp2_with fail
    go_ret
    exact ⟨rfl, hb⟩
  · have e1 : decide ((L : Int) > 500) = false := by simp; omega
    by_cases q2 : 40 < M
    · have e2 : decide ((M : Int) > 40) = true := by simp; omega
      go_enter Try.func3, Try.ntmps3
      go_wp2_with fail
      refine (HWK.out w).mono ?_
      rintro e x ⟨rfl, hb⟩
      go_wp2_with fail
      go_ret
      exact ⟨rfl, hb⟩
    · have e2 : decide ((M : Int) > 40) = false := by simp; omega
      obtain ⟨W0, vx, W1, W2, vy, W3, S0, A1, S2, A3, HB, HX, HY⟩ := ru_copies HS.out HP.out (by rw [HL.out]; omega) (by rw [HM.out]; omega)
      go_enter Try.func3, Try.ntmps3
      go_wp2_with (first | (refine gate_build ?_; refine wpList_build_run 22 0 #[] rfl rfl [] _ rfl S0 ?_) | (refine gate_build ?_; refine wpList_build_run 23 0 #[] rfl rfl [] _ rfl S2 ?_) | (at_builtin; refine wpList_append_run (.tmp 18) (.tmp 19) 22 rfl rfl _ _ _ rfl rfl (A1.out _) ?_) | (at_builtin; refine wpList_append_run (.tmp 21) (.tmp 22) 23 rfl rfl _ _ _ rfl rfl (A3.out _) ?_))
      have KX : Hid (∀ z : World, Below W3.heap.size W3 z → Sl .i64 z vx xs) := fun z hz => HX.out.below hz
      have KY : Hid (∀ z : World, Below W3.heap.size W3 z → Prt z vy m) := fun z hz => HY.out.below hz
      have KL : Hid (∀ z : World, Below W3.heap.size W3 z → Sl .i64 z (.slice a L cap) xs) := fun z hz => (HS.out.below HB.out).below hz
      have KM : Hid (∀ z : World, Below W3.heap.size W3 z → Prt z (.slice pa M pc) m) := fun z hz => (HP.out.below HB.out).below hz
      have HLL : Hid (xs.length ≤ 500) := by show _ ≤ _; rw [HL.out]; omega
      have HMM : Hid (m.length ≤ 40) := by show _ ≤ _; rw [HM.out]; omega
      have C1 := Lib.hid (ru_of (KX.out _ (Below.refl _ _)) H64.out (by have := HLL.out; omega))
      clear q1 q2 e1 e2 S0 A1 S2 A3 HX HY HS HP hp1
      refine C1.out.mono ?_
      rintro e z1 ⟨u1, rfl, ho1, hb⟩
      have B1 := Lib.hid hb
      have O1 := Lib.hid ho1
      have C2 := Lib.hid (rf15_of (KL.out _ B1.out) H64.out (by have := HLL.out; omega))
      clear hb ho1 C1
      go_wp2_with fail
      refine C2.out.mono ?_
      rintro e z2 ⟨u2, rfl, ho2, hb⟩
      have B2 : Hid (Below W3.heap.size W3 z2) := B1.out.trans (hb.mono B1.out.size)
      have C3 := Lib.hid (ru_same_t (O1.out.below hb).prt ho2.prt (by have := (rn_all xs).len; have h2 := HLL.out; exact Nat.le_trans this (by omega)))
      clear hb ho2 C2 O1 B1
      go_wp2_with fail
      refine C3.out.mono ?_
      rintro e z3 ⟨rfl, hb⟩
      have B3 : Hid (Below W3.heap.size W3 z3) := B2.out.trans (hb.mono B2.out.size)
      have C4 := Lib.hid (ru_blocks (KY.out _ B3.out) (by have := HMM.out; omega))
      clear hb C3 B2
      go_wp2_with fail
      refine C4.out.mono ?_
      rintro e z4 ⟨u4, rfl, ho4, hb⟩
      have B4 : Hid (Below W3.heap.size W3 z4) := B3.out.trans (hb.mono B3.out.size)
      have O4 := Lib.hid ho4
      have C5 := Lib.hid (rf15_blocks (KM.out _ B4.out) (by have := HMM.out; omega))
      clear hb ho4 C4 B3
      go_wp2_with fail
      refine C5.out.mono ?_
      rintro e z5 ⟨u5, rfl, ho5, hb⟩
      have B5 : Hid (Below W3.heap.size W3 z5) := B4.out.trans (hb.mono B4.out.size)
      have C6 := Lib.hid (ints_same _ _ _ z5 (sl_own (O4.out.below hb)) (sl_own ho5))
      clear hb ho5 C5 B4 O4
      go_wp2_with fail
      refine C6.out.mono ?_
      rintro e z6 ⟨rfl, hb⟩
      have B6 : Hid (Below W3.heap.size W3 z6) := B5.out.trans (hb.mono B5.out.size)
      have C7 := Lib.hid (ru_good (KY.out _ B6.out) n HN.out (by have := HMM.out; omega))
      clear hb C6 B5
      go_wp2_with fail
      refine C7.out.mono ?_
      rintro e z7 ⟨rfl, hb⟩
      have B7 : Hid (Below W3.heap.size W3 z7) := B6.out.trans (hb.mono B6.out.size)
      have C8 := Lib.hid (rf15_good (KM.out _ B7.out) n HN.out (by have := HMM.out; omega))
      obtain ⟨t, ht⟩ : ∃ t, rnGood m n = t := ⟨_, rfl⟩
      rw [ht] at C8 ⊢
      have hcc : (t == t) = true := by simp
      clear hb C7 B6 ht
      go_wp2_with fail
      refine C8.out.mono ?_
      rintro e z8 ⟨rfl, hb⟩
      have B8 : Hid (Below W3.heap.size W3 z8) := B7.out.trans (hb.mono B7.out.size)
      have C9 := Lib.hid (ints_same _ _ _ z8 (KX.out _ B8.out) (KL.out _ B8.out))
      clear hb C8 B7
      go_wp2_with fail
      refine C9.out.mono ?_
      rintro e z9 ⟨rfl, hb⟩
      have B9 : Hid (Below W3.heap.size W3 z9) := B8.out.trans (hb.mono B8.out.size)
      have C10 := Lib.hid (ru_same_t (KY.out _ B9.out) (KM.out _ B9.out) (by have := HMM.out; omega))
      clear hb C9 B8
      go_wp2_with fail
      refine C10.out.mono ?_
      rintro e z10 ⟨rfl, hb⟩
      have B10 : Hid (Below W3.heap.size W3 z10) := B9.out.trans (hb.mono B9.out.size)
      have C11 := Lib.hid (HWK.out z10)
      clear hb C10 B9
      go_wp2_with fail
      refine C11.out.mono ?_
      rintro e z11 ⟨rfl, hb⟩
      have B11 : Below w.heap.size w z11 := HB.out.trans ((B10.out.trans (hb.mono B10.out.size)).mono HB.out.size)
      clear hb C11 B10
      go_wp2_with fail
      go_ret
      exact ⟨rfl, B11⟩

set_option maxRecDepth 100000 in
theorem lifted (os : Os) (started : os.Started) (H : Type) (enc : TypeId × Value → H) :
    ReturnsInHanded {} Try.checked os 3 .any (Rows.runsTellSpec.pre6 enc Try.prog Try.f3 Rows.runsTellRow.domain false) (Rows.runsTellSpec.post enc Try.prog Try.f3 false true false false) := by
  refine returnsInHanded_of_change (C := Try.checked) own started (by kernel_rfl) Try.func3
    (ChangeSpec.witness6 (enc := enc) (C := Try.checked) false ⟨#[], #[.slice none 0 0, .slice none 0 0, .int .i64 0], []⟩ 8 (by kernel_rfl) (by kernel_rfl) (by kernel_rfl) (by kernel_rfl)) ?_
  intro W base args ds gs before hval0 hW hcnd _
  have hval : ∀ (j : Nat) t v, Try.f3.params[j]? = some t → args[j]? = some v → Value.okWide Try.prog W .any base t v := hval0
  have hW' := hW
  obtain ⟨p, q, hA0, hV, rfl, hfz, hnd⟩ := hW
  have hA : DataW.TrodAll enc Try.prog W 0 (fun _ => true) true Try.f3.params.toList args.toList ds p := hA0
  rw [Try.params3] at hA hval
  obtain ⟨v0, vs0, d0, ds0, p0, q0, hargs, rfl, rfl, h0, r0⟩ := trodAll_cons hA
  obtain ⟨v1, vs1, d1, ds1, p1, q1, rfl, rfl, rfl, h1, r1⟩ := trodAll_cons r0
  obtain ⟨v2, vs2, d2, ds2, p2, q2, rfl, rfl, rfl, h2, r2⟩ := trodAll_cons r1
  obtain ⟨rfl, rfl, rfl⟩ := trodAll_nil r2
  obtain rfl : args = #[v0, v1, v2] := by cases args; simp_all
  obtain ⟨rfl, rfl⟩ := trodVars_none hV
  have lt0 : ∀ x ∈ p0, x.block < W.heap.size := by obtain ⟨m, hm⟩ := h0; exact DataW.trod_lt m _ _ _ hm
  have a0 := Arg.mk (hval 0 22 v0 rfl rfl) h0
  have lt1 : ∀ x ∈ p1, x.block < W.heap.size := by obtain ⟨m, hm⟩ := h1; exact DataW.trod_lt m _ _ _ hm
  have a1 := Arg.mk (hval 1 23 v1 rfl rfl) h1
  have lt2 : ∀ x ∈ p2, x.block < W.heap.size := by obtain ⟨m, hm⟩ := h2; exact DataW.trod_lt m _ _ _ hm
  have a2 := Arg.mk (hval 2 3 v2 rfl rfl) h2
  clear hA0 hval0
  refine (walk v0 v1 v2 W a0 a1 a2).mono fun e W' ⟨he, bel⟩ => ?_
  subst he
  exact ⟨_, rfl, _, _, _, [], _, [], hW', trodAll_mk1 (shut_bool Try.underlying4 _), (trodAll_cons_mk (Below.trod laidOut (by kernel_rfl) (of_decide_eq_true (by kernel_rfl)) h0 bel lt0) (trodAll_cons_mk (Below.trod laidOut (by kernel_rfl) (of_decide_eq_true (by kernel_rfl)) h1 bel lt1) (trodAll_cons_mk (Below.trod laidOut (by kernel_rfl) (of_decide_eq_true (by kernel_rfl)) h2 bel lt2) trodAll_mk0))), rfl, bel.frame _, fun h => by cases h⟩

set_option maxRecDepth 100000 in
theorem over : Rows.runsTellRow.holds Try.pinned (OpenSpec.ofChange Rows.runsTellSpec) :=
  OpenClaim.holds_of_wide 3 Try.f3 rfl rfl rfl rfl rfl rfl rfl ⟨rfl, rfl, rfl, rfl, rfl⟩ rfl rfl rfl rfl rfl (by kernel_rfl) Try.func3 (by kernel_rfl)
    (of_decide_eq_true (by kernel_rfl)) (by unfold Func.isWrapper; first | (rw [if_pos (by decide +kernel)]; kernel_rfl) | (rw [if_neg (by decide +kernel)]; exact ⟨rfl, rfl⟩))
    (fun os started H enc _ => lifted os started H enc)

theorem proved : Rows.RunsTellSaid := over
#print axioms proved
end Go.Proofs.Ytajamblkjmafmaa.runsTell
