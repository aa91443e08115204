/- No two things of a geometry that may be stand at one sector, and there is none between: part behind part, to the end of each disk. No further condition. -/
import Derived.Test.YtnffaekbldcphaaGmWk
import Derived.Test.YtnffaekbldcphaaGmArg
import Derived.Test.YtnffaekbldcphaaPgArg
import Derived.Test.YtnffaekbldcphaaGmAll
namespace Go.Proofs.Ytnffaekbldcphaa.geomApart
open Go.ChangeShapes Go.WideShapes Go.ChangeAt Go.RowKit
set_option linter.unusedVariables false
attribute [-simp] Try.isAgg25 Try.zeroValue25
attribute [-go_sem] loadVar storeVar
attribute [local go_sem] loadVar_openG storeVar_openG zero_szs build_szs0

set_option maxRecDepth 100000 in
set_option maxHeartbeats 8000000 in
theorem walk (v0 : Value) (w : World) (w0 : Arg w 23 v0) :
    Calls Try.prog 4 #[v0] w fun e w' => e = .returned (.bool true) ∧ Below w.heap.size w w' := by
  obtain ⟨g, hin, rfl⟩ := w0.geo
  have HK := Lib.hid geomOk
  have hw := geoWakes geomOk
  obtain ⟨W, hW⟩ : ∃ W, w.alloc (.cells g.v 23) = W := ⟨_, rfl⟩
  have r0 : RowC W w.heap.size 23 g.cs := by rw [← hW]; exact RowC.new w _ _
  have HB0 : Hid (Below w.heap.size w W) := by show Below _ _ _; rw [← hW]; exact below_new w _
  have QW : Hid (∀ q : Ext W, Calls Try.prog 19 #[] q.1 fun en w'' => en = .returned (.bool true) ∧ ∃ q' : Ext W, w'' = q'.1) := fun q => calls_ext q (hw q.1)
  obtain ⟨B, hB⟩ : ∃ b, w.heap.size = b := ⟨_, rfl⟩
  rw [hB] at r0
  have LG : ∀ q : Ext W, (loadVar 23 ⟨B, 0, none⟩).run Try.prog q.1 = .ok (.agg g.v) q.1 := fun q => load_geo (r0.below q.2)
  have LG0 : (loadVar 23 ⟨B, 0, none⟩).run Try.prog W = .ok (.agg g.v) W := load_geo r0
  have RW := Lib.hid hw
  clear hw w0
  by_cases hg : g.good
  · have HG := Lib.hid hg
    obtain ⟨b1, b2, b3, b4, b5, b6⟩ := Geo.bounds hg.1
    obtain ⟨⟨h1, h2, h3, h4, h5, h6, h7, h8⟩, h9, h10⟩ := hg
    have hP : g.bts ≤ g.pgs * 48 := by unfold Geo.pgs cnt; split <;> omega
    have HSL : Hid (∀ (i : Int), 0 ≤ i → i ≤ g.slots → g.oS i = if i < g.slots then 2 + g.r + g.pgs + i else 0) := fun i j1 j2 => by
      unfold Geo.oS
      by_cases j3 : i < g.slots
      · rw [if_pos ⟨HG.out, j1, j3⟩, if_pos j3]
      · rw [if_neg (fun h => j3 h.2.2), if_neg j3]
    have HAR : Hid (∀ (i : Int), 0 ≤ i → i ≤ g.a → g.oA i = if i < g.a then g.b + i else 0) := fun i j1 j2 => by
      unfold Geo.oA
      by_cases j3 : i < g.a
      · rw [if_pos ⟨HG.out, j1, j3⟩, if_pos j3]
      · rw [if_neg (fun h => j3 h.2.2), if_neg j3]
    have Q0 : Hid (∀ q : Ext W, Calls Try.prog 7 #[.agg g.v] q.1 fun en w'' => en = .returned (.bool true) ∧ ∃ q' : Ext W, w'' = q'.1) := fun q => calls_ext q (by have := HK.out.good g hin q.1; rwa [decide_eq_true HG.out] at this)
    have Q1 : Hid (∀ q : Ext W, Calls Try.prog 9 #[.agg g.v] q.1 fun en w'' => en = .returned (.int .i64 g.bts) ∧ ∃ q' : Ext W, w'' = q'.1) := fun q => calls_ext q (by have := HK.out.bytes g hin q.1; rwa [Geo.oB, if_pos HG.out] at this)
    have Q2 : Hid (∀ q : Ext W, Calls Try.prog 10 #[.agg g.v] q.1 fun en w'' => en = .returned (.int .i64 g.pgs) ∧ ∃ q' : Ext W, w'' = q'.1) := fun q => calls_ext q (by have := HK.out.pages g hin q.1; rwa [Geo.oP, if_pos HG.out] at this)
    have Q3 : Hid (∀ q : Ext W, Calls Try.prog 11 #[.agg g.v] q.1 fun en w'' => en = .returned (.int .i64 2) ∧ ∃ q' : Ext W, w'' = q'.1) := fun q => calls_ext q (by have := HK.out.ring g hin q.1; rwa [Geo.oR, if_pos HG.out] at this)
    have Q4 : Hid (∀ q : Ext W, Calls Try.prog 12 #[.agg g.v] q.1 fun en w'' => en = .returned (.int .i64 (2 + g.r)) ∧ ∃ q' : Ext W, w'' = q'.1) := fun q => calls_ext q (by have := HK.out.home g hin q.1; rwa [Geo.oH, if_pos HG.out] at this)
    have Q5 : Hid (∀ q : Ext W, Calls Try.prog 13 #[.agg g.v] q.1 fun en w'' => en = .returned (.int .i64 (2 + g.r + g.pgs + g.slots)) ∧ ∃ q' : Ext W, w'' = q'.1) := fun q => calls_ext q (by have := HK.out.fast g hin q.1; rwa [Geo.oF, if_pos HG.out] at this)
    have Q6 : Hid (∀ q : Ext W, Calls Try.prog 14 #[.agg g.v] q.1 fun en w'' => en = .returned (.int .i64 (g.b + g.a)) ∧ ∃ q' : Ext W, w'' = q'.1) := fun q => calls_ext q (by have := HK.out.slow g hin q.1; rwa [Geo.oW, if_pos HG.out] at this)
    have Q7 : Hid (∀ k : Nat, (k : Int) ≤ g.slots → ∀ q : Ext W, Calls Try.prog 15 #[.agg g.v, .int .i64 k] q.1 fun en w'' => en = .returned (.int .i64 (if (k : Int) < g.slots then 2 + g.r + g.pgs + k else 0)) ∧ ∃ q' : Ext W, w'' = q'.1) := fun k hk q => calls_ext q (by have := HK.out.slot g hin k (by omega) (by omega) q.1; rwa [HSL.out k (by omega) hk] at this)
    have Q8 : Hid (∀ k : Nat, (k : Int) ≤ g.a → ∀ q : Ext W, Calls Try.prog 17 #[.agg g.v, .int .i64 k] q.1 fun en w'' => en = .returned (.int .i64 (if (k : Int) < g.a then g.b + k else 0)) ∧ ∃ q' : Ext W, w'' = q'.1) := fun k hk q => calls_ext q (by have := HK.out.area g hin k (by omega) (by omega) q.1; rwa [HAR.out k (by omega) hk] at this)
    have R1 : Hid (∀ q : World, Calls Try.prog 9 #[.agg g.v] q fun en w'' => en = .returned (.int .i64 g.bts) ∧ Below q.heap.size q w'') := fun q => by have := HK.out.bytes g hin q; rwa [Geo.oB, if_pos HG.out] at this
    have R2 : Hid (∀ q : World, Calls Try.prog 10 #[.agg g.v] q fun en w'' => en = .returned (.int .i64 g.pgs) ∧ Below q.heap.size q w'') := fun q => by have := HK.out.pages g hin q; rwa [Geo.oP, if_pos HG.out] at this
    have R6 : Hid (∀ q : World, Calls Try.prog 14 #[.agg g.v] q fun en w'' => en = .returned (.int .i64 (g.b + g.a)) ∧ Below q.heap.size q w'') := fun q => by have := HK.out.slow g hin q; rwa [Geo.oW, if_pos HG.out] at this
    have R8 : Hid (∀ q : World, Calls Try.prog 17 #[.agg g.v, .int .i64 g.a] q fun en w'' => en = .returned (.int .i64 0) ∧ Below q.heap.size q w'') := fun q => by have := HK.out.area g hin g.a (by omega) (by omega) q; rwa [HAR.out g.a (by omega) (by omega), if_neg (by omega)] at this
    have c0 : ∀ q : Ext W, q.1.cell? ⟨B, 0, none⟩ = some (.int .i64 g.b) := fun q => (r0.below q.2).cell 0 _ rfl
    have c1 : ∀ q : Ext W, q.1.cell? ⟨B, 1, none⟩ = some (.int .i64 g.s) := fun q => (r0.below q.2).cell 1 _ rfl
    have c2 : ∀ q : Ext W, q.1.cell? ⟨B, 2, none⟩ = some (.int .i64 g.y) := fun q => (r0.below q.2).cell 2 _ rfl
    have c3 : ∀ q : Ext W, q.1.cell? ⟨B, 3, none⟩ = some (.int .i64 g.a) := fun q => (r0.below q.2).cell 3 _ rfl
    have c4 : ∀ q : Ext W, q.1.cell? ⟨B, 4, none⟩ = some (.int .i64 g.r) := fun q => (r0.below q.2).cell 4 _ rfl
    obtain ⟨M, hM⟩ : ∃ M : Nat, g.slots = (M : Int) := ⟨g.slots.toNat, by omega⟩
    obtain ⟨A, hA⟩ : ∃ A : Nat, g.a = (A : Int) := ⟨g.a.toNat, by omega⟩
    have hm : g.s * g.y = (M : Int) := hM
    obtain ⟨P, hP'⟩ : ∃ n, g.pgs = n := ⟨_, rfl⟩
    obtain ⟨T, hT⟩ : ∃ n, g.bts = n := ⟨_, rfl⟩
    obtain ⟨r, hr⟩ : ∃ n, g.r = n := ⟨_, rfl⟩
    obtain ⟨b, hb⟩ : ∃ n, g.b = n := ⟨_, rfl⟩
    obtain ⟨s, hs⟩ : ∃ n, g.s = n := ⟨_, rfl⟩
    obtain ⟨y, hy⟩ : ∃ n, g.y = n := ⟨_, rfl⟩
    rw [hM] at Q5 Q7 b1 b2
    rw [hA] at Q6 Q8 R6 R8 c3 h7 h8
    rw [hP'] at R2 Q2 Q5 Q7 b5 b6 hP h9
    rw [hT] at R1 Q1 b3 b4 hP
    rw [hr] at Q4 Q5 Q7 c4 h9 h10
    rw [hb] at R6 Q6 Q8 c0 h1 h2
    rw [hs] at c1 hm h3 h4
    rw [hy] at c2 hm h5 h6
    clear HSL HAR HK HG r0 hin hM hA hP' hT hr hb hs hy
    go_enter Try.func4, Try.ntmps4
    go_wp2_with fail
    refine (Q0.out ⟨W, Below.refl _ _⟩).mono ?_
    rintro en x1 ⟨rfl, X1, rfl⟩
    go_wp2_with fail
    refine (Q3.out _).mono ?_
    rintro en x1 ⟨rfl, X2, rfl⟩
    go_wp2_with fail
    refine (Q4.out _).mono ?_
    rintro en x1 ⟨rfl, X3, rfl⟩
    go_wp2_with fail
    refine (Q2.out _).mono ?_
    rintro en x1 ⟨rfl, X4, rfl⟩
    go_wp2_with fail
    go_loopw [3, 4] (fun o i wr => ∃ (k : Nat) (x : Ext W), k ≤ M ∧ i = .int .i64 k ∧ o = .int .i64 (2 + r + P + k) ∧ wr = x.1) (fun _ i _ => M - (intOf i).toNat)
    case atStart => exact ⟨0, X4, Nat.zero_le _, rfl, by simp, rfl⟩
    case round =>
      obtain ⟨k, x, hk, rfl, rfl, rfl⟩ := hrel
      by_cases hlt : k < M
      · have g1 : (k : Int) < (M : Int) := by omega
        have Q := Q7.out k (by omega)
        rw [if_pos g1] at Q
        have HLT := Lib.hid hlt
        go_wp2_with fail
        refine (Q _).mono ?_
        rintro en x1 ⟨rfl, X5, rfl⟩
        go_wp2_with fail
        exact ⟨⟨k + 1, X5, HLT.out, by simp, by simp; omega, rfl⟩, by have := HLT.out; simp [intOf]; omega⟩
      · obtain rfl : k = M := by omega
        have Q := Q7.out k (by omega)
        rw [if_neg (by omega)] at Q
        have g1 : ¬ ((k : Int) < (k : Int)) := by omega
        go_wp2_with fail
        refine (Q5.out _).mono ?_
        rintro en x1 ⟨rfl, X5, rfl⟩
        go_wp2_with fail
        refine (Q _).mono ?_
        rintro en x1 ⟨rfl, X6, rfl⟩
        clear Q g1
        go_wp2_with fail
        go_loopw [5, 6] (fun o i wr => ∃ (k : Nat) (x : Ext W), k ≤ A ∧ i = .int .i64 k ∧ o = .int .i64 (b + k) ∧ wr = x.1) (fun _ i _ => A - (intOf i).toNat)
        case atStart => exact ⟨0, X6, Nat.zero_le _, rfl, by simp, rfl⟩
        case round =>
          obtain ⟨j, x, hj, rfl, rfl, rfl⟩ := hrel
          by_cases hlt : j < A
          · have g1 : (j : Int) < (A : Int) := by omega
            have Q := Q8.out j (by omega)
            rw [if_pos g1] at Q
            have HLT := Lib.hid hlt
            go_wp2_with fail
            refine (Q _).mono ?_
            rintro en x1 ⟨rfl, X7, rfl⟩
            go_wp2_with fail
            exact ⟨⟨j + 1, X7, HLT.out, by simp, by simp; omega, rfl⟩, by have := HLT.out; simp [intOf]; omega⟩
          · obtain rfl : j = A := by omega
            have Q9 := Q8.out j (by omega)
            rw [if_neg (by omega)] at Q9
            have Q9 := Lib.hid Q9
            have g1 : ¬ ((j : Int) < (j : Int)) := by omega
            have g2 : P * 48 ≥ T := hP
            have g3 : P ≤ r - 2 := by omega
            go_wp2_with fail
            obtain ⟨V, hxV⟩ : ∃ V, x.1 = V := ⟨_, rfl⟩
            have HV : Hid (Below W.heap.size W V) := by rw [← hxV]; exact x.2
            rw [hxV]
            have up : ∀ q : Ext V, Below W.heap.size W q.1 := fun q => HV.out.trans (q.2.mono HV.out.size)
            have LGV : ∀ q : Ext V, (loadVar 23 ⟨B, 0, none⟩).run Try.prog q.1 = .ok (.agg g.v) q.1 := fun q => LG ⟨q.1, up q⟩
            have d3 : ∀ q : Ext V, q.1.cell? ⟨B, 3, none⟩ = some (.int .i64 j) := fun q => c3 ⟨q.1, up q⟩
            have d4 : ∀ q : Ext V, q.1.cell? ⟨B, 4, none⟩ = some (.int .i64 r) := fun q => c4 ⟨q.1, up q⟩
            have T1 : Hid (∀ q : Ext V, Calls Try.prog 9 #[.agg g.v] q.1 fun en w'' => en = .returned (.int .i64 T) ∧ ∃ q' : Ext V, w'' = q'.1) := fun q => calls_ext q (R1.out q.1)
            have T2 : Hid (∀ q : Ext V, Calls Try.prog 10 #[.agg g.v] q.1 fun en w'' => en = .returned (.int .i64 P) ∧ ∃ q' : Ext V, w'' = q'.1) := fun q => calls_ext q (R2.out q.1)
            have T6 : Hid (∀ q : Ext V, Calls Try.prog 14 #[.agg g.v] q.1 fun en w'' => en = .returned (.int .i64 (b + j)) ∧ ∃ q' : Ext V, w'' = q'.1) := fun q => calls_ext q (R6.out q.1)
            have T8 : Hid (∀ q : Ext V, Calls Try.prog 17 #[.agg g.v, .int .i64 j] q.1 fun en w'' => en = .returned (.int .i64 0) ∧ ∃ q' : Ext V, w'' = q'.1) := fun q => calls_ext q (R8.out q.1)
            have TW : Hid (∀ q : Ext V, Calls Try.prog 19 #[] q.1 fun en w'' => en = .returned (.bool true) ∧ ∃ q' : Ext V, w'' = q'.1) := fun q => calls_ext q (RW.out q.1)
            clear hxV LG LG0 c0 c1 c2 c3 c4 Q0 Q1 Q2 Q3 Q4 Q5 Q6 Q7 Q8 Q9 QW R1 R2 R6 R8 RW
            refine region_ext (by kernel_rfl) (by kernel_rfl) ?_
            repeat (go_big_quiet_step (with_reducible (first | exact T1.out _ | exact T2.out _ | exact T6.out _ | exact T8.out _ | exact TW.out _)))
            refine wpQuiet_nil ?_
            intro x
            have HX : Hid (Below w.heap.size w x.1) := HB0.out.trans ((up x).mono HB0.out.size)
            clear LGV d3 d4
            go_wp2_with fail
            go_ret
            exact ⟨rfl, HX.out⟩
  · have HG := Lib.hid hg
    have Q0 : Hid (∀ q : Ext W, Calls Try.prog 7 #[.agg g.v] q.1 fun en w'' => en = .returned (.bool false) ∧ ∃ q' : Ext W, w'' = q'.1) := fun q => calls_ext q (by have := HK.out.good g hin q.1; rwa [decide_eq_false HG.out] at this)
    have Q5 : Hid (∀ q : Ext W, Calls Try.prog 13 #[.agg g.v] q.1 fun en w'' => en = .returned (.int .i64 0) ∧ ∃ q' : Ext W, w'' = q'.1) := fun q => calls_ext q (by have := HK.out.fast g hin q.1; rwa [Geo.oF, if_neg HG.out] at this)
    have Q6 : Hid (∀ q : Ext W, Calls Try.prog 14 #[.agg g.v] q.1 fun en w'' => en = .returned (.int .i64 0) ∧ ∃ q' : Ext W, w'' = q'.1) := fun q => calls_ext q (by have := HK.out.slow g hin q.1; rwa [Geo.oW, if_neg HG.out] at this)
    clear HK HG r0 hin hg
    go_enter Try.func4, Try.ntmps4
    go_wp2_with fail
    refine (Q0.out ⟨W, Below.refl _ _⟩).mono ?_
    rintro en x1 ⟨rfl, X1, rfl⟩
    go_wp2_with fail
    refine (Q5.out _).mono ?_
    rintro en x1 ⟨rfl, X2, rfl⟩
    go_wp2_with fail
    refine (Q6.out _).mono ?_
    rintro en x1 ⟨rfl, X3, rfl⟩
    go_wp2_with fail
    refine (QW.out _).mono ?_
    rintro en x1 ⟨rfl, X4, rfl⟩
    go_wp2_with fail
    go_ret
    exact ⟨rfl, HB0.out.trans (X4.2.mono HB0.out.size)⟩

set_option maxRecDepth 100000 in
theorem lifted (os : Os) (started : os.Started) (H : Type) (enc : TypeId × Value → H) :
    ReturnsInHanded {} Try.checked os 4 .any (Rows.geomApartSpec.pre6 enc Try.prog Try.f4 Rows.geomApartRow.domain false) (Rows.geomApartSpec.post enc Try.prog Try.f4 false true false false) := by
  refine returnsInHanded_of_change (C := Try.checked) own started (by kernel_rfl) Try.func4
    (ChangeSpec.witness6 (enc := enc) (C := Try.checked) false ⟨#[], #[.agg #[.int .i64 0, .int .i64 0, .int .i64 0, .int .i64 0, .int .i64 0]], []⟩ 8 (by kernel_rfl) (by kernel_rfl) (by kernel_rfl) (by kernel_rfl)) ?_
  intro W base args ds gs before hval0 hW hcnd _
  have hval : ∀ (j : Nat) t v, Try.f4.params[j]? = some t → args[j]? = some v → Value.okWide Try.prog W .any base t v := hval0
  have hW' := hW
  obtain ⟨p, q, hA0, hV, rfl, hfz, hnd⟩ := hW
  have hA : DataW.TrodAll enc Try.prog W 0 (fun _ => true) true Try.f4.params.toList args.toList ds p := hA0
  rw [Try.params4] at hA hval
  obtain ⟨v0, vs0, d0, ds0, p0, q0, hargs, rfl, rfl, h0, r0⟩ := trodAll_cons hA
  obtain ⟨rfl, rfl, rfl⟩ := trodAll_nil r0
  obtain rfl : args = #[v0] := by cases args; simp_all
  obtain ⟨rfl, rfl⟩ := trodVars_none hV
  have lt0 : ∀ x ∈ p0, x.block < W.heap.size := by obtain ⟨m, hm⟩ := h0; exact DataW.trod_lt m _ _ _ hm
  have a0 := Arg.mk (hval 0 23 v0 rfl rfl) h0
  clear hA0 hval0
  refine (walk v0 W a0).mono fun e W' ⟨he, bel⟩ => ?_
  subst he
  exact ⟨_, rfl, _, _, _, [], _, [], hW', trodAll_mk1 (shut_bool Try.underlying4 _), (trodAll_cons_mk (Below.trod laidOut (by kernel_rfl) (of_decide_eq_true (by kernel_rfl)) h0 bel lt0) trodAll_mk0), rfl, bel.frame _, fun h => by cases h⟩

set_option maxRecDepth 100000 in
theorem over : Rows.geomApartRow.holds Try.pinned (OpenSpec.ofChange Rows.geomApartSpec) :=
  OpenClaim.holds_of_wide 4 Try.f4 rfl rfl rfl rfl rfl rfl rfl ⟨rfl, rfl, rfl, rfl, rfl⟩ rfl rfl rfl rfl rfl (by kernel_rfl) Try.func4 (by kernel_rfl)
    (of_decide_eq_true (by kernel_rfl)) (by unfold Func.isWrapper; first | (rw [if_pos (by decide +kernel)]; kernel_rfl) | (rw [if_neg (by decide +kernel)]; exact ⟨rfl, rfl⟩))
    (fun os started H enc _ => lifted os started H enc)

theorem proved : Rows.GeomApartSaid := over
#print axioms proved
end Go.Proofs.Ytnffaekbldcphaa.geomApart
