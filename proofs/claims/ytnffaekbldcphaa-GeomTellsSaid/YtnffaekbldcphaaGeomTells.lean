/- The developers' nine functions of a geometry tell what the document's own do, for whatever geometry and whatever place. No further condition. -/
import Derived.Test.YtnffaekbldcphaaGmWk
import Derived.Test.YtnffaekbldcphaaGmArg
import Derived.Test.YtnffaekbldcphaaPgArg
import Derived.Test.YtnffaekbldcphaaGmAll
namespace Go.Proofs.Ytnffaekbldcphaa.geomTells
open Go.ChangeShapes Go.WideShapes Go.ChangeAt Go.RowKit
set_option linter.unusedVariables false
attribute [-simp] Try.isAgg25 Try.zeroValue25
attribute [-go_sem] loadVar storeVar
attribute [local go_sem] loadVar_openG storeVar_openG zero_szs build_szs0

set_option maxRecDepth 100000 in
set_option maxHeartbeats 8000000 in
theorem walk (v0 v1 : Value) (w : World) (w0 : Arg w 23 v0) (w1 : Arg w 3 v1) :
    Calls Try.prog 3 #[v0, v1] w fun e w' => e = .returned (.bool true) ∧ Below w.heap.size w w' := by
  obtain ⟨g, hin, rfl⟩ := w0.geo
  obtain ⟨i, rfl, wi⟩ := w1.int Try.underlying3
  have BI := bounds_i64 wi
  have HK := Lib.hid geomOk
  have HW := Lib.hid (geoWakes geomOk)
  have C0 := Lib.hid (geomOk.good g hin)
  have C1 := Lib.hid (refGood7 g)
  have C2 := Lib.hid (geomOk.bytes g hin)
  have C3 := Lib.hid (geomOk.pages g hin)
  have C4 := Lib.hid (geomOk.ring g hin)
  have C5 := Lib.hid (geomOk.home g hin)
  have C6 := Lib.hid (geomOk.fast g hin)
  have C7 := Lib.hid (geomOk.slow g hin)
  have C8 := Lib.hid (geomOk.slot g hin i BI.1 BI.2)
  have C9 := Lib.hid (refSlot g i)
  have C10 := Lib.hid (geomOk.area g hin i BI.1 BI.2)
  have C11 := Lib.hid (refArea g i)
  have CO := Lib.hid (refOf g)
  obtain ⟨a, b, c, d, e, f, h, j, hs, -, -, ea, eb, ed, ee, eh, ej⟩ := g.szl_eq
  rw [hs] at CO
  rw [← ea] at C2
  rw [← eb] at C3
  rw [← ed] at C4
  rw [← ee] at C5
  rw [← eh] at C6
  rw [← ej] at C7
  obtain ⟨z, hz⟩ : ∃ z, decide g.good = z := ⟨_, rfl⟩
  rw [hz] at C0 C1
  obtain ⟨si, hsi⟩ : ∃ n, g.oS i = n := ⟨_, rfl⟩
  rw [hsi] at C8 C9
  obtain ⟨ai, hai⟩ : ∃ n, g.oA i = n := ⟨_, rfl⟩
  rw [hai] at C10 C11
  obtain ⟨W, hW⟩ : ∃ W, w.alloc (.cells g.v 23) = W := ⟨_, rfl⟩
  have r : RowC W w.heap.size 23 g.cs := by rw [← hW]; exact RowC.new w _ _
  have HB0 : Hid (Below w.heap.size w W) := by show Below _ _ _; rw [← hW]; exact below_new w _
  obtain ⟨B, hB⟩ : ∃ b, w.heap.size = b := ⟨_, rfl⟩
  have r' := r
  rw [hB] at r'
  have L0 := load_geo r'
  have HR := Lib.hid r'
  clear r r' w0 w1 wi BI hin hs ea eb ed ee eh ej hz hsi hai
  go_enter Try.func3, Try.ntmps3
  go_wp2_with fail
  refine (CO.out _).mono ?_
  rintro e' x ⟨rfl, hb⟩
  obtain ⟨y, ST, hr, hby⟩ := new_szs x a b c d e f h j
  have HB1 : Hid (Below W.heap.size W y) := hb.trans (hby.mono hb.size)
  obtain ⟨Bs, hBs⟩ : ∃ b, x.heap.size = b := ⟨_, rfl⟩
  rw [hBs] at hr ST
  have hBsW : B < y.heap.size ∨ True := .inr trivial
  have HLT : Hid (∀ q : Ext y, Below W.heap.size W q.1) := fun q => HB1.out.trans (q.2.mono HB1.out.size)
  have LG : ∀ q : Ext y, (loadVar 23 ⟨B, 0, none⟩).run Try.prog q.1 = .ok (.agg g.v) q.1 := fun q => load_geo (HR.out.below (HLT.out q))
  have c0 : ∀ q : Ext y, q.1.cell? ⟨Bs, 0, none⟩ = some (.int .i64 a) := fun q => (hr.below q.2).cell 0 _ rfl
  have c1 : ∀ q : Ext y, q.1.cell? ⟨Bs, 1, none⟩ = some (.int .i64 b) := fun q => (hr.below q.2).cell 1 _ rfl
  have c3 : ∀ q : Ext y, q.1.cell? ⟨Bs, 3, none⟩ = some (.int .i64 d) := fun q => (hr.below q.2).cell 3 _ rfl
  have c4 : ∀ q : Ext y, q.1.cell? ⟨Bs, 4, none⟩ = some (.int .i64 e) := fun q => (hr.below q.2).cell 4 _ rfl
  have c6 : ∀ q : Ext y, q.1.cell? ⟨Bs, 6, none⟩ = some (.int .i64 h) := fun q => (hr.below q.2).cell 6 _ rfl
  have c7 : ∀ q : Ext y, q.1.cell? ⟨Bs, 7, none⟩ = some (.int .i64 j) := fun q => (hr.below q.2).cell 7 _ rfl
  clear hb hby hr L0 hBsW
  have Q0 : Hid (∀ q : Ext y, Calls Try.prog 7 #[.agg g.v] q.1 fun en w'' => en = .returned (.bool z) ∧ ∃ q' : Ext y, w'' = q'.1) := fun q => calls_ext q (C0.out q.1)
  have Q1 : Hid (∀ q : Ext y, Calls Try.prog 8 #[.agg g.v] q.1 fun en w'' => en = .returned (.bool z) ∧ ∃ q' : Ext y, w'' = q'.1) := fun q => calls_ext q (C1.out q.1)
  have Q2 : Hid (∀ q : Ext y, Calls Try.prog 9 #[.agg g.v] q.1 fun en w'' => en = .returned (.int .i64 a) ∧ ∃ q' : Ext y, w'' = q'.1) := fun q => calls_ext q (C2.out q.1)
  have Q3 : Hid (∀ q : Ext y, Calls Try.prog 10 #[.agg g.v] q.1 fun en w'' => en = .returned (.int .i64 b) ∧ ∃ q' : Ext y, w'' = q'.1) := fun q => calls_ext q (C3.out q.1)
  have Q4 : Hid (∀ q : Ext y, Calls Try.prog 11 #[.agg g.v] q.1 fun en w'' => en = .returned (.int .i64 d) ∧ ∃ q' : Ext y, w'' = q'.1) := fun q => calls_ext q (C4.out q.1)
  have Q5 : Hid (∀ q : Ext y, Calls Try.prog 12 #[.agg g.v] q.1 fun en w'' => en = .returned (.int .i64 e) ∧ ∃ q' : Ext y, w'' = q'.1) := fun q => calls_ext q (C5.out q.1)
  have Q6 : Hid (∀ q : Ext y, Calls Try.prog 13 #[.agg g.v] q.1 fun en w'' => en = .returned (.int .i64 h) ∧ ∃ q' : Ext y, w'' = q'.1) := fun q => calls_ext q (C6.out q.1)
  have Q7 : Hid (∀ q : Ext y, Calls Try.prog 14 #[.agg g.v] q.1 fun en w'' => en = .returned (.int .i64 j) ∧ ∃ q' : Ext y, w'' = q'.1) := fun q => calls_ext q (C7.out q.1)
  have Q8 : Hid (∀ q : Ext y, Calls Try.prog 15 #[.agg g.v, .int .i64 i] q.1 fun en w'' => en = .returned (.int .i64 si) ∧ ∃ q' : Ext y, w'' = q'.1) := fun q => calls_ext q (C8.out q.1)
  have Q9 : Hid (∀ q : Ext y, Calls Try.prog 16 #[.agg g.v, .int .i64 i] q.1 fun en w'' => en = .returned (.int .i64 si) ∧ ∃ q' : Ext y, w'' = q'.1) := fun q => calls_ext q (C9.out q.1)
  have Q10 : Hid (∀ q : Ext y, Calls Try.prog 17 #[.agg g.v, .int .i64 i] q.1 fun en w'' => en = .returned (.int .i64 ai) ∧ ∃ q' : Ext y, w'' = q'.1) := fun q => calls_ext q (C10.out q.1)
  have Q11 : Hid (∀ q : Ext y, Calls Try.prog 18 #[.agg g.v, .int .i64 i] q.1 fun en w'' => en = .returned (.int .i64 ai) ∧ ∃ q' : Ext y, w'' = q'.1) := fun q => calls_ext q (C11.out q.1)
  have Q12 : Hid (∀ q : Ext y, Calls Try.prog 19 #[] q.1 fun en w'' => en = .returned (.bool true) ∧ ∃ q' : Ext y, w'' = q'.1) := fun q => calls_ext q (HW.out q.1)
  clear C0 C1 C2 C3 C4 C5 C6 C7 C8 C9 C10 C11 HW CO HR HK
  go_wp2_with fail
  try simp only [List.append_eq, List.cons_append, List.nil_append]
  refine region_ext (by kernel_rfl) (by kernel_rfl) ?_
  repeat (go_big_quiet_step (with_reducible (first | exact Q0.out _ | exact Q1.out _ | exact Q2.out _ | exact Q3.out _ | exact Q4.out _ | exact Q5.out _ | exact Q6.out _ | exact Q7.out _ | exact Q8.out _ | exact Q9.out _ | exact Q10.out _ | exact Q11.out _ | exact Q12.out _)))
  refine wpQuiet_nil ?_
  intro x
  clear LG c0 c1 c3 c4 c6 c7
  go_wp2_with fail
  go_ret
  exact ⟨rfl, HB0.out.trans ((HLT.out x).mono HB0.out.size)⟩

set_option maxRecDepth 100000 in
theorem lifted (os : Os) (started : os.Started) (H : Type) (enc : TypeId × Value → H) :
    ReturnsInHanded {} Try.checked os 3 .any (Rows.geomTellsSpec.pre6 enc Try.prog Try.f3 Rows.geomTellsRow.domain false) (Rows.geomTellsSpec.post enc Try.prog Try.f3 false true false false) := by
  refine returnsInHanded_of_change (C := Try.checked) own started (by kernel_rfl) Try.func3
    (ChangeSpec.witness6 (enc := enc) (C := Try.checked) false ⟨#[], #[.agg #[.int .i64 0, .int .i64 0, .int .i64 0, .int .i64 0, .int .i64 0], .int .i64 0], []⟩ 8 (by kernel_rfl) (by kernel_rfl) (by kernel_rfl) (by kernel_rfl)) ?_
  intro W base args ds gs before hval0 hW hcnd _
  have hval : ∀ (j : Nat) t v, Try.f3.params[j]? = some t → args[j]? = some v → Value.okWide Try.prog W .any base t v := hval0
  have hW' := hW
  obtain ⟨p, q, hA0, hV, rfl, hfz, hnd⟩ := hW
  have hA : DataW.TrodAll enc Try.prog W 0 (fun _ => true) true Try.f3.params.toList args.toList ds p := hA0
  rw [Try.params3] at hA hval
  obtain ⟨v0, vs0, d0, ds0, p0, q0, hargs, rfl, rfl, h0, r0⟩ := trodAll_cons hA
  obtain ⟨v1, vs1, d1, ds1, p1, q1, rfl, rfl, rfl, h1, r1⟩ := trodAll_cons r0
  obtain ⟨rfl, rfl, rfl⟩ := trodAll_nil r1
  obtain rfl : args = #[v0, v1] := by cases args; simp_all
  obtain ⟨rfl, rfl⟩ := trodVars_none hV
  have lt0 : ∀ x ∈ p0, x.block < W.heap.size := by obtain ⟨m, hm⟩ := h0; exact DataW.trod_lt m _ _ _ hm
  have a0 := Arg.mk (hval 0 23 v0 rfl rfl) h0
  have lt1 : ∀ x ∈ p1, x.block < W.heap.size := by obtain ⟨m, hm⟩ := h1; exact DataW.trod_lt m _ _ _ hm
  have a1 := Arg.mk (hval 1 3 v1 rfl rfl) h1
  clear hA0 hval0
  refine (walk v0 v1 W a0 a1).mono fun e W' ⟨he, bel⟩ => ?_
  subst he
  exact ⟨_, rfl, _, _, _, [], _, [], hW', trodAll_mk1 (shut_bool Try.underlying4 _), (trodAll_cons_mk (Below.trod laidOut (by kernel_rfl) (of_decide_eq_true (by kernel_rfl)) h0 bel lt0) (trodAll_cons_mk (Below.trod laidOut (by kernel_rfl) (of_decide_eq_true (by kernel_rfl)) h1 bel lt1) trodAll_mk0)), rfl, bel.frame _, fun h => by cases h⟩

set_option maxRecDepth 100000 in
theorem over : Rows.geomTellsRow.holds Try.pinned (OpenSpec.ofChange Rows.geomTellsSpec) :=
  OpenClaim.holds_of_wide 3 Try.f3 rfl rfl rfl rfl rfl rfl rfl ⟨rfl, rfl, rfl, rfl, rfl⟩ rfl rfl rfl rfl rfl (by kernel_rfl) Try.func3 (by kernel_rfl)
    (of_decide_eq_true (by kernel_rfl)) (by unfold Func.isWrapper; first | (rw [if_pos (by decide +kernel)]; kernel_rfl) | (rw [if_neg (by decide +kernel)]; exact ⟨rfl, rfl⟩))
    (fun os started H enc _ => lifted os started H enc)

theorem proved : Rows.GeomTellsSaid := over
#print axioms proved
end Go.Proofs.Ytnffaekbldcphaa.geomTells
