/- With one block, one set more, or some more of the area or of the ring, just these are more of what a geometry tells; no fewer pages. No further condition. -/
import Derived.Test.YtnffaekbldcphaaGmWk
import Derived.Test.YtnffaekbldcphaaGmArg
import Derived.Test.YtnffaekbldcphaaPgArg
import Derived.Test.YtnffaekbldcphaaGmAll
import Derived.Test.YtnffaekbldcphaaGmGr
namespace Go.Proofs.Ytnffaekbldcphaa.geomGrows
open Go.ChangeShapes Go.WideShapes Go.ChangeAt Go.RowKit
set_option linter.unusedVariables false
attribute [-simp] Try.isAgg25 Try.zeroValue25
attribute [-go_sem] loadVar storeVar
attribute [local go_sem] loadVar_openG storeVar_openG zero_szs build_szs0

set_option maxRecDepth 100000 in
set_option maxHeartbeats 8000000 in
theorem walk (v0 v1 : Value) (w : World) (w0 : Arg w 23 v0) (w1 : Arg w 5 v1) :
    Calls Try.prog 5 #[v0, v1] w fun e w' => e = .returned (.bool true) ∧ Below w.heap.size w w' := by
  obtain ⟨g, hin, rfl⟩ := w0.geo
  obtain ⟨n, rfl, wn⟩ := w1.int Try.underlying5
  have BN := (wf_iff .u8 n).1 wn
  simp [IntKind.min, IntKind.max, IntKind.signed, IntKind.bits] at BN
  have HK := Lib.hid geomOk
  have RW := Lib.hid (geoWakes geomOk)
  have RG := Lib.hid (refGood7 g)
  obtain ⟨W, hW⟩ : ∃ W, w.alloc (.cells g.v 23) = W := ⟨_, rfl⟩
  have r0 : RowC W w.heap.size 23 g.cs := by rw [← hW]; exact RowC.new w _ _
  have HB0 : Hid (Below w.heap.size w W) := by show Below _ _ _; rw [← hW]; exact below_new w _
  obtain ⟨B, hB⟩ : ∃ b, w.heap.size = b := ⟨_, rfl⟩
  rw [hB] at r0
  have HR0 := Lib.hid r0
  have LG0 : (loadVar 23 ⟨B, 0, none⟩).run Try.prog W = .ok (.agg g.v) W := load_geo r0
  clear w0 w1 wn r0
  by_cases hg : g.good
  · have HG := Lib.hid hg
    rw [decide_eq_true hg] at RG
    obtain ⟨⟨h1, h2, h3, h4, h5, h6, h7, h8⟩, h9, h10⟩ := hg
    have HIN := Lib.hid hin
    have hq : n.tmod 4 = 0 ∨ n.tmod 4 = 1 ∨ n.tmod 4 = 2 ∨ n.tmod 4 = 3 := by rw [Int.tmod_eq_emod_of_nonneg (by omega)]; omega
    obtain ⟨t, ht⟩ : ∃ t, n.tdiv 4 = t := ⟨_, rfl⟩
    have ht1 : 0 ≤ t ∧ t ≤ 63 := by rw [← ht, Int.tdiv_eq_ediv_of_nonneg (by omega)]; omega
    obtain ⟨k, hk⟩ : ∃ k, t.tmod 8 = k := ⟨_, rfl⟩
    have hk1 : 0 ≤ k ∧ k ≤ 7 := by rw [← hk, Int.tmod_eq_emod_of_nonneg (by omega)]; omega
    obtain ⟨ht0, ht1⟩ := ht1
    obtain ⟨hk0, hk1⟩ := hk1
    have hr1 : 4 ≤ g.r := by
      have := (Geo.bounds HG.out.1)
      omega
    clear hin h9
    rcases hq with hq | hq | hq | hq
    · as_aux_lemma =>
        have hhx : ∃ h : Geo, h = ⟨g.b + 1, g.s, g.y, g.a, g.r⟩ := ⟨_, rfl⟩
        obtain ⟨h, hh⟩ := hhx
        have HH := Lib.hid hh
        have HHIN : Hid h.In := by
          intro m' hm'
          have BIN := HIN.out
          rw [hh] at hm'
          unfold Geo.In at BIN
          simp only [List.mem_cons, List.mem_nil_iff, or_false] at hm' BIN
          rcases hm' with rfl | rfl | rfl | rfl | rfl <;> first | exact BIN _ (.inl rfl) | exact BIN _ (.inr (.inl rfl)) | exact BIN _ (.inr (.inr (.inl rfl))) | exact BIN _ (.inr (.inr (.inr (.inl rfl)))) | exact BIN _ (.inr (.inr (.inr (.inr rfl)))) | omega
        clear hh
        obtain ⟨old, hold⟩ : ∃ o, g.b = o := ⟨_, rfl⟩
        have HOLD := Lib.hid hold
        rw [hold] at h1 h2
        clear hold
        go_enter Try.func5, Try.ntmps5
        go_wp2_with fail
        refine (RG.out W).mono ?_
        rintro en x1 ⟨rfl, hb1⟩
        have LG1 : (loadVar 23 ⟨B, 0, none⟩).run Try.prog x1 = .ok (.agg g.v) x1 := load_geo (HR0.out.below hb1)
        obtain ⟨y, ST, hr, hby⟩ := new_geo x1 g
        have HBX : Hid (Below W.heap.size W x1) := hb1
        obtain ⟨C, hC⟩ : ∃ b, x1.heap.size = b := ⟨_, rfl⟩
        have HCZ := Lib.hid hC
        have HBY : Hid (Below x1.heap.size x1 y) := hby
        rw [hC] at hr ST
        have ST : (storeVar 23 ⟨C, 0, none⟩ (.agg g.v)).run Try.prog (x1.alloc (.cells #[.int .i64 0, .int .i64 0, .int .i64 0, .int .i64 0, .int .i64 0] 23)) = .ok () y := ST
        have d : y.cell? ⟨C, 0, none⟩ = some (.int .i64 old) := by rw [← HOLD.out]; exact hr.cell 0 _ rfl
        have df : y.frozen? ⟨C, 0, none⟩ = false := hr.frozen 0
        have hr2 := hr.set 0 (.int .i64 (old + 1))
        have HR2 : Hid (RowC (y.setCell ⟨C, 0, none⟩ (.int .i64 (old + 1))) C 23 h.cs) := by rw [HH.out]; have := hr2; rw [← HOLD.out] at this ⊢; exact this
        obtain ⟨X, hX⟩ : ∃ X, y.setCell ⟨C, 0, none⟩ (.int .i64 (old + 1)) = X := ⟨_, rfl⟩
        rw [hX] at HR2
        have HXW : Hid (Below W.heap.size W X) := by
          show Below _ _ _
          rw [← hX]
          exact (HBX.out.trans (HBY.out.mono HBX.out.size)).setCell (by show _ ≤ C; rw [← HCZ.out]; exact HBX.out.size) _
        have HRB : Hid (RowC X B 23 g.cs) := HR0.out.below HXW.out
        have LX : (loadVar 23 ⟨C, 0, none⟩).run Try.prog X = .ok (.agg h.v) X := load_geo HR2.out
        have RGH := Lib.hid (refGood7 h)
        clear hr2 hb1 hby hr LG0
        by_cases hgh : h.good
        · rw [decide_eq_true hgh] at RGH
          have hh := HH.out
          obtain ⟨m1, m2, m3, m4⟩ := Geo.more0 HG.out hgh hh
          have NN := Geo.nums HG.out hgh
          rw [m4] at NN
          have HNN := Lib.hid NN
          obtain ⟨Ba, eBa⟩ : ∃ n, g.bts = n := ⟨_, rfl⟩
          have EBa := Lib.hid eBa
          obtain ⟨Bb, eBb⟩ : ∃ n, h.bts = n := ⟨_, rfl⟩
          have EBb := Lib.hid eBb
          obtain ⟨Fa, eFa⟩ : ∃ n, 2 + g.r + g.pgs + g.slots = n := ⟨_, rfl⟩
          have EFa := Lib.hid eFa
          obtain ⟨Fb, eFb⟩ : ∃ n, 2 + h.r + h.pgs + h.slots = n := ⟨_, rfl⟩
          have EFb := Lib.hid eFb
          obtain ⟨Pa, ePa⟩ : ∃ n, g.pgs = n := ⟨_, rfl⟩
          have EPa := Lib.hid ePa
          obtain ⟨Pb, ePb⟩ : ∃ n, h.pgs = n := ⟨_, rfl⟩
          have EPb := Lib.hid ePb
          obtain ⟨Sa, eSa⟩ : ∃ n, g.b + g.a = n := ⟨_, rfl⟩
          have ESa := Lib.hid eSa
          try rw [eBa] at HNN
          try rw [eBb] at HNN
          try rw [eFa] at HNN
          try rw [eFb] at HNN
          try rw [ePa] at HNN
          try rw [ePb] at HNN
          try rw [eSa] at HNN
          rw [eBa, eBb] at m1 m2
          rw [ePa, ePb] at m3
          obtain ⟨u1, u1b⟩ := HNN.out.b1
          obtain ⟨u3, u3b⟩ := HNN.out.b3
          obtain ⟨u4, u4b⟩ := HNN.out.b4
          obtain ⟨u5, u5b⟩ := HNN.out.b5
          obtain ⟨u7, u7b⟩ := HNN.out.b7
          obtain ⟨u2, u2b⟩ := HNN.out.b2
          clear NN hh eBa eBb eFa eFb ePa ePb eSa
          have d1 : decide (Ba + 9 ≤ Bb) = true := by simpa using m1
          have d1' : decide (Bb ≥ Ba + 9) = true := d1
          have d2 : decide (Bb ≤ Ba + 17) = true := by simpa using m2
          have d3 : decide (Pa ≤ Pb) = true := by simpa using m3
          have d3' : decide (Pb ≥ Pa) = true := d3
          clear m1 m2 m3 m4
          go_wp2_with fail
          refine (RGH.out X).mono ?_
          rintro en x2 ⟨rfl, hb2⟩
          have HV : Hid (Below X.heap.size X x2) := hb2
          clear hb2 LX ST LG1 d df
          clear h1 h2 h3 h4 h5 h6 h7 h8 h10 hr1
          go_wp2_with fail
          have up : ∀ z : Ext x2, Below X.heap.size X z.1 := fun z => HV.out.trans (z.2.mono HV.out.size)
          have L0 : ∀ z : Ext x2, (loadVar 23 ⟨B, 0, none⟩).run Try.prog z.1 = .ok (.agg g.v) z.1 := fun z => load_geo (HRB.out.below (up z))
          have L1 : ∀ z : Ext x2, (loadVar 23 ⟨C, 0, none⟩).run Try.prog z.1 = .ok (.agg h.v) z.1 := fun z => load_geo (HR2.out.below (up z))
          have T0 : Hid (∀ z : Ext x2, Calls Try.prog 9 #[.agg g.v] z.1 fun en w'' => en = .returned (.int .i64 (Ba)) ∧ ∃ z' : Ext x2, w'' = z'.1) := fun z => calls_ext z (by have := HK.out.bytes g HIN.out z.1; rwa [HNN.out.ba] at this)
          have T1 : Hid (∀ z : Ext x2, Calls Try.prog 9 #[.agg h.v] z.1 fun en w'' => en = .returned (.int .i64 (Bb)) ∧ ∃ z' : Ext x2, w'' = z'.1) := fun z => calls_ext z (by have := HK.out.bytes h HHIN.out z.1; rwa [HNN.out.bb] at this)
          have TW : Hid (∀ z : Ext x2, Calls Try.prog 19 #[] z.1 fun en w'' => en = .returned (.bool true) ∧ ∃ z' : Ext x2, w'' = z'.1) := fun z => calls_ext z (RW.out z.1)
          clear up
          refine region_ext (by kernel_rfl) (by kernel_rfl) ?_
          repeat (go_big_quiet_step (with_reducible (first | exact T0.out _ | exact T1.out _)))
          refine wpQuiet_nil ?_
          intro x
          obtain ⟨V, hxV⟩ : ∃ V, x.1 = V := ⟨_, rfl⟩
          have HV2 : Hid (Below X.heap.size X V) := by rw [← hxV]; exact HV.out.trans (x.2.mono HV.out.size)
          rw [hxV]
          clear hxV L0 L1 T0 T1 TW
          go_wp2_with fail
          have up : ∀ z : Ext V, Below X.heap.size X z.1 := fun z => HV2.out.trans (z.2.mono HV2.out.size)
          have L0 : ∀ z : Ext V, (loadVar 23 ⟨B, 0, none⟩).run Try.prog z.1 = .ok (.agg g.v) z.1 := fun z => load_geo (HRB.out.below (up z))
          have L1 : ∀ z : Ext V, (loadVar 23 ⟨C, 0, none⟩).run Try.prog z.1 = .ok (.agg h.v) z.1 := fun z => load_geo (HR2.out.below (up z))
          have T2 : Hid (∀ z : Ext V, Calls Try.prog 10 #[.agg g.v] z.1 fun en w'' => en = .returned (.int .i64 (Pa)) ∧ ∃ z' : Ext V, w'' = z'.1) := fun z => calls_ext z (by have := HK.out.pages g HIN.out z.1; rwa [HNN.out.pa] at this)
          have T3 : Hid (∀ z : Ext V, Calls Try.prog 10 #[.agg h.v] z.1 fun en w'' => en = .returned (.int .i64 (Pb)) ∧ ∃ z' : Ext V, w'' = z'.1) := fun z => calls_ext z (by have := HK.out.pages h HHIN.out z.1; rwa [HNN.out.pb] at this)
          have T4 : Hid (∀ z : Ext V, Calls Try.prog 13 #[.agg g.v] z.1 fun en w'' => en = .returned (.int .i64 (Fa)) ∧ ∃ z' : Ext V, w'' = z'.1) := fun z => calls_ext z (by have := HK.out.fast g HIN.out z.1; rwa [HNN.out.fa] at this)
          have T5 : Hid (∀ z : Ext V, Calls Try.prog 13 #[.agg h.v] z.1 fun en w'' => en = .returned (.int .i64 (Fb)) ∧ ∃ z' : Ext V, w'' = z'.1) := fun z => calls_ext z (by have := HK.out.fast h HHIN.out z.1; rwa [HNN.out.fb] at this)
          have T6 : Hid (∀ z : Ext V, Calls Try.prog 14 #[.agg g.v] z.1 fun en w'' => en = .returned (.int .i64 (Sa)) ∧ ∃ z' : Ext V, w'' = z'.1) := fun z => calls_ext z (by have := HK.out.slow g HIN.out z.1; rwa [HNN.out.sa] at this)
          have T7 : Hid (∀ z : Ext V, Calls Try.prog 14 #[.agg h.v] z.1 fun en w'' => en = .returned (.int .i64 (Sa + 1)) ∧ ∃ z' : Ext V, w'' = z'.1) := fun z => calls_ext z (by have := HK.out.slow h HHIN.out z.1; rwa [HNN.out.sb] at this)
          have TW : Hid (∀ z : Ext V, Calls Try.prog 19 #[] z.1 fun en w'' => en = .returned (.bool true) ∧ ∃ z' : Ext V, w'' = z'.1) := fun z => calls_ext z (RW.out z.1)
          clear up
          refine region_ext (by kernel_rfl) (by kernel_rfl) ?_
          repeat (go_big_quiet_step (with_reducible (first | exact T2.out _ | exact T3.out _ | exact T4.out _ | exact T5.out _ | exact T6.out _ | exact T7.out _ | exact TW.out _)))
          refine wpQuiet_nil ?_
          intro z
          have HF : Hid (Below w.heap.size w z.1) := HB0.out.trans ((HXW.out.trans ((HV2.out.trans (z.2.mono HV2.out.size)).mono HXW.out.size)).mono HB0.out.size)
          clear L0 L1 
          go_wp2_with fail
          go_ret
          first | exact ⟨rfl, HF.out⟩ | exact ⟨rfl, by rw [← hB]; exact HF.out⟩
        · have HGH := Lib.hid hgh
          rw [decide_eq_false hgh] at RGH
          have R0 : Hid (∀ q : World, Calls Try.prog 7 #[.agg g.v] q fun en w'' => en = .returned (.bool true) ∧ Below q.heap.size q w'') := fun q => by have := HK.out.good g HIN.out q; rwa [decide_eq_true HG.out] at this
          have R1 : Hid (∀ q : World, Calls Try.prog 7 #[.agg h.v] q fun en w'' => en = .returned (.bool false) ∧ Below q.heap.size q w'') := fun q => by have := HK.out.good h HHIN.out q; rwa [decide_eq_false HGH.out] at this
          clear hgh
          go_wp2_with fail
          refine (RGH.out X).mono ?_
          rintro en x2 ⟨rfl, hb2⟩
          have HV : Hid (Below X.heap.size X x2) := hb2
          have L2 := load_geo (HRB.out.below hb2)
          clear hb2 LX ST LG1 d df
          clear h1 h2 h3 h4 h5 h6 h7 h8 h10 hr1
          go_wp2_with fail
          refine (R0.out _).mono ?_
          rintro en x3 ⟨rfl, hb3⟩
          have HV3 : Hid (Below X.heap.size X x3) := HV.out.trans (hb3.mono HV.out.size)
          have L3 := load_geo (HR2.out.below HV3.out)
          clear hb3 L2
          go_wp2_with fail
          refine (R1.out _).mono ?_
          rintro en x4 ⟨rfl, hb4⟩
          have HV4 : Hid (Below X.heap.size X x4) := HV3.out.trans (hb4.mono HV3.out.size)
          clear hb4 L3
          go_wp2_with fail
          refine (RW.out _).mono ?_
          rintro en x5 ⟨rfl, hb5⟩
          have HV5 : Hid (Below X.heap.size X x5) := HV4.out.trans (hb5.mono HV4.out.size)
          have HF : Hid (Below w.heap.size w x5) := HB0.out.trans ((HXW.out.trans (HV5.out.mono HXW.out.size)).mono HB0.out.size)
          clear hb5
          go_wp2_with fail
          go_ret
          first | exact ⟨rfl, HF.out⟩ | exact ⟨rfl, by rw [← hB]; exact HF.out⟩
    · as_aux_lemma =>
        obtain ⟨d, hd⟩ : ∃ d, 200 - g.a = d := ⟨_, rfl⟩
        have hd0 : 0 ≤ d ∧ d ≤ 200 := by omega
        obtain ⟨m, hm⟩ : ∃ m, (if 1 + k ≤ d then 1 + k else d) = m := ⟨_, rfl⟩
        have hm0 : 0 ≤ m ∧ m ≤ 8 ∧ m ≤ d := by rw [← hm]; split <;> omega
        have hmin : ∀ (ts : Array TypeId) (t : TypeId) (W : World), (Builtin.min_ ts t #[.int .i64 (1 + k), .int .i64 d]).run Try.prog W = .ok (.int .i64 m) W := fun ts t W => by
          rw [run_min_int2, ← hm]
          congr 2
          first | rfl | (split <;> split <;> omega)
        obtain ⟨hm0, hm1, hm2⟩ := hm0
        obtain ⟨hd0, hd1⟩ := hd0
        clear hm
        have hhx : ∃ h : Geo, h = ⟨g.b, g.s, g.y, g.a + m, g.r⟩ := ⟨_, rfl⟩
        obtain ⟨h, hh⟩ := hhx
        have HH := Lib.hid hh
        have HHIN : Hid h.In := by
          intro m' hm'
          have BIN := HIN.out
          rw [hh] at hm'
          unfold Geo.In at BIN
          simp only [List.mem_cons, List.mem_nil_iff, or_false] at hm' BIN
          rcases hm' with rfl | rfl | rfl | rfl | rfl <;> first | exact BIN _ (.inl rfl) | exact BIN _ (.inr (.inl rfl)) | exact BIN _ (.inr (.inr (.inl rfl))) | exact BIN _ (.inr (.inr (.inr (.inl rfl)))) | exact BIN _ (.inr (.inr (.inr (.inr rfl)))) | omega
        clear hh
        obtain ⟨old, hold⟩ : ∃ o, g.a = o := ⟨_, rfl⟩
        have HOLD := Lib.hid hold
        rw [hold] at h7 h8 hd
        clear hold
        go_enter Try.func5, Try.ntmps5
        go_wp2_with fail
        refine (RG.out W).mono ?_
        rintro en x1 ⟨rfl, hb1⟩
        have LG1 : (loadVar 23 ⟨B, 0, none⟩).run Try.prog x1 = .ok (.agg g.v) x1 := load_geo (HR0.out.below hb1)
        obtain ⟨y, ST, hr, hby⟩ := new_geo x1 g
        have HBX : Hid (Below W.heap.size W x1) := hb1
        obtain ⟨C, hC⟩ : ∃ b, x1.heap.size = b := ⟨_, rfl⟩
        have HCZ := Lib.hid hC
        have HBY : Hid (Below x1.heap.size x1 y) := hby
        rw [hC] at hr ST
        have ST : (storeVar 23 ⟨C, 0, none⟩ (.agg g.v)).run Try.prog (x1.alloc (.cells #[.int .i64 0, .int .i64 0, .int .i64 0, .int .i64 0, .int .i64 0] 23)) = .ok () y := ST
        have d : y.cell? ⟨C, 3, none⟩ = some (.int .i64 old) := by rw [← HOLD.out]; exact hr.cell 3 _ rfl
        have df : y.frozen? ⟨C, 3, none⟩ = false := hr.frozen 3
        have hr2 := hr.set 3 (.int .i64 (old + m))
        have HR2 : Hid (RowC (y.setCell ⟨C, 3, none⟩ (.int .i64 (old + m))) C 23 h.cs) := by rw [HH.out]; have := hr2; rw [← HOLD.out] at this ⊢; exact this
        obtain ⟨X, hX⟩ : ∃ X, y.setCell ⟨C, 3, none⟩ (.int .i64 (old + m)) = X := ⟨_, rfl⟩
        rw [hX] at HR2
        have HXW : Hid (Below W.heap.size W X) := by
          show Below _ _ _
          rw [← hX]
          exact (HBX.out.trans (HBY.out.mono HBX.out.size)).setCell (by show _ ≤ C; rw [← HCZ.out]; exact HBX.out.size) _
        have HRB : Hid (RowC X B 23 g.cs) := HR0.out.below HXW.out
        have LX : (loadVar 23 ⟨C, 0, none⟩).run Try.prog X = .ok (.agg h.v) X := load_geo HR2.out
        have RGH := Lib.hid (refGood7 h)
        clear hr2 hb1 hby hr LG0
        by_cases hgh : h.good
        · rw [decide_eq_true hgh] at RGH
          have hh := HH.out
          obtain ⟨m1, m2, m3⟩ := Geo.more1 hh
          have NN := Geo.nums HG.out hgh
          rw [m1, m2, m3] at NN
          have HNN := Lib.hid NN
          obtain ⟨Ba, eBa⟩ : ∃ n, g.bts = n := ⟨_, rfl⟩
          have EBa := Lib.hid eBa
          obtain ⟨Fa, eFa⟩ : ∃ n, 2 + g.r + g.pgs + g.slots = n := ⟨_, rfl⟩
          have EFa := Lib.hid eFa
          obtain ⟨Pa, ePa⟩ : ∃ n, g.pgs = n := ⟨_, rfl⟩
          have EPa := Lib.hid ePa
          obtain ⟨Pb, ePb⟩ : ∃ n, h.pgs = n := ⟨_, rfl⟩
          have EPb := Lib.hid ePb
          obtain ⟨Sa, eSa⟩ : ∃ n, g.b + g.a = n := ⟨_, rfl⟩
          have ESa := Lib.hid eSa
          obtain ⟨ha, eha⟩ : ∃ n, h.a = n := ⟨_, rfl⟩
          have Eha := Lib.hid eha
          obtain ⟨ga, ega⟩ : ∃ n, g.a = n := ⟨_, rfl⟩
          have Ega := Lib.hid ega
          try rw [eBa] at HNN
          try rw [eFa] at HNN
          try rw [ePa] at HNN
          try rw [ePb] at HNN
          try rw [eSa] at HNN
          try rw [eha] at HNN
          try rw [ega] at HNN
          obtain ⟨u1, u1b⟩ := HNN.out.b1
          obtain ⟨u3, u3b⟩ := HNN.out.b3
          obtain ⟨u4, u4b⟩ := HNN.out.b4
          obtain ⟨u5, u5b⟩ := HNN.out.b5
          obtain ⟨u7, u7b⟩ := HNN.out.b7
          have u8 : 0 ≤ ha ∧ ha ≤ 200 := by rw [← eha]; exact ⟨hgh.1.2.2.2.2.2.2.1, hgh.1.2.2.2.2.2.2.2⟩
          have u9 : 0 ≤ ga ∧ ga ≤ 200 := by rw [← ega]; exact ⟨HG.out.1.2.2.2.2.2.2.1, HG.out.1.2.2.2.2.2.2.2⟩
          obtain ⟨u8, u8b⟩ := u8
          obtain ⟨u9, u9b⟩ := u9
          clear NN hh eBa eFa ePa ePb eSa eha ega
          clear m1 m2 m3
          go_wp2_with fail
          refine (RGH.out X).mono ?_
          rintro en x2 ⟨rfl, hb2⟩
          have HV : Hid (Below X.heap.size X x2) := hb2
          clear hb2 LX ST LG1 d df
          clear h1 h2 h3 h4 h5 h6 h7 h8 h10 hr1
          go_wp2_with fail
          have up : ∀ z : Ext x2, Below X.heap.size X z.1 := fun z => HV.out.trans (z.2.mono HV.out.size)
          have L0 : ∀ z : Ext x2, (loadVar 23 ⟨B, 0, none⟩).run Try.prog z.1 = .ok (.agg g.v) z.1 := fun z => load_geo (HRB.out.below (up z))
          have L1 : ∀ z : Ext x2, (loadVar 23 ⟨C, 0, none⟩).run Try.prog z.1 = .ok (.agg h.v) z.1 := fun z => load_geo (HR2.out.below (up z))
          have T0 : Hid (∀ z : Ext x2, Calls Try.prog 9 #[.agg g.v] z.1 fun en w'' => en = .returned (.int .i64 (Ba)) ∧ ∃ z' : Ext x2, w'' = z'.1) := fun z => calls_ext z (by have := HK.out.bytes g HIN.out z.1; rwa [HNN.out.ba] at this)
          have T1 : Hid (∀ z : Ext x2, Calls Try.prog 9 #[.agg h.v] z.1 fun en w'' => en = .returned (.int .i64 (Ba)) ∧ ∃ z' : Ext x2, w'' = z'.1) := fun z => calls_ext z (by have := HK.out.bytes h HHIN.out z.1; rwa [HNN.out.bb] at this)
          have TW : Hid (∀ z : Ext x2, Calls Try.prog 19 #[] z.1 fun en w'' => en = .returned (.bool true) ∧ ∃ z' : Ext x2, w'' = z'.1) := fun z => calls_ext z (RW.out z.1)
          clear up
          refine region_ext (by kernel_rfl) (by kernel_rfl) ?_
          repeat (go_big_quiet_step (with_reducible (first | exact T0.out _ | exact T1.out _)))
          refine wpQuiet_nil ?_
          intro x
          obtain ⟨V, hxV⟩ : ∃ V, x.1 = V := ⟨_, rfl⟩
          have HV2 : Hid (Below X.heap.size X V) := by rw [← hxV]; exact HV.out.trans (x.2.mono HV.out.size)
          rw [hxV]
          clear hxV L0 L1 T0 T1 TW
          go_wp2_with fail
          have up : ∀ z : Ext V, Below X.heap.size X z.1 := fun z => HV2.out.trans (z.2.mono HV2.out.size)
          have L0 : ∀ z : Ext V, (loadVar 23 ⟨B, 0, none⟩).run Try.prog z.1 = .ok (.agg g.v) z.1 := fun z => load_geo (HRB.out.below (up z))
          have L1 : ∀ z : Ext V, (loadVar 23 ⟨C, 0, none⟩).run Try.prog z.1 = .ok (.agg h.v) z.1 := fun z => load_geo (HR2.out.below (up z))
          have kB : ∀ z : Ext V, z.1.cell? ⟨B, 3, none⟩ = some (.int .i64 ga) := fun z => by have := (HRB.out.below (up z)).cell 3 _ rfl; rwa [Ega.out] at this
          have kC : ∀ z : Ext V, z.1.cell? ⟨C, 3, none⟩ = some (.int .i64 ha) := fun z => by have := (HR2.out.below (up z)).cell 3 _ rfl; rwa [Eha.out] at this
          have T2 : Hid (∀ z : Ext V, Calls Try.prog 10 #[.agg g.v] z.1 fun en w'' => en = .returned (.int .i64 (Pa)) ∧ ∃ z' : Ext V, w'' = z'.1) := fun z => calls_ext z (by have := HK.out.pages g HIN.out z.1; rwa [HNN.out.pa] at this)
          have T3 : Hid (∀ z : Ext V, Calls Try.prog 10 #[.agg h.v] z.1 fun en w'' => en = .returned (.int .i64 (Pb)) ∧ ∃ z' : Ext V, w'' = z'.1) := fun z => calls_ext z (by have := HK.out.pages h HHIN.out z.1; rwa [HNN.out.pb] at this)
          have T4 : Hid (∀ z : Ext V, Calls Try.prog 13 #[.agg g.v] z.1 fun en w'' => en = .returned (.int .i64 (Fa)) ∧ ∃ z' : Ext V, w'' = z'.1) := fun z => calls_ext z (by have := HK.out.fast g HIN.out z.1; rwa [HNN.out.fa] at this)
          have T5 : Hid (∀ z : Ext V, Calls Try.prog 13 #[.agg h.v] z.1 fun en w'' => en = .returned (.int .i64 (Fa)) ∧ ∃ z' : Ext V, w'' = z'.1) := fun z => calls_ext z (by have := HK.out.fast h HHIN.out z.1; rwa [HNN.out.fb] at this)
          have T6 : Hid (∀ z : Ext V, Calls Try.prog 14 #[.agg g.v] z.1 fun en w'' => en = .returned (.int .i64 (Sa)) ∧ ∃ z' : Ext V, w'' = z'.1) := fun z => calls_ext z (by have := HK.out.slow g HIN.out z.1; rwa [HNN.out.sa] at this)
          have T7 : Hid (∀ z : Ext V, Calls Try.prog 14 #[.agg h.v] z.1 fun en w'' => en = .returned (.int .i64 (Sa + ha - ga)) ∧ ∃ z' : Ext V, w'' = z'.1) := fun z => calls_ext z (by have := HK.out.slow h HHIN.out z.1; rwa [HNN.out.sb] at this)
          have TW : Hid (∀ z : Ext V, Calls Try.prog 19 #[] z.1 fun en w'' => en = .returned (.bool true) ∧ ∃ z' : Ext V, w'' = z'.1) := fun z => calls_ext z (RW.out z.1)
          clear up
          refine region_ext (by kernel_rfl) (by kernel_rfl) ?_
          repeat (go_big_quiet_step (with_reducible (first | exact T2.out _ | exact T3.out _ | exact T4.out _ | exact T5.out _ | exact T6.out _ | exact T7.out _ | exact TW.out _)))
          refine wpQuiet_nil ?_
          intro z
          have HF : Hid (Below w.heap.size w z.1) := HB0.out.trans ((HXW.out.trans ((HV2.out.trans (z.2.mono HV2.out.size)).mono HXW.out.size)).mono HB0.out.size)
          clear L0 L1 kB kC
          go_wp2_with fail
          go_ret
          first | exact ⟨rfl, HF.out⟩ | exact ⟨rfl, by rw [← hB]; exact HF.out⟩
        · have HGH := Lib.hid hgh
          rw [decide_eq_false hgh] at RGH
          have R0 : Hid (∀ q : World, Calls Try.prog 7 #[.agg g.v] q fun en w'' => en = .returned (.bool true) ∧ Below q.heap.size q w'') := fun q => by have := HK.out.good g HIN.out q; rwa [decide_eq_true HG.out] at this
          have R1 : Hid (∀ q : World, Calls Try.prog 7 #[.agg h.v] q fun en w'' => en = .returned (.bool false) ∧ Below q.heap.size q w'') := fun q => by have := HK.out.good h HHIN.out q; rwa [decide_eq_false HGH.out] at this
          clear hgh
          go_wp2_with fail
          refine (RGH.out X).mono ?_
          rintro en x2 ⟨rfl, hb2⟩
          have HV : Hid (Below X.heap.size X x2) := hb2
          have L2 := load_geo (HRB.out.below hb2)
          clear hb2 LX ST LG1 d df
          clear h1 h2 h3 h4 h5 h6 h7 h8 h10 hr1
          go_wp2_with fail
          refine (R0.out _).mono ?_
          rintro en x3 ⟨rfl, hb3⟩
          have HV3 : Hid (Below X.heap.size X x3) := HV.out.trans (hb3.mono HV.out.size)
          have L3 := load_geo (HR2.out.below HV3.out)
          clear hb3 L2
          go_wp2_with fail
          refine (R1.out _).mono ?_
          rintro en x4 ⟨rfl, hb4⟩
          have HV4 : Hid (Below X.heap.size X x4) := HV3.out.trans (hb4.mono HV3.out.size)
          clear hb4 L3
          go_wp2_with fail
          refine (RW.out _).mono ?_
          rintro en x5 ⟨rfl, hb5⟩
          have HV5 : Hid (Below X.heap.size X x5) := HV4.out.trans (hb5.mono HV4.out.size)
          have HF : Hid (Below w.heap.size w x5) := HB0.out.trans ((HXW.out.trans (HV5.out.mono HXW.out.size)).mono HB0.out.size)
          clear hb5
          go_wp2_with fail
          go_ret
          first | exact ⟨rfl, HF.out⟩ | exact ⟨rfl, by rw [← hB]; exact HF.out⟩
    · as_aux_lemma =>
        obtain ⟨d, hd⟩ : ∃ d, 256 - g.r = d := ⟨_, rfl⟩
        have hd0 : 0 ≤ d ∧ d ≤ 256 := by omega
        obtain ⟨m, hm⟩ : ∃ m, (if 1 + k ≤ d then 1 + k else d) = m := ⟨_, rfl⟩
        have hm0 : 0 ≤ m ∧ m ≤ 8 ∧ m ≤ d := by rw [← hm]; split <;> omega
        have hmin : ∀ (ts : Array TypeId) (t : TypeId) (W : World), (Builtin.min_ ts t #[.int .i64 (1 + k), .int .i64 d]).run Try.prog W = .ok (.int .i64 m) W := fun ts t W => by
          rw [run_min_int2, ← hm]
          congr 2
          first | rfl | (split <;> split <;> omega)
        obtain ⟨hm0, hm1, hm2⟩ := hm0
        obtain ⟨hd0, hd1⟩ := hd0
        clear hm
        have hhx : ∃ h : Geo, h = ⟨g.b, g.s, g.y, g.a, g.r + m⟩ := ⟨_, rfl⟩
        obtain ⟨h, hh⟩ := hhx
        have HH := Lib.hid hh
        have HHIN : Hid h.In := by
          intro m' hm'
          have BIN := HIN.out
          rw [hh] at hm'
          unfold Geo.In at BIN
          simp only [List.mem_cons, List.mem_nil_iff, or_false] at hm' BIN
          rcases hm' with rfl | rfl | rfl | rfl | rfl <;> first | exact BIN _ (.inl rfl) | exact BIN _ (.inr (.inl rfl)) | exact BIN _ (.inr (.inr (.inl rfl))) | exact BIN _ (.inr (.inr (.inr (.inl rfl)))) | exact BIN _ (.inr (.inr (.inr (.inr rfl)))) | omega
        clear hh
        obtain ⟨old, hold⟩ : ∃ o, g.r = o := ⟨_, rfl⟩
        have HOLD := Lib.hid hold
        rw [hold] at h10 hr1 hd
        clear hold
        go_enter Try.func5, Try.ntmps5
        go_wp2_with fail
        refine (RG.out W).mono ?_
        rintro en x1 ⟨rfl, hb1⟩
        have LG1 : (loadVar 23 ⟨B, 0, none⟩).run Try.prog x1 = .ok (.agg g.v) x1 := load_geo (HR0.out.below hb1)
        obtain ⟨y, ST, hr, hby⟩ := new_geo x1 g
        have HBX : Hid (Below W.heap.size W x1) := hb1
        obtain ⟨C, hC⟩ : ∃ b, x1.heap.size = b := ⟨_, rfl⟩
        have HCZ := Lib.hid hC
        have HBY : Hid (Below x1.heap.size x1 y) := hby
        rw [hC] at hr ST
        have ST : (storeVar 23 ⟨C, 0, none⟩ (.agg g.v)).run Try.prog (x1.alloc (.cells #[.int .i64 0, .int .i64 0, .int .i64 0, .int .i64 0, .int .i64 0] 23)) = .ok () y := ST
        have d : y.cell? ⟨C, 4, none⟩ = some (.int .i64 old) := by rw [← HOLD.out]; exact hr.cell 4 _ rfl
        have df : y.frozen? ⟨C, 4, none⟩ = false := hr.frozen 4
        have hr2 := hr.set 4 (.int .i64 (old + m))
        have HR2 : Hid (RowC (y.setCell ⟨C, 4, none⟩ (.int .i64 (old + m))) C 23 h.cs) := by rw [HH.out]; have := hr2; rw [← HOLD.out] at this ⊢; exact this
        obtain ⟨X, hX⟩ : ∃ X, y.setCell ⟨C, 4, none⟩ (.int .i64 (old + m)) = X := ⟨_, rfl⟩
        rw [hX] at HR2
        have HXW : Hid (Below W.heap.size W X) := by
          show Below _ _ _
          rw [← hX]
          exact (HBX.out.trans (HBY.out.mono HBX.out.size)).setCell (by show _ ≤ C; rw [← HCZ.out]; exact HBX.out.size) _
        have HRB : Hid (RowC X B 23 g.cs) := HR0.out.below HXW.out
        have LX : (loadVar 23 ⟨C, 0, none⟩).run Try.prog X = .ok (.agg h.v) X := load_geo HR2.out
        have RGH := Lib.hid (refGood7 h)
        clear hr2 hb1 hby hr LG0
        by_cases hgh : h.good
        · rw [decide_eq_true hgh] at RGH
          have hh := HH.out
          obtain ⟨m1, m2, m3⟩ := Geo.more2 hh
          have NN := Geo.nums HG.out hgh
          rw [m1, m2, m3] at NN
          have HNN := Lib.hid NN
          obtain ⟨Ba, eBa⟩ : ∃ n, g.bts = n := ⟨_, rfl⟩
          have EBa := Lib.hid eBa
          obtain ⟨Fa, eFa⟩ : ∃ n, 2 + g.r + g.pgs + g.slots = n := ⟨_, rfl⟩
          have EFa := Lib.hid eFa
          obtain ⟨Pa, ePa⟩ : ∃ n, g.pgs = n := ⟨_, rfl⟩
          have EPa := Lib.hid ePa
          obtain ⟨Pb, ePb⟩ : ∃ n, h.pgs = n := ⟨_, rfl⟩
          have EPb := Lib.hid ePb
          obtain ⟨Sa, eSa⟩ : ∃ n, g.b + g.a = n := ⟨_, rfl⟩
          have ESa := Lib.hid eSa
          obtain ⟨hr, ehr⟩ : ∃ n, h.r = n := ⟨_, rfl⟩
          have Ehr := Lib.hid ehr
          obtain ⟨gr, egr⟩ : ∃ n, g.r = n := ⟨_, rfl⟩
          have Egr := Lib.hid egr
          try rw [eBa] at HNN
          try rw [eFa] at HNN
          try rw [ePa] at HNN
          try rw [ePb] at HNN
          try rw [eSa] at HNN
          try rw [ehr] at HNN
          try rw [egr] at HNN
          obtain ⟨u1, u1b⟩ := HNN.out.b1
          obtain ⟨u3, u3b⟩ := HNN.out.b3
          obtain ⟨u4, u4b⟩ := HNN.out.b4
          obtain ⟨u5, u5b⟩ := HNN.out.b5
          obtain ⟨u7, u7b⟩ := HNN.out.b7
          have u8 : 0 ≤ hr ∧ hr ≤ 256 := by rw [← ehr]; have := hgh.2; have := (Geo.bounds hgh.1); omega
          have u9 : 0 ≤ gr ∧ gr ≤ 256 := by rw [← egr]; have := HG.out.2; have := (Geo.bounds HG.out.1); omega
          obtain ⟨u8, u8b⟩ := u8
          obtain ⟨u9, u9b⟩ := u9
          clear NN hh eBa eFa ePa ePb eSa ehr egr
          clear m1 m2 m3
          go_wp2_with fail
          refine (RGH.out X).mono ?_
          rintro en x2 ⟨rfl, hb2⟩
          have HV : Hid (Below X.heap.size X x2) := hb2
          clear hb2 LX ST LG1 d df
          clear h1 h2 h3 h4 h5 h6 h7 h8 h10 hr1
          go_wp2_with fail
          have up : ∀ z : Ext x2, Below X.heap.size X z.1 := fun z => HV.out.trans (z.2.mono HV.out.size)
          have L0 : ∀ z : Ext x2, (loadVar 23 ⟨B, 0, none⟩).run Try.prog z.1 = .ok (.agg g.v) z.1 := fun z => load_geo (HRB.out.below (up z))
          have L1 : ∀ z : Ext x2, (loadVar 23 ⟨C, 0, none⟩).run Try.prog z.1 = .ok (.agg h.v) z.1 := fun z => load_geo (HR2.out.below (up z))
          have T0 : Hid (∀ z : Ext x2, Calls Try.prog 9 #[.agg g.v] z.1 fun en w'' => en = .returned (.int .i64 (Ba)) ∧ ∃ z' : Ext x2, w'' = z'.1) := fun z => calls_ext z (by have := HK.out.bytes g HIN.out z.1; rwa [HNN.out.ba] at this)
          have T1 : Hid (∀ z : Ext x2, Calls Try.prog 9 #[.agg h.v] z.1 fun en w'' => en = .returned (.int .i64 (Ba)) ∧ ∃ z' : Ext x2, w'' = z'.1) := fun z => calls_ext z (by have := HK.out.bytes h HHIN.out z.1; rwa [HNN.out.bb] at this)
          have TW : Hid (∀ z : Ext x2, Calls Try.prog 19 #[] z.1 fun en w'' => en = .returned (.bool true) ∧ ∃ z' : Ext x2, w'' = z'.1) := fun z => calls_ext z (RW.out z.1)
          clear up
          refine region_ext (by kernel_rfl) (by kernel_rfl) ?_
          repeat (go_big_quiet_step (with_reducible (first | exact T0.out _ | exact T1.out _)))
          refine wpQuiet_nil ?_
          intro x
          obtain ⟨V, hxV⟩ : ∃ V, x.1 = V := ⟨_, rfl⟩
          have HV2 : Hid (Below X.heap.size X V) := by rw [← hxV]; exact HV.out.trans (x.2.mono HV.out.size)
          rw [hxV]
          clear hxV L0 L1 T0 T1 TW
          go_wp2_with fail
          have up : ∀ z : Ext V, Below X.heap.size X z.1 := fun z => HV2.out.trans (z.2.mono HV2.out.size)
          have L0 : ∀ z : Ext V, (loadVar 23 ⟨B, 0, none⟩).run Try.prog z.1 = .ok (.agg g.v) z.1 := fun z => load_geo (HRB.out.below (up z))
          have L1 : ∀ z : Ext V, (loadVar 23 ⟨C, 0, none⟩).run Try.prog z.1 = .ok (.agg h.v) z.1 := fun z => load_geo (HR2.out.below (up z))
          have kB : ∀ z : Ext V, z.1.cell? ⟨B, 4, none⟩ = some (.int .i64 gr) := fun z => by have := (HRB.out.below (up z)).cell 4 _ rfl; rwa [Egr.out] at this
          have kC : ∀ z : Ext V, z.1.cell? ⟨C, 4, none⟩ = some (.int .i64 hr) := fun z => by have := (HR2.out.below (up z)).cell 4 _ rfl; rwa [Ehr.out] at this
          have T2 : Hid (∀ z : Ext V, Calls Try.prog 10 #[.agg g.v] z.1 fun en w'' => en = .returned (.int .i64 (Pa)) ∧ ∃ z' : Ext V, w'' = z'.1) := fun z => calls_ext z (by have := HK.out.pages g HIN.out z.1; rwa [HNN.out.pa] at this)
          have T3 : Hid (∀ z : Ext V, Calls Try.prog 10 #[.agg h.v] z.1 fun en w'' => en = .returned (.int .i64 (Pb)) ∧ ∃ z' : Ext V, w'' = z'.1) := fun z => calls_ext z (by have := HK.out.pages h HHIN.out z.1; rwa [HNN.out.pb] at this)
          have T4 : Hid (∀ z : Ext V, Calls Try.prog 13 #[.agg g.v] z.1 fun en w'' => en = .returned (.int .i64 (Fa)) ∧ ∃ z' : Ext V, w'' = z'.1) := fun z => calls_ext z (by have := HK.out.fast g HIN.out z.1; rwa [HNN.out.fa] at this)
          have T5 : Hid (∀ z : Ext V, Calls Try.prog 13 #[.agg h.v] z.1 fun en w'' => en = .returned (.int .i64 (Fa + hr - gr)) ∧ ∃ z' : Ext V, w'' = z'.1) := fun z => calls_ext z (by have := HK.out.fast h HHIN.out z.1; rwa [HNN.out.fb] at this)
          have T6 : Hid (∀ z : Ext V, Calls Try.prog 14 #[.agg g.v] z.1 fun en w'' => en = .returned (.int .i64 (Sa)) ∧ ∃ z' : Ext V, w'' = z'.1) := fun z => calls_ext z (by have := HK.out.slow g HIN.out z.1; rwa [HNN.out.sa] at this)
          have T7 : Hid (∀ z : Ext V, Calls Try.prog 14 #[.agg h.v] z.1 fun en w'' => en = .returned (.int .i64 (Sa)) ∧ ∃ z' : Ext V, w'' = z'.1) := fun z => calls_ext z (by have := HK.out.slow h HHIN.out z.1; rwa [HNN.out.sb] at this)
          have TW : Hid (∀ z : Ext V, Calls Try.prog 19 #[] z.1 fun en w'' => en = .returned (.bool true) ∧ ∃ z' : Ext V, w'' = z'.1) := fun z => calls_ext z (RW.out z.1)
          clear up
          refine region_ext (by kernel_rfl) (by kernel_rfl) ?_
          repeat (go_big_quiet_step (with_reducible (first | exact T2.out _ | exact T3.out _ | exact T4.out _ | exact T5.out _ | exact T6.out _ | exact T7.out _ | exact TW.out _)))
          refine wpQuiet_nil ?_
          intro z
          have HF : Hid (Below w.heap.size w z.1) := HB0.out.trans ((HXW.out.trans ((HV2.out.trans (z.2.mono HV2.out.size)).mono HXW.out.size)).mono HB0.out.size)
          clear L0 L1 kB kC
          go_wp2_with fail
          go_ret
          first | exact ⟨rfl, HF.out⟩ | exact ⟨rfl, by rw [← hB]; exact HF.out⟩
        · have HGH := Lib.hid hgh
          rw [decide_eq_false hgh] at RGH
          have R0 : Hid (∀ q : World, Calls Try.prog 7 #[.agg g.v] q fun en w'' => en = .returned (.bool true) ∧ Below q.heap.size q w'') := fun q => by have := HK.out.good g HIN.out q; rwa [decide_eq_true HG.out] at this
          have R1 : Hid (∀ q : World, Calls Try.prog 7 #[.agg h.v] q fun en w'' => en = .returned (.bool false) ∧ Below q.heap.size q w'') := fun q => by have := HK.out.good h HHIN.out q; rwa [decide_eq_false HGH.out] at this
          clear hgh
          go_wp2_with fail
          refine (RGH.out X).mono ?_
          rintro en x2 ⟨rfl, hb2⟩
          have HV : Hid (Below X.heap.size X x2) := hb2
          have L2 := load_geo (HRB.out.below hb2)
          clear hb2 LX ST LG1 d df
          clear h1 h2 h3 h4 h5 h6 h7 h8 h10 hr1
          go_wp2_with fail
          refine (R0.out _).mono ?_
          rintro en x3 ⟨rfl, hb3⟩
          have HV3 : Hid (Below X.heap.size X x3) := HV.out.trans (hb3.mono HV.out.size)
          have L3 := load_geo (HR2.out.below HV3.out)
          clear hb3 L2
          go_wp2_with fail
          refine (R1.out _).mono ?_
          rintro en x4 ⟨rfl, hb4⟩
          have HV4 : Hid (Below X.heap.size X x4) := HV3.out.trans (hb4.mono HV3.out.size)
          clear hb4 L3
          go_wp2_with fail
          refine (RW.out _).mono ?_
          rintro en x5 ⟨rfl, hb5⟩
          have HV5 : Hid (Below X.heap.size X x5) := HV4.out.trans (hb5.mono HV4.out.size)
          have HF : Hid (Below w.heap.size w x5) := HB0.out.trans ((HXW.out.trans (HV5.out.mono HXW.out.size)).mono HB0.out.size)
          clear hb5
          go_wp2_with fail
          go_ret
          first | exact ⟨rfl, HF.out⟩ | exact ⟨rfl, by rw [← hB]; exact HF.out⟩
    · as_aux_lemma =>
        have hhx : ∃ h : Geo, h = ⟨g.b, g.s + 1, g.y, g.a, g.r⟩ := ⟨_, rfl⟩
        obtain ⟨h, hh⟩ := hhx
        have HH := Lib.hid hh
        have HHIN : Hid h.In := by
          intro m' hm'
          have BIN := HIN.out
          rw [hh] at hm'
          unfold Geo.In at BIN
          simp only [List.mem_cons, List.mem_nil_iff, or_false] at hm' BIN
          rcases hm' with rfl | rfl | rfl | rfl | rfl <;> first | exact BIN _ (.inl rfl) | exact BIN _ (.inr (.inl rfl)) | exact BIN _ (.inr (.inr (.inl rfl))) | exact BIN _ (.inr (.inr (.inr (.inl rfl)))) | exact BIN _ (.inr (.inr (.inr (.inr rfl)))) | omega
        clear hh
        obtain ⟨old, hold⟩ : ∃ o, g.s = o := ⟨_, rfl⟩
        have HOLD := Lib.hid hold
        rw [hold] at h3 h4
        clear hold
        go_enter Try.func5, Try.ntmps5
        go_wp2_with fail
        refine (RG.out W).mono ?_
        rintro en x1 ⟨rfl, hb1⟩
        have LG1 : (loadVar 23 ⟨B, 0, none⟩).run Try.prog x1 = .ok (.agg g.v) x1 := load_geo (HR0.out.below hb1)
        obtain ⟨y, ST, hr, hby⟩ := new_geo x1 g
        have HBX : Hid (Below W.heap.size W x1) := hb1
        obtain ⟨C, hC⟩ : ∃ b, x1.heap.size = b := ⟨_, rfl⟩
        have HCZ := Lib.hid hC
        have HBY : Hid (Below x1.heap.size x1 y) := hby
        rw [hC] at hr ST
        have ST : (storeVar 23 ⟨C, 0, none⟩ (.agg g.v)).run Try.prog (x1.alloc (.cells #[.int .i64 0, .int .i64 0, .int .i64 0, .int .i64 0, .int .i64 0] 23)) = .ok () y := ST
        have d : y.cell? ⟨C, 1, none⟩ = some (.int .i64 old) := by rw [← HOLD.out]; exact hr.cell 1 _ rfl
        have df : y.frozen? ⟨C, 1, none⟩ = false := hr.frozen 1
        have hr2 := hr.set 1 (.int .i64 (old + 1))
        have HR2 : Hid (RowC (y.setCell ⟨C, 1, none⟩ (.int .i64 (old + 1))) C 23 h.cs) := by rw [HH.out]; have := hr2; rw [← HOLD.out] at this ⊢; exact this
        obtain ⟨X, hX⟩ : ∃ X, y.setCell ⟨C, 1, none⟩ (.int .i64 (old + 1)) = X := ⟨_, rfl⟩
        rw [hX] at HR2
        have HXW : Hid (Below W.heap.size W X) := by
          show Below _ _ _
          rw [← hX]
          exact (HBX.out.trans (HBY.out.mono HBX.out.size)).setCell (by show _ ≤ C; rw [← HCZ.out]; exact HBX.out.size) _
        have HRB : Hid (RowC X B 23 g.cs) := HR0.out.below HXW.out
        have LX : (loadVar 23 ⟨C, 0, none⟩).run Try.prog X = .ok (.agg h.v) X := load_geo HR2.out
        have RGH := Lib.hid (refGood7 h)
        clear hr2 hb1 hby hr LG0
        by_cases hgh : h.good
        · rw [decide_eq_true hgh] at RGH
          have hh := HH.out
          obtain ⟨m1, m2⟩ := Geo.more3 hh
          have NN := Geo.nums HG.out hgh
          rw [m1, m2] at NN
          have HNN := Lib.hid NN
          obtain ⟨Ba, eBa⟩ : ∃ n, g.bts = n := ⟨_, rfl⟩
          have EBa := Lib.hid eBa
          obtain ⟨Fa, eFa⟩ : ∃ n, 2 + g.r + g.pgs + g.slots = n := ⟨_, rfl⟩
          have EFa := Lib.hid eFa
          obtain ⟨Pa, ePa⟩ : ∃ n, g.pgs = n := ⟨_, rfl⟩
          have EPa := Lib.hid ePa
          obtain ⟨Pb, ePb⟩ : ∃ n, h.pgs = n := ⟨_, rfl⟩
          have EPb := Lib.hid ePb
          obtain ⟨Sa, eSa⟩ : ∃ n, g.b + g.a = n := ⟨_, rfl⟩
          have ESa := Lib.hid eSa
          obtain ⟨Sb, eSb⟩ : ∃ n, h.b + h.a = n := ⟨_, rfl⟩
          have ESb := Lib.hid eSb
          obtain ⟨gy, egy⟩ : ∃ n, g.y = n := ⟨_, rfl⟩
          have Egy := Lib.hid egy
          try rw [eBa] at HNN
          try rw [eFa] at HNN
          try rw [ePa] at HNN
          try rw [ePb] at HNN
          try rw [eSa] at HNN
          try rw [eSb] at HNN
          try rw [egy] at HNN
          obtain ⟨u1, u1b⟩ := HNN.out.b1
          obtain ⟨u3, u3b⟩ := HNN.out.b3
          obtain ⟨u4, u4b⟩ := HNN.out.b4
          obtain ⟨u5, u5b⟩ := HNN.out.b5
          obtain ⟨u7, u7b⟩ := HNN.out.b7
          have u8 : 1 ≤ gy ∧ gy ≤ 4 := by rw [← egy]; exact ⟨HG.out.1.2.2.2.2.1, HG.out.1.2.2.2.2.2.1⟩
          obtain ⟨u8, u8b⟩ := u8
          clear NN hh eBa eFa ePa ePb eSa eSb egy
          clear m1 m2
          go_wp2_with fail
          refine (RGH.out X).mono ?_
          rintro en x2 ⟨rfl, hb2⟩
          have HV : Hid (Below X.heap.size X x2) := hb2
          clear hb2 LX ST LG1 d df
          clear h1 h2 h3 h4 h5 h6 h7 h8 h10 hr1
          go_wp2_with fail
          have up : ∀ z : Ext x2, Below X.heap.size X z.1 := fun z => HV.out.trans (z.2.mono HV.out.size)
          have L0 : ∀ z : Ext x2, (loadVar 23 ⟨B, 0, none⟩).run Try.prog z.1 = .ok (.agg g.v) z.1 := fun z => load_geo (HRB.out.below (up z))
          have L1 : ∀ z : Ext x2, (loadVar 23 ⟨C, 0, none⟩).run Try.prog z.1 = .ok (.agg h.v) z.1 := fun z => load_geo (HR2.out.below (up z))
          have T0 : Hid (∀ z : Ext x2, Calls Try.prog 9 #[.agg g.v] z.1 fun en w'' => en = .returned (.int .i64 (Ba)) ∧ ∃ z' : Ext x2, w'' = z'.1) := fun z => calls_ext z (by have := HK.out.bytes g HIN.out z.1; rwa [HNN.out.ba] at this)
          have T1 : Hid (∀ z : Ext x2, Calls Try.prog 9 #[.agg h.v] z.1 fun en w'' => en = .returned (.int .i64 (Ba + gy)) ∧ ∃ z' : Ext x2, w'' = z'.1) := fun z => calls_ext z (by have := HK.out.bytes h HHIN.out z.1; rwa [HNN.out.bb] at this)
          have TW : Hid (∀ z : Ext x2, Calls Try.prog 19 #[] z.1 fun en w'' => en = .returned (.bool true) ∧ ∃ z' : Ext x2, w'' = z'.1) := fun z => calls_ext z (RW.out z.1)
          clear up
          refine region_ext (by kernel_rfl) (by kernel_rfl) ?_
          repeat (go_big_quiet_step (with_reducible (first | exact T0.out _ | exact T1.out _)))
          refine wpQuiet_nil ?_
          intro x
          obtain ⟨V, hxV⟩ : ∃ V, x.1 = V := ⟨_, rfl⟩
          have HV2 : Hid (Below X.heap.size X V) := by rw [← hxV]; exact HV.out.trans (x.2.mono HV.out.size)
          rw [hxV]
          clear hxV L0 L1 T0 T1 TW
          go_wp2_with fail
          have up : ∀ z : Ext V, Below X.heap.size X z.1 := fun z => HV2.out.trans (z.2.mono HV2.out.size)
          have L0 : ∀ z : Ext V, (loadVar 23 ⟨B, 0, none⟩).run Try.prog z.1 = .ok (.agg g.v) z.1 := fun z => load_geo (HRB.out.below (up z))
          have L1 : ∀ z : Ext V, (loadVar 23 ⟨C, 0, none⟩).run Try.prog z.1 = .ok (.agg h.v) z.1 := fun z => load_geo (HR2.out.below (up z))
          have kB : ∀ z : Ext V, z.1.cell? ⟨B, 2, none⟩ = some (.int .i64 gy) := fun z => by have := (HRB.out.below (up z)).cell 2 _ rfl; rwa [Egy.out] at this
          have T2 : Hid (∀ z : Ext V, Calls Try.prog 10 #[.agg g.v] z.1 fun en w'' => en = .returned (.int .i64 (Pa)) ∧ ∃ z' : Ext V, w'' = z'.1) := fun z => calls_ext z (by have := HK.out.pages g HIN.out z.1; rwa [HNN.out.pa] at this)
          have T3 : Hid (∀ z : Ext V, Calls Try.prog 10 #[.agg h.v] z.1 fun en w'' => en = .returned (.int .i64 (Pb)) ∧ ∃ z' : Ext V, w'' = z'.1) := fun z => calls_ext z (by have := HK.out.pages h HHIN.out z.1; rwa [HNN.out.pb] at this)
          have T4 : Hid (∀ z : Ext V, Calls Try.prog 13 #[.agg g.v] z.1 fun en w'' => en = .returned (.int .i64 (Fa)) ∧ ∃ z' : Ext V, w'' = z'.1) := fun z => calls_ext z (by have := HK.out.fast g HIN.out z.1; rwa [HNN.out.fa] at this)
          have T5 : Hid (∀ z : Ext V, Calls Try.prog 13 #[.agg h.v] z.1 fun en w'' => en = .returned (.int .i64 (Fa + gy + Pb - Pa)) ∧ ∃ z' : Ext V, w'' = z'.1) := fun z => calls_ext z (by have := HK.out.fast h HHIN.out z.1; rwa [HNN.out.fb] at this)
          have T6 : Hid (∀ z : Ext V, Calls Try.prog 14 #[.agg g.v] z.1 fun en w'' => en = .returned (.int .i64 (Sa)) ∧ ∃ z' : Ext V, w'' = z'.1) := fun z => calls_ext z (by have := HK.out.slow g HIN.out z.1; rwa [HNN.out.sa] at this)
          have T7 : Hid (∀ z : Ext V, Calls Try.prog 14 #[.agg h.v] z.1 fun en w'' => en = .returned (.int .i64 (Sb)) ∧ ∃ z' : Ext V, w'' = z'.1) := fun z => calls_ext z (by have := HK.out.slow h HHIN.out z.1; rwa [HNN.out.sb] at this)
          have TW : Hid (∀ z : Ext V, Calls Try.prog 19 #[] z.1 fun en w'' => en = .returned (.bool true) ∧ ∃ z' : Ext V, w'' = z'.1) := fun z => calls_ext z (RW.out z.1)
          clear up
          refine region_ext (by kernel_rfl) (by kernel_rfl) ?_
          repeat (go_big_quiet_step (with_reducible (first | exact T2.out _ | exact T3.out _ | exact T4.out _ | exact T5.out _ | exact T6.out _ | exact T7.out _ | exact TW.out _)))
          refine wpQuiet_nil ?_
          intro z
          have HF : Hid (Below w.heap.size w z.1) := HB0.out.trans ((HXW.out.trans ((HV2.out.trans (z.2.mono HV2.out.size)).mono HXW.out.size)).mono HB0.out.size)
          clear L0 L1 kB
          go_wp2_with fail
          go_ret
          first | exact ⟨rfl, HF.out⟩ | exact ⟨rfl, by rw [← hB]; exact HF.out⟩
        · have HGH := Lib.hid hgh
          rw [decide_eq_false hgh] at RGH
          have R0 : Hid (∀ q : World, Calls Try.prog 7 #[.agg g.v] q fun en w'' => en = .returned (.bool true) ∧ Below q.heap.size q w'') := fun q => by have := HK.out.good g HIN.out q; rwa [decide_eq_true HG.out] at this
          have R1 : Hid (∀ q : World, Calls Try.prog 7 #[.agg h.v] q fun en w'' => en = .returned (.bool false) ∧ Below q.heap.size q w'') := fun q => by have := HK.out.good h HHIN.out q; rwa [decide_eq_false HGH.out] at this
          clear hgh
          go_wp2_with fail
          refine (RGH.out X).mono ?_
          rintro en x2 ⟨rfl, hb2⟩
          have HV : Hid (Below X.heap.size X x2) := hb2
          have L2 := load_geo (HRB.out.below hb2)
          clear hb2 LX ST LG1 d df
          clear h1 h2 h3 h4 h5 h6 h7 h8 h10 hr1
          go_wp2_with fail
          refine (R0.out _).mono ?_
          rintro en x3 ⟨rfl, hb3⟩
          have HV3 : Hid (Below X.heap.size X x3) := HV.out.trans (hb3.mono HV.out.size)
          have L3 := load_geo (HR2.out.below HV3.out)
          clear hb3 L2
          go_wp2_with fail
          refine (R1.out _).mono ?_
          rintro en x4 ⟨rfl, hb4⟩
          have HV4 : Hid (Below X.heap.size X x4) := HV3.out.trans (hb4.mono HV3.out.size)
          clear hb4 L3
          go_wp2_with fail
          refine (RW.out _).mono ?_
          rintro en x5 ⟨rfl, hb5⟩
          have HV5 : Hid (Below X.heap.size X x5) := HV4.out.trans (hb5.mono HV4.out.size)
          have HF : Hid (Below w.heap.size w x5) := HB0.out.trans ((HXW.out.trans (HV5.out.mono HXW.out.size)).mono HB0.out.size)
          clear hb5
          go_wp2_with fail
          go_ret
          first | exact ⟨rfl, HF.out⟩ | exact ⟨rfl, by rw [← hB]; exact HF.out⟩
  · as_aux_lemma =>
      have HG := Lib.hid hg
      rw [decide_eq_false hg] at RG
      have R1 : Hid (∀ q : World, Calls Try.prog 7 #[.agg g.v] q fun en w'' => en = .returned (.bool false) ∧ Below q.heap.size q w'') := fun q => by have := HK.out.good g hin q; rwa [decide_eq_false HG.out] at this
      clear hg hin
      go_enter Try.func5, Try.ntmps5
      go_wp2_with fail
      refine (RG.out W).mono ?_
      rintro en x1 ⟨rfl, hb1⟩
      have HV : Hid (Below W.heap.size W x1) := hb1
      have L1 := load_geo (HR0.out.below hb1)
      clear hb1 LG0
      go_wp2_with fail
      refine (R1.out _).mono ?_
      rintro en x2 ⟨rfl, hb2⟩
      have HV2 : Hid (Below W.heap.size W x2) := HV.out.trans (hb2.mono HV.out.size)
      clear hb2 L1
      go_wp2_with fail
      refine (RW.out _).mono ?_
      rintro en x3 ⟨rfl, hb3⟩
      have HF : Hid (Below w.heap.size w x3) := HB0.out.trans ((HV2.out.trans (hb3.mono HV2.out.size)).mono HB0.out.size)
      clear hb3
      go_wp2_with fail
      go_ret
      first | exact ⟨rfl, HF.out⟩ | exact ⟨rfl, by rw [← hB]; exact HF.out⟩

set_option maxRecDepth 100000 in
theorem lifted (os : Os) (started : os.Started) (H : Type) (enc : TypeId × Value → H) :
    ReturnsInHanded {} Try.checked os 5 .any (Rows.geomGrowsSpec.pre6 enc Try.prog Try.f5 Rows.geomGrowsRow.domain false) (Rows.geomGrowsSpec.post enc Try.prog Try.f5 false true false false) := by
  refine returnsInHanded_of_change (C := Try.checked) own started (by kernel_rfl) Try.func5
    (ChangeSpec.witness6 (enc := enc) (C := Try.checked) false ⟨#[], #[.agg #[.int .i64 0, .int .i64 0, .int .i64 0, .int .i64 0, .int .i64 0], .int .u8 0], []⟩ 8 (by kernel_rfl) (by kernel_rfl) (by kernel_rfl) (by kernel_rfl)) ?_
  intro W base args ds gs before hval0 hW hcnd _
  have hval : ∀ (j : Nat) t v, Try.f5.params[j]? = some t → args[j]? = some v → Value.okWide Try.prog W .any base t v := hval0
  have hW' := hW
  obtain ⟨p, q, hA0, hV, rfl, hfz, hnd⟩ := hW
  have hA : DataW.TrodAll enc Try.prog W 0 (fun _ => true) true Try.f5.params.toList args.toList ds p := hA0
  rw [Try.params5] at hA hval
  obtain ⟨v0, vs0, d0, ds0, p0, q0, hargs, rfl, rfl, h0, r0⟩ := trodAll_cons hA
  obtain ⟨v1, vs1, d1, ds1, p1, q1, rfl, rfl, rfl, h1, r1⟩ := trodAll_cons r0
  obtain ⟨rfl, rfl, rfl⟩ := trodAll_nil r1
  obtain rfl : args = #[v0, v1] := by cases args; simp_all
  obtain ⟨rfl, rfl⟩ := trodVars_none hV
  have lt0 : ∀ x ∈ p0, x.block < W.heap.size := by obtain ⟨m, hm⟩ := h0; exact DataW.trod_lt m _ _ _ hm
  have a0 := Arg.mk (hval 0 23 v0 rfl rfl) h0
  have lt1 : ∀ x ∈ p1, x.block < W.heap.size := by obtain ⟨m, hm⟩ := h1; exact DataW.trod_lt m _ _ _ hm
  have a1 := Arg.mk (hval 1 5 v1 rfl rfl) h1
  clear hA0 hval0
  refine (walk v0 v1 W a0 a1).mono fun e W' ⟨he, bel⟩ => ?_
  subst he
  exact ⟨_, rfl, _, _, _, [], _, [], hW', trodAll_mk1 (shut_bool Try.underlying4 _), (trodAll_cons_mk (Below.trod laidOut (by kernel_rfl) (of_decide_eq_true (by kernel_rfl)) h0 bel lt0) (trodAll_cons_mk (Below.trod laidOut (by kernel_rfl) (of_decide_eq_true (by kernel_rfl)) h1 bel lt1) trodAll_mk0)), rfl, bel.frame _, fun h => by cases h⟩

set_option maxRecDepth 100000 in
theorem over : Rows.geomGrowsRow.holds Try.pinned (OpenSpec.ofChange Rows.geomGrowsSpec) :=
  OpenClaim.holds_of_wide 5 Try.f5 rfl rfl rfl rfl rfl rfl rfl ⟨rfl, rfl, rfl, rfl, rfl⟩ rfl rfl rfl rfl rfl (by kernel_rfl) Try.func5 (by kernel_rfl)
    (of_decide_eq_true (by kernel_rfl)) (by unfold Func.isWrapper; first | (rw [if_pos (by decide +kernel)]; kernel_rfl) | (rw [if_neg (by decide +kernel)]; exact ⟨rfl, rfl⟩))
    (fun os started H enc _ => lifted os started H enc)

theorem proved : Rows.GeomGrowsSaid := over
#print axioms proved
end Go.Proofs.Ytnffaekbldcphaa.geomGrows
