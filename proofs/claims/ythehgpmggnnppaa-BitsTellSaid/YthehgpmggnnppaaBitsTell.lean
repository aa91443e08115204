/- Of any sets and numbers the developers' bits answer as the document's do; for every input, whatever it is. -/
import Derived.Test.YthehgpmggnnppaaBiWk
import Derived.Test.YthehgpmggnnppaaArgSl
namespace Go.Proofs.Ythehgpmggnnppaa.bitsTell
open Go.ChangeShapes Go.WideShapes Go.ChangeAt Go.RowKit
set_option linter.unusedVariables false

set_option maxRecDepth 100000 in
set_option maxHeartbeats 20000000 in
theorem walk (v0 v1 v2 : Value) (w : World) (w0 : Arg w 22 v0) (w1 : Arg w 22 v1) (w2 : Arg w 23 v2) :
    Calls Try.prog 3 #[v0, v1, v2] w fun e w' => e = .returned (.bool true) ∧ Below w.heap.size w w' := by
  have hmx : Try.prog.follows .mixedOrders = true := by kernel_rfl
  obtain ⟨a, la, ca, xs, rfl, hl1, hm1, hs1, hb1⟩ := w0.bytes Try.underlying22 Try.underlying5 (by kernel_rfl)
  obtain ⟨b, lb, cb, ys, rfl, hl2, hm2, hs2, hb2⟩ := w1.bytes Try.underlying22 Try.underlying5 (by kernel_rfl)
  obtain ⟨i, k, rfl, hi, hk⟩ := w2.two Try.underlying23 Try.underlying3 (by kernel_rfl) (by kernel_rfl)
  obtain ⟨W0, hW0⟩ : ∃ W0, w.alloc (.cells #[.int .i64 i, .int .i64 k] 23) = W0 := ⟨_, rfl⟩
  have hB0 : Below w.heap.size w W0 := by rw [← hW0]; exact (Below.refl _ _).alloc (Nat.le_refl _) _
  have c0 : ∀ y : Ext W0, y.1.cell? ⟨w.heap.size, 0, none⟩ = some (.int .i64 i) := fun y => by rw [y.2.cell (p := ⟨w.heap.size, 0, none⟩) (by rw [← hW0]; simp), ← hW0, cell_of_row _ _ _ _ _ _ (World.alloc_heap_new w _)]; rfl
  have c1 : ∀ y : Ext W0, y.1.cell? ⟨w.heap.size, 1, none⟩ = some (.int .i64 k) := fun y => by rw [y.2.cell (p := ⟨w.heap.size, 1, none⟩) (by rw [← hW0]; simp), ← hW0, cell_of_row _ _ _ _ _ _ (World.alloc_heap_new w _)]; rfl
  have HL1 := Lib.hid hl1
  have HL2 := Lib.hid hl2
  have HS1 := Lib.hid (hs1.below hB0)
  have HS2 := Lib.hid (hs2.below hB0)
  have HBa := Lib.hid hb1
  have HBb := Lib.hid hb2
  have HI := Lib.hid hi
  have HK := Lib.hid hk
  have HB0 := Lib.hid hB0
  skip
  clear hl1 hl2 hs1 hs2 hb1 hb2 hi hk w0 w1 w2 hB0
  by_cases h1 : 600 < la
  · have q1 : (600 : Int) < (la : Int) := by omega
    clear c0 c1
    go_enter Try.func3, Try.ntmps3
    skip
    go_wp2_with fail
    refine (bi_wakes _).mono ?_
    rintro e W1 ⟨rfl, b2⟩
    have F3 := Lib.hid (HS1.out.below b2)
    have F4 := Lib.hid (HS2.out.below b2)
    have B5 := Lib.hid (HB0.out.trans (b2.mono HB0.out.size))
    clear HS1 HS2 HB0
    clear b2
    go_wp2_with fail
    go_ret
    exact ⟨rfl, B5.out⟩
  by_cases h2 : 600 < lb
  · have q1 : ¬ (600 : Int) < (la : Int) := by omega
    have q2 : (600 : Int) < (lb : Int) := by omega
    clear c0 c1
    go_enter Try.func3, Try.ntmps3
    skip
    go_wp2_with fail
    refine (bi_wakes _).mono ?_
    rintro e W1 ⟨rfl, b2⟩
    have F3 := Lib.hid (HS1.out.below b2)
    have F4 := Lib.hid (HS2.out.below b2)
    have B5 := Lib.hid (HB0.out.trans (b2.mono HB0.out.size))
    clear HS1 HS2 HB0
    clear b2
    go_wp2_with fail
    go_ret
    exact ⟨rfl, B5.out⟩
  have q1 : ¬ (600 : Int) < (la : Int) := by omega
  have q2 : ¬ (600 : Int) < (lb : Int) := by omega
  have HN1 : Hid (xs.length ≤ 100000) := by show _ ≤ _; rw [HL1.out]; omega
  have HN2 : Hid (ys.length ≤ 100000) := by show _ ≤ _; rw [HL2.out]; omega
  obtain ⟨v3, w3, HA3, HO3, HB3⟩ := copy_lit W0 (.slice a la ca) xs HS1.out (by have := HN1.out; omega)
  have F1 := Lib.hid (HS1.out.below HB3.out)
  have F2 := Lib.hid (HS2.out.below HB3.out)
  have B3 := Lib.hid (HB0.out.trans (HB3.out.mono HB0.out.size))
  clear HS1 HS2 HB0
  have F4 : Hid (Sl .u8 w3 v3 xs) := Sl.of_owns HO3.out
  clear HO3
  obtain ⟨v4, w4, HA4, HO4, HB4⟩ := copy_lit w3 (.slice b lb cb) ys F2.out (by have := HN2.out; omega)
  have F5 := Lib.hid (F1.out.below HB4.out)
  have F6 := Lib.hid (F2.out.below HB4.out)
  have F7 := Lib.hid (F4.out.below HB4.out)
  have B8 := Lib.hid (B3.out.trans (HB4.out.mono B3.out.size))
  clear F1 F2 F4 B3
  have F9 : Hid (Sl .u8 w4 v4 ys) := Sl.of_owns HO4.out
  clear HO4
  go_enter Try.func3, Try.ntmps3
  go_wp2_with (first | (at_builtin; refine wpList_append_run (.tmp 20) (.tmp 21) 22 rfl rfl _ _ _ rfl rfl HA3.out ?_) | (at_builtin; refine wpList_append_run (.tmp 23) (.tmp 24) 22 rfl rfl _ _ _ rfl rfl HA4.out ?_))
  clear h1 h2 HA3 HA4
  have hC : ∀ x, (∃ y : Ext w4, x = y.1) → ∃ y : Ext W0, x = y.1 := by rintro x ⟨y, rfl⟩; exact ⟨⟨y.1, (HB3.out.trans (HB4.out.mono HB3.out.size)).trans (y.2.mono (HB3.out.trans (HB4.out.mono HB3.out.size)).size)⟩, rfl⟩
  have d0 : ∀ y : Ext w4, y.1.cell? ⟨w.heap.size, 0, none⟩ = some (.int .i64 i) := fun y => by obtain ⟨z, hz⟩ := hC _ ⟨y, rfl⟩; rw [hz]; exact c0 z
  have d1 : ∀ y : Ext w4, y.1.cell? ⟨w.heap.size, 1, none⟩ = some (.int .i64 k) := fun y => by obtain ⟨z, hz⟩ := hC _ ⟨y, rfl⟩; rw [hz]; exact c1 z
  clear c0 c1 hC HB3 HB4
  refine region_plan (fun x => ∃ y : Ext w4, x = y.1) 5 (.takes [0, 1, 2, 3, 4] .leaf) hmx (by kernel_rfl) (by intro c x v a w h; cases x <;> exact h) ⟨⟨w4.drew, (Below.refl _ w4).drew⟩, rfl⟩ ?_
  repeat (rw [wpPlan_takes_cons]; simp only [nth_zero, nth_succ]; go_big_quiet_step (fail); refine wpQuiet_nil ?_)
  rw [wpPlan_takes_nil, wpPlan_leaf]
  simp only [List.drop_succ_cons, List.drop_zero]
  clear d0 d1
  have hD : Below w4.heap.size w4 w4.drew := (Below.refl _ w4).drew
  have F10 := Lib.hid (F5.out.below hD)
  have F11 := Lib.hid (F6.out.below hD)
  have F12 := Lib.hid (F7.out.below hD)
  have F13 := Lib.hid (F9.out.below hD)
  have B14 := Lib.hid (B8.out.trans (hD.mono B8.out.size))
  clear F5 F6 F7 F9 B8
  clear hD
  obtain ⟨W5, hW5⟩ : ∃ W5, w4.drew = W5 := ⟨_, rfl⟩
  rw [hW5] at F10 F11 F12 F13 B14
  try rw [hW5]
  try simp only [hW5]
  go_wp2_with fail
  refine (bi_has _ _ i HI.out _ F12.out HBa.out).mono ?_
  rintro e W15 ⟨rfl, b16⟩
  have F17 := Lib.hid (F10.out.below b16)
  have F18 := Lib.hid (F11.out.below b16)
  have F19 := Lib.hid (F12.out.below b16)
  have F20 := Lib.hid (F13.out.below b16)
  have B21 := Lib.hid (B14.out.trans (b16.mono B14.out.size))
  clear F10 F11 F12 F13 B14
  clear b16
  go_wp2_with fail
  refine (rf_has _ _ i HI.out _ F17.out HBa.out).mono ?_
  rintro e w9 ⟨rfl, h22⟩
  obtain rfl := h22.symm
  go_wp2_with fail
  refine (bi_with _ _ i HI.out _ F19.out HBa.out (by have := HN1.out; omega)).mono ?_
  rintro e W23 ⟨v25, rfl, h26, b24⟩
  have F27 := Lib.hid (F17.out.below b24)
  have F28 := Lib.hid (F18.out.below b24)
  have F29 := Lib.hid (F19.out.below b24)
  have F30 := Lib.hid (F20.out.below b24)
  have B31 := Lib.hid (B21.out.trans (b24.mono B21.out.size))
  clear F17 F18 F19 F20 B21
  clear b24
  have F32 := Lib.hid h26
  clear h26
  go_wp2_with fail
  refine (rf_with _ _ i HI.out _ F27.out HBa.out (by have := HN1.out; omega)).mono ?_
  rintro e W33 ⟨v35, rfl, h36, b34⟩
  have F37 := Lib.hid (F27.out.below b34)
  have F38 := Lib.hid (F28.out.below b34)
  have F39 := Lib.hid (F29.out.below b34)
  have F40 := Lib.hid (F30.out.below b34)
  have F41 := Lib.hid (F32.out.below b34)
  have B42 := Lib.hid (B31.out.trans (b34.mono B31.out.size))
  clear F27 F28 F29 F30 F32 B31
  clear b34
  have F43 := Lib.hid h36
  clear h36
  go_wp2_with fail
  refine (bytes_yes _ _ _ _ F41.out F43.out).mono ?_
  rintro e w9 ⟨rfl, h44⟩
  obtain rfl := h44.symm
  clear F41
  clear F43
  go_wp2_with fail
  refine (bi_or _ _ _ _ _ F39.out F40.out HBa.out HBb.out HN1.out HN2.out).mono ?_
  rintro e W45 ⟨v47, rfl, h48, b46⟩
  have F49 := Lib.hid (F37.out.below b46)
  have F50 := Lib.hid (F38.out.below b46)
  have F51 := Lib.hid (F39.out.below b46)
  have F52 := Lib.hid (F40.out.below b46)
  have B53 := Lib.hid (B42.out.trans (b46.mono B42.out.size))
  clear F37 F38 F39 F40 B42
  clear b46
  have F54 := Lib.hid h48
  clear h48
  go_wp2_with fail
  refine (rf_or _ _ _ _ _ F49.out F50.out HBa.out HBb.out HN1.out HN2.out).mono ?_
  rintro e W55 ⟨v57, rfl, h58, b56⟩
  have F59 := Lib.hid (F49.out.below b56)
  have F60 := Lib.hid (F50.out.below b56)
  have F61 := Lib.hid (F51.out.below b56)
  have F62 := Lib.hid (F52.out.below b56)
  have F63 := Lib.hid (F54.out.below b56)
  have B64 := Lib.hid (B53.out.trans (b56.mono B53.out.size))
  clear F49 F50 F51 F52 F54 B53
  clear b56
  have F65 := Lib.hid h58
  clear h58
  go_wp2_with fail
  refine (bytes_yes _ _ _ _ F63.out F65.out).mono ?_
  rintro e w9 ⟨rfl, h66⟩
  obtain rfl := h66.symm
  clear F63
  clear F65
  go_wp2_with fail
  refine (bi_count _ _ _ F61.out HBa.out HN1.out).mono ?_
  rintro e W67 ⟨rfl, b68⟩
  have F69 := Lib.hid (F59.out.below b68)
  have F70 := Lib.hid (F60.out.below b68)
  have F71 := Lib.hid (F61.out.below b68)
  have F72 := Lib.hid (F62.out.below b68)
  have B73 := Lib.hid (B64.out.trans (b68.mono B64.out.size))
  clear F59 F60 F61 F62 B64
  clear b68
  go_wp2_with fail
  refine (rf_all _ _ _ F69.out HBa.out HN1.out).mono ?_
  rintro e W74 ⟨v76, rfl, h77, b75⟩
  have F78 := Lib.hid (F69.out.below b75)
  have F79 := Lib.hid (F70.out.below b75)
  have F80 := Lib.hid (F71.out.below b75)
  have F81 := Lib.hid (F72.out.below b75)
  have B82 := Lib.hid (B73.out.trans (b75.mono B73.out.size))
  clear F69 F70 F71 F72 B73
  clear b75
  have F83 := Lib.hid (sl_nat h77)
  clear h77
  obtain ⟨a84, c85, rfl, -, -, -, -⟩ := F83.out
  clear F83
  rw [List.length_map]
  go_wp2_with fail
  refine (bi_all _ _ _ F80.out HBa.out HN1.out).mono ?_
  rintro e W86 ⟨v88, rfl, h89, b87⟩
  have F90 := Lib.hid (F78.out.below b87)
  have F91 := Lib.hid (F79.out.below b87)
  have F92 := Lib.hid (F80.out.below b87)
  have F93 := Lib.hid (F81.out.below b87)
  have B94 := Lib.hid (B82.out.trans (b87.mono B82.out.size))
  clear F78 F79 F80 F81 B82
  clear b87
  have F95 := Lib.hid (sl_nat h89)
  clear h89
  go_wp2_with fail
  refine (rf_all _ _ _ F90.out HBa.out HN1.out).mono ?_
  rintro e W96 ⟨v98, rfl, h99, b97⟩
  have F100 := Lib.hid (F90.out.below b97)
  have F101 := Lib.hid (F91.out.below b97)
  have F102 := Lib.hid (F92.out.below b97)
  have F103 := Lib.hid (F93.out.below b97)
  have F104 := Lib.hid (F95.out.below b97)
  have B105 := Lib.hid (B94.out.trans (b97.mono B94.out.size))
  clear F90 F91 F92 F93 F95 B94
  clear b97
  have F106 := Lib.hid (sl_nat h99)
  clear h99
  go_wp2_with fail
  refine (ints_same _ _ _ _ F104.out F106.out).mono ?_
  rintro e W107 ⟨rfl, b108⟩
  have F109 := Lib.hid (F100.out.below b108)
  have F110 := Lib.hid (F101.out.below b108)
  have F111 := Lib.hid (F102.out.below b108)
  have F112 := Lib.hid (F103.out.below b108)
  have F113 := Lib.hid (F104.out.below b108)
  have F114 := Lib.hid (F106.out.below b108)
  have B115 := Lib.hid (B105.out.trans (b108.mono B105.out.size))
  clear F100 F101 F102 F103 F104 F106 B105
  clear b108
  clear F113
  clear F114
  go_wp2_with fail
  refine (bi_good _ _ k _ F111.out HBa.out HN1.out).mono ?_
  rintro e W116 ⟨rfl, b117⟩
  have F118 := Lib.hid (F109.out.below b117)
  have F119 := Lib.hid (F110.out.below b117)
  have F120 := Lib.hid (F111.out.below b117)
  have F121 := Lib.hid (F112.out.below b117)
  have B122 := Lib.hid (B115.out.trans (b117.mono B115.out.size))
  clear F109 F110 F111 F112 B115
  clear b117
  go_wp2_with fail
  refine (rf_good _ _ k HK.out _ F118.out HBa.out HN1.out).mono ?_
  rintro e W123 ⟨rfl, b124⟩
  have F125 := Lib.hid (F118.out.below b124)
  have F126 := Lib.hid (F119.out.below b124)
  have F127 := Lib.hid (F120.out.below b124)
  have F128 := Lib.hid (F121.out.below b124)
  have B129 := Lib.hid (B122.out.trans (b124.mono B122.out.size))
  clear F118 F119 F120 F121 B122
  clear b124
  go_wp2_with fail
  refine (bi_new k _).mono ?_
  rintro e W130 ⟨v132, rfl, h133, b131⟩
  have F134 := Lib.hid (F125.out.below b131)
  have F135 := Lib.hid (F126.out.below b131)
  have F136 := Lib.hid (F127.out.below b131)
  have F137 := Lib.hid (F128.out.below b131)
  have B138 := Lib.hid (B129.out.trans (b131.mono B129.out.size))
  clear F125 F126 F127 F128 B129
  clear b131
  have F139 := Lib.hid h133
  clear h133
  go_wp2_with fail
  refine (rf_new k HK.out _).mono ?_
  rintro e W140 ⟨v142, rfl, h143, b141⟩
  have F144 := Lib.hid (F134.out.below b141)
  have F145 := Lib.hid (F135.out.below b141)
  have F146 := Lib.hid (F136.out.below b141)
  have F147 := Lib.hid (F137.out.below b141)
  have F148 := Lib.hid (F139.out.below b141)
  have B149 := Lib.hid (B138.out.trans (b141.mono B138.out.size))
  clear F134 F135 F136 F137 F139 B138
  clear b141
  have F150 := Lib.hid h143
  clear h143
  go_wp2_with fail
  refine (bytes_yes _ _ _ _ F148.out F150.out).mono ?_
  rintro e w9 ⟨rfl, h151⟩
  obtain rfl := h151.symm
  clear F148
  clear F150
  go_wp2_with fail
  refine (bytes_yes _ _ _ _ F146.out F144.out).mono ?_
  rintro e w9 ⟨rfl, h152⟩
  obtain rfl := h152.symm
  go_wp2_with fail
  refine (bytes_yes _ _ _ _ F147.out F145.out).mono ?_
  rintro e w9 ⟨rfl, h153⟩
  obtain rfl := h153.symm
  go_wp2_with fail
  refine (bi_wakes _).mono ?_
  rintro e W154 ⟨rfl, b155⟩
  have F156 := Lib.hid (F144.out.below b155)
  have F157 := Lib.hid (F145.out.below b155)
  have F158 := Lib.hid (F146.out.below b155)
  have F159 := Lib.hid (F147.out.below b155)
  have B160 := Lib.hid (B149.out.trans (b155.mono B149.out.size))
  clear F144 F145 F146 F147 B149
  clear b155
  go_wp2_with fail
  go_ret
  exact ⟨rfl, B160.out⟩

set_option maxRecDepth 100000 in
theorem lifted (os : Os) (started : os.Started) (H : Type) (enc : TypeId × Value → H) :
    ReturnsInHanded {} Try.checked os 3 .any (Rows.bitsTellSpec.pre6 enc Try.prog Try.f3 Rows.bitsTellRow.domain false) (Rows.bitsTellSpec.post enc Try.prog Try.f3 false true false false) := by
  refine returnsInHanded_of_change (C := Try.checked) own started (by kernel_rfl) Try.func3
    (ChangeSpec.witness6 (enc := enc) (C := Try.checked) false ⟨#[], #[.slice none 0 0, .slice none 0 0, .agg #[.int .i64 0, .int .i64 0]], []⟩ 8 (by kernel_rfl) (by kernel_rfl) (by kernel_rfl) (by kernel_rfl)) ?_
  intro W base args ds gs before hval0 hW hcnd _
  have hval : ∀ (j : Nat) t v, Try.f3.params[j]? = some t → args[j]? = some v → Value.okWide Try.prog W .any base t v := hval0
  have hW' := hW
  obtain ⟨p, q, hA0, hV, rfl, hfz, hnd⟩ := hW
  have hA : DataW.TrodAll enc Try.prog W 0 (fun _ => true) true Try.f3.params.toList args.toList ds p := hA0
  rw [Try.params3] at hA hval
  obtain ⟨v0, vs0, d0, ds0, p0, q0, hargs, rfl, rfl, h0, r0⟩ := trodAll_cons hA
  obtain ⟨v1, vs1, d1, ds1, p1, q1, rfl, rfl, rfl, h1, r1⟩ := trodAll_cons r0
  obtain ⟨v2, vs2, d2, ds2, p2, q2, rfl, rfl, rfl, h2, r2⟩ := trodAll_cons r1
  obtain ⟨rfl, rfl, rfl⟩ := trodAll_nil r2
  obtain rfl : args = #[v0, v1, v2] := by cases args; simp_all
  obtain ⟨rfl, rfl⟩ := trodVars_none hV
  have lt0 : ∀ x ∈ p0, x.block < W.heap.size := by obtain ⟨m, hm⟩ := h0; exact DataW.trod_lt m _ _ _ hm
  have a0 := Arg.mk (hval 0 22 v0 rfl rfl) h0
  have lt1 : ∀ x ∈ p1, x.block < W.heap.size := by obtain ⟨m, hm⟩ := h1; exact DataW.trod_lt m _ _ _ hm
  have a1 := Arg.mk (hval 1 22 v1 rfl rfl) h1
  have lt2 : ∀ x ∈ p2, x.block < W.heap.size := by obtain ⟨m, hm⟩ := h2; exact DataW.trod_lt m _ _ _ hm
  have a2 := Arg.mk (hval 2 23 v2 rfl rfl) h2
  clear hA0 hval0
  refine (walk v0 v1 v2 W a0 a1 a2).mono fun e W' ⟨he, bel⟩ => ?_
  subst he
  exact ⟨_, rfl, _, _, _, [], _, [], hW', trodAll_mk1 (shut_bool Try.underlying4 _), (trodAll_cons_mk (Below.trod laidOut (by kernel_rfl) (of_decide_eq_true (by kernel_rfl)) h0 bel lt0) (trodAll_cons_mk (Below.trod laidOut (by kernel_rfl) (of_decide_eq_true (by kernel_rfl)) h1 bel lt1) (trodAll_cons_mk (Below.trod laidOut (by kernel_rfl) (of_decide_eq_true (by kernel_rfl)) h2 bel lt2) trodAll_mk0))), rfl, bel.frame _, fun h => by cases h⟩

set_option maxRecDepth 100000 in
theorem over : Rows.bitsTellRow.holds Try.pinned (OpenSpec.ofChange Rows.bitsTellSpec) :=
  OpenClaim.holds_of_wide 3 Try.f3 rfl rfl rfl rfl rfl rfl rfl ⟨rfl, rfl, rfl, rfl, rfl⟩ rfl rfl rfl rfl rfl (by kernel_rfl) Try.func3 (by kernel_rfl)
    (of_decide_eq_true (by kernel_rfl)) (by unfold Func.isWrapper; first | (rw [if_pos (by decide +kernel)]; kernel_rfl) | (rw [if_neg (by decide +kernel)]; exact ⟨rfl, rfl⟩))
    (fun os started H enc _ => lifted os started H enc)

theorem proved : Rows.BitsTellSaid := over
#print axioms proved
end Go.Proofs.Ythehgpmggnnppaa.bitsTell
