/- The statements' own trial comes out true. -/
import Derived.Test.YtiidfffedoekiaaChWk
namespace Go.Proofs.Ytiidfffedoekiaa
open Go.RowKit Go.Shelf
set_option linter.unusedVariables false
set_option linter.unusedSimpArgs false
attribute [-simp] Try.isAgg39 Try.zeroValue39 Try.isAgg42 Try.zeroValue42
attribute [-go_sem] loadVar storeVar
attribute [local go_sem] loadVar_openPS storeVar_openPS zero_sn zero_prs build_prs build_sn build_sn2

theorem three_drop : cDrop threeL 1 = [⟨1, [14], [(1, 0), (2, 1), (3, 3)]⟩, ⟨5, [16], []⟩] := by kernel_rfl
theorem three_cut : cCut threeL 1 = [⟨1, [6], [(1, 0), (2, 1)]⟩, ⟨4, [0], []⟩] := by kernel_rfl
theorem three_at : cHold threeL 0 3 = some 3 := by kernel_rfl
theorem three_no : cHold threeL 0 4 = none := by kernel_rfl
theorem three_good : cGood threeL 8 4 = true := by decide +kernel
theorem three_ix : cIndex threeL 5 = 2 := by kernel_rfl
theorem three_nx : cIndex threeL 2 = -1 := by kernel_rfl
theorem three_chg : cChg threeL 0 2 = [14] := by kernel_rfl
theorem three_lens : Lens 1000 threeL := ⟨by decide, fun s hs => by
  simp [threeL] at hs
  rcases hs with rfl | rfl | rfl <;> simp⟩

set_option maxRecDepth 100000 in
set_option maxHeartbeats 8000000 in
theorem ch_wakes (w : World) : Calls Try.prog 11 #[] w fun e w' => e = .returned (.bool true) ∧ Below w.heap.size w w' := by
  have H1 := Lib.hid (ch_three w)
  go_enter Try.func11, Try.ntmps11
  go_wp2_with fail
  go_at_call 33
  refine H1.out.mono ?_
  rintro e x1 ⟨vl, rfl, hl, hb⟩
  have B1 := Lib.hid hb
  have L1 := Lib.hid hl
  obtain ⟨r, la, lc, rfl, -⟩ := hl
  rw [show threeL.length = 3 from rfl] at L1 ⊢
  have H2 := Lib.hid (ch_drop L1.out three_lens 1)
  clear hb H1
  go_wp2_with fail
  go_at_call 12
  refine H2.out.mono ?_
  rintro e x2 ⟨vd, rfl, hd, hb⟩
  rw [three_drop] at hd
  have B2 := Lib.hid (B1.out.trans (hb.mono B1.out.size))
  have L2 := Lib.hid (L1.out.below hb)
  have D2 := Lib.hid hd
  have H3 := Lib.hid (ch_cut L2.out three_lens 1)
  clear hb hd H2 B1 L1
  go_wp2_with fail
  go_at_call 13
  refine H3.out.mono ?_
  rintro e x3 ⟨vc, rfl, hc, hb⟩
  rw [three_cut] at hc
  have B3 := Lib.hid (B2.out.trans (hb.mono B2.out.size))
  have L3 := Lib.hid (L2.out.below hb)
  have D3 := Lib.hid (D2.out.below hb)
  have C3 := Lib.hid hc
  have H4 := Lib.hid (ch_holder L3.out three_lens 0 3)
  rw [three_at] at H4
  clear hb hc H3 B2 L2 D2
  go_wp2_with fail
  go_at_call 15
  refine H4.out.mono ?_
  rintro e x4 ⟨rfl, hb⟩
  have B4 := Lib.hid (B3.out.trans (hb.mono B3.out.size))
  have L4 := Lib.hid (L3.out.below hb)
  have D4 := Lib.hid (D3.out.below hb)
  have C4 := Lib.hid (C3.out.below hb)
  have H5 := Lib.hid (ch_holder L4.out three_lens 0 4)
  rw [three_no] at H5
  clear hb H4 B3 L3 D3 C3
  go_wp2_with fail
  go_at_call 15
  refine H5.out.mono ?_
  rintro e x5 ⟨rfl, hb⟩
  have B5 := Lib.hid (B4.out.trans (hb.mono B4.out.size))
  have L5 := Lib.hid (L4.out.below hb)
  have D5 := Lib.hid (D4.out.below hb)
  have C5 := Lib.hid (C4.out.below hb)
  have H6 := Lib.hid (ch_good L5.out three_lens 8 4)
  rw [three_good] at H6
  clear hb H5 B4 L4 D4 C4
  go_wp2_with fail
  go_at_call 14
  refine H6.out.mono ?_
  rintro e x6 ⟨rfl, hb⟩
  have B6 := Lib.hid (B5.out.trans (hb.mono B5.out.size))
  have L6 := Lib.hid (L5.out.below hb)
  have D6 := Lib.hid (D5.out.below hb)
  have C6 := Lib.hid (C5.out.below hb)
  have H7 := Lib.hid (ch_index L6.out 5)
  rw [three_ix] at H7
  clear hb H6 B5 L5 D5 C5
  go_wp2_with fail
  go_at_call 34
  refine H7.out.mono ?_
  rintro e x7 ⟨rfl, hb⟩
  have B7 := Lib.hid (B6.out.trans (hb.mono B6.out.size))
  have L7 := Lib.hid (L6.out.below hb)
  have D7 := Lib.hid (D6.out.below hb)
  have C7 := Lib.hid (C6.out.below hb)
  have H8 := Lib.hid (ch_index L7.out 2)
  rw [three_nx] at H8
  clear hb H7 B6 L6 D6 C6
  go_wp2_with fail
  go_at_call 34
  refine H8.out.mono ?_
  rintro e x8 ⟨rfl, hb⟩
  have B8 := Lib.hid (B7.out.trans (hb.mono B7.out.size))
  have L8 := Lib.hid (L7.out.below hb)
  have D8 := D7.out.below hb
  have C8 := C7.out.below hb
  clear hb H8 B7 L7 D7 C7
  obtain ⟨g, gc, ⟨qi, ⟨qa, qn, qc⟩, ⟨ta, tn, tc⟩⟩, hvd, hg1, hg2, hg3, hF, d0, d1, d2⟩ := D8.open (k := 0) rfl
  subst hvd
  obtain ⟨g', gc', ⟨qi', ⟨qa', qn', qc'⟩, ⟨ta', tn', tc'⟩⟩, hvc, hg1', hg2', hg3', hF', d0', d1', d2'⟩ := C8.open (k := 1) rfl
  subst hvc
  simp only [slV, Nat.zero_mul, Nat.zero_add, Nat.one_mul, Nat.reduceAdd, List.length_cons, List.length_nil] at d0 d1 d2 d0' d1' d2' hg1 hg1' ⊢
  have htn : tn = 3 := by obtain ⟨a, c, e, -⟩ := hF.tb.prt; simp only [slV, Value.slice.injEq] at e; exact e.2.1
  have htn' : tn' = 0 := by obtain ⟨a, c, e, -⟩ := hF'.tb.prt; simp only [slV, Value.slice.injEq] at e; exact e.2.1
  subst htn htn'
  obtain ⟨ka, hka, hkc⟩ : ∃ g, qa = some ⟨g, 0, none⟩ ∧ x8.cell? ⟨g, 0, none⟩ = some (.int .u8 14) ∧ qn = 1 := by
    rcases hF.ch.2 with ⟨e, e0⟩ | ⟨g, cap, cur, e, -⟩
    · cases e0
    · simp only [slV, Value.slice.injEq] at e
      obtain ⟨rfl, rfl, rfl⟩ := e
      have := hF.ch.cellAt (g := g) 0 (by simp)
      exact ⟨g, rfl, this, rfl⟩
  obtain ⟨kb, hkb, hkd⟩ : ∃ g, qa' = some ⟨g, 0, none⟩ ∧ x8.cell? ⟨g, 0, none⟩ = some (.int .u8 0) ∧ qn' = 1 := by
    rcases hF'.ch.2 with ⟨e, e0⟩ | ⟨g, cap, cur, e, -⟩
    · cases e0
    · simp only [slV, Value.slice.injEq] at e
      obtain ⟨rfl, rfl, rfl⟩ := e
      have := hF'.ch.cellAt (g := g) 0 (by simp)
      exact ⟨g, rfl, this, rfl⟩
  subst hka hkb
  obtain ⟨u0, rfl⟩ := hkc
  obtain ⟨u1, rfl⟩ := hkd
  have H9 := Lib.hid (ch_changed L8.out three_lens 0 2)
  rw [three_chg] at H9
  clear hF hF' D8 C8 d0 d0' L8 hg1 hg2 hg3 hg1' hg2' hg3'
  go_wp2_with fail
  go_at_call 17
  refine H9.out.mono ?_
  rintro e x9 ⟨vx, rfl, hx, hb⟩
  have B9 := Lib.hid (B8.out.trans (hb.mono B8.out.size))
  have s1 := slice_u81 x9 14
  obtain ⟨y, hy⟩ : ∃ y, x9.alloc (.cells #[.int .u8 14] 5) = y := ⟨_, rfl⟩
  have o1 := own_u81 x9 14
  rw [hy] at s1 o1
  have by1 : Below x9.heap.size x9 y := by rw [← hy]; exact below_new _ _
  have HY := Lib.hid (bytes_yes vx _ [14] y ((Sl.of_owns (bs := [14]) hx).below by1) (Sl.of_owns (bs := [14]) o1))
  have B10 := Lib.hid (B9.out.trans (by1.mono B9.out.size))
  obtain ⟨⟨va, vn, vc⟩, rfl, -⟩ := own_slV hx
  simp only [slV] at HY ⊢
  clear hx hb hy o1 by1 H9 B8 B9 d1 d2 d1' d2' u0 u1
  go_wp2_with ((with_reducible refine gate_build ?_); refine wpList_build_run _ _ _ rfl rfl [(0, .int .u8 14)] _ rfl s1 ?_)
  go_at_call 35
  refine HY.out.mono ?_
  rintro e z ⟨rfl, rfl⟩
  clear HY s1
  go_wp2_with fail
  go_ret
  exact ⟨rfl, B10.out⟩
end Go.Proofs.Ytiidfffedoekiaa
