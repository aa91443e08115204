/- The developers' fits and complete. -/
import Derived.Test.YtiidfffedoekiaaChSt
import Derived.Test.YtiidfffedoekiaaTbGd
import Derived.Test.YtiidfffedoekiaaBiCo
import Derived.Test.YtiidfffedoekiaaBiRef
namespace Go.Proofs.Ytiidfffedoekiaa
open Go.RowKit Go.Shelf
set_option linter.unusedVariables false
set_option linter.unusedSimpArgs false
attribute [-simp] Try.isAgg39 Try.zeroValue39 Try.isAgg42 Try.zeroValue42
attribute [-go_sem] loadVar storeVar
attribute [local go_sem] loadVar_openPS storeVar_openPS zero_sn zero_prs

set_option maxRecDepth 100000 in
set_option maxHeartbeats 4000000 in
theorem ch_complete {w : World} {q : SV} {s : SN} (h : SnIs w q s) (hl1 : s.ch.length ≤ 100000) :
    Calls Try.prog 41 #[svV q] w fun e w' => e = .returned (.bool (fullS s)) ∧ Below w.heap.size w w' := by
  have hmx : Try.prog.follows .mixedOrders = true := by kernel_rfl
  obtain ⟨i, ⟨x, n, c⟩, ⟨y, m, d⟩⟩ := q
  obtain rfl : m = s.tb.length := by obtain ⟨a, ca, e, -⟩ := h.tb; simp only [slV, Value.slice.injEq] at e; omega
  obtain ⟨tl, htl⟩ : ∃ tl, s.tb.length = tl := ⟨_, rfl⟩
  rw [htl] at h ⊢
  obtain ⟨B, hB⟩ : ∃ B, w.heap.size = B := ⟨_, rfl⟩
  have HSZ := Lib.hid hB
  obtain ⟨W, hW⟩ : ∃ W, w.alloc (.cells #[.int .i64 i, .slice x n c, .slice y tl d] 39) = W := ⟨_, rfl⟩
  have bW : Below B w W := by rw [← hW, ← hB]; exact (Below.refl _ w).alloc (Nat.le_refl _) _
  have r1 : RowC W B 39 [.int .i64 i, .slice x n c, .slice y tl d] := by rw [← hW, ← hB]; exact RowC.new w _ _
  have hs : W.heap.size = B + 1 := by rw [← hW, ← hB]; simp
  have c1 : ∀ z : Ext W, z.1.cell? ⟨B, 1, none⟩ = some (.slice x n c) := fun z => (r1.below z.2).cell 1 _ rfl
  have c2 : ∀ z : Ext W, z.1.cell? ⟨B, 2, none⟩ = some (.slice y tl d) := fun z => (r1.below z.2).cell 2 _ rfl
  have HBW := Lib.hid bW
  have HS := Lib.hid hs
  obtain ⟨cn, hcn⟩ : ∃ cn, (allB s.ch).length = cn := ⟨_, rfl⟩
  have HE : Hid (fullS s = ((cn : Int) == (tl : Int))) := by
    show _ = _
    unfold fullS
    rw [hcn, htl, Bool.eq_iff_iff]
    simp
    omega
  have HC : Hid (∀ z : World, Below W.heap.size W z → Calls Try.prog 58 #[.slice x n c] z fun e w' => e = .returned (.int .i64 (cn : Int)) ∧ Below z.heap.size z w') := fun z hz => by
    rw [← hcn]
    exact bi_count _ s.ch z ((h.ch.below (by rw [hB]; exact bW)).below hz) h.ok.ch (by omega)
  rw [HE.out]
  clear h bW r1 hs hcn
  go_enter Try.func41, Try.ntmps41
  simp only [svV, slV]
  go_wp2_with fail
  try rw [hW]
  clear hW
  refine region_plan (fun x => ∃ y : Ext W, x = y.1) 7 (.takes [0, 1, 3, 4, 5] (.one 2 (.takes [6] .leaf))) hmx (by kernel_rfl) (by intro c x v a w h; cases x <;> exact h) ⟨⟨W.drew, (Below.refl _ W).drew⟩, rfl⟩ ?_
  repeat (rw [wpPlan_takes_cons]; simp only [nth_zero, nth_succ]; go_big_quiet_step (fail); refine wpQuiet_nil ?_)
  rw [wpPlan_takes_nil, wpPlan_one]
  simp only [nth_zero, nth_succ]
  go_wp2_with fail
  go_at_call 58
  refine (HC.out W.drew (Below.refl _ W).drew).mono ?_
  rintro e y1 ⟨rfl, hb1⟩
  have KB1 : Hid (Below W.heap.size W y1) := (Below.refl _ W).drew.trans hb1
  clear hb1 HC
  go_wp2_with fail
  refine planPost_mk ⟨⟨y1, KB1.out⟩, rfl⟩ ?_
  repeat (rw [wpPlan_takes_cons]; simp only [nth_zero, nth_succ]; go_big_quiet_step (fail); refine wpQuiet_nil ?_)
  rw [wpPlan_takes_nil, wpPlan_leaf]
  simp only [List.drop_succ_cons, List.drop_zero]
  go_wp2_with fail
  go_ret
  refine ⟨by first | rfl | simp, ?_⟩
  rw [HSZ.out]
  exact HBW.out.trans (KB1.out.mono (by have := HS.out; omega))

set_option maxRecDepth 100000 in
set_option maxHeartbeats 8000000 in
theorem ch_fits {w : World} {q : SV} {s : SN} (h : SnIs w q s) (hl1 : s.ch.length ≤ 100000) (hl2 : s.tb.length ≤ 100000) (bl ar : Int) :
    Calls Try.prog 40 #[svV q, .int .i64 bl, .int .i64 ar] w fun e w' => e = .returned (.bool (fitS s bl ar)) ∧ Below w.heap.size w w' := by
  obtain ⟨i, ⟨x, n, c⟩, ⟨y, m, d⟩⟩ := q
  obtain rfl : m = s.tb.length := by obtain ⟨a, ca, e, -⟩ := h.tb; simp only [slV, Value.slice.injEq] at e; omega
  obtain ⟨tl, htl⟩ : ∃ tl, s.tb.length = tl := ⟨_, rfl⟩
  rw [htl] at h hl2 ⊢
  obtain ⟨B, hB⟩ : ∃ B, w.heap.size = B := ⟨_, rfl⟩
  have HSZ := Lib.hid hB
  have HTL := Lib.hid htl
  obtain ⟨W, hW⟩ : ∃ W, w.alloc (.cells #[.int .i64 i, .slice x n c, .slice y tl d] 39) = W := ⟨_, rfl⟩
  have bW : Below B w W := by rw [← hW, ← hB]; exact (Below.refl _ w).alloc (Nat.le_refl _) _
  have r1 : RowC W B 39 [.int .i64 i, .slice x n c, .slice y tl d] := by rw [← hW, ← hB]; exact RowC.new w _ _
  have hs : W.heap.size = B + 1 := by rw [← hW, ← hB]; simp
  have c1 := r1.cell 1 _ rfl
  have c2 := r1.cell 2 _ rfl
  have HR := Lib.hid r1
  have HBW := Lib.hid bW
  have HS := Lib.hid hs
  have HSN := Lib.hid (h.below (W' := W) (by rw [hB]; exact bW))
  have HG := Lib.hid (bi_good _ s.ch bl W HSN.out.ch h.ok.ch (by omega))
  have hok := Lib.hid h.ok
  have htbl : Hid (s.tb.length ≤ 800000) := by show _ ≤ _; omega
  have hch : Hid (s.ch.length ≤ 100000) := hl1
  clear h bW r1 hs htl hl1
  go_enter Try.func40, Try.ntmps40
  simp only [svV, slV]
  cases hgc : goodB s.ch bl with
  | false =>
    rw [hgc] at HG
    have HE : Hid (fitS s bl ar = false) := by show _ = _; unfold fitS; rw [hgc]; rfl
    rw [HE.out]
    clear hgc
    go_wp2_with fail
    refine HG.out.mono ?_
    rintro e y1 ⟨rfl, hb1⟩
    have HB1 := Lib.hid hb1
    clear hb1
    go_wp2_with fail
    go_ret
    refine ⟨rfl, ?_⟩
    rw [HSZ.out]
    exact HBW.out.trans (HB1.out.mono (by have := HS.out; omega))
  | true =>
    rw [hgc] at HG
    have HGC := Lib.hid hgc
    clear hgc
    go_wp2_with fail
    refine HG.out.mono ?_
    rintro e y1 ⟨rfl, hb1⟩
    have HR1 := Lib.hid (HR.out.below hb1)
    have c3 := HR1.out.cell 2 _ rfl
    have HT := Lib.hid (tb_good (HSN.out.tb.below hb1) bl ar htbl.out)
    have HB1 : Hid (Below B w y1) := HBW.out.trans (hb1.mono (by have := HS.out; omega))
    have hy1s := hb1.size
    have HSN1 := Lib.hid (HSN.out.below hb1)
    have HYS : Hid (B + 1 ≤ y1.heap.size) := by have := HS.out; show _ ≤ _; omega
    clear hb1 hy1s HG HSN c1 c2
    cases htg : tGood s.tb bl ar with
    | false =>
      rw [htg] at HT
      have HE : Hid (fitS s bl ar = false) := by show _ = _; unfold fitS; rw [HGC.out, htg]; rfl
      clear htg
      go_wp2_with fail
      refine HT.out.mono ?_
      rintro e y2 ⟨rfl, hb2⟩
      have HB2 := Lib.hid hb2
      clear hb2
      go_wp2_with fail
      go_ret
      refine ⟨by rw [HE.out]; try rfl, ?_⟩
      rw [HSZ.out]
      exact HB1.out.trans (HB2.out.mono (by have := HYS.out; omega))
    | true =>
      rw [htg] at HT
      have HE0 : Hid (fitS s bl ar = s.tb.all fun p => hasB s.ch p.1) := by show _ = _; unfold fitS; rw [HGC.out, htg]; rfl
      clear htg
      go_wp2_with fail
      refine HT.out.mono ?_
      rintro e y2 ⟨rfl, hb2⟩
      have HR2 := Lib.hid (HR1.out.below hb2)
      have c4 := HR2.out.cell 2 _ rfl
      have HB2 : Hid (Below B w y2) := HB1.out.trans (hb2.mono (by have := HYS.out; omega))
      have HSN2 := Lib.hid (HSN1.out.below hb2)
      have HYS2 : Hid (B + 1 ≤ y2.heap.size) := by have := HYS.out; have := hb2.size; show _ ≤ _; omega
      clear hb2 HT HSN1 c3 HR1 HB1
      go_wp2_with fail
      go_loopw [25] (fun iv wr => ∃ k : Nat, k ≤ tl ∧ iv = .int .i64 (k : Int) ∧ Hid (∀ p ∈ s.tb.take k, hasB s.ch p.1 = true) ∧ Hid (Below y2.heap.size y2 wr)) (fun iv _ => tl - (intOf iv).toNat)
      case atStart => exact ⟨0, Nat.zero_le _, rfl, (fun p hp => by cases hp), Below.refl _ _⟩
      case round =>
        obtain ⟨k, hk, rfl, HP, HB3⟩ := hrel
        by_cases hlt : k < tl
        · obtain ⟨p, hp⟩ : ∃ p, s.tb[k]? = some p := ⟨_, List.getElem?_eq_getElem (by rw [HTL.out]; exact hlt)⟩
          have hsn : s.tb.take (k + 1) = s.tb.take k ++ [p] := take_at hp
          have hpm := List.mem_of_getElem? hp
          obtain ⟨bb, off, rfl, hbb, d1, d2⟩ := (HSN2.out.tb.below HB3.out).at hp
          obtain ⟨x0, y0⟩ := p
          simp only at d1 d2
          have hx0 : (Lit.int .i64 x0).wf = true := wf_i64 (hok.out.tb _ hpm).1.1 (hok.out.tb _ hpm).1.2
          have HSN' := Lib.hid hsn
          have g1 : (k : Int) < (tl : Int) := by omega
          have HW : Hid (wrap64 ((k : Int) + 1) = (k : Int) + 1) := IntWalk.wrap64_in _ (by omega)
          have LD := load_prs d1 d2
          have ST := new_prs wr x0 y0
          obtain ⟨W2, hW2⟩ : ∃ W2, wr.alloc (.cells #[.int .i64 x0, .int .i64 y0] 42) = W2 := ⟨_, rfl⟩
          rw [hW2] at ST
          have hb2 : Below wr.heap.size wr W2 := by rw [← hW2]; exact below_new wr _
          have e1 : W2.cell? ⟨wr.heap.size, 0, none⟩ = some (.int .i64 x0) := by rw [← hW2]; exact (RowC.new wr 42 [.int .i64 x0, .int .i64 y0]).cell 0 _ rfl
          have e2 : W2.cell? ⟨B, 1, none⟩ = some (.slice x n c) := ((HR2.out.below HB3.out).below hb2).cell 1 _ rfl
          have HH := Lib.hid (bi_has _ s.ch x0 hx0 W2 ((HSN2.out.ch.below HB3.out).below hb2) hok.out.ch)
          have HB4 : Hid (Below y2.heap.size y2 W2) := HB3.out.trans (hb2.mono HB3.out.size)
          obtain ⟨N, hN⟩ : ∃ N, wr.heap.size = N := ⟨_, rfl⟩
          rw [hN] at ST e1
          have HLT := Lib.hid hlt
          cases hhb : hasB s.ch x0 with
          | false =>
            rw [hhb] at HH
            have HE : Hid ((s.tb.all fun p => hasB s.ch p.1) = false) := by
              show _ = _
              rw [List.all_eq_false]
              exact ⟨_, hpm, by simp [hhb]⟩
            clear hhb hp hsn hpm hbb d1 d2 hx0 hW2 hb2 HB3 HP hlt
            go_wp2_with fail
            refine HH.out.mono ?_
            rintro e y3 ⟨rfl, hb3⟩
            have HB5 : Hid (Below B w y3) := HB2.out.trans ((HB4.out.trans (hb3.mono HB4.out.size)).mono (by have := HYS2.out; omega))
            clear hb3
            go_wp2_with fail
            refine bodyPost_ret (results_tmp rfl _ _ _) rfl ?_
            refine ⟨by rw [HE0.out, HE.out]; try rfl, ?_⟩
            rw [HSZ.out]
            exact HB5.out
          | true =>
            rw [hhb] at HH
            have HHB : Hid (∀ p ∈ s.tb.take (k + 1), hasB s.ch p.1 = true) := fun p hp => by
              rw [HSN'.out] at hp
              rcases List.mem_append.1 hp with hp | hp
              · exact HP.out p hp
              · rw [List.mem_singleton.1 hp]; exact hhb
            clear hhb hp hsn hpm hbb d1 d2 hx0 hW2 hb2 HB3 HP hlt
            go_wp2_with fail
            refine HH.out.mono ?_
            rintro e y3 ⟨rfl, hb3⟩
            have HB5 : Hid (Below y2.heap.size y2 y3) := HB4.out.trans (hb3.mono HB4.out.size)
            clear hb3
            go_wp2_with fail
            exact ⟨⟨k + 1, HLT.out, by simp, HHB, HB5⟩, by have := HLT.out; simp [intOf]; omega⟩
        · obtain rfl : k = tl := by omega
          have HE : Hid ((s.tb.all fun p => hasB s.ch p.1) = true) := by
            have := HP.out
            rw [List.take_of_length_le (by rw [HTL.out]; exact Nat.le_refl _)] at this
            show _ = _
            rw [List.all_eq_true]
            exact this
          have HB5 : Hid (Below B w wr) := HB2.out.trans (HB3.out.mono (by have := HYS2.out; omega))
          clear HP HB3
          go_wp2_with fail
          refine bodyPost_ret (results_tmp rfl _ _ _) rfl ?_
          refine ⟨by rw [HE0.out, HE.out]; try rfl, ?_⟩
          rw [HSZ.out]
          exact HB5.out
end Go.Proofs.Ytiidfffedoekiaa
