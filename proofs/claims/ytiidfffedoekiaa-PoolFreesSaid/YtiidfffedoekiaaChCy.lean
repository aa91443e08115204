/- The helper that copies snapshots. -/
import Derived.Test.YtiidfffedoekiaaChOw
namespace Go.Proofs.Ytiidfffedoekiaa
open Go.RowKit Go.Shelf
set_option linter.unusedVariables false
set_option linter.unusedSimpArgs false
attribute [-simp] Try.isAgg39 Try.zeroValue39 Try.isAgg42 Try.zeroValue42
attribute [-go_sem] loadVar storeVar
attribute [local go_sem] loadVar_openPS storeVar_openPS zero_sn build_sn build_sn2

set_option maxRecDepth 100000 in
set_option maxHeartbeats 16000000 in
theorem keep_copy {w : World} {v : Value} {l : List SN} (h : Snp w v l) (hK : Lens 1000 l) :
    Calls Try.prog 23 #[v] w fun e w' => ∃ u, e = .returned u ∧ SnO w.heap.size w' u l ∧ Below w.heap.size w w' := by
  have hmx : Try.prog.follows .mixedOrders = true := by kernel_rfl
  obtain ⟨r, h⟩ := h
  have HS := Lib.hid h
  have HKL := Lib.hid hK
  obtain ⟨a, cap, rfl, h1, h2, -⟩ := h
  obtain ⟨len, hle⟩ : ∃ len, l.length = len := ⟨_, rfl⟩
  have HL := Lib.hid hle
  have hlen : len ≤ 1000 := by have := hK.1; omega
  rw [hle] at HS h1 ⊢
  clear h1 h2 hle
  go_enter Try.func23, Try.ntmps23
  go_wp2_with fail
  go_loopw [3, 4] (fun uv iv W => ∃ (k : Nat) (u : SlV), k ≤ len ∧ iv = .int .i64 (k : Int) ∧ uv = slV u ∧ Hid (SnO w.heap.size W (slV u) (l.take k)) ∧ Hid (Below w.heap.size w W)) (fun _ iv _ => len - (intOf iv).toNat)
  case atStart => exact ⟨0, (none, 0, 0), Nat.zero_le _, rfl, rfl, by show SnO _ _ _ _; rw [List.take_zero]; exact SnO.nil _ _, Below.refl _ _⟩
  case round =>
    obtain ⟨W, hWwr⟩ : ∃ W, W = wr := ⟨_, rfl⟩
    subst hWwr
    obtain ⟨k, u, hk, rfl, rfl, HU, HBW⟩ := hrel
    by_cases hlt : k < len
    · obtain ⟨s, hs⟩ : ∃ s, l[k]? = some s := ⟨_, List.getElem?_eq_getElem (by rw [HL.out]; exact hlt)⟩
      have hsm := List.mem_of_getElem? hs
      have hls := HKL.out.2 s hsm
      have HL1 : Hid (s.ch.length ≤ 100000) := by show _ ≤ _; omega
      have HL2 : Hid (s.tb.length ≤ 100000) := by show _ ≤ _; omega
      have HTK := Lib.hid (take_at hs)
      obtain ⟨b, off, q, rfl, hb, hrq, hq0, -, -, -⟩ := HS.out.at hs
      obtain ⟨i, ⟨x, n, c⟩, ⟨y, m, d⟩⟩ := q
      have HSI := Lib.hid hq0
      have HCH : Hid (Sl .u8 W (.slice x n c) s.ch) := hq0.ch.below HBW.out
      have HTB : Hid (Prt W (.slice y m d) s.tb) := hq0.tb.below HBW.out
      have cc : ∀ z : Ext w, z.1.cell? ⟨b, off + k * 3, none⟩ = some (.int .i64 i) ∧ z.1.cell? ⟨b, off + k * 3 + 1, none⟩ = some (.slice x n c) ∧ z.1.cell? ⟨b, off + k * 3 + 2, none⟩ = some (.slice y m d) := fun z => by
        obtain ⟨b', off', q', e, _, hrq', _, e0, e1, e2⟩ := (HS.out.below z.2).at hs
        rw [hrq] at hrq'
        cases hrq'
        simp only [Option.some.injEq, Addr.mk.injEq, and_true] at e
        obtain ⟨rfl, rfl⟩ := e
        exact ⟨e0, e1, e2⟩
      have c0 : ∀ z : Ext w, z.1.cell? ⟨b, off + k * 3, none⟩ = some (.int .i64 i) := fun z => (cc z).1
      have c1 : ∀ z : Ext w, z.1.cell? ⟨b, off + k * 3 + 1, none⟩ = some (.slice x n c) := fun z => (cc z).2.1
      have c2 : ∀ z : Ext w, z.1.cell? ⟨b, off + k * 3 + 2, none⟩ = some (.slice y m d) := fun z => (cc z).2.2
      have g1 : (k : Int) < (len : Int) := by omega
      have HWr : Hid (wrap64 ((k : Int) + 1) = (k : Int) + 1) := IntWalk.wrap64_in _ (by omega)
      have HLT := Lib.hid hlt
      have hlk : (l.take k).length ≤ 1000 := by rw [List.length_take]; omega
      have KW : Hid (Below W.heap.size W W.drew) := (Below.refl _ W).drew
      have HBD : Hid (Below w.heap.size w W.drew) := HBW.out.drew
      clear hs hsm hls hb hrq hq0 cc hlt
      simp only [slV]
      go_wp2_with fail
      refine region_plan (fun x => ∃ y : Ext w, x = y.1) 23 (.takes [0, 1, 2, 3, 4, 5, 7, 8, 9, 10, 11, 14, 15, 16, 17, 18] (.two 6 13 (.two 12 13 (.one 13 (.one 19 (.takes [20] (.one 21 (.one 22 .leaf))))) (.one 12 (.one 19 (.takes [20] (.one 21 (.one 22 .leaf)))))) (.one 6 (.one 12 (.one 19 (.takes [20] (.one 21 (.one 22 .leaf)))))))) hmx (by kernel_rfl) (by intro c x v a w h; cases x <;> exact h) ⟨⟨W.drew, HBD.out⟩, rfl⟩ ?_
      repeat (rw [wpPlan_takes_cons]; simp only [nth_zero, nth_succ]; go_big_quiet_step (fail); refine wpQuiet_nil ?_)
      rw [wpPlan_takes_nil]
      clear c0 c1 c2 HBD
      obtain ⟨X0, hX0⟩ : ∃ X, W.drew = X := ⟨_, rfl⟩
      rw [hX0] at KW
      try rw [hX0]
      clear hX0
      rw [wpPlan_twoT]
      refine ⟨?_, ?_⟩
      · simp only [nth_zero, nth_succ]
        obtain ⟨X1, hX1⟩ : ∃ Y, X0.alloc (.cells #[] 5) = Y := ⟨_, rfl⟩
        have SX1 := slice_u80 X0
        have bX1 := below_new X0 (.cells #[] 5)
        have oX1 := own_u80 W.heap.size X0 KW.out.size
        rw [hX1] at SX1 bX1 oX1
        have KX1 : Hid (Below W.heap.size W X1) := KW.out.trans (bX1.mono KW.out.size)
        have OAX1 := Lib.hid oX1
        have SX1 := Lib.hid SX1
        clear hX1 bX1 oX1
        go_wp2_with ((with_reducible refine gate_build ?_); refine wpList_build_run 31 0 #[] rfl rfl [] _ rfl SX1.out ?_)
        refine planPost_mk ⟨⟨X1, HBW.out.trans (KX1.out.mono HBW.out.size)⟩, rfl⟩ ?_
        rw [wpPlan_twoT]
        refine ⟨?_, ?_⟩
        · simp only [nth_zero, nth_succ]
          obtain ⟨vX2, X2, hrX2, hoX2, hgX2⟩ := run_append_bytes W.heap.size X1 _ [] OAX1.out (.slice x n c) s.ch (HCH.out.below KX1.out) (by have := HL1.out; simp; omega) KX1.out.size
          have KX2 : Hid (Below W.heap.size W X2) := KX1.out.grown hgX2 KX1.out.size (fun j e => by
            obtain ⟨_, o2⟩ := OAX1.out
            rcases o2 with ⟨h, _⟩ | ⟨g, cap', cur, h, h1, _⟩
            · cases h
            · cases h; cases e; exact h1)
          obtain ⟨⟨xX2, nX2, cX2⟩, rfl, -⟩ := own_slV hoX2
          have OAX2 : Hid (X2.ownsRow W.heap.size 5 1 (.slice xX2 nX2 cX2) s.ch.length (s.ch.map (Value.int .u8))) := hoX2
          have hrX2 := Lib.hid hrX2
          simp only [slV] at hrX2
          clear hoX2 hgX2
          go_wp2_with (at_builtin; refine wpList_append_run (.tmp 17) (.tmp 22) 31 rfl rfl _ _ _ rfl rfl hrX2.out ?_)
          refine planPost_mk ⟨⟨X2, HBW.out.trans (KX2.out.mono HBW.out.size)⟩, rfl⟩ ?_
          rw [wpPlan_one]
          simp only [nth_zero, nth_succ]
          obtain ⟨X3, hX3⟩ : ∃ Y, X2.alloc (.cells #[] 42) = Y := ⟨_, rfl⟩
          have SX3 := slice_prs0 X2
          have bX3 := below_new X2 (.cells #[] 42)
          have oX3 := lit_none W.heap.size X2 KX2.out.size
          rw [hX3] at SX3 bX3 oX3
          have KX3 : Hid (Below W.heap.size W X3) := KX2.out.trans (bX3.mono KX2.out.size)
          have OBX3 := Lib.hid oX3
          have SX3 := Lib.hid SX3
          have OAX3 := Lib.hid (own_belowT OAX2.out bX3)
          clear hX3 bX3 oX3
          go_wp2_with ((with_reducible refine gate_build ?_); refine wpList_build_run 37 0 #[] rfl rfl [] _ rfl SX3.out ?_)
          refine planPost_mk ⟨⟨X3, HBW.out.trans (KX3.out.mono HBW.out.size)⟩, rfl⟩ ?_
          rw [wpPlan_one]
          simp only [nth_zero, nth_succ]
          obtain ⟨vX4, X4, hrX4, hoX4, hgX4, -⟩ := pr_append OBX3.out (HTB.out.below KX3.out) KX3.out.size (by have := HL2.out; simp; omega)
          rw [List.nil_append] at hoX4
          have KX4 : Hid (Below W.heap.size W X4) := KX3.out.grown hgX4 KX3.out.size (fun j e => (OBX3.out.base j e).1)
          obtain ⟨⟨xX4, nX4, cX4⟩, rfl, -⟩ := own_slV hoX4.1
          have OBX4 : Hid (PrO W.heap.size X4 (.slice xX4 nX4 cX4) s.tb) := hoX4
          have hrX4 := Lib.hid hrX4
          simp only [slV] at hrX4
          have OAX4 : Hid (X4.ownsRow W.heap.size 5 1 (slV (xX2, nX2, cX2)) s.ch.length (s.ch.map (Value.int .u8))) := OAX3.out.kept hgX4 (rows_ne OAX3.out OBX3.out.1 (by decide))
          clear hoX4 hgX4
          go_wp2_with (at_builtin; refine wpList_append_run (.tmp 24) (.tmp 29) 37 rfl rfl _ _ _ rfl rfl (hrX4.out _) ?_)
          refine planPost_mk ⟨⟨X4, HBW.out.trans (KX4.out.mono HBW.out.size)⟩, rfl⟩ ?_
          repeat (rw [wpPlan_takes_cons]; simp only [nth_zero, nth_succ]; go_big_quiet_step (fail); refine wpQuiet_nil ?_)
          have HF1 : Hid (SnF w.heap.size X4 (i, (xX2, nX2, cX2), (xX4, nX4, cX4)) s) := ⟨HSI.out.id, own_weak OAX4.out HBW.out.size, OBX4.out.weak HBW.out.size, HSI.out.ok⟩
          have S1 := slice_sn1 X4 (i, (xX2, nX2, cX2), (xX4, nX4, cX4))
          have hz : w.heap.size ≤ X4.heap.size := Nat.le_trans HBW.out.size KX4.out.size
          have OU := HU.out.below KX4.out
          obtain ⟨v3, y3, hA, O3, hg3⟩ := sn_append OU hz HF1.out (by omega)
          obtain ⟨Y2, hY2⟩ : ∃ Y, X4.alloc (.cells (svL (i, (xX2, nX2, cX2), (xX4, nX4, cX4))).toArray 39) = Y := ⟨_, rfl⟩
          have bY2 : Below X4.heap.size X4 Y2 := by rw [← hY2]; exact below_new _ _
          rw [hY2] at S1 hA
          simp only [svV, slV] at S1
          have B2 : Hid (Below w.heap.size w Y2) := HBW.out.trans ((KX4.out.trans (bY2.mono KX4.out.size)).mono HBW.out.size)
          have B3 : Hid (Below w.heap.size w y3) := (HBW.out.trans (KX4.out.mono HBW.out.size)).grown hg3 hz (fun j e => (OU.base j e).1)
          have HO3 : Hid (SnO w.heap.size y3 v3 (l.take (k + 1))) := by show SnO _ _ _ _; rw [HTK.out]; exact O3
          obtain ⟨⟨vx, vn, vc⟩, rfl, -⟩ := HO3.out.isSl
          have HS1 := Lib.hid S1
          have HA := Lib.hid hA
          simp only [slV] at HA
          clear S1 hz OU hA O3 hg3 hY2 bY2
          rw [wpPlan_takes_nil, wpPlan_one]
          simp only [nth_zero, nth_succ]
          go_wp2_with ((with_reducible refine gate_build ?_); refine wpList_build_run 22 1 #[(0, .tmp 31)] rfl rfl [(0, _)] _ rfl HS1.out ?_)
          refine planPost_mk ⟨⟨Y2, B2.out⟩, rfl⟩ ?_
          rw [wpPlan_one]
          simp only [nth_zero, nth_succ]
          go_wp2_with (at_builtin; refine wpList_append_run (.tmp 11) (.tmp 32) 22 rfl rfl _ _ _ rfl rfl (HA.out _) ?_)
          refine planPost_mk ⟨⟨y3, B3.out⟩, rfl⟩ ?_
          rw [wpPlan_leaf]
          simp only [List.drop_succ_cons, List.drop_zero]
          go_wp2_with fail
          exact ⟨⟨k + 1, (vx, vn, vc), HLT.out, by first | simp | (rw [HWr.out]; simp), rfl, HO3, B3⟩, by have := HLT.out; first | (simp [intOf]; omega) | (rw [HWr.out]; simp [intOf]; omega)⟩
        · simp only [nth_zero, nth_succ]
          obtain ⟨X5, hX5⟩ : ∃ Y, X1.alloc (.cells #[] 42) = Y := ⟨_, rfl⟩
          have SX5 := slice_prs0 X1
          have bX5 := below_new X1 (.cells #[] 42)
          have oX5 := lit_none W.heap.size X1 KX1.out.size
          rw [hX5] at SX5 bX5 oX5
          have KX5 : Hid (Below W.heap.size W X5) := KX1.out.trans (bX5.mono KX1.out.size)
          have OBX5 := Lib.hid oX5
          have SX5 := Lib.hid SX5
          have OAX5 := Lib.hid (own_belowT OAX1.out bX5)
          clear hX5 bX5 oX5
          go_wp2_with ((with_reducible refine gate_build ?_); refine wpList_build_run 37 0 #[] rfl rfl [] _ rfl SX5.out ?_)
          refine planPost_mk ⟨⟨X5, HBW.out.trans (KX5.out.mono HBW.out.size)⟩, rfl⟩ ?_
          rw [wpPlan_one]
          simp only [nth_zero, nth_succ]
          obtain ⟨vX6, X6, hrX6, hoX6, hgX6⟩ := run_append_bytes W.heap.size X5 _ [] OAX5.out (.slice x n c) s.ch (HCH.out.below KX5.out) (by have := HL1.out; simp; omega) KX5.out.size
          have KX6 : Hid (Below W.heap.size W X6) := KX5.out.grown hgX6 KX5.out.size (fun j e => by
            obtain ⟨_, o2⟩ := OAX5.out
            rcases o2 with ⟨h, _⟩ | ⟨g, cap', cur, h, h1, _⟩
            · cases h
            · cases h; cases e; exact h1)
          obtain ⟨⟨xX6, nX6, cX6⟩, rfl, -⟩ := own_slV hoX6
          have OAX6 : Hid (X6.ownsRow W.heap.size 5 1 (.slice xX6 nX6 cX6) s.ch.length (s.ch.map (Value.int .u8))) := hoX6
          have hrX6 := Lib.hid hrX6
          simp only [slV] at hrX6
          have OBX6 : Hid (PrO W.heap.size X6 (.slice (some ⟨X1.heap.size, 0, none⟩) 0 0) []) := ⟨OBX5.out.1.kept hgX6 (rows_ne OBX5.out.1 OAX5.out (by decide)), OBX5.out.2⟩
          clear hoX6 hgX6
          go_wp2_with (at_builtin; refine wpList_append_run (.tmp 17) (.tmp 22) 31 rfl rfl _ _ _ rfl rfl hrX6.out ?_)
          refine planPost_mk ⟨⟨X6, HBW.out.trans (KX6.out.mono HBW.out.size)⟩, rfl⟩ ?_
          rw [wpPlan_one]
          simp only [nth_zero, nth_succ]
          obtain ⟨vX7, X7, hrX7, hoX7, hgX7, -⟩ := pr_append OBX6.out (HTB.out.below KX6.out) KX6.out.size (by have := HL2.out; simp; omega)
          rw [List.nil_append] at hoX7
          have KX7 : Hid (Below W.heap.size W X7) := KX6.out.grown hgX7 KX6.out.size (fun j e => (OBX6.out.base j e).1)
          obtain ⟨⟨xX7, nX7, cX7⟩, rfl, -⟩ := own_slV hoX7.1
          have OBX7 : Hid (PrO W.heap.size X7 (.slice xX7 nX7 cX7) s.tb) := hoX7
          have hrX7 := Lib.hid hrX7
          simp only [slV] at hrX7
          have OAX7 : Hid (X7.ownsRow W.heap.size 5 1 (slV (xX6, nX6, cX6)) s.ch.length (s.ch.map (Value.int .u8))) := OAX6.out.kept hgX7 (rows_ne OAX6.out OBX6.out.1 (by decide))
          clear hoX7 hgX7
          go_wp2_with (at_builtin; refine wpList_append_run (.tmp 24) (.tmp 29) 37 rfl rfl _ _ _ rfl rfl (hrX7.out _) ?_)
          refine planPost_mk ⟨⟨X7, HBW.out.trans (KX7.out.mono HBW.out.size)⟩, rfl⟩ ?_
          repeat (rw [wpPlan_takes_cons]; simp only [nth_zero, nth_succ]; go_big_quiet_step (fail); refine wpQuiet_nil ?_)
          have HF1 : Hid (SnF w.heap.size X7 (i, (xX6, nX6, cX6), (xX7, nX7, cX7)) s) := ⟨HSI.out.id, own_weak OAX7.out HBW.out.size, OBX7.out.weak HBW.out.size, HSI.out.ok⟩
          have S1 := slice_sn1 X7 (i, (xX6, nX6, cX6), (xX7, nX7, cX7))
          have hz : w.heap.size ≤ X7.heap.size := Nat.le_trans HBW.out.size KX7.out.size
          have OU := HU.out.below KX7.out
          obtain ⟨v3, y3, hA, O3, hg3⟩ := sn_append OU hz HF1.out (by omega)
          obtain ⟨Y2, hY2⟩ : ∃ Y, X7.alloc (.cells (svL (i, (xX6, nX6, cX6), (xX7, nX7, cX7))).toArray 39) = Y := ⟨_, rfl⟩
          have bY2 : Below X7.heap.size X7 Y2 := by rw [← hY2]; exact below_new _ _
          rw [hY2] at S1 hA
          simp only [svV, slV] at S1
          have B2 : Hid (Below w.heap.size w Y2) := HBW.out.trans ((KX7.out.trans (bY2.mono KX7.out.size)).mono HBW.out.size)
          have B3 : Hid (Below w.heap.size w y3) := (HBW.out.trans (KX7.out.mono HBW.out.size)).grown hg3 hz (fun j e => (OU.base j e).1)
          have HO3 : Hid (SnO w.heap.size y3 v3 (l.take (k + 1))) := by show SnO _ _ _ _; rw [HTK.out]; exact O3
          obtain ⟨⟨vx, vn, vc⟩, rfl, -⟩ := HO3.out.isSl
          have HS1 := Lib.hid S1
          have HA := Lib.hid hA
          simp only [slV] at HA
          clear S1 hz OU hA O3 hg3 hY2 bY2
          rw [wpPlan_takes_nil, wpPlan_one]
          simp only [nth_zero, nth_succ]
          go_wp2_with ((with_reducible refine gate_build ?_); refine wpList_build_run 22 1 #[(0, .tmp 31)] rfl rfl [(0, _)] _ rfl HS1.out ?_)
          refine planPost_mk ⟨⟨Y2, B2.out⟩, rfl⟩ ?_
          rw [wpPlan_one]
          simp only [nth_zero, nth_succ]
          go_wp2_with (at_builtin; refine wpList_append_run (.tmp 11) (.tmp 32) 22 rfl rfl _ _ _ rfl rfl (HA.out _) ?_)
          refine planPost_mk ⟨⟨y3, B3.out⟩, rfl⟩ ?_
          rw [wpPlan_leaf]
          simp only [List.drop_succ_cons, List.drop_zero]
          go_wp2_with fail
          exact ⟨⟨k + 1, (vx, vn, vc), HLT.out, by first | simp | (rw [HWr.out]; simp), rfl, HO3, B3⟩, by have := HLT.out; first | (simp [intOf]; omega) | (rw [HWr.out]; simp [intOf]; omega)⟩
      · simp only [nth_zero, nth_succ]
        obtain ⟨X8, hX8⟩ : ∃ Y, X0.alloc (.cells #[] 42) = Y := ⟨_, rfl⟩
        have SX8 := slice_prs0 X0
        have bX8 := below_new X0 (.cells #[] 42)
        have oX8 := lit_none W.heap.size X0 KW.out.size
        rw [hX8] at SX8 bX8 oX8
        have KX8 : Hid (Below W.heap.size W X8) := KW.out.trans (bX8.mono KW.out.size)
        have OBX8 := Lib.hid oX8
        have SX8 := Lib.hid SX8
        clear hX8 bX8 oX8
        go_wp2_with ((with_reducible refine gate_build ?_); refine wpList_build_run 37 0 #[] rfl rfl [] _ rfl SX8.out ?_)
        refine planPost_mk ⟨⟨X8, HBW.out.trans (KX8.out.mono HBW.out.size)⟩, rfl⟩ ?_
        rw [wpPlan_one]
        simp only [nth_zero, nth_succ]
        obtain ⟨X9, hX9⟩ : ∃ Y, X8.alloc (.cells #[] 5) = Y := ⟨_, rfl⟩
        have SX9 := slice_u80 X8
        have bX9 := below_new X8 (.cells #[] 5)
        have oX9 := own_u80 W.heap.size X8 KX8.out.size
        rw [hX9] at SX9 bX9 oX9
        have KX9 : Hid (Below W.heap.size W X9) := KX8.out.trans (bX9.mono KX8.out.size)
        have OAX9 := Lib.hid oX9
        have SX9 := Lib.hid SX9
        have OBX9 := Lib.hid (OBX8.out.below bX9)
        clear hX9 bX9 oX9
        go_wp2_with ((with_reducible refine gate_build ?_); refine wpList_build_run 31 0 #[] rfl rfl [] _ rfl SX9.out ?_)
        refine planPost_mk ⟨⟨X9, HBW.out.trans (KX9.out.mono HBW.out.size)⟩, rfl⟩ ?_
        rw [wpPlan_one]
        simp only [nth_zero, nth_succ]
        obtain ⟨vX10, X10, hrX10, hoX10, hgX10⟩ := run_append_bytes W.heap.size X9 _ [] OAX9.out (.slice x n c) s.ch (HCH.out.below KX9.out) (by have := HL1.out; simp; omega) KX9.out.size
        have KX10 : Hid (Below W.heap.size W X10) := KX9.out.grown hgX10 KX9.out.size (fun j e => by
          obtain ⟨_, o2⟩ := OAX9.out
          rcases o2 with ⟨h, _⟩ | ⟨g, cap', cur, h, h1, _⟩
          · cases h
          · cases h; cases e; exact h1)
        obtain ⟨⟨xX10, nX10, cX10⟩, rfl, -⟩ := own_slV hoX10
        have OAX10 : Hid (X10.ownsRow W.heap.size 5 1 (.slice xX10 nX10 cX10) s.ch.length (s.ch.map (Value.int .u8))) := hoX10
        have hrX10 := Lib.hid hrX10
        simp only [slV] at hrX10
        have OBX10 : Hid (PrO W.heap.size X10 (.slice (some ⟨X0.heap.size, 0, none⟩) 0 0) []) := ⟨OBX9.out.1.kept hgX10 (rows_ne OBX9.out.1 OAX9.out (by decide)), OBX9.out.2⟩
        clear hoX10 hgX10
        go_wp2_with (at_builtin; refine wpList_append_run (.tmp 17) (.tmp 22) 31 rfl rfl _ _ _ rfl rfl hrX10.out ?_)
        refine planPost_mk ⟨⟨X10, HBW.out.trans (KX10.out.mono HBW.out.size)⟩, rfl⟩ ?_
        rw [wpPlan_one]
        simp only [nth_zero, nth_succ]
        obtain ⟨vX11, X11, hrX11, hoX11, hgX11, -⟩ := pr_append OBX10.out (HTB.out.below KX10.out) KX10.out.size (by have := HL2.out; simp; omega)
        rw [List.nil_append] at hoX11
        have KX11 : Hid (Below W.heap.size W X11) := KX10.out.grown hgX11 KX10.out.size (fun j e => (OBX10.out.base j e).1)
        obtain ⟨⟨xX11, nX11, cX11⟩, rfl, -⟩ := own_slV hoX11.1
        have OBX11 : Hid (PrO W.heap.size X11 (.slice xX11 nX11 cX11) s.tb) := hoX11
        have hrX11 := Lib.hid hrX11
        simp only [slV] at hrX11
        have OAX11 : Hid (X11.ownsRow W.heap.size 5 1 (slV (xX10, nX10, cX10)) s.ch.length (s.ch.map (Value.int .u8))) := OAX10.out.kept hgX11 (rows_ne OAX10.out OBX10.out.1 (by decide))
        clear hoX11 hgX11
        go_wp2_with (at_builtin; refine wpList_append_run (.tmp 24) (.tmp 29) 37 rfl rfl _ _ _ rfl rfl (hrX11.out _) ?_)
        refine planPost_mk ⟨⟨X11, HBW.out.trans (KX11.out.mono HBW.out.size)⟩, rfl⟩ ?_
        repeat (rw [wpPlan_takes_cons]; simp only [nth_zero, nth_succ]; go_big_quiet_step (fail); refine wpQuiet_nil ?_)
        have HF1 : Hid (SnF w.heap.size X11 (i, (xX10, nX10, cX10), (xX11, nX11, cX11)) s) := ⟨HSI.out.id, own_weak OAX11.out HBW.out.size, OBX11.out.weak HBW.out.size, HSI.out.ok⟩
        have S1 := slice_sn1 X11 (i, (xX10, nX10, cX10), (xX11, nX11, cX11))
        have hz : w.heap.size ≤ X11.heap.size := Nat.le_trans HBW.out.size KX11.out.size
        have OU := HU.out.below KX11.out
        obtain ⟨v3, y3, hA, O3, hg3⟩ := sn_append OU hz HF1.out (by omega)
        obtain ⟨Y2, hY2⟩ : ∃ Y, X11.alloc (.cells (svL (i, (xX10, nX10, cX10), (xX11, nX11, cX11))).toArray 39) = Y := ⟨_, rfl⟩
        have bY2 : Below X11.heap.size X11 Y2 := by rw [← hY2]; exact below_new _ _
        rw [hY2] at S1 hA
        simp only [svV, slV] at S1
        have B2 : Hid (Below w.heap.size w Y2) := HBW.out.trans ((KX11.out.trans (bY2.mono KX11.out.size)).mono HBW.out.size)
        have B3 : Hid (Below w.heap.size w y3) := (HBW.out.trans (KX11.out.mono HBW.out.size)).grown hg3 hz (fun j e => (OU.base j e).1)
        have HO3 : Hid (SnO w.heap.size y3 v3 (l.take (k + 1))) := by show SnO _ _ _ _; rw [HTK.out]; exact O3
        obtain ⟨⟨vx, vn, vc⟩, rfl, -⟩ := HO3.out.isSl
        have HS1 := Lib.hid S1
        have HA := Lib.hid hA
        simp only [slV] at HA
        clear S1 hz OU hA O3 hg3 hY2 bY2
        rw [wpPlan_takes_nil, wpPlan_one]
        simp only [nth_zero, nth_succ]
        go_wp2_with ((with_reducible refine gate_build ?_); refine wpList_build_run 22 1 #[(0, .tmp 31)] rfl rfl [(0, _)] _ rfl HS1.out ?_)
        refine planPost_mk ⟨⟨Y2, B2.out⟩, rfl⟩ ?_
        rw [wpPlan_one]
        simp only [nth_zero, nth_succ]
        go_wp2_with (at_builtin; refine wpList_append_run (.tmp 11) (.tmp 32) 22 rfl rfl _ _ _ rfl rfl (HA.out _) ?_)
        refine planPost_mk ⟨⟨y3, B3.out⟩, rfl⟩ ?_
        rw [wpPlan_leaf]
        simp only [List.drop_succ_cons, List.drop_zero]
        go_wp2_with fail
        exact ⟨⟨k + 1, (vx, vn, vc), HLT.out, by first | simp | (rw [HWr.out]; simp), rfl, HO3, B3⟩, by have := HLT.out; first | (simp [intOf]; omega) | (rw [HWr.out]; simp [intOf]; omega)⟩
    · obtain rfl : k = len := by omega
      have HU2 : Hid (SnO w.heap.size W (slV u) l) := by
        have := HU.out
        rw [List.take_of_length_le (by rw [HL.out]; exact Nat.le_refl _)] at this
        exact this
      clear HU
      go_wp2_with fail
      refine bodyPost_ret (results_tmp rfl _ _ _) rfl ?_
      exact ⟨_, rfl, HU2.out, HBW.out⟩
end Go.Proofs.Ytiidfffedoekiaa
