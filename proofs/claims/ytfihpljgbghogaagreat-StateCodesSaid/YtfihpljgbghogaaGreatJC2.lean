/- The ground of the proofs, part 2. -/
import Derived.Test.YtfihpljgbghogaaGreatJC1
import Derived.Lib.Bytes
import Derived.Deep.Cut
import Derived.Deep.CutRange
import Derived.Deep.CutBlock
/- The helper that copies snapshots. -/
namespace Go.Proofs.YtfihpljgbghogaaGreat
open Go.RowKit Go.Shelf
set_option linter.unusedVariables false
set_option linter.unusedSimpArgs false
attribute [-simp] Tryz.isAgg51 Tryz.zeroValue51 Tryz.isAgg54 Tryz.zeroValue54
attribute [-go_sem] loadVar storeVar
attribute [local go_sem] loadVar_openPS storeVar_openPS zero_sn build_sn build_sn2

set_option maxRecDepth 100000 in
set_option maxHeartbeats 16000000 in
theorem keep_copy {w : World} {v : Value} {l : List SN} (h : Snp w v l) (hK : Lens 1000 l) :
    Calls Tryz.prog 21 #[v] w fun e w' => ∃ u, e = .returned u ∧ SnO w.heap.size w' u l ∧ Below w.heap.size w w' := by
  have hmx : Tryz.prog.follows .mixedOrders = true := by kernel_rfl
  obtain ⟨r, h⟩ := h
  have HS := Lib.hid h
  have HKL := Lib.hid hK
  obtain ⟨a, cap, rfl, h1, h2, -⟩ := h
  obtain ⟨len, hle⟩ : ∃ len, l.length = len := ⟨_, rfl⟩
  have HL := Lib.hid hle
  have hlen : len ≤ 1000 := by have := hK.1; omega
  rw [hle] at HS h1 ⊢
  clear h1 h2 hle
  go_enter Tryz.func21, Tryz.ntmps21
  go_wp2_with fail
  go_loopw [3, 4] (fun uv iv W => ∃ (k : Nat) (u : SlV), k ≤ len ∧ iv = .int .i64 (k : Int) ∧ uv = slV u ∧ Hid (SnO w.heap.size W (slV u) (l.take k)) ∧ Hid (Below w.heap.size w W)) (fun _ iv _ => len - (intOf iv).toNat)
  case atStart => exact ⟨0, (none, 0, 0), Nat.zero_le _, rfl, rfl, by show SnO _ _ _ _; rw [List.take_zero]; exact SnO.nil _ _, Below.refl _ _⟩
  case round =>
    obtain ⟨W, hWwr⟩ : ∃ W, W = wr := ⟨_, rfl⟩
    subst hWwr
    obtain ⟨k, u, hk, rfl, rfl, HU, HBW⟩ := hrel
    by_cases hlt : k < len
    · obtain ⟨s, hs⟩ : ∃ s, l[k]? = some s := ⟨_, List.getElem?_eq_getElem (by rw [HL.out]; exact hlt)⟩
      have hsm := List.mem_of_getElem? hs
      have hls := HKL.out.2 s hsm
      have HL1 : Hid (s.ch.length ≤ 100000) := by show _ ≤ _; omega
      have HL2 : Hid (s.tb.length ≤ 100000) := by show _ ≤ _; omega
      have HTK := Lib.hid (take_at hs)
      obtain ⟨b, off, q, rfl, hb, hrq, hq0, -, -, -⟩ := HS.out.at hs
      obtain ⟨i, ⟨x, n, c⟩, ⟨y, m, d⟩⟩ := q
      have HSI := Lib.hid hq0
      have HCH : Hid (Sl .u8 W (.slice x n c) s.ch) := hq0.ch.below HBW.out
      have HTB : Hid (Prt W (.slice y m d) s.tb) := hq0.tb.below HBW.out
      have cc : ∀ z : Ext w, z.1.cell? ⟨b, off + k * 3, none⟩ = some (.int .i64 i) ∧ z.1.cell? ⟨b, off + k * 3 + 1, none⟩ = some (.slice x n c) ∧ z.1.cell? ⟨b, off + k * 3 + 2, none⟩ = some (.slice y m d) := fun z => by
        obtain ⟨b', off', q', e, _, hrq', _, e0, e1, e2⟩ := (HS.out.below z.2).at hs
        rw [hrq] at hrq'
        cases hrq'
        simp only [Option.some.injEq, Addr.mk.injEq, and_true] at e
        obtain ⟨rfl, rfl⟩ := e
        exact ⟨e0, e1, e2⟩
      have c0 : ∀ z : Ext w, z.1.cell? ⟨b, off + k * 3, none⟩ = some (.int .i64 i) := fun z => (cc z).1
      have c1 : ∀ z : Ext w, z.1.cell? ⟨b, off + k * 3 + 1, none⟩ = some (.slice x n c) := fun z => (cc z).2.1
      have c2 : ∀ z : Ext w, z.1.cell? ⟨b, off + k * 3 + 2, none⟩ = some (.slice y m d) := fun z => (cc z).2.2
      have g1 : (k : Int) < (len : Int) := by omega
      have HWr : Hid (wrap64 ((k : Int) + 1) = (k : Int) + 1) := IntWalk.wrap64_in _ (by omega)
      have HLT := Lib.hid hlt
      have hlk : (l.take k).length ≤ 1000 := by rw [List.length_take]; omega
      have KW : Hid (Below W.heap.size W W.drew) := (Below.refl _ W).drew
      have HBD : Hid (Below w.heap.size w W.drew) := HBW.out.drew
      clear hs hsm hls hb hrq hq0 cc hlt
      simp only [slV]
      go_wp2_with fail
      refine region_plan (fun x => ∃ y : Ext w, x = y.1) 23 (.takes [0, 1, 2, 3, 4, 5, 7, 8, 9, 10, 11, 14, 15, 16, 17, 18] (.two 6 13 (.two 12 13 (.one 13 (.one 19 (.takes [20] (.one 21 (.one 22 .leaf))))) (.one 12 (.one 19 (.takes [20] (.one 21 (.one 22 .leaf)))))) (.one 6 (.one 12 (.one 19 (.takes [20] (.one 21 (.one 22 .leaf)))))))) hmx (by kernel_rfl) (by intro c x v a w h; cases x <;> exact h) ⟨⟨W.drew, HBD.out⟩, rfl⟩ ?_
      repeat (rw [wpPlan_takes_cons]; simp only [nth_zero, nth_succ]; go_big_quiet_step (fail); refine wpQuiet_nil ?_)
      rw [wpPlan_takes_nil]
      clear c0 c1 c2 HBD
      obtain ⟨X0, hX0⟩ : ∃ X, W.drew = X := ⟨_, rfl⟩
      rw [hX0] at KW
      try rw [hX0]
      clear hX0
      rw [wpPlan_twoT]
      refine ⟨?_, ?_⟩
      · simp only [nth_zero, nth_succ]
        obtain ⟨X1, hX1⟩ : ∃ Y, X0.alloc (.cells #[] 5) = Y := ⟨_, rfl⟩
        have SX1 := slice_u80 X0
        have bX1 := below_new X0 (.cells #[] 5)
        have oX1 := own_u80 W.heap.size X0 KW.out.size
        rw [hX1] at SX1 bX1 oX1
        have KX1 : Hid (Below W.heap.size W X1) := KW.out.trans (bX1.mono KW.out.size)
        have OAX1 := Lib.hid oX1
        have SX1 := Lib.hid SX1
        clear hX1 bX1 oX1
        go_wp2_with ((with_reducible refine gate_build ?_); refine wpList_build_run 31 0 #[] rfl rfl [] _ rfl SX1.out ?_)
        refine planPost_mk ⟨⟨X1, HBW.out.trans (KX1.out.mono HBW.out.size)⟩, rfl⟩ ?_
        rw [wpPlan_twoT]
        refine ⟨?_, ?_⟩
        · simp only [nth_zero, nth_succ]
          obtain ⟨vX2, X2, hrX2, hoX2, hgX2⟩ := run_append_bytes W.heap.size X1 _ [] OAX1.out (.slice x n c) s.ch (HCH.out.below KX1.out) (by have := HL1.out; simp; omega) KX1.out.size
          have KX2 : Hid (Below W.heap.size W X2) := KX1.out.grown hgX2 KX1.out.size (fun j e => by
            obtain ⟨_, o2⟩ := OAX1.out
            rcases o2 with ⟨h, _⟩ | ⟨g, cap', cur, h, h1, _⟩
            · cases h
            · cases h; cases e; exact h1)
          obtain ⟨⟨xX2, nX2, cX2⟩, rfl, -⟩ := own_slV hoX2
          have OAX2 : Hid (X2.ownsRow W.heap.size 5 1 (.slice xX2 nX2 cX2) s.ch.length (s.ch.map (Value.int .u8))) := hoX2
          have hrX2 := Lib.hid hrX2
          simp only [slV] at hrX2
          clear hoX2 hgX2
          go_wp2_with (at_builtin; refine wpList_append_run (.tmp 17) (.tmp 22) 31 rfl rfl _ _ _ rfl rfl hrX2.out ?_)
          refine planPost_mk ⟨⟨X2, HBW.out.trans (KX2.out.mono HBW.out.size)⟩, rfl⟩ ?_
          rw [wpPlan_one]
          simp only [nth_zero, nth_succ]
          obtain ⟨X3, hX3⟩ : ∃ Y, X2.alloc (.cells #[] 54) = Y := ⟨_, rfl⟩
          have SX3 := slice_prs0 X2
          have bX3 := below_new X2 (.cells #[] 54)
          have oX3 := lit_none W.heap.size X2 KX2.out.size
          rw [hX3] at SX3 bX3 oX3
          have KX3 : Hid (Below W.heap.size W X3) := KX2.out.trans (bX3.mono KX2.out.size)
          have OBX3 := Lib.hid oX3
          have SX3 := Lib.hid SX3
          have OAX3 := Lib.hid (own_belowT OAX2.out bX3)
          clear hX3 bX3 oX3
          go_wp2_with ((with_reducible refine gate_build ?_); refine wpList_build_run 26 0 #[] rfl rfl [] _ rfl SX3.out ?_)
          refine planPost_mk ⟨⟨X3, HBW.out.trans (KX3.out.mono HBW.out.size)⟩, rfl⟩ ?_
          rw [wpPlan_one]
          simp only [nth_zero, nth_succ]
          obtain ⟨vX4, X4, hrX4, hoX4, hgX4, -⟩ := pr_append OBX3.out (HTB.out.below KX3.out) KX3.out.size (by have := HL2.out; simp; omega)
          rw [List.nil_append] at hoX4
          have KX4 : Hid (Below W.heap.size W X4) := KX3.out.grown hgX4 KX3.out.size (fun j e => (OBX3.out.base j e).1)
          obtain ⟨⟨xX4, nX4, cX4⟩, rfl, -⟩ := own_slV hoX4.1
          have OBX4 : Hid (PrO W.heap.size X4 (.slice xX4 nX4 cX4) s.tb) := hoX4
          have hrX4 := Lib.hid hrX4
          simp only [slV] at hrX4
          have OAX4 : Hid (X4.ownsRow W.heap.size 5 1 (slV (xX2, nX2, cX2)) s.ch.length (s.ch.map (Value.int .u8))) := OAX3.out.kept hgX4 (rows_ne OAX3.out OBX3.out.1 (by decide))
          clear hoX4 hgX4
          go_wp2_with (at_builtin; refine wpList_append_run (.tmp 24) (.tmp 29) 26 rfl rfl _ _ _ rfl rfl (hrX4.out _) ?_)
          refine planPost_mk ⟨⟨X4, HBW.out.trans (KX4.out.mono HBW.out.size)⟩, rfl⟩ ?_
          repeat (rw [wpPlan_takes_cons]; simp only [nth_zero, nth_succ]; go_big_quiet_step (fail); refine wpQuiet_nil ?_)
          have HF1 : Hid (SnF w.heap.size X4 (i, (xX2, nX2, cX2), (xX4, nX4, cX4)) s) := ⟨HSI.out.id, own_weak OAX4.out HBW.out.size, OBX4.out.weak HBW.out.size, HSI.out.ok⟩
          have S1 := slice_sn1 X4 (i, (xX2, nX2, cX2), (xX4, nX4, cX4))
          have hz : w.heap.size ≤ X4.heap.size := Nat.le_trans HBW.out.size KX4.out.size
          have OU := HU.out.below KX4.out
          obtain ⟨v3, y3, hA, O3, hg3⟩ := sn_append OU hz HF1.out (by omega)
          obtain ⟨Y2, hY2⟩ : ∃ Y, X4.alloc (.cells (svL (i, (xX2, nX2, cX2), (xX4, nX4, cX4))).toArray 51) = Y := ⟨_, rfl⟩
          have bY2 : Below X4.heap.size X4 Y2 := by rw [← hY2]; exact below_new _ _
          rw [hY2] at S1 hA
          simp only [svV, slV] at S1
          have B2 : Hid (Below w.heap.size w Y2) := HBW.out.trans ((KX4.out.trans (bY2.mono KX4.out.size)).mono HBW.out.size)
          have B3 : Hid (Below w.heap.size w y3) := (HBW.out.trans (KX4.out.mono HBW.out.size)).grown hg3 hz (fun j e => (OU.base j e).1)
          have HO3 : Hid (SnO w.heap.size y3 v3 (l.take (k + 1))) := by show SnO _ _ _ _; rw [HTK.out]; exact O3
          obtain ⟨⟨vx, vn, vc⟩, rfl, -⟩ := HO3.out.isSl
          have HS1 := Lib.hid S1
          have HA := Lib.hid hA
          simp only [slV] at HA
          clear S1 hz OU hA O3 hg3 hY2 bY2
          rw [wpPlan_takes_nil, wpPlan_one]
          simp only [nth_zero, nth_succ]
          go_wp2_with ((with_reducible refine gate_build ?_); refine wpList_build_run 25 1 #[(0, .tmp 31)] rfl rfl [(0, _)] _ rfl HS1.out ?_)
          refine planPost_mk ⟨⟨Y2, B2.out⟩, rfl⟩ ?_
          rw [wpPlan_one]
          simp only [nth_zero, nth_succ]
          go_wp2_with (at_builtin; refine wpList_append_run (.tmp 11) (.tmp 32) 25 rfl rfl _ _ _ rfl rfl (HA.out _) ?_)
          refine planPost_mk ⟨⟨y3, B3.out⟩, rfl⟩ ?_
          rw [wpPlan_leaf]
          simp only [List.drop_succ_cons, List.drop_zero]
          go_wp2_with fail
          exact ⟨⟨k + 1, (vx, vn, vc), HLT.out, by first | simp | (rw [HWr.out]; simp), rfl, HO3, B3⟩, by have := HLT.out; first | (simp [intOf]; omega) | (rw [HWr.out]; simp [intOf]; omega)⟩
        · simp only [nth_zero, nth_succ]
          obtain ⟨X5, hX5⟩ : ∃ Y, X1.alloc (.cells #[] 54) = Y := ⟨_, rfl⟩
          have SX5 := slice_prs0 X1
          have bX5 := below_new X1 (.cells #[] 54)
          have oX5 := lit_none W.heap.size X1 KX1.out.size
          rw [hX5] at SX5 bX5 oX5
          have KX5 : Hid (Below W.heap.size W X5) := KX1.out.trans (bX5.mono KX1.out.size)
          have OBX5 := Lib.hid oX5
          have SX5 := Lib.hid SX5
          have OAX5 := Lib.hid (own_belowT OAX1.out bX5)
          clear hX5 bX5 oX5
          go_wp2_with ((with_reducible refine gate_build ?_); refine wpList_build_run 26 0 #[] rfl rfl [] _ rfl SX5.out ?_)
          refine planPost_mk ⟨⟨X5, HBW.out.trans (KX5.out.mono HBW.out.size)⟩, rfl⟩ ?_
          rw [wpPlan_one]
          simp only [nth_zero, nth_succ]
          obtain ⟨vX6, X6, hrX6, hoX6, hgX6⟩ := run_append_bytes W.heap.size X5 _ [] OAX5.out (.slice x n c) s.ch (HCH.out.below KX5.out) (by have := HL1.out; simp; omega) KX5.out.size
          have KX6 : Hid (Below W.heap.size W X6) := KX5.out.grown hgX6 KX5.out.size (fun j e => by
            obtain ⟨_, o2⟩ := OAX5.out
            rcases o2 with ⟨h, _⟩ | ⟨g, cap', cur, h, h1, _⟩
            · cases h
            · cases h; cases e; exact h1)
          obtain ⟨⟨xX6, nX6, cX6⟩, rfl, -⟩ := own_slV hoX6
          have OAX6 : Hid (X6.ownsRow W.heap.size 5 1 (.slice xX6 nX6 cX6) s.ch.length (s.ch.map (Value.int .u8))) := hoX6
          have hrX6 := Lib.hid hrX6
          simp only [slV] at hrX6
          have OBX6 : Hid (PrO W.heap.size X6 (.slice (some ⟨X1.heap.size, 0, none⟩) 0 0) []) := ⟨OBX5.out.1.kept hgX6 (rows_ne OBX5.out.1 OAX5.out (by decide)), OBX5.out.2⟩
          clear hoX6 hgX6
          go_wp2_with (at_builtin; refine wpList_append_run (.tmp 17) (.tmp 22) 31 rfl rfl _ _ _ rfl rfl hrX6.out ?_)
          refine planPost_mk ⟨⟨X6, HBW.out.trans (KX6.out.mono HBW.out.size)⟩, rfl⟩ ?_
          rw [wpPlan_one]
          simp only [nth_zero, nth_succ]
          obtain ⟨vX7, X7, hrX7, hoX7, hgX7, -⟩ := pr_append OBX6.out (HTB.out.below KX6.out) KX6.out.size (by have := HL2.out; simp; omega)
          rw [List.nil_append] at hoX7
          have KX7 : Hid (Below W.heap.size W X7) := KX6.out.grown hgX7 KX6.out.size (fun j e => (OBX6.out.base j e).1)
          obtain ⟨⟨xX7, nX7, cX7⟩, rfl, -⟩ := own_slV hoX7.1
          have OBX7 : Hid (PrO W.heap.size X7 (.slice xX7 nX7 cX7) s.tb) := hoX7
          have hrX7 := Lib.hid hrX7
          simp only [slV] at hrX7
          have OAX7 : Hid (X7.ownsRow W.heap.size 5 1 (slV (xX6, nX6, cX6)) s.ch.length (s.ch.map (Value.int .u8))) := OAX6.out.kept hgX7 (rows_ne OAX6.out OBX6.out.1 (by decide))
          clear hoX7 hgX7
          go_wp2_with (at_builtin; refine wpList_append_run (.tmp 24) (.tmp 29) 26 rfl rfl _ _ _ rfl rfl (hrX7.out _) ?_)
          refine planPost_mk ⟨⟨X7, HBW.out.trans (KX7.out.mono HBW.out.size)⟩, rfl⟩ ?_
          repeat (rw [wpPlan_takes_cons]; simp only [nth_zero, nth_succ]; go_big_quiet_step (fail); refine wpQuiet_nil ?_)
          have HF1 : Hid (SnF w.heap.size X7 (i, (xX6, nX6, cX6), (xX7, nX7, cX7)) s) := ⟨HSI.out.id, own_weak OAX7.out HBW.out.size, OBX7.out.weak HBW.out.size, HSI.out.ok⟩
          have S1 := slice_sn1 X7 (i, (xX6, nX6, cX6), (xX7, nX7, cX7))
          have hz : w.heap.size ≤ X7.heap.size := Nat.le_trans HBW.out.size KX7.out.size
          have OU := HU.out.below KX7.out
          obtain ⟨v3, y3, hA, O3, hg3⟩ := sn_append OU hz HF1.out (by omega)
          obtain ⟨Y2, hY2⟩ : ∃ Y, X7.alloc (.cells (svL (i, (xX6, nX6, cX6), (xX7, nX7, cX7))).toArray 51) = Y := ⟨_, rfl⟩
          have bY2 : Below X7.heap.size X7 Y2 := by rw [← hY2]; exact below_new _ _
          rw [hY2] at S1 hA
          simp only [svV, slV] at S1
          have B2 : Hid (Below w.heap.size w Y2) := HBW.out.trans ((KX7.out.trans (bY2.mono KX7.out.size)).mono HBW.out.size)
          have B3 : Hid (Below w.heap.size w y3) := (HBW.out.trans (KX7.out.mono HBW.out.size)).grown hg3 hz (fun j e => (OU.base j e).1)
          have HO3 : Hid (SnO w.heap.size y3 v3 (l.take (k + 1))) := by show SnO _ _ _ _; rw [HTK.out]; exact O3
          obtain ⟨⟨vx, vn, vc⟩, rfl, -⟩ := HO3.out.isSl
          have HS1 := Lib.hid S1
          have HA := Lib.hid hA
          simp only [slV] at HA
          clear S1 hz OU hA O3 hg3 hY2 bY2
          rw [wpPlan_takes_nil, wpPlan_one]
          simp only [nth_zero, nth_succ]
          go_wp2_with ((with_reducible refine gate_build ?_); refine wpList_build_run 25 1 #[(0, .tmp 31)] rfl rfl [(0, _)] _ rfl HS1.out ?_)
          refine planPost_mk ⟨⟨Y2, B2.out⟩, rfl⟩ ?_
          rw [wpPlan_one]
          simp only [nth_zero, nth_succ]
          go_wp2_with (at_builtin; refine wpList_append_run (.tmp 11) (.tmp 32) 25 rfl rfl _ _ _ rfl rfl (HA.out _) ?_)
          refine planPost_mk ⟨⟨y3, B3.out⟩, rfl⟩ ?_
          rw [wpPlan_leaf]
          simp only [List.drop_succ_cons, List.drop_zero]
          go_wp2_with fail
          exact ⟨⟨k + 1, (vx, vn, vc), HLT.out, by first | simp | (rw [HWr.out]; simp), rfl, HO3, B3⟩, by have := HLT.out; first | (simp [intOf]; omega) | (rw [HWr.out]; simp [intOf]; omega)⟩
      · simp only [nth_zero, nth_succ]
        obtain ⟨X8, hX8⟩ : ∃ Y, X0.alloc (.cells #[] 54) = Y := ⟨_, rfl⟩
        have SX8 := slice_prs0 X0
        have bX8 := below_new X0 (.cells #[] 54)
        have oX8 := lit_none W.heap.size X0 KW.out.size
        rw [hX8] at SX8 bX8 oX8
        have KX8 : Hid (Below W.heap.size W X8) := KW.out.trans (bX8.mono KW.out.size)
        have OBX8 := Lib.hid oX8
        have SX8 := Lib.hid SX8
        clear hX8 bX8 oX8
        go_wp2_with ((with_reducible refine gate_build ?_); refine wpList_build_run 26 0 #[] rfl rfl [] _ rfl SX8.out ?_)
        refine planPost_mk ⟨⟨X8, HBW.out.trans (KX8.out.mono HBW.out.size)⟩, rfl⟩ ?_
        rw [wpPlan_one]
        simp only [nth_zero, nth_succ]
        obtain ⟨X9, hX9⟩ : ∃ Y, X8.alloc (.cells #[] 5) = Y := ⟨_, rfl⟩
        have SX9 := slice_u80 X8
        have bX9 := below_new X8 (.cells #[] 5)
        have oX9 := own_u80 W.heap.size X8 KX8.out.size
        rw [hX9] at SX9 bX9 oX9
        have KX9 : Hid (Below W.heap.size W X9) := KX8.out.trans (bX9.mono KX8.out.size)
        have OAX9 := Lib.hid oX9
        have SX9 := Lib.hid SX9
        have OBX9 := Lib.hid (OBX8.out.below bX9)
        clear hX9 bX9 oX9
        go_wp2_with ((with_reducible refine gate_build ?_); refine wpList_build_run 31 0 #[] rfl rfl [] _ rfl SX9.out ?_)
        refine planPost_mk ⟨⟨X9, HBW.out.trans (KX9.out.mono HBW.out.size)⟩, rfl⟩ ?_
        rw [wpPlan_one]
        simp only [nth_zero, nth_succ]
        obtain ⟨vX10, X10, hrX10, hoX10, hgX10⟩ := run_append_bytes W.heap.size X9 _ [] OAX9.out (.slice x n c) s.ch (HCH.out.below KX9.out) (by have := HL1.out; simp; omega) KX9.out.size
        have KX10 : Hid (Below W.heap.size W X10) := KX9.out.grown hgX10 KX9.out.size (fun j e => by
          obtain ⟨_, o2⟩ := OAX9.out
          rcases o2 with ⟨h, _⟩ | ⟨g, cap', cur, h, h1, _⟩
          · cases h
          · cases h; cases e; exact h1)
        obtain ⟨⟨xX10, nX10, cX10⟩, rfl, -⟩ := own_slV hoX10
        have OAX10 : Hid (X10.ownsRow W.heap.size 5 1 (.slice xX10 nX10 cX10) s.ch.length (s.ch.map (Value.int .u8))) := hoX10
        have hrX10 := Lib.hid hrX10
        simp only [slV] at hrX10
        have OBX10 : Hid (PrO W.heap.size X10 (.slice (some ⟨X0.heap.size, 0, none⟩) 0 0) []) := ⟨OBX9.out.1.kept hgX10 (rows_ne OBX9.out.1 OAX9.out (by decide)), OBX9.out.2⟩
        clear hoX10 hgX10
        go_wp2_with (at_builtin; refine wpList_append_run (.tmp 17) (.tmp 22) 31 rfl rfl _ _ _ rfl rfl hrX10.out ?_)
        refine planPost_mk ⟨⟨X10, HBW.out.trans (KX10.out.mono HBW.out.size)⟩, rfl⟩ ?_
        rw [wpPlan_one]
        simp only [nth_zero, nth_succ]
        obtain ⟨vX11, X11, hrX11, hoX11, hgX11, -⟩ := pr_append OBX10.out (HTB.out.below KX10.out) KX10.out.size (by have := HL2.out; simp; omega)
        rw [List.nil_append] at hoX11
        have KX11 : Hid (Below W.heap.size W X11) := KX10.out.grown hgX11 KX10.out.size (fun j e => (OBX10.out.base j e).1)
        obtain ⟨⟨xX11, nX11, cX11⟩, rfl, -⟩ := own_slV hoX11.1
        have OBX11 : Hid (PrO W.heap.size X11 (.slice xX11 nX11 cX11) s.tb) := hoX11
        have hrX11 := Lib.hid hrX11
        simp only [slV] at hrX11
        have OAX11 : Hid (X11.ownsRow W.heap.size 5 1 (slV (xX10, nX10, cX10)) s.ch.length (s.ch.map (Value.int .u8))) := OAX10.out.kept hgX11 (rows_ne OAX10.out OBX10.out.1 (by decide))
        clear hoX11 hgX11
        go_wp2_with (at_builtin; refine wpList_append_run (.tmp 24) (.tmp 29) 26 rfl rfl _ _ _ rfl rfl (hrX11.out _) ?_)
        refine planPost_mk ⟨⟨X11, HBW.out.trans (KX11.out.mono HBW.out.size)⟩, rfl⟩ ?_
        repeat (rw [wpPlan_takes_cons]; simp only [nth_zero, nth_succ]; go_big_quiet_step (fail); refine wpQuiet_nil ?_)
        have HF1 : Hid (SnF w.heap.size X11 (i, (xX10, nX10, cX10), (xX11, nX11, cX11)) s) := ⟨HSI.out.id, own_weak OAX11.out HBW.out.size, OBX11.out.weak HBW.out.size, HSI.out.ok⟩
        have S1 := slice_sn1 X11 (i, (xX10, nX10, cX10), (xX11, nX11, cX11))
        have hz : w.heap.size ≤ X11.heap.size := Nat.le_trans HBW.out.size KX11.out.size
        have OU := HU.out.below KX11.out
        obtain ⟨v3, y3, hA, O3, hg3⟩ := sn_append OU hz HF1.out (by omega)
        obtain ⟨Y2, hY2⟩ : ∃ Y, X11.alloc (.cells (svL (i, (xX10, nX10, cX10), (xX11, nX11, cX11))).toArray 51) = Y := ⟨_, rfl⟩
        have bY2 : Below X11.heap.size X11 Y2 := by rw [← hY2]; exact below_new _ _
        rw [hY2] at S1 hA
        simp only [svV, slV] at S1
        have B2 : Hid (Below w.heap.size w Y2) := HBW.out.trans ((KX11.out.trans (bY2.mono KX11.out.size)).mono HBW.out.size)
        have B3 : Hid (Below w.heap.size w y3) := (HBW.out.trans (KX11.out.mono HBW.out.size)).grown hg3 hz (fun j e => (OU.base j e).1)
        have HO3 : Hid (SnO w.heap.size y3 v3 (l.take (k + 1))) := by show SnO _ _ _ _; rw [HTK.out]; exact O3
        obtain ⟨⟨vx, vn, vc⟩, rfl, -⟩ := HO3.out.isSl
        have HS1 := Lib.hid S1
        have HA := Lib.hid hA
        simp only [slV] at HA
        clear S1 hz OU hA O3 hg3 hY2 bY2
        rw [wpPlan_takes_nil, wpPlan_one]
        simp only [nth_zero, nth_succ]
        go_wp2_with ((with_reducible refine gate_build ?_); refine wpList_build_run 25 1 #[(0, .tmp 31)] rfl rfl [(0, _)] _ rfl HS1.out ?_)
        refine planPost_mk ⟨⟨Y2, B2.out⟩, rfl⟩ ?_
        rw [wpPlan_one]
        simp only [nth_zero, nth_succ]
        go_wp2_with (at_builtin; refine wpList_append_run (.tmp 11) (.tmp 32) 25 rfl rfl _ _ _ rfl rfl (HA.out _) ?_)
        refine planPost_mk ⟨⟨y3, B3.out⟩, rfl⟩ ?_
        rw [wpPlan_leaf]
        simp only [List.drop_succ_cons, List.drop_zero]
        go_wp2_with fail
        exact ⟨⟨k + 1, (vx, vn, vc), HLT.out, by first | simp | (rw [HWr.out]; simp), rfl, HO3, B3⟩, by have := HLT.out; first | (simp [intOf]; omega) | (rw [HWr.out]; simp [intOf]; omega)⟩
    · obtain rfl : k = len := by omega
      have HU2 : Hid (SnO w.heap.size W (slV u) l) := by
        have := HU.out
        rw [List.take_of_length_le (by rw [HL.out]; exact Nat.le_refl _)] at this
        exact this
      clear HU
      go_wp2_with fail
      refine bodyPost_ret (results_tmp rfl _ _ _) rfl ?_
      exact ⟨_, rfl, HU2.out, HBW.out⟩
end Go.Proofs.YtfihpljgbghogaaGreat

/- The document's Merge. -/
namespace Go.Proofs.YtfihpljgbghogaaGreat
open Go.RowKit
set_option linter.unusedVariables false
set_option linter.unusedSimpArgs false
attribute [-simp] Tryz.isAgg54 Tryz.zeroValue54
attribute [-go_sem] loadVar storeVar

theorem InO.sl {N : Nat} {x : World} {v : Value} {zs : List Int} (h : InO N x v zs) : Sl .i64 x v zs := sl_own h
attribute [local go_sem] zero_prs build_prs0 build_prs
end Go.Proofs.YtfihpljgbghogaaGreat

/- The helper that holds snapshots against each other; the document's Drop. -/
namespace Go.Proofs.YtfihpljgbghogaaGreat
open Go.RowKit Go.Shelf
set_option linter.unusedVariables false
set_option linter.unusedSimpArgs false
attribute [-simp] Tryz.isAgg51 Tryz.zeroValue51 Tryz.isAgg54 Tryz.zeroValue54
attribute [-go_sem] loadVar storeVar
attribute [local go_sem] loadVar_openPS storeVar_openPS zero_sn build_sn build_sn2

end Go.Proofs.YtfihpljgbghogaaGreat

/- The document's functions of chain: Index, Holder, Changed, Good; what the laws about them share. -/
namespace Go.Proofs.YtfihpljgbghogaaGreat
section
set_option linter.unusedVariables false

/-- The blocks rise. -/
def Asc (l : List (Int × Int)) : Prop := l.Pairwise fun p q => p.1 < q.1
/-- No At twice. -/
def AtOne (l : List (Int × Int)) : Prop := ∀ p ∈ l, ∀ q ∈ l, p.2 = q.2 → p = q
def InAll (l : List (Int × Int)) (blocks area : Int) : Prop := ∀ p ∈ l, 0 ≤ p.1 ∧ p.1 < blocks ∧ 0 ≤ p.2 ∧ p.2 < area

theorem tRise_iff (bl ar : Int) : ∀ (l : List (Int × Int)) (last : Int), tRise bl ar last l = true ↔ (∀ p ∈ l, last < p.1 ∧ p.1 < bl ∧ 0 ≤ p.2 ∧ p.2 < ar) ∧ Asc l
  | [], last => by simp [tRise, Asc]
  | p :: l, last => by
    unfold tRise
    rw [Bool.and_eq_true, tRise_iff bl ar l p.1]
    simp only [Bool.and_eq_true, decide_eq_true_eq, Asc, List.pairwise_cons, List.mem_cons, forall_eq_or_imp]
    constructor
    · rintro ⟨⟨⟨⟨h1, h2⟩, h3⟩, h4⟩, h5, h6⟩
      exact ⟨⟨⟨h1, h2, h3, h4⟩, fun q hq => ⟨by have := (h5 q hq).1; omega, (h5 q hq).2⟩⟩, fun q hq => (h5 q hq).1, h6⟩
    · rintro ⟨⟨⟨h1, h2, h3, h4⟩, h5⟩, h6, h7⟩
      exact ⟨⟨⟨⟨h1, h2⟩, h3⟩, h4⟩, fun q hq => ⟨h6 q hq, (h5 q hq).2⟩, h7⟩
theorem Asc.nodup {l : List (Int × Int)} (h : Asc l) : l.Nodup := h.imp fun h e => by subst e; omega
theorem nodup_at {l : List (Int × Int)} (hn : l.Nodup) : (l.map (·.2)).Nodup ↔ AtOne l := by
  constructor
  · intro h p hp q hq e
    obtain ⟨i, hi⟩ := List.getElem?_of_mem hp
    obtain ⟨j, hj⟩ := List.getElem?_of_mem hq
    obtain ⟨hil, hie⟩ := List.getElem?_eq_some_iff.1 hi
    obtain ⟨hjl, hje⟩ := List.getElem?_eq_some_iff.1 hj
    have hw := List.pairwise_iff_getElem.1 h
    rcases Nat.lt_trichotomy i j with hij | hij | hij
    · exact absurd (by rw [List.getElem_map, List.getElem_map, hie, hje]; exact e) (hw i j (by simpa using hil) (by simpa using hjl) hij)
    · subst hij; rw [hi] at hj; cases hj; rfl
    · exact absurd (by rw [List.getElem_map, List.getElem_map, hie, hje]; exact e.symm) (hw j i (by simpa using hjl) (by simpa using hil) hij)
  · intro h
    refine List.pairwise_map.2 (hn.imp_of_mem fun ha hb hne e => hne (h _ ha _ hb e))
theorem tGood_iff (l : List (Int × Int)) (bl ar : Int) : tGood l bl ar = true ↔ InAll l bl ar ∧ Asc l ∧ AtOne l := by
  unfold tGood
  rw [Bool.and_eq_true, decide_eq_true_eq, tRise_iff]
  constructor
  · rintro ⟨⟨h1, h2⟩, h3⟩
    exact ⟨fun p hp => by have := h1 p hp; omega, h2, (nodup_at h2.nodup).1 h3⟩
  · rintro ⟨h1, h2, h3⟩
    exact ⟨⟨fun p hp => by have := h1 p hp; omega, h2⟩, (nodup_at h2.nodup).2 h3⟩
end
section
open Go.RowKit Go.Shelf

def rS (bl ar last : Int) (s : SN) : Bool := decide (0 < s.id) && (decide (s.id ≤ 1000000) && (decide (last < s.id) && (goodB s.ch bl && tGood s.tb bl ar)))
def rT (ats : List Int) (s : SN) : Bool := s.tb.all fun p => hasB s.ch p.1 && !(ats.contains p.2)
def rF (s : SN) : Bool := (allB s.ch).all fun c => (tFind s.tb (c : Int)).isSome
def rGo (bl ar : Int) : List Int → Int → List SN → Bool
  | _, _, [] => true
  | ats, last, s :: l => rS bl ar last s && (rT ats s && ((decide (l.length = 0) || rF s) && rGo bl ar (ats ++ s.tb.map (·.2)) s.id l))
theorem rGo_cons (bl ar last : Int) (ats : List Int) (s : SN) (l : List SN) : rGo bl ar ats last (s :: l) = (rS bl ar last s && (rT ats s && ((decide (l.length = 0) || rF s) && rGo bl ar (ats ++ s.tb.map (·.2)) s.id l))) := rfl
theorem rGo_at {l : List SN} {k : Nat} {s : SN} (h : l[k]? = some s) (bl ar last : Int) (ats : List Int) : rGo bl ar ats last (l.drop k) = (rS bl ar last s && (rT ats s && ((decide (l.length ≤ k + 1) || rF s) && rGo bl ar (ats ++ s.tb.map (·.2)) s.id (l.drop (k + 1))))) := by
  rw [drop_at h]
  rw [rGo_cons, List.length_drop, show decide (l.length - (k + 1) = 0) = decide (l.length ≤ k + 1) from by congr 1; simp; omega]
theorem rGo_end {l : List SN} {k : Nat} (h : l.length ≤ k) (bl ar last : Int) (ats : List Int) : rGo bl ar ats last (l.drop k) = true := by
  rw [List.drop_of_length_le h]; rfl

theorem nodup_sub : ∀ (a b : List Nat), a.Nodup → (∀ x ∈ a, x ∈ b) → a.length ≤ b.length
  | [], _, _, _ => Nat.zero_le _
  | x :: a, b, h, hs => by
    obtain ⟨h1, h2⟩ := List.nodup_cons.1 h
    have hx := hs x (List.mem_cons_self ..)
    have := nodup_sub a (b.erase x) h2 fun y hy => (List.mem_erase_of_ne (fun (e : y = x) => h1 (e ▸ hy))).2 (hs y (List.mem_cons_of_mem _ hy))
    rw [List.length_erase_of_mem hx] at this
    have := List.length_pos_of_mem hx
    simp only [List.length_cons]
    omega
theorem all_nodup (bs : List Int) : (allB bs).Nodup := (all_sorted bs).imp fun h => Nat.ne_of_lt h

theorem full_iff {s : SN} {bl ar : Int} (hg : tGood s.tb bl ar = true) (hh : ∀ p ∈ s.tb, hasB s.ch p.1 = true) : fullS s = rF s := by
  unfold tGood at hg
  rw [Bool.and_eq_true] at hg
  obtain ⟨hp, hasc⟩ := (tRise_iff bl ar s.tb (-1)).1 hg.1
  obtain ⟨T, hT⟩ : ∃ T, s.tb.map (fun p => p.1.toNat) = T := ⟨_, rfl⟩
  have hTn : T.Nodup := by
    rw [← hT]
    refine List.pairwise_map.2 ?_
    refine hasc.imp_of_mem ?_
    intro a b ha hb h e
    have h1 := hp a ha
    have h2 := hp b hb
    omega
  have hTs : ∀ x ∈ T, x ∈ allB s.ch := by
    intro x hx
    rw [← hT] at hx
    obtain ⟨p, hm, rfl⟩ := List.mem_map.1 hx
    have := hh p hm
    unfold hasB at this
    rw [Bool.and_eq_true] at this
    exact mem_all.2 this.2
  have hl : T.length = s.tb.length := by rw [← hT, List.length_map]
  have hle := nodup_sub T _ hTn hTs
  have hmem : ∀ c : Nat, (tFind s.tb (c : Int)).isSome = true ↔ c ∈ T := by
    intro c
    constructor
    · intro h
      obtain ⟨i, hi⟩ := Option.isSome_iff_exists.1 h
      obtain ⟨⟨p, hpi, hpc⟩, -⟩ := tFind_some.1 hi
      rw [← hT]
      exact List.mem_map.2 ⟨p, List.mem_of_getElem? hpi, by omega⟩
    · intro h
      rw [← hT] at h
      obtain ⟨p, hm, hc⟩ := List.mem_map.1 h
      obtain ⟨j, hj⟩ := List.getElem?_of_mem hm
      have h0 := (hp p hm).1
      cases hf : tFind s.tb (c : Int) with
      | some i => rfl
      | none => exact absurd (show p.1 = (c : Int) by omega) (tFind_none.1 hf j p hj)
  unfold fullS rF
  rw [Bool.eq_iff_iff, decide_eq_true_eq, List.all_eq_true]
  constructor
  · intro he c hc
    rw [hmem]
    by_cases hn : c ∈ T
    · exact hn
    · have := nodup_sub (c :: T) (allB s.ch) (List.nodup_cons.2 ⟨hn, hTn⟩) (by
        intro x hx
        rcases List.mem_cons.1 hx with rfl | hx
        · exact hc
        · exact hTs x hx)
      simp only [List.length_cons] at this
      omega
  · intro h
    have := nodup_sub _ T (all_nodup s.ch) fun c hc => (hmem c).1 (h c hc)
    omega

theorem rGo_is (bl ar : Int) : ∀ (l : List SN) (ats : List Int) (last : Int), ats.Nodup → 0 ≤ last → rGo bl ar ats last l = (cRise bl ar last l && decide (ats ++ cAts l).Nodup)
  | [], ats, last, h, _ => by
    show true = (true && _)
    rw [show cAts [] = [] from rfl, List.append_nil, decide_eq_true h]; rfl
  | s :: l, ats, last, h, h0 => by
    rw [rGo_cons, cRise_cons]
    by_cases hP : last < s.id ∧ s.id ≤ 1000000 ∧ goodB s.ch bl = true ∧ tGood s.tb bl ar = true ∧ ∀ p ∈ s.tb, hasB s.ch p.1 = true
    · obtain ⟨p1, p2, p3, p4, p5⟩ := hP
      have hS : rS bl ar last s = true := by
        unfold rS
        rw [p3, p4, decide_eq_true p1, decide_eq_true p2, decide_eq_true (show 0 < s.id by omega)]; rfl
      have hFt : fitS s bl ar = true := by
        unfold fitS
        rw [p3, p4, List.all_eq_true.2 p5]; rfl
      rw [hS, decide_eq_true p1, decide_eq_true p2, hFt, full_iff p4 p5]
      simp only [Bool.true_and]
      have hN : (s.tb.map (·.2)).Nodup := by
        unfold tGood at p4
        rw [Bool.and_eq_true, decide_eq_true_eq] at p4
        exact p4.2
      have hA : cAts (s :: l) = s.tb.map (·.2) ++ cAts l := rfl
      by_cases hD : ∀ p ∈ s.tb, p.2 ∉ ats
      · have hT : rT ats s = true := by
          unfold rT
          rw [List.all_eq_true]
          intro p hp
          rw [p5 p hp, Bool.true_and, Bool.not_eq_true']
          simpa using hD p hp
        have hN2 : (ats ++ s.tb.map (·.2)).Nodup := by
          rw [List.nodup_append]
          refine ⟨h, hN, fun a ha b hb e => ?_⟩
          obtain ⟨p, hp, rfl⟩ := List.mem_map.1 hb
          exact hD p hp (e ▸ ha)
        rw [hT, Bool.true_and, rGo_is bl ar l _ _ hN2 (by omega), hA, ← List.append_assoc, Bool.and_assoc]
      · have hT : rT ats s = false := by
          unfold rT
          rw [Bool.eq_false_iff]
          intro e
          rw [List.all_eq_true] at e
          refine hD fun p hp hm => ?_
          have := e p hp
          rw [Bool.and_eq_true] at this
          simp [hm] at this
        have hN2 : ¬ (ats ++ cAts (s :: l)).Nodup := by
          intro hn
          refine hD fun p hp hm => ?_
          rw [hA, List.nodup_append] at hn
          exact hn.2.2 p.2 hm p.2 (List.mem_append_left _ (List.mem_map.2 ⟨p, hp, rfl⟩)) rfl
        rw [hT, decide_eq_false hN2, Bool.and_false, Bool.false_and]
    · have hL : (rS bl ar last s && rT ats s) = false := by
        rw [Bool.eq_false_iff]
        intro e
        unfold rS rT at e
        simp only [Bool.and_eq_true, decide_eq_true_eq, List.all_eq_true] at e
        exact hP ⟨e.1.2.2.1, e.1.2.1, e.1.2.2.2.1, e.1.2.2.2.2, fun p hp => (e.2 p hp).1⟩
      have hR : (decide (last < s.id) && (decide (s.id ≤ 1000000) && fitS s bl ar)) = false := by
        rw [Bool.eq_false_iff]
        intro e
        unfold fitS at e
        simp only [Bool.and_eq_true, decide_eq_true_eq, List.all_eq_true] at e
        exact hP ⟨e.1, e.2.1, e.2.2.1, e.2.2.2.1, e.2.2.2.2⟩
      rw [← Bool.and_assoc, hL, Bool.false_and]
      rw [show (decide (last < s.id) && (decide (s.id ≤ 1000000) && (fitS s bl ar && ((decide (l.length = 0) || fullS s) && cRise bl ar s.id l)))) = ((decide (last < s.id) && (decide (s.id ≤ 1000000) && fitS s bl ar)) && ((decide (l.length = 0) || fullS s) && cRise bl ar s.id l)) from by simp only [Bool.and_assoc], hR, Bool.false_and, Bool.false_and]
theorem rGood_is (l : List SN) (bl ar : Int) (h : l.length ≤ 8) : cGood l bl ar = rGo bl ar [] 0 l := by
  rw [rGo_is bl ar l [] 0 List.nodup_nil (Int.le_refl _)]
  unfold cGood
  rw [decide_eq_true h]
  rfl
end
section
open Go.RowKit
set_option linter.unusedVariables false
set_option linter.unusedSimpArgs false
attribute [-simp] Tryz.isAgg54 Tryz.zeroValue54
attribute [-go_sem] loadVar storeVar
attribute [local go_sem] loadVar_openP storeVar_openP zero_prs build_prs0 build_prs

theorem nodup_snoc {l : List (Int × Int)} {k : Nat} {x y : Int} (hk : l[k]? = some (x, y)) (h1 : ((l.take k).map (·.2)).Nodup) (h2 : ∀ (j : Nat) (p : Int × Int), j < k → l[j]? = some p → p.2 ≠ y) : ((l.take (k + 1)).map (·.2)).Nodup := by
  rw [List.take_add_one, hk, List.map_append, List.nodup_append]
  refine ⟨h1, by simp, fun a ha b hb e => ?_⟩
  simp at hb
  subst hb
  subst e
  obtain ⟨p, hp, he⟩ := List.mem_map.1 ha
  obtain ⟨j, hj⟩ := List.getElem?_of_mem hp
  rw [List.getElem?_take] at hj
  split at hj
  · rename_i hjk
    exact h2 j p hjk hj he
  · cases hj
theorem nodup_not {l : List (Int × Int)} {j k : Nat} {p q : Int × Int} (hj : l[j]? = some p) (hk : l[k]? = some q) (hjk : j < k) (he : p.2 = q.2) : ¬ (l.map (·.2)).Nodup := fun h => by
  have h1 : (l.map (·.2))[j]? = some p.2 := by rw [List.getElem?_map, hj]; rfl
  have h2 : (l.map (·.2))[k]? = some q.2 := by rw [List.getElem?_map, hk]; rfl
  obtain ⟨a1, b1⟩ := List.getElem?_eq_some_iff.1 h1
  obtain ⟨a2, b2⟩ := List.getElem?_eq_some_iff.1 h2
  have := List.pairwise_iff_getElem.1 h j k a1 a2 hjk
  rw [b1, b2] at this
  exact this he

set_option maxRecDepth 100000 in
set_option maxHeartbeats 8000000 in
/-- The document's **Good**. -/
theorem rf_good {w : World} {v : Value} {l : List (Int × Int)} (h : Prt w v l) (bl ar : Int) (hlen : l.length ≤ 9223372036854775807) :
    Calls Tryz.prog 89 #[v, .int .i64 bl, .int .i64 ar] w fun e w' => e = .returned (.bool (tGood l bl ar)) ∧ Below w.heap.size w w' := by
  have hmx : Tryz.prog.follows .mixedOrders = true := by kernel_rfl
  have HP := Lib.hid h
  obtain ⟨pa, ca, rfl, -⟩ := h
  obtain ⟨n, hn⟩ : ∃ n, l.length = n := ⟨_, rfl⟩
  rw [hn] at HP hlen ⊢
  have HN := Lib.hid hn
  clear hn
  go_enter Tryz.func89, Tryz.ntmps89
  go_wp2_with fail
  go_loopw [7] (fun iv wr => ∃ (k : Nat) (last : Int), k ≤ n ∧ iv = .int .i64 (k : Int) ∧ Hid (-1 ≤ last) ∧ Hid (0 < k → ∃ p, l[k - 1]? = some p ∧ p.1 = last) ∧ Hid (k = 0 → last = -1) ∧ Hid (tRise bl ar (-1) l = tRise bl ar last (l.drop k)) ∧ Hid (((l.take k).map (·.2)).Nodup) ∧ Hid (Below w.heap.size w wr)) (fun iv _ => n - (intOf iv).toNat)
  case atStart => exact ⟨0, -1, Nat.zero_le _, rfl, Int.le_refl _, fun h => absurd h (by omega), fun _ => rfl, rfl, (by show List.Nodup _; simp), Below.refl _ _⟩
  case round =>
    obtain ⟨k, last, hk, rfl, HL1, HLP, HL0, HR, HD, HB⟩ := hrel
    by_cases hlt : k < n
    · obtain ⟨p, hp⟩ : ∃ p, l[k]? = some p := ⟨_, List.getElem?_eq_getElem (by rw [HN.out]; exact hlt)⟩
      obtain ⟨bb, off, rfl, hbb, c1, c2⟩ := (HP.out.below HB.out).at hp
      obtain ⟨x0, y0⟩ := p
      simp only at c1 c2
      have HPK := Lib.hid hp
      have hst := tRise_step hp bl ar last
      rw [← HR.out] at hst
      have HST := Lib.hid hst
      have g1 : (k : Int) < (n : Int) := by omega
      have HW : Hid (wrap64 ((k : Int) + 1) = (k : Int) + 1) := IntWalk.wrap64_in _ (by omega)
      have HW2 : Hid (wrap64 ((k : Int) - 1) = (k : Int) - 1) := IntWalk.wrap64_in _ (by omega)
      have LD := load_prs c1 c2
      have ST := new_prs wr x0 y0
      obtain ⟨W2, hW2⟩ : ∃ W2, wr.alloc (.cells #[.int .i64 x0, .int .i64 y0] 54) = W2 := ⟨_, rfl⟩
      rw [hW2] at ST
      have hb2 : Below wr.heap.size wr W2 := by rw [← hW2]; exact below_new wr _
      have HRB : Hid (RowC W2 wr.heap.size 54 (prL x0 y0)) := by show RowC _ _ _ _; rw [← hW2]; exact RowC.new wr _ _
      have HB2 : Hid (Below w.heap.size w W2) := HB.out.trans (hb2.mono HB.out.size)
      obtain ⟨W, hW⟩ : ∃ W, W2.drew = W := ⟨_, rfl⟩
      have hbW : Below W2.heap.size W2 W := by rw [← hW]; exact (Below.refl _ W2).drew
      have HBW : Hid (Below w.heap.size w W) := HB2.out.trans (hbW.mono HB2.out.size)
      have HRW := Lib.hid (HRB.out.below hbW)
      obtain ⟨B, hBn⟩ : ∃ B, wr.heap.size = B := ⟨_, rfl⟩
      rw [hBn] at ST HRW HRB
      have d0 := HRW.out.cell 0 _ rfl
      have d1 := HRW.out.cell 1 _ rfl
      have HLT := Lib.hid hlt
      clear hp hbb c1 c2 hlt hb2 hst hW2 HB HRB hbW HR
      by_cases q1 : x0 < 0
      · have e1 : decide (x0 < 0) = true := by simpa using q1
        have hl := HL1.out
        have HG : Hid (tGood l bl ar = false) := by
          show _ = _
          unfold tGood
          rw [HST.out, show decide (last < x0) = false by simp; omega]
          simp
        go_wp2_with fail
        refine region_plan (fun x => x = W) 34 (.takes [0, 1, 2, 3, 4, 5, 6, 7, 8, 9, 10, 11, 12, 13, 14, 15, 16, 17, 18, 19, 20, 21, 22, 23, 24, 25, 26, 27, 28, 29, 30, 31, 32, 33] .leaf) hmx (by kernel_rfl) (by intro c x v a w h; cases x <;> exact h) hW ?_
        rw [hW]
        clear hW
        repeat (rw [wpPlan_takes_cons]; simp only [nth_zero, nth_succ]; go_big_quiet_step (fail); try (with_reducible refine wpQuiet_nil ?_); try rw [HD5.out])
        rw [wpPlan_takes_nil, wpPlan_leaf]
        simp only [List.drop_succ_cons, List.drop_zero]
        go_wp2_with fail
        go_ret
        exact ⟨by rw [HG.out]; rfl, HBW.out⟩
      · have e1 : decide (x0 < 0) = false := by simpa using q1
        by_cases q2 : bl ≤ x0
        · have e2 : decide (x0 ≥ bl) = true := by simpa using q2
          have HG : Hid (tGood l bl ar = false) := by
            show _ = _
            unfold tGood
            rw [HST.out, show decide (x0 < bl) = false by simp; omega]
            simp
          go_wp2_with fail
          refine region_plan (fun x => x = W) 34 (.takes [0, 1, 2, 3, 4, 5, 6, 7, 8, 9, 10, 11, 12, 13, 14, 15, 16, 17, 18, 19, 20, 21, 22, 23, 24, 25, 26, 27, 28, 29, 30, 31, 32, 33] .leaf) hmx (by kernel_rfl) (by intro c x v a w h; cases x <;> exact h) hW ?_
          rw [hW]
          clear hW
          repeat (rw [wpPlan_takes_cons]; simp only [nth_zero, nth_succ]; go_big_quiet_step (fail); try (with_reducible refine wpQuiet_nil ?_); try rw [HD5.out])
          rw [wpPlan_takes_nil, wpPlan_leaf]
          simp only [List.drop_succ_cons, List.drop_zero]
          go_wp2_with fail
          go_ret
          exact ⟨by rw [HG.out]; rfl, HBW.out⟩
        · have e2 : decide (x0 ≥ bl) = false := by simpa using q2
          by_cases q3 : y0 < 0
          · have e3 : decide (y0 < 0) = true := by simpa using q3
            have HG : Hid (tGood l bl ar = false) := by
              show _ = _
              unfold tGood
              rw [HST.out, show decide (0 ≤ y0) = false by simp; omega]
              simp
            go_wp2_with fail
            refine region_plan (fun x => x = W) 34 (.takes [0, 1, 2, 3, 4, 5, 6, 7, 8, 9, 10, 11, 12, 13, 14, 15, 16, 17, 18, 19, 20, 21, 22, 23, 24, 25, 26, 27, 28, 29, 30, 31, 32, 33] .leaf) hmx (by kernel_rfl) (by intro c x v a w h; cases x <;> exact h) hW ?_
            rw [hW]
            clear hW
            repeat (rw [wpPlan_takes_cons]; simp only [nth_zero, nth_succ]; go_big_quiet_step (fail); try (with_reducible refine wpQuiet_nil ?_); try rw [HD5.out])
            rw [wpPlan_takes_nil, wpPlan_leaf]
            simp only [List.drop_succ_cons, List.drop_zero]
            go_wp2_with fail
            go_ret
            exact ⟨by rw [HG.out]; rfl, HBW.out⟩
          · have e3 : decide (y0 < 0) = false := by simpa using q3
            by_cases q4 : ar ≤ y0
            · have e4 : decide (y0 ≥ ar) = true := by simpa using q4
              have HG : Hid (tGood l bl ar = false) := by
                show _ = _
                unfold tGood
                rw [HST.out, show decide (y0 < ar) = false by simp; omega]
                simp
              go_wp2_with fail
              refine region_plan (fun x => x = W) 34 (.takes [0, 1, 2, 3, 4, 5, 6, 7, 8, 9, 10, 11, 12, 13, 14, 15, 16, 17, 18, 19, 20, 21, 22, 23, 24, 25, 26, 27, 28, 29, 30, 31, 32, 33] .leaf) hmx (by kernel_rfl) (by intro c x v a w h; cases x <;> exact h) hW ?_
              rw [hW]
              clear hW
              repeat (rw [wpPlan_takes_cons]; simp only [nth_zero, nth_succ]; go_big_quiet_step (fail); try (with_reducible refine wpQuiet_nil ?_); try rw [HD5.out])
              rw [wpPlan_takes_nil, wpPlan_leaf]
              simp only [List.drop_succ_cons, List.drop_zero]
              go_wp2_with fail
              go_ret
              exact ⟨by rw [HG.out]; rfl, HBW.out⟩
            · have e4 : decide (y0 ≥ ar) = false := by simpa using q4
              by_cases hk0 : k = 0
              · have hl0 := HL0.out hk0
                have HX0 : Hid (-1 ≤ x0) := by show -1 ≤ x0; omega
                have HRN : Hid (tRise bl ar (-1) l = tRise bl ar x0 (l.drop (k + 1))) := by
                  show _ = _
                  rw [HST.out, show decide (last < x0) = true by simp; omega, show decide (x0 < bl) = true by simp; omega, show decide (0 ≤ y0) = true by simp; omega, show decide (y0 < ar) = true by simp; omega]
                  rfl
                have HD5 : Hid (decide (0 < k) = false) := by show _ = _; simp; omega
                have HK0 := Lib.hid hk0
                clear hl0 hk0
                go_wp2_with fail
                refine region_plan (fun x => x = W) 34 (.takes [0, 1, 2, 3, 4, 5, 6, 7, 8, 9, 10, 11, 12, 13, 14, 15, 16, 17, 18, 19, 20, 21, 22, 23, 24, 25, 26, 27, 28, 29, 30, 31, 32, 33] .leaf) hmx (by kernel_rfl) (by intro c x v a w h; cases x <;> exact h) hW ?_
                rw [hW]
                clear hW
                repeat (rw [wpPlan_takes_cons]; simp only [nth_zero, nth_succ]; go_big_quiet_step (fail); try (with_reducible refine wpQuiet_nil ?_); try rw [HD5.out])
                rw [wpPlan_takes_nil, wpPlan_leaf]
                simp only [List.drop_succ_cons, List.drop_zero]
                go_wp2_with fail
                go_loopw [9] (fun jv wr => ∃ j : Nat, j ≤ k ∧ jv = .int .i64 (j : Int) ∧ Hid (∀ (i : Nat) (p : Int × Int), i < j → l[i]? = some p → p.2 ≠ y0) ∧ Hid (Below W.heap.size W wr)) (fun jv _ => k - (intOf jv).toNat)
                case atStart => exact ⟨0, Nat.zero_le _, rfl, fun i p h => absurd h (by omega), Below.refl _ _⟩
                case round =>
                  obtain ⟨j, hj, rfl, HS, HBI⟩ := hrel
                  by_cases hjk : j < k
                  · obtain ⟨q, hq⟩ : ∃ q, l[j]? = some q := ⟨_, List.getElem?_eq_getElem (by rw [HN.out]; have := HLT.out; omega)⟩
                    have hbi : Below w.heap.size w wr := HBW.out.trans (HBI.out.mono HBW.out.size)
                    obtain ⟨bb', off', he, hbb, c1, c2⟩ := (HP.out.below hbi).at hq
                    obtain ⟨x1, y1⟩ := q
                    cases he
                    simp only at c1 c2
                    obtain ⟨V, hV⟩ : ∃ V, wr.drew = V := ⟨_, rfl⟩
                    have c3 : V.cell? ⟨bb, off + j * 2 + 1, none⟩ = some (.int .i64 y1) := by rw [← hV]; exact c2
                    have c4 : V.cell? ⟨B, 1, none⟩ = some (.int .i64 y0) := by rw [← hV]; exact (HRW.out.below HBI.out).cell 1 _ rfl
                    have HBV : Hid (Below W.heap.size W V) := by show Below _ _ _; rw [← hV]; exact HBI.out.drew
                    have g3 : (j : Int) < (k : Int) := by omega
                    have HQ := Lib.hid hq
                    have HJK := Lib.hid hjk
                    have gj : (j : Int) < (n : Int) := by have := HLT.out; omega
                    have HWJ : Hid (wrap64 ((j : Int) + 1) = (j : Int) + 1) := IntWalk.wrap64_in _ (by omega)
                    clear hq hbi hbb c1 c2 hjk
                    go_wp2_with fail
                    refine region_plan (fun x => x = V) 7 (.takes [0, 1, 2, 3, 4, 5, 6] .leaf) hmx (by kernel_rfl) (by intro c x v a w h; cases x <;> exact h) hV ?_
                    rw [hV]
                    clear hV
                    repeat (rw [wpPlan_takes_cons]; simp only [nth_zero, nth_succ]; go_big_quiet_step (fail); refine wpQuiet_nil ?_)
                    rw [wpPlan_takes_nil, wpPlan_leaf]
                    simp only [List.drop_succ_cons, List.drop_zero]
                    by_cases hy : y1 = y0
                    · have qy : (y1 == y0) = true := by simpa using hy
                      have HG : Hid (tGood l bl ar = false) := by
                        show _ = _
                        unfold tGood
                        rw [decide_eq_false (nodup_not HQ.out HPK.out HJK.out hy), Bool.and_false]
                      have HBF : Hid (Below w.heap.size w V) := HBW.out.trans (HBV.out.mono HBW.out.size)
                      clear hy
                      go_wp2_with fail
                      go_ret
                      exact ⟨by rw [HG.out]; rfl, HBF.out⟩
                    · have qy : (y1 == y0) = false := by simpa using hy
                      have HS1 : Hid (∀ (i : Nat) (p : Int × Int), i < j + 1 → l[i]? = some p → p.2 ≠ y0) := fun i p hi hp => by
                        by_cases e : i = j
                        · subst e; rw [HQ.out] at hp; cases hp; exact hy
                        · exact HS.out i p (by omega) hp
                      go_wp2_with fail
                      exact ⟨⟨j + 1, HJK.out, by simp, HS1, HBV⟩, by have := HJK.out; simp [intOf]; omega⟩
                  · have e : k = j := by omega
                    have HDN : Hid (((l.take (k + 1)).map (·.2)).Nodup) := nodup_snoc HPK.out HD.out (by rw [e]; exact HS.out)
                    have HBF : Hid (Below w.heap.size w wr) := HBW.out.trans (HBI.out.mono HBW.out.size)
                    have g5 : decide ((j : Int) < (k : Int)) = false := by simp; omega
                    have g6 : ¬ ((j : Int) < (k : Int)) := by omega
                    have HPK2 : Hid (∃ p, l[k + 1 - 1]? = some p ∧ p.1 = x0) := ⟨(x0, y0), HPK.out, rfl⟩
                    clear e
                    go_wp2_with fail
                    exact ⟨⟨k + 1, x0, HLT.out, by simp, HX0, fun _ => HPK2.out, fun h => by simp at h, HRN, HDN, HBF⟩, by have := HLT.out; simp [intOf]; omega⟩
              · obtain ⟨pp, hpp, hpl⟩ := HLP.out (by omega)
                obtain ⟨xp, yp⟩ := pp
                simp only at hpl
                subst hpl
                obtain ⟨bb', off', he, hbb, c1, c2⟩ := (HP.out.below HBW.out).at hpp
                cases he
                simp only at c1
                obtain ⟨m, hm⟩ : ∃ m, k - 1 = m := ⟨_, rfl⟩
                rw [hm] at c1
                have HD5 : Hid (decide (0 < k) = true) := by show _ = _; simp; omega
                have hkm : (k : Int) - 1 = (m : Int) := by omega
                have hmn : (m : Int) < (n : Int) := by omega
                clear hbb c2 hpp hm hk0
                by_cases q6 : x0 ≤ xp
                · have e6 : decide (x0 ≤ xp) = true := by simpa using q6
                  have HG : Hid (tGood l bl ar = false) := by
                    show _ = _
                    unfold tGood
                    rw [HST.out, show decide (xp < x0) = false by simp; omega]
                    simp
                  go_wp2_with fail
                  refine region_plan (fun x => x = W) 34 (.takes [0, 1, 2, 3, 4, 5, 6, 7, 8, 9, 10, 11, 12, 13, 14, 15, 16, 17, 18, 19, 20, 21, 22, 23, 24, 25, 26, 27, 28, 29, 30, 31, 32, 33] .leaf) hmx (by kernel_rfl) (by intro c x v a w h; cases x <;> exact h) hW ?_
                  rw [hW]
                  clear hW
                  repeat (rw [wpPlan_takes_cons]; simp only [nth_zero, nth_succ]; go_big_quiet_step (fail); try (with_reducible refine wpQuiet_nil ?_); try rw [HD5.out])
                  rw [wpPlan_takes_nil, wpPlan_leaf]
                  simp only [List.drop_succ_cons, List.drop_zero]
                  go_wp2_with fail
                  go_ret
                  exact ⟨by rw [HG.out]; rfl, HBW.out⟩
                · have e6 : decide (x0 ≤ xp) = false := by simpa using q6
                  have HX0 : Hid (-1 ≤ x0) := by show -1 ≤ x0; omega
                  have HRN : Hid (tRise bl ar (-1) l = tRise bl ar x0 (l.drop (k + 1))) := by
                    show _ = _
                    rw [HST.out, show decide (xp < x0) = true by simp; omega, show decide (x0 < bl) = true by simp; omega, show decide (0 ≤ y0) = true by simp; omega, show decide (y0 < ar) = true by simp; omega]
                    rfl
                  go_wp2_with fail
                  refine region_plan (fun x => x = W) 34 (.takes [0, 1, 2, 3, 4, 5, 6, 7, 8, 9, 10, 11, 12, 13, 14, 15, 16, 17, 18, 19, 20, 21, 22, 23, 24, 25, 26, 27, 28, 29, 30, 31, 32, 33] .leaf) hmx (by kernel_rfl) (by intro c x v a w h; cases x <;> exact h) hW ?_
                  rw [hW]
                  clear hW
                  repeat (rw [wpPlan_takes_cons]; simp only [nth_zero, nth_succ]; go_big_quiet_step (fail); try (with_reducible refine wpQuiet_nil ?_); try rw [HD5.out])
                  rw [wpPlan_takes_nil, wpPlan_leaf]
                  simp only [List.drop_succ_cons, List.drop_zero]
                  go_wp2_with fail
                  go_loopw [9] (fun jv wr => ∃ j : Nat, j ≤ k ∧ jv = .int .i64 (j : Int) ∧ Hid (∀ (i : Nat) (p : Int × Int), i < j → l[i]? = some p → p.2 ≠ y0) ∧ Hid (Below W.heap.size W wr)) (fun jv _ => k - (intOf jv).toNat)
                  case atStart => exact ⟨0, Nat.zero_le _, rfl, fun i p h => absurd h (by omega), Below.refl _ _⟩
                  case round =>
                    obtain ⟨j, hj, rfl, HS, HBI⟩ := hrel
                    by_cases hjk : j < k
                    · obtain ⟨q, hq⟩ : ∃ q, l[j]? = some q := ⟨_, List.getElem?_eq_getElem (by rw [HN.out]; have := HLT.out; omega)⟩
                      have hbi : Below w.heap.size w wr := HBW.out.trans (HBI.out.mono HBW.out.size)
                      obtain ⟨bb', off', he, hbb, c1, c2⟩ := (HP.out.below hbi).at hq
                      obtain ⟨x1, y1⟩ := q
                      cases he
                      simp only at c1 c2
                      obtain ⟨V, hV⟩ : ∃ V, wr.drew = V := ⟨_, rfl⟩
                      have c3 : V.cell? ⟨bb, off + j * 2 + 1, none⟩ = some (.int .i64 y1) := by rw [← hV]; exact c2
                      have c4 : V.cell? ⟨B, 1, none⟩ = some (.int .i64 y0) := by rw [← hV]; exact (HRW.out.below HBI.out).cell 1 _ rfl
                      have HBV : Hid (Below W.heap.size W V) := by show Below _ _ _; rw [← hV]; exact HBI.out.drew
                      have g3 : (j : Int) < (k : Int) := by omega
                      have HQ := Lib.hid hq
                      have HJK := Lib.hid hjk
                      have gj : (j : Int) < (n : Int) := by have := HLT.out; omega
                      have HWJ : Hid (wrap64 ((j : Int) + 1) = (j : Int) + 1) := IntWalk.wrap64_in _ (by omega)
                      clear hq hbi hbb c1 c2 hjk
                      go_wp2_with fail
                      refine region_plan (fun x => x = V) 7 (.takes [0, 1, 2, 3, 4, 5, 6] .leaf) hmx (by kernel_rfl) (by intro c x v a w h; cases x <;> exact h) hV ?_
                      rw [hV]
                      clear hV
                      repeat (rw [wpPlan_takes_cons]; simp only [nth_zero, nth_succ]; go_big_quiet_step (fail); refine wpQuiet_nil ?_)
                      rw [wpPlan_takes_nil, wpPlan_leaf]
                      simp only [List.drop_succ_cons, List.drop_zero]
                      by_cases hy : y1 = y0
                      · have qy : (y1 == y0) = true := by simpa using hy
                        have HG : Hid (tGood l bl ar = false) := by
                          show _ = _
                          unfold tGood
                          rw [decide_eq_false (nodup_not HQ.out HPK.out HJK.out hy), Bool.and_false]
                        have HBF : Hid (Below w.heap.size w V) := HBW.out.trans (HBV.out.mono HBW.out.size)
                        clear hy
                        go_wp2_with fail
                        go_ret
                        exact ⟨by rw [HG.out]; rfl, HBF.out⟩
                      · have qy : (y1 == y0) = false := by simpa using hy
                        have HS1 : Hid (∀ (i : Nat) (p : Int × Int), i < j + 1 → l[i]? = some p → p.2 ≠ y0) := fun i p hi hp => by
                          by_cases e : i = j
                          · subst e; rw [HQ.out] at hp; cases hp; exact hy
                          · exact HS.out i p (by omega) hp
                        go_wp2_with fail
                        exact ⟨⟨j + 1, HJK.out, by simp, HS1, HBV⟩, by have := HJK.out; simp [intOf]; omega⟩
                    · have e : k = j := by omega
                      have HDN : Hid (((l.take (k + 1)).map (·.2)).Nodup) := nodup_snoc HPK.out HD.out (by rw [e]; exact HS.out)
                      have HBF : Hid (Below w.heap.size w wr) := HBW.out.trans (HBI.out.mono HBW.out.size)
                      have g5 : decide ((j : Int) < (k : Int)) = false := by simp; omega
                      have g6 : ¬ ((j : Int) < (k : Int)) := by omega
                      have HPK2 : Hid (∃ p, l[k + 1 - 1]? = some p ∧ p.1 = x0) := ⟨(x0, y0), HPK.out, rfl⟩
                      clear e
                      go_wp2_with fail
                      exact ⟨⟨k + 1, x0, HLT.out, by simp, HX0, fun _ => HPK2.out, fun h => by simp at h, HRN, HDN, HBF⟩, by have := HLT.out; simp [intOf]; omega⟩
    · obtain rfl : k = n := by omega
      rw [List.take_of_length_le (by rw [HN.out]; exact Nat.le_refl _)] at HD
      rw [List.drop_of_length_le (by rw [HN.out]; exact Nat.le_refl _)] at HR
      have HG : Hid (tGood l bl ar = true) := by
        show _ = _
        unfold tGood
        rw [HR.out, decide_eq_true HD.out]
        rfl
      go_wp2_with fail
      go_ret
      exact ⟨by rw [HG.out]; rfl, HB.out⟩
end
section
open Go.RowKit Go.Shelf
set_option linter.unusedVariables false
set_option linter.unusedSimpArgs false
attribute [-simp] Tryz.isAgg51 Tryz.zeroValue51 Tryz.isAgg54 Tryz.zeroValue54
attribute [-go_sem] loadVar storeVar
attribute [local go_sem] loadVar_openPS storeVar_openPS zero_sn zero_prs

set_option maxRecDepth 100000 in
set_option maxHeartbeats 4000000 in
theorem rf_index {w : World} {v : Value} {l : List SN} (h : Snp w v l) (id : Int) :
    Calls Tryz.prog 93 #[v, .int .i64 id] w fun e w' => e = .returned (.int .i64 (cIndex l id)) ∧ w' = w := by
  obtain ⟨r, h⟩ := h
  have HS := Lib.hid h
  obtain ⟨a, cap, rfl, h1, h2, -⟩ := h
  obtain ⟨len, hle⟩ : ∃ len, l.length = len := ⟨_, rfl⟩
  have HL := Lib.hid hle
  rw [hle] at HS h1 ⊢
  have hml : len ≤ 9223372036854775807 := by unfold maxLen at h2; omega
  clear h1 h2 hle
  go_enter Tryz.func93, Tryz.ntmps93
  go_wp2_with fail
  go_loopw [5] (fun iv wr => ∃ k : Nat, k ≤ len ∧ iv = .int .i64 (k : Int) ∧ wr = w ∧ Hid (cIndex l id = firstId (l.drop k) id k)) (fun iv _ => len - (intOf iv).toNat)
  case atStart => exact ⟨0, Nat.zero_le _, rfl, rfl, rfl⟩
  case round =>
    obtain ⟨k, hk, rfl, rfl, HP⟩ := hrel
    by_cases hlt : k < len
    · obtain ⟨s, hs⟩ : ∃ s, l[k]? = some s := ⟨_, List.getElem?_eq_getElem (by rw [HL.out]; exact hlt)⟩
      have e1 := firstId_at (id := id) hs
      rw [← HP.out] at e1
      obtain ⟨b, off, q, rfl, hb, -, hq, c0, c1, c2⟩ := HS.out.at hs
      obtain ⟨i, qx⟩ := q
      have hid : i = s.id := hq.id
      have g1 : (k : Int) < (len : Int) := by omega
      have HW : Hid (wrap64 ((k : Int) + 1) = (k : Int) + 1) := IntWalk.wrap64_in _ (by omega)
      have HLT := Lib.hid hlt
      simp only at c0
      by_cases hc : s.id = id
      · rw [if_pos hc] at e1
        have q1 : (i == id) = true := by rw [hid]; simpa using hc
        have E1 := Lib.hid e1
        clear hs hb hq c1 c2 hlt HP hid hc e1
        go_wp2_with fail
        refine bodyPost_ret (results_tmp rfl _ _ _) rfl ?_
        exact ⟨by rw [E1.out]; try rfl, rfl⟩
      · rw [if_neg hc] at e1
        have q1 : (i == id) = false := by rw [hid]; simpa using hc
        have E1 := Lib.hid e1
        clear hs hb hq c1 c2 hlt HP hid hc e1
        go_wp2_with fail
        exact ⟨⟨k + 1, HLT.out, by first | simp | (rw [HW.out]; simp), trivial, E1⟩, by have := HLT.out; first | (simp [intOf]; omega) | (rw [HW.out]; simp [intOf]; omega)⟩
    · obtain rfl : k = len := by omega
      have E1 : Hid (cIndex l id = -1) := HP.out.trans (firstId_end (by rw [HL.out]; exact Nat.le_refl _))
      clear HP
      go_wp2_with fail
      refine bodyPost_ret (results_tmp rfl _ _ _) rfl ?_
      exact ⟨by rw [E1.out]; try rfl, rfl⟩

end
section
open Go.RowKit Go.Shelf
set_option linter.unusedVariables false
set_option linter.unusedSimpArgs false
attribute [-simp] Tryz.isAgg51 Tryz.zeroValue51 Tryz.isAgg54 Tryz.zeroValue54
attribute [-go_sem] loadVar storeVar
attribute [local go_sem] loadVar_openPS storeVar_openPS zero_sn zero_prs

theorem rS_false {bl ar last : Int} {s : SN} (h : ¬ (0 < s.id ∧ s.id ≤ 1000000 ∧ last < s.id ∧ goodB s.ch bl = true ∧ tGood s.tb bl ar = true)) : rS bl ar last s = false := by
  rw [Bool.eq_false_iff]
  intro e
  unfold rS at e
  simp only [Bool.and_eq_true, decide_eq_true_eq] at e
  exact h e
theorem rS_true {bl ar last : Int} {s : SN} (h : 0 < s.id ∧ s.id ≤ 1000000 ∧ last < s.id ∧ goodB s.ch bl = true ∧ tGood s.tb bl ar = true) : rS bl ar last s = true := by
  unfold rS
  simp only [Bool.and_eq_true, decide_eq_true_eq]
  exact h
theorem rT_of {ats : List Int} {s : SN} (h : ∀ (i : Nat) (p : Int × Int), s.tb[i]? = some p → hasB s.ch p.1 = true ∧ p.2 ∉ ats) : rT ats s = true := by
  unfold rT
  rw [List.all_eq_true]
  intro p hp
  obtain ⟨i, hi⟩ := List.getElem?_of_mem hp
  have := h i p hi
  rw [this.1, Bool.true_and, Bool.not_eq_true']
  simpa using this.2
theorem rT_no {ats : List Int} {s : SN} {j : Nat} {p : Int × Int} (hp : s.tb[j]? = some p) (h : hasB s.ch p.1 = false ∨ p.2 ∈ ats) : rT ats s = false := by
  rw [Bool.eq_false_iff]
  intro e
  unfold rT at e
  rw [List.all_eq_true] at e
  have := e p (List.mem_of_getElem? hp)
  rcases h with h | h
  · rw [h] at this; cases this
  · simp [h] at this
theorem rF_of {s : SN} (h : ∀ (i : Nat) (c : Int), ((allB s.ch).map fun k : Nat => (k : Int))[i]? = some c → (tFind s.tb c).isSome = true) : rF s = true := by
  unfold rF
  rw [List.all_eq_true]
  intro c hc
  obtain ⟨i, hi⟩ := List.getElem?_of_mem hc
  exact h i c (by rw [List.getElem?_map, hi]; rfl)
theorem rF_no {s : SN} {i : Nat} {c : Int} (hc : ((allB s.ch).map fun k : Nat => (k : Int))[i]? = some c) (h : tFind s.tb c = none) : rF s = false := by
  rw [Bool.eq_false_iff]
  intro e
  unfold rF at e
  rw [List.all_eq_true] at e
  rw [List.getElem?_map] at hc
  obtain ⟨n, hn, rfl⟩ := Option.map_eq_some_iff.1 hc
  have := e n (List.mem_of_getElem? hn)
  simp only [h] at this
  cases this
theorem InO.at {N : Nat} {W : World} {a : Option Addr} {n c i : Nat} {zs : List Int} {y : Int} (h : InO N W (.slice a n c) zs) (hi : zs[i]? = some y) : ∃ g, a = some ⟨g, 0, none⟩ ∧ g < W.heap.size ∧ W.cell? ⟨g, i, none⟩ = some (.int .i64 y) := by
  have h' := h
  rcases h.2 with ⟨e, h0⟩ | ⟨g, cap, cur, e, h1, h2, -⟩
  · have : zs = [] := List.eq_nil_of_length_eq_zero h0
    subst this
    simp at hi
  · cases e
    have hl := (List.getElem?_eq_some_iff.1 hi).1
    refine ⟨g, rfl, (Array.getElem?_eq_some_iff.1 h2).1, ?_⟩
    rw [h'.cellAt i (by simpa using hl), List.getElem?_map, hi]
    rfl
theorem InO.len {N : Nat} {W : World} {a : Option Addr} {n c : Nat} {zs : List Int} (h : InO N W (.slice a n c) zs) : n = zs.length := by
  obtain ⟨q', e, e2⟩ := own_slV h
  simp only [slV, Value.slice.injEq] at e
  rw [e.2.1]; exact e2
theorem InO.isSl {N : Nat} {W : World} {v : Value} {zs : List Int} (h : InO N W v zs) : ∃ q : SlV, v = slV q := by
  obtain ⟨q', e, e2⟩ := own_slV h
  exact ⟨q', e⟩
theorem RowC.grownS {N B : Nat} {x y : World} {v : Value} {zs : List Int} {C : List Value} (h : RowC x B 51 C) (hv : InO N x v zs) (hg : x.grownBy y v.ownBlock) : RowC y B 51 C := h.grown hg (row_ne hv h (by decide))
set_option maxRecDepth 100000 in
theorem gd_app {N : Nat} {w : World} {v : Value} {zs : List Int} (h : InO N w v zs) (hN : N ≤ w.heap.size) (x : Int) (hlen : zs.length ≤ 900000) :
    ∃ (W3 : World) (ux : Option Addr) (un uc : Nat) (w' : World), (Instr.buildSlice 24 1 #[(0, .int .i64 x)]).run Tryz.prog w = .ok (.slice (some ⟨w.heap.size, 0, none⟩) 1 1) W3 ∧ (∀ ty, (Builtin.append_ #[24, 24] ty #[v, .slice (some ⟨w.heap.size, 0, none⟩) 1 1]).run Tryz.prog W3 = .ok (.slice ux un uc) w') ∧ InO N w' (.slice ux un uc) (zs ++ [x]) ∧ w.grownBy w' v.ownBlock := by
  obtain ⟨v2, W4, hr, h1, h2, -⟩ := in_append h hN x hlen
  obtain ⟨⟨ux, un, uc⟩, rfl⟩ := h1.isSl
  exact ⟨_, ux, un, uc, W4, slice_int1 w x, hr, h1, h2⟩

end
section
open Go.RowKit Go.Shelf
end
end Go.Proofs.YtfihpljgbghogaaGreat

/- States and their bytes: plain facts; no program is named. -/
namespace Go.Proofs.YtfihpljgbghogaaGreat
set_option linter.unusedVariables false

/-- The sizes that a state's bytes depend on: blocks, sets, ways, area. -/
structure SG where
  b : Nat
  s : Nat
  y : Nat
  a : Nat
def SG.slots (g : SG) : Nat := g.s * g.y
def SG.n9 (g : SG) : Nat := sizeB (g.b : Int)
def SG.step (g : SG) : Nat := 4 + g.n9 + g.b
def SG.bts (g : SG) : Nat := 10 + g.slots + 8 * g.step + g.b
structure SG.Ok (g : SG) : Prop where
  b1 : 1 ≤ g.b
  b64 : g.b ≤ 64
  s1 : 1 ≤ g.s
  s8 : g.s ≤ 8
  y1 : 1 ≤ g.y
  y4 : g.y ≤ 4
  a200 : g.a ≤ 200
/-- A state. -/
structure ST where
  d : List Int
  sn : List SN
  nx : Int
  kd : Int
  id : Int
  pr : List (Int × Int)

/-! When it may be -/
def dirtAt (g : SG) (d : List Int) (i : Nat) : Bool :=
  (d[i]?.getD 0 == -1) || (decide (0 ≤ d[i]?.getD 0) && decide (d[i]?.getD 0 < (g.b : Int)) && (d[i]?.getD 0 % (g.s : Int) == (i : Int) / (g.y : Int)) && !((d.take i).contains (d[i]?.getD 0)))
def sDirty (g : SG) (d : List Int) : Bool := decide (d.length = g.slots) && (List.range d.length).all (dirtAt g d)
def sHeld (l : List SN) (at_ : Int) : Bool := (cAts l).contains at_
def sWhole (l : List SN) : Bool := match l.getLast? with
  | none => true
  | some s => (allB s.ch).all fun c => s.tb.any fun p => p.1 == (c : Int)
def pairAt (g : SG) (kd : Int) (l : List SN) (pr : List (Int × Int)) (i : Nat) : Bool :=
  decide (0 ≤ (pr[i]?.getD (0, 0)).1) && decide ((pr[i]?.getD (0, 0)).1 < (g.b : Int)) && (decide (i = 0) || decide ((pr[i - 1]?.getD (0, 0)).1 < (pr[i]?.getD (0, 0)).1)) &&
  (if kd = 1 then sHeld l (pr[i]?.getD (0, 0)).2 else ((pr[i]?.getD (0, 0)).2 == 255) || (decide (0 ≤ (pr[i]?.getD (0, 0)).2) && decide ((pr[i]?.getD (0, 0)).2 < (g.a : Int)) && !(sHeld l (pr[i]?.getD (0, 0)).2) && !((pr.take i).any fun p => p.2 == (pr[i]?.getD (0, 0)).2)))
def sPairsOk (g : SG) (kd : Int) (l : List SN) (pr : List (Int × Int)) : Bool := (List.range pr.length).all (pairAt g kd l pr)
def sPlan (g : SG) (s : ST) : Bool :=
  if s.kd = 0 then (s.id == 0) && decide (s.pr.length = 0)
  else if s.kd = 1 then decide (0 ≤ cIndex s.sn s.id) && sPairsOk g s.kd s.sn s.pr
  else if s.kd = 2 then decide (s.nx ≤ s.id) && decide (s.id ≤ 1000000) && decide (s.sn.length < 8) && sWhole s.sn && sPairsOk g s.kd s.sn s.pr
  else false
def sGood (g : SG) (s : ST) : Bool := sDirty g s.d && cGood s.sn (g.b : Int) (g.a : Int) && decide (1 ≤ s.nx) && decide (s.nx ≤ 1000001) && s.sn.all (fun t => decide (t.id < s.nx)) && sPlan g s

/-! Its bytes -/
def plV (a : Int) : Int := if a = 255 then 255 else a + 1
def plA (v : Int) : Int := if v = 255 then 255 else v - 1
def sPlaces (b : Nat) (l : List (Int × Int)) : List Int := l.foldl (fun o p => o.set p.1.toNat (plV p.2)) (List.replicate b 0)
def noS (g : SG) : SN := ⟨0, List.replicate g.n9 0, []⟩
def sSnapB (g : SG) (s : SN) : List Int := putL s.id 4 ++ (s.ch ++ sPlaces g.b s.tb)
def sSnaps (g : SG) (l : List SN) : List (List Int) := (List.range 8).map fun i => sSnapB g (l[i]?.getD (noS g))
def sEnc (g : SG) (s : ST) : List Int := putL s.nx 4 ++ ([(s.sn.length : Int), s.kd] ++ (putL s.id 4 ++ (s.d.map (· + 1) ++ ((sSnaps g s.sn).flatten ++ sPlaces g.b s.pr))))

/-! Read back -/
def prFrom : Nat → List Int → List (Int × Int)
  | _, [] => []
  | k, x :: l => if 0 < x then ((k : Int), plA x) :: prFrom (k + 1) l else prFrom (k + 1) l
theorem prFrom_cons (k : Nat) (x : Int) (l : List Int) : prFrom k (x :: l) = if 0 < x then ((k : Int), plA x) :: prFrom (k + 1) l else prFrom (k + 1) l := rfl
def seg (bs : List Int) (a n : Nat) : List Int := (bs.drop a).take n
def SG.at (g : SG) (i : Nat) : Nat := 10 + g.slots + i * g.step
def sSnapR (g : SG) (x : List Int) : SN := ⟨getL (seg x 0 4), seg x 4 g.n9, prFrom 0 (seg x (4 + g.n9) g.b)⟩
def sParse (g : SG) (bs : List Int) : ST :=
  ⟨(seg bs 10 g.slots).map (· - 1), (List.range (bs[4]?.getD 0).toNat).map (fun i => sSnapR g (seg bs (g.at i) g.step)), getL (seg bs 0 4), bs[5]?.getD 0, getL (seg bs 6 4), prFrom 0 (seg bs (g.at 8) g.b)⟩
def sDec (g : SG) (bs : List Int) : Option ST :=
  if bs.length = g.bts ∧ bs[4]?.getD 0 ≤ 8 ∧ sGood g (sParse g bs) = true ∧ sEnc g (sParse g bs) = bs then some (sParse g bs) else none

/-! Segments -/
theorem seg_app {P X R : List Int} {a n : Nat} (ha : P.length = a) (hn : X.length = n) : seg (P ++ (X ++ R)) a n = X := by
  unfold seg
  subst ha hn
  rw [List.drop_left, List.take_left]
theorem seg_end {P X : List Int} {a n : Nat} (ha : P.length = a) (hn : X.length = n) : seg (P ++ X) a n = X := by
  unfold seg
  subst ha hn
  rw [List.drop_left, List.take_length]
theorem seg_seg (L : List Int) {a m o n : Nat} (h : o + n ≤ m) : seg (seg L a m) o n = seg L (a + o) n := by
  unfold seg
  rw [List.drop_take, List.take_take, List.drop_drop, Nat.min_eq_left (by omega)]
theorem flat_seg {m : Nat} : ∀ (S : List (List Int)) (P R : List Int) (i : Nat) (x : List Int), (∀ y ∈ S, y.length = m) → S[i]? = some x → seg (P ++ (S.flatten ++ R)) (P.length + i * m) m = x
  | [], P, R, i, x, _, h => by simp at h
  | y :: S, P, R, 0, x, hm, h => by
    simp only [List.getElem?_cons_zero, Option.some.injEq] at h
    subst h
    rw [List.flatten_cons, List.append_assoc]
    exact seg_app (by omega) (hm y (List.mem_cons_self ..))
  | y :: S, P, R, i + 1, x, hm, h => by
    have hy := hm y (List.mem_cons_self ..)
    have ih := flat_seg S (P ++ y) R i x (fun z hz => hm z (List.mem_cons_of_mem _ hz)) (by simpa using h)
    rw [List.length_append, hy] at ih
    rw [List.flatten_cons, List.append_assoc, ← List.append_assoc P, show P.length + (i + 1) * m = P.length + m + i * m by rw [Nat.add_mul]; omega]
    exact ih
theorem flat_len {m : Nat} : ∀ (S : List (List Int)), (∀ y ∈ S, y.length = m) → S.flatten.length = S.length * m
  | [], _ => by simp
  | y :: S, hm => by
    rw [List.flatten_cons, List.length_append, hm y (List.mem_cons_self ..), flat_len S (fun z hz => hm z (List.mem_cons_of_mem _ hz)), List.length_cons, Nat.add_mul]
    omega

/-! Places -/
theorem places_len (b : Nat) (l : List (Int × Int)) : (sPlaces b l).length = b := by
  unfold sPlaces
  have key : ∀ (l : List (Int × Int)) (o : List Int), (l.foldl (fun o p => o.set p.1.toNat (plV p.2)) o).length = o.length := by
    intro l
    induction l with
    | nil => intro o; rfl
    | cons p l ih => intro o; rw [List.foldl_cons, ih, List.length_set]
  rw [key, List.length_replicate]
/-- What stands at a block's place: its pair's, or nothing. -/
theorem places_get {b : Nat} {l : List (Int × Int)} (ha : Asc l) (hr : ∀ p ∈ l, 0 ≤ p.1 ∧ p.1 < (b : Int)) {j : Nat} (hj : j < b) :
    (∀ p ∈ l, p.1 = (j : Int) → (sPlaces b l)[j]? = some (plV p.2)) ∧ ((∀ p ∈ l, p.1 ≠ (j : Int)) → (sPlaces b l)[j]? = some 0) := by
  unfold sPlaces
  have key : ∀ (l : List (Int × Int)) (o : List Int), o.length = b → Asc l → (∀ p ∈ l, 0 ≤ p.1 ∧ p.1 < (b : Int)) →
      (∀ p ∈ l, p.1 = (j : Int) → (l.foldl (fun o p => o.set p.1.toNat (plV p.2)) o)[j]? = some (plV p.2)) ∧ ((∀ p ∈ l, p.1 ≠ (j : Int)) → (l.foldl (fun o p => o.set p.1.toNat (plV p.2)) o)[j]? = o[j]?) := by
    intro l
    induction l with
    | nil => intro o _ _ _; exact ⟨fun p hp => (by cases hp), fun _ => rfl⟩
    | cons q l ih =>
      intro o ho hasc hrr
      obtain ⟨h1, h2⟩ := List.pairwise_cons.1 hasc
      obtain ⟨i1, i2⟩ := ih (o.set q.1.toNat (plV q.2)) (by rw [List.length_set]; exact ho) h2 (fun p hp => hrr p (List.mem_cons_of_mem _ hp))
      have hq := hrr q (List.mem_cons_self ..)
      refine ⟨fun p hp e => ?_, fun hn => ?_⟩
      · rw [List.foldl_cons]
        rcases List.mem_cons.1 hp with rfl | hp
        · rw [i2 (fun r hr e2 => by have := h1 r hr; omega), List.getElem?_set, if_pos (by omega), if_pos (by rw [ho]; omega)]
        · exact i1 p hp e
      · rw [List.foldl_cons, i2 (fun r hr => hn r (List.mem_cons_of_mem _ hr)), List.getElem?_set, if_neg (by have := hn q (List.mem_cons_self ..); omega)]
  obtain ⟨k1, k2⟩ := key l (List.replicate b 0) (by simp) ha hr
  refine ⟨k1, fun hn => ?_⟩
  rw [k2 hn, List.getElem?_replicate, if_pos hj]
theorem prFrom_mem : ∀ (bs : List Int) (k : Nat) (p : Int × Int), p ∈ prFrom k bs ↔ ∃ (j : Nat) (x : Int), bs[j]? = some x ∧ 0 < x ∧ p = (((k + j : Nat) : Int), plA x)
  | [], k, p => by simp [prFrom]
  | x :: l, k, p => by
    have ih := prFrom_mem l (k + 1) p
    have step : (∃ (j : Nat) (x' : Int), (x :: l)[j]? = some x' ∧ 0 < x' ∧ p = (((k + j : Nat) : Int), plA x')) ↔ (0 < x ∧ p = ((k : Int), plA x)) ∨ ∃ (j : Nat) (x' : Int), l[j]? = some x' ∧ 0 < x' ∧ p = (((k + 1 + j : Nat) : Int), plA x') := by
      constructor
      · rintro ⟨j, x', h1, h2, h3⟩
        cases j with
        | zero => simp at h1; subst h1; exact .inl ⟨h2, h3⟩
        | succ j => exact .inr ⟨j, x', by simpa using h1, h2, by rw [h3, show k + (j + 1) = k + 1 + j by omega]⟩
      · rintro (⟨h1, h2⟩ | ⟨j, x', h1, h2, h3⟩)
        · exact ⟨0, x, rfl, h1, h2⟩
        · exact ⟨j + 1, x', by simpa using h1, h2, by rw [h3, show k + (j + 1) = k + 1 + j by omega]⟩
    rw [step, ← ih, prFrom_cons]
    by_cases hx : 0 < x
    · rw [if_pos hx, List.mem_cons]
      simp [hx]
    · rw [if_neg hx]
      simp [hx]
theorem prFrom_asc : ∀ (bs : List Int) (k : Nat), Asc (prFrom k bs) ∧ ∀ p ∈ prFrom k bs, (k : Int) ≤ p.1
  | [], k => ⟨List.Pairwise.nil, fun p hp => by simp [prFrom] at hp⟩
  | x :: l, k => by
    obtain ⟨i1, i2⟩ := prFrom_asc l (k + 1)
    unfold prFrom
    by_cases hx : 0 < x
    · rw [if_pos hx]
      refine ⟨List.pairwise_cons.2 ⟨fun q hq => by have := i2 q hq; show (k : Int) < q.1; omega, i1⟩, fun p hp => ?_⟩
      rcases List.mem_cons.1 hp with rfl | hp
      · exact Int.le_refl _
      · have := i2 p hp; omega
    · rw [if_neg hx]
      exact ⟨i1, fun p hp => by have := i2 p hp; omega⟩
theorem asc_ext : ∀ {l m : List (Int × Int)}, Asc l → Asc m → (∀ p, p ∈ l ↔ p ∈ m) → l = m
  | [], [], _, _, _ => rfl
  | [], q :: m, _, _, h => by have := (h q).2 (List.mem_cons_self ..); cases this
  | p :: l, [], _, _, h => by have := (h p).1 (List.mem_cons_self ..); cases this
  | p :: l, q :: m, hl, hm, h => by
    obtain ⟨l1, l2⟩ := List.pairwise_cons.1 hl
    obtain ⟨m1, m2⟩ := List.pairwise_cons.1 hm
    have e : p = q := by
      rcases List.mem_cons.1 ((h p).1 (List.mem_cons_self ..)) with e | e
      · exact e
      · rcases List.mem_cons.1 ((h q).2 (List.mem_cons_self ..)) with e2 | e2
        · exact e2.symm
        · have := m1 p e; have := l1 q e2; omega
    subst e
    rw [asc_ext l2 m2 fun r => ?_]
    constructor
    · intro hr
      rcases List.mem_cons.1 ((h r).1 (List.mem_cons_of_mem _ hr)) with e | e
      · subst e; have := l1 r hr; omega
      · exact e
    · intro hr
      rcases List.mem_cons.1 ((h r).2 (List.mem_cons_of_mem _ hr)) with e | e
      · subst e; have := m1 r hr; omega
      · exact e
/-- Pairs that rise are told by their places. -/
theorem places_back {b : Nat} {l : List (Int × Int)} (ha : Asc l) (hr : ∀ p ∈ l, 0 ≤ p.1 ∧ p.1 < (b : Int)) (hv : ∀ p ∈ l, 0 ≤ p.2 ∧ p.2 ≠ 254) : prFrom 0 (sPlaces b l) = l := by
  refine asc_ext (prFrom_asc _ _).1 ha fun p => ?_
  rw [prFrom_mem]
  constructor
  · rintro ⟨j, x, h1, h2, h3⟩
    have hj : j < b := by rw [← places_len b l]; exact (List.getElem?_eq_some_iff.1 h1).1
    obtain ⟨g1, g2⟩ := places_get ha hr hj
    by_cases hn : ∃ q ∈ l, q.1 = (j : Int)
    · obtain ⟨q, hq, e⟩ := hn
      have := g1 q hq e
      rw [this] at h1
      cases h1
      have hq2 := hv q hq
      have e2 : p = q := by
        rw [h3]
        have e3 : plA (plV q.2) = q.2 := by
          unfold plA plV
          by_cases h5 : q.2 = 255
          · rw [if_pos h5, if_pos rfl, h5]
          · rw [if_neg h5, if_neg (by omega)]; omega
        rw [e3, Nat.zero_add, ← e]
      rw [e2]
      exact hq
    · have := g2 fun q hq e => hn ⟨q, hq, e⟩
      rw [this] at h1
      cases h1
      omega
  · intro hp
    obtain ⟨h1, h2⟩ := hr p hp
    have hj : p.1.toNat < b := by omega
    obtain ⟨g1, -⟩ := places_get ha hr hj
    have hq2 := hv p hp
    refine ⟨p.1.toNat, plV p.2, g1 p hp (by omega), ?_, ?_⟩
    · unfold plV; split <;> omega
    · have e3 : plA (plV p.2) = p.2 := by
        unfold plA plV
        by_cases h5 : p.2 = 255
        · rw [if_pos h5, if_pos rfl, h5]
        · rw [if_neg h5, if_neg (by omega)]; omega
      rw [e3, Nat.zero_add, Int.toNat_of_nonneg h1]

/-! What a state that may be is worth -/
structure PrIn (g : SG) (pr : List (Int × Int)) : Prop where
  asc : Asc pr
  rng : ∀ p ∈ pr, 0 ≤ p.1 ∧ p.1 < (g.b : Int)
  val : ∀ p ∈ pr, 0 ≤ p.2 ∧ p.2 ≠ 254 ∧ p.2 < 256
structure SnIn (g : SG) (s : SN) : Prop where
  id0 : 0 ≤ s.id
  id1 : s.id ≤ 1000000
  ch : s.ch.length = g.n9
  tb : PrIn g s.tb
/-- What the bytes of a state need. -/
structure StIn (g : SG) (s : ST) : Prop where
  dl : s.d.length = g.slots
  sl : s.sn.length ≤ 8
  sn : ∀ t ∈ s.sn, SnIn g t
  nx0 : 0 ≤ s.nx
  nx1 : s.nx ≤ 1000001
  kd0 : 0 ≤ s.kd
  id0 : 0 ≤ s.id
  id1 : s.id ≤ 1000000
  pr : PrIn g s.pr
theorem snapB_len {g : SG} {s : SN} (h : s.ch.length = g.n9) : (sSnapB g s).length = g.step := by
  unfold sSnapB SG.step
  rw [List.length_append, List.length_append, putL_length, places_len, h]
  omega
theorem noS_len (g : SG) : (noS g).ch.length = g.n9 := by unfold noS; simp
theorem snaps_len {g : SG} {l : List SN} (h : ∀ t ∈ l, t.ch.length = g.n9) : ∀ y ∈ sSnaps g l, y.length = g.step := by
  intro y hy
  obtain ⟨i, -, rfl⟩ := List.mem_map.1 hy
  refine snapB_len ?_
  cases e : l[i]? with
  | none => exact noS_len g
  | some s => exact h s (List.mem_of_getElem? e)
theorem enc_len {g : SG} {s : ST} (hd : s.d.length = g.slots) (h : ∀ t ∈ s.sn, t.ch.length = g.n9) : (sEnc g s).length = g.bts := by
  unfold sEnc SG.bts
  simp only [List.length_append, putL_length, List.length_cons, List.length_nil, List.length_map, places_len, flat_len _ (snaps_len h), hd]
  unfold sSnaps
  simp only [List.length_map, List.length_range]
  omega
theorem get_put4 {n : Int} (h0 : 0 ≤ n) (h1 : n < 4294967296) : getL (putL n 4) = n := by
  rw [getL_putL n h0 (by omega) 4, if_pos (by decide)]
  simp only [Nat.reduceMul, Int.reducePow]
  omega
theorem snapR_back {g : SG} {s : SN} (h : SnIn g s) : sSnapR g (sSnapB g s) = s := by
  obtain ⟨id, ch, tb⟩ := s
  have h1 : seg (sSnapB g ⟨id, ch, tb⟩) 0 4 = putL id 4 := by
    have := seg_app (P := []) (X := putL id 4) (R := ch ++ sPlaces g.b tb) (a := 0) (n := 4) rfl (putL_length _ _)
    simpa [sSnapB] using this
  have h2 : seg (sSnapB g ⟨id, ch, tb⟩) 4 g.n9 = ch := seg_app (P := putL id 4) (X := ch) (R := sPlaces g.b tb) (putL_length _ _) h.ch
  have h3 : seg (sSnapB g ⟨id, ch, tb⟩) (4 + g.n9) g.b = sPlaces g.b tb := by
    have := seg_end (P := putL id 4 ++ ch) (X := sPlaces g.b tb) (a := 4 + g.n9) (n := g.b) (by rw [List.length_append, putL_length]; have := h.ch; simp only at this; omega) (places_len _ _)
    simpa [sSnapB] using this
  unfold sSnapR
  rw [h1, h2, h3, get_put4 h.id0 (Int.lt_of_le_of_lt h.id1 (by decide)), places_back h.tb.asc h.tb.rng (fun p hp => ⟨(h.tb.val p hp).1, (h.tb.val p hp).2.1⟩)]
/-- **A state's bytes are read back.** -/
theorem parse_enc {g : SG} {s : ST} (h : StIn g s) : sParse g (sEnc g s) = s ∧ (sEnc g s)[4]?.getD 0 = (s.sn.length : Int) := by
  obtain ⟨d, sn, nx, kd, id, pr⟩ := s
  have hsl := snaps_len (g := g) (l := sn) (fun t ht => (h.sn t ht).ch)
  have hS : (sSnaps g sn).length = 8 := by unfold sSnaps; simp
  have hD : (d.map (· + 1)).length = g.slots := by rw [List.length_map]; exact h.dl
  obtain ⟨E, hE⟩ : ∃ E, sEnc g ⟨d, sn, nx, kd, id, pr⟩ = E := ⟨_, rfl⟩
  have e1 : E = putL nx 4 ++ ([(sn.length : Int), kd] ++ (putL id 4 ++ (d.map (· + 1) ++ ((sSnaps g sn).flatten ++ sPlaces g.b pr)))) := hE.symm
  have p1 : seg E 0 4 = putL nx 4 := by
    rw [e1]
    exact seg_app (P := []) rfl (putL_length _ _)
  have p4 : E[4]?.getD 0 = (sn.length : Int) := by
    rw [e1, List.getElem?_append_right (by rw [putL_length]; omega), putL_length]; rfl
  have p5 : E[5]?.getD 0 = kd := by
    rw [e1, List.getElem?_append_right (by rw [putL_length]; omega), putL_length]; rfl
  have p6 : seg E 6 4 = putL id 4 := by
    have := seg_app (P := putL nx 4 ++ [(sn.length : Int), kd]) (X := putL id 4) (R := d.map (· + 1) ++ ((sSnaps g sn).flatten ++ sPlaces g.b pr)) (a := 6) (n := 4) (by simp [putL_length]) (putL_length _ _)
    rw [e1]
    simpa using this
  have p10 : seg E 10 g.slots = d.map (· + 1) := by
    have := seg_app (P := putL nx 4 ++ ([(sn.length : Int), kd] ++ putL id 4)) (X := d.map (· + 1)) (R := (sSnaps g sn).flatten ++ sPlaces g.b pr) (a := 10) (n := g.slots) (by simp [putL_length]) hD
    rw [e1]
    simpa using this
  have pS : ∀ (i : Nat) (x : List Int), (sSnaps g sn)[i]? = some x → seg E (g.at i) g.step = x := fun i x hx => by
    have := flat_seg (m := g.step) (sSnaps g sn) (putL nx 4 ++ ([(sn.length : Int), kd] ++ (putL id 4 ++ d.map (· + 1)))) (sPlaces g.b pr) i x hsl hx
    have hl : (putL nx 4 ++ ([(sn.length : Int), kd] ++ (putL id 4 ++ d.map (· + 1)))).length = 10 + g.slots := by
      simp only [List.length_append, putL_length, hD, List.length_cons, List.length_nil]
      omega
    rw [hl] at this
    rw [e1]
    unfold SG.at
    simpa using this
  have pE : seg E (g.at 8) g.b = sPlaces g.b pr := by
    have := seg_end (P := putL nx 4 ++ ([(sn.length : Int), kd] ++ (putL id 4 ++ (d.map (· + 1) ++ (sSnaps g sn).flatten)))) (X := sPlaces g.b pr) (a := g.at 8) (n := g.b)
      (by
        simp only [List.length_append, putL_length, hD, List.length_cons, List.length_nil, flat_len _ hsl, hS]
        unfold SG.at
        omega) (places_len _ _)
    rw [e1]
    simpa using this
  rw [hE]
  refine ⟨?_, p4⟩
  unfold sParse
  rw [p1, p4, p5, p6, p10, pE, get_put4 h.nx0 (Int.lt_of_le_of_lt h.nx1 (by decide)), get_put4 h.id0 (Int.lt_of_le_of_lt h.id1 (by decide)), places_back h.pr.asc h.pr.rng (fun p hp => ⟨(h.pr.val p hp).1, (h.pr.val p hp).2.1⟩)]
  have hd2 : (d.map (· + 1)).map (· - 1) = d := by
    rw [List.map_map]
    conv => rhs; rw [← List.map_id d]
    refine List.map_congr_left fun x _ => ?_
    show x + 1 - 1 = x
    omega
  have hs2 : (List.range (sn.length : Int).toNat).map (fun i => sSnapR g (seg E (g.at i) g.step)) = sn := by
    apply List.ext_getElem?
    intro i
    by_cases hi : i < sn.length
    · have h8 : sn.length ≤ 8 := h.sl
      rw [List.getElem?_map, List.getElem?_range (by simpa using hi)]
      have hx : (sSnaps g sn)[i]? = some (sSnapB g (sn[i]?.getD (noS g))) := by
        unfold sSnaps
        rw [List.getElem?_map, List.getElem?_range (by omega)]
        rfl
      show some (sSnapR g (seg E (g.at i) g.step)) = _
      rw [pS i _ hx, List.getElem?_eq_getElem hi]
      show some (sSnapR g (sSnapB g sn[i])) = _
      rw [snapR_back (h.sn _ (List.getElem_mem hi))]
    · rw [List.getElem?_eq_none (by simp; omega), List.getElem?_eq_none (by omega)]
  rw [hd2, hs2]
end Go.Proofs.YtfihpljgbghogaaGreat

/- The document's dirty: may the dirty slots be? -/
namespace Go.Proofs.YtfihpljgbghogaaGreat
open Go.RowKit Go.Shelf Go.Lib
set_option linter.unusedVariables false
set_option linter.unusedSimpArgs false
/-- A geometry of these sizes, as a value. -/
def SG.v (g : SG) (r : Int) : Array Value := #[.int .i64 (g.b : Int), .int .i64 (g.s : Int), .int .i64 (g.y : Int), .int .i64 (g.a : Int), .int .i64 r]
theorem dirt_no {g : SG} {d : List Int} {k : Nat} (hk : k < d.length) (h : dirtAt g d k = false) : sDirty g d = false := by
  unfold sDirty
  rw [Bool.and_eq_false_iff]
  right
  rw [List.all_eq_false]
  exact ⟨k, List.mem_range.2 hk, by rw [h]; decide⟩
theorem dirt_yes {g : SG} {d : List Int} (hl : d.length = g.slots) (h : ∀ k, k < d.length → dirtAt g d k = true) : sDirty g d = true := by
  unfold sDirty
  rw [Bool.and_eq_true, decide_eq_true_eq, List.all_eq_true]
  exact ⟨hl, fun k hk => h k (List.mem_range.1 hk)⟩
/-- Of a row that is read: its cells. -/
theorem Sl.cellI {w : World} {a : Option Addr} {n c : Nat} {xs : List Int} (h : Sl .i64 w (.slice a n c) xs) : n = xs.length ∧ n ≤ maxLen ∧ (0 < n → ∃ b o, a = some ⟨b, o, none⟩ ∧ ∀ x : World, Below w.heap.size w x → ∀ j, j < n → x.cell? ⟨b, o + j, none⟩ = some (.int .i64 (xs[j]?.getD 0))) := by
  obtain ⟨a', c', e, h1, h2, h3, -⟩ := h
  cases e
  refine ⟨rfl, Nat.le_trans h1 h2, fun h0 => ?_⟩
  rcases h3 with h3 | ⟨b, o, rfl, h4, h5⟩
  · rw [h3] at h0; cases h0
  · exact ⟨b, o, rfl, fun x hx j hj => (hx.cell (p := ⟨b, o + j, none⟩) h4).trans (h5 j hj)⟩

set_option maxRecDepth 100000 in
set_option maxHeartbeats 4000000 in
/-- **dirty**. -/
theorem rf14_dirty {w : World} {v : Value} {d : List Int} (g : SG) (hg : g.Ok) (r : Int) (hv : Sl .i64 w v d) :
    Calls Tryz.prog 43 #[.agg (g.v r), v] w fun e w' => e = .returned (.bool (sDirty g d)) ∧ Below w.heap.size w w' := by
  have hmx : Tryz.prog.follows .mixedOrders = true := by kernel_rfl
  obtain ⟨a, c, rfl, -⟩ := id hv
  obtain ⟨hn, hm, hcell⟩ := hv.cellI
  obtain ⟨n, hnn⟩ : ∃ n, d.length = n := ⟨_, rfl⟩
  rw [hnn] at hn hm hcell ⊢
  clear hn hv
  obtain ⟨B, hB⟩ : ∃ B, w.heap.size = B := ⟨_, rfl⟩
  obtain ⟨W, hW⟩ : ∃ W, w.alloc (.cells (g.v r) 23) = W := ⟨_, rfl⟩
  have hrow : RowC W B 23 [.int .i64 (g.b : Int), .int .i64 (g.s : Int), .int .i64 (g.y : Int), .int .i64 (g.a : Int), .int .i64 r] := by rw [← hW, ← hB]; exact RowC.new _ _ _
  have HB : Hid (Below B w W) := by show Below B w W; rw [← hW, ← hB]; exact below_new _ _
  have HSZ := Lib.hid hB
  have KG : Hid (∀ x : World, Below W.heap.size W x → x.cell? ⟨B, 0, none⟩ = some (.int .i64 (g.b : Int)) ∧ x.cell? ⟨B, 1, none⟩ = some (.int .i64 (g.s : Int)) ∧ x.cell? ⟨B, 2, none⟩ = some (.int .i64 (g.y : Int))) := fun x hx =>
    ⟨(hrow.below hx).cell 0 _ rfl, (hrow.below hx).cell 1 _ rfl, (hrow.below hx).cell 2 _ rfl⟩
  have KD : Hid (0 < n → ∃ b o, a = some ⟨b, o, none⟩ ∧ ∀ x : World, Below W.heap.size W x → ∀ j, j < n → x.cell? ⟨b, o + j, none⟩ = some (.int .i64 (d[j]?.getD 0))) := fun h0 => by
    obtain ⟨b, o, e1, e2⟩ := hcell h0
    exact ⟨b, o, e1, fun x hx j hj => e2 x (by have h1 := HB.out; have h2 := HSZ.out; rw [h2]; exact h1.trans (hx.mono (by have := h1.size; omega))) j hj⟩
  have h1 := hg.b1
  have h2 := hg.b64
  have h3 := hg.s1
  have h4 := hg.s8
  have h5 := hg.y1
  have h6 := hg.y4
  have HNN := Lib.hid hnn
  have HM : Hid (n ≤ maxLen) := hm
  obtain ⟨z, hz⟩ : ∃ z, g.s * g.y = z := ⟨_, rfl⟩
  have hzi : (g.s : Int) * (g.y : Int) = (z : Int) := by rw [← hz]; simp
  have hz32 : z ≤ 32 := by rw [← hz]; exact Nat.le_trans (Nat.mul_le_mul h4 h6) (by decide)
  have HZ : Hid (g.slots = z) := hz
  obtain ⟨c0, c1, c2⟩ := KG.out W (Below.refl _ _)
  have HWB : Hid (B ≤ W.heap.size) := by show B ≤ W.heap.size; have := HB.out.size; have := HSZ.out; omega
  clear hrow hcell hnn hm hz
  by_cases hlen : n = z
  · subst hlen
    have g0 : ((n : Int) == (n : Int)) = true := by simp
    have g00 : ((n : Int) != (n : Int)) = false := by simp
    go_enter Tryz.func43, Tryz.ntmps43
    unfold SG.v at *
    go_wp2_with fail
    clear c0 c1 c2
    have HLen : Hid (d.length = g.slots) := by show _ = _; rw [HNN.out, HZ.out]
    go_loopw [5] (fun iv wr => ∃ k : Nat, k ≤ n ∧ iv = .int .i64 (k : Int) ∧ Hid (Below W.heap.size W wr) ∧ Hid (∀ j, j < k → dirtAt g d j = true)) (fun iv _ => n - (intOf iv).toNat)
    case atStart => exact ⟨0, Nat.zero_le _, rfl, Below.refl _ _, fun j hj => absurd hj (Nat.not_lt_zero _)⟩
    case round =>
      obtain ⟨k, hk, rfl, HBw, HP⟩ := hrel
      by_cases hlt : k < n
      · have q1 : (k : Int) < (n : Int) := by omega
        have HLT := Lib.hid hlt
        obtain ⟨ba, oa, rfl, HC⟩ := KD.out (by omega)
        have HCC := Lib.hid HC
        clear HC
        have d0 := HCC.out _ HBw.out k hlt
        obtain ⟨x, hx⟩ : ∃ x, d[k]?.getD 0 = x := ⟨_, rfl⟩
        rw [hx] at d0
        have HAt : Hid (dirtAt g d k = ((x == -1) || (decide (0 ≤ x) && decide (x < (g.b : Int)) && (x % (g.s : Int) == (k : Int) / (g.y : Int)) && !((d.take k).contains x)))) := by
          show _ = _
          unfold dirtAt
          rw [hx]
        have HX := Lib.hid hx
        clear hx
        have HBd : Hid (Below W.heap.size W wr.drew) := HBw.out.drew
        by_cases hm1 : x = -1
        · have q2 : (x == -1) = true := by simpa using hm1
          have HY : Hid (dirtAt g d k = true) := by show _ = _; rw [HAt.out, hm1]; rfl
          clear hm1 hlt
          go_wp2_with fail
          exact ⟨⟨k + 1, HLT.out, by simp, HBw, fun j hj => by
            by_cases e : j = k
            · subst e; exact HY.out
            · exact HP.out j (by omega)⟩, by have := HLT.out; simp [intOf]; omega⟩
        · have q2 : (x == -1) = false := by simpa using hm1
          obtain ⟨e0, e1, e2⟩ := KG.out _ HBw.out
          have hki : k < 32 := by omega
          by_cases hA : x < 0
          · have q3 : decide (x < 0) = true := by simpa using hA
            have HY : Hid (sDirty g d = false) := by
              refine dirt_no (k := k) (by rw [HNN.out]; exact HLT.out) ?_
              rw [HAt.out, q2]
              have : decide (0 ≤ x) = false := by simp; omega
              rw [this]; rfl
            clear hm1 hlt hA
            go_wp2_with fail
            refine region_plan (fun y => y = wr.drew) 27 (.takes [0, 1, 2, 3, 4, 5, 6, 7, 8, 9, 10, 11, 12, 13, 14, 15, 16, 17, 18, 19, 20, 21, 22, 23, 24, 25, 26] .leaf) hmx (by kernel_rfl) (by intro c x v a w h; cases x <;> exact h) rfl ?_
            repeat (rw [wpPlan_takes_cons]; simp only [nth_zero, nth_succ]; go_big_quiet_step (fail); try (with_reducible refine wpQuiet_nil ?_))
            rw [wpPlan_takes_nil, wpPlan_leaf]
            simp only [List.drop_succ_cons, List.drop_zero]
            go_wp2_with fail
            go_ret
            rw [HY.out]
            exact ⟨rfl, by rw [HSZ.out]; exact HB.out.trans (HBd.out.mono HWB.out)⟩
          · have q3 : decide (x < 0) = false := by simpa using hA
            by_cases hBb : (g.b : Int) ≤ x
            · have q4 : decide ((g.b : Int) ≤ x) = true := by simpa using hBb
              have HY : Hid (sDirty g d = false) := by
                refine dirt_no (k := k) (by rw [HNN.out]; exact HLT.out) ?_
                rw [HAt.out, q2]
                have : decide (x < (g.b : Int)) = false := by simp; omega
                rw [this]; simp
              clear hm1 hlt hA hBb
              go_wp2_with fail
              refine region_plan (fun y => y = wr.drew) 27 (.takes [0, 1, 2, 3, 4, 5, 6, 7, 8, 9, 10, 11, 12, 13, 14, 15, 16, 17, 18, 19, 20, 21, 22, 23, 24, 25, 26] .leaf) hmx (by kernel_rfl) (by intro c x v a w h; cases x <;> exact h) rfl ?_
              repeat (rw [wpPlan_takes_cons]; simp only [nth_zero, nth_succ]; go_big_quiet_step (fail); try (with_reducible refine wpQuiet_nil ?_))
              rw [wpPlan_takes_nil, wpPlan_leaf]
              simp only [List.drop_succ_cons, List.drop_zero]
              go_wp2_with fail
              go_ret
              rw [HY.out]
              exact ⟨rfl, by rw [HSZ.out]; exact HB.out.trans (HBd.out.mono HWB.out)⟩
            · have q4 : decide ((g.b : Int) ≤ x) = false := by simpa using hBb
              obtain ⟨xn, rfl⟩ : ∃ xn : Nat, x = (xn : Int) := ⟨x.toNat, by omega⟩
              have q4n : decide (g.b ≤ xn) = false := by simp; omega
              obtain ⟨rm, hrm⟩ : ∃ rm, xn % g.s = rm := ⟨_, rfl⟩
              obtain ⟨qt, hqt⟩ : ∃ qt, k / g.y = qt := ⟨_, rfl⟩
              have hrmi : (xn : Int) % (g.s : Int) = (rm : Int) := by rw [← hrm]; simp
              have hqti : (k : Int) / (g.y : Int) = (qt : Int) := by rw [← hqt]; simp
              have hqk : qt ≤ k := by rw [← hqt]; exact Nat.div_le_self _ _
              have hxn : xn < 64 := by omega
              have hqt0 : Hid ((xn : Int) % (g.s : Int) = (rm : Int) ∧ (k : Int) / (g.y : Int) = (qt : Int)) := ⟨hrmi, hqti⟩
              by_cases hC : rm = qt
              · have q5 : ((rm : Int) == (qt : Int)) = true := by simp; omega
                have q6 : ((rm : Int) != (qt : Int)) = false := by simp; omega
                have HAt2 : Hid (dirtAt g d k = !((d.take k).contains (xn : Int))) := by
                  show _ = _
                  rw [HAt.out, q2, hrmi, hqti, q5]
                  have a1 : decide (0 ≤ (xn : Int)) = true := by simp
                  have a2 : decide ((xn : Int) < (g.b : Int)) = true := by simp; omega
                  rw [a1, a2]; rfl
                have HXN := Lib.hid hxn
                clear hm1 hlt hA hBb hrm hqt hC
                go_wp2_with fail
                refine region_plan (fun y => y = wr.drew) 27 (.takes [0, 1, 2, 3, 4, 5, 6, 7, 8, 9, 10, 11, 12, 13, 14, 15, 16, 17, 18, 19, 20, 21, 22, 23, 24, 25, 26] .leaf) hmx (by kernel_rfl) (by intro c x v a w h; cases x <;> exact h) rfl ?_
                repeat (rw [wpPlan_takes_cons]; simp only [nth_zero, nth_succ]; go_big_quiet_step (fail); try (with_reducible refine wpQuiet_nil ?_))
                rw [wpPlan_takes_nil, wpPlan_leaf]
                simp only [List.drop_succ_cons, List.drop_zero]
                go_wp2_with fail
                clear d0 e0 e1 e2
                go_loopw [6] (fun jv wr2 => ∃ j : Nat, j ≤ k ∧ jv = .int .i64 (j : Int) ∧ Hid (Below W.heap.size W wr2) ∧ Hid (∀ i, i < j → d[i]?.getD 0 ≠ (xn : Int))) (fun jv _ => k - (intOf jv).toNat)
                case atStart => exact ⟨0, Nat.zero_le _, rfl, HBd, fun j hj => absurd hj (Nat.not_lt_zero _)⟩
                case round =>
                  obtain ⟨j, hj, rfl, HB2, HQ⟩ := hrel
                  by_cases hlt2 : j < k
                  · have q7 : (j : Int) < (k : Int) := by omega
                    have HLT2 := Lib.hid hlt2
                    have hkn := HLT.out
                    have d0 := HCC.out _ HB2.out k hkn
                    have d1 := HCC.out _ HB2.out j (by omega)
                    have hjn : (j : Int) < (n : Int) := by omega
                    rw [HX.out] at d0
                    obtain ⟨y, hy⟩ : ∃ y, d[j]?.getD 0 = y := ⟨_, rfl⟩
                    rw [hy] at d1
                    have HY2 := Lib.hid hy
                    have HB2d : Hid (Below W.heap.size W wr.drew) := HB2.out.drew
                    clear hy
                    by_cases he : y = (xn : Int)
                    · have q8 : (y == (xn : Int)) = true := by simpa using he
                      have HN : Hid (sDirty g d = false) := by
                        refine dirt_no (k := k) (by rw [HNN.out]; exact HLT.out) ?_
                        rw [HAt2.out]
                        have hjl : j < d.length := by rw [HNN.out]; exact Nat.lt_trans HLT2.out HLT.out
                        have : (xn : Int) ∈ d.take k := by
                          refine List.mem_of_getElem? (i := j) ?_
                          rw [List.getElem?_take, if_pos HLT2.out, List.getElem?_eq_getElem hjl]
                          have h := HY2.out
                          rw [List.getElem?_eq_getElem hjl] at h
                          have h2 : d[j] = y := h
                          rw [h2, he]
                        simp [this]
                      clear he hlt2 hkn
                      go_wp2_with fail
                      refine region_plan (fun y => y = wr.drew) 8 (.takes [0, 1, 2, 3, 4, 5, 6, 7] .leaf) hmx (by kernel_rfl) (by intro c x v a w h; cases x <;> exact h) rfl ?_
                      repeat (rw [wpPlan_takes_cons]; simp only [nth_zero, nth_succ]; go_big_quiet_step (fail); refine wpQuiet_nil ?_)
                      rw [wpPlan_takes_nil, wpPlan_leaf]
                      simp only [List.drop_succ_cons, List.drop_zero]
                      go_wp2_with fail
                      go_ret
                      rw [HN.out]
                      exact ⟨rfl, by rw [HSZ.out]; exact HB.out.trans (HB2d.out.mono HWB.out)⟩
                    · have q8 : (y == (xn : Int)) = false := by simpa using he
                      have HNe : Hid (d[j]?.getD 0 ≠ (xn : Int)) := by show _ ≠ _; rw [HY2.out]; exact he
                      clear he hlt2 hkn
                      go_wp2_with fail
                      refine region_plan (fun y => y = wr.drew) 8 (.takes [0, 1, 2, 3, 4, 5, 6, 7] .leaf) hmx (by kernel_rfl) (by intro c x v a w h; cases x <;> exact h) rfl ?_
                      repeat (rw [wpPlan_takes_cons]; simp only [nth_zero, nth_succ]; go_big_quiet_step (fail); refine wpQuiet_nil ?_)
                      rw [wpPlan_takes_nil, wpPlan_leaf]
                      simp only [List.drop_succ_cons, List.drop_zero]
                      go_wp2_with fail
                      exact ⟨⟨j + 1, HLT2.out, by simp, HB2d, fun i hi => by
                        by_cases e : i = j
                        · subst e; exact HNe.out
                        · exact HQ.out i (by omega)⟩, by have := HLT2.out; simp [intOf]; omega⟩
                  · obtain rfl : j = k := by omega
                    have HY : Hid (dirtAt g d j = true) := by
                      show _ = _
                      rw [HAt2.out]
                      have : ¬ (xn : Int) ∈ d.take j := fun hm => by
                        obtain ⟨i, hi⟩ := List.getElem?_of_mem hm
                        rw [List.getElem?_take] at hi
                        split at hi
                        · rename_i hij
                          exact HQ.out i hij (by rw [hi]; rfl)
                        · cases hi
                      simp [this]
                    clear hlt2
                    go_wp2_with fail
                    exact ⟨⟨j + 1, HLT.out, by simp, HB2, fun i hi => by
                      by_cases e : i = j
                      · subst e; exact HY.out
                      · exact HP.out i (by omega)⟩, by have := HLT.out; simp [intOf]; omega⟩
              · have q5 : ((rm : Int) == (qt : Int)) = false := by simp; omega
                have q6 : ((rm : Int) != (qt : Int)) = true := by simp; omega
                have HY : Hid (sDirty g d = false) := by
                  refine dirt_no (k := k) (by rw [HNN.out]; exact HLT.out) ?_
                  rw [HAt.out, q2, hrmi, hqti, q5]
                  simp
                clear hm1 hlt hA hBb hrm hqt hC
                go_wp2_with fail
                refine region_plan (fun y => y = wr.drew) 27 (.takes [0, 1, 2, 3, 4, 5, 6, 7, 8, 9, 10, 11, 12, 13, 14, 15, 16, 17, 18, 19, 20, 21, 22, 23, 24, 25, 26] .leaf) hmx (by kernel_rfl) (by intro c x v a w h; cases x <;> exact h) rfl ?_
                repeat (rw [wpPlan_takes_cons]; simp only [nth_zero, nth_succ]; go_big_quiet_step (fail); try (with_reducible refine wpQuiet_nil ?_))
                rw [wpPlan_takes_nil, wpPlan_leaf]
                simp only [List.drop_succ_cons, List.drop_zero]
                go_wp2_with fail
                go_ret
                rw [HY.out]
                exact ⟨rfl, by rw [HSZ.out]; exact HB.out.trans (HBd.out.mono HWB.out)⟩
      · obtain rfl : k = n := by omega
        have HY : Hid (sDirty g d = true) := dirt_yes HLen.out (fun j hj => HP.out j (by rw [HNN.out] at hj; exact hj))
        clear hlt
        go_wp2_with fail
        go_ret
        rw [HY.out]
        exact ⟨rfl, by rw [HSZ.out]; exact HB.out.trans (HBw.out.mono HWB.out)⟩
  · have g0 : ((n : Int) == (z : Int)) = false := by simp; omega
    have g00 : ((n : Int) != (z : Int)) = true := by simp; omega
    have hE : Hid (sDirty g d = false) := by
      show sDirty g d = false
      unfold sDirty
      rw [HNN.out, HZ.out, Bool.and_eq_false_iff]
      exact .inl (by simpa using hlen)
    clear hlen
    unfold SG.v at *
    go_enter Tryz.func43, Tryz.ntmps43
    go_wp2_with fail
    go_ret
    rw [hE.out]
    exact ⟨rfl, by rw [HSZ.out]; exact HB.out⟩
end Go.Proofs.YtfihpljgbghogaaGreat

/- revetmentkeep's Bytes: two rows of bytes held against each other. -/
namespace Go.Proofs.YtfihpljgbghogaaGreat
open Go.RowKit Go.Shelf Go.Lib
set_option linter.unusedVariables false
set_option linter.unusedSimpArgs false
theorem strQ_inj {xs ys : List Int} (hx : IsBytes xs) (hy : IsBytes ys) (h : strOfNums xs = strOfNums ys) : xs = ys := by
  have h1 : (strOfNums xs).data.toList = (strOfNums ys).data.toList := by rw [h]
  rw [strOfNums_data, strOfNums_data] at h1
  have hl : xs.length = ys.length := by have := congrArg List.length h1; simpa using this
  refine List.ext_getElem hl fun i h2 h3 => ?_
  have h4 := congrArg (fun l : List UInt8 => l[i]?) h1
  simp only [List.getElem?_map, List.getElem?_eq_getElem h2, List.getElem?_eq_getElem h3, Option.map_some, Option.some.injEq] at h4
  have bx := hx i
  have by_ := hy i
  rw [List.getElem?_eq_getElem h2, Option.getD_some] at bx
  rw [List.getElem?_eq_getElem h3, Option.getD_some] at by_
  have h5 := congrArg UInt8.toNat h4
  have e : ∀ n : Int, 0 ≤ n → n < 256 → (UInt8.ofNat n.toNat).toNat = n.toNat := fun n h0 h1 => by
    rw [UInt8.toNat_ofNat']
    omega
  rw [e _ bx.1 bx.2, e _ by_.1 by_.2] at h5
  have := bx.1
  have := by_.1
  omega
set_option maxRecDepth 100000 in
set_option maxHeartbeats 2000000 in
/-- **Bytes**: two rows of bytes held against each other. -/
theorem eqk_bytes (va vb : Value) (xs ys : List Int) (w : World) (ha : Sl .u8 w va xs) (hb : Sl .u8 w vb ys) (hx : IsBytes xs) (hy : IsBytes ys) :
    Calls Tryz.prog 15 #[va, vb] w fun e w' => e = .returned (.bool (decide (xs = ys))) ∧ w' = w := by
  have k1 := conv_sl ha
  have k2 := conv_sl hb
  have heq : ((strOfNums xs).toList == (strOfNums ys).toList) = decide (xs = ys) := by
    by_cases h : xs = ys
    · subst h; simp
    · rw [decide_eq_false h]
      refine beq_eq_false_iff_ne.2 fun e => h (strQ_inj hx hy ?_)
      rw [Lib.strOfNums_toList, Lib.strOfNums_toList] at e
      unfold strOfNums
      rw [show (xs.map fun n => UInt8.ofNat n.toNat) = ys.map fun n => UInt8.ofNat n.toNat from e]
  have HE := Lib.hid heq
  clear ha hb hx hy heq
  go_enter Tryz.func15, Tryz.ntmps15
  go_wp2
  go_ret
  exact ⟨by rw [← HE.out]; rfl, rfl⟩
end Go.Proofs.YtfihpljgbghogaaGreat

/- Plain facts on used and free places; states in memory; a range over a function whose iterator has memory of its own. -/
namespace Go.Proofs.YtfihpljgbghogaaGreat
section
open Go.RowKit Go.Lib Go.Sort
set_option linter.unusedVariables false

/-! Those within. -/
/-! The free ones. -/
end
section
open Go.RowKit
set_option linter.unusedVariables false

/-- A state's six cells. -/
structure PS where
  d : SlV
  sn : SlV
  nx : Int
  kd : Int
  id : Int
  pr : SlV
def stL (q : PS) : List Value := [slV q.d, slV q.sn, .int .i64 q.nx, .int .i64 q.kd, .int .i64 q.id, slV q.pr]
def stV (q : PS) : Value := .agg (stL q).toArray
/-- What they lead to. -/
structure StIs (W : World) (q : PS) (l : List SN) (ps : List (Int × Int)) : Prop where
  sn : Snp W (slV q.sn) l
  pr : Prt W (slV q.pr) ps
theorem StIs.below {W W' : World} {q : PS} {l : List SN} {ps : List (Int × Int)} (h : StIs W q l ps) (hB : Below W.heap.size W W') : StIs W' q l ps := ⟨h.sn.below hB, h.pr.below hB⟩
theorem loadVar_openQ (t : TypeId) (h : t ≠ 51) (h' : t ≠ 54) (h'' : t ≠ 30) (a : Addr) : loadVar t a = (do if ← isAgg t then pure (.agg (← loadCells a (← sizeOf t))) else load a) := rfl
theorem storeVar_openQ (t : TypeId) (h : t ≠ 51) (h' : t ≠ 54) (h'' : t ≠ 30) (a : Addr) (v : Value) : storeVar t a v = (do
    if v.cells.size ≠ (← sizeOf t) then stuck "storeVar: the value has not the size of the variable"
    storeCells a v.cells.toList) := rfl
set_option maxRecDepth 100000 in
theorem zero_st (w : World) : (zeroValue 30).run Tryz.prog w = .ok (.agg #[.slice none 0 0, .slice none 0 0, .int .i64 0, .int .i64 0, .int .i64 0, .slice none 0 0]) w := by kernel_rfl
set_option maxRecDepth 100000 in
theorem size_st : (Tryz.prog.info? 30).map (·.size) = some 6 := by kernel_rfl
set_option maxRecDepth 100000 in
theorem load_stC {x : World} {B : Nat} {q : PS} (hr : RowC x B 30 (stL q)) : (loadVar 30 ⟨B, 0, none⟩).run Tryz.prog x = .ok (stV q) x :=
  run_loadVar_mid x B 0 _ (stL q) _ hr.range Tryz.underlying30 rfl (by kernel_rfl)
set_option maxRecDepth 100000 in
theorem new_st (x : World) (q : PS) : (storeVar 30 ⟨x.heap.size, 0, none⟩ (stV q)).run Tryz.prog (x.alloc (.cells #[.slice none 0 0, .slice none 0 0, .int .i64 0, .int .i64 0, .int .i64 0, .slice none 0 0] 30)) = .ok () (x.alloc (.cells (stL q).toArray 30)) :=
  run_storeVar_new x _ _ (stL q).toArray size_st rfl (by kernel_rfl)
set_option maxRecDepth 100000 in
theorem snp_of_cells {W : World} {x : Addr} {len cap : Nat} (h1 : len ≤ cap) (h2 : cap ≤ maxLen) (h3 : ∀ i, i < cap → ∃ es, W.cells? 0 (x.add (i * Tryz.prog.cellsOf 51)) (Tryz.prog.cellsOf 51) = some es ∧ Cells W 51 es) :
    ∃ l, Snp W (.slice (some x) len cap) l := by
  rw [show Tryz.prog.cellsOf 51 = 3 from by kernel_rfl] at h3
  have h4 : ∀ i, i < cap → ∃ p : SV × SN, SnIs W p.1 p.2 ∧ W.cell? (x.add (i * 3)) = some (.int .i64 p.1.1) ∧ W.cell? ((x.add (i * 3)).add 1) = some (slV p.1.2.1) ∧ W.cell? ((x.add (i * 3)).add 2) = some (slV p.1.2.2) := by
    intro i hi
    obtain ⟨es, g1, g2⟩ := h3 i hi
    obtain ⟨q, s, hp, rfl⟩ := snap_of_cells g2
    have hm := (cells_many g1).2
    refine ⟨(q, s), hp, ?_, ?_, ?_⟩
    · obtain ⟨u, hu1, hu2⟩ := hm 0 (by omega)
      cases hu1
      rwa [show (x.add (i * 3)).add 0 = x.add (i * 3) by simp [Addr.add]] at hu2
    · obtain ⟨u, hu1, hu2⟩ := hm 1 (by omega)
      cases hu1
      exact hu2
    · obtain ⟨u, hu1, hu2⟩ := hm 2 (by omega)
      cases hu1
      exact hu2
  have h5 : ∀ i, ∃ p : SV × SN, i < cap → SnIs W p.1 p.2 ∧ W.cell? (x.add (i * 3)) = some (.int .i64 p.1.1) ∧ W.cell? ((x.add (i * 3)).add 1) = some (slV p.1.2.1) ∧ W.cell? ((x.add (i * 3)).add 2) = some (slV p.1.2.2) := fun i => by
    by_cases hi : i < cap
    · obtain ⟨s, hs⟩ := h4 i hi; exact ⟨s, fun _ => hs⟩
    · exact ⟨((0, (none, 0, 0), (none, 0, 0)), ⟨0, [], []⟩), fun h => absurd h hi⟩
  obtain ⟨f, hf⟩ := Classical.axiomOfChoice h5
  refine ⟨(List.range len).map fun i => (f i).2, (List.range len).map fun i => (f i).1, some x, cap, by simp, by simp; omega, h2, (fun e => by cases e), by simp, fun j q s hq hs => ?_, ?_⟩
  · have hjl : j < len := by have := (List.getElem?_eq_some_iff.1 hq).1; simpa using this
    simp [hjl] at hq hs
    subst hq hs
    exact (hf j (by omega)).1
  · by_cases h0 : len = 0
    · subst h0; exact .inl rfl
    · have hc0 := (hf 0 (by omega)).2.1
      rw [Nat.zero_mul, show x.add 0 = x by simp [Addr.add]] at hc0
      obtain ⟨b, off, rfl, hb⟩ := cell_plain hc0
      refine .inr ⟨b, off, rfl, hb, fun j s hj => ?_⟩
      have hjl : j < len := by have := (List.getElem?_eq_some_iff.1 hj).1; simpa using this
      simp [hjl] at hj
      subst hj
      have q := (hf j (by omega)).2
      simp only [add_plain] at q
      exact q
set_option maxRecDepth 100000 in
theorem Cells.snp {W : World} {cs : List Value} (h : Cells W 25 cs) : ∃ (q : SlV) (l : List SN), cs = [slV q] ∧ Snp W (slV q) l := by
  obtain ⟨a, len, cap, e, r⟩ := h.slice Tryz.underlying25
  subst e
  rcases r with ⟨rfl, rfl, rfl⟩ | ⟨x, rfl, h1, h2, h3⟩
  · exact ⟨(none, 0, 0), [], rfl, Snp.nil W⟩
  · refine ⟨(some x, len, cap), ?_⟩
    obtain ⟨l, hl⟩ := snp_of_cells h1 h2 h3
    exact ⟨l, rfl, hl⟩
end
section
open Go.RowKit
set_option linter.unusedVariables false

variable {F : Fence} {n : Nat} {P : Program}

end
end Go.Proofs.YtfihpljgbghogaaGreat

/- slices.Equal at bytes, numbers, pairs. -/
namespace Go.Proofs.YtfihpljgbghogaaGreat
open Go.RowKit Go.Shelf Go.Lib
set_option linter.unusedVariables false
set_option linter.unusedSimpArgs false
theorem take_eq_succ {α : Type} {a b : List α} {k : Nat} {x y : α} (hx : a[k]? = some x) (hy : b[k]? = some y) (h : a.take k = b.take k) (e : x = y) : a.take (k + 1) = b.take (k + 1) := by
  rw [List.take_add_one, List.take_add_one, hx, hy, h, e]
theorem ne_at {α : Type} {a b : List α} {k : Nat} {x y : α} (hx : a[k]? = some x) (hy : b[k]? = some y) (e : x ≠ y) : a ≠ b := fun h => by
  rw [h, hy] at hx
  cases hx
  exact e rfl
/-- Of a row that is read: its cells. -/
theorem Sl.cellB {w : World} {a : Option Addr} {n c : Nat} {xs : List Int} (h : Sl .u8 w (.slice a n c) xs) : n = xs.length ∧ n ≤ maxLen ∧ (0 < n → ∃ b o, a = some ⟨b, o, none⟩ ∧ ∀ x : World, Below w.heap.size w x → ∀ j, j < n → x.cell? ⟨b, o + j, none⟩ = some (.int .u8 (xs[j]?.getD 0))) := by
  obtain ⟨a', c', e, h1, h2, h3, -⟩ := h
  cases e
  refine ⟨rfl, Nat.le_trans h1 h2, fun h0 => ?_⟩
  rcases h3 with h3 | ⟨b, o, rfl, h4, h5⟩
  · rw [h3] at h0; cases h0
  · exact ⟨b, o, rfl, fun x hx j hj => (hx.cell (p := ⟨b, o + j, none⟩) h4).trans (h5 j hj)⟩

set_option maxRecDepth 100000 in
set_option maxHeartbeats 4000000 in
/-- **Equal** at bytes. -/
theorem eq_bytes {w : World} {u v : Value} {xs bs : List Int} (hu : Sl .u8 w u xs) (hv : Sl .u8 w v bs) (hle : xs.length ≤ 1000000) :
    Calls Tryz.prog 32 #[u, v] w fun e w' => e = .returned (.bool (decide (xs = bs))) ∧ Below w.heap.size w w' := by
  obtain ⟨a, ca, rfl, -⟩ := (show Sl _ _ _ _ from hu)
  obtain ⟨b, cb, rfl, -⟩ := (show Sl _ _ _ _ from hv)
  obtain ⟨-, hm, hca⟩ := hu.cellB
  obtain ⟨-, hm2, hcb⟩ := hv.cellB
  obtain ⟨n, hn⟩ : ∃ n, xs.length = n := ⟨_, rfl⟩
  obtain ⟨m, hmm⟩ : ∃ n, bs.length = n := ⟨_, rfl⟩
  rw [hn] at hm hca hle ⊢
  rw [hmm] at hm2 hcb ⊢
  have HCA := Lib.hid hca
  have HCB := Lib.hid hcb
  have HN := Lib.hid hn
  have HM := Lib.hid hmm
  clear hca hcb hu hv hn hmm
  by_cases hl : n = m
  · subst hl
    have g0 : ((n : Int) != (n : Int)) = false := by simp
    go_enter Tryz.func32, Tryz.ntmps32
    go_wp2_with fail
    go_loopw [13] (fun iv wr => ∃ k : Nat, k ≤ n ∧ iv = .int .i64 (k : Int) ∧ Hid (xs.take k = bs.take k) ∧ Hid (Below w.heap.size w wr)) (fun iv _ => n - (intOf iv).toNat)
    case atStart => exact ⟨0, Nat.zero_le _, rfl, by simp [Hid], Below.refl _ _⟩
    case round =>
      obtain ⟨k, hk, rfl, HP, HB⟩ := hrel
      by_cases hlt : k < n
      · have q1 : (k : Int) < (n : Int) := by omega
        have HLT := Lib.hid hlt
        obtain ⟨ba, oa, rfl, hC⟩ := HCA.out (by omega)
        obtain ⟨bb, ob, rfl, hD⟩ := HCB.out (by omega)
        obtain ⟨x, hx⟩ : ∃ x, xs[k]? = some x := ⟨_, List.getElem?_eq_getElem (by rw [HN.out]; exact hlt)⟩
        obtain ⟨y, hy⟩ : ∃ y, bs[k]? = some y := ⟨_, List.getElem?_eq_getElem (by rw [HM.out]; exact hlt)⟩
        have c0 : ∀ z : Ext wr, z.1.cell? ⟨ba, oa + k, none⟩ = some (.int .u8 x) := fun z => by have := hC z.1 (HB.out.trans (z.2.mono HB.out.size)) k hlt; rw [hx] at this; exact this
        have c1 : ∀ z : Ext wr, z.1.cell? ⟨bb, ob + k, none⟩ = some (.int .u8 y) := fun z => by have := hD z.1 (HB.out.trans (z.2.mono HB.out.size)) k hlt; rw [hy] at this; exact this
        have HX := Lib.hid hx
        have HY := Lib.hid hy
        clear hx hy hC hD hlt
        by_cases e : x = y
        · have q2 : (x != y) = false := by simpa using e
          have HQ : Hid (xs.take (k + 1) = bs.take (k + 1)) := take_eq_succ HX.out HY.out HP.out e
          clear e
          go_wp2_with fail
          refine region_ext (by kernel_rfl) (by kernel_rfl) ?_
          repeat (go_big_quiet_step (fail))
          try (with_reducible refine wpQuiet_nil ?_)
          intro z
          have HZ : Hid (Below w.heap.size w z.1) := HB.out.trans (z.2.mono HB.out.size)
          clear c0 c1
          go_wp2_with fail
          exact ⟨⟨k + 1, HLT.out, by simp, HQ, HZ⟩, by have := HLT.out; simp [intOf]; omega⟩
        · have q2 : (x != y) = true := by simpa using e
          have HE : Hid (decide (xs = bs) = false) := by show _ = _; rw [decide_eq_false_iff_not]; exact ne_at HX.out HY.out e
          clear e
          go_wp2_with fail
          refine region_ext (by kernel_rfl) (by kernel_rfl) ?_
          repeat (go_big_quiet_step (fail))
          try (with_reducible refine wpQuiet_nil ?_)
          intro z
          have HZ : Hid (Below w.heap.size w z.1) := HB.out.trans (z.2.mono HB.out.size)
          clear c0 c1
          go_wp2_with fail
          go_ret
          rw [HE.out]
          exact ⟨rfl, HZ.out⟩
      · obtain rfl : k = n := by omega
        have HE : Hid (decide (xs = bs) = true) := by
          show _ = _
          rw [decide_eq_true_eq]
          have := HP.out
          rw [List.take_of_length_le (by rw [HN.out]; exact Nat.le_refl _), List.take_of_length_le (by rw [HM.out]; exact Nat.le_refl _)] at this
          exact this
        clear hlt
        go_wp2_with fail
        go_ret
        rw [HE.out]
        exact ⟨rfl, HB.out⟩
  · have g0 : ((n : Int) != (m : Int)) = true := by simp; omega
    have HE : Hid (decide (xs = bs) = false) := by show _ = _; rw [decide_eq_false_iff_not]; intro h; rw [h, HM.out] at HN; exact hl HN.out.symm
    clear hl
    go_enter Tryz.func32, Tryz.ntmps32
    go_wp2_with fail
    go_ret
    rw [HE.out]
    exact ⟨rfl, Below.refl _ _⟩

set_option maxRecDepth 100000 in
set_option maxHeartbeats 4000000 in
/-- **Equal** at numbers. -/
theorem eq_ints {w : World} {u v : Value} {xs bs : List Int} (hu : Sl .i64 w u xs) (hv : Sl .i64 w v bs) (hle : xs.length ≤ 1000000) :
    Calls Tryz.prog 53 #[u, v] w fun e w' => e = .returned (.bool (decide (xs = bs))) ∧ Below w.heap.size w w' := by
  obtain ⟨a, ca, rfl, -⟩ := (show Sl _ _ _ _ from hu)
  obtain ⟨b, cb, rfl, -⟩ := (show Sl _ _ _ _ from hv)
  obtain ⟨-, hm, hca⟩ := hu.cellI
  obtain ⟨-, hm2, hcb⟩ := hv.cellI
  obtain ⟨n, hn⟩ : ∃ n, xs.length = n := ⟨_, rfl⟩
  obtain ⟨m, hmm⟩ : ∃ n, bs.length = n := ⟨_, rfl⟩
  rw [hn] at hm hca hle ⊢
  rw [hmm] at hm2 hcb ⊢
  have HCA := Lib.hid hca
  have HCB := Lib.hid hcb
  have HN := Lib.hid hn
  have HM := Lib.hid hmm
  clear hca hcb hu hv hn hmm
  by_cases hl : n = m
  · subst hl
    have g0 : ((n : Int) != (n : Int)) = false := by simp
    go_enter Tryz.func53, Tryz.ntmps53
    go_wp2_with fail
    go_loopw [13] (fun iv wr => ∃ k : Nat, k ≤ n ∧ iv = .int .i64 (k : Int) ∧ Hid (xs.take k = bs.take k) ∧ Hid (Below w.heap.size w wr)) (fun iv _ => n - (intOf iv).toNat)
    case atStart => exact ⟨0, Nat.zero_le _, rfl, by simp [Hid], Below.refl _ _⟩
    case round =>
      obtain ⟨k, hk, rfl, HP, HB⟩ := hrel
      by_cases hlt : k < n
      · have q1 : (k : Int) < (n : Int) := by omega
        have HLT := Lib.hid hlt
        obtain ⟨ba, oa, rfl, hC⟩ := HCA.out (by omega)
        obtain ⟨bb, ob, rfl, hD⟩ := HCB.out (by omega)
        obtain ⟨x, hx⟩ : ∃ x, xs[k]? = some x := ⟨_, List.getElem?_eq_getElem (by rw [HN.out]; exact hlt)⟩
        obtain ⟨y, hy⟩ : ∃ y, bs[k]? = some y := ⟨_, List.getElem?_eq_getElem (by rw [HM.out]; exact hlt)⟩
        have c0 : ∀ z : Ext wr, z.1.cell? ⟨ba, oa + k, none⟩ = some (.int .i64 x) := fun z => by have := hC z.1 (HB.out.trans (z.2.mono HB.out.size)) k hlt; rw [hx] at this; exact this
        have c1 : ∀ z : Ext wr, z.1.cell? ⟨bb, ob + k, none⟩ = some (.int .i64 y) := fun z => by have := hD z.1 (HB.out.trans (z.2.mono HB.out.size)) k hlt; rw [hy] at this; exact this
        have HX := Lib.hid hx
        have HY := Lib.hid hy
        clear hx hy hC hD hlt
        by_cases e : x = y
        · have q2 : (x != y) = false := by simpa using e
          have HQ : Hid (xs.take (k + 1) = bs.take (k + 1)) := take_eq_succ HX.out HY.out HP.out e
          clear e
          go_wp2_with fail
          refine region_ext (by kernel_rfl) (by kernel_rfl) ?_
          repeat (go_big_quiet_step (fail))
          try (with_reducible refine wpQuiet_nil ?_)
          intro z
          have HZ : Hid (Below w.heap.size w z.1) := HB.out.trans (z.2.mono HB.out.size)
          clear c0 c1
          go_wp2_with fail
          exact ⟨⟨k + 1, HLT.out, by simp, HQ, HZ⟩, by have := HLT.out; simp [intOf]; omega⟩
        · have q2 : (x != y) = true := by simpa using e
          have HE : Hid (decide (xs = bs) = false) := by show _ = _; rw [decide_eq_false_iff_not]; exact ne_at HX.out HY.out e
          clear e
          go_wp2_with fail
          refine region_ext (by kernel_rfl) (by kernel_rfl) ?_
          repeat (go_big_quiet_step (fail))
          try (with_reducible refine wpQuiet_nil ?_)
          intro z
          have HZ : Hid (Below w.heap.size w z.1) := HB.out.trans (z.2.mono HB.out.size)
          clear c0 c1
          go_wp2_with fail
          go_ret
          rw [HE.out]
          exact ⟨rfl, HZ.out⟩
      · obtain rfl : k = n := by omega
        have HE : Hid (decide (xs = bs) = true) := by
          show _ = _
          rw [decide_eq_true_eq]
          have := HP.out
          rw [List.take_of_length_le (by rw [HN.out]; exact Nat.le_refl _), List.take_of_length_le (by rw [HM.out]; exact Nat.le_refl _)] at this
          exact this
        clear hlt
        go_wp2_with fail
        go_ret
        rw [HE.out]
        exact ⟨rfl, HB.out⟩
  · have g0 : ((n : Int) != (m : Int)) = true := by simp; omega
    have HE : Hid (decide (xs = bs) = false) := by show _ = _; rw [decide_eq_false_iff_not]; intro h; rw [h, HM.out] at HN; exact hl HN.out.symm
    clear hl
    go_enter Tryz.func53, Tryz.ntmps53
    go_wp2_with fail
    go_ret
    rw [HE.out]
    exact ⟨rfl, Below.refl _ _⟩

set_option maxRecDepth 100000 in
set_option maxHeartbeats 4000000 in
/-- **Equal** at numbers. -/
theorem eqk_ints {w : World} {u v : Value} {xs bs : List Int} (hu : Sl .i64 w u xs) (hv : Sl .i64 w v bs) (hle : xs.length ≤ 1000000) :
    Calls Tryz.prog 46 #[u, v] w fun e w' => e = .returned (.bool (decide (xs = bs))) ∧ Below w.heap.size w w' := by
  obtain ⟨a, ca, rfl, -⟩ := (show Sl _ _ _ _ from hu)
  obtain ⟨b, cb, rfl, -⟩ := (show Sl _ _ _ _ from hv)
  obtain ⟨-, hm, hca⟩ := hu.cellI
  obtain ⟨-, hm2, hcb⟩ := hv.cellI
  obtain ⟨n, hn⟩ : ∃ n, xs.length = n := ⟨_, rfl⟩
  obtain ⟨m, hmm⟩ : ∃ n, bs.length = n := ⟨_, rfl⟩
  rw [hn] at hm hca hle ⊢
  rw [hmm] at hm2 hcb ⊢
  have HCA := Lib.hid hca
  have HCB := Lib.hid hcb
  have HN := Lib.hid hn
  have HM := Lib.hid hmm
  clear hca hcb hu hv hn hmm
  by_cases hl : n = m
  · subst hl
    have g0 : ((n : Int) != (n : Int)) = false := by simp
    go_enter Tryz.func46, Tryz.ntmps46
    go_wp2_with fail
    go_loopw [5] (fun iv wr => ∃ k : Nat, k ≤ n ∧ iv = .int .i64 (k : Int) ∧ Hid (xs.take k = bs.take k) ∧ Hid (Below w.heap.size w wr)) (fun iv _ => n - (intOf iv).toNat)
    case atStart => exact ⟨0, Nat.zero_le _, rfl, by simp [Hid], Below.refl _ _⟩
    case round =>
      obtain ⟨k, hk, rfl, HP, HB⟩ := hrel
      by_cases hlt : k < n
      · have q1 : (k : Int) < (n : Int) := by omega
        have HLT := Lib.hid hlt
        obtain ⟨ba, oa, rfl, hC⟩ := HCA.out (by omega)
        obtain ⟨bb, ob, rfl, hD⟩ := HCB.out (by omega)
        obtain ⟨x, hx⟩ : ∃ x, xs[k]? = some x := ⟨_, List.getElem?_eq_getElem (by rw [HN.out]; exact hlt)⟩
        obtain ⟨y, hy⟩ : ∃ y, bs[k]? = some y := ⟨_, List.getElem?_eq_getElem (by rw [HM.out]; exact hlt)⟩
        have c0 : ∀ z : Ext wr, z.1.cell? ⟨ba, oa + k, none⟩ = some (.int .i64 x) := fun z => by have := hC z.1 (HB.out.trans (z.2.mono HB.out.size)) k hlt; rw [hx] at this; exact this
        have c1 : ∀ z : Ext wr, z.1.cell? ⟨bb, ob + k, none⟩ = some (.int .i64 y) := fun z => by have := hD z.1 (HB.out.trans (z.2.mono HB.out.size)) k hlt; rw [hy] at this; exact this
        have HX := Lib.hid hx
        have HY := Lib.hid hy
        clear hx hy hC hD hlt
        by_cases e : x = y
        · have q2 : (x != y) = false := by simpa using e
          have HQ : Hid (xs.take (k + 1) = bs.take (k + 1)) := take_eq_succ HX.out HY.out HP.out e
          clear e
          go_wp2_with fail
          refine region_ext (by kernel_rfl) (by kernel_rfl) ?_
          repeat (go_big_quiet_step (fail))
          try (with_reducible refine wpQuiet_nil ?_)
          intro z
          have HZ : Hid (Below w.heap.size w z.1) := HB.out.trans (z.2.mono HB.out.size)
          clear c0 c1
          go_wp2_with fail
          exact ⟨⟨k + 1, HLT.out, by simp, HQ, HZ⟩, by have := HLT.out; simp [intOf]; omega⟩
        · have q2 : (x != y) = true := by simpa using e
          have HE : Hid (decide (xs = bs) = false) := by show _ = _; rw [decide_eq_false_iff_not]; exact ne_at HX.out HY.out e
          clear e
          go_wp2_with fail
          refine region_ext (by kernel_rfl) (by kernel_rfl) ?_
          repeat (go_big_quiet_step (fail))
          try (with_reducible refine wpQuiet_nil ?_)
          intro z
          have HZ : Hid (Below w.heap.size w z.1) := HB.out.trans (z.2.mono HB.out.size)
          clear c0 c1
          go_wp2_with fail
          go_ret
          rw [HE.out]
          exact ⟨rfl, HZ.out⟩
      · obtain rfl : k = n := by omega
        have HE : Hid (decide (xs = bs) = true) := by
          show _ = _
          rw [decide_eq_true_eq]
          have := HP.out
          rw [List.take_of_length_le (by rw [HN.out]; exact Nat.le_refl _), List.take_of_length_le (by rw [HM.out]; exact Nat.le_refl _)] at this
          exact this
        clear hlt
        go_wp2_with fail
        go_ret
        rw [HE.out]
        exact ⟨rfl, HB.out⟩
  · have g0 : ((n : Int) != (m : Int)) = true := by simp; omega
    have HE : Hid (decide (xs = bs) = false) := by show _ = _; rw [decide_eq_false_iff_not]; intro h; rw [h, HM.out] at HN; exact hl HN.out.symm
    clear hl
    go_enter Tryz.func46, Tryz.ntmps46
    go_wp2_with fail
    go_ret
    rw [HE.out]
    exact ⟨rfl, Below.refl _ _⟩

attribute [-simp] Tryz.isAgg51 Tryz.zeroValue51 Tryz.isAgg54 Tryz.zeroValue54 Tryz.isAgg30 Tryz.zeroValue30
attribute [-go_sem] loadVar storeVar
attribute [local go_sem] loadVar_openQ storeVar_openQ zero_sn zero_prs zero_st

set_option maxRecDepth 100000 in
set_option maxHeartbeats 4000000 in
/-- **Equal** at pairs. -/
theorem eq_pairs {w : World} {u v : Value} {xs bs : List (Int × Int)} (hu : Prt w u xs) (hv : Prt w v bs) (hle : xs.length ≤ 1000000) :
    Calls Tryz.prog 56 #[u, v] w fun e w' => e = .returned (.bool (decide (xs = bs))) ∧ Below w.heap.size w w' := by
  have HU := Lib.hid hu
  have HV := Lib.hid hv
  obtain ⟨a, ca, rfl, hc1, hc2, -⟩ := hu
  obtain ⟨b, cb, rfl, hc3, hc4, -⟩ := hv
  obtain ⟨n, hn⟩ : ∃ n, xs.length = n := ⟨_, rfl⟩
  obtain ⟨m, hmm⟩ : ∃ n, bs.length = n := ⟨_, rfl⟩
  rw [hn] at HU hle ⊢
  rw [hmm] at HV ⊢
  have HN := Lib.hid hn
  have HM := Lib.hid hmm
  clear hn hmm hc1 hc2 hc3 hc4
  by_cases hl : n = m
  · subst hl
    have g0 : ((n : Int) != (n : Int)) = false := by simp
    go_enter Tryz.func56, Tryz.ntmps56
    go_wp2_with fail
    go_loopw [13] (fun iv wr => ∃ k : Nat, k ≤ n ∧ iv = .int .i64 (k : Int) ∧ Hid (xs.take k = bs.take k) ∧ Hid (Below w.heap.size w wr)) (fun iv _ => n - (intOf iv).toNat)
    case atStart => exact ⟨0, Nat.zero_le _, rfl, by simp [Hid], Below.refl _ _⟩
    case round =>
      obtain ⟨k, hk, rfl, HP, HB⟩ := hrel
      by_cases hlt : k < n
      · have q1 : (k : Int) < (n : Int) := by omega
        have HLT := Lib.hid hlt
        obtain ⟨⟨x0, y0⟩, hx⟩ : ∃ x, xs[k]? = some x := ⟨_, List.getElem?_eq_getElem (by rw [HN.out]; exact hlt)⟩
        obtain ⟨⟨x1, y1⟩, hy⟩ : ∃ y, bs[k]? = some y := ⟨_, List.getElem?_eq_getElem (by rw [HM.out]; exact hlt)⟩
        obtain ⟨ba, oa, rfl, h1, c1, c2⟩ := (HU.out.below HB.out).at hx
        obtain ⟨bb, ob, rfl, h2, c3, c4⟩ := (HV.out.below HB.out).at hy
        simp only at c1 c2 c3 c4
        have L1 : ∀ z : Ext wr, (loadVar 54 ⟨ba, oa + k * 2, none⟩).run Tryz.prog z.1 = .ok (.agg #[.int .i64 x0, .int .i64 y0]) z.1 := fun z => load_prs ((z.cell h1).trans c1) ((z.cell h1).trans c2)
        have L2 : ∀ z : Ext wr, (loadVar 54 ⟨bb, ob + k * 2, none⟩).run Tryz.prog z.1 = .ok (.agg #[.int .i64 x1, .int .i64 y1]) z.1 := fun z => load_prs ((z.cell h2).trans c3) ((z.cell h2).trans c4)
        have HX := Lib.hid hx
        have HY := Lib.hid hy
        clear hx hy hlt c1 c2 c3 c4 h1 h2
        by_cases e1 : x0 = x1
        · subst e1
          by_cases e2 : y0 = y1
          · subst e2
            have HQ : Hid (xs.take (k + 1) = bs.take (k + 1)) := take_eq_succ HX.out HY.out HP.out rfl
            go_wp2_with fail
            refine region_ext (by kernel_rfl) (by kernel_rfl) ?_
            repeat (go_big_quiet_step (fail))
            try (with_reducible refine wpQuiet_nil ?_)
            intro z
            have HZ : Hid (Below w.heap.size w z.1) := HB.out.trans (z.2.mono HB.out.size)
            clear L1 L2
            go_wp2_with fail
            exact ⟨⟨k + 1, HLT.out, by simp, HQ, HZ⟩, by have := HLT.out; simp [intOf]; omega⟩
          · have HE : Hid (decide (xs = bs) = false) := by show _ = _; rw [decide_eq_false_iff_not]; exact ne_at HX.out HY.out (fun h => e2 (by cases h; rfl))
            go_wp2_with fail
            refine region_ext (by kernel_rfl) (by kernel_rfl) ?_
            repeat (go_big_quiet_step (fail))
            try (with_reducible refine wpQuiet_nil ?_)
            intro z
            have HZ : Hid (Below w.heap.size w z.1) := HB.out.trans (z.2.mono HB.out.size)
            clear L1 L2
            go_wp2_with fail
            go_ret
            rw [HE.out]
            exact ⟨rfl, HZ.out⟩
        · have HE : Hid (decide (xs = bs) = false) := by show _ = _; rw [decide_eq_false_iff_not]; exact ne_at HX.out HY.out (fun h => e1 (by cases h; rfl))
          go_wp2_with fail
          refine region_ext (by kernel_rfl) (by kernel_rfl) ?_
          repeat (go_big_quiet_step (fail))
          try (with_reducible refine wpQuiet_nil ?_)
          intro z
          have HZ : Hid (Below w.heap.size w z.1) := HB.out.trans (z.2.mono HB.out.size)
          clear L1 L2
          go_wp2_with fail
          go_ret
          rw [HE.out]
          exact ⟨rfl, HZ.out⟩
      · obtain rfl : k = n := by omega
        have HE : Hid (decide (xs = bs) = true) := by
          show _ = _
          rw [decide_eq_true_eq]
          have := HP.out
          rw [List.take_of_length_le (by rw [HN.out]; exact Nat.le_refl _), List.take_of_length_le (by rw [HM.out]; exact Nat.le_refl _)] at this
          exact this
        clear hlt
        go_wp2_with fail
        go_ret
        rw [HE.out]
        exact ⟨rfl, HB.out⟩
  · have g0 : ((n : Int) != (m : Int)) = true := by simp; omega
    have HE : Hid (decide (xs = bs) = false) := by show _ = _; rw [decide_eq_false_iff_not]; intro h; rw [h, HM.out] at HN; exact hl HN.out.symm
    clear hl
    go_enter Tryz.func56, Tryz.ntmps56
    go_wp2_with fail
    go_ret
    rw [HE.out]
    exact ⟨rfl, Below.refl _ _⟩

set_option maxRecDepth 100000 in
set_option maxHeartbeats 4000000 in
/-- **Equal** at pairs. -/
theorem eqk_pairs {w : World} {u v : Value} {xs bs : List (Int × Int)} (hu : Prt w u xs) (hv : Prt w v bs) (hle : xs.length ≤ 1000000) :
    Calls Tryz.prog 48 #[u, v] w fun e w' => e = .returned (.bool (decide (xs = bs))) ∧ Below w.heap.size w w' := by
  have HU := Lib.hid hu
  have HV := Lib.hid hv
  obtain ⟨a, ca, rfl, hc1, hc2, -⟩ := hu
  obtain ⟨b, cb, rfl, hc3, hc4, -⟩ := hv
  obtain ⟨n, hn⟩ : ∃ n, xs.length = n := ⟨_, rfl⟩
  obtain ⟨m, hmm⟩ : ∃ n, bs.length = n := ⟨_, rfl⟩
  rw [hn] at HU hle ⊢
  rw [hmm] at HV ⊢
  have HN := Lib.hid hn
  have HM := Lib.hid hmm
  clear hn hmm hc1 hc2 hc3 hc4
  by_cases hl : n = m
  · subst hl
    have g0 : ((n : Int) != (n : Int)) = false := by simp
    go_enter Tryz.func48, Tryz.ntmps48
    go_wp2_with fail
    go_loopw [5] (fun iv wr => ∃ k : Nat, k ≤ n ∧ iv = .int .i64 (k : Int) ∧ Hid (xs.take k = bs.take k) ∧ Hid (Below w.heap.size w wr)) (fun iv _ => n - (intOf iv).toNat)
    case atStart => exact ⟨0, Nat.zero_le _, rfl, by simp [Hid], Below.refl _ _⟩
    case round =>
      obtain ⟨k, hk, rfl, HP, HB⟩ := hrel
      by_cases hlt : k < n
      · have q1 : (k : Int) < (n : Int) := by omega
        have HLT := Lib.hid hlt
        obtain ⟨⟨x0, y0⟩, hx⟩ : ∃ x, xs[k]? = some x := ⟨_, List.getElem?_eq_getElem (by rw [HN.out]; exact hlt)⟩
        obtain ⟨⟨x1, y1⟩, hy⟩ : ∃ y, bs[k]? = some y := ⟨_, List.getElem?_eq_getElem (by rw [HM.out]; exact hlt)⟩
        obtain ⟨ba, oa, rfl, h1, c1, c2⟩ := (HU.out.below HB.out).at hx
        obtain ⟨bb, ob, rfl, h2, c3, c4⟩ := (HV.out.below HB.out).at hy
        simp only at c1 c2 c3 c4
        have L1 : ∀ z : Ext wr, (loadVar 54 ⟨ba, oa + k * 2, none⟩).run Tryz.prog z.1 = .ok (.agg #[.int .i64 x0, .int .i64 y0]) z.1 := fun z => load_prs ((z.cell h1).trans c1) ((z.cell h1).trans c2)
        have L2 : ∀ z : Ext wr, (loadVar 54 ⟨bb, ob + k * 2, none⟩).run Tryz.prog z.1 = .ok (.agg #[.int .i64 x1, .int .i64 y1]) z.1 := fun z => load_prs ((z.cell h2).trans c3) ((z.cell h2).trans c4)
        have HX := Lib.hid hx
        have HY := Lib.hid hy
        clear hx hy hlt c1 c2 c3 c4 h1 h2
        by_cases e1 : x0 = x1
        · subst e1
          by_cases e2 : y0 = y1
          · subst e2
            have HQ : Hid (xs.take (k + 1) = bs.take (k + 1)) := take_eq_succ HX.out HY.out HP.out rfl
            go_wp2_with fail
            refine region_ext (by kernel_rfl) (by kernel_rfl) ?_
            repeat (go_big_quiet_step (fail))
            try (with_reducible refine wpQuiet_nil ?_)
            intro z
            have HZ : Hid (Below w.heap.size w z.1) := HB.out.trans (z.2.mono HB.out.size)
            clear L1 L2
            go_wp2_with fail
            exact ⟨⟨k + 1, HLT.out, by simp, HQ, HZ⟩, by have := HLT.out; simp [intOf]; omega⟩
          · have HE : Hid (decide (xs = bs) = false) := by show _ = _; rw [decide_eq_false_iff_not]; exact ne_at HX.out HY.out (fun h => e2 (by cases h; rfl))
            go_wp2_with fail
            refine region_ext (by kernel_rfl) (by kernel_rfl) ?_
            repeat (go_big_quiet_step (fail))
            try (with_reducible refine wpQuiet_nil ?_)
            intro z
            have HZ : Hid (Below w.heap.size w z.1) := HB.out.trans (z.2.mono HB.out.size)
            clear L1 L2
            go_wp2_with fail
            go_ret
            rw [HE.out]
            exact ⟨rfl, HZ.out⟩
        · have HE : Hid (decide (xs = bs) = false) := by show _ = _; rw [decide_eq_false_iff_not]; exact ne_at HX.out HY.out (fun h => e1 (by cases h; rfl))
          go_wp2_with fail
          refine region_ext (by kernel_rfl) (by kernel_rfl) ?_
          repeat (go_big_quiet_step (fail))
          try (with_reducible refine wpQuiet_nil ?_)
          intro z
          have HZ : Hid (Below w.heap.size w z.1) := HB.out.trans (z.2.mono HB.out.size)
          clear L1 L2
          go_wp2_with fail
          go_ret
          rw [HE.out]
          exact ⟨rfl, HZ.out⟩
      · obtain rfl : k = n := by omega
        have HE : Hid (decide (xs = bs) = true) := by
          show _ = _
          rw [decide_eq_true_eq]
          have := HP.out
          rw [List.take_of_length_le (by rw [HN.out]; exact Nat.le_refl _), List.take_of_length_le (by rw [HM.out]; exact Nat.le_refl _)] at this
          exact this
        clear hlt
        go_wp2_with fail
        go_ret
        rw [HE.out]
        exact ⟨rfl, HB.out⟩
  · have g0 : ((n : Int) != (m : Int)) = true := by simp; omega
    have HE : Hid (decide (xs = bs) = false) := by show _ = _; rw [decide_eq_false_iff_not]; intro h; rw [h, HM.out] at HN; exact hl HN.out.symm
    clear hl
    go_enter Tryz.func48, Tryz.ntmps48
    go_wp2_with fail
    go_ret
    rw [HE.out]
    exact ⟨rfl, Below.refl _ _⟩
end Go.Proofs.YtfihpljgbghogaaGreat

/- The document's held: does a place stand in some table? -/
namespace Go.Proofs.YtfihpljgbghogaaGreat
open Go.RowKit Go.Shelf Go.Lib
set_option linter.unusedVariables false
set_option linter.unusedSimpArgs false
attribute [-simp] Tryz.isAgg51 Tryz.zeroValue51 Tryz.isAgg54 Tryz.zeroValue54
attribute [-go_sem] loadVar storeVar
attribute [local go_sem] loadVar_openPS storeVar_openPS zero_sn zero_prs
theorem held_cons (s : SN) (m : List SN) (x : Int) : sHeld (s :: m) x = ((s.tb.any fun p => p.2 == x) || sHeld m x) := by
  unfold sHeld cAts
  rw [List.map_cons, List.flatten_cons]
  rw [Bool.eq_iff_iff]
  simp only [List.contains_eq_mem, List.mem_append, decide_eq_true_eq, Bool.or_eq_true, List.any_eq_true, List.mem_map, beq_iff_eq]
theorem any_at {l : List (Int × Int)} {j : Nat} {p : Int × Int} (h : l[j]? = some p) (x : Int) : ((l.drop j).any fun p => p.2 == x) = ((p.2 == x) || ((l.drop (j + 1)).any fun p => p.2 == x)) := by
  rw [drop_at h]; rfl

set_option maxRecDepth 100000 in
set_option maxHeartbeats 2000000 in
/-- **held**. -/
theorem rf14_held {w : World} {v : Value} {l : List SN} (h : Snp w v l) (hK : Lens 1000 l) (x : Int) :
    Calls Tryz.prog 95 #[v, .int .i64 x] w fun e w' => e = .returned (.bool (sHeld l x)) ∧ w' = w := by
  obtain ⟨r, h⟩ := h
  have HS := Lib.hid h
  have HKL := Lib.hid hK
  obtain ⟨a, cap, rfl, h1, h2, -⟩ := h
  obtain ⟨len, hle⟩ : ∃ len, l.length = len := ⟨_, rfl⟩
  have HL := Lib.hid hle
  rw [hle] at HS h1 ⊢
  have hlen : len ≤ 1000 := by have := hK.1; omega
  clear h1 h2 hle hK
  go_enter Tryz.func95, Tryz.ntmps95
  go_wp2_with fail
  go_loopw [5] (fun iv wr => ∃ k : Nat, k ≤ len ∧ iv = .int .i64 (k : Int) ∧ wr = w ∧ Hid (sHeld l x = sHeld (l.drop k) x)) (fun iv _ => len - (intOf iv).toNat)
  case atStart => exact ⟨0, Nat.zero_le _, rfl, rfl, rfl⟩
  case round =>
    obtain ⟨k, hk, rfl, hw, HP⟩ := hrel
    obtain rfl := hw.symm
    clear hw
    by_cases hlt : k < len
    · obtain ⟨s, hs⟩ : ∃ s, l[k]? = some s := ⟨_, List.getElem?_eq_getElem (by rw [HL.out]; exact hlt)⟩
      have e1 : sHeld l x = ((s.tb.any fun p => p.2 == x) || sHeld (l.drop (k + 1)) x) := by rw [HP.out, drop_at hs, held_cons]
      obtain ⟨b, off, q, rfl, hb, -, hq, c0, c1, c2⟩ := HS.out.at hs
      obtain ⟨qi, qc, ⟨ta, tn, tc⟩⟩ := q
      simp only [slV] at c2
      have hts := hq.tb
      simp only [slV] at hts
      have htl := (HKL.out.2 s (List.mem_of_getElem? hs)).2
      have g1 : (k : Int) < (len : Int) := by omega
      have HLT := Lib.hid hlt
      obtain ⟨T, hT⟩ : ∃ T, s.tb = T := ⟨_, rfl⟩
      rw [hT] at e1 hts htl
      have htn : tn = T.length := by obtain ⟨a', c', e, -⟩ := hts; cases e; rfl
      have htn2 : tn ≤ 1000 := by omega
      have HTS := Lib.hid hts
      have HTN := Lib.hid htn
      have E1 := Lib.hid e1
      clear hs e1 hb hq c0 c1 hts hT htn htl HP hlt
      go_wp2_with fail
      go_loopw [6] (fun jv wr => ∃ j : Nat, j ≤ tn ∧ jv = .int .i64 (j : Int) ∧ wr = w ∧ Hid (sHeld l x = (((T.drop j).any fun p => p.2 == x) || sHeld (l.drop (k + 1)) x))) (fun jv _ => tn - (intOf jv).toNat)
      case atStart => exact ⟨0, Nat.zero_le _, rfl, rfl, E1⟩
      case round =>
        obtain ⟨j, hj, rfl, hw, HQ⟩ := hrel
        obtain rfl := hw.symm
        clear hw
        by_cases hlt2 : j < tn
        · obtain ⟨p, hp⟩ : ∃ p, T[j]? = some p := ⟨_, List.getElem?_eq_getElem (by rw [← HTN.out]; exact hlt2)⟩
          have e2 := HQ.out
          rw [any_at hp] at e2
          obtain ⟨bt, ot, rfl, hbt, p1, p2⟩ := HTS.out.at hp
          obtain ⟨pa, pb⟩ := p
          simp only at p2 e2
          have g2 : (j : Int) < (tn : Int) := by omega
          have HLT2 := Lib.hid hlt2
          by_cases he : pb = x
          · have q1 : (pb == x) = true := by simpa using he
            have E2 : Hid (sHeld l x = true) := by show _ = _; rw [e2, q1]; rfl
            clear hp e2 hbt p1 HQ hlt2 he
            go_wp2_with fail
            go_ret
            rw [E2.out]
            exact ⟨rfl, rfl⟩
          · have q1 : (pb == x) = false := by simpa using he
            have E2 : Hid (sHeld l x = (((T.drop (j + 1)).any fun p => p.2 == x) || sHeld (l.drop (k + 1)) x)) := by show _ = _; rw [e2, q1]; rfl
            clear hp e2 hbt p1 HQ hlt2 he
            go_wp2_with fail
            exact ⟨⟨j + 1, HLT2.out, by simp, by trivial, E2⟩, by have := HLT2.out; simp [intOf]; omega⟩
        · obtain rfl : j = tn := by omega
          have E2 : Hid (sHeld l x = sHeld (l.drop (k + 1)) x) := by
            show _ = _
            rw [HQ.out, List.drop_of_length_le (by rw [← HTN.out]; exact Nat.le_refl _)]
            rfl
          clear HQ hlt2
          go_wp2_with fail
          exact ⟨⟨k + 1, HLT.out, by simp, by trivial, E2⟩, by have := HLT.out; simp [intOf]; omega⟩
    · obtain rfl : k = len := by omega
      have E1 : Hid (sHeld l x = false) := by show _ = _; rw [HP.out, List.drop_of_length_le (by rw [HL.out]; exact Nat.le_refl _)]; rfl
      clear HP hlt
      go_wp2_with fail
      go_ret
      rw [E1.out]
      exact ⟨rfl, rfl⟩
end Go.Proofs.YtfihpljgbghogaaGreat

/- The document's whole: is each block of the last one's Changed in its Table? -/
namespace Go.Proofs.YtfihpljgbghogaaGreat
open Go.RowKit Go.Shelf Go.Lib
set_option linter.unusedVariables false
set_option linter.unusedSimpArgs false
attribute [-simp] Tryz.isAgg51 Tryz.zeroValue51 Tryz.isAgg54 Tryz.zeroValue54
attribute [-go_sem] loadVar storeVar
attribute [local go_sem] loadVar_openPS storeVar_openPS zero_sn zero_prs
def inTb (tb : List (Int × Int)) (c : Int) : Bool := tb.any fun p => p.1 == c
theorem inTb_take {tb : List (Int × Int)} {k : Nat} {p : Int × Int} (h : tb[k]? = some p) (c : Int) : inTb (tb.take (k + 1)) c = (inTb (tb.take k) c || (p.1 == c)) := by
  unfold inTb
  rw [take_at h, List.any_append]
  simp
theorem whole_is {l : List SN} {s : SN} (h : l.getLast? = some s) : sWhole l = ((allB s.ch).map fun k : Nat => (k : Int)).all (inTb s.tb) := by
  unfold sWhole
  rw [h]
  simp only [List.all_map]
  rfl
theorem all_at {cs : List Int} {i : Nat} {c : Int} (h : cs[i]? = some c) (f : Int → Bool) : (cs.drop i).all f = (f c && (cs.drop (i + 1)).all f) := by
  rw [drop_at h]; rfl

set_option maxRecDepth 100000 in
set_option maxHeartbeats 2000000 in
/-- **whole**. -/
theorem rf14_whole {w : World} {v : Value} {l : List SN} (h : Snp w v l) (hK : Lens 1000 l) :
    Calls Tryz.prog 94 #[v] w fun e w' => e = .returned (.bool (sWhole l)) ∧ Below w.heap.size w w' := by
  have hmx : Tryz.prog.follows .mixedOrders = true := by kernel_rfl
  obtain ⟨r, h⟩ := h
  have HS := Lib.hid h
  have HKL := Lib.hid hK
  obtain ⟨a, cap, rfl, h1, h2, -⟩ := h
  obtain ⟨len, hle⟩ : ∃ len, l.length = len := ⟨_, rfl⟩
  have HL := Lib.hid hle
  rw [hle] at HS h1 ⊢
  have hlen : len ≤ 1000 := by have := hK.1; omega
  clear h1 h2 hK
  by_cases h0 : len = 0
  · have E : Hid (sWhole l = true) := by
      have : l = [] := List.eq_nil_of_length_eq_zero (by omega)
      rw [this]; rfl
    subst h0
    clear hle
    go_enter Tryz.func94, Tryz.ntmps94
    go_wp2_with fail
    go_ret
    rw [E.out]
    exact ⟨rfl, Below.refl _ _⟩
  · obtain ⟨n, rfl⟩ : ∃ n, len = n + 1 := ⟨len - 1, by omega⟩
    obtain ⟨s, hs⟩ : ∃ s, l[n]? = some s := ⟨_, List.getElem?_eq_getElem (by omega)⟩
    have hlast : l.getLast? = some s := by rw [List.getLast?_eq_getElem?, hle, Nat.add_sub_cancel]; exact hs
    have HW := Lib.hid (whole_is hlast)
    have hls := HKL.out.2 s (List.mem_of_getElem? hs)
    obtain ⟨b, off, q, rfl, hb, -, hq, c0, c1, c2⟩ := HS.out.at hs
    have LD := load_sn c0 c1 c2
    have ST := new_sn w q
    obtain ⟨Y, hY⟩ : ∃ Y, w.alloc (.cells (svL q).toArray 51) = Y := ⟨_, rfl⟩
    have bY : Below w.heap.size w Y := by rw [← hY]; exact below_new _ _
    have rY : RowC Y w.heap.size 51 (svL q) := by rw [← hY]; exact RowC.new w _ _
    rw [hY] at ST
    obtain ⟨C, hC⟩ : ∃ C, w.heap.size = C := ⟨_, rfl⟩
    have HSZ := Lib.hid hC
    rw [hC] at ST rY bY ⊢
    obtain ⟨id, ⟨x, xn, c⟩, ⟨y, m, d⟩⟩ := q
    obtain rfl : id = s.id := hq.id
    have HBY := Lib.hid bY
    have HYS : Hid (C ≤ Y.heap.size) := by show C ≤ _; have := rY.lt; omega
    have RY : Hid (RowC Y C 51 [.int .i64 s.id, .slice x xn c, .slice y m d]) := rY
    have HM : Hid (m = s.tb.length) := by obtain ⟨a', ca', e, -⟩ := hq.tb; simp only [slV, Value.slice.injEq] at e; show _ = _; omega
    have hm1 : m ≤ 1000 := by have := HM.out; omega
    have HTB : Hid (∀ z : World, Below Y.heap.size Y z → Prt z (.slice y m d) s.tb) := fun z hz => (hq.tb.below (W' := Y) (by rw [hC]; exact bY)).below hz
    have HAll := Lib.hid (rf_all (.slice x xn c) s.ch Y (hq.ch.below (by rw [hC]; exact bY)) hq.ok.ch (by omega))
    have k1 := RY.out.cell 1 _ rfl
    have hn1 : ((n + 1 : Nat) : Int) - 1 = (n : Int) := by omega
    have g1 : (n : Int) < ((n + 1 : Nat) : Int) := by omega
    have g2 : (((n + 1 : Nat) : Int) == 0) = false := by simp; omega
    obtain ⟨N, hN⟩ : ∃ N : Nat, n + 1 = N := ⟨_, rfl⟩
    have hNi : (N : Int) - 1 = (n : Int) := by omega
    have g4 : (n : Int) < (N : Int) := by omega
    have g5 : ((N : Int) == 0) = false := by simp; omega
    rw [hN] at hlen
    simp only [hN] at HS ⊢
    have hcl := all_len s.ch
    have hal : (allB s.ch).length ≤ 8000 := by omega
    clear hs hlast hls c0 c1 c2 hb hq rY bY hY hle h0 hn1 g1 g2 hN hcl
    go_enter Tryz.func94, Tryz.ntmps94
    go_wp2_with fail
    refine HAll.out.mono ?_
    rintro e y1 ⟨cv, rfl, ho, hy1⟩
    have hO : InO Y.heap.size y1 cv ((allB s.ch).map fun k : Nat => (k : Int)) := by unfold InO; rw [List.length_map, ← natV_ints]; exact ho
    obtain ⟨cs, hcs⟩ : ∃ cs : List Int, (allB s.ch).map (fun k : Nat => (k : Int)) = cs := ⟨_, rfl⟩
    rw [hcs] at hO HW
    have hcl : cs.length ≤ 8000 := by rw [← hcs, List.length_map]; exact hal
    obtain ⟨ca, cn, cc, rfl⟩ : ∃ ca cn cc, cv = .slice ca cn cc := by
      obtain ⟨ra, c', e, -⟩ := row_lenT hO
      exact ⟨ra, _, c', e⟩
    obtain ⟨hcn, hcm, hcell⟩ := (sl_own hO).cellI
    have HCN := Lib.hid hcn
    have hcn2 : cn ≤ 8000 := by omega
    have HBy : Hid (Below Y.heap.size Y y1) := hy1
    have HCC : Hid (0 < cn → ∃ b o, ca = some ⟨b, o, none⟩ ∧ ∀ x : World, Below y1.heap.size y1 x → ∀ j, j < cn → x.cell? ⟨b, o + j, none⟩ = some (.int .i64 (cs[j]?.getD 0))) := hcell
    have HRY : Hid (∀ z : World, Below y1.heap.size y1 z → z.cell? ⟨C, 2, none⟩ = some (.slice y m d)) := fun z hz => ((RY.out.below hy1).below hz).cell 2 _ rfl
    have HTB2 : Hid (∀ z : World, Below y1.heap.size y1 z → Prt z (.slice y m d) s.tb) := fun z hz => HTB.out z (hy1.trans (hz.mono hy1.size))
    have HFin : Hid (∀ z : World, Below y1.heap.size y1 z → Below C w z) := fun z hz => HBY.out.trans ((hy1.trans (hz.mono hy1.size)).mono HYS.out)
    clear ho hO hcs hcl hcn hcm hcell hy1 hal k1 LD ST HAll
    go_wp2_with fail
    go_loopw [5] (fun iv wr => ∃ k : Nat, k ≤ cn ∧ iv = .int .i64 (k : Int) ∧ Hid (Below y1.heap.size y1 wr) ∧ Hid (sWhole l = (cs.drop k).all (inTb s.tb))) (fun iv _ => cn - (intOf iv).toNat)
    case atStart => exact ⟨0, Nat.zero_le _, rfl, Below.refl _ _, by rw [List.drop_zero]; exact HW.out⟩
    case round =>
      obtain ⟨k, hk, rfl, HB1, HP⟩ := hrel
      by_cases hlt : k < cn
      · have q1 : (k : Int) < (cn : Int) := by omega
        have HLT := Lib.hid hlt
        obtain ⟨cx, hcx⟩ : ∃ cx, cs[k]? = some cx := ⟨_, List.getElem?_eq_getElem (by rw [← HCN.out]; exact hlt)⟩
        have e1 := all_at hcx (inTb s.tb)
        rw [← HP.out] at e1
        obtain ⟨cb, co, rfl, hcc⟩ := HCC.out (by omega)
        have HCE : Hid (∀ x : World, Below y1.heap.size y1 x → x.cell? ⟨cb, co + k, none⟩ = some (.int .i64 cx)) := fun x hx => by
          have := hcc x hx k hlt
          rw [hcx] at this
          exact this
        have E1 := Lib.hid e1
        have r1 := HRY.out _ HB1.out
        clear hcx e1 hcc hlt
        go_wp2_with fail
        clear r1
        go_loopw [6, 7] (fun bv jv wr2 => ∃ j : Nat, j ≤ m ∧ jv = .int .i64 (j : Int) ∧ bv = .bool (inTb (s.tb.take j) cx) ∧ Hid (Below y1.heap.size y1 wr2)) (fun _ jv _ => m - (intOf jv).toNat)
        case atStart => exact ⟨0, Nat.zero_le _, rfl, rfl, HB1⟩
        case round =>
          obtain ⟨j, hj, rfl, rfl, HB2⟩ := hrel
          have r1 := HRY.out _ HB2.out
          by_cases hlt2 : j < m
          · have q2 : (j : Int) < (m : Int) := by omega
            have HLT2 := Lib.hid hlt2
            obtain ⟨p, hp⟩ : ∃ p, s.tb[j]? = some p := ⟨_, List.getElem?_eq_getElem (by rw [← HM.out]; exact hlt2)⟩
            have e2 := inTb_take hp cx
            obtain ⟨bt, ot, rfl, hbt, p1, p2⟩ := (HTB2.out _ HB2.out).at hp
            obtain ⟨pa, pb⟩ := p
            simp only at p1 e2
            have d1 := HCE.out _ HB2.out
            have hkc : (k : Int) < (cn : Int) := q1
            have HB3 : Hid (Below y1.heap.size y1 wr.drew) := HB2.out.drew
            obtain ⟨bo, hbo⟩ : ∃ bo, inTb (s.tb.take j) cx = bo := ⟨_, rfl⟩
            rw [hbo] at e2 ⊢
            have E2 := Lib.hid e2
            clear hp e2 hbt p2 hlt2 hbo
            cases bo with
            | true =>
              go_wp2_with fail
              refine region_plan (fun z => z = wr.drew) 14 (.takes [0, 1, 2, 3, 4, 5, 6, 7, 8, 9, 10, 11, 12, 13] .leaf) hmx (by kernel_rfl) (by intro c x v a w h; cases x <;> exact h) rfl ?_
              repeat (rw [wpPlan_takes_cons]; simp only [nth_zero, nth_succ]; go_big_quiet_step (fail); try (with_reducible refine wpQuiet_nil ?_))
              rw [wpPlan_takes_nil, wpPlan_leaf]
              simp only [List.drop_succ_cons, List.drop_zero]
              go_wp2_with fail
              exact ⟨⟨j + 1, HLT2.out, by simp, by rw [E2.out]; rfl, HB3⟩, by have := HLT2.out; simp [intOf]; omega⟩
            | false =>
              have HE3 : Hid (inTb (s.tb.take (j + 1)) cx = (pa == cx)) := by show _ = _; rw [E2.out]; rfl
              go_wp2_with fail
              refine region_plan (fun z => z = wr.drew) 14 (.takes [0, 1, 2, 3, 4, 5, 6, 7, 8, 9, 10, 11, 12, 13] .leaf) hmx (by kernel_rfl) (by intro c x v a w h; cases x <;> exact h) rfl ?_
              repeat (rw [wpPlan_takes_cons]; simp only [nth_zero, nth_succ]; go_big_quiet_step (fail); try (with_reducible refine wpQuiet_nil ?_))
              rw [wpPlan_takes_nil, wpPlan_leaf]
              simp only [List.drop_succ_cons, List.drop_zero]
              go_wp2_with fail
              exact ⟨⟨j + 1, HLT2.out, by simp, by rw [HE3.out], HB3⟩, by have := HLT2.out; simp [intOf]; omega⟩
          · obtain rfl : j = m := by omega
            have e3 : inTb (s.tb.take j) cx = inTb s.tb cx := by rw [List.take_of_length_le (by rw [← HM.out]; exact Nat.le_refl _)]
            rw [e3]
            obtain ⟨bo, hbo⟩ : ∃ bo, inTb s.tb cx = bo := ⟨_, rfl⟩
            have E4 := E1.out
            rw [hbo] at E4 ⊢
            clear hlt2 e3 hbo
            cases bo with
            | true =>
              have E5 : Hid (sWhole l = (cs.drop (k + 1)).all (inTb s.tb)) := E4
              clear E4
              go_wp2_with fail
              exact ⟨⟨k + 1, HLT.out, by simp, HB2, E5⟩, by have := HLT.out; simp [intOf]; omega⟩
            | false =>
              have E5 : Hid (sWhole l = false) := E4
              clear E4
              go_wp2_with fail
              go_ret
              rw [E5.out]
              exact ⟨rfl, HFin.out _ HB2.out⟩
      · obtain rfl : k = cn := by omega
        have E5 : Hid (sWhole l = true) := by show _ = _; rw [HP.out, List.drop_of_length_le (by rw [← HCN.out]; exact Nat.le_refl _)]; rfl
        clear hlt
        go_wp2_with fail
        go_ret
        rw [E5.out]
        exact ⟨rfl, HFin.out _ HB1.out⟩
end Go.Proofs.YtfihpljgbghogaaGreat

/- The document's plan: may it be? -/
namespace Go.Proofs.YtfihpljgbghogaaGreat
open Go.RowKit Go.Shelf Go.Lib
set_option linter.unusedVariables false
set_option linter.unusedSimpArgs false
attribute [-simp] Tryz.isAgg51 Tryz.zeroValue51 Tryz.isAgg54 Tryz.zeroValue54 Tryz.isAgg30 Tryz.zeroValue30
attribute [-go_sem] loadVar storeVar
attribute [local go_sem] loadVar_openQ storeVar_openQ zero_sn zero_prs zero_st
theorem pairs_no {g : SG} {kd : Int} {l : List SN} {ps : List (Int × Int)} {i : Nat} (hi : i < ps.length) (h : pairAt g kd l ps i = false) : sPairsOk g kd l ps = false := by
  unfold sPairsOk
  rw [List.all_eq_false]
  exact ⟨i, List.mem_range.2 hi, by rw [h]; decide⟩
theorem pairs_yes {g : SG} {kd : Int} {l : List SN} {ps : List (Int × Int)} (h : ∀ i, i < ps.length → pairAt g kd l ps i = true) : sPairsOk g kd l ps = true := by
  unfold sPairsOk
  rw [List.all_eq_true]
  exact fun i hi => h i (List.mem_range.1 hi)

/-- A pair that is not in its place, or out of order. -/
def prBad (g : SG) (ps : List (Int × Int)) (k : Nat) (a : Int) : Bool := decide (a < 0) || decide ((g.b : Int) ≤ a) || (decide (0 < k) && decide (a ≤ (ps[k - 1]?.getD (0, 0)).1))
def prAt2 (g : SG) (l : List SN) (ps : List (Int × Int)) (k : Nat) (b : Int) : Bool := (b == 255) || (decide (0 ≤ b) && decide (b < (g.a : Int)) && !(sHeld l b) && !((ps.take k).any fun p => p.2 == b))
theorem pair_is {g : SG} {kd : Int} {l : List SN} {ps : List (Int × Int)} {k : Nat} {a b : Int} (h : ps[k]? = some (a, b)) : pairAt g kd l ps k = (!(prBad g ps k a) && (if kd = 1 then sHeld l b else prAt2 g l ps k b)) := by
  unfold pairAt prBad prAt2
  rw [h]
  simp only [Option.getD_some]
  have e : (decide (0 ≤ a) && decide (a < (g.b : Int)) && (decide (k = 0) || decide ((ps[k - 1]?.getD (0, 0)).1 < a))) = !(decide (a < 0) || decide ((g.b : Int) ≤ a) || (decide (0 < k) && decide (a ≤ (ps[k - 1]?.getD (0, 0)).1))) := by
    rw [Bool.eq_iff_iff]
    simp
  rw [e]
theorem any_take {ps : List (Int × Int)} {j : Nat} {p : Int × Int} (h : ps[j]? = some p) (b : Int) : (ps.take (j + 1)).any (fun p => p.2 == b) = ((ps.take j).any (fun p => p.2 == b) || (p.2 == b)) := by
  rw [take_at h, List.any_append]
  simp

set_option maxRecDepth 100000 in
set_option maxHeartbeats 4000000 in
/-- **plan**. -/
theorem rf14_plan {w : World} {q : PS} {l : List SN} {ps : List (Int × Int)} (g : SG) (hg : g.Ok) (r : Int) (h : StIs w q l ps) (hK : Lens 1000 l) (hp : ps.length ≤ 1000) :
    Calls Tryz.prog 45 #[.agg (g.v r), stV q] w fun e w' => e = .returned (.bool (sPlan g ⟨[], l, q.nx, q.kd, q.id, ps⟩)) ∧ Below w.heap.size w w' := by
  have hmx : Tryz.prog.follows .mixedOrders = true := by kernel_rfl
  obtain ⟨⟨qd, qdn, qdc⟩, ⟨qs, qsn, qsc⟩, nx, kd, id, ⟨qp, qpn, qpc⟩⟩ := q
  simp only [stV, stL, slV]
  have hsn := h.sn
  have hpr := h.pr
  simp only [slV] at hsn hpr
  obtain ⟨B, hB⟩ : ∃ B, w.heap.size = B := ⟨_, rfl⟩
  obtain ⟨W1, hW1⟩ : ∃ W, w.alloc (.cells (g.v r) 23) = W := ⟨_, rfl⟩
  obtain ⟨W2, hW2⟩ : ∃ W, W1.alloc (.cells #[.slice qd qdn qdc, .slice qs qsn qsc, .int .i64 nx, .int .i64 kd, .int .i64 id, .slice qp qpn qpc] 30) = W := ⟨_, rfl⟩
  obtain ⟨W3, hW3⟩ : ∃ W, W2.alloc (.cells #[.int .i64 kd, .int .i64 id, .slice qp qpn qpc] 28) = W := ⟨_, rfl⟩
  have s1 : W1.heap.size = B + 1 := by rw [← hW1, ← hB]; simp
  have s2 : W2.heap.size = B + 2 := by rw [← hW2, World.size_alloc, s1]
  have s3 : W3.heap.size = B + 3 := by rw [← hW3, World.size_alloc, s2]
  have r1 : RowC W1 B 23 [.int .i64 (g.b : Int), .int .i64 (g.s : Int), .int .i64 (g.y : Int), .int .i64 (g.a : Int), .int .i64 r] := by rw [← hW1, ← hB]; exact RowC.new _ _ _
  have r2 : RowC W2 (B + 1) 30 [.slice qd qdn qdc, .slice qs qsn qsc, .int .i64 nx, .int .i64 kd, .int .i64 id, .slice qp qpn qpc] := by rw [← hW2, ← s1]; exact RowC.new _ _ _
  have r3 : RowC W3 (B + 2) 28 [.int .i64 kd, .int .i64 id, .slice qp qpn qpc] := by rw [← hW3, ← s2]; exact RowC.new _ _ _
  have b1 : Below B w W1 := by rw [← hW1, ← hB]; exact below_new _ _
  have b2 : Below W1.heap.size W1 W2 := by rw [← hW2]; exact below_new _ _
  have b3 : Below W2.heap.size W2 W3 := by rw [← hW3]; exact below_new _ _
  have b12 : Below B w W2 := b1.trans (b2.mono (by omega))
  have b13 : Below B w W3 := b12.trans (b3.mono (by omega))
  have HBF : Hid (∀ x : World, Below W3.heap.size W3 x → Below B w x) := fun x hx => b13.trans (hx.mono (by omega))
  have KR : Hid (∀ x : World, Below W3.heap.size W3 x → x.cell? ⟨B, 0, none⟩ = some (.int .i64 (g.b : Int)) ∧ x.cell? ⟨B, 3, none⟩ = some (.int .i64 (g.a : Int)) ∧ x.cell? ⟨B + 1, 1, none⟩ = some (.slice qs qsn qsc) ∧ x.cell? ⟨B + 1, 2, none⟩ = some (.int .i64 nx) ∧
      x.cell? ⟨B + 2, 0, none⟩ = some (.int .i64 kd) ∧ x.cell? ⟨B + 2, 1, none⟩ = some (.int .i64 id) ∧ x.cell? ⟨B + 2, 2, none⟩ = some (.slice qp qpn qpc)) := fun x hx => by
    have t1 := ((r1.below b2).below b3).below hx
    have t2 := (r2.below b3).below hx
    have t3 := r3.below hx
    exact ⟨t1.cell 0 _ rfl, t1.cell 3 _ rfl, t2.cell 1 _ rfl, t2.cell 2 _ rfl, t3.cell 0 _ rfl, t3.cell 1 _ rfl, t3.cell 2 _ rfl⟩
  have e3 := r2.cell 3 _ rfl
  have e4 := r2.cell 4 _ rfl
  have e5 := r2.cell 5 _ rfl
  have KSn : Hid (∀ x : World, Below W3.heap.size W3 x → Snp x (.slice qs qsn qsc) l) := fun x hx => hsn.below (by rw [hB]; exact HBF.out x hx)
  have KPr : Hid (∀ x : World, Below W3.heap.size W3 x → Prt x (.slice qp qpn qpc) ps) := fun x hx => hpr.below (by rw [hB]; exact HBF.out x hx)
  have HKL := Lib.hid hK
  have HPN : Hid (qpn = ps.length) := by obtain ⟨a', c', e, -⟩ := hpr; cases e; rfl
  have HSN : Hid (qsn = l.length) := by obtain ⟨r', a', c', e, -⟩ := hsn; cases e; rfl
  have hqp : qpn ≤ 1000 := by rw [HPN.out]; exact hp
  have hqs : qsn ≤ 1000 := by rw [HSN.out]; exact hK.1
  have HSZ := Lib.hid hB
  have ha := hg.a200
  have hbb := hg.b64
  have HI := Lib.hid (fun (x : World) (hx : Below W3.heap.size W3 x) => rf_index (KSn.out x hx) id)
  have HWh := Lib.hid (fun (x : World) (hx : Below W3.heap.size W3 x) => rf14_whole (KSn.out x hx) hK)
  have HHd := Lib.hid (fun (x : World) (hx : Below W3.heap.size W3 x) (y : Int) => rf14_held (KSn.out x hx) hK y)
  rw [hB]
  clear h hsn hpr hK hp r1 r2 r3 b1 b2 b3 b12 b13
  unfold SG.v at *
  obtain ⟨k0, k1, k2, k3, k4, k5, k6⟩ := KR.out W3 (Below.refl _ _)
  go_enter Tryz.func45, Tryz.ntmps45
  go_upto_block 0 with (fail)
  go_cut [] from 12 (fun wx => Hid (Below W3.heap.size W3 wx) ∧ Hid ((kd = 1 ∨ kd = 2) ∧ sPlan g ⟨[], l, nx, kd, id, ps⟩ = sPairsOk g kd l ps))
  case first =>
    by_cases d0 : kd = 0
    · subst d0
      have HF : Hid (Below B w W3) := HBF.out _ (Below.refl _ _)
      by_cases d1 : id = 0
      · subst d1
        have E0 : Hid (sPlan g ⟨[], l, nx, 0, 0, ps⟩ = ((qpn : Int) == 0)) := by
          show _ = _
          rw [HPN.out]
          unfold sPlan
          by_cases h : ps.length = 0 <;> simp [h]
        go_wp2_with fail
        go_ret
        rw [E0.out]
        exact ⟨rfl, HF.out⟩
      · have E0 : Hid (sPlan g ⟨[], l, nx, 0, id, ps⟩ = false) := by
          show _ = _
          unfold sPlan
          simp [d1]
        have q1 : (id == 0) = false := by simpa using d1
        clear d1
        go_wp2_with fail
        go_ret
        rw [E0.out]
        exact ⟨rfl, HF.out⟩
    · have q0 : (kd == 0) = false := by simpa using d0
      by_cases d1 : kd = 1
      · subst d1
        clear d0
        obtain ⟨u, hu⟩ : ∃ u, cIndex l id = u := ⟨_, rfl⟩
        have E0 : Hid (sPlan g ⟨[], l, nx, 1, id, ps⟩ = (decide (0 ≤ u) && sPairsOk g 1 l ps)) := by
          show _ = _
          rw [← hu]
          unfold sPlan
          simp
        have HX := HI.out _ (Below.refl _ _)
        rw [hu] at HX
        have HX1 := Lib.hid HX
        clear HX hu
        go_wp2_with fail
        refine HX1.out.mono ?_
        rintro e y ⟨rfl, hy⟩
        rw [hy]
        clear hy
        by_cases d2 : u < 0
        · have E1 : Hid (sPlan g ⟨[], l, nx, 1, id, ps⟩ = false) := by
            show _ = _
            rw [E0.out, decide_eq_false (by omega)]
            rfl
          have HF : Hid (Below B w W3) := HBF.out _ (Below.refl _ _)
          go_wp2_with fail
          go_ret
          rw [E1.out]
          exact ⟨rfl, HF.out⟩
        · have E1 : Hid (sPlan g ⟨[], l, nx, 1, id, ps⟩ = sPairsOk g 1 l ps) := by
            show _ = _
            rw [E0.out, decide_eq_true (by omega)]
            rfl
          have q2 : decide (u < 0) = false := by simpa using d2
          clear d2
          go_wp2_with fail
          go_meet
          exact ⟨Below.refl _ _, by simp, E1.out⟩
      · have q1 : (kd == 1) = false := by simpa using d1
        by_cases d2 : kd = 2
        · subst d2
          clear d0 d1
          have HF : Hid (Below B w W3) := HBF.out _ (Below.refl _ _)
          have E0 : Hid (sPlan g ⟨[], l, nx, 2, id, ps⟩ = (decide (nx ≤ id) && decide (id ≤ 1000000) && decide (qsn < 8) && sWhole l && sPairsOk g 2 l ps)) := by
            show _ = _
            rw [HSN.out]
            unfold sPlan
            simp
          obtain ⟨wh, hwh⟩ : ∃ u, sWhole l = u := ⟨_, rfl⟩
          rw [hwh] at E0
          have HX := HWh.out _ (Below.refl _ _)
          rw [hwh] at HX
          have HX1 := Lib.hid HX
          clear HX hwh
          by_cases d3 : nx ≤ id
          · have q3 : decide (id < nx) = false := by simpa using d3
            by_cases d4 : id ≤ 1000000
            · have q4 : decide (1000000 < id) = false := by simpa using d4
              by_cases d5 : qsn < 8
              · have q5 : decide (8 ≤ (qsn : Int)) = false := by simp; omega
                have E2 : Hid (sPlan g ⟨[], l, nx, 2, id, ps⟩ = (wh && sPairsOk g 2 l ps)) := by
                  show _ = _
                  rw [E0.out, decide_eq_true d3, decide_eq_true d4, decide_eq_true d5]
                  simp
                clear d3 d4 d5
                go_wp2_with fail
                refine HX1.out.mono ?_
                rintro e y ⟨rfl, hy⟩
                have HBY := Lib.hid hy
                clear hy
                cases wh with
                | true =>
                  go_wp2_with fail
                  go_meet
                  exact ⟨HBY.out, by simp, by rw [E2.out]; rfl⟩
                | false =>
                  have E3 : Hid (sPlan g ⟨[], l, nx, 2, id, ps⟩ = false) := by
                    show _ = _
                    rw [E2.out]
                    rfl
                  have HG : Hid (Below B w y) := HBF.out _ HBY.out
                  go_wp2_with fail
                  go_ret
                  rw [E3.out]
                  exact ⟨rfl, HG.out⟩
              · have q5 : decide (8 ≤ (qsn : Int)) = true := by simp; omega
                have E2 : Hid (sPlan g ⟨[], l, nx, 2, id, ps⟩ = false) := by
                  show _ = _
                  rw [E0.out, decide_eq_false d5]
                  simp
                clear d3 d4 d5
                go_wp2_with fail
                go_ret
                rw [E2.out]
                exact ⟨rfl, HF.out⟩
            · have q4 : decide (1000000 < id) = true := by simpa using d4
              have E2 : Hid (sPlan g ⟨[], l, nx, 2, id, ps⟩ = false) := by
                show _ = _
                rw [E0.out, decide_eq_false d4]
                simp
              clear d3 d4
              go_wp2_with fail
              go_ret
              rw [E2.out]
              exact ⟨rfl, HF.out⟩
          · have q3 : decide (id < nx) = true := by simpa using d3
            have E2 : Hid (sPlan g ⟨[], l, nx, 2, id, ps⟩ = false) := by
              show _ = _
              rw [E0.out, decide_eq_false d3]
              simp
            clear d3
            go_wp2_with fail
            go_ret
            rw [E2.out]
            exact ⟨rfl, HF.out⟩
        · have E0 : Hid (sPlan g ⟨[], l, nx, kd, id, ps⟩ = false) := by
            show _ = _
            unfold sPlan
            simp [d0, d1, d2]
          have HF : Hid (Below B w W3) := HBF.out _ (Below.refl _ _)
          have q2 : (kd == 2) = false := by simpa using d2
          clear d0 d1 d2
          go_wp2_with fail
          go_ret
          rw [E0.out]
          exact ⟨rfl, HF.out⟩
  case rest =>
    obtain ⟨HB0, E1⟩ := hcut
    go_wp2_with fail
    go_loopw [6] (fun iv wr => ∃ k : Nat, k ≤ qpn ∧ iv = .int .i64 (k : Int) ∧ Hid (Below W3.heap.size W3 wr) ∧ Hid (∀ i, i < k → pairAt g kd l ps i = true)) (fun iv _ => qpn - (intOf iv).toNat)
    case atStart => exact ⟨0, Nat.zero_le _, rfl, HB0, fun i hi => absurd hi (Nat.not_lt_zero i)⟩
    case round =>
      clear k0 k1 k2 k3 k4 k5 k6
      obtain ⟨k, hk, rfl, HB1, HP⟩ := hrel
      have r6 := (KR.out _ HB1.out).2.2.2.2.2.2
      by_cases hlt : k < qpn
      · have q1 : (k : Int) < (qpn : Int) := by omega
        have HLT := Lib.hid hlt
        obtain ⟨⟨pa, pb⟩, hp⟩ : ∃ p, ps[k]? = some p := ⟨_, List.getElem?_eq_getElem (by rw [← HPN.out]; exact hlt)⟩
        obtain ⟨bp, op, rfl, hbp, p1, p2⟩ := (KPr.out _ HB1.out).at hp
        simp only at p1 p2
        have LD := load_prs p1 p2
        have ST := new_prs wr pa pb
        obtain ⟨Y, hY⟩ : ∃ Y, wr.alloc (.cells #[.int .i64 pa, .int .i64 pb] 54) = Y := ⟨_, rfl⟩
        have bY : Below wr.heap.size wr Y := by rw [← hY]; exact below_new _ _
        have rY : RowC Y wr.heap.size 54 (prL pa pb) := by rw [← hY]; exact RowC.new wr _ _
        rw [hY] at ST
        obtain ⟨C, hC⟩ : ∃ C, wr.heap.size = C := ⟨_, rfl⟩
        rw [hC] at ST rY bY
        have HBY : Hid (Below W3.heap.size W3 Y) := HB1.out.trans (bY.mono (by rw [← hC]; exact HB1.out.size))
        have HCY : Hid (∀ x : World, Below Y.heap.size Y x → x.cell? ⟨C, 0, none⟩ = some (.int .i64 pa) ∧ x.cell? ⟨C, 1, none⟩ = some (.int .i64 pb)) := fun x hx => ⟨(rY.below hx).cell 0 _ rfl, (rY.below hx).cell 1 _ rfl⟩
        have HPI := Lib.hid (pair_is (g := g) (kd := kd) (l := l) hp)
        have HPP := Lib.hid hp
        obtain ⟨bad, hbad⟩ : ∃ bad, prBad g ps k pa = bad := ⟨_, rfl⟩
        have HBad := Lib.hid hbad
        clear hp hbp p1 p2 bY rY hY hlt hbad
        go_wp2_with fail
        go_cut [93] from 68 to 93 (fun s93 wx => s93 = .bool bad ∧ wx = Y.drew)
        case first =>
          clear LD ST r6
          obtain ⟨c0, c1⟩ := HCY.out Y (Below.refl _ _)
          obtain ⟨k0, -, -, -, -, -, k6⟩ := KR.out _ HBY.out
          by_cases hA : pa < 0
          · have d1 : decide (pa < 0) = true := by simpa using hA
            have HB8 : Hid (bad = true) := by
              show _ = _
              rw [← HBad.out]
              unfold prBad
              simp [hA]
            clear hA
            refine region_plan (fun z => z = Y.drew) 25 (.takes [0, 1, 2, 3, 4, 5, 6, 7, 8, 9, 10, 11, 12, 13, 14, 15, 16, 17, 18, 19, 20, 21, 22, 23, 24] .leaf) hmx (by kernel_rfl) (by intro c x v a w h; cases x <;> exact h) rfl ?_
            repeat (rw [wpPlan_takes_cons]; simp only [nth_zero, nth_succ]; go_big_quiet_step (fail); try (with_reducible refine wpQuiet_nil ?_))
            rw [wpPlan_takes_nil, wpPlan_leaf]
            simp only [List.drop_succ_cons, List.drop_zero]
            go_wp2_with fail
            go_meet
            exact ⟨by rw [HB8.out], rfl⟩
          · have d1 : decide (pa < 0) = false := by simpa using hA
            by_cases hA2 : (g.b : Int) ≤ pa
            · have d2 : decide ((g.b : Int) ≤ pa) = true := by simpa using hA2
              have HB8 : Hid (bad = true) := by
                show _ = _
                rw [← HBad.out]
                unfold prBad
                simp [hA2]
              clear hA hA2
              refine region_plan (fun z => z = Y.drew) 25 (.takes [0, 1, 2, 3, 4, 5, 6, 7, 8, 9, 10, 11, 12, 13, 14, 15, 16, 17, 18, 19, 20, 21, 22, 23, 24] .leaf) hmx (by kernel_rfl) (by intro c x v a w h; cases x <;> exact h) rfl ?_
              repeat (rw [wpPlan_takes_cons]; simp only [nth_zero, nth_succ]; go_big_quiet_step (fail); try (with_reducible refine wpQuiet_nil ?_))
              rw [wpPlan_takes_nil, wpPlan_leaf]
              simp only [List.drop_succ_cons, List.drop_zero]
              go_wp2_with fail
              go_meet
              exact ⟨by rw [HB8.out], rfl⟩
            · have d2 : decide ((g.b : Int) ≤ pa) = false := by simpa using hA2
              by_cases hk0 : k = 0
              · have d3 : decide (0 < (k : Int)) = false := by simp; omega
                have d4 : decide (0 < k) = false := by simp; omega
                have HB8 : Hid (bad = false) := by
                  show _ = _
                  rw [← HBad.out]
                  unfold prBad
                  rw [d1, d2, d4]
                  rfl
                clear hA hA2 hk0
                refine region_plan (fun z => z = Y.drew) 25 (.takes [0, 1, 2, 3, 4, 5, 6, 7, 8, 9, 10, 11, 12, 13, 14, 15, 16, 17, 18, 19, 20, 21, 22, 23, 24] .leaf) hmx (by kernel_rfl) (by intro c x v a w h; cases x <;> exact h) rfl ?_
                repeat (rw [wpPlan_takes_cons]; simp only [nth_zero, nth_succ]; go_big_quiet_step (fail); try (with_reducible refine wpQuiet_nil ?_))
                rw [wpPlan_takes_nil, wpPlan_leaf]
                simp only [List.drop_succ_cons, List.drop_zero]
                go_wp2_with fail
                go_meet
                exact ⟨by rw [HB8.out], rfl⟩
              · have d3 : decide (0 < (k : Int)) = true := by simp; omega
                have d4 : decide (0 < k) = true := by simp; omega
                have d5 : 0 < k := by omega
                obtain ⟨j, hj⟩ : ∃ j, k - 1 = j := ⟨_, rfl⟩
                have hkj : (k : Int) - 1 = (j : Int) := by omega
                have hjq : (j : Int) < (qpn : Int) := by omega
                obtain ⟨⟨pc, pd⟩, hp2⟩ : ∃ p, ps[j]? = some p := ⟨_, List.getElem?_eq_getElem (by rw [← HPN.out]; omega)⟩
                obtain ⟨b', o', e', -, p1, p2⟩ := (KPr.out _ HBY.out).at hp2
                cases e'
                simp only at p1 p2
                have HB7 : Hid (bad = decide (pa ≤ pc)) := by
                  show _ = _
                  rw [← HBad.out]
                  unfold prBad
                  rw [d1, d2, d4, hj, hp2]
                  rfl
                clear hA hA2 hk0 hj hp2
                by_cases hA3 : pa ≤ pc
                · have d6 : decide (pa ≤ pc) = true := by simpa using hA3
                  have HB8 : Hid (bad = true) := by show _ = _; rw [HB7.out, d6]
                  clear hA3
                  refine region_plan (fun z => z = Y.drew) 25 (.takes [0, 1, 2, 3, 4, 5, 6, 7, 8, 9, 10, 11, 12, 13, 14, 15, 16, 17, 18, 19, 20, 21, 22, 23, 24] .leaf) hmx (by kernel_rfl) (by intro c x v a w h; cases x <;> exact h) rfl ?_
                  repeat (rw [wpPlan_takes_cons]; simp only [nth_zero, nth_succ]; go_big_quiet_step (fail); try (with_reducible refine wpQuiet_nil ?_))
                  rw [wpPlan_takes_nil, wpPlan_leaf]
                  simp only [List.drop_succ_cons, List.drop_zero]
                  go_wp2_with fail
                  go_meet
                  exact ⟨by rw [HB8.out], rfl⟩
                · have d6 : decide (pa ≤ pc) = false := by simpa using hA3
                  have HB8 : Hid (bad = false) := by show _ = _; rw [HB7.out, d6]
                  clear hA3
                  refine region_plan (fun z => z = Y.drew) 25 (.takes [0, 1, 2, 3, 4, 5, 6, 7, 8, 9, 10, 11, 12, 13, 14, 15, 16, 17, 18, 19, 20, 21, 22, 23, 24] .leaf) hmx (by kernel_rfl) (by intro c x v a w h; cases x <;> exact h) rfl ?_
                  repeat (rw [wpPlan_takes_cons]; simp only [nth_zero, nth_succ]; go_big_quiet_step (fail); try (with_reducible refine wpQuiet_nil ?_))
                  rw [wpPlan_takes_nil, wpPlan_leaf]
                  simp only [List.drop_succ_cons, List.drop_zero]
                  go_wp2_with fail
                  go_meet
                  exact ⟨by rw [HB8.out], rfl⟩
        case rest =>
          obtain ⟨rfl, rfl⟩ := hcut
          have HBD : Hid (Below W3.heap.size W3 Y.drew) := HBY.out.drew
          have HYD : Hid (Below Y.heap.size Y Y.drew) := (Below.refl Y.heap.size Y).drew
          have HG : Hid (Below B w Y.drew) := HBF.out _ HBD.out
          obtain ⟨c0, c1⟩ := HCY.out _ HYD.out
          obtain ⟨k0, k1, k2, k3, k4, k5, k6⟩ := KR.out _ HBD.out
          clear LD ST r6
          cases bad with
          | true =>
            have E5 : Hid (sPlan g ⟨[], l, nx, kd, id, ps⟩ = false) := by show _ = _; rw [E1.out.2]; exact pairs_no (by rw [← HPN.out]; exact HLT.out) (by rw [HPI.out, HBad.out]; rfl)
            go_wp2_with fail
            go_ret
            rw [E5.out]
            exact ⟨rfl, HG.out⟩
          | false =>
            obtain ⟨hh, hhh⟩ : ∃ u, sHeld l pb = u := ⟨_, rfl⟩
            have HX := HHd.out _ HBD.out pb
            rw [hhh] at HX
            have HX1 := Lib.hid HX
            have HHh := Lib.hid hhh
            clear HX hhh
            rcases E1.out.1 with hk1 | hk2
            · have e1 : (kd == 1) = true := by simpa using hk1
              have HPK : Hid (pairAt g kd l ps k = hh) := by
                show _ = _
                rw [HPI.out, HBad.out, if_pos hk1, HHh.out]
                rfl
              clear hk1
              go_wp2_with fail
              refine HX1.out.mono ?_
              rintro e y ⟨rfl, hy⟩
              rw [hy]
              clear hy
              cases hh with
              | true =>
                have HPs : Hid (∀ i, i < k + 1 → pairAt g kd l ps i = true) := fun i hi => by
                  by_cases h : i < k
                  · exact HP.out i h
                  · obtain rfl : i = k := by omega
                    exact HPK.out
                go_wp2_with fail
                exact ⟨⟨k + 1, HLT.out, by simp, HBD.out, HPs.out⟩, by have := HLT.out; simp [intOf]; omega⟩
              | false =>
                have E5 : Hid (sPlan g ⟨[], l, nx, kd, id, ps⟩ = false) := by show _ = _; rw [E1.out.2]; exact pairs_no (by rw [← HPN.out]; exact HLT.out) (by exact HPK.out)
                go_wp2_with fail
                go_ret
                rw [E5.out]
                exact ⟨rfl, HG.out⟩
            · have e1 : (kd == 1) = false := by rw [hk2]; rfl
              have HPK : Hid (pairAt g kd l ps k = prAt2 g l ps k pb) := by
                show _ = _
                rw [HPI.out, HBad.out, if_neg (by omega)]
                rfl
              clear hk2
              by_cases z : pb = 255
              · have e2 : (pb == 255) = true := by simpa using z
                have HPs : Hid (∀ i, i < k + 1 → pairAt g kd l ps i = true) := fun i hi => by
                  by_cases h : i < k
                  · exact HP.out i h
                  · obtain rfl : i = k := by omega
                    rw [HPK.out]; unfold prAt2; rw [e2]; rfl
                clear z
                go_wp2_with fail
                exact ⟨⟨k + 1, HLT.out, by simp, HBD.out, HPs.out⟩, by have := HLT.out; simp [intOf]; omega⟩
              · have e2 : (pb == 255) = false := by simpa using z
                clear z
                by_cases hA : pb < 0
                · have d1 : decide (pb < 0) = true := by simpa using hA
                  have E5 : Hid (sPlan g ⟨[], l, nx, kd, id, ps⟩ = false) := by show _ = _; rw [E1.out.2]; exact pairs_no (by rw [← HPN.out]; exact HLT.out) (by rw [HPK.out]; unfold prAt2; rw [e2, decide_eq_false (by omega : ¬ 0 ≤ pb)]; simp)
                  clear hA
                  go_wp2_with fail
                  go_ret
                  rw [E5.out]
                  exact ⟨rfl, HG.out⟩
                · have d1 : decide (pb < 0) = false := by simpa using hA
                  have d2 : decide (0 ≤ pb) = true := by simp; omega
                  by_cases hA2 : (g.a : Int) ≤ pb
                  · have d3 : decide ((g.a : Int) ≤ pb) = true := by simpa using hA2
                    have E5 : Hid (sPlan g ⟨[], l, nx, kd, id, ps⟩ = false) := by show _ = _; rw [E1.out.2]; exact pairs_no (by rw [← HPN.out]; exact HLT.out) (by rw [HPK.out]; unfold prAt2; rw [e2, decide_eq_false (by omega : ¬ pb < (g.a : Int))]; simp)
                    clear hA hA2 d2
                    go_wp2_with fail
                    go_ret
                    rw [E5.out]
                    exact ⟨rfl, HG.out⟩
                  · have d3 : decide ((g.a : Int) ≤ pb) = false := by simpa using hA2
                    have HPK2 : Hid (pairAt g kd l ps k = (!hh && !((ps.take k).any fun p => p.2 == pb))) := by
                      show _ = _
                      rw [HPK.out]
                      unfold prAt2
                      rw [e2, d2, decide_eq_true (by omega : pb < (g.a : Int)), HHh.out]
                      rfl
                    clear hA hA2 d2
                    go_wp2_with fail
                    refine HX1.out.mono ?_
                    rintro e y ⟨rfl, hy⟩
                    rw [hy]
                    clear hy
                    cases hh with
                    | true =>
                      have E5 : Hid (sPlan g ⟨[], l, nx, kd, id, ps⟩ = false) := by show _ = _; rw [E1.out.2]; exact pairs_no (by rw [← HPN.out]; exact HLT.out) (by rw [HPK2.out]; rfl)
                      go_wp2_with fail
                      go_ret
                      rw [E5.out]
                      exact ⟨rfl, HG.out⟩
                    | false =>
                      clear c0 c1 k0 k1 k2 k3 k4 k5 k6
                      go_wp2_with fail
                      go_loopw [8] (fun jv wr2 => ∃ j : Nat, j ≤ k ∧ jv = .int .i64 (j : Int) ∧ Hid (Below Y.heap.size Y wr2) ∧ Hid ((ps.take j).any (fun p => p.2 == pb) = false)) (fun jv _ => k - (intOf jv).toNat)
                      case atStart => exact ⟨0, Nat.zero_le _, rfl, HYD.out, rfl⟩
                      case round =>
                        obtain ⟨j, hj, rfl, HB2, HN⟩ := hrel
                        obtain ⟨c0, c1⟩ := HCY.out _ HB2.out
                        have HBE : Hid (Below W3.heap.size W3 wr) := HBY.out.trans (HB2.out.mono HBY.out.size)
                        have k6 := (KR.out _ HBE.out).2.2.2.2.2.2
                        by_cases hlt2 : j < k
                        · have q2 : (j : Int) < (k : Int) := by omega
                          have q3 : (j : Int) < (qpn : Int) := by have := HLT.out; omega
                          have HLT2 := Lib.hid hlt2
                          obtain ⟨⟨pc, pd⟩, hp2⟩ : ∃ p, ps[j]? = some p := ⟨_, List.getElem?_eq_getElem (by rw [← HPN.out]; omega)⟩
                          obtain ⟨b', o', e', -, p1, p2⟩ := (KPr.out _ HBE.out).at hp2
                          cases e'
                          simp only at p1 p2
                          have HN2 := Lib.hid (any_take hp2 pb)
                          have HB3 : Hid (Below Y.heap.size Y wr.drew) := HB2.out.drew
                          have HG2 : Hid (Below B w wr.drew) := HBF.out _ HBE.out.drew
                          clear hp2 hlt2
                          by_cases hA : pd = pb
                          · have d4 : (pd == pb) = true := by simpa using hA
                            have E5 : Hid (sPlan g ⟨[], l, nx, kd, id, ps⟩ = false) := by
                              show _ = _
                              rw [E1.out.2]
                              refine pairs_no (by rw [← HPN.out]; exact HLT.out) ?_
                              rw [HPK2.out]
                              have h1 : (ps.take (j + 1)).any (fun p => p.2 == pb) = true := by rw [HN2.out]; simp [hA]
                              have h2 : (ps.take k).any (fun p => p.2 == pb) = true := by
                                rw [List.any_eq_true] at h1 ⊢
                                obtain ⟨x, hx, hx2⟩ := h1
                                exact ⟨x, (List.take_subset_take_left ps HLT2.out) hx, hx2⟩
                              rw [h2]
                              rfl
                            clear hA
                            go_wp2_with fail
                            refine region_plan (fun z => z = wr.drew) 8 (.takes [0, 1, 2, 3, 4, 5, 6, 7] .leaf) hmx (by kernel_rfl) (by intro c x v a w h; cases x <;> exact h) rfl ?_
                            repeat (rw [wpPlan_takes_cons]; simp only [nth_zero, nth_succ]; go_big_quiet_step (fail); try (with_reducible refine wpQuiet_nil ?_))
                            rw [wpPlan_takes_nil, wpPlan_leaf]
                            simp only [List.drop_succ_cons, List.drop_zero]
                            go_wp2_with fail
                            go_ret
                            rw [E5.out]
                            exact ⟨rfl, HG2.out⟩
                          · have d4 : (pd == pb) = false := by simpa using hA
                            have HN3 : Hid ((ps.take (j + 1)).any (fun p => p.2 == pb) = false) := by show _ = _; rw [HN2.out, HN.out]; simpa using hA
                            clear hA
                            go_wp2_with fail
                            refine region_plan (fun z => z = wr.drew) 8 (.takes [0, 1, 2, 3, 4, 5, 6, 7] .leaf) hmx (by kernel_rfl) (by intro c x v a w h; cases x <;> exact h) rfl ?_
                            repeat (rw [wpPlan_takes_cons]; simp only [nth_zero, nth_succ]; go_big_quiet_step (fail); try (with_reducible refine wpQuiet_nil ?_))
                            rw [wpPlan_takes_nil, wpPlan_leaf]
                            simp only [List.drop_succ_cons, List.drop_zero]
                            go_wp2_with fail
                            exact ⟨⟨j + 1, HLT2.out, by simp, HB3, HN3⟩, by have := HLT2.out; simp [intOf]; omega⟩
                        · obtain rfl : j = k := by omega
                          have HPs : Hid (∀ i, i < j + 1 → pairAt g kd l ps i = true) := fun i hi => by
                            by_cases h : i < j
                            · exact HP.out i h
                            · obtain rfl : i = j := by omega
                              rw [HPK2.out, HN.out]; rfl
                          clear hlt2
                          go_wp2_with fail
                          exact ⟨⟨j + 1, HLT.out, by simp, HBE, HPs.out⟩, by have := HLT.out; simp [intOf]; omega⟩
      · obtain rfl : k = qpn := by omega
        have E5 : Hid (sPlan g ⟨[], l, nx, kd, id, ps⟩ = true) := by show _ = _; rw [E1.out.2]; exact pairs_yes fun i hi => HP.out i (by rw [HPN.out]; exact hi)
        clear hlt
        have HG : Hid (Below B w wr) := HBF.out _ HB1.out
        go_wp2_with fail
        go_ret
        rw [E5.out]
        exact ⟨rfl, HG.out⟩
end Go.Proofs.YtfihpljgbghogaaGreat

