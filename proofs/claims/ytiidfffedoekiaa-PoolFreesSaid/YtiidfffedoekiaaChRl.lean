/- The document's Good, of snapshots of whatever length. -/
import Derived.Test.YtiidfffedoekiaaChDq
namespace Go.Proofs.Ytiidfffedoekiaa
open Go.RowKit Go.Shelf
set_option linter.unusedVariables false
set_option linter.unusedSimpArgs false
attribute [-simp] Try.isAgg39 Try.zeroValue39 Try.isAgg42 Try.zeroValue42
attribute [-go_sem] loadVar storeVar
attribute [local go_sem] loadVar_openPS storeVar_openPS zero_sn zero_prs

theorem pass_lens {s : SN} {bl ar : Int} (h5 : goodB s.ch bl = true) (h6 : tGood s.tb bl ar = true) (hb : bl ≤ 1000) : s.ch.length ≤ 1000 ∧ s.tb.length ≤ 1000 := by
  constructor
  · unfold goodB at h5
    rw [Bool.and_eq_true, decide_eq_true_eq] at h5
    rw [h5.1]
    unfold sizeB
    split <;> omega
  · by_cases h0 : bl < 0
    · obtain ⟨h1, -, -⟩ := (tGood_iff _ _ _).1 h6
      cases hl : s.tb with
      | nil => simp
      | cons p l => have := h1 p (by rw [hl]; simp); omega
    · obtain ⟨n, rfl⟩ : ∃ n : Nat, bl = (n : Int) := ⟨bl.toNat, by omega⟩
      have := table_len h6
      omega

set_option maxRecDepth 100000 in
set_option maxHeartbeats 16000000 in
theorem rf11_goodL {w : World} {v : Value} {l : List SN} (h : Snp w v l) (bl ar : Int) (hbl1 : bl ≤ 1000) (hbl : (Lit.int .i64 bl).wf = true) :
    Calls Try.prog 10 #[v, .int .i64 bl, .int .i64 ar] w fun e w' => e = .returned (.bool (cGood l bl ar)) ∧ Below w.heap.size w w' := by
  have hmx : Try.prog.follows .mixedOrders = true := by kernel_rfl
  obtain ⟨r, h⟩ := h
  have HS := Lib.hid h
  have HB1 := Lib.hid hbl1
  have HBL := Lib.hid hbl
  obtain ⟨a, cap, rfl, h1, h2, -⟩ := h
  obtain ⟨len, hle⟩ : ∃ len, l.length = len := ⟨_, rfl⟩
  have HL := Lib.hid hle
  rw [hle] at HS h1 ⊢
  by_cases h8 : 8 < len
  · have q0 : (len : Int) > 8 := by omega
    have q1 : decide ((len : Int) > 8) = true := by simpa using q0
    have HG : Hid (cGood l bl ar = false) := by show _ = _; unfold cGood; rw [hle, decide_eq_false (by omega)]; rfl
    clear h1 h2 hle h8 hbl
    go_enter Try.func10, Try.ntmps10
    go_wp2_with fail
    go_ret
    exact ⟨by rw [HG.out]; rfl, Below.refl _ _⟩
  · have hlen : len ≤ 8 := by omega
    have q0 : ¬ (len : Int) > 8 := by omega
    have q1 : decide ((len : Int) > 8) = false := by simpa using q0
    obtain ⟨gd, hgd⟩ : ∃ gd, cGood l bl ar = gd := ⟨_, rfl⟩
    have HR0 : Hid (rGo bl ar (cAts (l.take 0)) 0 (l.drop 0) = gd) := by show _ = _; rw [← hgd, rGood_is l bl ar (by omega)]; rfl
    rw [hgd]
    clear h1 h2 hle h8 hgd hbl
    go_enter Try.func10, Try.ntmps10
    go_wp2_with fail
    go_loopw [7, 8] (fun uv iv W => ∃ (k : Nat) (u : SlV) (last : Int), k ≤ len ∧ iv = .int .i64 (k : Int) ∧ uv = slV u ∧ Hid (InO w.heap.size W (slV u) (cAts (l.take k))) ∧ Hid (k = 0 → last = 0) ∧ Hid (0 < k → ∃ p, l[k - 1]? = some p ∧ p.id = last) ∧ Hid (0 ≤ last) ∧ Hid (rGo bl ar (cAts (l.take k)) last (l.drop k) = gd) ∧ Hid (∀ t ∈ l.take k, t.tb.length ≤ 1000) ∧ Hid (Below w.heap.size w W)) (fun _ iv _ => len - (intOf iv).toNat)
    case atStart => exact ⟨0, (none, 0, 0), 0, Nat.zero_le _, rfl, rfl, InO.nil _ _, fun _ => rfl, fun h => absurd h (by omega), Int.le_refl _, HR0, (fun t ht => by simp at ht), Below.refl _ _⟩
    case round =>
      obtain ⟨W, hWwr⟩ : ∃ W, W = wr := ⟨_, rfl⟩
      subst hWwr
      obtain ⟨k, u, last, hk, rfl, rfl, HU, HL0, HLP, HLN, HR, HT1, HB⟩ := hrel
      by_cases hlt : k < len
      · obtain ⟨s, hs⟩ : ∃ s, l[k]? = some s := ⟨_, List.getElem?_eq_getElem (by rw [HL.out]; exact hlt)⟩
        have hst := rGo_at hs bl ar last (cAts (l.take k))
        rw [HR.out] at hst
        have HAN : Hid (cAts (l.take (k + 1)) = cAts (l.take k) ++ s.tb.map (·.2)) := by show _ = _; rw [take_at hs, cAts_snoc]
        have HAL : Hid ((cAts (l.take k)).length ≤ 8000) := by
          have h1 := cAts_len (K := 1000) (l.take k) (fun t ht => HT1.out t ht)
          rw [List.length_take] at h1
          show _ ≤ _
          omega
        obtain ⟨A, hA⟩ : ∃ A, cAts (l.take k) = A := ⟨_, rfl⟩
        rw [hA] at hst HAN HAL HU
        have HST := Lib.hid hst
        obtain ⟨b, off, q, rfl, hb, -, hq, e0, e1, e2⟩ := HS.out.at hs
        have hz := HB.out.size
        have LD := load_sn ((HB.out.cell (p := ⟨b, off + k * 3, none⟩) hb).trans e0) ((HB.out.cell (p := ⟨b, off + k * 3 + 1, none⟩) hb).trans e1) ((HB.out.cell (p := ⟨b, off + k * 3 + 2, none⟩) hb).trans e2)
        have ST := new_sn W q
        obtain ⟨Y, hY⟩ : ∃ Y, W.alloc (.cells (svL q).toArray 39) = Y := ⟨_, rfl⟩
        have bY : Below W.heap.size W Y := by rw [← hY]; exact below_new _ _
        have rY : RowC Y W.heap.size 39 (svL q) := by rw [← hY]; exact RowC.new W _ _
        rw [hY] at ST
        obtain ⟨C, hC⟩ : ∃ C, W.heap.size = C := ⟨_, rfl⟩
        rw [hC] at ST rY
        have HBY : Hid (Below w.heap.size w Y) := HB.out.trans (bY.mono hz)
        have HUY := Lib.hid (HU.out.below bY)
        obtain ⟨id, ⟨x, n, c⟩, ⟨y, m, d⟩⟩ := q
        obtain rfl : id = s.id := hq.id
        have RY : Hid (RowC Y C 39 [.int .i64 s.id, .slice x n c, .slice y m d]) := rY
        have HM : Hid (m = s.tb.length) := by obtain ⟨a', ca', e, -⟩ := hq.tb; simp only [slV, Value.slice.injEq] at e; show _ = _; omega
        have hm1 : m ≤ 9223372036854775807 := by obtain ⟨a', ca', e, q1, q2, -⟩ := hq.tb; have := HM.out; unfold maxLen at q2; omega
        have hch1 : s.ch.length ≤ 9223372036854775807 := by obtain ⟨a', ca', e, q1, q2, -⟩ := hq.ch; unfold maxLen at q2; omega
        have HTB : Hid (∀ z : World, Below w.heap.size w z → Prt z (.slice y m d) s.tb) := fun z hz => hq.tb.below hz
        have HCH : Hid (∀ z : World, Below w.heap.size w z → Sl .u8 z (.slice x n c) s.ch) := fun z hz => hq.ch.below hz
        have HOK := Lib.hid hq.ok
        have c0 : ∀ z : Ext Y, z.1.cell? ⟨C, 0, none⟩ = some (.int .i64 s.id) := fun z => (rY.below z.2).cell 0 _ rfl
        have c1 : ∀ z : Ext Y, z.1.cell? ⟨C, 1, none⟩ = some (.slice x n c) := fun z => (rY.below z.2).cell 1 _ rfl
        have c2 : ∀ z : Ext Y, z.1.cell? ⟨C, 2, none⟩ = some (.slice y m d) := fun z => (rY.below z.2).cell 2 _ rfl
        have HCG : Hid (∀ z : Ext Y, Calls Try.prog 29 #[.slice x n c, .int .i64 bl] z.1 fun e w'' => e = .returned (.bool (goodB s.ch bl)) ∧ ∃ y : Ext Y, w'' = y.1) := fun z => calls_ext z (rf9_good _ s.ch bl HBL.out z.1 (HCH.out _ (HBY.out.trans (z.2.mono HBY.out.size))) HOK.out.ch hch1)
        have HTG : Hid (∀ z : Ext Y, Calls Try.prog 30 #[.slice y m d, .int .i64 bl, .int .i64 ar] z.1 fun e w'' => e = .returned (.bool (tGood s.tb bl ar)) ∧ ∃ y : Ext Y, w'' = y.1) := fun z => calls_ext z (rf_good (HTB.out _ (HBY.out.trans (z.2.mono HBY.out.size))) bl ar (by have := HM.out; omega))
        have g1 : (k : Int) < (len : Int) := by omega
        have HW : Hid (wrap64 ((k : Int) + 1) = (k : Int) + 1) := IntWalk.wrap64_in _ (by omega)
        have HW2 : Hid (wrap64 ((k : Int) - 1) = (k : Int) - 1) := IntWalk.wrap64_in _ (by omega)
        have HLT := Lib.hid hlt
        have HK8 : Hid (k < 8) := by show k < 8; omega
        have HSK := Lib.hid hs
        have hlast := HLN.out
        obtain ⟨ux, un, uc⟩ := u
        have HUN : Hid (un = A.length) := InO.len (c := uc) (a := ux) HU.out
        simp only [slV] at HUY ⊢
        by_cases q1 : s.id < 1
        · have f1 : decide (s.id < 1) = true := by simpa using q1
          have HG : Hid (gd = false) := by show _ = _; rw [HST.out, rS_false (fun h => by omega), Bool.false_and]
          clear hst hA hb hq e0 e1 e2 hz bY rY HU hlt hs
          go_wp2_with fail
          clear LD ST
          try rw [hY]
          clear hY
          refine region_ext (by kernel_rfl) (by kernel_rfl) ?_
          repeat (go_big_quiet_step (with_reducible (first | exact HCG.out _ | exact HTG.out _)); try rw [HD5.out])
          try (with_reducible refine wpQuiet_nil ?_)
          intro z0
          have HBZ : Hid (Below w.heap.size w z0.1) := HBY.out.trans (z0.2.mono HBY.out.size)
          clear c0 c1 c2 HCG HTG
          go_wp2_with fail
          go_ret
          exact ⟨by rw [HG.out]; rfl, HBZ.out⟩
        · have f1 : decide (s.id < 1) = false := by simpa using q1
          by_cases q2 : s.id > 1000000
          · have f2 : decide (s.id > 1000000) = true := by simpa using q2
            have HG : Hid (gd = false) := by show _ = _; rw [HST.out, rS_false (fun h => by omega), Bool.false_and]
            clear hst hA hb hq e0 e1 e2 hz bY rY HU hlt hs
            go_wp2_with fail
            clear LD ST
            try rw [hY]
            clear hY
            refine region_ext (by kernel_rfl) (by kernel_rfl) ?_
            repeat (go_big_quiet_step (with_reducible (first | exact HCG.out _ | exact HTG.out _)); try rw [HD5.out])
            try (with_reducible refine wpQuiet_nil ?_)
            intro z0
            have HBZ : Hid (Below w.heap.size w z0.1) := HBY.out.trans (z0.2.mono HBY.out.size)
            clear c0 c1 c2 HCG HTG
            go_wp2_with fail
            go_ret
            exact ⟨by rw [HG.out]; rfl, HBZ.out⟩
          · have f2 : decide (s.id > 1000000) = false := by simpa using q2
            by_cases hk0 : k = 0
            · obtain rfl := HL0.out hk0
              have HD5 : Hid (decide (0 < k) = false) := by show _ = _; simp; omega
              have f3 : ¬ ((k : Int) > 0) := by omega
              have f3' : decide ((k : Int) > 0) = false := by simpa using f3
              clear hk0
              cases hb5 : goodB s.ch bl with
              | false =>
                rw [hb5] at HCG
                have HG : Hid (gd = false) := by show _ = _; rw [HST.out, rS_false (fun h => by rw [hb5] at h; exact absurd h.2.2.2.1 (by decide)), Bool.false_and]
                clear hst hA hb hq e0 e1 e2 hz bY rY HU hlt hs
                clear hb5
                go_wp2_with fail
                clear LD ST
                try rw [hY]
                clear hY
                refine region_ext (by kernel_rfl) (by kernel_rfl) ?_
                repeat (go_big_quiet_step (with_reducible (first | exact HCG.out _ | exact HTG.out _)); try rw [HD5.out])
                try (with_reducible refine wpQuiet_nil ?_)
                intro z0
                have HBZ : Hid (Below w.heap.size w z0.1) := HBY.out.trans (z0.2.mono HBY.out.size)
                clear c0 c1 c2 HCG HTG
                go_wp2_with fail
                go_ret
                exact ⟨by rw [HG.out]; rfl, HBZ.out⟩
              | true =>
                rw [hb5] at HCG
                cases hb6 : tGood s.tb bl ar with
                | false =>
                  rw [hb6] at HTG
                  have HG : Hid (gd = false) := by show _ = _; rw [HST.out, rS_false (fun h => by rw [hb6] at h; exact absurd h.2.2.2.2 (by decide)), Bool.false_and]
                  clear hst hA hb hq e0 e1 e2 hz bY rY HU hlt hs
                  clear hb5 hb6
                  go_wp2_with fail
                  clear LD ST
                  try rw [hY]
                  clear hY
                  refine region_ext (by kernel_rfl) (by kernel_rfl) ?_
                  repeat (go_big_quiet_step (with_reducible (first | exact HCG.out _ | exact HTG.out _)); try rw [HD5.out])
                  try (with_reducible refine wpQuiet_nil ?_)
                  intro z0
                  have HBZ : Hid (Below w.heap.size w z0.1) := HBY.out.trans (z0.2.mono HBY.out.size)
                  clear c0 c1 c2 HCG HTG
                  go_wp2_with fail
                  go_ret
                  exact ⟨by rw [HG.out]; rfl, HBZ.out⟩
                | true =>
                  rw [hb6] at HTG
                  have HCL : Hid (s.ch.length ≤ 1000 ∧ s.tb.length ≤ 1000) := pass_lens hb5 hb6 HB1.out
                  have HT2 : Hid (∀ t ∈ l.take (k + 1), t.tb.length ≤ 1000) := fun t ht => by
                    rw [take_at hs] at ht
                    rcases List.mem_append.1 ht with ht | ht
                    · exact HT1.out t ht
                    · rw [List.mem_singleton.1 ht]; exact HCL.out.2
                  have HRS : Hid (gd = (rT A s && ((decide (l.length ≤ k + 1) || rF s) && rGo bl ar (A ++ s.tb.map (·.2)) s.id (l.drop (k + 1))))) := by show _ = _; rw [HST.out, rS_true ⟨by omega, by omega, by omega, hb5, hb6⟩, Bool.true_and]
                  have HID0 : Hid (0 ≤ s.id) := by show 0 ≤ s.id; omega
                  clear hst hA hb hq e0 e1 e2 hz bY rY HU hlt hs HST hb5 hb6
                  go_wp2_with fail
                  clear LD ST
                  try rw [hY]
                  clear hY
                  refine region_ext (by kernel_rfl) (by kernel_rfl) ?_
                  repeat (go_big_quiet_step (with_reducible (first | exact HCG.out _ | exact HTG.out _)); try rw [HD5.out])
                  try (with_reducible refine wpQuiet_nil ?_)
                  intro z0
                  have HBZ : Hid (Below w.heap.size w z0.1) := HBY.out.trans (z0.2.mono HBY.out.size)
                  clear c0 c1 c2 HCG HTG

                  obtain ⟨Z, hZ⟩ : ∃ Z, z0.1 = Z := ⟨_, rfl⟩
                  have RZ := Lib.hid (RY.out.below z0.2)
                  have UZ := Lib.hid (HUY.out.below z0.2)
                  rw [hZ] at HBZ RZ UZ
                  try rw [hZ]
                  clear hZ z0 RY HUY HBY HB HD5 HLP HL0 HLN HW2 hlast HR
                  go_wp2_with fail
                  go_loopw [10] (fun jv V => ∃ j : Nat, j ≤ m ∧ jv = .int .i64 (j : Int) ∧ Hid (∀ (i : Nat) (p : Int × Int), i < j → s.tb[i]? = some p → hasB s.ch p.1 = true ∧ p.2 ∉ A) ∧ Hid (Below Z.heap.size Z V)) (fun jv _ => m - (intOf jv).toNat)
                  case atStart => exact ⟨0, Nat.zero_le _, rfl, fun i p h => absurd h (by omega), Below.refl _ _⟩
                  case round =>
                    obtain ⟨V, hVwr⟩ : ∃ V, V = wr := ⟨_, rfl⟩
                    subst hVwr
                    obtain ⟨j, hj, rfl, HAJ, HV⟩ := hrel
                    have HBV : Hid (Below w.heap.size w V) := HBZ.out.trans (HV.out.mono HBZ.out.size)
                    have RV := Lib.hid (RZ.out.below HV.out)
                    have UV := Lib.hid (UZ.out.below HV.out)
                    have c2 := RV.out.cell 2 _ rfl
                    by_cases hjm : j < m
                    · obtain ⟨p, hp⟩ : ∃ p, s.tb[j]? = some p := ⟨_, List.getElem?_eq_getElem (by rw [← HM.out]; exact hjm)⟩
                      obtain ⟨bb, boff, rfl, hbb, t0, t1⟩ := (HTB.out _ HBV.out).at hp
                      have g2 : (j : Int) < (m : Int) := by omega
                      have HWJ : Hid (wrap64 ((j : Int) + 1) = (j : Int) + 1) := IntWalk.wrap64_in _ (by omega)
                      have hp64 := HOK.out.tb p (List.mem_of_getElem? hp)
                      obtain ⟨pb, pa⟩ := p
                      simp only at t0 t1 hp64
                      have d1 : ∀ z : Ext V, z.1.cell? ⟨C, 1, none⟩ = some (.slice x n c) := fun z => (RV.out.below z.2).cell 1 _ rfl
                      have d2 : ∀ z : Ext V, z.1.cell? ⟨C, 2, none⟩ = some (.slice (some ⟨bb, boff, none⟩) m d) := fun z => (RV.out.below z.2).cell 2 _ rfl
                      have d3 : ∀ z : Ext V, z.1.cell? ⟨bb, boff + j * 2, none⟩ = some (.int .i64 pb) := fun z => (z.2.cell (p := ⟨bb, boff + j * 2, none⟩) hbb).trans t0
                      have HHA : Hid (∀ z : Ext V, Calls Try.prog 31 #[.slice x n c, .int .i64 pb] z.1 fun e w'' => e = .returned (.bool (hasB s.ch pb)) ∧ ∃ y : Ext V, w'' = y.1) := fun z => (rf_has _ s.ch pb (wf_i64 hp64.1.1 hp64.1.2) z.1 (HCH.out _ (HBV.out.trans (z.2.mono HBV.out.size))) HOK.out.ch).mono fun e w'' ⟨h1, h2⟩ => ⟨h1, z, h2⟩
                      have HJM := Lib.hid hjm
                      have HP := Lib.hid hp
                      have HBB : Hid (bb < V.heap.size ∧ V.cell? ⟨bb, boff + j * 2 + 1, none⟩ = some (.int .i64 pa)) := ⟨hbb, t1⟩
                      cases hh : hasB s.ch pb with
                      | false =>
                        rw [hh] at HHA
                        have HG : Hid (gd = false) := by show _ = _; rw [HRS.out, rT_no HP.out (.inl hh), Bool.false_and]
                        clear hjm hp hbb t0 t1 hp64 hh
                        go_wp2_with fail
                        refine region_ext (by kernel_rfl) (by kernel_rfl) ?_
                        repeat (go_big_quiet_step (with_reducible (first | exact HHA.out _)))
                        try (with_reducible refine wpQuiet_nil ?_)
                        intro z1
                        have HBZ : Hid (Below w.heap.size w z1.1) := HBV.out.trans (z1.2.mono HBV.out.size)
                        clear d1 d2 d3 HHA c2
                        go_wp2_with fail
                        go_ret
                        exact ⟨by rw [HG.out]; rfl, HBZ.out⟩
                      | true =>
                        rw [hh] at HHA
                        have HHH := Lib.hid hh
                        clear hjm hp hbb t0 t1 hp64 hh
                        go_wp2_with fail
                        refine region_ext (by kernel_rfl) (by kernel_rfl) ?_
                        repeat (go_big_quiet_step (with_reducible (first | exact HHA.out _)))
                        try (with_reducible refine wpQuiet_nil ?_)
                        intro z1
                        obtain ⟨V2, hV2⟩ : ∃ V2, z1.1 = V2 := ⟨_, rfl⟩
                        have bV : Below V.heap.size V V2 := by rw [← hV2]; exact z1.2
                        have RV2 := Lib.hid (RV.out.below bV)
                        have UV2 := Lib.hid (UV.out.below bV)
                        have HBV2 : Hid (Below w.heap.size w V2) := HBV.out.trans (bV.mono HBV.out.size)
                        have HV2 : Hid (Below Z.heap.size Z V2) := HV.out.trans (bV.mono HV.out.size)
                        have HPA : Hid (bb < V2.heap.size ∧ V2.cell? ⟨bb, boff + j * 2 + 1, none⟩ = some (.int .i64 pa)) := ⟨Nat.lt_of_lt_of_le HBB.out.1 bV.size, (bV.cell (p := ⟨bb, boff + j * 2 + 1, none⟩) HBB.out.1).trans HBB.out.2⟩
                        try rw [hV2]
                        clear d1 d2 d3 HHA c2 hV2 z1 bV RV UV HBV HV HBB
                        go_wp2_with fail
                        go_loopw [11] (fun iv X => ∃ i : Nat, i ≤ un ∧ iv = .int .i64 (i : Int) ∧ Hid (∀ (i' : Nat) (y : Int), i' < i → A[i']? = some y → y ≠ pa) ∧ Hid (Below V2.heap.size V2 X)) (fun iv _ => un - (intOf iv).toNat)
                        case atStart => exact ⟨0, Nat.zero_le _, rfl, fun i p h => absurd h (by omega), Below.refl _ _⟩
                        case round =>
                          obtain ⟨X, hXwr⟩ : ∃ X, X = wr := ⟨_, rfl⟩
                          subst hXwr
                          obtain ⟨i, hi, rfl, HI, HX⟩ := hrel
                          by_cases hin : i < un
                          · obtain ⟨y0, hy0⟩ : ∃ y0, A[i]? = some y0 := ⟨_, List.getElem?_eq_getElem (by rw [← HUN.out]; exact hin)⟩
                            obtain ⟨g, rfl, hgs, u0⟩ := (UV2.out.below HX.out).at hy0
                            have d2 : ∀ z : Ext X, z.1.cell? ⟨C, 2, none⟩ = some (.slice (some ⟨bb, boff, none⟩) m d) := fun z => ((RV2.out.below HX.out).below z.2).cell 2 _ rfl
                            have d4 : ∀ z : Ext X, z.1.cell? ⟨bb, boff + j * 2 + 1, none⟩ = some (.int .i64 pa) := fun z => (z.2.cell (p := ⟨bb, boff + j * 2 + 1, none⟩) (Nat.lt_of_lt_of_le HPA.out.1 HX.out.size)).trans ((HX.out.cell (p := ⟨bb, boff + j * 2 + 1, none⟩) HPA.out.1).trans HPA.out.2)
                            have d5 : ∀ z : Ext X, z.1.cell? ⟨g, i, none⟩ = some (.int .i64 y0) := fun z => (z.2.cell (p := ⟨g, i, none⟩) hgs).trans u0
                            have g3 : (i : Int) < (un : Int) := by omega
                            have HWI : Hid (wrap64 ((i : Int) + 1) = (i : Int) + 1) := IntWalk.wrap64_in _ (by have := HUN.out; have := HAL.out; omega)
                            have HIN := Lib.hid hin
                            have HY0 := Lib.hid hy0
                            have g4 : (j : Int) < (m : Int) := g2
                            clear hy0 hgs u0 hin
                            by_cases hyp : y0 = pa
                            · have qy : (y0 == pa) = true := by simpa using hyp
                              have HG : Hid (gd = false) := by show _ = _; rw [HRS.out, rT_no HP.out (.inr (by show pa ∈ A; rw [← hyp]; exact List.mem_of_getElem? HY0.out)), Bool.false_and]
                              clear hyp
                              go_wp2_with fail
                              refine region_ext (by kernel_rfl) (by kernel_rfl) ?_
                              repeat (go_big_quiet_step (fail))
                              try (with_reducible refine wpQuiet_nil ?_)
                              intro z1
                              have HBZ : Hid (Below w.heap.size w z1.1) := HBV2.out.trans ((HX.out.trans (z1.2.mono HX.out.size)).mono HBV2.out.size)
                              clear d2 d4 d5
                              go_wp2_with fail
                              go_ret
                              exact ⟨by rw [HG.out]; rfl, HBZ.out⟩
                            · have qy : (y0 == pa) = false := by simpa using hyp
                              have HI1 : Hid (∀ (i' : Nat) (y : Int), i' < i + 1 → A[i']? = some y → y ≠ pa) := fun i' y hi' hy' => by
                                by_cases e : i' = i
                                · subst e; rw [HY0.out] at hy'; cases hy'; exact hyp
                                · exact HI.out i' y (by omega) hy'
                              go_wp2_with fail
                              refine region_ext (by kernel_rfl) (by kernel_rfl) ?_
                              repeat (go_big_quiet_step (fail))
                              try (with_reducible refine wpQuiet_nil ?_)
                              intro z1
                              have HX1 : Hid (Below V2.heap.size V2 z1.1) := HX.out.trans (z1.2.mono HX.out.size)
                              clear d2 d4 d5
                              go_wp2_with fail
                              exact ⟨⟨i + 1, HIN.out, by first | (simp; done) | (simp; exact HWI.out) | (rw [HWI.out]; simp), HI1, HX1⟩, by have := HIN.out; first | (simp [intOf]; omega) | (rw [HWI.out]; simp [intOf]; omega) | (simp [intOf, HWI.out]; omega)⟩
                          · have hie : un ≤ i := by omega
                            have HNA : Hid (∀ (i' : Nat) (p : Int × Int), i' < j + 1 → s.tb[i']? = some p → hasB s.ch p.1 = true ∧ p.2 ∉ A) := fun i' p hi' hp' => by
                              by_cases e : i' = j
                              · subst e
                                rw [HP.out] at hp'
                                cases hp'
                                refine ⟨HHH.out, fun hm => ?_⟩
                                obtain ⟨t, ht⟩ := List.getElem?_of_mem hm
                                exact HI.out t _ (by have := (List.getElem?_eq_some_iff.1 ht).1; have := HUN.out; omega) ht rfl
                              · exact HAJ.out i' p (by omega) hp'
                            have g3 : ¬ ((i : Int) < (un : Int)) := by omega
                            have g3' : decide ((i : Int) < (un : Int)) = false := by simpa using g3
                            have HVX : Hid (Below Z.heap.size Z X) := HV2.out.trans (HX.out.mono HV2.out.size)
                            clear hie
                            go_wp2_with fail
                            exact ⟨⟨j + 1, HJM.out, by first | (simp; done) | (simp; exact HWJ.out) | (rw [HWJ.out]; simp), HNA, HVX⟩, by have := HJM.out; first | (simp [intOf]; omega) | (rw [HWJ.out]; simp [intOf]; omega) | (simp [intOf, HWJ.out]; omega)⟩
                    · obtain rfl : j = m := by omega
                      have HRT : Hid (gd = ((decide (l.length ≤ k + 1) || rF s) && rGo bl ar (cAts (l.take (k + 1))) s.id (l.drop (k + 1)))) := by
                        show _ = _
                        rw [HRS.out, HAN.out, rT_of (fun i p hp => HAJ.out i p (by have := (List.getElem?_eq_some_iff.1 hp).1; have := HM.out; omega) hp), Bool.true_and]
                      clear HRS HV HAJ RZ UZ HBZ hjm hj
                      go_wp2_with fail
                      clear c2
                      go_loopw [7, 12] (fun uv jv X => ∃ (i : Nat) (u' : SlV), i ≤ j ∧ jv = .int .i64 (i : Int) ∧ uv = slV u' ∧ Hid (InO w.heap.size X (slV u') (A ++ (s.tb.take i).map (·.2))) ∧ Hid (RowC X C 39 [.int .i64 s.id, .slice x n c, .slice y j d]) ∧ Hid (Below w.heap.size w X)) (fun _ jv _ => j - (intOf jv).toNat)
                      case atStart => exact ⟨0, (ux, un, uc), Nat.zero_le _, rfl, rfl, (by show InO _ _ _ _; rw [List.take_zero, List.map_nil, List.append_nil]; exact UV.out), RV, HBV⟩
                      case round =>
                        obtain ⟨X, hXwr⟩ : ∃ X, X = wr := ⟨_, rfl⟩
                        subst hXwr
                        obtain ⟨i, u', hi, rfl, rfl, HUI, RX, HBX⟩ := hrel
                        have c2 := RX.out.cell 2 _ rfl
                        by_cases hij : i < j
                        · obtain ⟨p, hp⟩ : ∃ p, s.tb[i]? = some p := ⟨_, List.getElem?_eq_getElem (by rw [← HM.out]; exact hij)⟩
                          obtain ⟨bb, boff, rfl, hbb, t0, t1⟩ := (HTB.out _ HBX.out).at hp
                          obtain ⟨pb, pa⟩ := p
                          simp only at t0 t1
                          have g2 : (i : Int) < (j : Int) := by omega
                          have HWI : Hid (wrap64 ((i : Int) + 1) = (i : Int) + 1) := IntWalk.wrap64_in _ (by omega)
                          obtain ⟨W3, vx, vn, vc, X4, hS1, hr, h1, h2⟩ := gd_app HUI.out HBX.out.size pa (by have := HCL.out; have := HAL.out; simp only [List.length_append, List.length_map, List.length_take]; omega)
                          have HA := Lib.hid hr
                          have SB := Lib.hid hS1
                          have HU4 : Hid (InO w.heap.size X4 (.slice vx vn vc) (A ++ (s.tb.take (i + 1)).map (·.2))) := by
                            show InO _ _ _ _
                            rw [take_at hp, List.map_append, ← List.append_assoc]
                            exact h1
                          have R4 := Lib.hid (RX.out.grownS HUI.out h2)
                          have HB4 : Hid (Below w.heap.size w X4) := HBX.out.grown h2 HBX.out.size (fun t e => (HUI.out.base t e).1)
                          obtain ⟨u0, u1, u2⟩ := u'
                          simp only [slV] at HA ⊢
                          have HIJ := Lib.hid hij
                          clear hp hbb t0 hr h1 h2 hS1 hij
                          go_wp2_with (first | (refine gate_build ?_; refine wpList_build_run 35 1 #[(0, .tmp 113)] rfl rfl [(0, .int .i64 pa)] _ rfl SB.out ?_) | (at_builtin; refine wpList_append_run (.tmp 107) (.tmp 114) 35 rfl rfl _ _ _ rfl rfl (HA.out _) ?_))
                          exact ⟨⟨i + 1, (vx, vn, vc), HIJ.out, by first | (simp; done) | (simp; exact HWI.out) | (rw [HWI.out]; simp), rfl, HU4, R4, HB4⟩, by have := HIJ.out; first | (simp [intOf]; omega) | (rw [HWI.out]; simp [intOf]; omega) | (simp [intOf, HWI.out]; omega)⟩
                        · obtain rfl : i = j := by omega
                          have HU5 : Hid (InO w.heap.size X (slV u') (cAts (l.take (k + 1)))) := by
                            have := HUI.out
                            rw [List.take_of_length_le (by have := HM.out; omega), ← HAN.out] at this
                            exact this
                          have c1 := RX.out.cell 1 _ rfl
                          have HALL := Lib.hid (rf_all (.slice x n c) s.ch X (HCH.out _ HBX.out) HOK.out.ch (by have := HCL.out; omega))
                          have g2 : ¬ ((i : Int) < (i : Int)) := by omega
                          clear HUI hij hi HBV RV UV
                          go_wp2_with fail
                          go_at_call 20
                          refine HALL.out.mono ?_
                          rintro e X6 ⟨cv, rfl, ho, hb6⟩
                          have HC0 : InO X.heap.size X6 cv ((allB s.ch).map fun k : Nat => (k : Int)) := by unfold InO; rw [List.length_map, ← natV_ints]; exact ho
                          obtain ⟨⟨ca, cn, cc⟩, rfl⟩ := HC0.isSl
                          have HCN : Hid (cn = ((allB s.ch).map fun k : Nat => (k : Int)).length) := InO.len (a := ca) (c := cc) HC0
                          obtain ⟨cl, hcl⟩ : ∃ cl, ((allB s.ch).map fun k : Nat => (k : Int)) = cl := ⟨_, rfl⟩
                          have HCLN : Hid (cl.length ≤ 8000) := by show _ ≤ _; rw [← hcl, List.length_map]; have := all_len s.ch; have := HCL.out; omega
                          rw [hcl] at HC0 HCN
                          have HCV := Lib.hid HC0
                          have HCE := Lib.hid hcl
                          have HU6 := Lib.hid (HU5.out.below hb6)
                          have R6 := Lib.hid (RX.out.below hb6)
                          have HB6 : Hid (Below w.heap.size w X6) := HBX.out.trans (hb6.mono HBX.out.size)
                          simp only [slV] at HCV ⊢
                          clear ho hb6 HC0 hcl HALL c1 c2 HU5 RX HBX
                          go_wp2_with fail
                          go_loopw [14] (fun jv V => ∃ j : Nat, j ≤ cn ∧ jv = .int .i64 (j : Int) ∧ Hid (∀ (t : Nat) (z : Int), t < j → cl[t]? = some z → (tFind s.tb z).isSome = true) ∧ Hid (Below X6.heap.size X6 V)) (fun jv _ => cn - (intOf jv).toNat)
                          case atStart => exact ⟨0, Nat.zero_le _, rfl, fun i p h => absurd h (by omega), Below.refl _ _⟩
                          case round =>
                            obtain ⟨V, hVwr⟩ : ∃ V, V = wr := ⟨_, rfl⟩
                            subst hVwr
                            obtain ⟨j, hj, rfl, HFJ, HV⟩ := hrel
                            have HWK := Lib.hid HW.out
                            have HBV : Hid (Below w.heap.size w V) := HB6.out.trans (HV.out.mono HB6.out.size)
                            have HUV := Lib.hid (HU6.out.below HV.out)
                            by_cases hjc : j < cn
                            · have g3 : (j : Int) < (cn : Int) := by omega
                              have g3' : decide ((j : Int) < (cn : Int)) = true := by simpa using g3
                              by_cases hkl : k + 1 < len
                              · have g4 : (k : Int) + 1 < (len : Int) := by omega
                                have g4' : decide ((k : Int) + 1 < (len : Int)) = true := by simpa using g4
                                obtain ⟨z0, hz0⟩ : ∃ z0, cl[j]? = some z0 := ⟨_, List.getElem?_eq_getElem (by rw [← HCN.out]; exact hjc)⟩
                                obtain ⟨g, rfl, hgs, u0⟩ := (HCV.out.below HV.out).at hz0
                                have d2 : ∀ z : Ext V, z.1.cell? ⟨C, 2, none⟩ = some (.slice y i d) := fun z => ((R6.out.below HV.out).below z.2).cell 2 _ rfl
                                have d5 : ∀ z : Ext V, z.1.cell? ⟨g, j, none⟩ = some (.int .i64 z0) := fun z => (z.2.cell (p := ⟨g, j, none⟩) hgs).trans u0
                                have HFD : Hid (∀ z : Ext V, Calls Try.prog 32 #[.slice y i d, .int .i64 z0] z.1 fun e w'' => e = .returned (.int .i64 (tIx s.tb z0)) ∧ ∃ y : Ext V, w'' = y.1) := fun z => (rf_find (HTB.out _ (HBV.out.trans (z.2.mono HBV.out.size))) z0 (by have := HCL.out; omega)).mono fun e w'' ⟨h1, h2⟩ => ⟨h1, z, h2⟩
                                have HWJ : Hid (wrap64 ((j : Int) + 1) = (j : Int) + 1) := IntWalk.wrap64_in _ (by have := HCN.out; have := HCLN.out; omega)
                                have HZ0 := Lib.hid hz0
                                have HJC := Lib.hid hjc
                                have HKL1 := Lib.hid hkl
                                clear hz0 hgs u0 hjc hkl
                                cases hf : tFind s.tb z0 with
                                | none =>
                                  have ht : tIx s.tb z0 = -1 := by unfold tIx; rw [hf]
                                  rw [ht] at HFD
                                  have HG : Hid (gd = false) := by
                                    show _ = _
                                    rw [HRT.out, rF_no (by rw [HCE.out]; exact HZ0.out) hf, decide_eq_false (by have := HKL1.out; have := HL.out; omega)]
                                    rfl
                                  clear hf ht
                                  go_wp2_with fail
                                  refine region_ext (by kernel_rfl) (by kernel_rfl) ?_
                                  repeat (go_big_quiet_step (with_reducible (first | exact HFD.out _)))
                                  try (with_reducible refine wpQuiet_nil ?_)
                                  intro z1
                                  have HBZ : Hid (Below w.heap.size w z1.1) := HBV.out.trans (z1.2.mono HBV.out.size)
                                  clear d2 d5 HFD
                                  go_wp2_with fail
                                  go_ret
                                  exact ⟨by rw [HG.out]; rfl, HBZ.out⟩
                                | some t =>
                                  have ht : tIx s.tb z0 = (t : Int) := by unfold tIx; rw [hf]
                                  rw [ht] at HFD
                                  have g5 : ¬ ((t : Int) < 0) := by omega
                                  have g5' : decide ((t : Int) < 0) = false := decide_eq_false g5
                                  have HF1 : Hid (∀ (t : Nat) (z : Int), t < j + 1 → cl[t]? = some z → (tFind s.tb z).isSome = true) := fun t' z ht' hz' => by
                                    by_cases e : t' = j
                                    · subst e; rw [HZ0.out] at hz'; cases hz'; rw [hf]; rfl
                                    · exact HFJ.out t' z (by omega) hz'
                                  clear hf ht
                                  go_wp2_with fail
                                  refine region_ext (by kernel_rfl) (by kernel_rfl) ?_
                                  repeat (go_big_quiet_step (with_reducible (first | exact HFD.out _)))
                                  try (with_reducible refine wpQuiet_nil ?_)
                                  intro z1
                                  have HV1 : Hid (Below X6.heap.size X6 z1.1) := HV.out.trans (z1.2.mono HV.out.size)
                                  clear d2 d5 HFD
                                  go_wp2_with fail
                                  exact ⟨⟨j + 1, HJC.out, by first | (simp; done) | (simp; exact HWJ.out) | (rw [HWJ.out]; simp), HF1, HV1⟩, by have := HJC.out; first | (simp [intOf]; omega) | (rw [HWJ.out]; simp [intOf]; omega) | (simp [intOf, HWJ.out]; omega)⟩
                              · have g4 : ¬ ((k : Int) + 1 < (len : Int)) := by omega
                                have g4' : decide ((k : Int) + 1 < (len : Int)) = false := by simpa using g4
                                have HNX : Hid (rGo bl ar (cAts (l.take (k + 1))) s.id (l.drop (k + 1)) = gd) := by
                                  show _ = _
                                  rw [HRT.out, decide_eq_true (by have := HL.out; omega), Bool.true_or, Bool.true_and]
                                clear hkl hjc HRT
                                go_wp2_with fail
                                exact ⟨⟨k + 1, u', s.id, HLT.out, by first | simp | (rw [HW.out]; simp), rfl, HUV, fun h => by simp at h, fun _ => ⟨s, HSK.out, rfl⟩, HID0, HNX, HT2, HBV⟩, by have := HLT.out; first | (simp [intOf]; omega) | (rw [HW.out]; simp [intOf]; omega)⟩
                            · have g3 : ¬ ((j : Int) < (cn : Int)) := by omega
                              have g3' : decide ((j : Int) < (cn : Int)) = false := by simpa using g3
                              have HNX : Hid (rGo bl ar (cAts (l.take (k + 1))) s.id (l.drop (k + 1)) = gd) := by
                                show _ = _
                                rw [HRT.out, rF_of (fun t z hz => by rw [HCE.out] at hz; exact HFJ.out t z (by have := (List.getElem?_eq_some_iff.1 hz).1; have := HCN.out; omega) hz), Bool.or_true, Bool.true_and]
                              clear hjc HRT
                              go_wp2_with fail
                              exact ⟨⟨k + 1, u', s.id, HLT.out, by first | simp | (rw [HW.out]; simp), rfl, HUV, fun h => by simp at h, fun _ => ⟨s, HSK.out, rfl⟩, HID0, HNX, HT2, HBV⟩, by have := HLT.out; first | (simp [intOf]; omega) | (rw [HW.out]; simp [intOf]; omega)⟩
            · obtain ⟨pp, hpp, hpl⟩ := HLP.out (by omega)
              obtain ⟨b', off', q', he, hbb, -, hqq, f0, -, -⟩ := HS.out.at hpp
              cases he
              obtain ⟨id', ch', tb'⟩ := q'
              simp only at f0
              obtain rfl : id' = last := by rw [← hpl]; exact hqq.id
              obtain ⟨m1, hm1⟩ : ∃ m1, k - 1 = m1 := ⟨_, rfl⟩
              rw [hm1] at f0
              have HD5 : Hid (decide (0 < k) = true) := by show _ = _; simp; omega
              have f3 : (k : Int) > 0 := by omega
              have f3' : decide ((k : Int) > 0) = true := by simpa using f3
              have hkm : (k : Int) - 1 = (m1 : Int) := by omega
              have hmn : (m1 : Int) < (len : Int) := by omega
              have p0 : ∀ z : Ext Y, z.1.cell? ⟨b, off + m1 * 3, none⟩ = some (.int .i64 id') := fun z => ((HBY.out.trans (z.2.mono HBY.out.size)).cell (p := ⟨b, off + m1 * 3, none⟩) hbb).trans f0
              clear hbb hqq f0 hpp hpl hm1 hk0
              by_cases q6 : s.id ≤ id'
              · have f4 : decide (s.id ≤ id') = true := by simpa using q6
                have HG : Hid (gd = false) := by show _ = _; rw [HST.out, rS_false (fun h => by omega), Bool.false_and]
                clear hst hA hb hq e0 e1 e2 hz bY rY HU hlt hs
                go_wp2_with fail
                clear LD ST
                try rw [hY]
                clear hY
                refine region_ext (by kernel_rfl) (by kernel_rfl) ?_
                repeat (go_big_quiet_step (with_reducible (first | exact HCG.out _ | exact HTG.out _)); try rw [HD5.out])
                try (with_reducible refine wpQuiet_nil ?_)
                intro z0
                have HBZ : Hid (Below w.heap.size w z0.1) := HBY.out.trans (z0.2.mono HBY.out.size)
                clear c0 c1 c2 HCG HTG
                clear p0
                go_wp2_with fail
                go_ret
                exact ⟨by rw [HG.out]; rfl, HBZ.out⟩
              · have f4 : decide (s.id ≤ id') = false := by simpa using q6
                cases hb5 : goodB s.ch bl with
                | false =>
                  rw [hb5] at HCG
                  have HG : Hid (gd = false) := by show _ = _; rw [HST.out, rS_false (fun h => by rw [hb5] at h; exact absurd h.2.2.2.1 (by decide)), Bool.false_and]
                  clear hst hA hb hq e0 e1 e2 hz bY rY HU hlt hs
                  clear hb5
                  go_wp2_with fail
                  clear LD ST
                  try rw [hY]
                  clear hY
                  refine region_ext (by kernel_rfl) (by kernel_rfl) ?_
                  repeat (go_big_quiet_step (with_reducible (first | exact HCG.out _ | exact HTG.out _)); try rw [HD5.out])
                  try (with_reducible refine wpQuiet_nil ?_)
                  intro z0
                  have HBZ : Hid (Below w.heap.size w z0.1) := HBY.out.trans (z0.2.mono HBY.out.size)
                  clear c0 c1 c2 HCG HTG
                  go_wp2_with fail
                  go_ret
                  exact ⟨by rw [HG.out]; rfl, HBZ.out⟩
                | true =>
                  rw [hb5] at HCG
                  cases hb6 : tGood s.tb bl ar with
                  | false =>
                    rw [hb6] at HTG
                    have HG : Hid (gd = false) := by show _ = _; rw [HST.out, rS_false (fun h => by rw [hb6] at h; exact absurd h.2.2.2.2 (by decide)), Bool.false_and]
                    clear hst hA hb hq e0 e1 e2 hz bY rY HU hlt hs
                    clear hb5 hb6
                    go_wp2_with fail
                    clear LD ST
                    try rw [hY]
                    clear hY
                    refine region_ext (by kernel_rfl) (by kernel_rfl) ?_
                    repeat (go_big_quiet_step (with_reducible (first | exact HCG.out _ | exact HTG.out _)); try rw [HD5.out])
                    try (with_reducible refine wpQuiet_nil ?_)
                    intro z0
                    have HBZ : Hid (Below w.heap.size w z0.1) := HBY.out.trans (z0.2.mono HBY.out.size)
                    clear c0 c1 c2 HCG HTG
                    go_wp2_with fail
                    go_ret
                    exact ⟨by rw [HG.out]; rfl, HBZ.out⟩
                  | true =>
                    rw [hb6] at HTG
                    have HCL : Hid (s.ch.length ≤ 1000 ∧ s.tb.length ≤ 1000) := pass_lens hb5 hb6 HB1.out
                    have HT2 : Hid (∀ t ∈ l.take (k + 1), t.tb.length ≤ 1000) := fun t ht => by
                      rw [take_at hs] at ht
                      rcases List.mem_append.1 ht with ht | ht
                      · exact HT1.out t ht
                      · rw [List.mem_singleton.1 ht]; exact HCL.out.2
                    have HRS : Hid (gd = (rT A s && ((decide (l.length ≤ k + 1) || rF s) && rGo bl ar (A ++ s.tb.map (·.2)) s.id (l.drop (k + 1))))) := by show _ = _; rw [HST.out, rS_true ⟨by omega, by omega, by omega, hb5, hb6⟩, Bool.true_and]
                    have HID0 : Hid (0 ≤ s.id) := by show 0 ≤ s.id; omega
                    clear hst hA hb hq e0 e1 e2 hz bY rY HU hlt hs HST hb5 hb6
                    go_wp2_with fail
                    clear LD ST
                    try rw [hY]
                    clear hY
                    refine region_ext (by kernel_rfl) (by kernel_rfl) ?_
                    repeat (go_big_quiet_step (with_reducible (first | exact HCG.out _ | exact HTG.out _)); try rw [HD5.out])
                    try (with_reducible refine wpQuiet_nil ?_)
                    intro z0
                    have HBZ : Hid (Below w.heap.size w z0.1) := HBY.out.trans (z0.2.mono HBY.out.size)
                    clear c0 c1 c2 HCG HTG

                    obtain ⟨Z, hZ⟩ : ∃ Z, z0.1 = Z := ⟨_, rfl⟩
                    have RZ := Lib.hid (RY.out.below z0.2)
                    have UZ := Lib.hid (HUY.out.below z0.2)
                    rw [hZ] at HBZ RZ UZ
                    try rw [hZ]
                    clear hZ z0 RY HUY HBY HB HD5 HLP HL0 HLN HW2 hlast HR
                    go_wp2_with fail
                    go_loopw [10] (fun jv V => ∃ j : Nat, j ≤ m ∧ jv = .int .i64 (j : Int) ∧ Hid (∀ (i : Nat) (p : Int × Int), i < j → s.tb[i]? = some p → hasB s.ch p.1 = true ∧ p.2 ∉ A) ∧ Hid (Below Z.heap.size Z V)) (fun jv _ => m - (intOf jv).toNat)
                    case atStart => exact ⟨0, Nat.zero_le _, rfl, fun i p h => absurd h (by omega), Below.refl _ _⟩
                    case round =>
                      obtain ⟨V, hVwr⟩ : ∃ V, V = wr := ⟨_, rfl⟩
                      subst hVwr
                      obtain ⟨j, hj, rfl, HAJ, HV⟩ := hrel
                      have HBV : Hid (Below w.heap.size w V) := HBZ.out.trans (HV.out.mono HBZ.out.size)
                      have RV := Lib.hid (RZ.out.below HV.out)
                      have UV := Lib.hid (UZ.out.below HV.out)
                      have c2 := RV.out.cell 2 _ rfl
                      by_cases hjm : j < m
                      · obtain ⟨p, hp⟩ : ∃ p, s.tb[j]? = some p := ⟨_, List.getElem?_eq_getElem (by rw [← HM.out]; exact hjm)⟩
                        obtain ⟨bb, boff, rfl, hbb, t0, t1⟩ := (HTB.out _ HBV.out).at hp
                        have g2 : (j : Int) < (m : Int) := by omega
                        have HWJ : Hid (wrap64 ((j : Int) + 1) = (j : Int) + 1) := IntWalk.wrap64_in _ (by omega)
                        have hp64 := HOK.out.tb p (List.mem_of_getElem? hp)
                        obtain ⟨pb, pa⟩ := p
                        simp only at t0 t1 hp64
                        have d1 : ∀ z : Ext V, z.1.cell? ⟨C, 1, none⟩ = some (.slice x n c) := fun z => (RV.out.below z.2).cell 1 _ rfl
                        have d2 : ∀ z : Ext V, z.1.cell? ⟨C, 2, none⟩ = some (.slice (some ⟨bb, boff, none⟩) m d) := fun z => (RV.out.below z.2).cell 2 _ rfl
                        have d3 : ∀ z : Ext V, z.1.cell? ⟨bb, boff + j * 2, none⟩ = some (.int .i64 pb) := fun z => (z.2.cell (p := ⟨bb, boff + j * 2, none⟩) hbb).trans t0
                        have HHA : Hid (∀ z : Ext V, Calls Try.prog 31 #[.slice x n c, .int .i64 pb] z.1 fun e w'' => e = .returned (.bool (hasB s.ch pb)) ∧ ∃ y : Ext V, w'' = y.1) := fun z => (rf_has _ s.ch pb (wf_i64 hp64.1.1 hp64.1.2) z.1 (HCH.out _ (HBV.out.trans (z.2.mono HBV.out.size))) HOK.out.ch).mono fun e w'' ⟨h1, h2⟩ => ⟨h1, z, h2⟩
                        have HJM := Lib.hid hjm
                        have HP := Lib.hid hp
                        have HBB : Hid (bb < V.heap.size ∧ V.cell? ⟨bb, boff + j * 2 + 1, none⟩ = some (.int .i64 pa)) := ⟨hbb, t1⟩
                        cases hh : hasB s.ch pb with
                        | false =>
                          rw [hh] at HHA
                          have HG : Hid (gd = false) := by show _ = _; rw [HRS.out, rT_no HP.out (.inl hh), Bool.false_and]
                          clear hjm hp hbb t0 t1 hp64 hh
                          go_wp2_with fail
                          refine region_ext (by kernel_rfl) (by kernel_rfl) ?_
                          repeat (go_big_quiet_step (with_reducible (first | exact HHA.out _)))
                          try (with_reducible refine wpQuiet_nil ?_)
                          intro z1
                          have HBZ : Hid (Below w.heap.size w z1.1) := HBV.out.trans (z1.2.mono HBV.out.size)
                          clear d1 d2 d3 HHA c2
                          go_wp2_with fail
                          go_ret
                          exact ⟨by rw [HG.out]; rfl, HBZ.out⟩
                        | true =>
                          rw [hh] at HHA
                          have HHH := Lib.hid hh
                          clear hjm hp hbb t0 t1 hp64 hh
                          go_wp2_with fail
                          refine region_ext (by kernel_rfl) (by kernel_rfl) ?_
                          repeat (go_big_quiet_step (with_reducible (first | exact HHA.out _)))
                          try (with_reducible refine wpQuiet_nil ?_)
                          intro z1
                          obtain ⟨V2, hV2⟩ : ∃ V2, z1.1 = V2 := ⟨_, rfl⟩
                          have bV : Below V.heap.size V V2 := by rw [← hV2]; exact z1.2
                          have RV2 := Lib.hid (RV.out.below bV)
                          have UV2 := Lib.hid (UV.out.below bV)
                          have HBV2 : Hid (Below w.heap.size w V2) := HBV.out.trans (bV.mono HBV.out.size)
                          have HV2 : Hid (Below Z.heap.size Z V2) := HV.out.trans (bV.mono HV.out.size)
                          have HPA : Hid (bb < V2.heap.size ∧ V2.cell? ⟨bb, boff + j * 2 + 1, none⟩ = some (.int .i64 pa)) := ⟨Nat.lt_of_lt_of_le HBB.out.1 bV.size, (bV.cell (p := ⟨bb, boff + j * 2 + 1, none⟩) HBB.out.1).trans HBB.out.2⟩
                          try rw [hV2]
                          clear d1 d2 d3 HHA c2 hV2 z1 bV RV UV HBV HV HBB
                          go_wp2_with fail
                          go_loopw [11] (fun iv X => ∃ i : Nat, i ≤ un ∧ iv = .int .i64 (i : Int) ∧ Hid (∀ (i' : Nat) (y : Int), i' < i → A[i']? = some y → y ≠ pa) ∧ Hid (Below V2.heap.size V2 X)) (fun iv _ => un - (intOf iv).toNat)
                          case atStart => exact ⟨0, Nat.zero_le _, rfl, fun i p h => absurd h (by omega), Below.refl _ _⟩
                          case round =>
                            obtain ⟨X, hXwr⟩ : ∃ X, X = wr := ⟨_, rfl⟩
                            subst hXwr
                            obtain ⟨i, hi, rfl, HI, HX⟩ := hrel
                            by_cases hin : i < un
                            · obtain ⟨y0, hy0⟩ : ∃ y0, A[i]? = some y0 := ⟨_, List.getElem?_eq_getElem (by rw [← HUN.out]; exact hin)⟩
                              obtain ⟨g, rfl, hgs, u0⟩ := (UV2.out.below HX.out).at hy0
                              have d2 : ∀ z : Ext X, z.1.cell? ⟨C, 2, none⟩ = some (.slice (some ⟨bb, boff, none⟩) m d) := fun z => ((RV2.out.below HX.out).below z.2).cell 2 _ rfl
                              have d4 : ∀ z : Ext X, z.1.cell? ⟨bb, boff + j * 2 + 1, none⟩ = some (.int .i64 pa) := fun z => (z.2.cell (p := ⟨bb, boff + j * 2 + 1, none⟩) (Nat.lt_of_lt_of_le HPA.out.1 HX.out.size)).trans ((HX.out.cell (p := ⟨bb, boff + j * 2 + 1, none⟩) HPA.out.1).trans HPA.out.2)
                              have d5 : ∀ z : Ext X, z.1.cell? ⟨g, i, none⟩ = some (.int .i64 y0) := fun z => (z.2.cell (p := ⟨g, i, none⟩) hgs).trans u0
                              have g3 : (i : Int) < (un : Int) := by omega
                              have HWI : Hid (wrap64 ((i : Int) + 1) = (i : Int) + 1) := IntWalk.wrap64_in _ (by have := HUN.out; have := HAL.out; omega)
                              have HIN := Lib.hid hin
                              have HY0 := Lib.hid hy0
                              have g4 : (j : Int) < (m : Int) := g2
                              clear hy0 hgs u0 hin
                              by_cases hyp : y0 = pa
                              · have qy : (y0 == pa) = true := by simpa using hyp
                                have HG : Hid (gd = false) := by show _ = _; rw [HRS.out, rT_no HP.out (.inr (by show pa ∈ A; rw [← hyp]; exact List.mem_of_getElem? HY0.out)), Bool.false_and]
                                clear hyp
                                go_wp2_with fail
                                refine region_ext (by kernel_rfl) (by kernel_rfl) ?_
                                repeat (go_big_quiet_step (fail))
                                try (with_reducible refine wpQuiet_nil ?_)
                                intro z1
                                have HBZ : Hid (Below w.heap.size w z1.1) := HBV2.out.trans ((HX.out.trans (z1.2.mono HX.out.size)).mono HBV2.out.size)
                                clear d2 d4 d5
                                go_wp2_with fail
                                go_ret
                                exact ⟨by rw [HG.out]; rfl, HBZ.out⟩
                              · have qy : (y0 == pa) = false := by simpa using hyp
                                have HI1 : Hid (∀ (i' : Nat) (y : Int), i' < i + 1 → A[i']? = some y → y ≠ pa) := fun i' y hi' hy' => by
                                  by_cases e : i' = i
                                  · subst e; rw [HY0.out] at hy'; cases hy'; exact hyp
                                  · exact HI.out i' y (by omega) hy'
                                go_wp2_with fail
                                refine region_ext (by kernel_rfl) (by kernel_rfl) ?_
                                repeat (go_big_quiet_step (fail))
                                try (with_reducible refine wpQuiet_nil ?_)
                                intro z1
                                have HX1 : Hid (Below V2.heap.size V2 z1.1) := HX.out.trans (z1.2.mono HX.out.size)
                                clear d2 d4 d5
                                go_wp2_with fail
                                exact ⟨⟨i + 1, HIN.out, by first | (simp; done) | (simp; exact HWI.out) | (rw [HWI.out]; simp), HI1, HX1⟩, by have := HIN.out; first | (simp [intOf]; omega) | (rw [HWI.out]; simp [intOf]; omega) | (simp [intOf, HWI.out]; omega)⟩
                            · have hie : un ≤ i := by omega
                              have HNA : Hid (∀ (i' : Nat) (p : Int × Int), i' < j + 1 → s.tb[i']? = some p → hasB s.ch p.1 = true ∧ p.2 ∉ A) := fun i' p hi' hp' => by
                                by_cases e : i' = j
                                · subst e
                                  rw [HP.out] at hp'
                                  cases hp'
                                  refine ⟨HHH.out, fun hm => ?_⟩
                                  obtain ⟨t, ht⟩ := List.getElem?_of_mem hm
                                  exact HI.out t _ (by have := (List.getElem?_eq_some_iff.1 ht).1; have := HUN.out; omega) ht rfl
                                · exact HAJ.out i' p (by omega) hp'
                              have g3 : ¬ ((i : Int) < (un : Int)) := by omega
                              have g3' : decide ((i : Int) < (un : Int)) = false := by simpa using g3
                              have HVX : Hid (Below Z.heap.size Z X) := HV2.out.trans (HX.out.mono HV2.out.size)
                              clear hie
                              go_wp2_with fail
                              exact ⟨⟨j + 1, HJM.out, by first | (simp; done) | (simp; exact HWJ.out) | (rw [HWJ.out]; simp), HNA, HVX⟩, by have := HJM.out; first | (simp [intOf]; omega) | (rw [HWJ.out]; simp [intOf]; omega) | (simp [intOf, HWJ.out]; omega)⟩
                      · obtain rfl : j = m := by omega
                        have HRT : Hid (gd = ((decide (l.length ≤ k + 1) || rF s) && rGo bl ar (cAts (l.take (k + 1))) s.id (l.drop (k + 1)))) := by
                          show _ = _
                          rw [HRS.out, HAN.out, rT_of (fun i p hp => HAJ.out i p (by have := (List.getElem?_eq_some_iff.1 hp).1; have := HM.out; omega) hp), Bool.true_and]
                        clear HRS HV HAJ RZ UZ HBZ hjm hj
                        go_wp2_with fail
                        clear c2
                        go_loopw [7, 12] (fun uv jv X => ∃ (i : Nat) (u' : SlV), i ≤ j ∧ jv = .int .i64 (i : Int) ∧ uv = slV u' ∧ Hid (InO w.heap.size X (slV u') (A ++ (s.tb.take i).map (·.2))) ∧ Hid (RowC X C 39 [.int .i64 s.id, .slice x n c, .slice y j d]) ∧ Hid (Below w.heap.size w X)) (fun _ jv _ => j - (intOf jv).toNat)
                        case atStart => exact ⟨0, (ux, un, uc), Nat.zero_le _, rfl, rfl, (by show InO _ _ _ _; rw [List.take_zero, List.map_nil, List.append_nil]; exact UV.out), RV, HBV⟩
                        case round =>
                          obtain ⟨X, hXwr⟩ : ∃ X, X = wr := ⟨_, rfl⟩
                          subst hXwr
                          obtain ⟨i, u', hi, rfl, rfl, HUI, RX, HBX⟩ := hrel
                          have c2 := RX.out.cell 2 _ rfl
                          by_cases hij : i < j
                          · obtain ⟨p, hp⟩ : ∃ p, s.tb[i]? = some p := ⟨_, List.getElem?_eq_getElem (by rw [← HM.out]; exact hij)⟩
                            obtain ⟨bb, boff, rfl, hbb, t0, t1⟩ := (HTB.out _ HBX.out).at hp
                            obtain ⟨pb, pa⟩ := p
                            simp only at t0 t1
                            have g2 : (i : Int) < (j : Int) := by omega
                            have HWI : Hid (wrap64 ((i : Int) + 1) = (i : Int) + 1) := IntWalk.wrap64_in _ (by omega)
                            obtain ⟨W3, vx, vn, vc, X4, hS1, hr, h1, h2⟩ := gd_app HUI.out HBX.out.size pa (by have := HCL.out; have := HAL.out; simp only [List.length_append, List.length_map, List.length_take]; omega)
                            have HA := Lib.hid hr
                            have SB := Lib.hid hS1
                            have HU4 : Hid (InO w.heap.size X4 (.slice vx vn vc) (A ++ (s.tb.take (i + 1)).map (·.2))) := by
                              show InO _ _ _ _
                              rw [take_at hp, List.map_append, ← List.append_assoc]
                              exact h1
                            have R4 := Lib.hid (RX.out.grownS HUI.out h2)
                            have HB4 : Hid (Below w.heap.size w X4) := HBX.out.grown h2 HBX.out.size (fun t e => (HUI.out.base t e).1)
                            obtain ⟨u0, u1, u2⟩ := u'
                            simp only [slV] at HA ⊢
                            have HIJ := Lib.hid hij
                            clear hp hbb t0 hr h1 h2 hS1 hij
                            go_wp2_with (first | (refine gate_build ?_; refine wpList_build_run 35 1 #[(0, .tmp 113)] rfl rfl [(0, .int .i64 pa)] _ rfl SB.out ?_) | (at_builtin; refine wpList_append_run (.tmp 107) (.tmp 114) 35 rfl rfl _ _ _ rfl rfl (HA.out _) ?_))
                            exact ⟨⟨i + 1, (vx, vn, vc), HIJ.out, by first | (simp; done) | (simp; exact HWI.out) | (rw [HWI.out]; simp), rfl, HU4, R4, HB4⟩, by have := HIJ.out; first | (simp [intOf]; omega) | (rw [HWI.out]; simp [intOf]; omega) | (simp [intOf, HWI.out]; omega)⟩
                          · obtain rfl : i = j := by omega
                            have HU5 : Hid (InO w.heap.size X (slV u') (cAts (l.take (k + 1)))) := by
                              have := HUI.out
                              rw [List.take_of_length_le (by have := HM.out; omega), ← HAN.out] at this
                              exact this
                            have c1 := RX.out.cell 1 _ rfl
                            have HALL := Lib.hid (rf_all (.slice x n c) s.ch X (HCH.out _ HBX.out) HOK.out.ch (by have := HCL.out; omega))
                            have g2 : ¬ ((i : Int) < (i : Int)) := by omega
                            clear HUI hij hi HBV RV UV
                            go_wp2_with fail
                            go_at_call 20
                            refine HALL.out.mono ?_
                            rintro e X6 ⟨cv, rfl, ho, hb6⟩
                            have HC0 : InO X.heap.size X6 cv ((allB s.ch).map fun k : Nat => (k : Int)) := by unfold InO; rw [List.length_map, ← natV_ints]; exact ho
                            obtain ⟨⟨ca, cn, cc⟩, rfl⟩ := HC0.isSl
                            have HCN : Hid (cn = ((allB s.ch).map fun k : Nat => (k : Int)).length) := InO.len (a := ca) (c := cc) HC0
                            obtain ⟨cl, hcl⟩ : ∃ cl, ((allB s.ch).map fun k : Nat => (k : Int)) = cl := ⟨_, rfl⟩
                            have HCLN : Hid (cl.length ≤ 8000) := by show _ ≤ _; rw [← hcl, List.length_map]; have := all_len s.ch; have := HCL.out; omega
                            rw [hcl] at HC0 HCN
                            have HCV := Lib.hid HC0
                            have HCE := Lib.hid hcl
                            have HU6 := Lib.hid (HU5.out.below hb6)
                            have R6 := Lib.hid (RX.out.below hb6)
                            have HB6 : Hid (Below w.heap.size w X6) := HBX.out.trans (hb6.mono HBX.out.size)
                            simp only [slV] at HCV ⊢
                            clear ho hb6 HC0 hcl HALL c1 c2 HU5 RX HBX
                            go_wp2_with fail
                            go_loopw [14] (fun jv V => ∃ j : Nat, j ≤ cn ∧ jv = .int .i64 (j : Int) ∧ Hid (∀ (t : Nat) (z : Int), t < j → cl[t]? = some z → (tFind s.tb z).isSome = true) ∧ Hid (Below X6.heap.size X6 V)) (fun jv _ => cn - (intOf jv).toNat)
                            case atStart => exact ⟨0, Nat.zero_le _, rfl, fun i p h => absurd h (by omega), Below.refl _ _⟩
                            case round =>
                              obtain ⟨V, hVwr⟩ : ∃ V, V = wr := ⟨_, rfl⟩
                              subst hVwr
                              obtain ⟨j, hj, rfl, HFJ, HV⟩ := hrel
                              have HWK := Lib.hid HW.out
                              have HBV : Hid (Below w.heap.size w V) := HB6.out.trans (HV.out.mono HB6.out.size)
                              have HUV := Lib.hid (HU6.out.below HV.out)
                              by_cases hjc : j < cn
                              · have g3 : (j : Int) < (cn : Int) := by omega
                                have g3' : decide ((j : Int) < (cn : Int)) = true := by simpa using g3
                                by_cases hkl : k + 1 < len
                                · have g4 : (k : Int) + 1 < (len : Int) := by omega
                                  have g4' : decide ((k : Int) + 1 < (len : Int)) = true := by simpa using g4
                                  obtain ⟨z0, hz0⟩ : ∃ z0, cl[j]? = some z0 := ⟨_, List.getElem?_eq_getElem (by rw [← HCN.out]; exact hjc)⟩
                                  obtain ⟨g, rfl, hgs, u0⟩ := (HCV.out.below HV.out).at hz0
                                  have d2 : ∀ z : Ext V, z.1.cell? ⟨C, 2, none⟩ = some (.slice y i d) := fun z => ((R6.out.below HV.out).below z.2).cell 2 _ rfl
                                  have d5 : ∀ z : Ext V, z.1.cell? ⟨g, j, none⟩ = some (.int .i64 z0) := fun z => (z.2.cell (p := ⟨g, j, none⟩) hgs).trans u0
                                  have HFD : Hid (∀ z : Ext V, Calls Try.prog 32 #[.slice y i d, .int .i64 z0] z.1 fun e w'' => e = .returned (.int .i64 (tIx s.tb z0)) ∧ ∃ y : Ext V, w'' = y.1) := fun z => (rf_find (HTB.out _ (HBV.out.trans (z.2.mono HBV.out.size))) z0 (by have := HCL.out; omega)).mono fun e w'' ⟨h1, h2⟩ => ⟨h1, z, h2⟩
                                  have HWJ : Hid (wrap64 ((j : Int) + 1) = (j : Int) + 1) := IntWalk.wrap64_in _ (by have := HCN.out; have := HCLN.out; omega)
                                  have HZ0 := Lib.hid hz0
                                  have HJC := Lib.hid hjc
                                  have HKL1 := Lib.hid hkl
                                  clear hz0 hgs u0 hjc hkl
                                  cases hf : tFind s.tb z0 with
                                  | none =>
                                    have ht : tIx s.tb z0 = -1 := by unfold tIx; rw [hf]
                                    rw [ht] at HFD
                                    have HG : Hid (gd = false) := by
                                      show _ = _
                                      rw [HRT.out, rF_no (by rw [HCE.out]; exact HZ0.out) hf, decide_eq_false (by have := HKL1.out; have := HL.out; omega)]
                                      rfl
                                    clear hf ht
                                    go_wp2_with fail
                                    refine region_ext (by kernel_rfl) (by kernel_rfl) ?_
                                    repeat (go_big_quiet_step (with_reducible (first | exact HFD.out _)))
                                    try (with_reducible refine wpQuiet_nil ?_)
                                    intro z1
                                    have HBZ : Hid (Below w.heap.size w z1.1) := HBV.out.trans (z1.2.mono HBV.out.size)
                                    clear d2 d5 HFD
                                    go_wp2_with fail
                                    go_ret
                                    exact ⟨by rw [HG.out]; rfl, HBZ.out⟩
                                  | some t =>
                                    have ht : tIx s.tb z0 = (t : Int) := by unfold tIx; rw [hf]
                                    rw [ht] at HFD
                                    have g5 : ¬ ((t : Int) < 0) := by omega
                                    have g5' : decide ((t : Int) < 0) = false := decide_eq_false g5
                                    have HF1 : Hid (∀ (t : Nat) (z : Int), t < j + 1 → cl[t]? = some z → (tFind s.tb z).isSome = true) := fun t' z ht' hz' => by
                                      by_cases e : t' = j
                                      · subst e; rw [HZ0.out] at hz'; cases hz'; rw [hf]; rfl
                                      · exact HFJ.out t' z (by omega) hz'
                                    clear hf ht
                                    go_wp2_with fail
                                    refine region_ext (by kernel_rfl) (by kernel_rfl) ?_
                                    repeat (go_big_quiet_step (with_reducible (first | exact HFD.out _)))
                                    try (with_reducible refine wpQuiet_nil ?_)
                                    intro z1
                                    have HV1 : Hid (Below X6.heap.size X6 z1.1) := HV.out.trans (z1.2.mono HV.out.size)
                                    clear d2 d5 HFD
                                    go_wp2_with fail
                                    exact ⟨⟨j + 1, HJC.out, by first | (simp; done) | (simp; exact HWJ.out) | (rw [HWJ.out]; simp), HF1, HV1⟩, by have := HJC.out; first | (simp [intOf]; omega) | (rw [HWJ.out]; simp [intOf]; omega) | (simp [intOf, HWJ.out]; omega)⟩
                                · have g4 : ¬ ((k : Int) + 1 < (len : Int)) := by omega
                                  have g4' : decide ((k : Int) + 1 < (len : Int)) = false := by simpa using g4
                                  have HNX : Hid (rGo bl ar (cAts (l.take (k + 1))) s.id (l.drop (k + 1)) = gd) := by
                                    show _ = _
                                    rw [HRT.out, decide_eq_true (by have := HL.out; omega), Bool.true_or, Bool.true_and]
                                  clear hkl hjc HRT
                                  go_wp2_with fail
                                  exact ⟨⟨k + 1, u', s.id, HLT.out, by first | simp | (rw [HW.out]; simp), rfl, HUV, fun h => by simp at h, fun _ => ⟨s, HSK.out, rfl⟩, HID0, HNX, HT2, HBV⟩, by have := HLT.out; first | (simp [intOf]; omega) | (rw [HW.out]; simp [intOf]; omega)⟩
                              · have g3 : ¬ ((j : Int) < (cn : Int)) := by omega
                                have g3' : decide ((j : Int) < (cn : Int)) = false := by simpa using g3
                                have HNX : Hid (rGo bl ar (cAts (l.take (k + 1))) s.id (l.drop (k + 1)) = gd) := by
                                  show _ = _
                                  rw [HRT.out, rF_of (fun t z hz => by rw [HCE.out] at hz; exact HFJ.out t z (by have := (List.getElem?_eq_some_iff.1 hz).1; have := HCN.out; omega) hz), Bool.or_true, Bool.true_and]
                                clear hjc HRT
                                go_wp2_with fail
                                exact ⟨⟨k + 1, u', s.id, HLT.out, by first | simp | (rw [HW.out]; simp), rfl, HUV, fun h => by simp at h, fun _ => ⟨s, HSK.out, rfl⟩, HID0, HNX, HT2, HBV⟩, by have := HLT.out; first | (simp [intOf]; omega) | (rw [HW.out]; simp [intOf]; omega)⟩
      · obtain rfl : k = len := by omega
        have HG : Hid (gd = true) := by
          show _ = _
          have := HR.out
          rw [rGo_end (by rw [HL.out]; exact Nat.le_refl _)] at this
          exact this.symm
        clear hlt HR
        go_wp2_with fail
        go_ret
        exact ⟨by rw [HG.out]; rfl, HB.out⟩
end Go.Proofs.Ytiidfffedoekiaa
