/- The ground of the proofs, part 3. -/
import Derived.Test.YtfihpljgbghogaaGreatJC2
import Derived.RangeFuncNested
import Derived.RangeFuncBound
import Derived.RangeFuncCalls
import Derived.RangeFuncLeaves
import Derived.Shelf.Abstract
import Derived.Shelf.RegionOpen
import Derived.WalkKit
import Derived.OwnWalkIn
import Derived.TacticsInMore
import Derived.LoopNIn
import Derived.LoopIn
import Derived.Test.YtfihpljgbghogaaGreatProg
import Derived.RangeFuncBox
import Derived.Lib.Hide
import Derived.LoopTactic
import Derived.Laws.StructEq
import Derived.Maps.AppendAt
import Derived.Lib.AppendZerosOnto
/- The document's Good, of snapshots of whatever length. -/
namespace Go.Proofs.YtfihpljgbghogaaGreat
open Go.RowKit Go.Shelf
set_option linter.unusedVariables false
set_option linter.unusedSimpArgs false
attribute [-simp] Tryz.isAgg51 Tryz.zeroValue51 Tryz.isAgg54 Tryz.zeroValue54
attribute [-go_sem] loadVar storeVar
attribute [local go_sem] loadVar_openPS storeVar_openPS zero_sn zero_prs

theorem nodup_sub14 : ∀ (a b : List Nat), a.Nodup → (∀ x ∈ a, x ∈ b) → a.length ≤ b.length
  | [], _, _, _ => Nat.zero_le _
  | x :: a, b, h, hs => by
    obtain ⟨h1, h2⟩ := List.nodup_cons.1 h
    have hx := hs x (List.mem_cons_self ..)
    have := nodup_sub14 a (b.erase x) h2 fun y hy => (List.mem_erase_of_ne (fun (e : y = x) => h1 (e ▸ hy))).2 (hs y (List.mem_cons_of_mem _ hy))
    rw [List.length_erase_of_mem hx] at this
    have := List.length_pos_of_mem hx
    simp only [List.length_cons]
    omega
theorem table_len14 {l : List (Int × Int)} {bl : Nat} {ar : Int} (h : tGood l (bl : Int) ar = true) : l.length ≤ bl := by
  obtain ⟨h1, h2, -⟩ := (tGood_iff _ _ _).1 h
  have hn : (l.map fun p => p.1.toNat).Nodup := by
    refine List.pairwise_map.2 (h2.imp_of_mem fun {a b} ha hb hab e => ?_)
    have := h1 a ha
    have := h1 b hb
    omega
  have := nodup_sub14 _ (List.range bl) hn fun x hx => by
    obtain ⟨p, hp, rfl⟩ := List.mem_map.1 hx
    have := h1 p hp
    exact List.mem_range.2 (by omega)
  simpa using this
theorem pass_lens {s : SN} {bl ar : Int} (h5 : goodB s.ch bl = true) (h6 : tGood s.tb bl ar = true) (hb : bl ≤ 1000) : s.ch.length ≤ 1000 ∧ s.tb.length ≤ 1000 := by
  constructor
  · unfold goodB at h5
    rw [Bool.and_eq_true, decide_eq_true_eq] at h5
    rw [h5.1]
    unfold sizeB
    split <;> omega
  · by_cases h0 : bl < 0
    · obtain ⟨h1, -, -⟩ := (tGood_iff _ _ _).1 h6
      cases hl : s.tb with
      | nil => simp
      | cons p l => have := h1 p (by rw [hl]; simp); omega
    · obtain ⟨n, rfl⟩ : ∃ n : Nat, bl = (n : Int) := ⟨bl.toNat, by omega⟩
      have := table_len14 h6
      omega

set_option maxRecDepth 100000 in
set_option maxHeartbeats 16000000 in
theorem rf11_goodL {w : World} {v : Value} {l : List SN} (h : Snp w v l) (bl ar : Int) (hbl1 : bl ≤ 1000) (hbl : (Lit.int .i64 bl).wf = true) :
    Calls Tryz.prog 44 #[v, .int .i64 bl, .int .i64 ar] w fun e w' => e = .returned (.bool (cGood l bl ar)) ∧ Below w.heap.size w w' := by
  have hmx : Tryz.prog.follows .mixedOrders = true := by kernel_rfl
  obtain ⟨r, h⟩ := h
  have HS := Lib.hid h
  have HB1 := Lib.hid hbl1
  have HBL := Lib.hid hbl
  obtain ⟨a, cap, rfl, h1, h2, -⟩ := h
  obtain ⟨len, hle⟩ : ∃ len, l.length = len := ⟨_, rfl⟩
  have HL := Lib.hid hle
  rw [hle] at HS h1 ⊢
  by_cases h8 : 8 < len
  · have q0 : (len : Int) > 8 := by omega
    have q1 : decide ((len : Int) > 8) = true := by simpa using q0
    have HG : Hid (cGood l bl ar = false) := by show _ = _; unfold cGood; rw [hle, decide_eq_false (by omega)]; rfl
    clear h1 h2 hle h8 hbl
    go_enter Tryz.func44, Tryz.ntmps44
    go_wp2_with fail
    go_ret
    exact ⟨by rw [HG.out]; rfl, Below.refl _ _⟩
  · have hlen : len ≤ 8 := by omega
    have q0 : ¬ (len : Int) > 8 := by omega
    have q1 : decide ((len : Int) > 8) = false := by simpa using q0
    obtain ⟨gd, hgd⟩ : ∃ gd, cGood l bl ar = gd := ⟨_, rfl⟩
    have HR0 : Hid (rGo bl ar (cAts (l.take 0)) 0 (l.drop 0) = gd) := by show _ = _; rw [← hgd, rGood_is l bl ar (by omega)]; rfl
    rw [hgd]
    clear h1 h2 hle h8 hgd hbl
    go_enter Tryz.func44, Tryz.ntmps44
    go_wp2_with fail
    go_loopw [7, 8] (fun uv iv W => ∃ (k : Nat) (u : SlV) (last : Int), k ≤ len ∧ iv = .int .i64 (k : Int) ∧ uv = slV u ∧ Hid (InO w.heap.size W (slV u) (cAts (l.take k))) ∧ Hid (k = 0 → last = 0) ∧ Hid (0 < k → ∃ p, l[k - 1]? = some p ∧ p.id = last) ∧ Hid (0 ≤ last) ∧ Hid (rGo bl ar (cAts (l.take k)) last (l.drop k) = gd) ∧ Hid (∀ t ∈ l.take k, t.tb.length ≤ 1000) ∧ Hid (Below w.heap.size w W)) (fun _ iv _ => len - (intOf iv).toNat)
    case atStart => exact ⟨0, (none, 0, 0), 0, Nat.zero_le _, rfl, rfl, InO.nil _ _, fun _ => rfl, fun h => absurd h (by omega), Int.le_refl _, HR0, (fun t ht => by simp at ht), Below.refl _ _⟩
    case round =>
      obtain ⟨W, hWwr⟩ : ∃ W, W = wr := ⟨_, rfl⟩
      subst hWwr
      obtain ⟨k, u, last, hk, rfl, rfl, HU, HL0, HLP, HLN, HR, HT1, HB⟩ := hrel
      by_cases hlt : k < len
      · obtain ⟨s, hs⟩ : ∃ s, l[k]? = some s := ⟨_, List.getElem?_eq_getElem (by rw [HL.out]; exact hlt)⟩
        have hst := rGo_at hs bl ar last (cAts (l.take k))
        rw [HR.out] at hst
        have HAN : Hid (cAts (l.take (k + 1)) = cAts (l.take k) ++ s.tb.map (·.2)) := by show _ = _; rw [take_at hs, cAts_snoc]
        have HAL : Hid ((cAts (l.take k)).length ≤ 8000) := by
          have h1 := cAts_len (K := 1000) (l.take k) (fun t ht => HT1.out t ht)
          rw [List.length_take] at h1
          show _ ≤ _
          omega
        obtain ⟨A, hA⟩ : ∃ A, cAts (l.take k) = A := ⟨_, rfl⟩
        rw [hA] at hst HAN HAL HU
        have HST := Lib.hid hst
        obtain ⟨b, off, q, rfl, hb, -, hq, e0, e1, e2⟩ := HS.out.at hs
        have hz := HB.out.size
        have LD := load_sn ((HB.out.cell (p := ⟨b, off + k * 3, none⟩) hb).trans e0) ((HB.out.cell (p := ⟨b, off + k * 3 + 1, none⟩) hb).trans e1) ((HB.out.cell (p := ⟨b, off + k * 3 + 2, none⟩) hb).trans e2)
        have ST := new_sn W q
        obtain ⟨Y, hY⟩ : ∃ Y, W.alloc (.cells (svL q).toArray 51) = Y := ⟨_, rfl⟩
        have bY : Below W.heap.size W Y := by rw [← hY]; exact below_new _ _
        have rY : RowC Y W.heap.size 51 (svL q) := by rw [← hY]; exact RowC.new W _ _
        rw [hY] at ST
        obtain ⟨C, hC⟩ : ∃ C, W.heap.size = C := ⟨_, rfl⟩
        rw [hC] at ST rY
        have HBY : Hid (Below w.heap.size w Y) := HB.out.trans (bY.mono hz)
        have HUY := Lib.hid (HU.out.below bY)
        obtain ⟨id, ⟨x, n, c⟩, ⟨y, m, d⟩⟩ := q
        obtain rfl : id = s.id := hq.id
        have RY : Hid (RowC Y C 51 [.int .i64 s.id, .slice x n c, .slice y m d]) := rY
        have HM : Hid (m = s.tb.length) := by obtain ⟨a', ca', e, -⟩ := hq.tb; simp only [slV, Value.slice.injEq] at e; show _ = _; omega
        have hm1 : m ≤ 9223372036854775807 := by obtain ⟨a', ca', e, q1, q2, -⟩ := hq.tb; have := HM.out; unfold maxLen at q2; omega
        have hch1 : s.ch.length ≤ 9223372036854775807 := by obtain ⟨a', ca', e, q1, q2, -⟩ := hq.ch; unfold maxLen at q2; omega
        have HTB : Hid (∀ z : World, Below w.heap.size w z → Prt z (.slice y m d) s.tb) := fun z hz => hq.tb.below hz
        have HCH : Hid (∀ z : World, Below w.heap.size w z → Sl .u8 z (.slice x n c) s.ch) := fun z hz => hq.ch.below hz
        have HOK := Lib.hid hq.ok
        have c0 : ∀ z : Ext Y, z.1.cell? ⟨C, 0, none⟩ = some (.int .i64 s.id) := fun z => (rY.below z.2).cell 0 _ rfl
        have c1 : ∀ z : Ext Y, z.1.cell? ⟨C, 1, none⟩ = some (.slice x n c) := fun z => (rY.below z.2).cell 1 _ rfl
        have c2 : ∀ z : Ext Y, z.1.cell? ⟨C, 2, none⟩ = some (.slice y m d) := fun z => (rY.below z.2).cell 2 _ rfl
        have HCG : Hid (∀ z : Ext Y, Calls Tryz.prog 88 #[.slice x n c, .int .i64 bl] z.1 fun e w'' => e = .returned (.bool (goodB s.ch bl)) ∧ ∃ y : Ext Y, w'' = y.1) := fun z => calls_ext z (rf9_good _ s.ch bl HBL.out z.1 (HCH.out _ (HBY.out.trans (z.2.mono HBY.out.size))) HOK.out.ch hch1)
        have HTG : Hid (∀ z : Ext Y, Calls Tryz.prog 89 #[.slice y m d, .int .i64 bl, .int .i64 ar] z.1 fun e w'' => e = .returned (.bool (tGood s.tb bl ar)) ∧ ∃ y : Ext Y, w'' = y.1) := fun z => calls_ext z (rf_good (HTB.out _ (HBY.out.trans (z.2.mono HBY.out.size))) bl ar (by have := HM.out; omega))
        have g1 : (k : Int) < (len : Int) := by omega
        have HW : Hid (wrap64 ((k : Int) + 1) = (k : Int) + 1) := IntWalk.wrap64_in _ (by omega)
        have HW2 : Hid (wrap64 ((k : Int) - 1) = (k : Int) - 1) := IntWalk.wrap64_in _ (by omega)
        have HLT := Lib.hid hlt
        have HK8 : Hid (k < 8) := by show k < 8; omega
        have HSK := Lib.hid hs
        have hlast := HLN.out
        obtain ⟨ux, un, uc⟩ := u
        have HUN : Hid (un = A.length) := InO.len (c := uc) (a := ux) HU.out
        simp only [slV] at HUY ⊢
        by_cases q1 : s.id < 1
        · have f1 : decide (s.id < 1) = true := by simpa using q1
          have HG : Hid (gd = false) := by show _ = _; rw [HST.out, rS_false (fun h => by omega), Bool.false_and]
          clear hst hA hb hq e0 e1 e2 hz bY rY HU hlt hs
          go_wp2_with fail
          clear LD ST
          try rw [hY]
          clear hY
          refine region_ext (by kernel_rfl) (by kernel_rfl) ?_
          repeat (go_big_quiet_step (with_reducible (first | exact HCG.out _ | exact HTG.out _)); try rw [HD5.out])
          try (with_reducible refine wpQuiet_nil ?_)
          intro z0
          have HBZ : Hid (Below w.heap.size w z0.1) := HBY.out.trans (z0.2.mono HBY.out.size)
          clear c0 c1 c2 HCG HTG
          go_wp2_with fail
          go_ret
          exact ⟨by rw [HG.out]; rfl, HBZ.out⟩
        · have f1 : decide (s.id < 1) = false := by simpa using q1
          by_cases q2 : s.id > 1000000
          · have f2 : decide (s.id > 1000000) = true := by simpa using q2
            have HG : Hid (gd = false) := by show _ = _; rw [HST.out, rS_false (fun h => by omega), Bool.false_and]
            clear hst hA hb hq e0 e1 e2 hz bY rY HU hlt hs
            go_wp2_with fail
            clear LD ST
            try rw [hY]
            clear hY
            refine region_ext (by kernel_rfl) (by kernel_rfl) ?_
            repeat (go_big_quiet_step (with_reducible (first | exact HCG.out _ | exact HTG.out _)); try rw [HD5.out])
            try (with_reducible refine wpQuiet_nil ?_)
            intro z0
            have HBZ : Hid (Below w.heap.size w z0.1) := HBY.out.trans (z0.2.mono HBY.out.size)
            clear c0 c1 c2 HCG HTG
            go_wp2_with fail
            go_ret
            exact ⟨by rw [HG.out]; rfl, HBZ.out⟩
          · have f2 : decide (s.id > 1000000) = false := by simpa using q2
            by_cases hk0 : k = 0
            · obtain rfl := HL0.out hk0
              have HD5 : Hid (decide (0 < k) = false) := by show _ = _; simp; omega
              have f3 : ¬ ((k : Int) > 0) := by omega
              have f3' : decide ((k : Int) > 0) = false := by simpa using f3
              clear hk0
              cases hb5 : goodB s.ch bl with
              | false =>
                rw [hb5] at HCG
                have HG : Hid (gd = false) := by show _ = _; rw [HST.out, rS_false (fun h => by rw [hb5] at h; exact absurd h.2.2.2.1 (by decide)), Bool.false_and]
                clear hst hA hb hq e0 e1 e2 hz bY rY HU hlt hs
                clear hb5
                go_wp2_with fail
                clear LD ST
                try rw [hY]
                clear hY
                refine region_ext (by kernel_rfl) (by kernel_rfl) ?_
                repeat (go_big_quiet_step (with_reducible (first | exact HCG.out _ | exact HTG.out _)); try rw [HD5.out])
                try (with_reducible refine wpQuiet_nil ?_)
                intro z0
                have HBZ : Hid (Below w.heap.size w z0.1) := HBY.out.trans (z0.2.mono HBY.out.size)
                clear c0 c1 c2 HCG HTG
                go_wp2_with fail
                go_ret
                exact ⟨by rw [HG.out]; rfl, HBZ.out⟩
              | true =>
                rw [hb5] at HCG
                cases hb6 : tGood s.tb bl ar with
                | false =>
                  rw [hb6] at HTG
                  have HG : Hid (gd = false) := by show _ = _; rw [HST.out, rS_false (fun h => by rw [hb6] at h; exact absurd h.2.2.2.2 (by decide)), Bool.false_and]
                  clear hst hA hb hq e0 e1 e2 hz bY rY HU hlt hs
                  clear hb5 hb6
                  go_wp2_with fail
                  clear LD ST
                  try rw [hY]
                  clear hY
                  refine region_ext (by kernel_rfl) (by kernel_rfl) ?_
                  repeat (go_big_quiet_step (with_reducible (first | exact HCG.out _ | exact HTG.out _)); try rw [HD5.out])
                  try (with_reducible refine wpQuiet_nil ?_)
                  intro z0
                  have HBZ : Hid (Below w.heap.size w z0.1) := HBY.out.trans (z0.2.mono HBY.out.size)
                  clear c0 c1 c2 HCG HTG
                  go_wp2_with fail
                  go_ret
                  exact ⟨by rw [HG.out]; rfl, HBZ.out⟩
                | true =>
                  rw [hb6] at HTG
                  have HCL : Hid (s.ch.length ≤ 1000 ∧ s.tb.length ≤ 1000) := pass_lens hb5 hb6 HB1.out
                  have HT2 : Hid (∀ t ∈ l.take (k + 1), t.tb.length ≤ 1000) := fun t ht => by
                    rw [take_at hs] at ht
                    rcases List.mem_append.1 ht with ht | ht
                    · exact HT1.out t ht
                    · rw [List.mem_singleton.1 ht]; exact HCL.out.2
                  have HRS : Hid (gd = (rT A s && ((decide (l.length ≤ k + 1) || rF s) && rGo bl ar (A ++ s.tb.map (·.2)) s.id (l.drop (k + 1))))) := by show _ = _; rw [HST.out, rS_true ⟨by omega, by omega, by omega, hb5, hb6⟩, Bool.true_and]
                  have HID0 : Hid (0 ≤ s.id) := by show 0 ≤ s.id; omega
                  clear hst hA hb hq e0 e1 e2 hz bY rY HU hlt hs HST hb5 hb6
                  go_wp2_with fail
                  clear LD ST
                  try rw [hY]
                  clear hY
                  refine region_ext (by kernel_rfl) (by kernel_rfl) ?_
                  repeat (go_big_quiet_step (with_reducible (first | exact HCG.out _ | exact HTG.out _)); try rw [HD5.out])
                  try (with_reducible refine wpQuiet_nil ?_)
                  intro z0
                  have HBZ : Hid (Below w.heap.size w z0.1) := HBY.out.trans (z0.2.mono HBY.out.size)
                  clear c0 c1 c2 HCG HTG

                  obtain ⟨Z, hZ⟩ : ∃ Z, z0.1 = Z := ⟨_, rfl⟩
                  have RZ := Lib.hid (RY.out.below z0.2)
                  have UZ := Lib.hid (HUY.out.below z0.2)
                  rw [hZ] at HBZ RZ UZ
                  try rw [hZ]
                  clear hZ z0 RY HUY HBY HB HD5 HLP HL0 HLN HW2 hlast HR
                  go_wp2_with fail
                  go_loopw [10] (fun jv V => ∃ j : Nat, j ≤ m ∧ jv = .int .i64 (j : Int) ∧ Hid (∀ (i : Nat) (p : Int × Int), i < j → s.tb[i]? = some p → hasB s.ch p.1 = true ∧ p.2 ∉ A) ∧ Hid (Below Z.heap.size Z V)) (fun jv _ => m - (intOf jv).toNat)
                  case atStart => exact ⟨0, Nat.zero_le _, rfl, fun i p h => absurd h (by omega), Below.refl _ _⟩
                  case round =>
                    obtain ⟨V, hVwr⟩ : ∃ V, V = wr := ⟨_, rfl⟩
                    subst hVwr
                    obtain ⟨j, hj, rfl, HAJ, HV⟩ := hrel
                    have HBV : Hid (Below w.heap.size w V) := HBZ.out.trans (HV.out.mono HBZ.out.size)
                    have RV := Lib.hid (RZ.out.below HV.out)
                    have UV := Lib.hid (UZ.out.below HV.out)
                    have c2 := RV.out.cell 2 _ rfl
                    by_cases hjm : j < m
                    · obtain ⟨p, hp⟩ : ∃ p, s.tb[j]? = some p := ⟨_, List.getElem?_eq_getElem (by rw [← HM.out]; exact hjm)⟩
                      obtain ⟨bb, boff, rfl, hbb, t0, t1⟩ := (HTB.out _ HBV.out).at hp
                      have g2 : (j : Int) < (m : Int) := by omega
                      have HWJ : Hid (wrap64 ((j : Int) + 1) = (j : Int) + 1) := IntWalk.wrap64_in _ (by omega)
                      have hp64 := HOK.out.tb p (List.mem_of_getElem? hp)
                      obtain ⟨pb, pa⟩ := p
                      simp only at t0 t1 hp64
                      have d1 : ∀ z : Ext V, z.1.cell? ⟨C, 1, none⟩ = some (.slice x n c) := fun z => (RV.out.below z.2).cell 1 _ rfl
                      have d2 : ∀ z : Ext V, z.1.cell? ⟨C, 2, none⟩ = some (.slice (some ⟨bb, boff, none⟩) m d) := fun z => (RV.out.below z.2).cell 2 _ rfl
                      have d3 : ∀ z : Ext V, z.1.cell? ⟨bb, boff + j * 2, none⟩ = some (.int .i64 pb) := fun z => (z.2.cell (p := ⟨bb, boff + j * 2, none⟩) hbb).trans t0
                      have HHA : Hid (∀ z : Ext V, Calls Tryz.prog 90 #[.slice x n c, .int .i64 pb] z.1 fun e w'' => e = .returned (.bool (hasB s.ch pb)) ∧ ∃ y : Ext V, w'' = y.1) := fun z => (rf_has _ s.ch pb (wf_i64 hp64.1.1 hp64.1.2) z.1 (HCH.out _ (HBV.out.trans (z.2.mono HBV.out.size))) HOK.out.ch).mono fun e w'' ⟨h1, h2⟩ => ⟨h1, z, h2⟩
                      have HJM := Lib.hid hjm
                      have HP := Lib.hid hp
                      have HBB : Hid (bb < V.heap.size ∧ V.cell? ⟨bb, boff + j * 2 + 1, none⟩ = some (.int .i64 pa)) := ⟨hbb, t1⟩
                      cases hh : hasB s.ch pb with
                      | false =>
                        rw [hh] at HHA
                        have HG : Hid (gd = false) := by show _ = _; rw [HRS.out, rT_no HP.out (.inl hh), Bool.false_and]
                        clear hjm hp hbb t0 t1 hp64 hh
                        go_wp2_with fail
                        refine region_ext (by kernel_rfl) (by kernel_rfl) ?_
                        repeat (go_big_quiet_step (with_reducible (first | exact HHA.out _)))
                        try (with_reducible refine wpQuiet_nil ?_)
                        intro z1
                        have HBZ : Hid (Below w.heap.size w z1.1) := HBV.out.trans (z1.2.mono HBV.out.size)
                        clear d1 d2 d3 HHA c2
                        go_wp2_with fail
                        go_ret
                        exact ⟨by rw [HG.out]; rfl, HBZ.out⟩
                      | true =>
                        rw [hh] at HHA
                        have HHH := Lib.hid hh
                        clear hjm hp hbb t0 t1 hp64 hh
                        go_wp2_with fail
                        refine region_ext (by kernel_rfl) (by kernel_rfl) ?_
                        repeat (go_big_quiet_step (with_reducible (first | exact HHA.out _)))
                        try (with_reducible refine wpQuiet_nil ?_)
                        intro z1
                        obtain ⟨V2, hV2⟩ : ∃ V2, z1.1 = V2 := ⟨_, rfl⟩
                        have bV : Below V.heap.size V V2 := by rw [← hV2]; exact z1.2
                        have RV2 := Lib.hid (RV.out.below bV)
                        have UV2 := Lib.hid (UV.out.below bV)
                        have HBV2 : Hid (Below w.heap.size w V2) := HBV.out.trans (bV.mono HBV.out.size)
                        have HV2 : Hid (Below Z.heap.size Z V2) := HV.out.trans (bV.mono HV.out.size)
                        have HPA : Hid (bb < V2.heap.size ∧ V2.cell? ⟨bb, boff + j * 2 + 1, none⟩ = some (.int .i64 pa)) := ⟨Nat.lt_of_lt_of_le HBB.out.1 bV.size, (bV.cell (p := ⟨bb, boff + j * 2 + 1, none⟩) HBB.out.1).trans HBB.out.2⟩
                        try rw [hV2]
                        clear d1 d2 d3 HHA c2 hV2 z1 bV RV UV HBV HV HBB
                        go_wp2_with fail
                        go_loopw [11] (fun iv X => ∃ i : Nat, i ≤ un ∧ iv = .int .i64 (i : Int) ∧ Hid (∀ (i' : Nat) (y : Int), i' < i → A[i']? = some y → y ≠ pa) ∧ Hid (Below V2.heap.size V2 X)) (fun iv _ => un - (intOf iv).toNat)
                        case atStart => exact ⟨0, Nat.zero_le _, rfl, fun i p h => absurd h (by omega), Below.refl _ _⟩
                        case round =>
                          obtain ⟨X, hXwr⟩ : ∃ X, X = wr := ⟨_, rfl⟩
                          subst hXwr
                          obtain ⟨i, hi, rfl, HI, HX⟩ := hrel
                          by_cases hin : i < un
                          · obtain ⟨y0, hy0⟩ : ∃ y0, A[i]? = some y0 := ⟨_, List.getElem?_eq_getElem (by rw [← HUN.out]; exact hin)⟩
                            obtain ⟨g, rfl, hgs, u0⟩ := (UV2.out.below HX.out).at hy0
                            have d2 : ∀ z : Ext X, z.1.cell? ⟨C, 2, none⟩ = some (.slice (some ⟨bb, boff, none⟩) m d) := fun z => ((RV2.out.below HX.out).below z.2).cell 2 _ rfl
                            have d4 : ∀ z : Ext X, z.1.cell? ⟨bb, boff + j * 2 + 1, none⟩ = some (.int .i64 pa) := fun z => (z.2.cell (p := ⟨bb, boff + j * 2 + 1, none⟩) (Nat.lt_of_lt_of_le HPA.out.1 HX.out.size)).trans ((HX.out.cell (p := ⟨bb, boff + j * 2 + 1, none⟩) HPA.out.1).trans HPA.out.2)
                            have d5 : ∀ z : Ext X, z.1.cell? ⟨g, i, none⟩ = some (.int .i64 y0) := fun z => (z.2.cell (p := ⟨g, i, none⟩) hgs).trans u0
                            have g3 : (i : Int) < (un : Int) := by omega
                            have HWI : Hid (wrap64 ((i : Int) + 1) = (i : Int) + 1) := IntWalk.wrap64_in _ (by have := HUN.out; have := HAL.out; omega)
                            have HIN := Lib.hid hin
                            have HY0 := Lib.hid hy0
                            have g4 : (j : Int) < (m : Int) := g2
                            clear hy0 hgs u0 hin
                            by_cases hyp : y0 = pa
                            · have qy : (y0 == pa) = true := by simpa using hyp
                              have HG : Hid (gd = false) := by show _ = _; rw [HRS.out, rT_no HP.out (.inr (by show pa ∈ A; rw [← hyp]; exact List.mem_of_getElem? HY0.out)), Bool.false_and]
                              clear hyp
                              go_wp2_with fail
                              refine region_ext (by kernel_rfl) (by kernel_rfl) ?_
                              repeat (go_big_quiet_step (fail))
                              try (with_reducible refine wpQuiet_nil ?_)
                              intro z1
                              have HBZ : Hid (Below w.heap.size w z1.1) := HBV2.out.trans ((HX.out.trans (z1.2.mono HX.out.size)).mono HBV2.out.size)
                              clear d2 d4 d5
                              go_wp2_with fail
                              go_ret
                              exact ⟨by rw [HG.out]; rfl, HBZ.out⟩
                            · have qy : (y0 == pa) = false := by simpa using hyp
                              have HI1 : Hid (∀ (i' : Nat) (y : Int), i' < i + 1 → A[i']? = some y → y ≠ pa) := fun i' y hi' hy' => by
                                by_cases e : i' = i
                                · subst e; rw [HY0.out] at hy'; cases hy'; exact hyp
                                · exact HI.out i' y (by omega) hy'
                              go_wp2_with fail
                              refine region_ext (by kernel_rfl) (by kernel_rfl) ?_
                              repeat (go_big_quiet_step (fail))
                              try (with_reducible refine wpQuiet_nil ?_)
                              intro z1
                              have HX1 : Hid (Below V2.heap.size V2 z1.1) := HX.out.trans (z1.2.mono HX.out.size)
                              clear d2 d4 d5
                              go_wp2_with fail
                              exact ⟨⟨i + 1, HIN.out, by first | (simp; done) | (simp; exact HWI.out) | (rw [HWI.out]; simp), HI1, HX1⟩, by have := HIN.out; first | (simp [intOf]; omega) | (rw [HWI.out]; simp [intOf]; omega) | (simp [intOf, HWI.out]; omega)⟩
                          · have hie : un ≤ i := by omega
                            have HNA : Hid (∀ (i' : Nat) (p : Int × Int), i' < j + 1 → s.tb[i']? = some p → hasB s.ch p.1 = true ∧ p.2 ∉ A) := fun i' p hi' hp' => by
                              by_cases e : i' = j
                              · subst e
                                rw [HP.out] at hp'
                                cases hp'
                                refine ⟨HHH.out, fun hm => ?_⟩
                                obtain ⟨t, ht⟩ := List.getElem?_of_mem hm
                                exact HI.out t _ (by have := (List.getElem?_eq_some_iff.1 ht).1; have := HUN.out; omega) ht rfl
                              · exact HAJ.out i' p (by omega) hp'
                            have g3 : ¬ ((i : Int) < (un : Int)) := by omega
                            have g3' : decide ((i : Int) < (un : Int)) = false := by simpa using g3
                            have HVX : Hid (Below Z.heap.size Z X) := HV2.out.trans (HX.out.mono HV2.out.size)
                            clear hie
                            go_wp2_with fail
                            exact ⟨⟨j + 1, HJM.out, by first | (simp; done) | (simp; exact HWJ.out) | (rw [HWJ.out]; simp), HNA, HVX⟩, by have := HJM.out; first | (simp [intOf]; omega) | (rw [HWJ.out]; simp [intOf]; omega) | (simp [intOf, HWJ.out]; omega)⟩
                    · obtain rfl : j = m := by omega
                      have HRT : Hid (gd = ((decide (l.length ≤ k + 1) || rF s) && rGo bl ar (cAts (l.take (k + 1))) s.id (l.drop (k + 1)))) := by
                        show _ = _
                        rw [HRS.out, HAN.out, rT_of (fun i p hp => HAJ.out i p (by have := (List.getElem?_eq_some_iff.1 hp).1; have := HM.out; omega) hp), Bool.true_and]
                      clear HRS HV HAJ RZ UZ HBZ hjm hj
                      go_wp2_with fail
                      clear c2
                      go_loopw [7, 12] (fun uv jv X => ∃ (i : Nat) (u' : SlV), i ≤ j ∧ jv = .int .i64 (i : Int) ∧ uv = slV u' ∧ Hid (InO w.heap.size X (slV u') (A ++ (s.tb.take i).map (·.2))) ∧ Hid (RowC X C 51 [.int .i64 s.id, .slice x n c, .slice y j d]) ∧ Hid (Below w.heap.size w X)) (fun _ jv _ => j - (intOf jv).toNat)
                      case atStart => exact ⟨0, (ux, un, uc), Nat.zero_le _, rfl, rfl, (by show InO _ _ _ _; rw [List.take_zero, List.map_nil, List.append_nil]; exact UV.out), RV, HBV⟩
                      case round =>
                        obtain ⟨X, hXwr⟩ : ∃ X, X = wr := ⟨_, rfl⟩
                        subst hXwr
                        obtain ⟨i, u', hi, rfl, rfl, HUI, RX, HBX⟩ := hrel
                        have c2 := RX.out.cell 2 _ rfl
                        by_cases hij : i < j
                        · obtain ⟨p, hp⟩ : ∃ p, s.tb[i]? = some p := ⟨_, List.getElem?_eq_getElem (by rw [← HM.out]; exact hij)⟩
                          obtain ⟨bb, boff, rfl, hbb, t0, t1⟩ := (HTB.out _ HBX.out).at hp
                          obtain ⟨pb, pa⟩ := p
                          simp only at t0 t1
                          have g2 : (i : Int) < (j : Int) := by omega
                          have HWI : Hid (wrap64 ((i : Int) + 1) = (i : Int) + 1) := IntWalk.wrap64_in _ (by omega)
                          obtain ⟨W3, vx, vn, vc, X4, hS1, hr, h1, h2⟩ := gd_app HUI.out HBX.out.size pa (by have := HCL.out; have := HAL.out; simp only [List.length_append, List.length_map, List.length_take]; omega)
                          have HA := Lib.hid hr
                          have SB := Lib.hid hS1
                          have HU4 : Hid (InO w.heap.size X4 (.slice vx vn vc) (A ++ (s.tb.take (i + 1)).map (·.2))) := by
                            show InO _ _ _ _
                            rw [take_at hp, List.map_append, ← List.append_assoc]
                            exact h1
                          have R4 := Lib.hid (RX.out.grownS HUI.out h2)
                          have HB4 : Hid (Below w.heap.size w X4) := HBX.out.grown h2 HBX.out.size (fun t e => (HUI.out.base t e).1)
                          obtain ⟨u0, u1, u2⟩ := u'
                          simp only [slV] at HA ⊢
                          have HIJ := Lib.hid hij
                          clear hp hbb t0 hr h1 h2 hS1 hij
                          go_wp2_with (first | (refine gate_build ?_; refine wpList_build_run 24 1 #[(0, .tmp 113)] rfl rfl [(0, .int .i64 pa)] _ rfl SB.out ?_) | (at_builtin; refine wpList_append_run (.tmp 107) (.tmp 114) 24 rfl rfl _ _ _ rfl rfl (HA.out _) ?_))
                          exact ⟨⟨i + 1, (vx, vn, vc), HIJ.out, by first | (simp; done) | (simp; exact HWI.out) | (rw [HWI.out]; simp), rfl, HU4, R4, HB4⟩, by have := HIJ.out; first | (simp [intOf]; omega) | (rw [HWI.out]; simp [intOf]; omega) | (simp [intOf, HWI.out]; omega)⟩
                        · obtain rfl : i = j := by omega
                          have HU5 : Hid (InO w.heap.size X (slV u') (cAts (l.take (k + 1)))) := by
                            have := HUI.out
                            rw [List.take_of_length_le (by have := HM.out; omega), ← HAN.out] at this
                            exact this
                          have c1 := RX.out.cell 1 _ rfl
                          have HALL := Lib.hid (rf_all (.slice x n c) s.ch X (HCH.out _ HBX.out) HOK.out.ch (by have := HCL.out; omega))
                          have g2 : ¬ ((i : Int) < (i : Int)) := by omega
                          clear HUI hij hi HBV RV UV
                          go_wp2_with fail
                          go_at_call 91
                          refine HALL.out.mono ?_
                          rintro e X6 ⟨cv, rfl, ho, hb6⟩
                          have HC0 : InO X.heap.size X6 cv ((allB s.ch).map fun k : Nat => (k : Int)) := by unfold InO; rw [List.length_map, ← natV_ints]; exact ho
                          obtain ⟨⟨ca, cn, cc⟩, rfl⟩ := HC0.isSl
                          have HCN : Hid (cn = ((allB s.ch).map fun k : Nat => (k : Int)).length) := InO.len (a := ca) (c := cc) HC0
                          obtain ⟨cl, hcl⟩ : ∃ cl, ((allB s.ch).map fun k : Nat => (k : Int)) = cl := ⟨_, rfl⟩
                          have HCLN : Hid (cl.length ≤ 8000) := by show _ ≤ _; rw [← hcl, List.length_map]; have := all_len s.ch; have := HCL.out; omega
                          rw [hcl] at HC0 HCN
                          have HCV := Lib.hid HC0
                          have HCE := Lib.hid hcl
                          have HU6 := Lib.hid (HU5.out.below hb6)
                          have R6 := Lib.hid (RX.out.below hb6)
                          have HB6 : Hid (Below w.heap.size w X6) := HBX.out.trans (hb6.mono HBX.out.size)
                          simp only [slV] at HCV ⊢
                          clear ho hb6 HC0 hcl HALL c1 c2 HU5 RX HBX
                          go_wp2_with fail
                          go_loopw [14] (fun jv V => ∃ j : Nat, j ≤ cn ∧ jv = .int .i64 (j : Int) ∧ Hid (∀ (t : Nat) (z : Int), t < j → cl[t]? = some z → (tFind s.tb z).isSome = true) ∧ Hid (Below X6.heap.size X6 V)) (fun jv _ => cn - (intOf jv).toNat)
                          case atStart => exact ⟨0, Nat.zero_le _, rfl, fun i p h => absurd h (by omega), Below.refl _ _⟩
                          case round =>
                            obtain ⟨V, hVwr⟩ : ∃ V, V = wr := ⟨_, rfl⟩
                            subst hVwr
                            obtain ⟨j, hj, rfl, HFJ, HV⟩ := hrel
                            have HWK := Lib.hid HW.out
                            have HBV : Hid (Below w.heap.size w V) := HB6.out.trans (HV.out.mono HB6.out.size)
                            have HUV := Lib.hid (HU6.out.below HV.out)
                            by_cases hjc : j < cn
                            · have g3 : (j : Int) < (cn : Int) := by omega
                              have g3' : decide ((j : Int) < (cn : Int)) = true := by simpa using g3
                              by_cases hkl : k + 1 < len
                              · have g4 : (k : Int) + 1 < (len : Int) := by omega
                                have g4' : decide ((k : Int) + 1 < (len : Int)) = true := by simpa using g4
                                obtain ⟨z0, hz0⟩ : ∃ z0, cl[j]? = some z0 := ⟨_, List.getElem?_eq_getElem (by rw [← HCN.out]; exact hjc)⟩
                                obtain ⟨g, rfl, hgs, u0⟩ := (HCV.out.below HV.out).at hz0
                                have d2 : ∀ z : Ext V, z.1.cell? ⟨C, 2, none⟩ = some (.slice y i d) := fun z => ((R6.out.below HV.out).below z.2).cell 2 _ rfl
                                have d5 : ∀ z : Ext V, z.1.cell? ⟨g, j, none⟩ = some (.int .i64 z0) := fun z => (z.2.cell (p := ⟨g, j, none⟩) hgs).trans u0
                                have HFD : Hid (∀ z : Ext V, Calls Tryz.prog 92 #[.slice y i d, .int .i64 z0] z.1 fun e w'' => e = .returned (.int .i64 (tIx s.tb z0)) ∧ ∃ y : Ext V, w'' = y.1) := fun z => (rf_find (HTB.out _ (HBV.out.trans (z.2.mono HBV.out.size))) z0 (by have := HCL.out; omega)).mono fun e w'' ⟨h1, h2⟩ => ⟨h1, z, h2⟩
                                have HWJ : Hid (wrap64 ((j : Int) + 1) = (j : Int) + 1) := IntWalk.wrap64_in _ (by have := HCN.out; have := HCLN.out; omega)
                                have HZ0 := Lib.hid hz0
                                have HJC := Lib.hid hjc
                                have HKL1 := Lib.hid hkl
                                clear hz0 hgs u0 hjc hkl
                                cases hf : tFind s.tb z0 with
                                | none =>
                                  have ht : tIx s.tb z0 = -1 := by unfold tIx; rw [hf]
                                  rw [ht] at HFD
                                  have HG : Hid (gd = false) := by
                                    show _ = _
                                    rw [HRT.out, rF_no (by rw [HCE.out]; exact HZ0.out) hf, decide_eq_false (by have := HKL1.out; have := HL.out; omega)]
                                    rfl
                                  clear hf ht
                                  go_wp2_with fail
                                  refine region_ext (by kernel_rfl) (by kernel_rfl) ?_
                                  repeat (go_big_quiet_step (with_reducible (first | exact HFD.out _)))
                                  try (with_reducible refine wpQuiet_nil ?_)
                                  intro z1
                                  have HBZ : Hid (Below w.heap.size w z1.1) := HBV.out.trans (z1.2.mono HBV.out.size)
                                  clear d2 d5 HFD
                                  go_wp2_with fail
                                  go_ret
                                  exact ⟨by rw [HG.out]; rfl, HBZ.out⟩
                                | some t =>
                                  have ht : tIx s.tb z0 = (t : Int) := by unfold tIx; rw [hf]
                                  rw [ht] at HFD
                                  have g5 : ¬ ((t : Int) < 0) := by omega
                                  have g5' : decide ((t : Int) < 0) = false := decide_eq_false g5
                                  have HF1 : Hid (∀ (t : Nat) (z : Int), t < j + 1 → cl[t]? = some z → (tFind s.tb z).isSome = true) := fun t' z ht' hz' => by
                                    by_cases e : t' = j
                                    · subst e; rw [HZ0.out] at hz'; cases hz'; rw [hf]; rfl
                                    · exact HFJ.out t' z (by omega) hz'
                                  clear hf ht
                                  go_wp2_with fail
                                  refine region_ext (by kernel_rfl) (by kernel_rfl) ?_
                                  repeat (go_big_quiet_step (with_reducible (first | exact HFD.out _)))
                                  try (with_reducible refine wpQuiet_nil ?_)
                                  intro z1
                                  have HV1 : Hid (Below X6.heap.size X6 z1.1) := HV.out.trans (z1.2.mono HV.out.size)
                                  clear d2 d5 HFD
                                  go_wp2_with fail
                                  exact ⟨⟨j + 1, HJC.out, by first | (simp; done) | (simp; exact HWJ.out) | (rw [HWJ.out]; simp), HF1, HV1⟩, by have := HJC.out; first | (simp [intOf]; omega) | (rw [HWJ.out]; simp [intOf]; omega) | (simp [intOf, HWJ.out]; omega)⟩
                              · have g4 : ¬ ((k : Int) + 1 < (len : Int)) := by omega
                                have g4' : decide ((k : Int) + 1 < (len : Int)) = false := by simpa using g4
                                have HNX : Hid (rGo bl ar (cAts (l.take (k + 1))) s.id (l.drop (k + 1)) = gd) := by
                                  show _ = _
                                  rw [HRT.out, decide_eq_true (by have := HL.out; omega), Bool.true_or, Bool.true_and]
                                clear hkl hjc HRT
                                go_wp2_with fail
                                exact ⟨⟨k + 1, u', s.id, HLT.out, by first | simp | (rw [HW.out]; simp), rfl, HUV, fun h => by simp at h, fun _ => ⟨s, HSK.out, rfl⟩, HID0, HNX, HT2, HBV⟩, by have := HLT.out; first | (simp [intOf]; omega) | (rw [HW.out]; simp [intOf]; omega)⟩
                            · have g3 : ¬ ((j : Int) < (cn : Int)) := by omega
                              have g3' : decide ((j : Int) < (cn : Int)) = false := by simpa using g3
                              have HNX : Hid (rGo bl ar (cAts (l.take (k + 1))) s.id (l.drop (k + 1)) = gd) := by
                                show _ = _
                                rw [HRT.out, rF_of (fun t z hz => by rw [HCE.out] at hz; exact HFJ.out t z (by have := (List.getElem?_eq_some_iff.1 hz).1; have := HCN.out; omega) hz), Bool.or_true, Bool.true_and]
                              clear hjc HRT
                              go_wp2_with fail
                              exact ⟨⟨k + 1, u', s.id, HLT.out, by first | simp | (rw [HW.out]; simp), rfl, HUV, fun h => by simp at h, fun _ => ⟨s, HSK.out, rfl⟩, HID0, HNX, HT2, HBV⟩, by have := HLT.out; first | (simp [intOf]; omega) | (rw [HW.out]; simp [intOf]; omega)⟩
            · obtain ⟨pp, hpp, hpl⟩ := HLP.out (by omega)
              obtain ⟨b', off', q', he, hbb, -, hqq, f0, -, -⟩ := HS.out.at hpp
              cases he
              obtain ⟨id', ch', tb'⟩ := q'
              simp only at f0
              obtain rfl : id' = last := by rw [← hpl]; exact hqq.id
              obtain ⟨m1, hm1⟩ : ∃ m1, k - 1 = m1 := ⟨_, rfl⟩
              rw [hm1] at f0
              have HD5 : Hid (decide (0 < k) = true) := by show _ = _; simp; omega
              have f3 : (k : Int) > 0 := by omega
              have f3' : decide ((k : Int) > 0) = true := by simpa using f3
              have hkm : (k : Int) - 1 = (m1 : Int) := by omega
              have hmn : (m1 : Int) < (len : Int) := by omega
              have p0 : ∀ z : Ext Y, z.1.cell? ⟨b, off + m1 * 3, none⟩ = some (.int .i64 id') := fun z => ((HBY.out.trans (z.2.mono HBY.out.size)).cell (p := ⟨b, off + m1 * 3, none⟩) hbb).trans f0
              clear hbb hqq f0 hpp hpl hm1 hk0
              by_cases q6 : s.id ≤ id'
              · have f4 : decide (s.id ≤ id') = true := by simpa using q6
                have HG : Hid (gd = false) := by show _ = _; rw [HST.out, rS_false (fun h => by omega), Bool.false_and]
                clear hst hA hb hq e0 e1 e2 hz bY rY HU hlt hs
                go_wp2_with fail
                clear LD ST
                try rw [hY]
                clear hY
                refine region_ext (by kernel_rfl) (by kernel_rfl) ?_
                repeat (go_big_quiet_step (with_reducible (first | exact HCG.out _ | exact HTG.out _)); try rw [HD5.out])
                try (with_reducible refine wpQuiet_nil ?_)
                intro z0
                have HBZ : Hid (Below w.heap.size w z0.1) := HBY.out.trans (z0.2.mono HBY.out.size)
                clear c0 c1 c2 HCG HTG
                clear p0
                go_wp2_with fail
                go_ret
                exact ⟨by rw [HG.out]; rfl, HBZ.out⟩
              · have f4 : decide (s.id ≤ id') = false := by simpa using q6
                cases hb5 : goodB s.ch bl with
                | false =>
                  rw [hb5] at HCG
                  have HG : Hid (gd = false) := by show _ = _; rw [HST.out, rS_false (fun h => by rw [hb5] at h; exact absurd h.2.2.2.1 (by decide)), Bool.false_and]
                  clear hst hA hb hq e0 e1 e2 hz bY rY HU hlt hs
                  clear hb5
                  go_wp2_with fail
                  clear LD ST
                  try rw [hY]
                  clear hY
                  refine region_ext (by kernel_rfl) (by kernel_rfl) ?_
                  repeat (go_big_quiet_step (with_reducible (first | exact HCG.out _ | exact HTG.out _)); try rw [HD5.out])
                  try (with_reducible refine wpQuiet_nil ?_)
                  intro z0
                  have HBZ : Hid (Below w.heap.size w z0.1) := HBY.out.trans (z0.2.mono HBY.out.size)
                  clear c0 c1 c2 HCG HTG
                  go_wp2_with fail
                  go_ret
                  exact ⟨by rw [HG.out]; rfl, HBZ.out⟩
                | true =>
                  rw [hb5] at HCG
                  cases hb6 : tGood s.tb bl ar with
                  | false =>
                    rw [hb6] at HTG
                    have HG : Hid (gd = false) := by show _ = _; rw [HST.out, rS_false (fun h => by rw [hb6] at h; exact absurd h.2.2.2.2 (by decide)), Bool.false_and]
                    clear hst hA hb hq e0 e1 e2 hz bY rY HU hlt hs
                    clear hb5 hb6
                    go_wp2_with fail
                    clear LD ST
                    try rw [hY]
                    clear hY
                    refine region_ext (by kernel_rfl) (by kernel_rfl) ?_
                    repeat (go_big_quiet_step (with_reducible (first | exact HCG.out _ | exact HTG.out _)); try rw [HD5.out])
                    try (with_reducible refine wpQuiet_nil ?_)
                    intro z0
                    have HBZ : Hid (Below w.heap.size w z0.1) := HBY.out.trans (z0.2.mono HBY.out.size)
                    clear c0 c1 c2 HCG HTG
                    go_wp2_with fail
                    go_ret
                    exact ⟨by rw [HG.out]; rfl, HBZ.out⟩
                  | true =>
                    rw [hb6] at HTG
                    have HCL : Hid (s.ch.length ≤ 1000 ∧ s.tb.length ≤ 1000) := pass_lens hb5 hb6 HB1.out
                    have HT2 : Hid (∀ t ∈ l.take (k + 1), t.tb.length ≤ 1000) := fun t ht => by
                      rw [take_at hs] at ht
                      rcases List.mem_append.1 ht with ht | ht
                      · exact HT1.out t ht
                      · rw [List.mem_singleton.1 ht]; exact HCL.out.2
                    have HRS : Hid (gd = (rT A s && ((decide (l.length ≤ k + 1) || rF s) && rGo bl ar (A ++ s.tb.map (·.2)) s.id (l.drop (k + 1))))) := by show _ = _; rw [HST.out, rS_true ⟨by omega, by omega, by omega, hb5, hb6⟩, Bool.true_and]
                    have HID0 : Hid (0 ≤ s.id) := by show 0 ≤ s.id; omega
                    clear hst hA hb hq e0 e1 e2 hz bY rY HU hlt hs HST hb5 hb6
                    go_wp2_with fail
                    clear LD ST
                    try rw [hY]
                    clear hY
                    refine region_ext (by kernel_rfl) (by kernel_rfl) ?_
                    repeat (go_big_quiet_step (with_reducible (first | exact HCG.out _ | exact HTG.out _)); try rw [HD5.out])
                    try (with_reducible refine wpQuiet_nil ?_)
                    intro z0
                    have HBZ : Hid (Below w.heap.size w z0.1) := HBY.out.trans (z0.2.mono HBY.out.size)
                    clear c0 c1 c2 HCG HTG

                    obtain ⟨Z, hZ⟩ : ∃ Z, z0.1 = Z := ⟨_, rfl⟩
                    have RZ := Lib.hid (RY.out.below z0.2)
                    have UZ := Lib.hid (HUY.out.below z0.2)
                    rw [hZ] at HBZ RZ UZ
                    try rw [hZ]
                    clear hZ z0 RY HUY HBY HB HD5 HLP HL0 HLN HW2 hlast HR
                    go_wp2_with fail
                    go_loopw [10] (fun jv V => ∃ j : Nat, j ≤ m ∧ jv = .int .i64 (j : Int) ∧ Hid (∀ (i : Nat) (p : Int × Int), i < j → s.tb[i]? = some p → hasB s.ch p.1 = true ∧ p.2 ∉ A) ∧ Hid (Below Z.heap.size Z V)) (fun jv _ => m - (intOf jv).toNat)
                    case atStart => exact ⟨0, Nat.zero_le _, rfl, fun i p h => absurd h (by omega), Below.refl _ _⟩
                    case round =>
                      obtain ⟨V, hVwr⟩ : ∃ V, V = wr := ⟨_, rfl⟩
                      subst hVwr
                      obtain ⟨j, hj, rfl, HAJ, HV⟩ := hrel
                      have HBV : Hid (Below w.heap.size w V) := HBZ.out.trans (HV.out.mono HBZ.out.size)
                      have RV := Lib.hid (RZ.out.below HV.out)
                      have UV := Lib.hid (UZ.out.below HV.out)
                      have c2 := RV.out.cell 2 _ rfl
                      by_cases hjm : j < m
                      · obtain ⟨p, hp⟩ : ∃ p, s.tb[j]? = some p := ⟨_, List.getElem?_eq_getElem (by rw [← HM.out]; exact hjm)⟩
                        obtain ⟨bb, boff, rfl, hbb, t0, t1⟩ := (HTB.out _ HBV.out).at hp
                        have g2 : (j : Int) < (m : Int) := by omega
                        have HWJ : Hid (wrap64 ((j : Int) + 1) = (j : Int) + 1) := IntWalk.wrap64_in _ (by omega)
                        have hp64 := HOK.out.tb p (List.mem_of_getElem? hp)
                        obtain ⟨pb, pa⟩ := p
                        simp only at t0 t1 hp64
                        have d1 : ∀ z : Ext V, z.1.cell? ⟨C, 1, none⟩ = some (.slice x n c) := fun z => (RV.out.below z.2).cell 1 _ rfl
                        have d2 : ∀ z : Ext V, z.1.cell? ⟨C, 2, none⟩ = some (.slice (some ⟨bb, boff, none⟩) m d) := fun z => (RV.out.below z.2).cell 2 _ rfl
                        have d3 : ∀ z : Ext V, z.1.cell? ⟨bb, boff + j * 2, none⟩ = some (.int .i64 pb) := fun z => (z.2.cell (p := ⟨bb, boff + j * 2, none⟩) hbb).trans t0
                        have HHA : Hid (∀ z : Ext V, Calls Tryz.prog 90 #[.slice x n c, .int .i64 pb] z.1 fun e w'' => e = .returned (.bool (hasB s.ch pb)) ∧ ∃ y : Ext V, w'' = y.1) := fun z => (rf_has _ s.ch pb (wf_i64 hp64.1.1 hp64.1.2) z.1 (HCH.out _ (HBV.out.trans (z.2.mono HBV.out.size))) HOK.out.ch).mono fun e w'' ⟨h1, h2⟩ => ⟨h1, z, h2⟩
                        have HJM := Lib.hid hjm
                        have HP := Lib.hid hp
                        have HBB : Hid (bb < V.heap.size ∧ V.cell? ⟨bb, boff + j * 2 + 1, none⟩ = some (.int .i64 pa)) := ⟨hbb, t1⟩
                        cases hh : hasB s.ch pb with
                        | false =>
                          rw [hh] at HHA
                          have HG : Hid (gd = false) := by show _ = _; rw [HRS.out, rT_no HP.out (.inl hh), Bool.false_and]
                          clear hjm hp hbb t0 t1 hp64 hh
                          go_wp2_with fail
                          refine region_ext (by kernel_rfl) (by kernel_rfl) ?_
                          repeat (go_big_quiet_step (with_reducible (first | exact HHA.out _)))
                          try (with_reducible refine wpQuiet_nil ?_)
                          intro z1
                          have HBZ : Hid (Below w.heap.size w z1.1) := HBV.out.trans (z1.2.mono HBV.out.size)
                          clear d1 d2 d3 HHA c2
                          go_wp2_with fail
                          go_ret
                          exact ⟨by rw [HG.out]; rfl, HBZ.out⟩
                        | true =>
                          rw [hh] at HHA
                          have HHH := Lib.hid hh
                          clear hjm hp hbb t0 t1 hp64 hh
                          go_wp2_with fail
                          refine region_ext (by kernel_rfl) (by kernel_rfl) ?_
                          repeat (go_big_quiet_step (with_reducible (first | exact HHA.out _)))
                          try (with_reducible refine wpQuiet_nil ?_)
                          intro z1
                          obtain ⟨V2, hV2⟩ : ∃ V2, z1.1 = V2 := ⟨_, rfl⟩
                          have bV : Below V.heap.size V V2 := by rw [← hV2]; exact z1.2
                          have RV2 := Lib.hid (RV.out.below bV)
                          have UV2 := Lib.hid (UV.out.below bV)
                          have HBV2 : Hid (Below w.heap.size w V2) := HBV.out.trans (bV.mono HBV.out.size)
                          have HV2 : Hid (Below Z.heap.size Z V2) := HV.out.trans (bV.mono HV.out.size)
                          have HPA : Hid (bb < V2.heap.size ∧ V2.cell? ⟨bb, boff + j * 2 + 1, none⟩ = some (.int .i64 pa)) := ⟨Nat.lt_of_lt_of_le HBB.out.1 bV.size, (bV.cell (p := ⟨bb, boff + j * 2 + 1, none⟩) HBB.out.1).trans HBB.out.2⟩
                          try rw [hV2]
                          clear d1 d2 d3 HHA c2 hV2 z1 bV RV UV HBV HV HBB
                          go_wp2_with fail
                          go_loopw [11] (fun iv X => ∃ i : Nat, i ≤ un ∧ iv = .int .i64 (i : Int) ∧ Hid (∀ (i' : Nat) (y : Int), i' < i → A[i']? = some y → y ≠ pa) ∧ Hid (Below V2.heap.size V2 X)) (fun iv _ => un - (intOf iv).toNat)
                          case atStart => exact ⟨0, Nat.zero_le _, rfl, fun i p h => absurd h (by omega), Below.refl _ _⟩
                          case round =>
                            obtain ⟨X, hXwr⟩ : ∃ X, X = wr := ⟨_, rfl⟩
                            subst hXwr
                            obtain ⟨i, hi, rfl, HI, HX⟩ := hrel
                            by_cases hin : i < un
                            · obtain ⟨y0, hy0⟩ : ∃ y0, A[i]? = some y0 := ⟨_, List.getElem?_eq_getElem (by rw [← HUN.out]; exact hin)⟩
                              obtain ⟨g, rfl, hgs, u0⟩ := (UV2.out.below HX.out).at hy0
                              have d2 : ∀ z : Ext X, z.1.cell? ⟨C, 2, none⟩ = some (.slice (some ⟨bb, boff, none⟩) m d) := fun z => ((RV2.out.below HX.out).below z.2).cell 2 _ rfl
                              have d4 : ∀ z : Ext X, z.1.cell? ⟨bb, boff + j * 2 + 1, none⟩ = some (.int .i64 pa) := fun z => (z.2.cell (p := ⟨bb, boff + j * 2 + 1, none⟩) (Nat.lt_of_lt_of_le HPA.out.1 HX.out.size)).trans ((HX.out.cell (p := ⟨bb, boff + j * 2 + 1, none⟩) HPA.out.1).trans HPA.out.2)
                              have d5 : ∀ z : Ext X, z.1.cell? ⟨g, i, none⟩ = some (.int .i64 y0) := fun z => (z.2.cell (p := ⟨g, i, none⟩) hgs).trans u0
                              have g3 : (i : Int) < (un : Int) := by omega
                              have HWI : Hid (wrap64 ((i : Int) + 1) = (i : Int) + 1) := IntWalk.wrap64_in _ (by have := HUN.out; have := HAL.out; omega)
                              have HIN := Lib.hid hin
                              have HY0 := Lib.hid hy0
                              have g4 : (j : Int) < (m : Int) := g2
                              clear hy0 hgs u0 hin
                              by_cases hyp : y0 = pa
                              · have qy : (y0 == pa) = true := by simpa using hyp
                                have HG : Hid (gd = false) := by show _ = _; rw [HRS.out, rT_no HP.out (.inr (by show pa ∈ A; rw [← hyp]; exact List.mem_of_getElem? HY0.out)), Bool.false_and]
                                clear hyp
                                go_wp2_with fail
                                refine region_ext (by kernel_rfl) (by kernel_rfl) ?_
                                repeat (go_big_quiet_step (fail))
                                try (with_reducible refine wpQuiet_nil ?_)
                                intro z1
                                have HBZ : Hid (Below w.heap.size w z1.1) := HBV2.out.trans ((HX.out.trans (z1.2.mono HX.out.size)).mono HBV2.out.size)
                                clear d2 d4 d5
                                go_wp2_with fail
                                go_ret
                                exact ⟨by rw [HG.out]; rfl, HBZ.out⟩
                              · have qy : (y0 == pa) = false := by simpa using hyp
                                have HI1 : Hid (∀ (i' : Nat) (y : Int), i' < i + 1 → A[i']? = some y → y ≠ pa) := fun i' y hi' hy' => by
                                  by_cases e : i' = i
                                  · subst e; rw [HY0.out] at hy'; cases hy'; exact hyp
                                  · exact HI.out i' y (by omega) hy'
                                go_wp2_with fail
                                refine region_ext (by kernel_rfl) (by kernel_rfl) ?_
                                repeat (go_big_quiet_step (fail))
                                try (with_reducible refine wpQuiet_nil ?_)
                                intro z1
                                have HX1 : Hid (Below V2.heap.size V2 z1.1) := HX.out.trans (z1.2.mono HX.out.size)
                                clear d2 d4 d5
                                go_wp2_with fail
                                exact ⟨⟨i + 1, HIN.out, by first | (simp; done) | (simp; exact HWI.out) | (rw [HWI.out]; simp), HI1, HX1⟩, by have := HIN.out; first | (simp [intOf]; omega) | (rw [HWI.out]; simp [intOf]; omega) | (simp [intOf, HWI.out]; omega)⟩
                            · have hie : un ≤ i := by omega
                              have HNA : Hid (∀ (i' : Nat) (p : Int × Int), i' < j + 1 → s.tb[i']? = some p → hasB s.ch p.1 = true ∧ p.2 ∉ A) := fun i' p hi' hp' => by
                                by_cases e : i' = j
                                · subst e
                                  rw [HP.out] at hp'
                                  cases hp'
                                  refine ⟨HHH.out, fun hm => ?_⟩
                                  obtain ⟨t, ht⟩ := List.getElem?_of_mem hm
                                  exact HI.out t _ (by have := (List.getElem?_eq_some_iff.1 ht).1; have := HUN.out; omega) ht rfl
                                · exact HAJ.out i' p (by omega) hp'
                              have g3 : ¬ ((i : Int) < (un : Int)) := by omega
                              have g3' : decide ((i : Int) < (un : Int)) = false := by simpa using g3
                              have HVX : Hid (Below Z.heap.size Z X) := HV2.out.trans (HX.out.mono HV2.out.size)
                              clear hie
                              go_wp2_with fail
                              exact ⟨⟨j + 1, HJM.out, by first | (simp; done) | (simp; exact HWJ.out) | (rw [HWJ.out]; simp), HNA, HVX⟩, by have := HJM.out; first | (simp [intOf]; omega) | (rw [HWJ.out]; simp [intOf]; omega) | (simp [intOf, HWJ.out]; omega)⟩
                      · obtain rfl : j = m := by omega
                        have HRT : Hid (gd = ((decide (l.length ≤ k + 1) || rF s) && rGo bl ar (cAts (l.take (k + 1))) s.id (l.drop (k + 1)))) := by
                          show _ = _
                          rw [HRS.out, HAN.out, rT_of (fun i p hp => HAJ.out i p (by have := (List.getElem?_eq_some_iff.1 hp).1; have := HM.out; omega) hp), Bool.true_and]
                        clear HRS HV HAJ RZ UZ HBZ hjm hj
                        go_wp2_with fail
                        clear c2
                        go_loopw [7, 12] (fun uv jv X => ∃ (i : Nat) (u' : SlV), i ≤ j ∧ jv = .int .i64 (i : Int) ∧ uv = slV u' ∧ Hid (InO w.heap.size X (slV u') (A ++ (s.tb.take i).map (·.2))) ∧ Hid (RowC X C 51 [.int .i64 s.id, .slice x n c, .slice y j d]) ∧ Hid (Below w.heap.size w X)) (fun _ jv _ => j - (intOf jv).toNat)
                        case atStart => exact ⟨0, (ux, un, uc), Nat.zero_le _, rfl, rfl, (by show InO _ _ _ _; rw [List.take_zero, List.map_nil, List.append_nil]; exact UV.out), RV, HBV⟩
                        case round =>
                          obtain ⟨X, hXwr⟩ : ∃ X, X = wr := ⟨_, rfl⟩
                          subst hXwr
                          obtain ⟨i, u', hi, rfl, rfl, HUI, RX, HBX⟩ := hrel
                          have c2 := RX.out.cell 2 _ rfl
                          by_cases hij : i < j
                          · obtain ⟨p, hp⟩ : ∃ p, s.tb[i]? = some p := ⟨_, List.getElem?_eq_getElem (by rw [← HM.out]; exact hij)⟩
                            obtain ⟨bb, boff, rfl, hbb, t0, t1⟩ := (HTB.out _ HBX.out).at hp
                            obtain ⟨pb, pa⟩ := p
                            simp only at t0 t1
                            have g2 : (i : Int) < (j : Int) := by omega
                            have HWI : Hid (wrap64 ((i : Int) + 1) = (i : Int) + 1) := IntWalk.wrap64_in _ (by omega)
                            obtain ⟨W3, vx, vn, vc, X4, hS1, hr, h1, h2⟩ := gd_app HUI.out HBX.out.size pa (by have := HCL.out; have := HAL.out; simp only [List.length_append, List.length_map, List.length_take]; omega)
                            have HA := Lib.hid hr
                            have SB := Lib.hid hS1
                            have HU4 : Hid (InO w.heap.size X4 (.slice vx vn vc) (A ++ (s.tb.take (i + 1)).map (·.2))) := by
                              show InO _ _ _ _
                              rw [take_at hp, List.map_append, ← List.append_assoc]
                              exact h1
                            have R4 := Lib.hid (RX.out.grownS HUI.out h2)
                            have HB4 : Hid (Below w.heap.size w X4) := HBX.out.grown h2 HBX.out.size (fun t e => (HUI.out.base t e).1)
                            obtain ⟨u0, u1, u2⟩ := u'
                            simp only [slV] at HA ⊢
                            have HIJ := Lib.hid hij
                            clear hp hbb t0 hr h1 h2 hS1 hij
                            go_wp2_with (first | (refine gate_build ?_; refine wpList_build_run 24 1 #[(0, .tmp 113)] rfl rfl [(0, .int .i64 pa)] _ rfl SB.out ?_) | (at_builtin; refine wpList_append_run (.tmp 107) (.tmp 114) 24 rfl rfl _ _ _ rfl rfl (HA.out _) ?_))
                            exact ⟨⟨i + 1, (vx, vn, vc), HIJ.out, by first | (simp; done) | (simp; exact HWI.out) | (rw [HWI.out]; simp), rfl, HU4, R4, HB4⟩, by have := HIJ.out; first | (simp [intOf]; omega) | (rw [HWI.out]; simp [intOf]; omega) | (simp [intOf, HWI.out]; omega)⟩
                          · obtain rfl : i = j := by omega
                            have HU5 : Hid (InO w.heap.size X (slV u') (cAts (l.take (k + 1)))) := by
                              have := HUI.out
                              rw [List.take_of_length_le (by have := HM.out; omega), ← HAN.out] at this
                              exact this
                            have c1 := RX.out.cell 1 _ rfl
                            have HALL := Lib.hid (rf_all (.slice x n c) s.ch X (HCH.out _ HBX.out) HOK.out.ch (by have := HCL.out; omega))
                            have g2 : ¬ ((i : Int) < (i : Int)) := by omega
                            clear HUI hij hi HBV RV UV
                            go_wp2_with fail
                            go_at_call 91
                            refine HALL.out.mono ?_
                            rintro e X6 ⟨cv, rfl, ho, hb6⟩
                            have HC0 : InO X.heap.size X6 cv ((allB s.ch).map fun k : Nat => (k : Int)) := by unfold InO; rw [List.length_map, ← natV_ints]; exact ho
                            obtain ⟨⟨ca, cn, cc⟩, rfl⟩ := HC0.isSl
                            have HCN : Hid (cn = ((allB s.ch).map fun k : Nat => (k : Int)).length) := InO.len (a := ca) (c := cc) HC0
                            obtain ⟨cl, hcl⟩ : ∃ cl, ((allB s.ch).map fun k : Nat => (k : Int)) = cl := ⟨_, rfl⟩
                            have HCLN : Hid (cl.length ≤ 8000) := by show _ ≤ _; rw [← hcl, List.length_map]; have := all_len s.ch; have := HCL.out; omega
                            rw [hcl] at HC0 HCN
                            have HCV := Lib.hid HC0
                            have HCE := Lib.hid hcl
                            have HU6 := Lib.hid (HU5.out.below hb6)
                            have R6 := Lib.hid (RX.out.below hb6)
                            have HB6 : Hid (Below w.heap.size w X6) := HBX.out.trans (hb6.mono HBX.out.size)
                            simp only [slV] at HCV ⊢
                            clear ho hb6 HC0 hcl HALL c1 c2 HU5 RX HBX
                            go_wp2_with fail
                            go_loopw [14] (fun jv V => ∃ j : Nat, j ≤ cn ∧ jv = .int .i64 (j : Int) ∧ Hid (∀ (t : Nat) (z : Int), t < j → cl[t]? = some z → (tFind s.tb z).isSome = true) ∧ Hid (Below X6.heap.size X6 V)) (fun jv _ => cn - (intOf jv).toNat)
                            case atStart => exact ⟨0, Nat.zero_le _, rfl, fun i p h => absurd h (by omega), Below.refl _ _⟩
                            case round =>
                              obtain ⟨V, hVwr⟩ : ∃ V, V = wr := ⟨_, rfl⟩
                              subst hVwr
                              obtain ⟨j, hj, rfl, HFJ, HV⟩ := hrel
                              have HWK := Lib.hid HW.out
                              have HBV : Hid (Below w.heap.size w V) := HB6.out.trans (HV.out.mono HB6.out.size)
                              have HUV := Lib.hid (HU6.out.below HV.out)
                              by_cases hjc : j < cn
                              · have g3 : (j : Int) < (cn : Int) := by omega
                                have g3' : decide ((j : Int) < (cn : Int)) = true := by simpa using g3
                                by_cases hkl : k + 1 < len
                                · have g4 : (k : Int) + 1 < (len : Int) := by omega
                                  have g4' : decide ((k : Int) + 1 < (len : Int)) = true := by simpa using g4
                                  obtain ⟨z0, hz0⟩ : ∃ z0, cl[j]? = some z0 := ⟨_, List.getElem?_eq_getElem (by rw [← HCN.out]; exact hjc)⟩
                                  obtain ⟨g, rfl, hgs, u0⟩ := (HCV.out.below HV.out).at hz0
                                  have d2 : ∀ z : Ext V, z.1.cell? ⟨C, 2, none⟩ = some (.slice y i d) := fun z => ((R6.out.below HV.out).below z.2).cell 2 _ rfl
                                  have d5 : ∀ z : Ext V, z.1.cell? ⟨g, j, none⟩ = some (.int .i64 z0) := fun z => (z.2.cell (p := ⟨g, j, none⟩) hgs).trans u0
                                  have HFD : Hid (∀ z : Ext V, Calls Tryz.prog 92 #[.slice y i d, .int .i64 z0] z.1 fun e w'' => e = .returned (.int .i64 (tIx s.tb z0)) ∧ ∃ y : Ext V, w'' = y.1) := fun z => (rf_find (HTB.out _ (HBV.out.trans (z.2.mono HBV.out.size))) z0 (by have := HCL.out; omega)).mono fun e w'' ⟨h1, h2⟩ => ⟨h1, z, h2⟩
                                  have HWJ : Hid (wrap64 ((j : Int) + 1) = (j : Int) + 1) := IntWalk.wrap64_in _ (by have := HCN.out; have := HCLN.out; omega)
                                  have HZ0 := Lib.hid hz0
                                  have HJC := Lib.hid hjc
                                  have HKL1 := Lib.hid hkl
                                  clear hz0 hgs u0 hjc hkl
                                  cases hf : tFind s.tb z0 with
                                  | none =>
                                    have ht : tIx s.tb z0 = -1 := by unfold tIx; rw [hf]
                                    rw [ht] at HFD
                                    have HG : Hid (gd = false) := by
                                      show _ = _
                                      rw [HRT.out, rF_no (by rw [HCE.out]; exact HZ0.out) hf, decide_eq_false (by have := HKL1.out; have := HL.out; omega)]
                                      rfl
                                    clear hf ht
                                    go_wp2_with fail
                                    refine region_ext (by kernel_rfl) (by kernel_rfl) ?_
                                    repeat (go_big_quiet_step (with_reducible (first | exact HFD.out _)))
                                    try (with_reducible refine wpQuiet_nil ?_)
                                    intro z1
                                    have HBZ : Hid (Below w.heap.size w z1.1) := HBV.out.trans (z1.2.mono HBV.out.size)
                                    clear d2 d5 HFD
                                    go_wp2_with fail
                                    go_ret
                                    exact ⟨by rw [HG.out]; rfl, HBZ.out⟩
                                  | some t =>
                                    have ht : tIx s.tb z0 = (t : Int) := by unfold tIx; rw [hf]
                                    rw [ht] at HFD
                                    have g5 : ¬ ((t : Int) < 0) := by omega
                                    have g5' : decide ((t : Int) < 0) = false := decide_eq_false g5
                                    have HF1 : Hid (∀ (t : Nat) (z : Int), t < j + 1 → cl[t]? = some z → (tFind s.tb z).isSome = true) := fun t' z ht' hz' => by
                                      by_cases e : t' = j
                                      · subst e; rw [HZ0.out] at hz'; cases hz'; rw [hf]; rfl
                                      · exact HFJ.out t' z (by omega) hz'
                                    clear hf ht
                                    go_wp2_with fail
                                    refine region_ext (by kernel_rfl) (by kernel_rfl) ?_
                                    repeat (go_big_quiet_step (with_reducible (first | exact HFD.out _)))
                                    try (with_reducible refine wpQuiet_nil ?_)
                                    intro z1
                                    have HV1 : Hid (Below X6.heap.size X6 z1.1) := HV.out.trans (z1.2.mono HV.out.size)
                                    clear d2 d5 HFD
                                    go_wp2_with fail
                                    exact ⟨⟨j + 1, HJC.out, by first | (simp; done) | (simp; exact HWJ.out) | (rw [HWJ.out]; simp), HF1, HV1⟩, by have := HJC.out; first | (simp [intOf]; omega) | (rw [HWJ.out]; simp [intOf]; omega) | (simp [intOf, HWJ.out]; omega)⟩
                                · have g4 : ¬ ((k : Int) + 1 < (len : Int)) := by omega
                                  have g4' : decide ((k : Int) + 1 < (len : Int)) = false := by simpa using g4
                                  have HNX : Hid (rGo bl ar (cAts (l.take (k + 1))) s.id (l.drop (k + 1)) = gd) := by
                                    show _ = _
                                    rw [HRT.out, decide_eq_true (by have := HL.out; omega), Bool.true_or, Bool.true_and]
                                  clear hkl hjc HRT
                                  go_wp2_with fail
                                  exact ⟨⟨k + 1, u', s.id, HLT.out, by first | simp | (rw [HW.out]; simp), rfl, HUV, fun h => by simp at h, fun _ => ⟨s, HSK.out, rfl⟩, HID0, HNX, HT2, HBV⟩, by have := HLT.out; first | (simp [intOf]; omega) | (rw [HW.out]; simp [intOf]; omega)⟩
                              · have g3 : ¬ ((j : Int) < (cn : Int)) := by omega
                                have g3' : decide ((j : Int) < (cn : Int)) = false := by simpa using g3
                                have HNX : Hid (rGo bl ar (cAts (l.take (k + 1))) s.id (l.drop (k + 1)) = gd) := by
                                  show _ = _
                                  rw [HRT.out, rF_of (fun t z hz => by rw [HCE.out] at hz; exact HFJ.out t z (by have := (List.getElem?_eq_some_iff.1 hz).1; have := HCN.out; omega) hz), Bool.or_true, Bool.true_and]
                                clear hjc HRT
                                go_wp2_with fail
                                exact ⟨⟨k + 1, u', s.id, HLT.out, by first | simp | (rw [HW.out]; simp), rfl, HUV, fun h => by simp at h, fun _ => ⟨s, HSK.out, rfl⟩, HID0, HNX, HT2, HBV⟩, by have := HLT.out; first | (simp [intOf]; omega) | (rw [HW.out]; simp [intOf]; omega)⟩
      · obtain rfl : k = len := by omega
        have HG : Hid (gd = true) := by
          show _ = _
          have := HR.out
          rw [rGo_end (by rw [HL.out]; exact Nat.le_refl _)] at this
          exact this.symm
        clear hlt HR
        go_wp2_with fail
        go_ret
        exact ⟨by rw [HG.out]; rfl, HB.out⟩
end Go.Proofs.YtfihpljgbghogaaGreat

/- Marked sectors and their bytes; no program. -/
namespace Go.Proofs.YtfihpljgbghogaaGreat
open Go.RowKit
set_option linter.unusedVariables false

theorem IsBytes.cut {bs : List Int} (h : IsBytes bs) (k n : Nat) : IsBytes ((bs.drop k).take n) := by
  intro j
  rw [List.getElem?_take]
  split
  · rw [List.getElem?_drop]; exact h _
  · simp
end Go.Proofs.YtfihpljgbghogaaGreat

/- Marked sectors in memory: their rows of cells, read and written at once; copies. -/
namespace Go.Proofs.YtfihpljgbghogaaGreat
open Go.RowKit
set_option linter.unusedVariables false

def u8s (bs : List Int) : List Value := bs.map (Value.int .u8)
/-- Bytes that a call has made since W. -/
def OwnB (W x : World) (v : Value) (bs : List Int) : Prop := x.ownsRow W.heap.size 5 1 v bs.length (u8s bs)
theorem OwnB.below {W x x' : World} {v : Value} {bs : List Int} (h : OwnB W x v bs) (hb : Below x.heap.size x x') : OwnB W x' v bs := by
  refine ⟨h.1, ?_⟩
  rcases h.2 with h' | ⟨g, cap, cur, rfl, a1, a2, a3⟩
  · exact .inl h'
  · exact .inr ⟨g, cap, cur, rfl, a1, (hb.block g (Array.getElem?_eq_some_iff.1 a2).1).trans a2, a3⟩
theorem OwnB.sl {W x : World} {v : Value} {bs : List Int} (h : OwnB W x v bs) : Sl .u8 x v bs := Sl.of_owns h
set_option maxRecDepth 100000 in
theorem OwnB.app {W x : World} {v u : Value} {xs bs : List Int} (h : OwnB W x v xs) (hb : Below W.heap.size W x) (hu : Sl .u8 x u bs) (hl : xs.length + bs.length ≤ 1000000) :
    ∃ v' x', Hid ((Builtin.append_ #[31, 31] 31 #[v, u]).run Tryz.prog x = .ok v' x') ∧ Hid (OwnB W x' v' (xs ++ bs)) ∧ Hid (Below W.heap.size W x') := by
  obtain ⟨v', x', r1, r2, r3⟩ := run_append_bytes W.heap.size x v xs h u bs hu (by omega) hb.size
  exact ⟨v', x', r1, r2, hb.grown r3 hb.size (fun k e => (h.lt k e).1)⟩
end Go.Proofs.YtfihpljgbghogaaGreat

/- The document's own Count. -/
namespace Go.Proofs.YtfihpljgbghogaaGreat
open Go.RowKit
set_option linter.unusedVariables false

/-- How many pieces so many bytes have. -/
def cnt (n : Int) : Int := if n < 1 then 0 else (n - 1) / 48 + 1
set_option maxRecDepth 100000 in
theorem refCount (n : Int) (w : World) (h0 : -9223372036854775808 ≤ n) (h1 : n < 9223372036854775808) :
    Calls Tryz.prog 71 #[.int .i64 n] w fun e w' => e = .returned (.int .i64 (cnt n)) ∧ w' = w := by
  by_cases hn : n < 1
  · have hc : cnt n = 0 := if_pos hn
    rw [hc]
    go_enter Tryz.func71, Tryz.ntmps71
    go_wp2_with fail
    all_goals (go_ret; exact ⟨rfl, rfl⟩)
  · have hc : cnt n = (n - 1) / 48 + 1 := if_neg hn
    have hq : Int.tdiv (n - 1) 48 = (n - 1) / 48 := Int.tdiv_eq_ediv_of_nonneg (by omega)
    rw [hc]
    go_enter Tryz.func71, Tryz.ntmps71
    go_wp2_with fail
    all_goals (go_ret; exact ⟨rfl, rfl⟩)
end Go.Proofs.YtfihpljgbghogaaGreat

/- Geometries; the document's answers about them. -/
namespace Go.Proofs.YtfihpljgbghogaaGreat
open Go.RowKit Go.Shelf
set_option linter.unusedVariables false

/-- A geometry: blocks, sets, ways, area, ring. -/
structure Geo where
  b : Int
  s : Int
  y : Int
  a : Int
  r : Int
def Geo.v (g : Geo) : Array Value := #[.int .i64 g.b, .int .i64 g.s, .int .i64 g.y, .int .i64 g.a, .int .i64 g.r]
def Geo.shape (g : Geo) : Prop := 1 ≤ g.b ∧ g.b ≤ 64 ∧ 1 ≤ g.s ∧ g.s ≤ 8 ∧ 1 ≤ g.y ∧ g.y ≤ 4 ∧ 0 ≤ g.a ∧ g.a ≤ 200
def Geo.slots (g : Geo) : Int := g.s * g.y
def Geo.bts (g : Geo) : Int := 10 + g.s * g.y + g.b + 8 * (4 + (g.b + 7) / 8 + g.b)
def Geo.pgs (g : Geo) : Int := cnt g.bts
def Geo.good (g : Geo) : Prop := g.shape ∧ g.pgs + 2 ≤ g.r ∧ g.r ≤ 256
instance (g : Geo) : Decidable g.shape := by unfold Geo.shape; infer_instance
instance (g : Geo) : Decidable g.good := by unfold Geo.good; infer_instance
def Geo.oB (g : Geo) : Int := if g.good then g.bts else 0
theorem Geo.bounds {g : Geo} (h : g.shape) : 1 ≤ g.slots ∧ g.slots ≤ 32 ∧ 52 ≤ g.bts ∧ g.bts ≤ 714 ∧ 2 ≤ g.pgs ∧ g.pgs ≤ 15 := by
  obtain ⟨h1, h2, h3, h4, h5, h6, h7, h8⟩ := h
  have m1 : 1 ≤ g.s * g.y := by have := Int.mul_le_mul h3 h5 (by omega) (by omega); simpa using this
  have m2 : g.s * g.y ≤ 32 := by have := Int.mul_le_mul h4 h6 (by omega) (by omega); simpa using this
  have b1 : 52 ≤ g.bts := by unfold Geo.bts; omega
  have b2 : g.bts ≤ 714 := by unfold Geo.bts; omega
  refine ⟨m1, m2, b1, b2, ?_, ?_⟩ <;> (unfold Geo.pgs cnt; rw [if_neg (by omega)]; omega)
theorem rowG (w : World) (v : Array Value) (t : TypeId) {x : World} (hx : Below (w.alloc (.cells v t)).heap.size (w.alloc (.cells v t)) x) (j : Nat) : x.cell? ⟨w.heap.size, j, none⟩ = v[j]? :=
  cell_of_row x _ j _ _ _ ((hx.block _ (by simp)).trans (heap_alloc_new w _))
theorem below_newG (x : World) (o : Obj) : Below x.heap.size x (x.alloc o) := (Below.refl _ x).alloc (Nat.le_refl _) _

section
set_option maxRecDepth 100000
set_option maxHeartbeats 4000000
set_option maxRecDepth 100000 in
theorem refShape (g : Geo) (w : World) : Calls Tryz.prog 70 #[.agg g.v] w fun e w' => e = .returned (.bool (decide g.shape)) ∧ Below w.heap.size w w' := by
  have hB := below_newG w (.cells g.v 23)
  have hc := rowG w g.v 23 (Below.refl _ _)
  have HS : Hid (decide g.shape = decide (1 ≤ g.b ∧ g.b ≤ 64 ∧ 1 ≤ g.s ∧ g.s ≤ 8 ∧ 1 ≤ g.y ∧ g.y ≤ 4 ∧ 0 ≤ g.a ∧ g.a ≤ 200)) := rfl
  obtain ⟨W, hW⟩ : ∃ W, w.alloc (.cells g.v 23) = W := ⟨_, rfl⟩
  rw [hW] at hB hc
  have c0 := hc 0
  have c1 := hc 1
  have c2 := hc 2
  have c3 := hc 3
  have HB := Lib.hid hB
  clear hc hB
  obtain ⟨b, s, y, a, r⟩ := g
  simp only [Geo.v] at c0 c1 c2 c3 hW ⊢
  simp only [List.getElem?_toArray, List.getElem?_cons_zero, List.getElem?_cons_succ] at c0 c1 c2 c3
  go_enter Tryz.func70, Tryz.ntmps70
  go_wp2_with fail
  all_goals
    go_ret
    refine ⟨congrArg (fun x => Ending.returned (Value.bool x)) ?_, HB.out⟩
    rw [HS.out]
    first
      | exact (decide_eq_false (by omega)).symm
      | exact (decide_eq_true (by omega)).symm
      | (rw [decide_eq_decide]; omega)
end
end Go.Proofs.YtfihpljgbghogaaGreat

/- The range function of package le has its contract: each place below the bound comes, with its shift, in order. -/
namespace Go.Proofs.YtfihpljgbghogaaGreat
open Go.RowKit Go.Shelf
set_option linter.unusedVariables false

attribute [local go_sem] Oper.semAt_some

/-- What has come when k rounds are over: the first k places. -/
def upto (m k : Nat) : List (Fin m) := (List.finRange m).take k
theorem upto_succ (m k : Nat) (h : k < m) : upto m (k + 1) = upto m k ++ [⟨k, h⟩] := by
  unfold upto
  rw [List.take_succ_eq_append_getElem (by simpa using h)]
  simp
theorem upto_length (m k : Nat) (h : k ≤ m) : (upto m k).length = k := by simp [upto, h]
theorem upto_all (m : Nat) : upto m m = List.finRange m := by
  unfold upto; rw [List.take_of_length_le (by simp)]

def encP {m : Nat} (x : Fin m) : Array Value := #[.int .i64 (x.1 : Int), .int .u64 (8 * (x.1 : Int))]

set_option maxRecDepth 100000 in
set_option maxHeartbeats 1000000 in
theorem places_in (F : Fence) (n : Nat) (hf : F.fn 58) (hro : F.round = none) (size : Int) (w : World) :
    CallsIn F n Tryz.prog 58 #[.int .i64 size] w fun e w' => e = .returned (.func (.func 97) #[] #[.pointer (some ⟨w.heap.size, 0, none⟩)]) ∧ w' = w.alloc (.cells #[.int .i64 size] 3) := by
  refine callsIn_of_wp Tryz.func58 rfl hf ?_ hro
  simp only [Tryz.ntmps58, List.size_toArray, List.length_cons, List.length_nil, Nat.reduceAdd, Nat.reduceSub, Array.replicate_succ, Array.replicate_zero, List.push_toArray, List.append_toArray, List.nil_append, List.cons_append]
  gi_wp2
  go_ret
  exact ⟨rfl, rfl⟩

set_option maxRecDepth 100000 in
set_option maxHeartbeats 2000000 in
theorem places1_in (F : Fence) (n : Nat) (hf : F.fn 97) (hro : F.round = none) (hn : 1 ≤ n) (l Bs m : Nat) (size : Int) (hm : (size ≤ 8 ∧ m = size.toNat) ∨ (8 < size ∧ m = 8)) (J Jx : List (Fin m) → World → Prop)
    (hY : ∀ pre x W, J pre W → pre.length < m → YieldAt F (n - 1) Tryz.prog l (encP x) W fun e W' =>
      (e = .returned (.bool true) ∧ J (pre ++ [x]) W' ∧ True) ∨ (e = .returned (.bool false) ∧ Jx (pre ++ [x]) W'))
    (W : World) (hBs : W.cell? ⟨Bs, 0, none⟩ = some (.int .i64 size)) (h0 : J [] W) :
    CallsIn F n Tryz.prog 97 #[.func (.yield l) #[] #[], .pointer (some ⟨Bs, 0, none⟩)] W fun e W' => (∃ v, e = .returned v) ∧
      ((∃ ys, ys = List.finRange m ∧ J ys W') ∨ (∃ pre, (∃ k, k ≤ m ∧ pre = upto m k) ∧ Jx pre W')) := by
  refine callsIn_of_wp Tryz.func97 rfl hf ?_ hro
  simp only [Tryz.ntmps97, List.size_toArray, List.length_cons, List.length_nil, Nat.reduceAdd, Nat.reduceSub, Array.replicate_succ, Array.replicate_zero, List.push_toArray, List.append_toArray, List.nil_append, List.cons_append]
  gi_wp2
  all_goals
    gi_loopw [6] (fun i wr => ∃ k : Nat, k ≤ m ∧ i = .int .i64 k ∧ J (upto m k) wr) (fun i _ => m - (intOf i).toNat)
    case atStart => exact ⟨0, Nat.zero_le _, rfl, h0⟩
    case round =>
      obtain ⟨k, hk, rfl, hJs⟩ := hrel
      by_cases hlt : k < m
      · obtain ⟨fn, tmps, assign, body, hy, hR⟩ := hY _ ⟨k, hlt⟩ wr hJs (by rw [upto_length m k hk]; exact hlt)
        dsimp only [encP] at hy
        have hb1 : (k : Int) < size := by omega
        have hb2 : (k : Int) < 8 := by omega
        gi_wp2
        refine hR.mono ?_
        rintro e W3 (⟨rfl, hJ3, hk3⟩ | ⟨rfl, hJx3⟩)
        · gi_wp2
          go_roundw
          case rel => exact ⟨k + 1, by omega, by simp, by rw [upto_succ m k hlt]; exact hJ3⟩
          case measure => simp [intOf]; omega
        · gi_wp2
          refine bodyPost_ret (results_none rfl _ _ _) rfl ?_
          exact ⟨⟨_, rfl⟩, .inr ⟨_, ⟨k + 1, by omega, (upto_succ m k hlt).symm⟩, hJx3⟩⟩
      · obtain rfl : k = m := by omega
        gi_wp2
        go_end0
        exact ⟨⟨_, rfl⟩, .inl ⟨_, rfl, by rw [← upto_all]; exact hJs⟩⟩

/-- What a loop over the places may rely on: nothing but its own. -/
def AnyKp (_ _ : World) : Prop := True

set_option maxRecDepth 100000 in
theorem places_stops (F : Fence) (n : Nat) (hf : F.fn 97) (hro : F.round = none) (hn : 1 ≤ n) (Bs : Nat) (size : Int) (w : World) (hBs : Bs < w.heap.size)
    (hc : w.cell? ⟨Bs, 0, none⟩ = some (.int .i64 size)) :
    SeqStopsK F n Tryz.prog 97 #[.pointer (some ⟨Bs, 0, none⟩)] (encP (m := nPlaces size)) AnyKp (fun ys => ys = List.finRange (nPlaces size)) (fun _ => True) (nPlaces size) w := fun l J Jx W hW _ _ hY h0 =>
  (places1_in F n hf hro hn l Bs (nPlaces size) size (nPlaces_cases size) J Jx
    (fun pre x W hJ hl => (hY pre x W hJ hl).mono fun e W' h => h.imp (fun ⟨a, b, _⟩ => ⟨a, b, trivial⟩) id)
    W ((hW.cell (p := ⟨Bs, 0, none⟩) hBs).trans hc) h0).mono fun e W' ⟨he, h⟩ => ⟨he, h.imp id fun ⟨pre, _, hj⟩ => ⟨pre, trivial, hj⟩⟩

theorem anyKp_t {A B C : World} (_ : AnyKp A B) (_ : AnyKp B C) : AnyKp A C := trivial
end Go.Proofs.YtfihpljgbghogaaGreat

/- The number that bytes stand for, as the package le reads it. -/
namespace Go.Proofs.YtfihpljgbghogaaGreat
open Go.RowKit Go.Shelf
set_option linter.unusedVariables false

attribute [local go_sem] Oper.semAt_some

set_option maxRecDepth 100000 in
set_option maxHeartbeats 2000000 in
theorem get_at (a : Option Addr) (len cap : Nat) (bs : List Int) (hlen : bs.length = len) (hcap : len ≤ 9223372036854775807) (w : World)
    (hA : len = 0 ∨ ∃ b off, a = some ⟨b, off, none⟩ ∧ b < w.heap.size ∧ ∀ j, j < len → w.cell? ⟨b, off + j, none⟩ = some (.int .u8 (bs[j]?.getD 0))) (hr : IsBytes bs) :
    Calls Tryz.prog 114 #[.slice a len cap] w fun e w' => e = .returned (.int .u64 (getL bs)) ∧ Below w.heap.size w w' := by
  refine (callsIn_wide (n := 3)).1 ?_
  refine callsIn_of_wp_marks Tryz.func114 rfl trivial ?_ rfl
  simp only [Tryz.ntmps114, List.size_toArray, List.length_cons, List.length_nil, Nat.reduceAdd, Nat.reduceSub, Array.replicate_succ, Array.replicate_zero, List.push_toArray, List.append_toArray, List.nil_append, List.cons_append]
  have hr := Lib.hid hr
  have hA := Lib.hid hA
  gi_wp2_with (refine ⟨trivial, ?_⟩; gi_at_call 58; refine (places_in _ _ trivial rfl _ _).mono ?_; rintro e w' ⟨rfl, rfl⟩)
  have bB := Boxed.new w 31 (.slice a len cap)
  have bN := Boxed.new (w.alloc (.cells #[.slice a len cap] 31)) 59 (.int .u64 0)
  rw [World.size_alloc] at bN
  have bP := Boxed.new ((w.alloc (.cells #[.slice a len cap] 31)).alloc (.cells #[.int .u64 0] 59)) 3 (.int .i64 (len : Int))
  rw [World.size_alloc, World.size_alloc] at bP
  have hB0 : Below w.heap.size w (((w.alloc (.cells #[.slice a len cap] 31)).alloc (.cells #[.int .u64 0] 59)).alloc (.cells #[.int .i64 (len : Int)] 3)) := (((Below.refl _ w).alloc (Nat.le_refl _) _).alloc (by simp) _).alloc (by simp; omega) _
  refine wpIn_rangeFunc_ownF (n := 3) rfl (by omega) (gf := 97) (lb := #[.pointer (some ⟨w.heap.size + 1 + 1, 0, none⟩)]) rfl trivial (enters_of Tryz.func97 (by kernel_rfl) rfl)
    (places_stops Fence.wide 2 trivial rfl (by omega) (w.heap.size + 1 + 1) (len : Int) _ (by simp) bP.cell) anyKp_t (fun _ _ _ _ _ _ _ _ => trivial) (Below.refl _ _) (fun _ => rfl)
    (fun pre W => (∃ v : Int, Boxed W (w.heap.size + 1) 59 (.int .u64 v) ∧ 0 ≤ v ∧ v < 18446744073709551616 ∧ (pre <+: List.finRange (nPlaces (len : Int)) → v = getN bs pre.length)) ∧ Boxed W w.heap.size 31 (.slice a len cap) ∧ Below w.heap.size w W)
    (fun _ _ _ => False)
    ?hI (fun _ _ _ _ _ h _ _ => h.elim) ?h0 ?a1 ?assign ?body ?done ?stop
  case hI =>
    intro s W W' row ⟨⟨v, hv, h1, h2, h3⟩, hb, hB⟩ hg hrow
    have hr' : ∀ r, row = some r → ∃ o : Obj, W.heap[r]? = some o ∧ o.isCells = false := fun r e => (hrow r e).2
    exact ⟨⟨v, boxed_own _ _ (fun _ : Unit => _) () W W' row hv hg hr', h1, h2, h3⟩, boxed_own _ _ (fun _ : Unit => _) () W W' row hb hg hr', ownFrom_below (β := Unit) (Nat.le_refl _) (by simp; omega) () W W' row hB hg hrow⟩
  case h0 => exact ⟨⟨0, bN.alloc _, by omega, by omega, fun _ => rfl⟩, (bB.alloc _).alloc _, hB0⟩
  case assign =>
    intro l x W K hK
    dsimp only [encP]
    gi_wp2
    exact hK
  case body =>
    rintro l pre x W ⟨⟨v, hv, hv0, hv1, hvp⟩, hbx, hB⟩ hlen
    have c1 := hv.cell
    have f1 := hv.frozen
    have hx : x.1 < len := by have := x.2; unfold nPlaces at this; split at this <;> omega
    have hx8 : x.1 < 8 := by have := x.2; have := nPlaces_le (len : Int); omega
    obtain ⟨b, off, rfl, hb, hc⟩ : ∃ b off, a = some ⟨b, off, none⟩ ∧ b < w.heap.size ∧ ∀ j, j < len → w.cell? ⟨b, off + j, none⟩ = some (.int .u8 (bs[j]?.getD 0)) := by
      rcases hA.out with h | h
      · omega
      · exact h
    have c2 := hbx.cell
    have c3 : W.cell? ⟨b, off + x.1, none⟩ = some (.int .u8 (bs[x.1]?.getD 0)) := (hB.cell (p := ⟨b, off + x.1, none⟩) hb).trans (hc x.1 hx)
    have hx' : ((x.1 : Nat) : Int) < (len : Int) := by omega
    obtain ⟨hr1, hr2⟩ := hr.out x.1
    obtain ⟨y, hy⟩ : ∃ y, bs[x.1]?.getD 0 = y := ⟨_, rfl⟩
    rw [hy] at c3 hr1 hr2
    have HP := Lib.hid hvp
    have HY := Lib.hid hy
    clear hc hvp hy
    have hmx : Tryz.prog.follows .mixedOrders = true := by kernel_rfl
    gi_wp2
    refine region_round 9 (letsOut_inBlock letsOut_own) (by kernel_rfl) (by kernel_rfl) (by kernel_rfl) ?_
    simp only [List.take_succ_cons, List.take_zero, List.drop_succ_cons, List.drop_zero]
    repeat still_step
    try refine wpStill_nil ?_
    go_wp2
    have bd := orStep_bd v y x.1 hx8 hv0 hv1 hr1 hr2
    refine ⟨(KeepsOthers.setCell _ _ _).trans (KeepsOthers.drew _), trivial, ⟨orStep v y x.1, hv.set _, bd.1, bd.2, fun hp => ?_⟩, hbx.other (by omega) _, (hB.setCell (p := ⟨w.heap.size + 1, 0, none⟩) (by simp) _).drew⟩
    obtain ⟨hp1, hp2⟩ := prefix_snoc hp
    rw [HP.out hp1, ← HY.out, hp2]
    rw [hp2] at hx8
    rw [getN_step bs hr.out pre.length hx8]
    simp
  case done =>
    rintro D xs W hD rfl ⟨⟨v, hv, _, _, hvp⟩, hbx, hB⟩ hK
    have c1 := hv.cell
    have e := hvp (List.prefix_refl _)
    have He := Lib.hid e
    clear e hvp
    gi_wp2
    refine ⟨by simp, .inl ⟨_, _, rfl, run_takeDeferred hK, ?_⟩⟩
    refine ⟨_, results_tmp rfl _ _ _, ?_, hB.trans (belowK_b (w := w) (Nat.le_refl _) W D _ _ (by simp at hD; omega) hK rfl rfl)⟩
    rw [He.out]
    simp [getL, hlen]
  case stop =>
    rintro D c pre W _ _ h _
    exact h.elim

end Go.Proofs.YtfihpljgbghogaaGreat

/- The bytes of a number, as the package le writes them. -/
namespace Go.Proofs.YtfihpljgbghogaaGreat
open Go.RowKit Go.Shelf
set_option linter.unusedVariables false

attribute [local go_sem] Oper.semAt_some

set_option maxRecDepth 100000 in
set_option maxHeartbeats 2000000 in
theorem put_some (n : Int) (size : Nat) (w : World) (hs1 : 1 ≤ size) (hs2 : size ≤ 16) (hn0 : 0 ≤ n) (hn1 : n < 18446744073709551616) :
    Calls Tryz.prog 23 #[.int .u64 n, .int .i64 (size : Int)] w fun e w' => ∃ v, e = .returned v ∧ w'.ownsRow w.heap.size 5 1 v size ((putL n size).map (Value.int .u8)) ∧ Below w.heap.size w w' := by
  refine (callsIn_wide (n := 3)).1 ?_
  refine callsIn_of_wp_marks Tryz.func23 rfl trivial ?_ rfl
  simp only [Tryz.ntmps23, List.size_toArray, List.length_cons, List.length_nil, Nat.reduceAdd, Nat.reduceSub, Array.replicate_succ, Array.replicate_zero, List.push_toArray, List.append_toArray, List.nil_append, List.cons_append]
  obtain ⟨i0, hi, hz0, hz1, hz2⟩ := info_parts info_u8
  have g1 : ¬ ((size : Int) < 1) := by omega
  have g2 : ¬ (16 < (size : Int)) := by omega
  have g3 : decide ((size : Int) < 1) = false := by simpa using g1
  have g4 : decide (16 < (size : Int)) = false := by simpa using g2
  gi_wp2_with (first | (gi_at_make; refine wpListIn_make_full _ rfl _ _ 31 rfl w.heap.size 5 i0 (.int .u8 0) 1 Tryz.underlying31 hi hz0 hz1 .i64 .i64 _ _ size rfl rfl rfl rfl (by rw [hz2]; omega) (by unfold maxLen; omega) (by simp) ?_; intro w1 hown1 hgrow1) | (refine ⟨trivial, ?_⟩; gi_at_call 58; refine (places_in _ _ trivial rfl _ _).mono ?_; rintro e w' ⟨rfl, rfl⟩))
  have hz := hown1.lt _ rfl
  have hown2 : w1.ownsRow w.heap.size 5 1 (.slice (some ⟨w.heap.size + 1, 0, none⟩) size size) size (putF n size (m := nPlaces (size : Int)) []) := by
    rw [putF_nil]
    rw [show (Value.int IntKind.u8 0).cells = #[.int .u8 0] from rfl, toList_madeCells_one, Nat.mul_one, World.size_alloc] at hown1
    exact hown1
  rw [World.size_alloc] at hz
  have bN1 : Boxed w1 w.heap.size 59 (.int .u64 n) := (Boxed.new w 59 (.int .u64 n)).kept hgrow1 (by simp)
  have bS := Boxed.new w1 31 (.slice (some ⟨w.heap.size + 1, 0, none⟩) size size)
  have bP := Boxed.new (w1.alloc (.cells #[.slice (some ⟨w.heap.size + 1, 0, none⟩) size size] 31)) 3 (.int .i64 (size : Int))
  rw [World.size_alloc] at bP
  have hB1 : Below w.heap.size w w1 := ((Below.refl _ w).alloc (Nat.le_refl _) _).grown hgrow1 (by simp) (fun k e => by cases e)
  have hB0 : Below w.heap.size w ((w1.alloc (.cells #[.slice (some ⟨w.heap.size + 1, 0, none⟩) size size] 31)).alloc (.cells #[.int .i64 (size : Int)] 3)) := (hB1.alloc hB1.size _).alloc (by have := hB1.size; simp; omega) _
  clear hown1 hgrow1 g3 g4
  refine wpIn_rangeFunc_ownF (n := 3) rfl (by omega) (gf := 97) (lb := #[.pointer (some ⟨w1.heap.size + 1, 0, none⟩)]) rfl trivial (enters_of Tryz.func97 (by kernel_rfl) rfl)
    (places_stops Fence.wide 2 trivial rfl (by omega) (w1.heap.size + 1) (size : Int) _ (by simp) bP.cell) anyKp_t (fun _ _ _ _ _ _ _ _ => trivial) (Below.refl _ _) (fun _ => rfl)
    (fun pre W => (W.ownsRow w.heap.size 5 1 (.slice (some ⟨w.heap.size + 1, 0, none⟩) size size) size (putF n size pre) ∧ Boxed W w.heap.size 59 (.int .u64 n) ∧ Boxed W w1.heap.size 31 (.slice (some ⟨w.heap.size + 1, 0, none⟩) size size)) ∧ Below w.heap.size w W)
    (fun _ _ _ => False)
    (OwnFrom.and (OwnFrom.and ((ownsRow_own _ _ _ _ (fun _ => size) (fun pre => putF n size pre)).from _) (OwnFrom.and ((boxed_own _ _ (fun _ => _)).from _) ((boxed_own _ _ (fun _ => _)).from _))) (ownFrom_below (Nat.le_refl _) (by have := hB1.size; simp; omega)))
    (fun _ _ _ _ _ h _ _ => h.elim) ?h0 ?a1 ?assign ?body ?done ?stop
  case h0 => exact ⟨⟨(hown2.alloc _).alloc _, (bN1.alloc _).alloc _, bS.alloc _⟩, hB0⟩
  case assign =>
    intro l x W K hK
    dsimp only [encP]
    gi_wp2
    exact hK
  case body =>
    rintro l pre x W ⟨⟨hrow, hbn, hbs⟩, hB⟩ hlen
    have c1 := hbn.cell
    have c2 := hbs.cell
    have hx : x.1 < size := by have := x.2; unfold nPlaces at this; split at this <;> omega
    have hx8 : x.1 < 8 := by have := x.2; have := nPlaces_le (size : Int); omega
    have hx' : ((x.1 : Nat) : Int) < (size : Int) := by omega
    obtain ⟨z, c3⟩ : ∃ z, W.cell? ⟨w.heap.size + 1, x.1, none⟩ = some (.int .u8 z) := by
      rw [hrow.cellAt x.1 (by omega)]
      unfold putF
      simp [hx]
    have f3 := hrow.frozenAt x.1
    gi_wp2
    have hst := hrow.stored x.1 (.int .u8 (n / 2 ^ (8 * x.1) % 256))
    refine ⟨KeepsOthers.setCell _ _ _, trivial, ⟨?_, hbn.kept hst.2 (by simp), hbs.kept hst.2 (by have := hz.2; simp; omega)⟩, hB.setCell (p := ⟨w.heap.size + 1, x.1, none⟩) (by simp) _⟩
    rw [putF_snoc]
    exact hst.1
  case done =>
    rintro D xs W hD rfl ⟨⟨hrow, hbn, hbs⟩, hB⟩ hK
    have c2 := hbs.cell
    rw [putF_all] at hrow
    gi_wp2
    refine ⟨by simp, .inl ⟨_, _, rfl, run_takeDeferred hK, ?_⟩⟩
    refine ⟨_, results_tmp rfl _ _ _, _, rfl, ownsRow_putObj hrow _ hK rfl, hB.trans (belowK_b (w := w) (Nat.le_refl _) W D _ _ (by have := hB1.size; simp at hD; omega) hK rfl rfl)⟩
  case stop =>
    rintro D c pre W _ _ h _
    exact h.elim

end Go.Proofs.YtfihpljgbghogaaGreat

/- The helpers of the statements on le: two rows of bytes alike; the document's own answers. -/
namespace Go.Proofs.YtfihpljgbghogaaGreat
open Go.RowKit Go.Shelf
set_option linter.unusedVariables false

set_option maxRecDepth 100000 in
set_option maxHeartbeats 2000000 in
/-- **ref.Get**: by definition. -/
theorem refGet_at (a : Option Addr) (len cap : Nat) (bs : List Int) (hlen : bs.length = len) (hcap : len ≤ 9223372036854775807) (w : World) (hA : Lies w a len bs) (hr : IsBytes bs) :
    Calls Tryz.prog 35 #[.slice a len cap] w fun e w' => e = .returned (.int .u64 (getL bs)) ∧ w' = w := by
  have HL := Lib.hid hlen
  have hA := Lib.hid hA
  have hr := Lib.hid hr
  clear hlen
  go_enter Tryz.func35, Tryz.ntmps35
  go_wp2
  go_loop [3, 4] (fun v i => ∃ k : Nat, k ≤ nPlaces (len : Int) ∧ i = .int .i64 k ∧ v = .int .u64 (getN bs k)) (fun _ i => 8 - (intOf i).toNat)
  case atStart => exact ⟨0, Nat.zero_le _, rfl, rfl⟩
  case round =>
    obtain ⟨k, hk, rfl, rfl⟩ := hrel
    have hk8 := nPlaces_le (len : Int)
    by_cases hlt : k < nPlaces (len : Int)
    · have hl : k < len := by have := nPlaces_lt hlt; omega
      have hl8 : k < 8 := by omega
      have hl8' : (k : Int) < 8 := by omega
      obtain ⟨b, off, rfl, hb, hc⟩ : ∃ b off, a = some ⟨b, off, none⟩ ∧ b < w.heap.size ∧ ∀ j, j < len → w.cell? ⟨b, off + j, none⟩ = some (.int .u8 (bs[j]?.getD 0)) := by
        rcases hA.out with h | h
        · omega
        · exact h
      have c3 := hc k hl
      obtain ⟨r1, r2⟩ := hr.out k
      have HS := Lib.hid (getN_plus bs hr.out k hl8)
      obtain ⟨y, hy⟩ : ∃ y, bs[k]?.getD 0 = y := ⟨_, rfl⟩
      rw [hy] at c3 r1 r2 HS
      obtain ⟨v, hv⟩ : ∃ v, getN bs k = v := ⟨_, rfl⟩
      rw [hv] at HS ⊢
      clear hc hy hv
      go_wp2
      go_round
      case rel => exact ⟨k + 1, by omega, by go_num, by rw [HS.out]⟩
      case measure => simp [intOf]; omega
    · have hk' : k = nPlaces (len : Int) := by omega
      have hd : ¬ (k < len ∧ k < 8) := by
        rintro ⟨h1, h2⟩
        unfold nPlaces at hk'; split at hk' <;> omega
      have HK := Lib.hid hk'
      clear hk'
      by_cases h1 : k < len
      · have h2 : ¬ k < 8 := fun h => hd ⟨h1, h⟩
        have h3 : decide ((k : Int) < 8) = false := by simp; omega
        clear hd
        go_wp2
        go_ret
        refine ⟨?_, rfl⟩
        rw [HK.out]; simp [getL, HL.out]
      · have h3 : decide ((k : Int) < (len : Int)) = false := by simp; omega
        clear hd
        go_wp2
        go_ret
        refine ⟨?_, rfl⟩
        rw [HK.out]; simp [getL, HL.out]

set_option maxRecDepth 100000 in
theorem refGet_any (v : Value) (bs : List Int) (w : World) (hv : Sl .u8 w v bs) (hr : IsBytes bs) :
    Calls Tryz.prog 35 #[v] w fun e w' => e = .returned (.int .u64 (getL bs)) ∧ w' = w := by
  obtain ⟨a, cap, rfl, hl, h2⟩ := Lies.of_sl hv
  unfold maxLen at h2
  exact refGet_at a bs.length cap bs rfl (by omega) w hl hr

set_option maxRecDepth 100000 in
set_option maxHeartbeats 2000000 in
theorem refPut_some (n : Int) (size : Nat) (w : World) (hs1 : 1 ≤ size) (hs2 : size ≤ 16) (hn0 : 0 ≤ n) (hn1 : n < 18446744073709551616) :
    Calls Tryz.prog 27 #[.int .u64 n, .int .i64 (size : Int)] w fun e w' => ∃ v, e = .returned v ∧ w'.ownsRow w.heap.size 5 1 v size ((putL n size).map (Value.int .u8)) ∧ Below w.heap.size w w' := by
  obtain ⟨i0, hi, hz0, hz1, hz2⟩ := info_parts info_u8
  have g1 : ¬ ((size : Int) < 1) := by omega
  have g2 : ¬ (16 < (size : Int)) := by omega
  have g3 : decide ((size : Int) < 1) = false := by simpa using g1
  have g4 : decide (16 < (size : Int)) = false := by simpa using g2
  go_enter Tryz.func27, Tryz.ntmps27
  go_wp2_with (first | (at_make; refine wpList_make_full _ rfl _ _ 31 rfl w.heap.size 5 i0 (.int .u8 0) 1 Tryz.underlying31 hi hz0 hz1 .i64 .i64 _ _ size rfl rfl rfl rfl (by rw [hz2]; omega) (by unfold maxLen; omega) (by simp) ?_; intro w1 hown1 hgrow1))
  have hown2 : w1.ownsRow w.heap.size 5 1 (.slice (some ⟨w.heap.size, 0, none⟩) size size) size (putP n size 0) := by
    rw [putP_zero]
    rw [show (Value.int IntKind.u8 0).cells = #[.int .u8 0] from rfl, toList_madeCells_one, Nat.mul_one] at hown1
    exact hown1
  have hB1 : Below w.heap.size w w1 := (Below.refl _ w).grown hgrow1 (Nat.le_refl _) (fun k e => by cases e)
  have HO := Lib.hid hown2
  have HB := Lib.hid hB1
  clear hown1 hgrow1 hown2 hB1 g1 g2 g3 g4
  go_loopw [6] (fun i wr => ∃ k : Nat, k ≤ nPlaces (size : Int) ∧ i = .int .i64 k ∧ wr.ownsRow w.heap.size 5 1 (.slice (some ⟨w.heap.size, 0, none⟩) size size) size (putP n size k) ∧ Below w.heap.size w wr) (fun i _ => 8 - (intOf i).toNat)
  case atStart => exact ⟨0, Nat.zero_le _, rfl, HO.out, HB.out⟩
  case round =>
    obtain ⟨k, hk, rfl, hrow, hB⟩ := hrel
    have hk8 := nPlaces_le (size : Int)
    by_cases hlt : k < nPlaces (size : Int)
    · have hl : k < size := by have := nPlaces_lt hlt; omega
      have hl8 : k < 8 := by omega
      have hl8' : (k : Int) < 8 := by omega
      obtain ⟨z, c3⟩ : ∃ z, wr.cell? ⟨w.heap.size, k, none⟩ = some (.int .u8 z) := by
        rw [hrow.cellAt k (by omega)]
        unfold putP
        simp [hl]
      have f3 := hrow.frozenAt k
      have hst := hrow.stored k (.int .u8 (n / 2 ^ (8 * k) % 256))
      have HST := Lib.hid hst
      have HB1 := Lib.hid hB
      clear hrow hst hB
      go_wp2
      go_roundw
      case rel => exact ⟨k + 1, by omega, by go_num, by rw [putP_succ]; exact HST.out.1, HB1.out.setCell (p := ⟨w.heap.size, k, none⟩) (Nat.le_refl _) _⟩
      case measure => simp [intOf]; omega
    · have hk' : k = nPlaces (size : Int) := by omega
      have hd : ¬ (k < size ∧ k < 8) := by
        rintro ⟨h1, h2⟩
        unfold nPlaces at hk'; split at hk' <;> omega
      have hfin : wr.ownsRow w.heap.size 5 1 (.slice (some ⟨w.heap.size, 0, none⟩) size size) size ((putL n size).map (Value.int .u8)) := by
        rw [← putP_all, ← hk']; exact hrow
      have HF := Lib.hid hfin
      have HB1 := Lib.hid hB
      clear hk' hrow hB hfin
      by_cases h1 : k < size
      · have h2 : ¬ k < 8 := fun h => hd ⟨h1, h⟩
        have h3 : decide ((k : Int) < 8) = false := by simp; omega
        clear hd
        go_wp2
        go_ret
        exact ⟨_, rfl, HF.out, HB1.out⟩
      · have h3 : decide ((k : Int) < (size : Int)) = false := by simp; omega
        clear hd
        go_wp2
        go_ret
        exact ⟨_, rfl, HF.out, HB1.out⟩

end Go.Proofs.YtfihpljgbghogaaGreat

/- The document's marked sectors in memory: read, written, made at once. -/
namespace Go.Proofs.YtfihpljgbghogaaGreat
open Go.RowKit
set_option linter.unusedVariables false

def zcs : List Value := .int .u8 0 :: .int .u32 0 :: .int .i64 0 :: u8s (List.replicate 48 0)
end Go.Proofs.YtfihpljgbghogaaGreat

/- Bodies: arrays of 48 bytes, and slices of them; pieces of bytes. -/
namespace Go.Proofs.YtfihpljgbghogaaGreat
open Go.RowKit
set_option linter.unusedVariables false

def z48 : List Value := u8s (List.replicate 48 0)
def piece (bs : List Int) (k : Nat) : List Int := (bs.drop (48 * k)).take 48 ++ List.replicate (48 - ((bs.drop (48 * k)).take 48).length) 0
def rows (bs : List Int) (k : Nat) : List (List Value) := (List.range k).map fun i => u8s (piece bs i)
end Go.Proofs.YtfihpljgbghogaaGreat

/- The developers' marked sectors in memory; what their page promises. -/
namespace Go.Proofs.YtfihpljgbghogaaGreat
open Go.RowKit
set_option linter.unusedVariables false

end Go.Proofs.YtfihpljgbghogaaGreat

/- The reader of the package le: what its methods come to. -/
namespace Go.Proofs.YtfihpljgbghogaaGreat
open Go.RowKit Go.Shelf
set_option linter.unusedVariables false

/-- The reader at block rb has the bytes bs left; it and they lie below block N. -/
def Rdr (w : World) (N rb : Nat) (bs : List Int) : Prop :=
  ∃ b off cap, Boxed w rb 125 (.slice (some ⟨b, off, none⟩) bs.length cap) ∧ bs.length ≤ cap ∧ cap ≤ maxLen ∧ b < N ∧
    (∀ j, j < bs.length → w.cell? ⟨b, off + j, none⟩ = some (.int .u8 (bs[j]?.getD 0))) ∧ rb < N ∧ N ≤ w.heap.size

set_option maxRecDepth 100000 in
set_option maxHeartbeats 1000000 in
theorem next_at (rb b off len cap k : Nat) (w : World) (hb : Boxed w rb 125 (.slice (some ⟨b, off, none⟩) len cap)) (hk : k ≤ len) (hlen : len ≤ cap) (hcap : cap ≤ maxLen) :
    Calls Tryz.prog 113 #[.pointer (some ⟨rb, 0, none⟩), .int .i64 (k : Int)] w fun e w' =>
      e = .returned (.tuple #[.slice (some ⟨b, off, none⟩) k cap, .bool true]) ∧ w' = w.setCell ⟨rb, 0, none⟩ (.slice (some ⟨b, if k = cap then off else off + k, none⟩) (len - k) (cap - k)) := by
  unfold maxLen at hcap
  have c1 := hb.cell
  have f1 := hb.frozen
  have g1 : decide ((k : Int) < 0) = false := by simp
  have g2 : decide (len < k) = false := by simp; omega
  go_enter Tryz.func113, Tryz.ntmps113
  go_wp2
  all_goals
    go_ret2
    exact ⟨rfl, rfl⟩

set_option maxRecDepth 100000 in
set_option maxHeartbeats 1000000 in
theorem newReader_at (a : Option Addr) (len cap : Nat) (bs : List Int) (hlen : bs.length = len) (hcap : len ≤ 140737488351232) (w : World) (hA : Lies w a len bs) :
    Calls Tryz.prog 63 #[.slice a len cap] w fun e w' => ∃ rb, e = .returned (.pointer (some ⟨rb, 0, none⟩)) ∧ w.heap.size < rb ∧ Rdr w' w'.heap.size rb bs ∧ Below w.heap.size w w' := by
  obtain ⟨i0, hi, hz0, hz1, hz2⟩ := info_parts info_u8
  have hA := Lib.hid hA
  have HL := Lib.hid hlen
  clear hlen
  have HN := copy_len HL
  have H1 := copy_one (bs := bs)
  go_enter Tryz.func63, Tryz.ntmps63
  go_wp2_with (first | (at_make; refine wpList_make_full _ rfl _ _ 31 rfl w.heap.size 5 i0 (.int .u8 0) 1 Tryz.underlying31 hi hz0 hz1 .i64 .i64 _ _ len rfl rfl rfl rfl (by rw [hz2]; omega) (by unfold maxLen; omega) (by simp) ?_; intro w1 hown1 hgrow1; obtain ⟨HB, HR, HP⟩ := copy_facts HL hA hown1 hgrow1; clear hown1 hgrow1) | (with_reducible refine wpList_copy_splice rfl (.tmp 7) (.tmp 8) 31 31 rfl 5 Tryz.underlying31 size_u8 _ _ len len len cap rfl rfl w.heap.size 0 (List.replicate len (Value.int .u8 0)) 5 HR.out (bs.map (Value.int .u8)) HN.out HP.out (by rw [HN.out]; simp) H1.out w.heap.size w HB.out (Nat.le_refl _) ?_; intro w2 hg2 hB2))
  have hsz : w.heap.size < w2.heap.size := (Array.getElem?_eq_some_iff.1 hg2.out).1
  have hcells : ∀ j, j < bs.length → w2.cell? ⟨w.heap.size, 0 + j, none⟩ = some (.int .u8 (bs[j]?.getD 0)) := by
    intro j hj
    rw [cell_of_row _ _ _ _ _ _ hg2.out, splice_all _ _ (by rw [List.length_replicate, List.length_map, HL.out])]
    simp [hj]
  have HZ := Lib.hid hsz
  have HC := Lib.hid hcells
  clear hsz hcells
  go_ret
  refine ⟨_, rfl, HZ.out, ?_, hB2.alloc (Nat.le_of_lt HZ.out) _⟩
  have e := HL.out
  subst e
  exact ⟨w.heap.size, 0, _, Boxed.new _ _ _, Nat.le_refl _, by unfold maxLen; omega, by have := HZ.out; simp; omega, fun j hj => ((World.cell?_of_block (Below.heap_alloc w2 _ _ HZ.out)).trans (HC.out j hj)), by simp, Nat.le_refl _⟩

set_option maxRecDepth 100000 in
/-- **NewReader**: a reader of its own, with all bytes left. -/
theorem newReader_any (v : Value) (bs : List Int) (w : World) (hv : Sl .u8 w v bs) (hcap : bs.length ≤ 140737488351232) :
    Calls Tryz.prog 63 #[v] w fun e w' => ∃ rb, e = .returned (.pointer (some ⟨rb, 0, none⟩)) ∧ w.heap.size < rb ∧ Rdr w' w'.heap.size rb bs ∧ Below w.heap.size w w' := by
  obtain ⟨a, cap, rfl, hl, _⟩ := Lies.of_sl hv
  exact newReader_at a bs.length cap bs rfl hcap w hl

/-- Behind a read the reader has what was left, but for what was read; what was read lies where it lay. -/
theorem Rdr.next {w : World} {N rb b off cap : Nat} {bs : List Int} {k : Nat} (hb : Boxed w rb 125 (.slice (some ⟨b, off, none⟩) bs.length cap)) (h1 : bs.length ≤ cap) (h2 : cap ≤ maxLen) (h3 : b < N)
    (h4 : ∀ j, j < bs.length → w.cell? ⟨b, off + j, none⟩ = some (.int .u8 (bs[j]?.getD 0))) (hk : k ≤ bs.length) (h5 : rb < N ∧ N ≤ w.heap.size) :
    (Rdr (w.setCell ⟨rb, 0, none⟩ (.slice (some ⟨b, if k = cap then off else off + k, none⟩) (bs.length - k) (cap - k))) N rb (bs.drop k)) ∧
    (∀ j, j < bs.length → (w.setCell ⟨rb, 0, none⟩ (.slice (some ⟨b, if k = cap then off else off + k, none⟩) (bs.length - k) (cap - k))).cell? ⟨b, off + j, none⟩ = some (.int .u8 (bs[j]?.getD 0))) ∧
    w.grownBy (w.setCell ⟨rb, 0, none⟩ (.slice (some ⟨b, if k = cap then off else off + k, none⟩) (bs.length - k) (cap - k))) (some rb) := by
  have hg := grownBy_setCell' w rb (.slice (some ⟨b, if k = cap then off else off + k, none⟩) (bs.length - k) (cap - k))
  have hcells : ∀ j, j < bs.length → (w.setCell ⟨rb, 0, none⟩ (.slice (some ⟨b, if k = cap then off else off + k, none⟩) (bs.length - k) (cap - k))).cell? ⟨b, off + j, none⟩ = some (.int .u8 (bs[j]?.getD 0)) := by
    intro j hj
    have hne : b ≠ rb := by
      rintro rfl
      have h5 := h4 j hj
      rw [cell_of_row _ _ _ _ _ _ hb] at h5
      by_cases e : off + j = 0
      · rw [e] at h5; simp at h5
      · rw [Array.getElem?_eq_none (by simp; omega)] at h5; cases h5
    exact (World.cell?_of_block (hg.block b (Nat.lt_of_lt_of_le h3 h5.2) (fun e => hne (by cases e; rfl)))).trans (h4 j hj)
  refine ⟨⟨b, if k = cap then off else off + k, cap - k, ?_, by rw [List.length_drop]; omega, by omega, h3, ?_, h5.1, Nat.le_trans h5.2 hg.size⟩, hcells, hg⟩
  · rw [List.length_drop]; exact hb.set _
  · intro j hj
    rw [List.length_drop] at hj
    have e : (if k = cap then off else off + k) + j = off + (k + j) := by rw [if_neg (by omega)]; omega
    rw [e, drop_get]
    exact hcells (k + j) (by omega)

theorem Rdr.kept {w w' : World} {N rb : Nat} {bs : List Int} {row : Option Nat} (h : Rdr w N rb bs) (hg : w.grownBy w' row) (hr : ∀ r, row = some r → N ≤ r) : Rdr w' N rb bs := by
  obtain ⟨b, off, cap, h0, h1, h2, h3, h4, h5, h6⟩ := h
  exact ⟨b, off, cap, h0.kept hg (fun e => by have := hr _ e.symm; omega), h1, h2, h3, fun j hj => (World.cell?_of_block (hg.block b (by omega) (fun e => by have := hr _ e.symm; omega))).trans (h4 j hj), h5, Nat.le_trans h6 hg.size⟩

theorem Rdr.below {w w' : World} {N rb : Nat} {bs : List Int} (h : Rdr w N rb bs) (hg : w.grownBy w' none) : Rdr w' N rb bs := h.kept hg (fun r e => by cases e)

set_option maxRecDepth 100000 in
set_option maxHeartbeats 1000000 in
/-- **Num**, of no more than is left. -/
theorem num_yes {N : Nat} (rb : Nat) (bs : List Int) (k : Nat) (w : World) (hr : Rdr w N rb bs) (hB : IsBytes bs) (hk : k ≤ bs.length) :
    Calls Tryz.prog 99 #[.pointer (some ⟨rb, 0, none⟩), .int .i64 (k : Int)] w fun e w' =>
      e = .returned (.tuple #[.int .u64 (getL (bs.take k)), .bool true]) ∧ Rdr w' N rb (bs.drop k) ∧ w.grownBy w' (some rb) := by
  obtain ⟨b, off, cap, h0, h1, h2, h3, h4, h5⟩ := hr
  obtain ⟨r1, r2, r3⟩ := Rdr.next h0 h1 h2 h3 h4 hk h5
  obtain ⟨W, hW⟩ : ∃ W, w.setCell ⟨rb, 0, none⟩ (.slice (some ⟨b, if k = cap then off else off + k, none⟩) (bs.length - k) (cap - k)) = W := ⟨_, rfl⟩
  have hl : Lies W (some ⟨b, off, none⟩) k (bs.take k) := by
    rw [← hW]
    exact .inr ⟨b, off, rfl, Nat.lt_of_lt_of_le h3 (Nat.le_trans h5.2 r3.size), fun j hj => by rw [take_get bs k j hj]; exact r2 j (by omega)⟩
  have hn : Calls Tryz.prog 113 #[.pointer (some ⟨rb, 0, none⟩), .int .i64 (k : Int)] w fun e w' => e = .returned (.tuple #[.slice (some ⟨b, off, none⟩) k cap, .bool true]) ∧ w' = W := by
    rw [← hW]; exact next_at rb b off bs.length cap k w h0 hk h1 h2
  rw [hW] at r1 r3
  have hg := get_at (some ⟨b, off, none⟩) k cap (bs.take k) (by rw [List.length_take]; omega) (by unfold maxLen at h2; omega) W hl (hB.take k)
  have HG := Lib.hid hg
  have HC := Lib.hid hn
  have R1 := Lib.hid r1
  have R3 := Lib.hid r3
  clear h0 h1 h2 h3 h4 h5 hk hB hl r1 r2 r3 hW hn hg
  go_enter Tryz.func99, Tryz.ntmps99
  go_wp2_with fail
  refine HC.out.mono ?_
  rintro e w' ⟨rfl, rfl⟩
  go_wp2_with fail
  refine HG.out.mono ?_
  rintro e w' ⟨rfl, hb⟩
  have HB := Lib.hid hb
  clear hb
  go_wp2
  go_ret2
  exact ⟨rfl, R1.out.below (grown_below HB.out none), grown_trans R3.out (grown_below HB.out _)⟩

set_option maxRecDepth 100000 in
set_option maxHeartbeats 1000000 in
/-- **Take**, of no more than is left: bytes of its own. -/
theorem take_yes {N : Nat} (rb : Nat) (bs : List Int) (k : Nat) (w : World) (hr : Rdr w N rb bs) (hk : k ≤ bs.length) (hcap : bs.length ≤ 140737488351232) :
    Calls Tryz.prog 100 #[.pointer (some ⟨rb, 0, none⟩), .int .i64 (k : Int)] w fun e w' =>
      ∃ g, e = .returned (.tuple #[.slice (some ⟨g, 0, none⟩) k k, .bool true]) ∧ w.heap.size ≤ g ∧ w'.heap[g]? = some (.cells ((bs.take k).map (Value.int .u8)).toArray 5 (0, 0)) ∧ Rdr w' N rb (bs.drop k) ∧ w.grownBy w' (some rb) := by
  obtain ⟨b, off, cap, h0, h1, h2, h3, h4, h5⟩ := hr
  obtain ⟨r1, r2, r3⟩ := Rdr.next h0 h1 h2 h3 h4 hk h5
  obtain ⟨W, hW⟩ : ∃ W, w.setCell ⟨rb, 0, none⟩ (.slice (some ⟨b, if k = cap then off else off + k, none⟩) (bs.length - k) (cap - k)) = W := ⟨_, rfl⟩
  have hl : Lies W (some ⟨b, off, none⟩) k (bs.take k) := by
    rw [← hW]
    exact .inr ⟨b, off, rfl, Nat.lt_of_lt_of_le h3 (Nat.le_trans h5.2 r3.size), fun j hj => by rw [take_get bs k j hj]; exact r2 j (by omega)⟩
  have hsz : W.heap.size = w.heap.size := by rw [← hW]; simp
  have hn : Calls Tryz.prog 113 #[.pointer (some ⟨rb, 0, none⟩), .int .i64 (k : Int)] w fun e w' => e = .returned (.tuple #[.slice (some ⟨b, off, none⟩) k cap, .bool true]) ∧ w' = W := by
    rw [← hW]; exact next_at rb b off bs.length cap k w h0 hk h1 h2
  rw [hW] at r1 r3
  obtain ⟨i0, hi, hz0, hz1, hz2⟩ := info_parts info_u8
  have HL0 : Hid ((bs.take k).length = k) := by show _ = _; rw [List.length_take]; omega
  have hA := Lib.hid hl
  have HN := copy_len HL0
  have H1 := copy_one (bs := bs.take k)
  have HC := Lib.hid hn
  have R1 := Lib.hid r1
  have R3 := Lib.hid r3
  have HS := Lib.hid hsz
  have hk1 : k ≤ 140737488351232 := by omega
  clear h0 h1 h2 h3 h4 h5 hk hl r1 r2 r3 hW hn hsz hcap
  go_enter Tryz.func100, Tryz.ntmps100
  go_wp2_with fail
  refine HC.out.mono ?_
  rintro e w' ⟨rfl, rfl⟩
  go_wp2_with (first | (at_make; refine wpList_make_full _ rfl _ _ 31 rfl w'.heap.size 5 i0 (.int .u8 0) 1 Tryz.underlying31 hi hz0 hz1 .i64 .i64 _ _ k rfl rfl rfl rfl (by rw [hz2]; omega) (by unfold maxLen; omega) (by simp) ?_; intro w1 hown1 hgrow1; obtain ⟨HB, HR, HP⟩ := copy_facts HL0 hA hown1 hgrow1; clear hown1 hgrow1) | (with_reducible refine wpList_copy_splice rfl (.tmp 19) (.tmp 20) 31 31 rfl 5 Tryz.underlying31 size_u8 _ _ k k k cap rfl rfl w'.heap.size 0 (List.replicate k (Value.int .u8 0)) 5 HR.out ((bs.take k).map (Value.int .u8)) HN.out HP.out (by rw [HN.out]; simp) H1.out w'.heap.size w' HB.out (Nat.le_refl _) ?_; intro w2 hg2 hB2))
  go_ret2
  have hB2' := hB2
  have e2 : splice (List.replicate k (Value.int .u8 0)) 0 ((bs.take k).map (Value.int .u8)) = (bs.take k).map (Value.int .u8) := splice_all _ _ (by rw [List.length_replicate, List.length_map, HL0.out])
  have h2 := hg2.out
  rw [e2] at h2
  exact ⟨_, rfl, Nat.le_of_eq HS.out.symm, by rw [← List.map_take]; exact h2, R1.out.below (grown_below hB2 none), grown_trans R3.out (grown_below hB2 _)⟩

/-- The reader is not a row of bytes. -/
theorem Rdr.not_row {w : World} {N rb : Nat} {bs : List Int} (h : Rdr w N rb bs) {base n : Nat} {v : Value} {xs : List Value} (hr : w.ownsRow base 5 1 v n xs) : v.ownBlock ≠ some rb := by
  obtain ⟨b, off, cap, h0, _⟩ := h
  exact (h0.not_row (by decide) hr).symm

end Go.Proofs.YtfihpljgbghogaaGreat

/- The developers' fields: what stands in a block where a marked sector has its parts. -/
namespace Go.Proofs.YtfihpljgbghogaaGreat
open Go.RowKit Go.Shelf
set_option linter.unusedVariables false
attribute [-go_sem] loadVar storeVar
theorem getL_one {y : Int} : getL [y] = y := by
  show getN [y] 1 = y
  simp [getN]

end Go.Proofs.YtfihpljgbghogaaGreat

/- The library's Grow and Concat at bytes. -/
namespace Go.Proofs.YtfihpljgbghogaaGreat
open Go.RowKit Go.Shelf
set_option linter.unusedVariables false

set_option maxRecDepth 100000 in
set_option maxHeartbeats 1600000 in
/-- **Grow** of the nil slice: room, and no bytes. -/
theorem grow_nil (n : Nat) (hn : n ≤ 1000000) (w : World) :
    Calls Tryz.prog 57 #[.slice none 0 0, .int .i64 (n : Int)] w fun e w' => ∃ v, e = .returned v ∧ w'.ownsRow w.heap.size 5 1 v 0 [] ∧ Below w.heap.size w w' := by
  obtain ⟨i0, hi, hz0, hz1, hz2⟩ := info_parts info_u8
  have g0 : ¬ ((n : Int) < 0) := by omega
  have g1 : decide ((n : Int) < 0) = false := by simp
  by_cases h : 0 < n
  · have g2 : decide ((n : Int) > 0) = true := by simp; omega
    have hr := fun ty => Lib.run_append_grow_zeros (P := Tryz.prog) w 31 3 ty 5 i0 (.int .u8 0) .i64 .i64 Tryz.underlying31 Tryz.underlying3 hi hz0 none 0 0 [] (run_firstCells_none w.drew i0.size 0 0 0) n h (by omega) (by omega) (by omega) (by rw [hz2]; omega)
      (by rw [hz2]; exact growslice_fits (by omega) (by omega))
    have hc1 := grownCap_ge w (0 + n) 0 5
    have hc2 := grownCap_le_maxLen w (0 + n) 0 5 (by unfold maxLen; omega)
    obtain ⟨G, hG⟩ : ∃ G, grownCap w (0 + n) 0 5 = G := ⟨_, rfl⟩
    rw [hG] at hr hc1 hc2
    obtain ⟨W, hW⟩ : ∃ W, w.drew.alloc (.cells (([] : List Value).toArray ++ Builtin.zeroCells (Value.int .u8 0).cells n ++ Builtin.zeroCells (Value.int .u8 0).cells (G - (0 + n))) 5) = W := ⟨_, rfl⟩
    rw [hW] at hr
    have HO : Hid (W.ownsRow w.heap.size 5 1 (.slice (some ⟨w.heap.size, 0, none⟩) 0 G) 0 []) := by
      refine ⟨by simp, .inr ⟨w.heap.size, G, _, rfl, Nat.le_refl _, by rw [← hW]; exact heap_alloc_new w.drew _, Nat.zero_le _, hc2, ?_, by simp⟩⟩
      simp [size_zeroCells, Value.cells]
      omega
    have HB : Hid (Below w.heap.size w W) := by rw [← hW]; exact ((Below.refl _ w).drew).alloc (Nat.le_refl _) _
    have HR := Lib.hid hr
    have g3 : G ≤ 9223372036854775807 := by unfold maxLen at hc2; omega
    clear hr hW hc2 hG hz0 hz1 hz2 hi
    go_enter Tryz.func57, Tryz.ntmps57
    go_wp2_with (at_builtin; refine Lib.wpList_append_run _ rfl _ _ _ _ rfl _ _ rfl rfl _ _ (HR.out _) ?_)
    go_ret
    exact ⟨_, rfl, HO.out, HB.out⟩
  · obtain rfl : n = 0 := by omega
    go_enter Tryz.func57, Tryz.ntmps57
    go_wp2
    go_ret
    exact ⟨_, rfl, World.ownsRow_nil _ _ _ _, Below.refl _ _⟩

/-- A slice of slices of bytes. -/
def Sls (w : World) (v : Value) (bss : List (List Int)) : Prop :=
  ∃ B cap, v = .slice (some ⟨B, 0, none⟩) bss.length cap ∧ bss.length ≤ cap ∧ cap ≤ maxLen ∧ B < w.heap.size ∧ ∀ k, k < bss.length → ∃ u, w.cell? ⟨B, k, none⟩ = some u ∧ Sl .u8 w u (bss[k]?.getD [])
theorem take_snoc_nil (bss : List (List Int)) {k : Nat} (h : k < bss.length) : bss.take (k + 1) = bss.take k ++ [bss[k]?.getD []] := by
  rw [List.take_succ_eq_append_getElem h, List.getElem?_eq_getElem h]
  rfl
theorem flat_snocB (bss : List (List Int)) {k : Nat} (h : k < bss.length) : (bss.take (k + 1)).flatten = (bss.take k).flatten ++ bss[k]?.getD [] := by
  rw [take_snoc_nil bss h]; simp
theorem flat_le (bss : List (List Int)) (k : Nat) : (bss.take k).flatten.length ≤ bss.flatten.length := by
  conv => rhs; rw [← List.take_append_drop k bss]
  rw [List.flatten_append, List.length_append]
  omega

set_option maxRecDepth 100000 in
set_option maxHeartbeats 1600000 in
/-- **Concat**. -/
theorem concat_any (v : Value) (bss : List (List Int)) (w : World) (hv : Sls w v bss) (hl : bss.flatten.length ≤ 1000000) :
    Calls Tryz.prog 22 #[v] w fun e w' => ∃ v, e = .returned v ∧ w'.ownsRow w.heap.size 5 1 v bss.flatten.length (u8s bss.flatten) ∧ Below w.heap.size w w' := by
  obtain ⟨B, cap, rfl, h1, h2, h3, h4⟩ := hv
  obtain ⟨n, hn⟩ : ∃ n, bss.length = n := ⟨_, rfl⟩
  have HN := Lib.hid hn
  have HL := Lib.hid hl
  rw [hn] at h1 h4 ⊢
  have H4 := Lib.hid h4
  have hm : (n : Int) ≤ 9223372036854775807 := by unfold maxLen at h2; omega
  clear hn hl h4 h2
  go_enter Tryz.func22, Tryz.ntmps22
  go_wp2_with fail
  go_loop [3, 11] (fun s i => ∃ k : Nat, k ≤ n ∧ i = .int .i64 k ∧ s = .int .i64 (((bss.take k).flatten.length : Nat) : Int)) (fun _ i => n - (intOf i).toNat)
  case atStart => exact ⟨0, Nat.zero_le _, rfl, rfl⟩
  case round =>
    obtain ⟨k, hk, rfl, rfl⟩ := hrel
    obtain ⟨m, hm0⟩ : ∃ m, (bss.take k).flatten.length = m := ⟨_, rfl⟩
    rw [hm0]
    by_cases hlt : k < n
    · have hlt' : decide ((k : Int) < (n : Int)) = true := by simp; omega
      obtain ⟨u, c0, ⟨a, cp, rfl, -⟩⟩ := H4.out k hlt
      obtain ⟨q, hq⟩ : ∃ q, (bss[k]?.getD []).length = q := ⟨_, rfl⟩
      rw [hq] at c0
      have hs : (bss.take (k + 1)).flatten.length = m + q := by rw [flat_snocB bss (by rw [HN.out]; exact hlt), List.length_append, hm0, hq]
      have hb := flat_le bss (k + 1)
      have hb2 := HL.out
      have g5 : (m : Int) + (q : Int) ≤ 1000000 := by omega
      have g6 : decide ((m : Int) + (q : Int) < 0) = false := by simp; omega
      have HS := Lib.hid hs
      clear hs hb hb2 hq hm0
      go_wp2_with fail
      go_round
      case rel => exact ⟨k + 1, by omega, by go_num, by rw [HS.out]; simp⟩
      case measure => simp [intOf]; omega
    · have hlt' : decide ((k : Int) < (n : Int)) = false := by simp; omega
      obtain rfl : k = n := by omega
      have hmb : m ≤ 1000000 := by rw [← hm0]; exact Nat.le_trans (flat_le bss k) HL.out
      clear hm0
      go_wp2_with fail
      go_at_call 57
      refine (grow_nil m hmb w).mono ?_
      rintro e w1 ⟨v1, rfl, hO, hB⟩
      have HO := Lib.hid hO
      have HB := Lib.hid hB
      clear hO hB
      go_wp2_with fail
      go_loopw [6, 27] (fun v i wr => ∃ j : Nat, j ≤ k ∧ i = .int .i64 j ∧ Hid (OwnB w wr v (bss.take j).flatten) ∧ Hid (Below w.heap.size w wr)) (fun _ i _ => k - (intOf i).toNat)
      case atStart => exact ⟨0, Nat.zero_le _, rfl, HO, HB⟩
      case round =>
        obtain ⟨j, hj, rfl, HO, HB⟩ := hrel
        by_cases hlt : j < k
        · have hlt' : decide ((j : Int) < (k : Int)) = true := by simp; omega
          obtain ⟨u, c0, hu⟩ := H4.out j hlt
          have c1 : wr.cell? ⟨B, j, none⟩ = some u := (HB.out.cell (p := ⟨B, j, none⟩) h3).trans c0
          obtain ⟨v5, x3, R3, O3, K3⟩ := HO.out.app HB.out (hu.below HB.out) (by
            rw [← List.length_append, ← flat_snocB bss (by rw [HN.out]; exact hlt)]
            exact Nat.le_trans (flat_le bss _) HL.out)
          clear c0 hu
          go_wp2_with (at_builtin; refine wpList_append_run (.tmp 31) (.tmp 32) 31 rfl rfl _ _ _ rfl rfl R3.out ?_)
          go_roundw
          case rel => exact ⟨j + 1, by omega, by go_num, by rw [flat_snocB bss (by rw [HN.out]; exact hlt)]; exact O3, K3⟩
          case measure => simp [intOf]; omega
        · have hlt' : decide ((j : Int) < (k : Int)) = false := by simp; omega
          obtain rfl : j = k := by omega
          have e1 : bss.take j = bss := List.take_of_length_le (by rw [HN.out]; exact Nat.le_refl _)
          rw [e1] at HO
          clear e1
          go_wp2_with fail
          go_ret
          exact ⟨_, rfl, HO.out, HB.out⟩
end Go.Proofs.YtfihpljgbghogaaGreat

/- The developers' Encode. -/
namespace Go.Proofs.YtfihpljgbghogaaGreat
open Go.RowKit Go.Shelf
set_option linter.unusedVariables false
attribute [-go_sem] loadVar storeVar
set_option maxRecDepth 100000 in
theorem build_sls (w : World) (a b c d : Option Addr) (la lb lc ld ca cb cc cd : Nat) :
    (Instr.buildSlice 82 4 #[(0, .slice a la ca), (1, .slice b lb cb), (2, .slice c lc cc), (3, .slice d ld cd)]).run Tryz.prog w = .ok (.slice (some ⟨w.heap.size, 0, none⟩) 4 4) (w.alloc (.cells #[.slice a la ca, .slice b lb cb, .slice c lc cc, .slice d ld cd] 31)) := by
  kernel_rfl
theorem putL_one {n : Int} (h0 : 0 ≤ n) (h1 : n < 256) : putL n 1 = [n] := by
  show [_] = _
  simp
  omega

end Go.Proofs.YtfihpljgbghogaaGreat

/- The developers' Count. -/
namespace Go.Proofs.YtfihpljgbghogaaGreat
open Go.RowKit
set_option linter.unusedVariables false

set_option maxRecDepth 100000 in
theorem pgCount (n : Int) (w : World) (h0 : -9223372036854775808 ≤ n) (h1 : n < 9223372036854775808) :
    Calls Tryz.prog 62 #[.int .i64 n] w fun e w' => e = .returned (.int .i64 (cnt n)) ∧ w' = w := by
  by_cases hn : n < 1
  · have hc : cnt n = 0 := if_pos hn
    rw [hc]
    go_enter Tryz.func62, Tryz.ntmps62
    go_wp2_with fail
    all_goals (go_ret; exact ⟨rfl, rfl⟩)
  · have hc : cnt n = (n - 1) / 48 + 1 := if_neg hn
    have hq : Int.tdiv (n - 1) 48 = (n - 1) / 48 := Int.tdiv_eq_ediv_of_nonneg (by omega)
    rw [hc]
    go_enter Tryz.func62, Tryz.ntmps62
    go_wp2_with fail
    all_goals (go_ret; exact ⟨rfl, rfl⟩)
end Go.Proofs.YtfihpljgbghogaaGreat

/- The document's geometry: bytes, Good, Of, Slot, Area. -/
namespace Go.Proofs.YtfihpljgbghogaaGreat
open Go.RowKit Go.Shelf
set_option linter.unusedVariables false

theorem loadVar_openG (t : TypeId) (h : t ≠ 23 ∧ t ≠ 67) (a : Addr) : loadVar t a = (do if ← isAgg t then pure (.agg (← loadCells a (← sizeOf t))) else load a) := rfl
theorem storeVar_openG (t : TypeId) (h : t ≠ 23 ∧ t ≠ 67) (a : Addr) (v : Value) : storeVar t a v = (do
    if v.cells.size ≠ (← sizeOf t) then stuck "storeVar: the value has not the size of the variable"
    storeCells a v.cells.toList) := rfl
attribute [-go_sem] loadVar storeVar
attribute [local go_sem] loadVar_openG storeVar_openG
def Geo.cs (g : Geo) : List Value := [.int .i64 g.b, .int .i64 g.s, .int .i64 g.y, .int .i64 g.a, .int .i64 g.r]
set_option maxRecDepth 100000 in
theorem load_geo {x : World} {B : Nat} {t : TypeId} {g : Geo} (h : RowC x B t g.cs) : (loadVar 23 ⟨B, 0, none⟩).run Tryz.prog x = .ok (.agg g.v) x :=
  run_loadVar_mid x B 0 _ g.cs _ h.range Tryz.underlying23 rfl (by kernel_rfl)
set_option maxRecDepth 100000 in
theorem size_szs : (Tryz.prog.info? 67).map (·.size) = some 8 := by kernel_rfl
def szL (a b c d e f h i : Int) : List Value := [.int .i64 a, .int .i64 b, .int .i64 c, .int .i64 d, .int .i64 e, .int .i64 f, .int .i64 h, .int .i64 i]
set_option maxRecDepth 100000 in
theorem load_szs {x : World} {B : Nat} {t : TypeId} {a b c d e f h i : Int} (hr : RowC x B t (szL a b c d e f h i)) : (loadVar 67 ⟨B, 0, none⟩).run Tryz.prog x = .ok (.agg (szL a b c d e f h i).toArray) x :=
  run_loadVar_mid x B 0 _ (szL a b c d e f h i) _ hr.range Tryz.underlying67 rfl (by kernel_rfl)
set_option maxRecDepth 100000 in
theorem store_szs {x : World} {B : Nat} {old : List Value} {a b c d e f h i : Int} (hr : RowC x B 67 old) (ho : old.length = 8) :
    ∃ y, (storeVar 67 ⟨B, 0, none⟩ (.agg (szL a b c d e f h i).toArray)).run Tryz.prog x = .ok () y ∧ RowC y B 67 (szL a b c d e f h i) ∧ x.grownBy y (some B) := by
  refine ⟨_, run_storeVar_row x B _ _ old.toArray (szL a b c d e f h i).toArray hr size_szs (by simpa [szL] using ho) (by kernel_rfl), setRow_heap x B _ _ _ _ hr, ?_⟩
  exact ⟨rfl, rfl, rfl, by rw [setRow_size]; exact Nat.le_refl _, fun k _ hk => setRow_other x B k _ (fun e => hk (by rw [e]))⟩
set_option maxRecDepth 100000 in
theorem new_szs (x : World) (a b c d e f h i : Int) : ∃ y, (storeVar 67 ⟨x.heap.size, 0, none⟩ (.agg (szL a b c d e f h i).toArray)).run Tryz.prog (x.alloc (.cells (szL 0 0 0 0 0 0 0 0).toArray 67)) = .ok () y ∧ RowC y x.heap.size 67 (szL a b c d e f h i) ∧ Below x.heap.size x y :=
  ⟨_, run_storeVar_new x _ _ (szL a b c d e f h i).toArray size_szs rfl (by kernel_rfl), RowC.new x _ _, below_new x _⟩
theorem grownBy_cell (W : World) (b j : Nat) (v : Value) : W.grownBy (W.setCell ⟨b, j, none⟩ v) (some b) :=
  ⟨rfl, rfl, rfl, (KeepsWalks.setCell W _ v).size, fun k _ hk => Below.heap_setCell _ _ _ k (fun e => hk (by rw [e]))⟩

section
set_option maxRecDepth 100000
set_option maxHeartbeats 4000000
set_option maxRecDepth 100000 in
theorem refBts (g : Geo) (hs : g.shape) (w : World) : Calls Tryz.prog 72 #[.agg g.v] w fun e w' => e = .returned (.int .i64 g.bts) ∧ Below w.heap.size w w' := by
  obtain ⟨b1, b2, b3, b4, b5, b6⟩ := Geo.bounds hs
  have HBT : Hid (g.bts = 10 + g.s * g.y + g.b + 8 * (4 + (g.b + 7) / 8 + g.b)) := rfl
  obtain ⟨W, hW⟩ : ∃ W, w.alloc (.cells g.v 23) = W := ⟨_, rfl⟩
  have r : RowC W w.heap.size 23 g.cs := by rw [← hW]; exact RowC.new w _ _
  have HB : Hid (Below w.heap.size w W) := by show Below _ _ _; rw [← hW]; exact below_new w _
  have c0 := r.cell 0 _ rfl
  have c1 := r.cell 1 _ rfl
  have c2 := r.cell 2 _ rfl
  obtain ⟨h1, h2, h3, h4, h5, h6, h7, h8⟩ := hs
  have m1 : 1 ≤ g.s * g.y := b1
  have m2 : g.s * g.y ≤ 32 := b2
  obtain ⟨b, hb⟩ : ∃ n, g.b = n := ⟨_, rfl⟩
  obtain ⟨s, hs⟩ : ∃ n, g.s = n := ⟨_, rfl⟩
  obtain ⟨y, hy⟩ : ∃ n, g.y = n := ⟨_, rfl⟩
  obtain ⟨m, hm⟩ : ∃ n, s * y = n := ⟨_, rfl⟩
  obtain ⟨k, hk⟩ : ∃ n, (b + 7).tdiv 8 = n := ⟨_, rfl⟩
  rw [hb] at c0 h1 h2 HBT
  rw [hs, hy] at m1 m2 HBT
  rw [hs] at c1 h3 h4
  rw [hy] at c2 h5 h6
  rw [hm] at m1 m2 HBT
  have hk2 : (b + 7) / 8 = k := by rw [← hk, Int.tdiv_eq_ediv_of_nonneg (by omega)]
  have hk3 : 1 ≤ k ∧ k ≤ 8 := by omega
  have HK2 := Lib.hid hk2
  obtain ⟨k1, k2⟩ := hk3
  clear r b1 b2 b3 b4 b5 b6 h7 h8 hb hs hy hk2
  go_enter Tryz.func72, Tryz.ntmps72
  go_wp2_with fail
  go_ret
  refine ⟨?_, HB.out⟩
  rw [HBT.out, HK2.out]
  first
    | rfl
    | exact congrArg (fun x => Ending.returned (Value.int .i64 x)) (by omega)
set_option maxRecDepth 100000 in
theorem refGood7 (g : Geo) (w : World) : Calls Tryz.prog 33 #[.agg g.v] w fun e w' => e = .returned (.bool (decide g.good)) ∧ Below w.heap.size w w' := by
  obtain ⟨W, hW⟩ : ∃ W, w.alloc (.cells g.v 23) = W := ⟨_, rfl⟩
  have r : RowC W w.heap.size 23 g.cs := by rw [← hW]; exact RowC.new w _ _
  have HB : Hid (Below w.heap.size w W) := by show Below _ _ _; rw [← hW]; exact below_new w _
  obtain ⟨B, hB⟩ : ∃ b, w.heap.size = b := ⟨_, rfl⟩
  rw [hB] at r
  have LG : ∀ x : Ext W, (loadVar 23 ⟨B, 0, none⟩).run Tryz.prog x.1 = .ok (.agg g.v) x.1 := fun x => load_geo (r.below x.2)
  have c4 : ∀ x : Ext W, x.1.cell? ⟨B, 4, none⟩ = some (.int .i64 g.r) := fun x => (r.below x.2).cell 4 _ rfl
  obtain ⟨z, hz⟩ : ∃ z, decide g.shape = z := ⟨_, rfl⟩
  have C1 : Hid (∀ x : Ext W, Calls Tryz.prog 70 #[.agg g.v] x.1 fun e w'' => e = .returned (.bool z) ∧ ∃ y : Ext W, w'' = y.1) := fun x => calls_ext x (by have := refShape g x.1; rwa [hz] at this)
  cases z with
  | false =>
    have hg : Hid (decide g.good = false) := decide_eq_false (fun h => of_decide_eq_false hz h.1)
    clear r hz
    go_enter Tryz.func33, Tryz.ntmps33
    go_wp2_with fail
    refine region_ext (by kernel_rfl) (by kernel_rfl) ?_
    repeat (go_big_quiet_step (with_reducible (first | exact C1.out _)))
    refine wpQuiet_nil ?_
    intro x
    have HX : Hid (Below w.heap.size w x.1) := HB.out.trans (x.2.mono HB.out.size)
    clear LG c4
    go_wp2_with fail
    go_ret
    rw [hg.out]
    exact ⟨rfl, HX.out⟩
  | true =>
    have hs : g.shape := of_decide_eq_true hz
    obtain ⟨b1, b2, b3, b4, b5, b6⟩ := Geo.bounds hs
    have C2 : Hid (∀ x : Ext W, Calls Tryz.prog 72 #[.agg g.v] x.1 fun e w'' => e = .returned (.int .i64 g.bts) ∧ ∃ y : Ext W, w'' = y.1) := fun x => calls_ext x (refBts g hs x.1)
    have C3 : Hid (∀ x : Ext W, Calls Tryz.prog 71 #[.int .i64 g.bts] x.1 fun e w'' => e = .returned (.int .i64 g.pgs) ∧ ∃ y : Ext W, w'' = y.1) := fun x => (refCount g.bts x.1 (by omega) (by omega)).mono fun e w'' ⟨h1, h2⟩ => ⟨h1, x, h2⟩
    have hg : Hid (decide g.good = decide (g.pgs + 2 ≤ g.r ∧ g.r ≤ 256)) := by
      show _ = _
      rw [decide_eq_decide]
      exact ⟨fun h => h.2, fun h => ⟨hs, h⟩⟩
    obtain ⟨P, hP⟩ : ∃ n, g.pgs = n := ⟨_, rfl⟩
    obtain ⟨T, hT⟩ : ∃ n, g.bts = n := ⟨_, rfl⟩
    obtain ⟨R, hR⟩ : ∃ n, g.r = n := ⟨_, rfl⟩
    rw [hP, hT] at C3
    rw [hT] at C2
    rw [hR] at c4
    rw [hP, hR] at hg
    rw [hP] at b5 b6
    clear r hz hs b1 b2 b3 b4 hP hT hR
    by_cases q1 : P + 2 ≤ R
    · have g1 : decide (P + 2 ≤ R) = true := by simpa using q1
      have g1' : decide (R ≥ P + 2) = true := g1
      by_cases q2 : R ≤ 256
      · have g2 : decide (R ≤ 256) = true := by simpa using q2
        have hgd : Hid (decide g.good = true) := by show _ = _; rw [hg.out]; exact decide_eq_true ⟨q1, q2⟩
        go_enter Tryz.func33, Tryz.ntmps33
        go_wp2_with fail
        refine region_ext (by kernel_rfl) (by kernel_rfl) ?_
        repeat (go_big_quiet_step (with_reducible (first | exact C1.out _ | exact C2.out _ | exact C3.out _)))
        refine wpQuiet_nil ?_
        intro x
        have HX : Hid (Below w.heap.size w x.1) := HB.out.trans (x.2.mono HB.out.size)
        clear LG c4
        go_wp2_with fail
        go_ret
        rw [hgd.out]
        exact ⟨rfl, HX.out⟩
      · have g2 : decide (R ≤ 256) = false := by simpa using q2
        have hgd : Hid (decide g.good = false) := by show _ = _; rw [hg.out]; exact decide_eq_false (fun h => q2 h.2)
        go_enter Tryz.func33, Tryz.ntmps33
        go_wp2_with fail
        refine region_ext (by kernel_rfl) (by kernel_rfl) ?_
        repeat (go_big_quiet_step (with_reducible (first | exact C1.out _ | exact C2.out _ | exact C3.out _)))
        refine wpQuiet_nil ?_
        intro x
        have HX : Hid (Below w.heap.size w x.1) := HB.out.trans (x.2.mono HB.out.size)
        clear LG c4
        go_wp2_with fail
        go_ret
        rw [hgd.out]
        exact ⟨rfl, HX.out⟩
    · have g1 : decide (P + 2 ≤ R) = false := by simpa using q1
      have g1' : decide (R ≥ P + 2) = false := g1
      have hgd : Hid (decide g.good = false) := by show _ = _; rw [hg.out]; exact decide_eq_false (fun h => q1 h.1)
      go_enter Tryz.func33, Tryz.ntmps33
      go_wp2_with fail
      refine region_ext (by kernel_rfl) (by kernel_rfl) ?_
      repeat (go_big_quiet_step (with_reducible (first | exact C1.out _ | exact C2.out _ | exact C3.out _)))
      refine wpQuiet_nil ?_
      intro x
      have HX : Hid (Below w.heap.size w x.1) := HB.out.trans (x.2.mono HB.out.size)
      clear LG c4
      go_wp2_with fail
      go_ret
      rw [hgd.out]
      exact ⟨rfl, HX.out⟩
end
end Go.Proofs.YtfihpljgbghogaaGreat

/- The document's Good of a state. -/
namespace Go.Proofs.YtfihpljgbghogaaGreat
open Go.RowKit Go.Shelf Go.Lib
set_option linter.unusedVariables false
set_option linter.unusedSimpArgs false
attribute [-simp] Tryz.isAgg51 Tryz.zeroValue51 Tryz.isAgg54 Tryz.zeroValue54 Tryz.isAgg30 Tryz.zeroValue30
attribute [-go_sem] loadVar storeVar
attribute [local go_sem] loadVar_openQ storeVar_openQ zero_sn zero_prs zero_st
def SG.geo (g : SG) (r : Int) : Geo := ⟨g.b, g.s, g.y, g.a, r⟩
theorem SG.geo_v (g : SG) (r : Int) : (g.geo r).v = g.v r := rfl
set_option maxRecDepth 100000 in
theorem good_doc {g : SG} {r : Int} (h : (g.geo r).good) (x : World) : Calls Tryz.prog 33 #[.agg (g.v r)] x fun e w' => e = .returned (.bool true) ∧ Below x.heap.size x w' :=
  (refGood7 (g.geo r) x).mono fun e y hy => ⟨by rw [hy.1, decide_eq_true h], hy.2⟩
set_option maxRecDepth 100000 in
set_option maxHeartbeats 4000000 in
/-- **Good** of no sizes. -/
theorem rf14_goodN {w : World} {q : PS} (G : Geo) (hb : ¬ G.good) :
    Calls Tryz.prog 14 #[.agg G.v, stV q] w fun e w' => e = .returned (.bool false) ∧ Below w.heap.size w w' := by
  obtain ⟨⟨qd, qdn, qdc⟩, ⟨qs, qsn, qsc⟩, nx, kd, id, ⟨qp, qpn, qpc⟩⟩ := q
  simp only [stV, stL, slV]
  obtain ⟨gb, gs, gy, ga, gr⟩ := G
  have HG : Hid (∀ x : World, Calls Tryz.prog 33 #[.agg (Geo.v ⟨gb, gs, gy, ga, gr⟩)] x fun e w' => e = .returned (.bool false) ∧ Below x.heap.size x w') := fun x =>
    (refGood7 ⟨gb, gs, gy, ga, gr⟩ x).mono fun e y hy => ⟨by rw [hy.1, decide_eq_false hb], hy.2⟩
  clear hb
  unfold Geo.v at *
  simp only at *
  obtain ⟨B, hB⟩ : ∃ B, w.heap.size = B := ⟨_, rfl⟩
  obtain ⟨W1, hW1⟩ : ∃ W, w.alloc (.cells #[.int .i64 gb, .int .i64 gs, .int .i64 gy, .int .i64 ga, .int .i64 gr] 23) = W := ⟨_, rfl⟩
  obtain ⟨W2, hW2⟩ : ∃ W, W1.alloc (.cells #[.slice qd qdn qdc, .slice qs qsn qsc, .int .i64 nx, .int .i64 kd, .int .i64 id, .slice qp qpn qpc] 30) = W := ⟨_, rfl⟩
  have s1 : W1.heap.size = B + 1 := by rw [← hW1, ← hB]; simp
  have r1 : RowC W1 B 23 [.int .i64 gb, .int .i64 gs, .int .i64 gy, .int .i64 ga, .int .i64 gr] := by rw [← hW1, ← hB]; exact RowC.new _ _ _
  have b1 : Below B w W1 := by rw [← hW1, ← hB]; exact below_new _ _
  have b2 : Below W1.heap.size W1 W2 := by rw [← hW2]; exact below_new _ _
  have HB : Hid (Below B w W2) := b1.trans (b2.mono (by omega))
  have t1 := r1.below b2
  have k0 := t1.cell 0 _ rfl
  have k1 := t1.cell 1 _ rfl
  have k2 := t1.cell 2 _ rfl
  have k3 := t1.cell 3 _ rfl
  have k4 := t1.cell 4 _ rfl
  have HS2 : Hid (B ≤ W2.heap.size) := by show B ≤ _; rw [← hB]; exact HB.out.size
  rw [hB]
  clear r1 b1 b2 t1
  go_enter Tryz.func14, Tryz.ntmps14
  go_wp2_with fail
  refine (HG.out W2).mono ?_
  rintro e y ⟨rfl, hy⟩
  have HY : Hid (Below B w y) := HB.out.trans (hy.mono HS2.out)
  clear hy k0 k1 k2 k3 k4
  go_wp2_with fail
  go_ret
  exact ⟨rfl, HY.out⟩

set_option maxRecDepth 100000 in
set_option maxHeartbeats 4000000 in
/-- **Good**. -/
theorem rf14_good {w : World} {q : PS} {d : List Int} {l : List SN} {ps : List (Int × Int)} (g : SG) (hg : g.Ok) (r : Int) (hr : (g.geo r).good) (hd : Sl .i64 w (slV q.d) d) (h : StIs w q l ps) (hK : Lens 1000 l) (hp : ps.length ≤ 1000) :
    Calls Tryz.prog 14 #[.agg (g.v r), stV q] w fun e w' => e = .returned (.bool (sGood g ⟨d, l, q.nx, q.kd, q.id, ps⟩)) ∧ Below w.heap.size w w' := by
  have hmx : Tryz.prog.follows .mixedOrders = true := by kernel_rfl
  have HQ := Lib.hid h
  have HD0 := Lib.hid hd
  have HPL : Hid (∀ x : World, Below w.heap.size w x → Calls Tryz.prog 45 #[.agg (g.v r), stV q] x fun e w' => e = .returned (.bool (sPlan g ⟨[], l, q.nx, q.kd, q.id, ps⟩)) ∧ Below x.heap.size x w') := fun x hx => rf14_plan g hg r (HQ.out.below hx) hK hp
  have HDY : Hid (∀ x : World, Below w.heap.size w x → Calls Tryz.prog 43 #[.agg (g.v r), slV q.d] x fun e w' => e = .returned (.bool (sDirty g d)) ∧ Below x.heap.size x w') := fun x hx => rf14_dirty g hg r (HD0.out.below hx)
  have HCG : Hid (∀ x : World, Below w.heap.size w x → Calls Tryz.prog 44 #[slV q.sn, .int .i64 (g.b : Int), .int .i64 (g.a : Int)] x fun e w' => e = .returned (.bool (cGood l (g.b : Int) (g.a : Int))) ∧ Below x.heap.size x w') := fun x hx => rf11_goodL (HQ.out.sn.below hx) (g.b : Int) (g.a : Int) (by have := hg.b64; omega) (wf_i64 (by have := hg.b64; omega) (by have := hg.b64; omega))
  have HGD : Hid (∀ x : World, Calls Tryz.prog 33 #[.agg (g.v r)] x fun e w' => e = .returned (.bool true) ∧ Below x.heap.size x w') := fun x => good_doc hr x
  obtain ⟨⟨qd, qdn, qdc⟩, ⟨qs, qsn, qsc⟩, nx, kd, id, ⟨qp, qpn, qpc⟩⟩ := q
  have hsn := h.sn
  simp only [stV, stL, slV] at *
  obtain ⟨B, hB⟩ : ∃ B, w.heap.size = B := ⟨_, rfl⟩
  obtain ⟨W1, hW1⟩ : ∃ W, w.alloc (.cells (g.v r) 23) = W := ⟨_, rfl⟩
  obtain ⟨W2, hW2⟩ : ∃ W, W1.alloc (.cells #[.slice qd qdn qdc, .slice qs qsn qsc, .int .i64 nx, .int .i64 kd, .int .i64 id, .slice qp qpn qpc] 30) = W := ⟨_, rfl⟩
  have s1 : W1.heap.size = B + 1 := by rw [← hW1, ← hB]; simp
  have r1 : RowC W1 B 23 [.int .i64 (g.b : Int), .int .i64 (g.s : Int), .int .i64 (g.y : Int), .int .i64 (g.a : Int), .int .i64 r] := by rw [← hW1, ← hB]; exact RowC.new _ _ _
  have r2 : RowC W2 (B + 1) 30 (stL ⟨(qd, qdn, qdc), (qs, qsn, qsc), nx, kd, id, (qp, qpn, qpc)⟩) := by rw [← hW2, ← s1]; exact RowC.new _ _ _
  have b1 : Below B w W1 := by rw [← hW1, ← hB]; exact below_new _ _
  have b2 : Below W1.heap.size W1 W2 := by rw [← hW2]; exact below_new _ _
  have hBF : Below B w W2 := b1.trans (b2.mono (by omega))
  have HBs : B ≤ W2.heap.size := by rw [← hB]; exact hBF.size
  have HBF : Hid (∀ x : World, Below W2.heap.size W2 x → Below B w x) := fun x hx => hBF.trans (hx.mono HBs)
  have KR : Hid (∀ x : World, Below W2.heap.size W2 x → x.cell? ⟨B, 0, none⟩ = some (.int .i64 (g.b : Int)) ∧ x.cell? ⟨B, 1, none⟩ = some (.int .i64 (g.s : Int)) ∧ x.cell? ⟨B, 2, none⟩ = some (.int .i64 (g.y : Int)) ∧ x.cell? ⟨B, 3, none⟩ = some (.int .i64 (g.a : Int)) ∧ x.cell? ⟨B, 4, none⟩ = some (.int .i64 r) ∧
      x.cell? ⟨B + 1, 0, none⟩ = some (.slice qd qdn qdc) ∧ x.cell? ⟨B + 1, 1, none⟩ = some (.slice qs qsn qsc) ∧ x.cell? ⟨B + 1, 2, none⟩ = some (.int .i64 nx)) := fun x hx => by
    have t1 := (r1.below b2).below hx
    have t2 := r2.below hx
    exact ⟨t1.cell 0 _ rfl, t1.cell 1 _ rfl, t1.cell 2 _ rfl, t1.cell 3 _ rfl, t1.cell 4 _ rfl, t2.cell 0 _ rfl, t2.cell 1 _ rfl, t2.cell 2 _ rfl⟩
  have KLS : Hid (∀ x : World, Below W2.heap.size W2 x → (loadVar 30 ⟨B + 1, 0, none⟩).run Tryz.prog x = .ok (.agg #[.slice qd qdn qdc, .slice qs qsn qsc, .int .i64 nx, .int .i64 kd, .int .i64 id, .slice qp qpn qpc]) x) := fun x hx => load_stC (r2.below hx)
  have KSn : Hid (∀ x : World, Below W2.heap.size W2 x → Snp x (.slice qs qsn qsc) l) := fun x hx => hsn.below (by rw [hB]; exact HBF.out x hx)
  have HSN : Hid (qsn = l.length) := by obtain ⟨r', a', c', e, -⟩ := hsn; cases e; rfl
  have hqs : qsn ≤ 1000 := by rw [HSN.out]; exact hK.1
  have E0 : Hid (sGood g ⟨d, l, nx, kd, id, ps⟩ = (sDirty g d && cGood l (g.b : Int) (g.a : Int) && decide (1 ≤ nx) && decide (nx ≤ 1000001) && l.all (fun t => decide (t.id < nx)) && sPlan g ⟨[], l, nx, kd, id, ps⟩)) := rfl
  have HSZ := Lib.hid hB
  rw [hB] at HPL HDY HCG ⊢
  clear h hsn hK hp r1 r2 b1 b2 hBF hd hr HBs
  unfold SG.v at *
  obtain ⟨k0, k1, k2, k3, k4, k5, k6, k7⟩ := KR.out W2 (Below.refl _ _)
  go_enter Tryz.func14, Tryz.ntmps14
  go_wp2_with fail
  refine (HGD.out W2).mono ?_
  rintro e x1 ⟨rfl, hx1⟩
  have HB1 := Lib.hid hx1
  clear hx1 k0 k1 k2 k3 k4 k5 k6 k7
  obtain ⟨k0, k1, k2, k3, k4, k5, k6, k7⟩ := KR.out x1 HB1.out
  obtain ⟨v1, hv1⟩ : ∃ u, sDirty g d = u := ⟨_, rfl⟩
  rw [hv1] at HDY E0
  clear hv1
  go_wp2_with fail
  refine (HDY.out x1 (HBF.out _ HB1.out)).mono ?_
  rintro e x2 ⟨rfl, hx2⟩
  have HB2 : Hid (Below W2.heap.size W2 x2) := HB1.out.trans (hx2.mono HB1.out.size)
  clear hx2 k0 k1 k2 k3 k4 k5 k6 k7
  cases v1 with
  | false =>
    have E5 : Hid (sGood g ⟨d, l, nx, kd, id, ps⟩ = false) := E0.out
    have HGO : Hid (Below B w x2) := HBF.out _ HB2.out
    go_wp2_with fail
    go_ret
    rw [E5.out]
    exact ⟨rfl, HGO.out⟩
  | true =>
    obtain ⟨k0, k1, k2, k3, k4, k5, k6, k7⟩ := KR.out x2 HB2.out
    obtain ⟨v2, hv2⟩ : ∃ u, cGood l (g.b : Int) (g.a : Int) = u := ⟨_, rfl⟩
    rw [hv2] at HCG E0
    clear hv2
    go_wp2_with fail
    refine (HCG.out x2 (HBF.out _ HB2.out)).mono ?_
    rintro e x3 ⟨rfl, hx3⟩
    have HB3 : Hid (Below W2.heap.size W2 x3) := HB2.out.trans (hx3.mono HB2.out.size)
    clear hx3 k0 k1 k2 k3 k4 k5 k6 k7
    have HGO : Hid (Below B w x3) := HBF.out _ HB3.out
    cases v2 with
    | false =>
      have E5 : Hid (sGood g ⟨d, l, nx, kd, id, ps⟩ = false) := E0.out
      go_wp2_with fail
      go_ret
      rw [E5.out]
      exact ⟨rfl, HGO.out⟩
    | true =>
      obtain ⟨k0, k1, k2, k3, k4, k5, k6, k7⟩ := KR.out x3 HB3.out
      by_cases h1 : nx < 1
      · have q1 : decide (nx < 1) = true := by simpa using h1
        have E5 : Hid (sGood g ⟨d, l, nx, kd, id, ps⟩ = false) := by show _ = _; rw [E0.out, decide_eq_false (by omega : ¬ 1 ≤ nx)]; rfl
        clear h1
        go_wp2_with fail
        go_ret
        rw [E5.out]
        exact ⟨rfl, HGO.out⟩
      · have q1 : decide (nx < 1) = false := by simpa using h1
        by_cases h2 : 1000001 < nx
        · have q2 : decide (1000001 < nx) = true := by simpa using h2
          have E5 : Hid (sGood g ⟨d, l, nx, kd, id, ps⟩ = false) := by show _ = _; rw [E0.out, decide_eq_false (by omega : ¬ nx ≤ 1000001)]; simp
          clear h1 h2
          go_wp2_with fail
          go_ret
          rw [E5.out]
          exact ⟨rfl, HGO.out⟩
        · have q2 : decide (1000001 < nx) = false := by simpa using h2
          have E1 : Hid (sGood g ⟨d, l, nx, kd, id, ps⟩ = (l.all (fun t => decide (t.id < nx)) && sPlan g ⟨[], l, nx, kd, id, ps⟩)) := by show _ = _; rw [E0.out, decide_eq_true (by omega : 1 ≤ nx), decide_eq_true (by omega : nx ≤ 1000001)]; rfl
          clear h1 h2 E0
          go_wp2_with fail
          clear q1 q2 k0 k1 k2 k3 k4 k5 k6 k7
          go_loopw [5] (fun iv wr => ∃ k : Nat, k ≤ qsn ∧ iv = .int .i64 (k : Int) ∧ Hid (Below W2.heap.size W2 wr) ∧ Hid (∀ i t, i < k → l[i]? = some t → t.id < nx)) (fun iv _ => qsn - (intOf iv).toNat)
          case atStart => exact ⟨0, Nat.zero_le _, rfl, HB3, fun i t hi => absurd hi (Nat.not_lt_zero i)⟩
          case round =>
            clear HGO
            obtain ⟨k, hk, rfl, HB4, HP⟩ := hrel
            have HGO : Hid (Below B w wr.drew) := HBF.out _ HB4.out.drew
            have HB5 : Hid (Below W2.heap.size W2 wr.drew) := HB4.out.drew
            by_cases hlt : k < qsn
            · have q1 : (k : Int) < (qsn : Int) := by omega
              have HLT := Lib.hid hlt
              obtain ⟨s, hs⟩ : ∃ s, l[k]? = some s := ⟨_, List.getElem?_eq_getElem (by rw [← HSN.out]; exact hlt)⟩
              obtain ⟨k0, k1, k2, k3, k4, k5, k6, k7⟩ := KR.out wr HB4.out
              obtain ⟨rr, hS⟩ := KSn.out wr HB4.out
              obtain ⟨b, off, qv, rfl, hb, -, hq, c0, c1, c2⟩ := hS.at hs
              obtain ⟨i, qx⟩ := qv
              obtain rfl : i = s.id := hq.id
              simp only at c0
              have HSS := Lib.hid hs
              clear hs hb hq c1 c2 hlt hS k0 k1 k2 k3 k4 k5
              by_cases hc : nx ≤ s.id
              · have q2 : decide (nx ≤ s.id) = true := by simpa using hc
                have E5 : Hid (sGood g ⟨d, l, nx, kd, id, ps⟩ = false) := by
                  show _ = _
                  rw [E1.out]
                  have : l.all (fun t => decide (t.id < nx)) = false := by
                    rw [List.all_eq_false]
                    exact ⟨s, List.mem_of_getElem? HSS.out, by simp; omega⟩
                  rw [this]
                  rfl
                clear hc
                go_wp2_with fail
                refine region_plan (fun z => z = wr.drew) 8 (.takes [0, 1, 2, 3, 4, 5, 6, 7] .leaf) hmx (by kernel_rfl) (by intro c x v a w h; cases x <;> exact h) rfl ?_
                repeat (rw [wpPlan_takes_cons]; simp only [nth_zero, nth_succ]; go_big_quiet_step (fail); try (with_reducible refine wpQuiet_nil ?_))
                rw [wpPlan_takes_nil, wpPlan_leaf]
                simp only [List.drop_succ_cons, List.drop_zero]
                go_wp2_with fail
                go_ret
                rw [E5.out]
                exact ⟨rfl, HGO.out⟩
              · have q2 : decide (nx ≤ s.id) = false := by simpa using hc
                have HPs : Hid (∀ i t, i < k + 1 → l[i]? = some t → t.id < nx) := fun i t hi ht => by
                  by_cases h : i < k
                  · exact HP.out i t h ht
                  · obtain rfl : i = k := by omega
                    rw [HSS.out] at ht
                    cases ht
                    omega
                clear hc
                go_wp2_with fail
                refine region_plan (fun z => z = wr.drew) 8 (.takes [0, 1, 2, 3, 4, 5, 6, 7] .leaf) hmx (by kernel_rfl) (by intro c x v a w h; cases x <;> exact h) rfl ?_
                repeat (rw [wpPlan_takes_cons]; simp only [nth_zero, nth_succ]; go_big_quiet_step (fail); try (with_reducible refine wpQuiet_nil ?_))
                rw [wpPlan_takes_nil, wpPlan_leaf]
                simp only [List.drop_succ_cons, List.drop_zero]
                go_wp2_with fail
                exact ⟨⟨k + 1, HLT.out, by simp, HB5, HPs⟩, by have := HLT.out; simp [intOf]; omega⟩
            · obtain rfl : k = qsn := by omega
              have E5 : Hid (sGood g ⟨d, l, nx, kd, id, ps⟩ = sPlan g ⟨[], l, nx, kd, id, ps⟩) := by
                show _ = _
                rw [E1.out]
                have : l.all (fun t => decide (t.id < nx)) = true := by
                  rw [List.all_eq_true]
                  intro t ht
                  obtain ⟨i, hi, he⟩ := List.getElem_of_mem ht
                  exact decide_eq_true (HP.out i t (by rw [HSN.out]; exact hi) (by rw [List.getElem?_eq_getElem hi, he]))
                rw [this]
                rfl
              obtain ⟨k0, k1, k2, k3, k4, k5, k6, k7⟩ := KR.out wr HB4.out
              have LS := KLS.out wr HB4.out
              clear hlt
              go_wp2_with fail
              refine (HPL.out wr (HBF.out _ HB4.out)).mono ?_
              rintro e y ⟨rfl, hy⟩
              have HGY : Hid (Below B w y) := (HBF.out _ HB4.out).trans (hy.mono (by have := (HBF.out _ HB4.out).size; rw [HSZ.out] at this; exact this))
              clear hy LS k0 k1 k2 k3 k4 k5 k6 k7 HGO
              go_wp2_with fail
              go_ret
              rw [E5.out]
              exact ⟨rfl, HGY.out⟩
end Go.Proofs.YtfihpljgbghogaaGreat

/- Snapshots and states held against each other, any two: the program's Same, the statements' States. -/
namespace Go.Proofs.YtfihpljgbghogaaGreat
open Go.RowKit Go.Shelf Go.Lib
set_option linter.unusedVariables false
set_option linter.unusedSimpArgs false
attribute [-simp] Tryz.isAgg51 Tryz.zeroValue51 Tryz.isAgg54 Tryz.zeroValue54 Tryz.isAgg30 Tryz.zeroValue30
attribute [-go_sem] loadVar storeVar
attribute [local go_sem] loadVar_openQ storeVar_openQ zero_sn zero_prs zero_st
theorem sn_iff (s t : SN) : s = t ↔ s.id = t.id ∧ s.ch = t.ch ∧ s.tb = t.tb := by
  obtain ⟨a, b, c⟩ := s
  obtain ⟨a', b', c'⟩ := t
  simp
theorem st_iff (s t : ST) : s = t ↔ s.d = t.d ∧ s.sn = t.sn ∧ s.nx = t.nx ∧ s.kd = t.kd ∧ s.id = t.id ∧ s.pr = t.pr := by
  obtain ⟨a, b, c, d, e, f⟩ := s
  obtain ⟨a', b', c', d', e', f'⟩ := t
  simp
set_option maxRecDepth 100000 in
set_option maxHeartbeats 4000000 in
/-- **sameSnap**. -/
theorem sg_sameSnap {w : World} {q q' : SV} {s s' : SN} (h : SnIs w q s) (h' : SnIs w q' s') (hc : s.ch.length ≤ 1000000) (ht : s.tb.length ≤ 1000000) :
    Calls Tryz.prog 55 #[svV q, svV q'] w fun e w' => ∃ t : Bool, e = .returned (.bool t) ∧ (t = true ↔ s = s') ∧ Below w.heap.size w w' := by
  obtain ⟨i, ⟨x, n, c⟩, ⟨y, m, d⟩⟩ := q
  obtain ⟨i', ⟨x', n', c'⟩, ⟨y', m', d'⟩⟩ := q'
  obtain ⟨B, hB⟩ : ∃ B, w.heap.size = B := ⟨_, rfl⟩
  have HSZ := Lib.hid hB
  obtain ⟨W1, hW1⟩ : ∃ W, w.alloc (.cells #[.int .i64 i, .slice x n c, .slice y m d] 51) = W := ⟨_, rfl⟩
  obtain ⟨W2, hW2⟩ : ∃ W, W1.alloc (.cells #[.int .i64 i', .slice x' n' c', .slice y' m' d'] 51) = W := ⟨_, rfl⟩
  have s1 : W1.heap.size = B + 1 := by rw [← hW1, ← hB]; simp
  have r1 : RowC W1 B 51 [.int .i64 i, .slice x n c, .slice y m d] := by rw [← hW1, ← hB]; exact RowC.new _ _ _
  have r2 : RowC W2 (B + 1) 51 [.int .i64 i', .slice x' n' c', .slice y' m' d'] := by rw [← hW2, ← s1]; exact RowC.new _ _ _
  have b1 : Below B w W1 := by rw [← hW1, ← hB]; exact below_new _ _
  have b2 : Below W1.heap.size W1 W2 := by rw [← hW2]; exact below_new _ _
  have bF : Below B w W2 := b1.trans (b2.mono (by omega))
  have HBF : Hid (∀ x : World, Below W2.heap.size W2 x → Below B w x) := fun x hx => bF.trans (hx.mono (by have := bF.size; omega))
  have KR : Hid (∀ z : World, Below W2.heap.size W2 z → z.cell? ⟨B, 0, none⟩ = some (.int .i64 i) ∧ z.cell? ⟨B, 1, none⟩ = some (.slice x n c) ∧ z.cell? ⟨B, 2, none⟩ = some (.slice y m d) ∧ z.cell? ⟨B + 1, 0, none⟩ = some (.int .i64 i') ∧ z.cell? ⟨B + 1, 1, none⟩ = some (.slice x' n' c') ∧ z.cell? ⟨B + 1, 2, none⟩ = some (.slice y' m' d')) := fun z hz =>
    ⟨((r1.below b2).below hz).cell 0 _ rfl, ((r1.below b2).below hz).cell 1 _ rfl, ((r1.below b2).below hz).cell 2 _ rfl, (r2.below hz).cell 0 _ rfl, (r2.below hz).cell 1 _ rfl, (r2.below hz).cell 2 _ rfl⟩
  have HCB : Hid (∀ z : World, Below W2.heap.size W2 z → Calls Tryz.prog 32 #[.slice x n c, .slice x' n' c'] z fun e w' => e = .returned (.bool (decide (s.ch = s'.ch))) ∧ Below z.heap.size z w') := fun z hz => eq_bytes (h.ch.below (by rw [hB]; exact HBF.out z hz)) (h'.ch.below (by rw [hB]; exact HBF.out z hz)) hc
  have HCP : Hid (∀ z : World, Below W2.heap.size W2 z → Calls Tryz.prog 56 #[.slice y m d, .slice y' m' d'] z fun e w' => e = .returned (.bool (decide (s.tb = s'.tb))) ∧ Below z.heap.size z w') := fun z hz => eq_pairs (h.tb.below (by rw [hB]; exact HBF.out z hz)) (h'.tb.below (by rw [hB]; exact HBF.out z hz)) ht
  have E0 : Hid (s = s' ↔ i = i' ∧ s.ch = s'.ch ∧ s.tb = s'.tb) := by
    have e1 := h.id
    have e2 := h'.id
    simp only at e1 e2
    show _ ↔ _
    rw [sn_iff, e1, e2]
  clear h h' hc ht r1 r2 b1 b2 bF
  obtain ⟨k0, k1, k2, k3, k4, k5⟩ := KR.out W2 (Below.refl _ _)
  by_cases e0 : i = i'
  · subst e0
    obtain ⟨t1, ht1⟩ : ∃ t, decide (s.ch = s'.ch) = t := ⟨_, rfl⟩
    obtain ⟨t2, ht2⟩ : ∃ t, decide (s.tb = s'.tb) = t := ⟨_, rfl⟩
    rw [ht1] at HCB
    rw [ht2] at HCP
    have E1 : Hid (s = s' ↔ t1 = true ∧ t2 = true) := by show _ ↔ _; rw [E0.out, ← ht1, ← ht2, decide_eq_true_eq, decide_eq_true_eq]; simp
    clear ht1 ht2 E0
    go_enter Tryz.func55, Tryz.ntmps55
    simp only [svV, slV]
    go_wp2_with fail
    refine (HCB.out W2 (Below.refl _ _)).mono ?_
    rintro e x1 ⟨rfl, hx1⟩
    have H1 := Lib.hid hx1
    clear hx1 k0 k1 k2 k3 k4 k5
    obtain ⟨k0, k1, k2, k3, k4, k5⟩ := KR.out x1 H1.out
    cases t1 with
    | false =>
      have HF := Lib.hid (HBF.out x1 H1.out)
      go_wp2_with fail
      go_ret
      exact ⟨false, rfl, by rw [E1.out]; simp, by rw [HSZ.out]; exact HF.out⟩
    | true =>
      go_wp2_with fail
      refine (HCP.out x1 H1.out).mono ?_
      rintro e x2 ⟨rfl, hx2⟩
      have HF : Hid (Below B w x2) := HBF.out x2 (H1.out.trans (hx2.mono H1.out.size))
      clear hx2
      go_wp2_with fail
      go_ret
      exact ⟨t2, rfl, by rw [E1.out]; simp, by rw [HSZ.out]; exact HF.out⟩
  · have g0 : (i == i') = false := by simpa using e0
    have HF := Lib.hid (HBF.out W2 (Below.refl _ _))
    have E1 : Hid (¬ s = s') := fun h => e0 (E0.out.1 h).1
    clear e0
    go_enter Tryz.func55, Tryz.ntmps55
    simp only [svV, slV]
    go_wp2_with fail
    go_ret
    exact ⟨false, rfl, by simp [E1.out], by rw [HSZ.out]; exact HF.out⟩

set_option maxRecDepth 100000 in
set_option maxHeartbeats 4000000 in
/-- **EqualFunc** at snapshots. -/
theorem eq_snaps {w : World} {u v : Value} {l m : List SN} (hu : Snp w u l) (hv : Snp w v m) (hK : Lens 1000 l) :
    Calls Tryz.prog 54 #[u, v, .func (.func 55) #[] #[]] w fun e w' => ∃ t : Bool, e = .returned (.bool t) ∧ (t = true ↔ l = m) ∧ Below w.heap.size w w' := by
  obtain ⟨ru, hu⟩ := hu
  obtain ⟨rv, hv⟩ := hv
  have HU := Lib.hid hu
  have HV := Lib.hid hv
  have HKL := Lib.hid hK
  obtain ⟨a, ca, rfl, -⟩ := hu
  obtain ⟨b, cb, rfl, -⟩ := hv
  obtain ⟨n, hn⟩ : ∃ n, l.length = n := ⟨_, rfl⟩
  obtain ⟨mm, hmm⟩ : ∃ n, m.length = n := ⟨_, rfl⟩
  have hn1 : n ≤ 1000 := by rw [← hn]; exact hK.1
  rw [hn] at HU ⊢
  rw [hmm] at HV ⊢
  have HN := Lib.hid hn
  have HM := Lib.hid hmm
  clear hn hmm hK
  by_cases hl : n = mm
  · subst hl
    have g0 : ((n : Int) != (n : Int)) = false := by simp
    go_enter Tryz.func54, Tryz.ntmps54
    go_wp2_with fail
    go_loopw [17] (fun iv wr => ∃ k : Nat, k ≤ n ∧ iv = .int .i64 (k : Int) ∧ Hid (l.take k = m.take k) ∧ Hid (Below w.heap.size w wr)) (fun iv _ => n - (intOf iv).toNat)
    case atStart => exact ⟨0, Nat.zero_le _, rfl, by simp [Hid], Below.refl _ _⟩
    case round =>
      obtain ⟨k, hk, rfl, HP, HB⟩ := hrel
      by_cases hlt : k < n
      · have q1 : (k : Int) < (n : Int) := by omega
        have HLT := Lib.hid hlt
        obtain ⟨s, hx⟩ : ∃ x, l[k]? = some x := ⟨_, List.getElem?_eq_getElem (by rw [HN.out]; exact hlt)⟩
        obtain ⟨s', hy⟩ : ∃ y, m[k]? = some y := ⟨_, List.getElem?_eq_getElem (by rw [HM.out]; exact hlt)⟩
        obtain ⟨ba, oa, qa, rfl, h1, -, hqa, c1, c2, c3⟩ := (HU.out.below HB.out).at hx
        have LA := load_sn c1 c2 c3
        have SA := new_sn wr qa
        obtain ⟨Y1, hY1⟩ : ∃ Y, wr.alloc (.cells (svL qa).toArray 51) = Y := ⟨_, rfl⟩
        have bY1 : Below wr.heap.size wr Y1 := by rw [← hY1]; exact below_new _ _
        have rY1 : RowC Y1 wr.heap.size 51 (svL qa) := by rw [← hY1]; exact RowC.new _ _ _
        rw [hY1] at SA
        obtain ⟨bb, ob, qb, rfl, h2, -, hqb, d1, d2, d3⟩ := (HV.out.below (HB.out.trans (bY1.mono HB.out.size))).at hy
        have LB := load_sn d1 d2 d3
        have SB := new_sn Y1 qb
        obtain ⟨Y2, hY2⟩ : ∃ Y, Y1.alloc (.cells (svL qb).toArray 51) = Y := ⟨_, rfl⟩
        have bY2 : Below Y1.heap.size Y1 Y2 := by rw [← hY2]; exact below_new _ _
        have rY2 : RowC Y2 Y1.heap.size 51 (svL qb) := by rw [← hY2]; exact RowC.new _ _ _
        rw [hY2] at SB
        have LA2 := load_snC (rY1.below bY2)
        have LB2 := load_snC rY2
        have HCS := Lib.hid (sg_sameSnap ((hqa.below bY1).below bY2) (hqb.below bY2) (by have := (HKL.out.2 s (List.mem_of_getElem? hx)).1; omega) (by have := (HKL.out.2 s (List.mem_of_getElem? hx)).2; omega))
        have HB2 : Hid (Below w.heap.size w Y2) := (HB.out.trans (bY1.mono HB.out.size)).trans (bY2.mono (by have := HB.out.size; have := bY1.size; omega))
        obtain ⟨C1, hC1⟩ : ∃ C, wr.heap.size = C := ⟨_, rfl⟩
        obtain ⟨C2, hC2⟩ : ∃ C, Y1.heap.size = C := ⟨_, rfl⟩
        rw [hC1] at SA LA2
        rw [hC2] at SB LB2
        obtain ⟨i1, ⟨x1, n1, c1'⟩, ⟨y1, m1, d1'⟩⟩ := qa
        obtain ⟨i2, ⟨x2, n2, c2'⟩, ⟨y2, m2, d2'⟩⟩ := qb
        have HX := Lib.hid hx
        have HY := Lib.hid hy
        simp only [svV, slV] at LA SA LB SB LA2 LB2 HCS
        clear hx hy hlt c1 c2 c3 d1 d2 d3 h1 h2 hqa hqb bY1 bY2 rY1 rY2 hY1 hY2
        go_wp2_with fail
        refine HCS.out.mono ?_
        rintro e x3 ⟨t, rfl, ht, hx3⟩
        have HB3 : Hid (Below w.heap.size w x3) := HB2.out.trans (hx3.mono HB2.out.size)
        have HT := Lib.hid ht
        clear ht hx3 HCS LA SA LB SB LA2 LB2
        cases t with
        | true =>
          have HQ : Hid (l.take (k + 1) = m.take (k + 1)) := take_eq_succ HX.out HY.out HP.out (HT.out.1 rfl)
          go_wp2_with fail
          exact ⟨⟨k + 1, HLT.out, by simp, HQ, HB3⟩, by have := HLT.out; simp [intOf]; omega⟩
        | false =>
          have HE : Hid (¬ l = m) := ne_at HX.out HY.out (fun h => by have := HT.out.2 h; cases this)
          go_wp2_with fail
          go_ret
          exact ⟨false, rfl, by simp [HE.out], HB3.out⟩
      · obtain rfl : k = n := by omega
        have HE : Hid (l = m) := by
          have := HP.out
          rw [List.take_of_length_le (by rw [HN.out]; exact Nat.le_refl _), List.take_of_length_le (by rw [HM.out]; exact Nat.le_refl _)] at this
          exact this
        clear hlt
        go_wp2_with fail
        go_ret
        exact ⟨true, rfl, by simp [HE.out], HB.out⟩
  · have g0 : ((n : Int) != (mm : Int)) = true := by simp; omega
    have HE : Hid (¬ l = m) := fun h => by rw [h, HM.out] at HN; exact hl HN.out.symm
    clear hl
    go_enter Tryz.func54, Tryz.ntmps54
    go_wp2_with fail
    go_ret
    exact ⟨false, rfl, by simp [HE.out], Below.refl _ _⟩
end Go.Proofs.YtfihpljgbghogaaGreat

/- States held against each other, any two: the program's Same, the statements' Snaps and States. -/
namespace Go.Proofs.YtfihpljgbghogaaGreat
open Go.RowKit Go.Shelf Go.Lib
set_option linter.unusedVariables false
set_option linter.unusedSimpArgs false
attribute [-simp] Tryz.isAgg51 Tryz.zeroValue51 Tryz.isAgg54 Tryz.zeroValue54 Tryz.isAgg30 Tryz.zeroValue30
attribute [-go_sem] loadVar storeVar
attribute [local go_sem] loadVar_openQ storeVar_openQ zero_sn zero_prs zero_st
set_option maxRecDepth 100000 in
set_option maxHeartbeats 4000000 in
/-- revetmentkeep.**Snaps** of any two. -/
theorem eqk_snaps {w : World} {u v : Value} {l m : List SN} (hu : Snp w u l) (hv : Snp w v m) (hK : Lens 1000 l) :
    Calls Tryz.prog 47 #[u, v] w fun e w' => ∃ t : Bool, e = .returned (.bool t) ∧ (t = true ↔ l = m) ∧ Below w.heap.size w w' := by
  obtain ⟨ru, hu⟩ := hu
  obtain ⟨rv, hv⟩ := hv
  have HU := Lib.hid hu
  have HV := Lib.hid hv
  have HKL := Lib.hid hK
  obtain ⟨a, ca, rfl, -⟩ := hu
  obtain ⟨b, cb, rfl, -⟩ := hv
  obtain ⟨n, hn⟩ : ∃ n, l.length = n := ⟨_, rfl⟩
  obtain ⟨mm, hmm⟩ : ∃ n, m.length = n := ⟨_, rfl⟩
  have hn1 : n ≤ 1000 := by rw [← hn]; exact hK.1
  rw [hn] at HU ⊢
  rw [hmm] at HV ⊢
  have HN := Lib.hid hn
  have HM := Lib.hid hmm
  clear hn hmm hK
  by_cases hl : n = mm
  · subst hl
    have g0 : ((n : Int) != (n : Int)) = false := by simp
    go_enter Tryz.func47, Tryz.ntmps47
    go_wp2_with fail
    go_loopw [5] (fun iv wr => ∃ k : Nat, k ≤ n ∧ iv = .int .i64 (k : Int) ∧ Hid (l.take k = m.take k) ∧ Hid (Below w.heap.size w wr)) (fun iv _ => n - (intOf iv).toNat)
    case atStart => exact ⟨0, Nat.zero_le _, rfl, by simp [Hid], Below.refl _ _⟩
    case round =>
      obtain ⟨k, hk, rfl, HP, HB⟩ := hrel
      by_cases hlt : k < n
      · have q1 : (k : Int) < (n : Int) := by omega
        have HLT := Lib.hid hlt
        obtain ⟨s, hx⟩ : ∃ x, l[k]? = some x := ⟨_, List.getElem?_eq_getElem (by rw [HN.out]; exact hlt)⟩
        obtain ⟨s', hy⟩ : ∃ y, m[k]? = some y := ⟨_, List.getElem?_eq_getElem (by rw [HM.out]; exact hlt)⟩
        obtain ⟨ba, oa, qa, rfl, h1, -, hqa, c1, c2, c3⟩ := (HU.out.below HB.out).at hx
        obtain ⟨bb, ob, qb, rfl, h2, -, hqb, d1, d2, d3⟩ := (HV.out.below HB.out).at hy
        obtain ⟨i1, ⟨x1, n1, c1'⟩, ⟨y1, m1, d1'⟩⟩ := qa
        obtain ⟨i2, ⟨x2, n2, c2'⟩, ⟨y2, m2, d2'⟩⟩ := qb
        simp only [slV] at c1 c2 c3 d1 d2 d3
        have f1 : ∀ z : Ext wr, z.1.cell? ⟨ba, oa + k * 3, none⟩ = some (.int .i64 i1) := fun z => (z.cell h1).trans c1
        have f2 : ∀ z : Ext wr, z.1.cell? ⟨ba, oa + k * 3 + 1, none⟩ = some (.slice x1 n1 c1') := fun z => (z.cell h1).trans c2
        have f3 : ∀ z : Ext wr, z.1.cell? ⟨ba, oa + k * 3 + 2, none⟩ = some (.slice y1 m1 d1') := fun z => (z.cell h1).trans c3
        have f4 : ∀ z : Ext wr, z.1.cell? ⟨bb, ob + k * 3, none⟩ = some (.int .i64 i2) := fun z => (z.cell h2).trans d1
        have f5 : ∀ z : Ext wr, z.1.cell? ⟨bb, ob + k * 3 + 1, none⟩ = some (.slice x2 n2 c2') := fun z => (z.cell h2).trans d2
        have f6 : ∀ z : Ext wr, z.1.cell? ⟨bb, ob + k * 3 + 2, none⟩ = some (.slice y2 m2 d2') := fun z => (z.cell h2).trans d3
        have hkl := HKL.out.2 s (List.mem_of_getElem? hx)
        obtain ⟨t1, ht1⟩ : ∃ t, decide (s.ch = s'.ch) = t := ⟨_, rfl⟩
        obtain ⟨t2, ht2⟩ : ∃ t, decide (s.tb = s'.tb) = t := ⟨_, rfl⟩
        have HBY : Hid (∀ z : Ext wr, Calls Tryz.prog 15 #[.slice x1 n1 c1', .slice x2 n2 c2'] z.1 fun e w'' => e = .returned (.bool t1) ∧ ∃ y : Ext wr, w'' = y.1) := fun z => (eqk_bytes _ _ _ _ z.1 (hqa.ch.below z.2) (hqb.ch.below z.2) hqa.ok.ch hqb.ok.ch).mono fun e w' h => ⟨by rw [h.1, ht1], z, h.2⟩
        have HPY : Hid (∀ z : Ext wr, Calls Tryz.prog 48 #[.slice y1 m1 d1', .slice y2 m2 d2'] z.1 fun e w'' => e = .returned (.bool t2) ∧ ∃ y : Ext wr, w'' = y.1) := fun z => calls_ext z (by rw [← ht2]; exact eqk_pairs (hqa.tb.below z.2) (hqb.tb.below z.2) (by omega))
        have E0 : Hid (s = s' ↔ i1 = i2 ∧ t1 = true ∧ t2 = true) := by
          have e1 := hqa.id
          have e2 := hqb.id
          simp only at e1 e2
          show _ ↔ _
          rw [sn_iff, e1, e2, ← ht1, ← ht2, decide_eq_true_eq, decide_eq_true_eq]
        have HX := Lib.hid hx
        have HY := Lib.hid hy
        clear hx hy hlt c1 c2 c3 d1 d2 d3 h1 h2 hqa hqb ht1 ht2 hkl
        by_cases e0 : i1 = i2
        · subst e0
          cases t1 with
          | false =>
            have HE : Hid (¬ l = m) := ne_at HX.out HY.out (fun h => by have := E0.out.1 h; exact absurd this.2.1 (by decide))
            go_wp2_with fail
            refine region_ext (by kernel_rfl) (by kernel_rfl) ?_
            repeat (go_big_quiet_step (with_reducible (first | exact HBY.out _ | exact HPY.out _)))
            try (with_reducible refine wpQuiet_nil ?_)
            intro z
            have HZ : Hid (Below w.heap.size w z.1) := HB.out.trans (z.2.mono HB.out.size)
            clear f1 f2 f3 f4 f5 f6
            go_wp2_with fail
            go_ret
            exact ⟨false, rfl, by simp [HE.out], HZ.out⟩
          | true =>
            cases t2 with
            | false =>
              have HE : Hid (¬ l = m) := ne_at HX.out HY.out (fun h => by have := E0.out.1 h; exact absurd this.2.2 (by decide))
              go_wp2_with fail
              refine region_ext (by kernel_rfl) (by kernel_rfl) ?_
              repeat (go_big_quiet_step (with_reducible (first | exact HBY.out _ | exact HPY.out _)))
              try (with_reducible refine wpQuiet_nil ?_)
              intro z
              have HZ : Hid (Below w.heap.size w z.1) := HB.out.trans (z.2.mono HB.out.size)
              clear f1 f2 f3 f4 f5 f6
              go_wp2_with fail
              go_ret
              exact ⟨false, rfl, by simp [HE.out], HZ.out⟩
            | true =>
              have HQ : Hid (l.take (k + 1) = m.take (k + 1)) := take_eq_succ HX.out HY.out HP.out (E0.out.2 ⟨rfl, rfl, rfl⟩)
              go_wp2_with fail
              refine region_ext (by kernel_rfl) (by kernel_rfl) ?_
              repeat (go_big_quiet_step (with_reducible (first | exact HBY.out _ | exact HPY.out _)))
              try (with_reducible refine wpQuiet_nil ?_)
              intro z
              have HZ : Hid (Below w.heap.size w z.1) := HB.out.trans (z.2.mono HB.out.size)
              clear f1 f2 f3 f4 f5 f6
              go_wp2_with fail
              exact ⟨⟨k + 1, HLT.out, by simp, HQ, HZ⟩, by have := HLT.out; simp [intOf]; omega⟩
        · have g1 : (i1 != i2) = true := by simpa using e0
          have g2 : (i1 == i2) = false := by simpa using e0
          have HE : Hid (¬ l = m) := ne_at HX.out HY.out (fun h => e0 (E0.out.1 h).1)
          clear e0
          go_wp2_with fail
          refine region_ext (by kernel_rfl) (by kernel_rfl) ?_
          repeat (go_big_quiet_step (with_reducible (first | exact HBY.out _ | exact HPY.out _)))
          try (with_reducible refine wpQuiet_nil ?_)
          intro z
          have HZ : Hid (Below w.heap.size w z.1) := HB.out.trans (z.2.mono HB.out.size)
          clear f1 f2 f3 f4 f5 f6
          go_wp2_with fail
          go_ret
          exact ⟨false, rfl, by simp [HE.out], HZ.out⟩
      · obtain rfl : k = n := by omega
        have HE : Hid (l = m) := by
          have := HP.out
          rw [List.take_of_length_le (by rw [HN.out]; exact Nat.le_refl _), List.take_of_length_le (by rw [HM.out]; exact Nat.le_refl _)] at this
          exact this
        clear hlt
        go_wp2_with fail
        go_ret
        exact ⟨true, rfl, by simp [HE.out], HB.out⟩
  · have g0 : ((n : Int) != (mm : Int)) = true := by simp; omega
    have HE : Hid (¬ l = m) := fun h => by rw [h, HM.out] at HN; exact hl HN.out.symm
    clear hl
    go_enter Tryz.func47, Tryz.ntmps47
    go_wp2_with fail
    go_ret
    exact ⟨false, rfl, by simp [HE.out], Below.refl _ _⟩

set_option maxRecDepth 100000 in
set_option maxHeartbeats 4000000 in
/-- **Same** of any two states. -/
theorem sg_same {w : World} {q q' : PS} {d d' : List Int} {l l' : List SN} {ps ps' : List (Int × Int)} (hd : Sl .i64 w (slV q.d) d) (hd' : Sl .i64 w (slV q'.d) d') (h : StIs w q l ps) (h' : StIs w q' l' ps') (hK : Lens 1000 l) (hn : d.length ≤ 1000000) (hp : ps.length ≤ 1000000) :
    Calls Tryz.prog 20 #[stV q, stV q'] w fun e w' => ∃ t : Bool, e = .returned (.bool t) ∧ (t = true ↔ (⟨d, l, q.nx, q.kd, q.id, ps⟩ : ST) = ⟨d', l', q'.nx, q'.kd, q'.id, ps'⟩) ∧ Below w.heap.size w w' := by
  obtain ⟨⟨qd, qdn, qdc⟩, ⟨qs, qsn, qsc⟩, nx, kd, id, ⟨qp, qpn, qpc⟩⟩ := q
  obtain ⟨⟨pd, pdn, pdc⟩, ⟨pss, psn, psc⟩, nx', kd', id', ⟨pp, ppn, ppc⟩⟩ := q'
  obtain ⟨B, hB⟩ : ∃ B, w.heap.size = B := ⟨_, rfl⟩
  have HSZ := Lib.hid hB
  obtain ⟨W1, hW1⟩ : ∃ W, w.alloc (.cells #[.slice qd qdn qdc, .slice qs qsn qsc, .int .i64 nx, .int .i64 kd, .int .i64 id, .slice qp qpn qpc] 30) = W := ⟨_, rfl⟩
  obtain ⟨W2, hW2⟩ : ∃ W, W1.alloc (.cells #[.slice pd pdn pdc, .slice pss psn psc, .int .i64 nx', .int .i64 kd', .int .i64 id', .slice pp ppn ppc] 30) = W := ⟨_, rfl⟩
  have s1 : W1.heap.size = B + 1 := by rw [← hW1, ← hB]; simp
  have r1 : RowC W1 B 30 [.slice qd qdn qdc, .slice qs qsn qsc, .int .i64 nx, .int .i64 kd, .int .i64 id, .slice qp qpn qpc] := by rw [← hW1, ← hB]; exact RowC.new _ _ _
  have r2 : RowC W2 (B + 1) 30 [.slice pd pdn pdc, .slice pss psn psc, .int .i64 nx', .int .i64 kd', .int .i64 id', .slice pp ppn ppc] := by rw [← hW2, ← s1]; exact RowC.new _ _ _
  have b1 : Below B w W1 := by rw [← hW1, ← hB]; exact below_new _ _
  have b2 : Below W1.heap.size W1 W2 := by rw [← hW2]; exact below_new _ _
  have bF : Below B w W2 := b1.trans (b2.mono (by omega))
  have HBF : Hid (∀ x : World, Below W2.heap.size W2 x → Below B w x) := fun x hx => bF.trans (hx.mono (by have := bF.size; omega))
  have KR : Hid (∀ z : World, Below W2.heap.size W2 z → (z.cell? ⟨B, 0, none⟩ = some (.slice qd qdn qdc) ∧ z.cell? ⟨B, 1, none⟩ = some (.slice qs qsn qsc) ∧ z.cell? ⟨B, 2, none⟩ = some (.int .i64 nx) ∧ z.cell? ⟨B, 3, none⟩ = some (.int .i64 kd) ∧ z.cell? ⟨B, 4, none⟩ = some (.int .i64 id) ∧ z.cell? ⟨B, 5, none⟩ = some (.slice qp qpn qpc)) ∧
      z.cell? ⟨B + 1, 0, none⟩ = some (.slice pd pdn pdc) ∧ z.cell? ⟨B + 1, 1, none⟩ = some (.slice pss psn psc) ∧ z.cell? ⟨B + 1, 2, none⟩ = some (.int .i64 nx') ∧ z.cell? ⟨B + 1, 3, none⟩ = some (.int .i64 kd') ∧ z.cell? ⟨B + 1, 4, none⟩ = some (.int .i64 id') ∧ z.cell? ⟨B + 1, 5, none⟩ = some (.slice pp ppn ppc)) := fun z hz =>
    have t := (r1.below b2).below hz
    have u := r2.below hz
    ⟨⟨t.cell 0 _ rfl, t.cell 1 _ rfl, t.cell 2 _ rfl, t.cell 3 _ rfl, t.cell 4 _ rfl, t.cell 5 _ rfl⟩, u.cell 0 _ rfl, u.cell 1 _ rfl, u.cell 2 _ rfl, u.cell 3 _ rfl, u.cell 4 _ rfl, u.cell 5 _ rfl⟩
  have HCI : Hid (∀ z : World, Below W2.heap.size W2 z → Calls Tryz.prog 53 #[.slice qd qdn qdc, .slice pd pdn pdc] z fun e w' => e = .returned (.bool (decide (d = d'))) ∧ Below z.heap.size z w') := fun z hz => eq_ints (hd.below (by rw [hB]; exact HBF.out z hz)) (hd'.below (by rw [hB]; exact HBF.out z hz)) hn
  have HCS : Hid (∀ z : World, Below W2.heap.size W2 z → Calls Tryz.prog 54 #[.slice qs qsn qsc, .slice pss psn psc, .func (.func 55) #[] #[]] z fun e w' => ∃ t : Bool, e = .returned (.bool t) ∧ (t = true ↔ l = l') ∧ Below z.heap.size z w') := fun z hz => eq_snaps (h.sn.below (by rw [hB]; exact HBF.out z hz)) (h'.sn.below (by rw [hB]; exact HBF.out z hz)) hK
  have HCP : Hid (∀ z : World, Below W2.heap.size W2 z → Calls Tryz.prog 56 #[.slice qp qpn qpc, .slice pp ppn ppc] z fun e w' => e = .returned (.bool (decide (ps = ps'))) ∧ Below z.heap.size z w') := fun z hz => eq_pairs (h.pr.below (by rw [hB]; exact HBF.out z hz)) (h'.pr.below (by rw [hB]; exact HBF.out z hz)) hp
  obtain ⟨t1, ht1⟩ : ∃ t, decide (d = d') = t := ⟨_, rfl⟩
  obtain ⟨t3, ht3⟩ : ∃ t, decide (ps = ps') = t := ⟨_, rfl⟩
  rw [ht1] at HCI
  rw [ht3] at HCP
  have E0 : Hid ((⟨d, l, nx, kd, id, ps⟩ : ST) = ⟨d', l', nx', kd', id', ps'⟩ ↔ t1 = true ∧ l = l' ∧ nx = nx' ∧ kd = kd' ∧ id = id' ∧ t3 = true) := by
    show _ ↔ _
    rw [st_iff, ← ht1, ← ht3, decide_eq_true_eq, decide_eq_true_eq]
  simp only [stV, stL, slV]
  clear hd hd' h h' hK hn hp r1 r2 b1 b2 bF ht1 ht3
  obtain ⟨⟨k0, k1, k2, k3, k4, k5⟩, j0, j1, j2, j3, j4, j5⟩ := KR.out W2 (Below.refl _ _)
  go_enter Tryz.func20, Tryz.ntmps20
  go_wp2_with fail
  refine (HCI.out W2 (Below.refl _ _)).mono ?_
  rintro e x1 ⟨rfl, hx1⟩
  have H1 := Lib.hid hx1
  clear hx1 k0 k1 k2 k3 k4 k5 j0 j1 j2 j3 j4 j5
  cases t1 with
  | false =>
    have HF := Lib.hid (HBF.out x1 H1.out)
    go_wp2_with fail
    go_ret
    exact ⟨false, rfl, by rw [E0.out]; simp, by rw [HSZ.out]; exact HF.out⟩
  | true =>
    obtain ⟨⟨k0, k1, k2, k3, k4, k5⟩, j0, j1, j2, j3, j4, j5⟩ := KR.out x1 H1.out
    go_wp2_with fail
    refine (HCS.out x1 H1.out).mono ?_
    rintro e x2 ⟨t2, rfl, ht2, hx2⟩
    have H2 : Hid (Below W2.heap.size W2 x2) := H1.out.trans (hx2.mono H1.out.size)
    have HT2 := Lib.hid ht2
    have HF := Lib.hid (HBF.out x2 H2.out)
    clear hx2 ht2 k0 k1 k2 k3 k4 k5 j0 j1 j2 j3 j4 j5
    cases t2 with
    | false =>
      have HN : Hid (¬ l = l') := fun h => by have := HT2.out.2 h; cases this
      go_wp2_with fail
      go_ret
      exact ⟨false, rfl, by rw [E0.out]; simp [HN.out], by rw [HSZ.out]; exact HF.out⟩
    | true =>
      have HL : Hid (l = l') := HT2.out.1 rfl
      obtain ⟨⟨k0, k1, k2, k3, k4, k5⟩, j0, j1, j2, j3, j4, j5⟩ := KR.out x2 H2.out
      by_cases e1 : nx = nx'
      · subst e1
        by_cases e2 : kd = kd'
        · subst e2
          by_cases e3 : id = id'
          · subst e3
            go_wp2_with fail
            refine (HCP.out x2 H2.out).mono ?_
            rintro e x3 ⟨rfl, hx3⟩
            have HF3 : Hid (Below B w x3) := HBF.out x3 (H2.out.trans (hx3.mono H2.out.size))
            clear hx3
            go_wp2_with fail
            go_ret
            exact ⟨t3, rfl, by rw [E0.out]; simp [HL.out], by rw [HSZ.out]; exact HF3.out⟩
          · have g : (id == id') = false := by simpa using e3
            have HN : Hid (¬ id = id') := e3
            clear e3
            go_wp2_with fail
            go_ret
            exact ⟨false, rfl, by rw [E0.out]; simp [HN.out], by rw [HSZ.out]; exact HF.out⟩
        · have g : (kd == kd') = false := by simpa using e2
          have HN : Hid (¬ kd = kd') := e2
          clear e2
          go_wp2_with fail
          go_ret
          exact ⟨false, rfl, by rw [E0.out]; simp [HN.out], by rw [HSZ.out]; exact HF.out⟩
      · have g : (nx == nx') = false := by simpa using e1
        have HN : Hid (¬ nx = nx') := e1
        clear e1
        go_wp2_with fail
        go_ret
        exact ⟨false, rfl, by rw [E0.out]; simp [HN.out], by rw [HSZ.out]; exact HF.out⟩

set_option maxRecDepth 100000 in
set_option maxHeartbeats 4000000 in
/-- revetmentkeep.**States** of any two states. -/
theorem eqk_states {w : World} {q q' : PS} {d d' : List Int} {l l' : List SN} {ps ps' : List (Int × Int)} (hd : Sl .i64 w (slV q.d) d) (hd' : Sl .i64 w (slV q'.d) d') (h : StIs w q l ps) (h' : StIs w q' l' ps') (hK : Lens 1000 l) (hn : d.length ≤ 1000000) (hp : ps.length ≤ 1000000) :
    Calls Tryz.prog 16 #[stV q, stV q'] w fun e w' => ∃ t : Bool, e = .returned (.bool t) ∧ (t = true ↔ (⟨d, l, q.nx, q.kd, q.id, ps⟩ : ST) = ⟨d', l', q'.nx, q'.kd, q'.id, ps'⟩) ∧ Below w.heap.size w w' := by
  obtain ⟨⟨qd, qdn, qdc⟩, ⟨qs, qsn, qsc⟩, nx, kd, id, ⟨qp, qpn, qpc⟩⟩ := q
  obtain ⟨⟨pd, pdn, pdc⟩, ⟨pss, psn, psc⟩, nx', kd', id', ⟨pp, ppn, ppc⟩⟩ := q'
  obtain ⟨B, hB⟩ : ∃ B, w.heap.size = B := ⟨_, rfl⟩
  have HSZ := Lib.hid hB
  obtain ⟨W1, hW1⟩ : ∃ W, w.alloc (.cells #[.slice qd qdn qdc, .slice qs qsn qsc, .int .i64 nx, .int .i64 kd, .int .i64 id, .slice qp qpn qpc] 30) = W := ⟨_, rfl⟩
  obtain ⟨W2, hW2⟩ : ∃ W, W1.alloc (.cells #[.slice pd pdn pdc, .slice pss psn psc, .int .i64 nx', .int .i64 kd', .int .i64 id', .slice pp ppn ppc] 30) = W := ⟨_, rfl⟩
  have s1 : W1.heap.size = B + 1 := by rw [← hW1, ← hB]; simp
  have r1 : RowC W1 B 30 [.slice qd qdn qdc, .slice qs qsn qsc, .int .i64 nx, .int .i64 kd, .int .i64 id, .slice qp qpn qpc] := by rw [← hW1, ← hB]; exact RowC.new _ _ _
  have r2 : RowC W2 (B + 1) 30 [.slice pd pdn pdc, .slice pss psn psc, .int .i64 nx', .int .i64 kd', .int .i64 id', .slice pp ppn ppc] := by rw [← hW2, ← s1]; exact RowC.new _ _ _
  have b1 : Below B w W1 := by rw [← hW1, ← hB]; exact below_new _ _
  have b2 : Below W1.heap.size W1 W2 := by rw [← hW2]; exact below_new _ _
  have bF : Below B w W2 := b1.trans (b2.mono (by omega))
  have HBF : Hid (∀ x : World, Below W2.heap.size W2 x → Below B w x) := fun x hx => bF.trans (hx.mono (by have := bF.size; omega))
  have KR : Hid (∀ z : World, Below W2.heap.size W2 z → (z.cell? ⟨B, 0, none⟩ = some (.slice qd qdn qdc) ∧ z.cell? ⟨B, 1, none⟩ = some (.slice qs qsn qsc) ∧ z.cell? ⟨B, 2, none⟩ = some (.int .i64 nx) ∧ z.cell? ⟨B, 3, none⟩ = some (.int .i64 kd) ∧ z.cell? ⟨B, 4, none⟩ = some (.int .i64 id) ∧ z.cell? ⟨B, 5, none⟩ = some (.slice qp qpn qpc)) ∧
      z.cell? ⟨B + 1, 0, none⟩ = some (.slice pd pdn pdc) ∧ z.cell? ⟨B + 1, 1, none⟩ = some (.slice pss psn psc) ∧ z.cell? ⟨B + 1, 2, none⟩ = some (.int .i64 nx') ∧ z.cell? ⟨B + 1, 3, none⟩ = some (.int .i64 kd') ∧ z.cell? ⟨B + 1, 4, none⟩ = some (.int .i64 id') ∧ z.cell? ⟨B + 1, 5, none⟩ = some (.slice pp ppn ppc)) := fun z hz =>
    have t := (r1.below b2).below hz
    have u := r2.below hz
    ⟨⟨t.cell 0 _ rfl, t.cell 1 _ rfl, t.cell 2 _ rfl, t.cell 3 _ rfl, t.cell 4 _ rfl, t.cell 5 _ rfl⟩, u.cell 0 _ rfl, u.cell 1 _ rfl, u.cell 2 _ rfl, u.cell 3 _ rfl, u.cell 4 _ rfl, u.cell 5 _ rfl⟩
  have HCI : Hid (∀ z : World, Below W2.heap.size W2 z → Calls Tryz.prog 46 #[.slice qd qdn qdc, .slice pd pdn pdc] z fun e w' => e = .returned (.bool (decide (d = d'))) ∧ Below z.heap.size z w') := fun z hz => eqk_ints (hd.below (by rw [hB]; exact HBF.out z hz)) (hd'.below (by rw [hB]; exact HBF.out z hz)) hn
  have HCS : Hid (∀ z : World, Below W2.heap.size W2 z → Calls Tryz.prog 47 #[.slice qs qsn qsc, .slice pss psn psc] z fun e w' => ∃ t : Bool, e = .returned (.bool t) ∧ (t = true ↔ l = l') ∧ Below z.heap.size z w') := fun z hz => eqk_snaps (h.sn.below (by rw [hB]; exact HBF.out z hz)) (h'.sn.below (by rw [hB]; exact HBF.out z hz)) hK
  have HCP : Hid (∀ z : World, Below W2.heap.size W2 z → Calls Tryz.prog 48 #[.slice qp qpn qpc, .slice pp ppn ppc] z fun e w' => e = .returned (.bool (decide (ps = ps'))) ∧ Below z.heap.size z w') := fun z hz => eqk_pairs (h.pr.below (by rw [hB]; exact HBF.out z hz)) (h'.pr.below (by rw [hB]; exact HBF.out z hz)) hp
  obtain ⟨t1, ht1⟩ : ∃ t, decide (d = d') = t := ⟨_, rfl⟩
  obtain ⟨t3, ht3⟩ : ∃ t, decide (ps = ps') = t := ⟨_, rfl⟩
  rw [ht1] at HCI
  rw [ht3] at HCP
  have E0 : Hid ((⟨d, l, nx, kd, id, ps⟩ : ST) = ⟨d', l', nx', kd', id', ps'⟩ ↔ t1 = true ∧ l = l' ∧ nx = nx' ∧ kd = kd' ∧ id = id' ∧ t3 = true) := by
    show _ ↔ _
    rw [st_iff, ← ht1, ← ht3, decide_eq_true_eq, decide_eq_true_eq]
  simp only [stV, stL, slV]
  clear hd hd' h h' hK hn hp r1 r2 b1 b2 bF ht1 ht3
  obtain ⟨⟨k0, k1, k2, k3, k4, k5⟩, j0, j1, j2, j3, j4, j5⟩ := KR.out W2 (Below.refl _ _)
  go_enter Tryz.func16, Tryz.ntmps16
  go_wp2_with fail
  refine (HCI.out W2 (Below.refl _ _)).mono ?_
  rintro e x1 ⟨rfl, hx1⟩
  have H1 := Lib.hid hx1
  clear hx1 k0 k1 k2 k3 k4 k5 j0 j1 j2 j3 j4 j5
  cases t1 with
  | false =>
    have HF := Lib.hid (HBF.out x1 H1.out)
    go_wp2_with fail
    go_ret
    exact ⟨false, rfl, by rw [E0.out]; simp, by rw [HSZ.out]; exact HF.out⟩
  | true =>
    obtain ⟨⟨k0, k1, k2, k3, k4, k5⟩, j0, j1, j2, j3, j4, j5⟩ := KR.out x1 H1.out
    go_wp2_with fail
    refine (HCS.out x1 H1.out).mono ?_
    rintro e x2 ⟨t2, rfl, ht2, hx2⟩
    have H2 : Hid (Below W2.heap.size W2 x2) := H1.out.trans (hx2.mono H1.out.size)
    have HT2 := Lib.hid ht2
    have HF := Lib.hid (HBF.out x2 H2.out)
    clear hx2 ht2 k0 k1 k2 k3 k4 k5 j0 j1 j2 j3 j4 j5
    cases t2 with
    | false =>
      have HN : Hid (¬ l = l') := fun h => by have := HT2.out.2 h; cases this
      go_wp2_with fail
      go_ret
      exact ⟨false, rfl, by rw [E0.out]; simp [HN.out], by rw [HSZ.out]; exact HF.out⟩
    | true =>
      have HL : Hid (l = l') := HT2.out.1 rfl
      obtain ⟨⟨k0, k1, k2, k3, k4, k5⟩, j0, j1, j2, j3, j4, j5⟩ := KR.out x2 H2.out
      by_cases e1 : nx = nx'
      · subst e1
        by_cases e2 : kd = kd'
        · subst e2
          by_cases e3 : id = id'
          · subst e3
            go_wp2_with fail
            refine (HCP.out x2 H2.out).mono ?_
            rintro e x3 ⟨rfl, hx3⟩
            have HF3 : Hid (Below B w x3) := HBF.out x3 (H2.out.trans (hx3.mono H2.out.size))
            clear hx3
            go_wp2_with fail
            go_ret
            exact ⟨t3, rfl, by rw [E0.out]; simp [HL.out], by rw [HSZ.out]; exact HF3.out⟩
          · have g : (id == id') = false := by simpa using e3
            have HN : Hid (¬ id = id') := e3
            clear e3
            go_wp2_with fail
            go_ret
            exact ⟨false, rfl, by rw [E0.out]; simp [HN.out], by rw [HSZ.out]; exact HF.out⟩
        · have g : (kd == kd') = false := by simpa using e2
          have HN : Hid (¬ kd = kd') := e2
          clear e2
          go_wp2_with fail
          go_ret
          exact ⟨false, rfl, by rw [E0.out]; simp [HN.out], by rw [HSZ.out]; exact HF.out⟩
      · have g : (nx == nx') = false := by simpa using e1
        have HN : Hid (¬ nx = nx') := e1
        clear e1
        go_wp2_with fail
        go_ret
        exact ⟨false, rfl, by rw [E0.out]; simp [HN.out], by rw [HSZ.out]; exact HF.out⟩
end Go.Proofs.YtfihpljgbghogaaGreat

/- What it means that a chain may be: plain facts. -/
namespace Go.Proofs.YtfihpljgbghogaaGreat
open Go.RowKit
set_option linter.unusedVariables false

theorem rise_iff (bl ar : Int) : ∀ (l : List SN) (last : Int), cRise bl ar last l = true ↔ (∀ s ∈ l, last < s.id ∧ s.id ≤ 1000000 ∧ fitS s bl ar = true) ∧ l.Pairwise (fun s t => s.id < t.id) ∧ (∀ s ∈ l.dropLast, fullS s = true)
  | [], last => by simp [cRise]
  | s :: l, last => by
    rw [cRise_cons]
    simp only [Bool.and_eq_true, decide_eq_true_eq, Bool.or_eq_true]
    rw [rise_iff bl ar l s.id, List.pairwise_cons]
    cases l with
    | nil => simp
    | cons t l =>
      rw [show (s :: t :: l).dropLast = s :: (t :: l).dropLast from rfl]
      constructor
      · rintro ⟨h1, h2, h3, h4, h5, h6, h7⟩
        refine ⟨fun u hu => ?_, ⟨fun u hu => (h5 u hu).1, h6⟩, fun u hu => ?_⟩
        · rcases List.mem_cons.1 hu with rfl | hu
          · exact ⟨h1, h2, h3⟩
          · have := h5 u hu; exact ⟨by omega, this.2⟩
        · rcases List.mem_cons.1 hu with rfl | hu
          · rcases h4 with h4 | h4
            · simp at h4
            · exact h4
          · exact h7 u hu
      · rintro ⟨h1, ⟨h2, h3⟩, h4⟩
        have h0 := h1 s (List.mem_cons_self ..)
        exact ⟨h0.1, h0.2.1, h0.2.2, .inr (h4 s (List.mem_cons_self ..)), fun u hu => ⟨h2 u hu, (h1 u (List.mem_cons_of_mem _ hu)).2⟩, h3, fun u hu => h4 u (List.mem_cons_of_mem _ hu)⟩
theorem good_iff (l : List SN) (bl ar : Int) : cGood l bl ar = true ↔ l.length ≤ 8 ∧ (∀ s ∈ l, 0 < s.id ∧ s.id ≤ 1000000 ∧ fitS s bl ar = true) ∧ l.Pairwise (fun s t => s.id < t.id) ∧ (∀ s ∈ l.dropLast, fullS s = true) ∧ (cAts l).Nodup := by
  unfold cGood
  rw [Bool.and_eq_true, Bool.and_eq_true, rise_iff, decide_eq_true_eq, decide_eq_true_eq]
  constructor
  · rintro ⟨h1, ⟨h2, h3, h4⟩, h5⟩; exact ⟨h1, h2, h3, h4, h5⟩
  · rintro ⟨h1, h2, h3, h4, h5⟩; exact ⟨h1, ⟨h2, h3, h4⟩, h5⟩
theorem fit_iff (s : SN) (bl ar : Int) : fitS s bl ar = true ↔ goodB s.ch bl = true ∧ tGood s.tb bl ar = true ∧ ∀ p ∈ s.tb, hasB s.ch p.1 = true := by
  unfold fitS
  rw [Bool.and_eq_true, Bool.and_eq_true, List.all_eq_true]
end Go.Proofs.YtfihpljgbghogaaGreat

/- States that may be: what they are worth; a state of its bytes, bytes of their state; no program is named. -/
namespace Go.Proofs.YtfihpljgbghogaaGreat
set_option linter.unusedVariables false

theorem index_some {l : List SN} {id : Int} : ∀ {k : Nat}, 0 ≤ firstId l id k → ∃ s ∈ l, s.id = id := by
  induction l with
  | nil => intro k h; exact absurd h (by unfold firstId; decide)
  | cons s l ih =>
    intro k h
    unfold firstId at h
    by_cases e : s.id = id
    · exact ⟨s, List.mem_cons_self .., e⟩
    · rw [if_neg e] at h
      obtain ⟨t, ht, e2⟩ := ih h
      exact ⟨t, List.mem_cons_of_mem _ ht, e2⟩
theorem held_iff {l : List SN} {a : Int} : sHeld l a = true ↔ ∃ s ∈ l, ∃ p ∈ s.tb, p.2 = a := by
  unfold sHeld cAts
  rw [List.contains_iff_mem, List.mem_flatten]
  constructor
  · rintro ⟨x, hx, ha⟩
    obtain ⟨s, hs, rfl⟩ := List.mem_map.1 hx
    obtain ⟨p, hp, e⟩ := List.mem_map.1 ha
    exact ⟨s, hs, p, hp, e⟩
  · rintro ⟨s, hs, p, hp, e⟩
    exact ⟨_, List.mem_map.2 ⟨s, hs, rfl⟩, List.mem_map.2 ⟨p, hp, e⟩⟩
theorem asc_of {pr : List (Int × Int)} (h : ∀ i, i < pr.length → i = 0 ∨ (pr[i - 1]?.getD (0, 0)).1 < (pr[i]?.getD (0, 0)).1) : Asc pr := by
  refine List.pairwise_iff_getElem.2 fun i j hi hj hij => ?_
  have key : ∀ n, ∀ (hi : i < pr.length) (hj : i + n + 1 < pr.length), pr[i].1 < pr[i + n + 1].1 := by
    intro n
    induction n with
    | zero =>
      intro hi hj
      rcases h (i + 1) hj with e | e
      · omega
      · rw [Nat.add_sub_cancel, List.getElem?_eq_getElem hi, List.getElem?_eq_getElem hj] at e
        exact e
    | succ n ih =>
      intro hi hj
      have h1 := ih hi (by omega)
      rcases h (i + (n + 1) + 1) hj with e | e
      · omega
      · rw [Nat.add_sub_cancel, List.getElem?_eq_getElem (by omega), List.getElem?_eq_getElem hj] at e
        have e2 : pr[i + (n + 1)].1 < pr[i + (n + 1) + 1].1 := e
        exact Int.lt_trans h1 e2
  have := key (j - i - 1) hi (by omega)
  have e : i + (j - i - 1) + 1 = j := by omega
  simp only [e] at this
  exact this
theorem tb_in {g : SG} (hg : g.Ok) {tb : List (Int × Int)} (h : tGood tb (g.b : Int) (g.a : Int) = true) : PrIn g tb := by
  obtain ⟨h1, h2, h3⟩ := (tGood_iff _ _ _).1 h
  have := hg.a200
  exact ⟨h2, fun p hp => ⟨(h1 p hp).1, (h1 p hp).2.1⟩, fun p hp => by have := h1 p hp; omega⟩
theorem sn_in {g : SG} (hg : g.Ok) {l : List SN} (h : cGood l (g.b : Int) (g.a : Int) = true) : l.length ≤ 8 ∧ ∀ t ∈ l, SnIn g t := by
  obtain ⟨h1, h2, -⟩ := (good_iff _ _ _).1 h
  refine ⟨h1, fun t ht => ?_⟩
  obtain ⟨a1, a2, a3⟩ := h2 t ht
  obtain ⟨b1, b2, b3⟩ := (fit_iff _ _ _).1 a3
  refine ⟨by omega, a2, ?_, tb_in hg b2⟩
  unfold goodB at b1
  rw [Bool.and_eq_true, decide_eq_true_eq] at b1
  exact b1.1
theorem pairs_in {g : SG} (hg : g.Ok) {kd : Int} {l : List SN} (hl : cGood l (g.b : Int) (g.a : Int) = true) {pr : List (Int × Int)} (h : sPairsOk g kd l pr = true) : PrIn g pr := by
  unfold sPairsOk at h
  rw [List.all_eq_true] at h
  have hi : ∀ i, i < pr.length → pairAt g kd l pr i = true := fun i hi => h i (List.mem_range.2 hi)
  have ha := hg.a200
  have hat : ∀ i (h : i < pr.length), pr[i]?.getD (0, 0) = pr[i] := fun i h => by rw [List.getElem?_eq_getElem h]; rfl
  refine ⟨asc_of fun i hlt => ?_, fun p hp => ?_, fun p hp => ?_⟩
  · have := hi i hlt
    unfold pairAt at this
    simp only [Bool.and_eq_true, Bool.or_eq_true, decide_eq_true_eq] at this
    exact this.1.2
  · obtain ⟨i, hlt, rfl⟩ := List.getElem_of_mem hp
    have := hi i hlt
    unfold pairAt at this
    simp only [Bool.and_eq_true, Bool.or_eq_true, decide_eq_true_eq, hat i hlt] at this
    exact this.1.1
  · obtain ⟨i, hlt, rfl⟩ := List.getElem_of_mem hp
    have := hi i hlt
    unfold pairAt at this
    rw [Bool.and_eq_true] at this
    have h2 := this.2
    rw [hat i hlt] at h2
    by_cases e : kd = 1
    · rw [if_pos e] at h2
      obtain ⟨s, hs, q, hq, e2⟩ := held_iff.1 h2
      have hq2 := ((sn_in hg hl).2 s hs).tb
      obtain ⟨-, k2, -⟩ := (good_iff _ _ _).1 hl
      obtain ⟨-, -, a3⟩ := k2 s hs
      obtain ⟨-, b2, -⟩ := (fit_iff _ _ _).1 a3
      obtain ⟨c1, -, -⟩ := (tGood_iff _ _ _).1 b2
      have := c1 q hq
      rw [← e2]
      omega
    · rw [if_neg e] at h2
      simp only [Bool.or_eq_true, Bool.and_eq_true, beq_iff_eq, decide_eq_true_eq] at h2
      rcases h2 with h2 | h2
      · omega
      · have := h2.1.1
        omega
/-- **What a state that may be is worth.** -/
theorem good_in {g : SG} (hg : g.Ok) {s : ST} (h : sGood g s = true) : StIn g s := by
  unfold sGood at h
  simp only [Bool.and_eq_true, decide_eq_true_eq] at h
  obtain ⟨⟨⟨⟨⟨h1, h2⟩, h3⟩, h4⟩, h5⟩, h6⟩ := h
  obtain ⟨l1, l2⟩ := sn_in hg h2
  have hd : s.d.length = g.slots := by
    unfold sDirty at h1
    rw [Bool.and_eq_true, decide_eq_true_eq] at h1
    exact h1.1
  have hp : (s.kd = 0 ∧ s.id = 0 ∧ s.pr = []) ∨ (s.kd = 1 ∧ 0 ≤ cIndex s.sn s.id ∧ PrIn g s.pr) ∨ (s.kd = 2 ∧ s.nx ≤ s.id ∧ s.id ≤ 1000000 ∧ PrIn g s.pr) := by
    unfold sPlan at h6
    by_cases k0 : s.kd = 0
    · rw [if_pos k0, Bool.and_eq_true, decide_eq_true_eq, beq_iff_eq] at h6
      exact .inl ⟨k0, h6.1, List.length_eq_zero_iff.1 h6.2⟩
    · rw [if_neg k0] at h6
      by_cases k1 : s.kd = 1
      · rw [if_pos k1, Bool.and_eq_true, decide_eq_true_eq] at h6
        exact .inr (.inl ⟨k1, h6.1, pairs_in hg h2 h6.2⟩)
      · rw [if_neg k1] at h6
        by_cases k2 : s.kd = 2
        · rw [if_pos k2] at h6
          simp only [Bool.and_eq_true, decide_eq_true_eq] at h6
          exact .inr (.inr ⟨k2, h6.1.1.1.1, h6.1.1.1.2, pairs_in hg h2 h6.2⟩)
        · rw [if_neg k2] at h6
          cases h6
  have hid : 0 ≤ s.id ∧ s.id ≤ 1000000 ∧ 0 ≤ s.kd ∧ PrIn g s.pr := by
    rcases hp with ⟨a, b, c⟩ | ⟨a, b, c⟩ | ⟨a, b, c, d⟩
    · exact ⟨by omega, by omega, by omega, by rw [c]; exact ⟨List.Pairwise.nil, (fun p hp => absurd hp List.not_mem_nil), (fun p hp => absurd hp List.not_mem_nil)⟩⟩
    · obtain ⟨t, ht, e⟩ := index_some b
      have := l2 t ht
      exact ⟨by rw [← e]; exact this.id0, by rw [← e]; exact this.id1, by omega, c⟩
    · exact ⟨by omega, c, by omega, d⟩
  exact ⟨hd, l1, l2, by omega, by omega, hid.2.2.1, hid.1, hid.2.1, hid.2.2.2⟩
/-- **Decode of Encode.** -/
theorem dec_enc {g : SG} (hg : g.Ok) {s : ST} (h : sGood g s = true) : sDec g (sEnc g s) = some s := by
  have hi := good_in hg h
  obtain ⟨e1, e2⟩ := parse_enc hi
  unfold sDec
  rw [e1, if_pos ⟨enc_len hi.dl (fun t ht => (hi.sn t ht).ch), by rw [e2]; have := hi.sl; omega, h, rfl⟩]
theorem dec_some {g : SG} {bs : List Int} {s : ST} (h : sDec g bs = some s) : sGood g s = true ∧ sEnc g s = bs := by
  unfold sDec at h
  split at h
  · rename_i c
    cases h
    exact ⟨c.2.2.1, c.2.2.2⟩
  · cases h
end Go.Proofs.YtfihpljgbghogaaGreat

/- Plain facts on a set that numbers are put in one by one. -/
namespace Go.Proofs.YtfihpljgbghogaaGreat
open Go.RowKit
set_option linter.unusedVariables false

theorem bi_zeros (n : Nat) : IsBytes (List.replicate n 0) := fun j => by
  by_cases h : j < n
  · simp [h]
  · simp [h]
theorem zeros_bit (n i : Nat) : bitAt (List.replicate n 0) i = false := by
  unfold bitAt
  by_cases h : i / 8 < n
  · simp [h]
  · simp [h]
end Go.Proofs.YtfihpljgbghogaaGreat

/- Plain facts: how the program tells whether a state may be; no program is named. -/
namespace Go.Proofs.YtfihpljgbghogaaGreat
open Go.RowKit
set_option linter.unusedVariables false

/-- Numbers put into a set one by one. -/
def addB (bs xs : List Int) : List Int := xs.foldl withB bs
theorem addB_snoc (bs xs : List Int) (x : Int) : addB bs (xs ++ [x]) = withB (addB bs xs) x := by unfold addB; rw [List.foldl_append]; rfl
theorem addB_len : ∀ (xs bs : List Int), (addB bs xs).length = bs.length
  | [], bs => rfl
  | x :: xs, bs => by
    show (addB (withB bs x) xs).length = _
    rw [addB_len xs, with_length]
theorem addB_bytes : ∀ (xs bs : List Int), IsBytes bs → IsBytes (addB bs xs)
  | [], bs, h => h
  | x :: xs, bs, h => addB_bytes xs (withB bs x) (with_bytes h x)
theorem with_has (bs : List Int) (i a : Int) : hasB (withB bs i) a = (hasB bs a || (decide (i = a) && decide (0 ≤ a ∧ a / 8 < bs.length))) := by
  unfold hasB
  rw [with_bit]
  rw [Bool.eq_iff_iff]
  simp only [Bool.and_eq_true, Bool.or_eq_true, decide_eq_true_eq, beq_iff_eq]
  constructor
  · rintro ⟨h0, h | ⟨h1, h2⟩⟩
    · exact .inl ⟨h0, h⟩
    · exact .inr ⟨by omega, by omega⟩
  · rintro (⟨h0, h⟩ | ⟨rfl, h1⟩)
    · exact ⟨h0, .inl h⟩
    · exact ⟨h1.1, .inr ⟨h1, rfl⟩⟩
theorem addB_has : ∀ (xs bs : List Int) (a : Int), hasB (addB bs xs) a = (hasB bs a || (xs.contains a && decide (0 ≤ a ∧ a / 8 < bs.length)))
  | [], bs, a => by simp [addB]
  | x :: xs, bs, a => by
    show hasB (addB (withB bs x) xs) a = _
    rw [addB_has xs, with_has, with_length, List.contains_cons]
    rw [Bool.eq_iff_iff]
    simp only [Bool.and_eq_true, Bool.or_eq_true, decide_eq_true_eq, beq_iff_eq]
    constructor
    · rintro ((h | ⟨rfl, h⟩) | ⟨h1, h2⟩)
      · exact .inl h
      · exact .inr ⟨.inl rfl, h⟩
      · exact .inr ⟨.inr h1, h2⟩
    · rintro (h | ⟨rfl | h1, h2⟩)
      · exact .inl (.inl h)
      · exact .inl (.inr ⟨rfl, h2⟩)
      · exact .inr ⟨h1, h2⟩
theorem has_zeros (n : Nat) (a : Int) : hasB (List.replicate n 0) a = false := by
  unfold hasB
  rw [zeros_bit, Bool.and_false]
theorem size_fit {n a : Int} (h1 : n ≤ 4096) (h2 : 0 ≤ a) (h3 : a < n) : a / 8 < (sizeB n : Int) := by
  unfold sizeB
  rw [if_neg (by omega)]
  omega

/-! The dirty slots -/
def seenK (g : SG) (d : List Int) (k : Nat) : List Int := addB (List.replicate g.n9 0) ((d.take k).filter fun x => !(x == -1))
theorem seen_zero (g : SG) (d : List Int) : seenK g d 0 = List.replicate g.n9 0 := by unfold seenK; simp [addB]
theorem seen_len (g : SG) (d : List Int) (k : Nat) : (seenK g d k).length = g.n9 := by unfold seenK; rw [addB_len, List.length_replicate]
theorem seen_bytes (g : SG) (d : List Int) (k : Nat) : IsBytes (seenK g d k) := addB_bytes _ _ (bi_zeros _)
theorem take_get0 {d : List Int} {k : Nat} (h : k < d.length) : d.take (k + 1) = d.take k ++ [d[k]?.getD 0] := by
  rw [List.take_add_one, List.getElem?_eq_getElem h]; rfl
theorem seen_skip (g : SG) {d : List Int} {k : Nat} (h : k < d.length) (hx : d[k]?.getD 0 = -1) : seenK g d (k + 1) = seenK g d k := by
  unfold seenK
  rw [take_get0 h, List.filter_append, hx]
  simp
theorem seen_put (g : SG) {d : List Int} {k : Nat} (h : k < d.length) (hx : d[k]?.getD 0 ≠ -1) : seenK g d (k + 1) = withB (seenK g d k) (d[k]?.getD 0) := by
  unfold seenK
  rw [take_get0 h, List.filter_append, ← addB_snoc]
  congr 1
  have : (!(d[k]?.getD 0 == -1)) = true := by simpa using hx
  rw [List.filter_cons, if_pos this, List.filter_nil]
theorem seen_has {g : SG} (hg : g.Ok) (d : List Int) (k : Nat) {x : Int} (h0 : 0 ≤ x) (h1 : x < (g.b : Int)) : hasB (seenK g d k) x = (d.take k).contains x := by
  unfold seenK
  have := hg.b64
  have hs : decide (0 ≤ x ∧ x / 8 < ((List.replicate g.n9 (0 : Int)).length : Int)) = true := by
    rw [decide_eq_true_eq, List.length_replicate]
    exact ⟨h0, size_fit (by omega) h0 h1⟩
  rw [addB_has, has_zeros, hs, Bool.false_or, Bool.and_true, Bool.eq_iff_iff, List.contains_iff_mem, List.contains_iff_mem, List.mem_filter]
  constructor
  · exact fun h => h.1
  · exact fun h => ⟨h, by simp; omega⟩
/-- The program's test of a slot. -/
theorem dirt_test {g : SG} (hg : g.Ok) {d : List Int} {k : Nat} {x : Int} (hx : d[k]?.getD 0 = x) (hm : x ≠ -1) :
    dirtAt g d k = (decide (0 ≤ x ∧ x ≤ (g.b : Int) - 1) && ((x % (g.s : Int) == (k : Int) / (g.y : Int)) && !(hasB (seenK g d k) x))) := by
  unfold dirtAt
  rw [hx]
  have e1 : (x == -1) = false := by simpa using hm
  rw [e1, Bool.false_or]
  by_cases h0 : 0 ≤ x ∧ x < (g.b : Int)
  · rw [seen_has hg d k h0.1 h0.2]
    have a1 : decide (0 ≤ x) = true := by simpa using h0.1
    have a2 : decide (x < (g.b : Int)) = true := by simpa using h0.2
    have a3 : decide (0 ≤ x ∧ x ≤ (g.b : Int) - 1) = true := by rw [decide_eq_true_eq]; omega
    rw [a1, a2, a3, Bool.true_and, Bool.true_and, Bool.true_and]
  · have a3 : decide (0 ≤ x ∧ x ≤ (g.b : Int) - 1) = false := by rw [decide_eq_false_iff_not]; omega
    have a4 : (decide (0 ≤ x) && decide (x < (g.b : Int))) = false := by
      rw [Bool.eq_false_iff, ne_eq, Bool.and_eq_true, decide_eq_true_eq, decide_eq_true_eq]
      exact h0
    rw [a3, a4]
    simp

/-! Pairs -/
def riseAt (b : Nat) (pr : List (Int × Int)) (i : Nat) : Bool := decide (0 ≤ (pr[i]?.getD (0, 0)).1) && decide ((pr[i]?.getD (0, 0)).1 < (b : Int)) && (decide (i = 0) || decide ((pr[i - 1]?.getD (0, 0)).1 < (pr[i]?.getD (0, 0)).1))
def gRise (b : Nat) (pr : List (Int × Int)) : Bool := (List.range pr.length).all (riseAt b pr)
def leastK (pr : List (Int × Int)) (k : Nat) : Int := if k = 0 then 0 else (pr[k - 1]?.getD (0, 0)).1 + 1
theorem least_succ {pr : List (Int × Int)} {k : Nat} {p : Int × Int} (h : pr[k]? = some p) : leastK pr (k + 1) = p.1 + 1 := by
  unfold leastK
  rw [if_neg (by omega), Nat.add_sub_cancel, h]; rfl
theorem rise_test {b : Nat} {pr : List (Int × Int)} {k : Nat} {p : Int × Int} (h : pr[k]? = some p) (hr : ∀ i, i < k → riseAt b pr i = true) :
    riseAt b pr k = decide (leastK pr k ≤ p.1 ∧ p.1 ≤ (b : Int) - 1) := by
  unfold riseAt leastK
  rw [h]
  simp only [Option.getD_some]
  cases k with
  | zero =>
    simp
    rw [Bool.eq_iff_iff]
    simp only [Bool.and_eq_true, decide_eq_true_eq]
    omega
  | succ k =>
    have h1 := hr k (Nat.lt_succ_self _)
    unfold riseAt at h1
    simp only [Bool.and_eq_true, decide_eq_true_eq] at h1
    rw [if_neg (by omega), Nat.add_sub_cancel]
    rw [Bool.eq_iff_iff]
    simp only [Bool.and_eq_true, Bool.or_eq_true, decide_eq_true_eq]
    omega
theorem rise_no {b : Nat} {pr : List (Int × Int)} {k : Nat} (hk : k < pr.length) (h : riseAt b pr k = false) : gRise b pr = false := by
  unfold gRise
  rw [List.all_eq_false]
  exact ⟨k, List.mem_range.2 hk, by rw [h]; decide⟩
theorem rise_yes {b : Nat} {pr : List (Int × Int)} (h : ∀ k, k < pr.length → riseAt b pr k = true) : gRise b pr = true := by
  unfold gRise
  rw [List.all_eq_true]
  exact fun k hk => h k (List.mem_range.1 hk)
/-- What is held, as a set. -/
def heldS (g : SG) (l : List SN) : List Int := addB (List.replicate (sizeB (g.a : Int)) 0) (cAts l)
theorem heldS_len (g : SG) (l : List SN) : (heldS g l).length = sizeB (g.a : Int) := by unfold heldS; rw [addB_len, List.length_replicate]
theorem heldS_bytes (g : SG) (l : List SN) : IsBytes (heldS g l) := addB_bytes _ _ (bi_zeros _)
theorem held_has {g : SG} (hg : g.Ok) {l : List SN} (hl : cGood l (g.b : Int) (g.a : Int) = true) (x : Int) : hasB (heldS g l) x = sHeld l x := by
  unfold heldS
  rw [addB_has, has_zeros, Bool.false_or, List.length_replicate]
  show _ = (cAts l).contains x
  cases h : (cAts l).contains x with
  | false => rfl
  | true =>
    have h2 : sHeld l x = true := h
    obtain ⟨s, hs, p, hp, e⟩ := held_iff.1 h2
    obtain ⟨-, k2, -⟩ := (good_iff _ _ _).1 hl
    obtain ⟨-, -, a3⟩ := k2 s hs
    obtain ⟨-, b2, -⟩ := (fit_iff _ _ _).1 a3
    obtain ⟨c1, -, -⟩ := (tGood_iff _ _ _).1 b2
    have := c1 p hp
    have ha := hg.a200
    rw [Bool.true_and, decide_eq_true_eq]
    exact ⟨by omega, size_fit (by omega) (by omega) (by omega)⟩
def gHeld (set : List Int) (pr : List (Int × Int)) : Bool := pr.all fun p => hasB set p.2
/-- Places taken so far. -/
def apSeen (set : List Int) (pr : List (Int × Int)) (k : Nat) : List Int := addB set (((pr.take k).map (·.2)).filter fun x => !(x == 255))
theorem apS_zero (set : List Int) (pr : List (Int × Int)) : apSeen set pr 0 = set := by unfold apSeen; simp [addB]
theorem apS_len (set : List Int) (pr : List (Int × Int)) (k : Nat) : (apSeen set pr k).length = set.length := by unfold apSeen; rw [addB_len]
theorem apS_bytes {set : List Int} (h : IsBytes set) (pr : List (Int × Int)) (k : Nat) : IsBytes (apSeen set pr k) := addB_bytes _ _ h
theorem apS_skip (set : List Int) {pr : List (Int × Int)} {k : Nat} {p : Int × Int} (h : pr[k]? = some p) (hx : p.2 = 255) : apSeen set pr (k + 1) = apSeen set pr k := by
  unfold apSeen
  rw [take_at h, List.map_append, List.filter_append]
  simp [hx]
theorem apS_put (set : List Int) {pr : List (Int × Int)} {k : Nat} {p : Int × Int} (h : pr[k]? = some p) (hx : p.2 ≠ 255) : apSeen set pr (k + 1) = withB (apSeen set pr k) p.2 := by
  unfold apSeen
  rw [take_at h, List.map_append, List.filter_append, ← addB_snoc]
  congr 1
  have : (!(p.2 == 255)) = true := by simpa using hx
  rw [List.map_cons, List.map_nil, List.filter_cons, if_pos this, List.filter_nil]
def apB (g : SG) (set : List Int) (pr : List (Int × Int)) (i : Nat) : Bool := ((pr[i]?.getD (0, 0)).2 == 255) || (decide (0 ≤ (pr[i]?.getD (0, 0)).2 ∧ (pr[i]?.getD (0, 0)).2 ≤ (g.a : Int) - 1) && !(hasB (apSeen set pr i) (pr[i]?.getD (0, 0)).2))
def gApart (g : SG) (set : List Int) (pr : List (Int × Int)) : Bool := (List.range pr.length).all (apB g set pr)
theorem apart_no {g : SG} {set : List Int} {pr : List (Int × Int)} {k : Nat} (hk : k < pr.length) (h : apB g set pr k = false) : gApart g set pr = false := by
  unfold gApart
  rw [List.all_eq_false]
  exact ⟨k, List.mem_range.2 hk, by rw [h]; decide⟩
theorem apart_yes {g : SG} {set : List Int} {pr : List (Int × Int)} (h : ∀ k, k < pr.length → apB g set pr k = true) : gApart g set pr = true := by
  unfold gApart
  rw [List.all_eq_true]
  exact fun k hk => h k (List.mem_range.1 hk)
theorem apB_is {g : SG} {set : List Int} {pr : List (Int × Int)} {k : Nat} {p : Int × Int} (h : pr[k]? = some p) : apB g set pr k = ((p.2 == 255) || (decide (0 ≤ p.2 ∧ p.2 ≤ (g.a : Int) - 1) && !(hasB (apSeen set pr k) p.2))) := by
  unfold apB
  rw [h]; rfl
/-- Is each block of the last one's Changed in its Table? As the program counts. -/
def gFull (l : List SN) : Bool := match l.getLast? with
  | none => true
  | some s => fullS s
theorem full_whole {l : List SN} {bl ar : Int} (h : cGood l bl ar = true) : gFull l = sWhole l := by
  unfold gFull sWhole
  cases e : l.getLast? with
  | none => rfl
  | some s =>
    obtain ⟨-, k2, -⟩ := (good_iff _ _ _).1 h
    obtain ⟨-, -, a3⟩ := k2 s (List.mem_of_getLast? e)
    obtain ⟨b1, b2, b3⟩ := (fit_iff _ _ _).1 a3
    show fullS s = _
    rw [full_iff b2 b3]
    unfold rF
    congr 1
    funext c
    unfold tFind
    rw [List.findIdx?_isSome]
def gPlan (g : SG) (s : ST) : Bool :=
  if s.kd = 0 then (s.id == 0) && decide (s.pr.length = 0)
  else if s.kd = 1 then decide (0 ≤ cIndex s.sn s.id) && (gRise g.b s.pr && gHeld (heldS g s.sn) s.pr)
  else if s.kd = 2 then decide (s.sn.length < 8) && (gFull s.sn && (decide (s.nx ≤ s.id ∧ s.id ≤ 1000000) && (gRise g.b s.pr && gApart g (heldS g s.sn) s.pr)))
  else false
theorem pairs_split {g : SG} (hg : g.Ok) {l : List SN} (hl : cGood l (g.b : Int) (g.a : Int) = true) (kd : Int) (pr : List (Int × Int)) :
    sPairsOk g kd l pr = (gRise g.b pr && (if kd = 1 then gHeld (heldS g l) pr else gApart g (heldS g l) pr)) := by
  rw [Bool.eq_iff_iff]
  unfold sPairsOk gRise
  simp only [Bool.and_eq_true, List.all_eq_true, List.mem_range]
  have hp : ∀ i, pairAt g kd l pr i = (riseAt g.b pr i && (if kd = 1 then sHeld l (pr[i]?.getD (0, 0)).2 else ((pr[i]?.getD (0, 0)).2 == 255) || (decide (0 ≤ (pr[i]?.getD (0, 0)).2) && decide ((pr[i]?.getD (0, 0)).2 < (g.a : Int)) && !(sHeld l (pr[i]?.getD (0, 0)).2) && !((pr.take i).any fun p => p.2 == (pr[i]?.getD (0, 0)).2)))) := fun i => rfl
  have hsplit : (∀ i, i < pr.length → pairAt g kd l pr i = true) ↔ (∀ i, i < pr.length → riseAt g.b pr i = true) ∧ (∀ i, i < pr.length → (if kd = 1 then sHeld l (pr[i]?.getD (0, 0)).2 else ((pr[i]?.getD (0, 0)).2 == 255) || (decide (0 ≤ (pr[i]?.getD (0, 0)).2) && decide ((pr[i]?.getD (0, 0)).2 < (g.a : Int)) && !(sHeld l (pr[i]?.getD (0, 0)).2) && !((pr.take i).any fun p => p.2 == (pr[i]?.getD (0, 0)).2))) = true) := by
    constructor
    · intro h
      exact ⟨fun i hi => by have := h i hi; rw [hp, Bool.and_eq_true] at this; exact this.1, fun i hi => by have := h i hi; rw [hp, Bool.and_eq_true] at this; exact this.2⟩
    · intro h i hi
      rw [hp, Bool.and_eq_true]
      exact ⟨h.1 i hi, h.2 i hi⟩
  rw [hsplit]
  refine and_congr_right fun _ => ?_
  by_cases k1 : kd = 1
  · simp only [if_pos k1]
    unfold gHeld
    rw [List.all_eq_true]
    constructor
    · intro h p hp
      obtain ⟨i, hi⟩ := List.getElem?_of_mem hp
      have := h i (List.getElem?_eq_some_iff.1 hi).1
      rw [hi] at this
      rw [held_has hg hl]
      exact this
    · intro h i hi
      have := h pr[i] (List.getElem_mem hi)
      rw [held_has hg hl] at this
      rw [List.getElem?_eq_getElem hi]
      exact this
  · simp only [if_neg k1]
    unfold gApart
    rw [List.all_eq_true]
    have key : ∀ i, i < pr.length → apB g (heldS g l) pr i = (((pr[i]?.getD (0, 0)).2 == 255) || (decide (0 ≤ (pr[i]?.getD (0, 0)).2) && decide ((pr[i]?.getD (0, 0)).2 < (g.a : Int)) && !(sHeld l (pr[i]?.getD (0, 0)).2) && !((pr.take i).any fun p => p.2 == (pr[i]?.getD (0, 0)).2))) := by
      intro i hi
      unfold apB
      obtain ⟨b, hb⟩ : ∃ b, (pr[i]?.getD (0, 0)).2 = b := ⟨_, rfl⟩
      rw [hb]
      by_cases h5 : b = 255
      · rw [h5]; rfl
      · have e5 : (b == 255) = false := by simpa using h5
        rw [e5, Bool.false_or, Bool.false_or]
        by_cases hr : 0 ≤ b ∧ b < (g.a : Int)
        · have a1 : decide (0 ≤ b ∧ b ≤ (g.a : Int) - 1) = true := by rw [decide_eq_true_eq]; omega
          have a2 : decide (0 ≤ b) = true := by simpa using hr.1
          have a3 : decide (b < (g.a : Int)) = true := by simpa using hr.2
          have ha := hg.a200
          rw [a1, a2, a3, Bool.true_and, Bool.true_and, Bool.true_and]
          unfold apSeen
          rw [addB_has, held_has hg hl, Bool.not_or]
          congr 2
          have a4 : decide (0 ≤ b ∧ b / 8 < ((heldS g l).length : Int)) = true := by
            rw [decide_eq_true_eq, heldS_len]
            exact ⟨hr.1, size_fit (by omega) hr.1 hr.2⟩
          rw [a4, Bool.and_true, Bool.eq_iff_iff, List.contains_iff_mem, List.mem_filter, List.mem_map, List.any_eq_true]
          constructor
          · rintro ⟨⟨p, hp, e⟩, -⟩
            exact ⟨p, hp, by simpa using e⟩
          · rintro ⟨p, hp, e⟩
            exact ⟨⟨p, hp, by simpa using e⟩, by simpa using h5⟩
        · have a1 : decide (0 ≤ b ∧ b ≤ (g.a : Int) - 1) = false := by rw [decide_eq_false_iff_not]; omega
          have a4 : (decide (0 ≤ b) && decide (b < (g.a : Int))) = false := by
            rw [Bool.eq_false_iff, ne_eq, Bool.and_eq_true, decide_eq_true_eq, decide_eq_true_eq]
            exact hr
          rw [a1, a4]
          simp
    constructor
    · intro h i hi
      have hi := List.mem_range.1 hi
      rw [key i hi]
      exact h i hi
    · intro h i hi
      rw [← key i hi]
      exact h i (List.mem_range.2 hi)
/-- **The program's plan is the document's**, where the snapshots may be. -/
theorem plan_is {g : SG} (hg : g.Ok) {s : ST} (hl : cGood s.sn (g.b : Int) (g.a : Int) = true) : gPlan g s = sPlan g s := by
  unfold gPlan sPlan
  by_cases k0 : s.kd = 0
  · rw [if_pos k0, if_pos k0]
  · rw [if_neg k0, if_neg k0]
    by_cases k1 : s.kd = 1
    · rw [if_pos k1, if_pos k1, pairs_split hg hl, if_pos k1]
    · rw [if_neg k1, if_neg k1]
      by_cases k2 : s.kd = 2
      · rw [if_pos k2, if_pos k2, pairs_split hg hl, if_neg k1, full_whole hl]
        rw [Bool.eq_iff_iff]
        simp only [Bool.and_eq_true, decide_eq_true_eq]
        constructor
        · rintro ⟨a, b, ⟨c, c'⟩, d⟩; exact ⟨⟨⟨⟨c, c'⟩, a⟩, b⟩, d⟩
        · rintro ⟨⟨⟨⟨c, c'⟩, a⟩, b⟩, d⟩; exact ⟨a, b, ⟨c, c'⟩, d⟩
      · rw [if_neg k2, if_neg k2]
end Go.Proofs.YtfihpljgbghogaaGreat

/- The program's state: within, the slots, a byte for a place, the dirty slots. -/
namespace Go.Proofs.YtfihpljgbghogaaGreat
open Go.RowKit Go.Shelf Go.Lib
set_option linter.unusedVariables false
set_option linter.unusedSimpArgs false
theorem sizeB_le64 {g : SG} (hg : g.Ok) : sizeB (g.b : Int) ≤ 8 := by
  have := hg.b1
  have := hg.b64
  unfold sizeB
  rw [if_neg (by omega)]
  omega
section
set_option maxRecDepth 100000
set_option maxHeartbeats 4000000
set_option maxRecDepth 100000 in
theorem sg_within (n lo hi : Int) (w : World) : Calls Tryz.prog 74 #[.int .i64 n, .int .i64 lo, .int .i64 hi] w fun e w' => e = .returned (.bool (decide (lo ≤ n ∧ n ≤ hi))) ∧ w' = w := by
  obtain ⟨z, hz⟩ : ∃ z, decide (lo ≤ n ∧ n ≤ hi) = z := ⟨_, rfl⟩
  by_cases h1 : lo ≤ n
  · have g1 : decide (lo ≤ n) = true := by simpa using h1
    have g1' : decide (n ≥ lo) = true := g1
    have g2 : decide (n ≤ hi) = z := by rw [← hz]; simp [h1]
    rw [hz]
    clear hz
    go_enter Tryz.func74, Tryz.ntmps74
    go_wp2_with fail
    go_ret
    first | exact ⟨rfl, rfl⟩ | exact ⟨by rw [← g2], rfl⟩ | exact ⟨by rw [g2], rfl⟩
  · have g1 : decide (lo ≤ n) = false := by simpa using h1
    have g1' : decide (n ≥ lo) = false := g1
    have hzz : z = false := by rw [← hz]; simp [h1]
    rw [hz, hzz]
    clear hz hzz
    go_enter Tryz.func74, Tryz.ntmps74
    go_wp2_with fail
    go_ret
    exact ⟨rfl, rfl⟩
set_option maxRecDepth 100000 in
theorem sg_code (n : Int) (h0 : -1 ≤ n) (h1 : n ≤ 255) (h2 : n ≠ 254) (w : World) : Calls Tryz.prog 24 #[.int .i64 n] w fun e w' => e = .returned (.int .u8 (plV n)) ∧ w' = w := by
  obtain ⟨z, hz⟩ : ∃ z, plV n = z := ⟨_, rfl⟩
  rw [hz]
  by_cases h : n = 255
  · subst h
    have : z = 255 := by rw [← hz]; rfl
    subst this
    clear hz
    go_enter Tryz.func24, Tryz.ntmps24
    go_wp2_with fail
    go_ret
    exact ⟨rfl, rfl⟩
  · have e1 : (n == 255) = false := by simpa using h
    have e2 : z = n + 1 := by rw [← hz]; unfold plV; rw [if_neg h]
    have e3 : 0 ≤ n + 1 := by omega
    have e4 : n + 1 < 256 := by omega
    have HZ := Lib.hid e2
    clear hz e2 h
    go_enter Tryz.func24, Tryz.ntmps24
    go_wp2_with fail
    go_ret
    rw [HZ.out]
    exact ⟨by first | rfl | (congr 2; omega), rfl⟩
set_option maxRecDepth 100000 in
theorem sg_meant (c : Nat) (h1 : c < 256) (w : World) : Calls Tryz.prog 66 #[.int .u8 (c : Int)] w fun e w' => e = .returned (.int .i64 (plA (c : Int))) ∧ w' = w := by
  obtain ⟨z, hz⟩ : ∃ z, plA (c : Int) = z := ⟨_, rfl⟩
  rw [hz]
  by_cases h : c = 255
  · subst h
    have : z = 255 := by rw [← hz]; rfl
    subst this
    clear hz
    go_enter Tryz.func66, Tryz.ntmps66
    go_wp2_with fail
    go_ret
    exact ⟨rfl, rfl⟩
  · have e1 : ((c : Int) == 255) = false := by simp; omega
    have e2 : z = (c : Int) - 1 := by rw [← hz]; unfold plA; rw [if_neg (by omega)]
    have HZ := Lib.hid e2
    clear hz e2 h
    go_enter Tryz.func66, Tryz.ntmps66
    go_wp2_with fail
    go_ret
    rw [HZ.out]
    exact ⟨rfl, rfl⟩
set_option maxRecDepth 100000 in
theorem sg_slots (g : SG) (hg : g.Ok) (r : Int) (w : World) : Calls Tryz.prog 38 #[.agg (g.v r)] w fun e w' => e = .returned (.int .i64 (g.slots : Int)) ∧ Below w.heap.size w w' := by
  obtain ⟨W, hW⟩ : ∃ W, w.alloc (.cells (g.v r) 23) = W := ⟨_, rfl⟩
  have hr : RowC W w.heap.size 23 [.int .i64 (g.b : Int), .int .i64 (g.s : Int), .int .i64 (g.y : Int), .int .i64 (g.a : Int), .int .i64 r] := by rw [← hW]; exact RowC.new w _ _
  have HB : Hid (Below w.heap.size w W) := by show Below _ _ _; rw [← hW]; exact below_new w _
  have c1 := hr.cell 1 _ rfl
  have c2 := hr.cell 2 _ rfl
  have h4 := hg.s8
  have h6 := hg.y4
  obtain ⟨z, hz⟩ : ∃ z, g.s * g.y = z := ⟨_, rfl⟩
  have hzi : (g.s : Int) * (g.y : Int) = (z : Int) := by rw [← hz]; simp
  have hz32 : z ≤ 32 := by rw [← hz]; exact Nat.le_trans (Nat.mul_le_mul h4 h6) (by decide)
  have HZ : Hid (g.slots = z) := hz
  rw [HZ.out]
  clear hr hz
  unfold SG.v at *
  go_enter Tryz.func38, Tryz.ntmps38
  go_wp2_with fail
  go_ret
  exact ⟨rfl, HB.out⟩
end
set_option maxRecDepth 100000 in
set_option maxHeartbeats 4000000 in
/-- **goodDirty**. -/
theorem sg_dirty {w : World} {v : Value} {d : List Int} (g : SG) (hg : g.Ok) (r : Int) (hv : Sl .i64 w v d) (hd : ∀ x ∈ d, Is64 x) :
    Calls Tryz.prog 39 #[.agg (g.v r), v] w fun e w' => e = .returned (.bool (sDirty g d)) ∧ Below w.heap.size w w' := by
  obtain ⟨a, c, rfl, -⟩ := id hv
  obtain ⟨hn, hm, hcell⟩ := hv.cellI
  obtain ⟨n, hnn⟩ : ∃ n, d.length = n := ⟨_, rfl⟩
  rw [hnn] at hn hm hcell ⊢
  clear hn hv
  obtain ⟨B, hB⟩ : ∃ B, w.heap.size = B := ⟨_, rfl⟩
  obtain ⟨W, hW⟩ : ∃ W, w.alloc (.cells (g.v r) 23) = W := ⟨_, rfl⟩
  have hrow : RowC W B 23 [.int .i64 (g.b : Int), .int .i64 (g.s : Int), .int .i64 (g.y : Int), .int .i64 (g.a : Int), .int .i64 r] := by rw [← hW, ← hB]; exact RowC.new _ _ _
  have HB : Hid (Below B w W) := by show Below B w W; rw [← hW, ← hB]; exact below_new _ _
  have HSZ := Lib.hid hB
  have KG : Hid (∀ x : World, Below W.heap.size W x → x.cell? ⟨B, 0, none⟩ = some (.int .i64 (g.b : Int)) ∧ x.cell? ⟨B, 1, none⟩ = some (.int .i64 (g.s : Int)) ∧ x.cell? ⟨B, 2, none⟩ = some (.int .i64 (g.y : Int))) := fun x hx =>
    ⟨(hrow.below hx).cell 0 _ rfl, (hrow.below hx).cell 1 _ rfl, (hrow.below hx).cell 2 _ rfl⟩
  have c3 := hrow.cell 3 _ rfl
  have c4 := hrow.cell 4 _ rfl
  have KD : Hid (0 < n → ∃ b o, a = some ⟨b, o, none⟩ ∧ ∀ x : World, Below W.heap.size W x → ∀ j, j < n → x.cell? ⟨b, o + j, none⟩ = some (.int .i64 (d[j]?.getD 0))) := fun h0 => by
    obtain ⟨b, o, e1, e2⟩ := hcell h0
    exact ⟨b, o, e1, fun x hx j hj => e2 x (by have h1 := HB.out; have h2 := HSZ.out; rw [h2]; exact h1.trans (hx.mono (by have := h1.size; omega))) j hj⟩
  have h1 := hg.b1
  have h2 := hg.b64
  have h3 := hg.s1
  have h4 := hg.s8
  have h5 := hg.y1
  have h6 := hg.y4
  have HNN := Lib.hid hnn
  have HM : Hid (n ≤ maxLen) := hm
  obtain ⟨z, hz⟩ : ∃ z, g.slots = z := ⟨_, rfl⟩
  have hz32 : z ≤ 32 := by rw [← hz]; exact Nat.le_trans (Nat.mul_le_mul h4 h6) (by decide)
  have HZ := Lib.hid hz
  have HSC := Lib.hid (sg_slots g hg r W)
  have HNW : Hid (∀ x : World, Calls Tryz.prog 25 #[.int .i64 (g.b : Int)] x fun e w' => ∃ v, e = .returned v ∧ Sl .u8 w' v (List.replicate g.n9 0) ∧ Below x.heap.size x w') := fun x => bi_new (g.b : Int) x
  rw [hz] at HSC
  obtain ⟨c0, c1, c2⟩ := KG.out W (Below.refl _ _)
  have HWB : Hid (B ≤ W.heap.size) := by show B ≤ W.heap.size; have := HB.out.size; have := HSZ.out; omega
  have HDI : Hid (∀ x ∈ d, Is64 x) := hd
  clear hrow hcell hnn hm hz hd
  by_cases hlen : n = z
  · subst hlen
    have g0 : ((n : Int) == (n : Int)) = true := by simp
    have g00 : ((n : Int) != (n : Int)) = false := by simp
    unfold SG.v at *
    go_enter Tryz.func39, Tryz.ntmps39
    go_wp2_with fail
    refine HSC.out.mono ?_
    rintro e x1 ⟨rfl, hx1⟩
    have H1 : Hid (Below W.heap.size W x1) := hx1
    clear hx1 c0 c1 c2 c3 c4 HSC
    obtain ⟨c0, -, -⟩ := KG.out x1 H1.out
    go_wp2_with fail
    refine (HNW.out x1).mono ?_
    rintro e x2 ⟨v0, rfl, hv0, hx2⟩
    have HV0 := Lib.hid hv0
    have H2 : Hid (Below W.heap.size W x2) := H1.out.trans (hx2.mono H1.out.size)
    clear hv0 hx2 c0 H1 HNW
    go_wp2_with fail
    have HLen : Hid (d.length = g.slots) := by show _ = _; rw [HNN.out, HZ.out]
    go_loopw [5, 18] (fun sv iv wr => ∃ k : Nat, k ≤ n ∧ iv = .int .i64 (k : Int) ∧ Hid (Sl .u8 wr sv (seenK g d k)) ∧ Hid (Below W.heap.size W wr) ∧ Hid (∀ j, j < k → dirtAt g d j = true)) (fun _ iv _ => n - (intOf iv).toNat)
    case atStart => exact ⟨0, Nat.zero_le _, rfl, by rw [seen_zero]; exact HV0, H2, fun j hj => absurd hj (Nat.not_lt_zero _)⟩
    case round =>
      obtain ⟨k, hk, rfl, HSV, HBw, HP⟩ := hrel
      by_cases hlt : k < n
      · have q1 : (k : Int) < (n : Int) := by omega
        have HLT := Lib.hid hlt
        obtain ⟨ba, oa, rfl, HC⟩ := KD.out (by omega)
        have d0 := HC _ HBw.out k hlt
        obtain ⟨x, hx⟩ : ∃ x, d[k]?.getD 0 = x := ⟨_, rfl⟩
        rw [hx] at d0
        have hxm : Is64 x := by
          rw [← hx]
          exact HDI.out _ (by rw [List.getElem?_eq_getElem (show k < d.length by rw [HNN.out]; exact hlt)]; exact List.getElem_mem _)
        have HX := Lib.hid hx
        have HX6 := Lib.hid hxm
        have hkd : Hid (k < d.length) := by show k < _; rw [HNN.out]; exact hlt
        clear hx hxm
        by_cases hm1 : x = -1
        · have q2 : (x == -1) = true := by simpa using hm1
          have HY : Hid (dirtAt g d k = true) := by show _ = _; unfold dirtAt; rw [HX.out, q2]; rfl
          have HS2 : Hid (Sl .u8 wr u5 (seenK g d (k + 1))) := by show Sl _ _ _ _; rw [seen_skip g hkd.out (by rw [HX.out]; exact hm1)]; exact HSV.out
          clear hm1 hlt HSV
          go_wp2_with fail
          exact ⟨⟨k + 1, HLT.out, by simp, HS2, HBw, fun j hj => by
            by_cases e : j = k
            · subst e; exact HY.out
            · exact HP.out j (by omega)⟩, by have := HLT.out; simp [intOf]; omega⟩
        · have q2 : (x == -1) = false := by simpa using hm1
          have e0 : ∀ y : Ext wr, y.1.cell? ⟨B, 0, none⟩ = some (.int .i64 (g.b : Int)) := fun y => (KG.out _ (HBw.out.trans (y.2.mono HBw.out.size))).1
          have e1 : ∀ y : Ext wr, y.1.cell? ⟨B, 1, none⟩ = some (.int .i64 (g.s : Int)) := fun y => (KG.out _ (HBw.out.trans (y.2.mono HBw.out.size))).2.1
          have e2 : ∀ y : Ext wr, y.1.cell? ⟨B, 2, none⟩ = some (.int .i64 (g.y : Int)) := fun y => (KG.out _ (HBw.out.trans (y.2.mono HBw.out.size))).2.2
          have HDT := Lib.hid (dirt_test hg HX.out hm1)
          obtain ⟨tv, htv⟩ : ∃ tv, decide (0 ≤ x ∧ x ≤ (g.b : Int) - 1) = tv := ⟨_, rfl⟩
          obtain ⟨hv, hhv⟩ : ∃ hv, hasB (seenK g d k) x = hv := ⟨_, rfl⟩
          have HWI : Hid (∀ y : Ext wr, Calls Tryz.prog 74 #[.int .i64 x, .int .i64 0, .int .i64 ((g.b : Int) - 1)] y.1 fun e w'' => e = .returned (.bool tv) ∧ ∃ z : Ext wr, w'' = z.1) := fun y => (sg_within x 0 ((g.b : Int) - 1) y.1).mono fun e w' h => ⟨by rw [h.1, htv], y, h.2⟩
          have HHS : Hid (∀ y : Ext wr, Calls Tryz.prog 75 #[u5, .int .i64 x] y.1 fun e w'' => e = .returned (.bool hv) ∧ ∃ z : Ext wr, w'' = z.1) := fun y => calls_ext y (by rw [← hhv]; exact bi_has _ _ x (wf_i64 HX6.out.1 HX6.out.2) y.1 (HSV.out.below y.2) (seen_bytes g d k))
          rw [htv, hhv] at HDT
          cases tv with
          | false =>
            have HY : Hid (sDirty g d = false) := dirt_no (k := k) hkd.out (by rw [HDT.out]; rfl)
            clear hm1 hlt htv hhv
            go_wp2_with fail
            refine region_ext (by kernel_rfl) (by kernel_rfl) ?_
            repeat (go_big_quiet_step (with_reducible (first | exact HWI.out _ | exact HHS.out _)))
            try (with_reducible refine wpQuiet_nil ?_)
            intro y
            have HYB : Hid (Below W.heap.size W y.1) := HBw.out.trans (y.2.mono HBw.out.size)
            go_wp2_with fail
            go_ret
            rw [HY.out]
            exact ⟨rfl, by rw [HSZ.out]; exact HB.out.trans (HYB.out.mono HWB.out)⟩
          | true =>
            have hxr : 0 ≤ x ∧ x ≤ (g.b : Int) - 1 := of_decide_eq_true htv
            obtain ⟨xn, rfl⟩ : ∃ xn : Nat, x = (xn : Int) := ⟨x.toNat, by omega⟩
            obtain ⟨rm, hrm⟩ : ∃ rm, xn % g.s = rm := ⟨_, rfl⟩
            obtain ⟨qt, hqt⟩ : ∃ qt, k / g.y = qt := ⟨_, rfl⟩
            have hrmi : (xn : Int) % (g.s : Int) = (rm : Int) := by rw [← hrm]; simp
            have hqti : (k : Int) / (g.y : Int) = (qt : Int) := by rw [← hqt]; simp
            have hqk : qt ≤ k := by rw [← hqt]; exact Nat.div_le_self _ _
            have hxn : xn < 64 := by omega
            by_cases hC : rm = qt
            · have q6 : ((rm : Int) != (qt : Int)) = false := by simp; omega
              have HDT2 : Hid (dirtAt g d k = !hv) := by
                show _ = _
                rw [HDT.out, hrmi, hqti, hC]
                simp
              cases hv with
              | true =>
                have HY : Hid (sDirty g d = false) := dirt_no (k := k) hkd.out (by rw [HDT2.out]; rfl)
                clear hm1 hlt htv hhv hxr hrm hqt hC
                go_wp2_with fail
                refine region_ext (by kernel_rfl) (by kernel_rfl) ?_
                repeat (go_big_quiet_step (with_reducible (first | exact HWI.out _ | exact HHS.out _)))
                try (with_reducible refine wpQuiet_nil ?_)
                intro y
                have HYB : Hid (Below W.heap.size W y.1) := HBw.out.trans (y.2.mono HBw.out.size)
                go_wp2_with fail
                go_ret
                rw [HY.out]
                exact ⟨rfl, by rw [HSZ.out]; exact HB.out.trans (HYB.out.mono HWB.out)⟩
              | false =>
                have HY : Hid (dirtAt g d k = true) := HDT2.out
                have HWT : Hid (∀ x : World, Below wr.heap.size wr x → Calls Tryz.prog 76 #[u5, .int .i64 (xn : Int)] x fun e w' => ∃ v', e = .returned v' ∧ Sl .u8 w' v' (seenK g d (k + 1)) ∧ Below x.heap.size x w') := fun y hy => by
                  rw [seen_put g hkd.out (by rw [HX.out]; exact hm1), HX.out]
                  exact bi_with _ _ _ (wf_i64 HX6.out.1 HX6.out.2) y (HSV.out.below hy) (seen_bytes g d k) (by rw [seen_len]; unfold SG.n9; have := sizeB_le64 hg; omega)
                clear hm1 hlt htv hhv hxr hrm hqt hC
                go_wp2_with fail
                refine region_ext (by kernel_rfl) (by kernel_rfl) ?_
                repeat (go_big_quiet_step (with_reducible (first | exact HWI.out _ | exact HHS.out _)))
                try (with_reducible refine wpQuiet_nil ?_)
                intro y
                have HYB : Hid (Below W.heap.size W y.1) := HBw.out.trans (y.2.mono HBw.out.size)
                have HW1 := Lib.hid (HWT.out y.1 y.2)
                clear e0 e1 e2 HWI HHS HWT d0
                go_wp2_with fail
                refine HW1.out.mono ?_
                rintro e x3 ⟨v3, rfl, hv3, hx3⟩
                have HS3 : Hid (Sl .u8 x3 v3 (seenK g d (k + 1))) := hv3
                have HB3 : Hid (Below W.heap.size W x3) := HYB.out.trans (hx3.mono HYB.out.size)
                clear hv3 hx3 HW1
                go_wp2_with fail
                exact ⟨⟨k + 1, HLT.out, by simp, HS3, HB3, fun j hj => by
                  by_cases e : j = k
                  · subst e; exact HY.out
                  · exact HP.out j (by omega)⟩, by have := HLT.out; simp [intOf]; omega⟩
            · have q6 : ((rm : Int) != (qt : Int)) = true := by simp; omega
              have HY : Hid (sDirty g d = false) := dirt_no (k := k) hkd.out (by
                rw [HDT.out, hrmi, hqti]
                have : ((rm : Int) == (qt : Int)) = false := by simp; omega
                rw [this]
                simp)
              clear hm1 hlt htv hhv hxr hrm hqt hC
              go_wp2_with fail
              refine region_ext (by kernel_rfl) (by kernel_rfl) ?_
              repeat (go_big_quiet_step (with_reducible (first | exact HWI.out _ | exact HHS.out _)))
              try (with_reducible refine wpQuiet_nil ?_)
              intro y
              have HYB : Hid (Below W.heap.size W y.1) := HBw.out.trans (y.2.mono HBw.out.size)
              go_wp2_with fail
              go_ret
              rw [HY.out]
              exact ⟨rfl, by rw [HSZ.out]; exact HB.out.trans (HYB.out.mono HWB.out)⟩
      · obtain rfl : k = n := by omega
        have HY : Hid (sDirty g d = true) := dirt_yes HLen.out fun j hj => HP.out j (by rw [HNN.out] at hj; exact hj)
        clear hlt
        go_wp2_with fail
        go_ret
        rw [HY.out]
        exact ⟨rfl, by rw [HSZ.out]; exact HB.out.trans (HBw.out.mono HWB.out)⟩
  · have g0 : ((n : Int) != (z : Int)) = true := by simp; omega
    have HY : Hid (sDirty g d = false) := by
      show _ = _
      unfold sDirty
      rw [HNN.out, HZ.out, decide_eq_false hlen]
      rfl
    unfold SG.v at *
    clear hlen
    go_enter Tryz.func39, Tryz.ntmps39
    go_wp2_with fail
    refine HSC.out.mono ?_
    rintro e x1 ⟨rfl, hx1⟩
    have H1 : Hid (Below W.heap.size W x1) := hx1
    clear hx1 c0 c1 c2 c3 c4 HSC
    go_wp2_with fail
    go_ret
    rw [HY.out]
    exact ⟨rfl, by rw [HSZ.out]; exact HB.out.trans (H1.out.mono HWB.out)⟩
end Go.Proofs.YtfihpljgbghogaaGreat

/- The document's places and pairs: of each block its place, and back. -/
namespace Go.Proofs.YtfihpljgbghogaaGreat
open Go.RowKit Go.Shelf Go.Lib
set_option linter.unusedVariables false
set_option linter.unusedSimpArgs false
attribute [-simp] Tryz.isAgg51 Tryz.zeroValue51 Tryz.isAgg54 Tryz.zeroValue54 Tryz.isAgg30 Tryz.zeroValue30
attribute [-go_sem] loadVar storeVar
attribute [local go_sem] loadVar_openQ storeVar_openQ zero_sn zero_prs zero_st
/-- Pairs whose places go into bytes. -/
def PlOk (b : Nat) (ps : List (Int × Int)) : Prop := ∀ p ∈ ps, 0 ≤ p.1 ∧ p.1 < (b : Int) ∧ 0 ≤ p.2 ∧ (p.2 = 255 ∨ p.2 < 254)
theorem places_succ {b k : Nat} {ps : List (Int × Int)} {p : Int × Int} (h : ps[k]? = some p) : sPlaces b (ps.take (k + 1)) = (sPlaces b (ps.take k)).set p.1.toNat (plV p.2) := by
  unfold sPlaces
  rw [take_at h, List.foldl_append]
  rfl
set_option maxRecDepth 100000 in
set_option maxHeartbeats 4000000 in
/-- **places**. -/
theorem rf14_places {w : World} {v : Value} {ps : List (Int × Int)} (g : SG) (hg : g.Ok) (r : Int) (h : Prt w v ps) (hp : ps.length ≤ 1000) (hok : PlOk g.b ps) :
    Calls Tryz.prog 29 #[.agg (g.v r), v] w fun e w' => ∃ u, e = .returned u ∧ w'.ownsRow w.heap.size 5 1 u g.b ((sPlaces g.b ps).map (Value.int .u8)) ∧ Below w.heap.size w w' := by
  have hmx : Tryz.prog.follows .mixedOrders = true := by kernel_rfl
  obtain ⟨i0, hi, hz0, hz1, hz2⟩ := info_parts info_u8
  obtain ⟨qp, qpn, qpc, rfl⟩ : ∃ a n c, v = .slice a n c := by obtain ⟨a, c, e, -⟩ := h; exact ⟨a, _, c, e⟩
  have HPN : Hid (qpn = ps.length) := by obtain ⟨a', c', e, -⟩ := h; cases e; rfl
  have hqp : qpn ≤ 1000 := by rw [HPN.out]; exact hp
  have HOK := Lib.hid hok
  have HPr := Lib.hid h
  obtain ⟨B, hB⟩ : ∃ B, w.heap.size = B := ⟨_, rfl⟩
  obtain ⟨W1, hW1⟩ : ∃ W, w.alloc (.cells (g.v r) 23) = W := ⟨_, rfl⟩
  have r1 : RowC W1 B 23 [.int .i64 (g.b : Int), .int .i64 (g.s : Int), .int .i64 (g.y : Int), .int .i64 (g.a : Int), .int .i64 r] := by rw [← hW1, ← hB]; exact RowC.new _ _ _
  have b1 : Below B w W1 := by rw [← hW1, ← hB]; exact below_new _ _
  have s1 : W1.heap.size = B + 1 := by rw [← hW1, ← hB]; simp
  have HB1 := Lib.hid b1
  have k0 := r1.cell 0 _ rfl
  have HSZ := Lib.hid hB
  obtain ⟨b, hbb⟩ : ∃ b, g.b = b := ⟨_, rfl⟩
  have hb1 : 1 ≤ b := by rw [← hbb]; exact hg.b1
  have hb2 : b ≤ 64 := by rw [← hbb]; exact hg.b64
  unfold SG.v at *
  rw [hbb] at hW1 k0 HOK ⊢
  rw [hB]
  clear h hok hp hg r1 b1 hbb
  go_enter Tryz.func29, Tryz.ntmps29
  go_wp2_with (at_make; refine wpList_make_full _ rfl _ _ 31 rfl B 5 i0 (.int .u8 0) 1 Tryz.underlying31 hi hz0 hz1 .i64 .i64 _ _ b rfl rfl rfl rfl (by rw [hz2]; omega) (by unfold maxLen; omega) (by rw [s1]; omega) ?_; intro w1 hown1 hgrow1)
  rw [s1] at hown1
  have HG1 : Hid (Below B w w1) := HB1.out.grown hgrow1 (by have := HB1.out.size; omega) (fun k e => by cases e)
  rw [show (Value.int .u8 0).cells = #[.int .u8 0] from rfl, toList_madeCells_one, Nat.mul_one] at hown1
  have HO1 : Hid (w1.ownsRow B 5 1 (.slice (some ⟨B + 1, 0, none⟩) b b) b ((sPlaces b (ps.take 0)).map (Value.int .u8))) := by
    show World.ownsRow _ _ _ _ _ _ _
    rw [List.take_zero, show sPlaces b [] = List.replicate b 0 from rfl, List.map_replicate]
    exact hown1
  clear hown1 hgrow1 k0
  go_wp2_with fail
  go_loopw [6] (fun iv wr => ∃ k : Nat, k ≤ qpn ∧ iv = .int .i64 (k : Int) ∧ Hid (wr.ownsRow B 5 1 (.slice (some ⟨B + 1, 0, none⟩) b b) b ((sPlaces b (ps.take k)).map (Value.int .u8))) ∧ Hid (Below B w wr)) (fun iv _ => qpn - (intOf iv).toNat)
  case atStart => exact ⟨0, Nat.zero_le _, rfl, HO1, HG1⟩
  case round =>
    clear HO1 HG1
    obtain ⟨k, hk, rfl, HO, HB2⟩ := hrel
    by_cases hlt : k < qpn
    · have q1 : (k : Int) < (qpn : Int) := by omega
      have HLT := Lib.hid hlt
      obtain ⟨⟨pa, pb⟩, hp⟩ : ∃ p, ps[k]? = some p := ⟨_, List.getElem?_eq_getElem (by rw [← HPN.out]; exact hlt)⟩
      obtain ⟨o1, o2, o3, o4⟩ := HOK.out _ (List.mem_of_getElem? hp)
      have ES := Lib.hid (places_succ (b := b) hp)
      obtain ⟨bp, op, rfl, hbp, p1, p2⟩ := (HPr.out.below (by rw [hB]; exact HB2.out)).at hp
      simp only at p1 p2 o1 o2 o3 o4
      obtain ⟨c, rfl⟩ := Int.eq_ofNat_of_zero_le o1
      obtain ⟨m, rfl⟩ := Int.eq_ofNat_of_zero_le o3
      have hcb : c < b := by omega
      have hcb2 : (c : Int) < (b : Int) := by omega
      have ho := HO.out
      have c2 : wr.cell? ⟨B + 1, c, none⟩ = some (.int .u8 ((sPlaces b (ps.take k))[c]?.getD 0)) := by
        have := bi_cell ho c hcb
        exact this
      have f2 : wr.frozen? ⟨B + 1, c, none⟩ = false := ho.frozenAt _
      have HS : Hid ((wr.setCell ⟨B + 1, c, none⟩ (.int .u8 (plV (m : Int)))).ownsRow B 5 1 (.slice (some ⟨B + 1, 0, none⟩) b b) b ((sPlaces b (ps.take (k + 1))).map (Value.int .u8))) := by
        have := (ho.stored c (.int .u8 (plV (m : Int)))).1
        show World.ownsRow _ _ _ _ _ _ _
        rw [ES.out, List.map_set]
        exact this
      have HBW : B ≤ B + 1 := Nat.le_succ B
      have HB5 : Hid (Below B w (wr.setCell ⟨B + 1, c, none⟩ (.int .u8 (plV (m : Int))))) := HB2.out.setCell (p := ⟨B + 1, c, none⟩) HBW _
      by_cases z : m = 255
      · subst z
        have e1 : plV ((255 : Nat) : Int) = 255 := rfl
        rw [e1] at HS HB5
        clear ho hp o2 o4 hbp hlt e1
        go_wp2_with fail
        exact ⟨⟨k + 1, HLT.out, by simp, HS, HB5⟩, by have := HLT.out; simp [intOf]; omega⟩
      · have e1 : plV (m : Int) = (m : Int) + 1 := by unfold plV; rw [if_neg (by omega)]
        have e2 : ((m : Int) == 255) = false := by simp; omega
        have hm : m < 254 := by omega
        rw [e1] at HS HB5
        clear ho hp o2 o4 hbp hlt e1 z
        go_wp2_with fail
        exact ⟨⟨k + 1, HLT.out, by simp, HS, HB5⟩, by have := HLT.out; simp [intOf]; omega⟩
    · obtain rfl : k = qpn := by omega
      have HO2 : Hid (wr.ownsRow B 5 1 (.slice (some ⟨B + 1, 0, none⟩) b b) b ((sPlaces b ps).map (Value.int .u8))) := by
        have := HO.out
        rw [List.take_of_length_le (by rw [HPN.out]; exact Nat.le_refl _)] at this
        exact this
      clear hlt
      go_wp2_with fail
      go_ret
      exact ⟨_, rfl, HO2.out, HB2.out⟩
end Go.Proofs.YtfihpljgbghogaaGreat

/- The document's pairs: a plan's or a table's bytes read back. -/
namespace Go.Proofs.YtfihpljgbghogaaGreat
open Go.RowKit Go.Shelf Go.Lib
set_option linter.unusedVariables false
set_option linter.unusedSimpArgs false
attribute [-simp] Tryz.isAgg51 Tryz.zeroValue51 Tryz.isAgg54 Tryz.zeroValue54 Tryz.isAgg30 Tryz.zeroValue30
attribute [-go_sem] loadVar storeVar
attribute [local go_sem] loadVar_openQ storeVar_openQ zero_sn zero_prs zero_st build_prs
theorem prFrom_append : ∀ (l m : List Int) (k : Nat), prFrom k (l ++ m) = prFrom k l ++ prFrom (k + l.length) m
  | [], m, k => by simp [prFrom]
  | x :: l, m, k => by
    have ih := prFrom_append l m (k + 1)
    rw [List.cons_append, prFrom_cons, prFrom_cons, ih, List.length_cons, show k + 1 + l.length = k + (l.length + 1) by omega]
    by_cases h : 0 < x <;> simp [h]
theorem prFrom_len : ∀ (l : List Int) (k : Nat), (prFrom k l).length ≤ l.length
  | [], k => by simp [prFrom]
  | x :: l, k => by
    have ih := prFrom_len l (k + 1)
    rw [prFrom_cons]
    by_cases h : 0 < x <;> simp [h] <;> omega
theorem prFrom_succ {bs : List Int} {k : Nat} (h : k < bs.length) : prFrom 0 (bs.take (k + 1)) = prFrom 0 (bs.take k) ++ (if 0 < bs[k]?.getD 0 then [((k : Int), plA (bs[k]?.getD 0))] else []) := by
  have e : bs[k]? = some bs[k] := List.getElem?_eq_getElem h
  rw [take_at e, prFrom_append, List.length_take, Nat.min_eq_left (by omega), Nat.zero_add, prFrom_cons, e]
  rfl
set_option maxRecDepth 100000 in
theorem pr_app_lit {N : Nat} {Z : World} {v : Value} {L : List (Int × Int)} (h : PrO N Z v L) (hN : N ≤ Z.heap.size) {a b : Int} (hp : Is64 a ∧ Is64 b) (hl : L.length ≤ 900000) :
    ∃ (Y2 : World) (x : Option Addr) (n c : Nat) (y3 : World), (Instr.buildSlice 26 1 #[(0, .agg #[.int .i64 a, .int .i64 b])]).run Tryz.prog Z = .ok (.slice (some ⟨Z.heap.size, 0, none⟩) 1 1) Y2 ∧ (∀ ty, (Builtin.append_ #[26, 26] ty #[v, .slice (some ⟨Z.heap.size, 0, none⟩) 1 1]).run Tryz.prog Y2 = .ok (.slice x n c) y3) ∧ PrO N y3 (.slice x n c) (L ++ [(a, b)]) ∧ Below N Z y3 := by
  have hb := below_new Z (.cells #[.int .i64 a, .int .i64 b] 54)
  obtain ⟨v3, y3, hA, O3, hg3, -⟩ := pr_append (h.below hb) (PrO.one Z (a, b) hp).prt (Nat.le_trans hN hb.size) (by simp; omega)
  obtain ⟨x, c, rfl, -⟩ := O3.prt
  exact ⟨_, x, _, c, y3, slice_prs Z a b, hA, O3, (hb.mono hN).grown hg3 (Nat.le_trans hN hb.size) (own_block h.1)⟩

set_option maxRecDepth 100000 in
set_option maxHeartbeats 4000000 in
/-- **pairs**. -/
theorem rf14_pairs {w : World} {v : Value} {bs : List Int} (hv : Sl .u8 w v bs) (hb : IsBytes bs) (hl : bs.length ≤ 1000) :
    Calls Tryz.prog 36 #[v] w fun e w' => ∃ u, e = .returned u ∧ PrO w.heap.size w' u (prFrom 0 bs) ∧ Below w.heap.size w w' := by
  have hmx : Tryz.prog.follows .mixedOrders = true := by kernel_rfl
  obtain ⟨a0, cap, rfl, hL, hm⟩ := Lies.of_sl hv
  obtain ⟨q, hq⟩ : ∃ q, bs.length = q := ⟨_, rfl⟩
  rw [hq] at hL hm hl ⊢
  have HQ := Lib.hid hq
  have HL := Lib.hid hL
  have HBt := Lib.hid hb
  obtain ⟨B, hB⟩ : ∃ B, w.heap.size = B := ⟨_, rfl⟩
  have HSZ := Lib.hid hB
  rw [hB]
  clear hv hb hL hm hq
  go_enter Tryz.func36, Tryz.ntmps36
  go_wp2_with fail
  go_loopw [3, 4] (fun ov iv wr => ∃ (k : Nat) (x : Option Addr) (n c : Nat), k ≤ q ∧ iv = .int .i64 (k : Int) ∧ ov = .slice x n c ∧ Hid (PrO B wr (.slice x n c) (prFrom 0 (bs.take k))) ∧ Hid (Below B w wr)) (fun _ iv _ => q - (intOf iv).toNat)
  case atStart => exact ⟨0, none, 0, 0, Nat.zero_le _, rfl, rfl, PrO.nil _ _, Below.refl _ _⟩
  case round =>
    obtain ⟨k, x, n, c, hk, rfl, rfl, HO, HB2⟩ := hrel
    by_cases hlt : k < q
    · have q1 : (k : Int) < (q : Int) := by omega
      have HLT := Lib.hid hlt
      obtain ⟨gg, o, rfl, hg, hcs⟩ : ∃ g o, a0 = some ⟨g, o, none⟩ ∧ g < w.heap.size ∧ ∀ j, j < q → w.cell? ⟨g, o + j, none⟩ = some (.int .u8 (bs[j]?.getD 0)) := by
        rcases HL.out with h | h
        · omega
        · exact h
      obtain ⟨y, hy, hy8⟩ := byte_of bs HBt.out k
      have c1 : wr.cell? ⟨gg, o + k, none⟩ = some (.int .u8 (y : Int)) := by rw [HB2.out.cell (p := ⟨gg, o + k, none⟩) (by rw [← hB]; exact hg), hcs k hlt, hy]
      have ES := prFrom_succ (bs := bs) (k := k) (by rw [HQ.out]; exact hlt)
      rw [hy] at ES
      have HLn : Hid ((prFrom 0 (bs.take k)).length ≤ 900000) := by
        have := prFrom_len (bs.take k) 0
        rw [List.length_take] at this
        show _ ≤ _
        omega
      have HBS : Hid (B ≤ wr.heap.size) := by have := HB2.out.size; rw [hB] at this; exact this
      clear hy hcs hg hlt
      by_cases z0 : y = 0
      · subst z0
        have HO2 : Hid (PrO B wr (.slice x n c) (prFrom 0 (bs.take (k + 1)))) := by
          show PrO _ _ _ _
          rw [ES]
          simpa using HO.out
        clear ES HO hy8
        go_wp2_with fail
        exact ⟨⟨k + 1, x, n, c, HLT.out, by simp, rfl, HO2, HB2⟩, by have := HLT.out; simp [intOf]; omega⟩
      · have d0 : decide (0 < (y : Int)) = true := by simp; omega
        have d1 : 0 < y := by omega
        rw [if_pos (by omega)] at ES
        by_cases z : y = 255
        · subst z
          have ep : plA ((255 : Nat) : Int) = 255 := rfl
          rw [ep] at ES
          obtain ⟨Y2, vx, vn, vc, y3, hS1, hA, hO3, hB3⟩ := pr_app_lit HO.out HBS.out (a := (k : Int)) (b := 255) (by constructor <;> constructor <;> omega) HLn.out
          rw [← ES] at hO3
          have SB := Lib.hid hS1
          have HA := Lib.hid hA
          have HO3 := Lib.hid hO3
          have HB4 : Hid (Below B w y3) := HB2.out.trans hB3
          clear hS1 hA hO3 hB3 ES z0 hy8 ep
          go_wp2_with (first | (with_reducible refine gate_build ?_; refine wpList_build_run 26 1 #[(0, .tmp 31)] rfl rfl [(0, .agg #[.int .i64 (k : Int), .int .i64 255])] _ rfl SB.out ?_) | (at_builtin; refine wpList_append_run (.tmp 28) (.tmp 32) 26 rfl rfl _ _ _ rfl rfl (HA.out _) ?_))
          exact ⟨⟨k + 1, vx, vn, vc, HLT.out, by simp, rfl, HO3, HB4⟩, by have := HLT.out; simp [intOf]; omega⟩
        · have ep : plA (y : Int) = (y : Int) - 1 := by unfold plA; rw [if_neg (by omega)]
          have e2 : ((y : Int) == 255) = false := by simp; omega
          rw [ep] at ES
          obtain ⟨Y2, vx, vn, vc, y3, hS1, hA, hO3, hB3⟩ := pr_app_lit HO.out HBS.out (a := (k : Int)) (b := (y : Int) - 1) (by constructor <;> constructor <;> omega) HLn.out
          rw [← ES] at hO3
          have SB := Lib.hid hS1
          have HA := Lib.hid hA
          have HO3 := Lib.hid hO3
          have HB4 : Hid (Below B w y3) := HB2.out.trans hB3
          clear hS1 hA hO3 hB3 ES z0 z ep
          go_wp2_with (first | (with_reducible refine gate_build ?_; refine wpList_build_run 26 1 #[(0, .tmp 31)] rfl rfl [(0, .agg #[.int .i64 (k : Int), .int .i64 ((y : Int) - 1)])] _ rfl SB.out ?_) | (at_builtin; refine wpList_append_run (.tmp 28) (.tmp 32) 26 rfl rfl _ _ _ rfl rfl (HA.out _) ?_))
          exact ⟨⟨k + 1, vx, vn, vc, HLT.out, by simp, rfl, HO3, HB4⟩, by have := HLT.out; simp [intOf]; omega⟩
    · obtain rfl : k = q := by omega
      have HO2 : Hid (PrO B wr (.slice x n c) (prFrom 0 bs)) := by
        have := HO.out
        rw [List.take_of_length_le (by rw [HQ.out]; exact Nat.le_refl _)] at this
        exact this
      clear hlt
      go_wp2_with fail
      go_ret
      exact ⟨_, rfl, HO2.out, HB2.out⟩
end Go.Proofs.YtfihpljgbghogaaGreat

