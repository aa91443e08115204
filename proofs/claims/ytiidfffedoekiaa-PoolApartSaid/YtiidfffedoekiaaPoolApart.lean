/- What is taken is not used, within the area, rising; no free place below what is taken is passed over; used and free are all. -/
import Derived.Test.YtiidfffedoekiaaPoAp
import Derived.Test.YtiidfffedoekiaaArgSl
namespace Go.Proofs.Ytiidfffedoekiaa.poolApart
open Go.ChangeShapes Go.WideShapes Go.ChangeAt Go.RowKit
set_option linter.unusedVariables false
open Go.Shelf Go.Lib Go.Sort
set_option linter.unusedSimpArgs false
attribute [-simp] Try.isAgg39 Try.zeroValue39 Try.isAgg42 Try.zeroValue42 Try.isAgg48 Try.zeroValue48
attribute [-go_sem] loadVar storeVar
attribute [local go_sem] loadVar_openQ storeVar_openQ zero_sn zero_prs zero_st po_build_pair po_build_sn po_build_pl po_build_st po_build_st0

set_option maxRecDepth 100000 in
set_option maxHeartbeats 2000000 in
theorem walk (v0 v1 : Value) (w : World) (w0 : Arg w 48 v0) (w1 : Arg w 49 v1) :
    Calls Try.prog 6 #[v0, v1] w fun e w' => e = .returned (.bool true) ∧ Below w.heap.size w w' := by
  have hmx : Try.prog.follows .mixedOrders = true := by kernel_rfl
  obtain ⟨q, l, ps, rfl, hst⟩ := w0.state
  have hdd := w0.state_d
  obtain ⟨x, y, rfl, wx, wy⟩ := w1.two Try.underlying49 Try.underlying5 (by kernel_rfl) (by kernel_rfl)
  obtain ⟨hx0, hx1⟩ := bounds_u8 wx
  obtain ⟨hy0, hy1⟩ := bounds_u8 wy
  obtain ⟨a, m, qa1, qa2, ha, qm1, qm2, hm⟩ := ap_idx hx0 hy0
  have hfa := po_fair hst (by unfold maxLen at hdd; omega)
  have hle := fairP_lens (l := l) (dn := q.d.2.1) (ps := ps)
  obtain ⟨⟨dx, dn, dc⟩, ⟨sx, sn, sc⟩, nx, kd, id, ⟨px, pn, pc⟩⟩ := q
  simp only at hfa hle
  obtain ⟨B, hB⟩ : ∃ B, w.heap.size = B := ⟨_, rfl⟩
  have HSZ := Lib.hid hB
  obtain ⟨W0, hW0⟩ : ∃ W0, (w.alloc (.cells #[.slice dx dn dc, .slice sx sn sc, .int .i64 nx, .int .i64 kd, .int .i64 id, .slice px pn pc] 48)).alloc (.cells #[.int .u8 x, .int .u8 y] 49) = W0 := ⟨_, rfl⟩
  have b0 : Below B w W0 := by rw [← hW0, ← hB]; exact ((Below.refl _ w).alloc (Nat.le_refl _) _).alloc (by simp) _
  have r0 : RowC W0 B 48 (stL ⟨(dx, dn, dc), (sx, sn, sc), nx, kd, id, (px, pn, pc)⟩) := by rw [← hW0, ← hB]; exact (RowC.new w _ _).below (below_new _ _)
  have r1 : RowC W0 (B + 1) 49 [.int .u8 x, .int .u8 y] := by
    rw [← hW0, ← hB]
    have := RowC.new (w.alloc (.cells #[.slice dx dn dc, .slice sx sn sc, .int .i64 nx, .int .i64 kd, .int .i64 id, .slice px pn pc] 48)) 49 [.int .u8 x, .int .u8 y]
    rwa [World.size_alloc] at this
  have HST : Hid (∀ z : World, Below W0.heap.size W0 z → StIs z ⟨(dx, dn, dc), (sx, sn, sc), nx, kd, id, (px, pn, pc)⟩ l ps) := fun z hz => (hst.below (by rw [hB]; exact b0)).below hz
  have HLS : Hid (∀ z : World, Below W0.heap.size W0 z → (loadVar 48 ⟨B, 0, none⟩).run Try.prog z = .ok (.agg #[.slice dx dn dc, .slice sx sn sc, .int .i64 nx, .int .i64 kd, .int .i64 id, .slice px pn pc]) z) := fun z hz => load_stC (r0.below hz)
  have HC1 : Hid (∀ z : World, Below W0.heap.size W0 z → z.cell? ⟨B + 1, 1, none⟩ = some (.int .u8 y)) := fun z hz => (r1.below hz).cell 1 _ rfl
  have HB0 := Lib.hid b0
  have l0 := HLS.out W0 (Below.refl _ _)
  have c0 := r1.cell 0 _ rfl
  have c1 := r1.cell 1 _ rfl
  have hfa0 := po_fair (hst.below (by rw [hB]; exact b0)) (by unfold maxLen at hdd; simp only; omega)
  obtain ⟨fb, hfb⟩ : ∃ fb, fairP l dn ps = fb := ⟨_, rfl⟩
  have HFA : Hid (Calls Try.prog 24 #[.agg #[.slice dx dn dc, .slice sx sn sc, .int .i64 nx, .int .i64 kd, .int .i64 id, .slice px pn pc]] W0 fun e w' => e = .returned (.bool fb) ∧ Below W0.heap.size W0 w') := by
    rw [← hfb]
    exact hfa0
  rw [hfb] at hle
  have HLE := Lib.hid hle
  clear w0 w1 wx wy hst hdd hfa hfa0 r0 r1 b0 hfb hle
  go_enter Try.func6, Try.ntmps6
  simp only [stV, stL, slV]
  go_wp2_with fail
  try rw [hW0]
  try rw [hB]
  clear hW0 hB
  go_at_call 24
  refine HFA.out.mono ?_
  rintro e X1 ⟨rfl, hb⟩
  have E1 : Hid (Below W0.heap.size W0 X1) := hb
  clear hb HFA l0 c0 c1
  cases fb with
  | false =>
    go_wp2_with fail
    refine (po_wakes _).mono ?_
    rintro e X2 ⟨rfl, hb⟩
    have E2 : Hid (Below W0.heap.size W0 X2) := E1.out.trans (hb.mono E1.out.size)
    clear hb
    go_wp2_with fail
    go_ret
    exact ⟨rfl, by rw [HSZ.out]; exact HB0.out.trans (E2.out.mono (by rw [← HSZ.out]; exact HB0.out.size))⟩
  | true =>
    have l1 := HLS.out X1 E1.out
    have hus := po_used (HST.out X1 E1.out) (HLE.out rfl).1 (HLE.out rfl).2
    have hri := used_rise l ps
    obtain ⟨us, hue⟩ : ∃ us, pUsed l ps = us := ⟨_, rfl⟩
    rw [hue] at hus hri
    have HUS : Hid (Calls Try.prog 26 #[.agg #[.slice dx dn dc, .slice sx sn sc, .int .i64 nx, .int .i64 kd, .int .i64 id, .slice px pn pc]] X1 fun e w' => ∃ u : SlV, e = .returned (slV u) ∧ InO X1.heap.size w' (slV u) us ∧ Below X1.heap.size X1 w') := hus
    have hun := used_short (HLE.out rfl).1 (HLE.out rfl).2
    rw [hue] at hun
    have HFR : Hid (∀ z : World, Below W0.heap.size W0 z → Calls Try.prog 27 #[.agg #[.slice dx dn dc, .slice sx sn sc, .int .i64 nx, .int .i64 kd, .int .i64 id, .slice px pn pc], .int .i64 (a : Int)] z fun e w' => e = .returned (.int .i64 (((pFree us a).length : Nat) : Int)) ∧ Below z.heap.size z w') := fun z hz => by
      have := po_free (HST.out z hz) (HLE.out rfl).1 (HLE.out rfl).2 a (by omega)
      rw [hue] at this
      exact this
    have HTK : Hid (∀ z : World, Below W0.heap.size W0 z → Calls Try.prog 28 #[.agg #[.slice dx dn dc, .slice sx sn sc, .int .i64 nx, .int .i64 kd, .int .i64 id, .slice px pn pc], .int .i64 (a : Int), .int .i64 (m : Int)] z fun e w' => ∃ u : SlV, e = .returned (.tuple #[slV u, .int .i64 (tkErr (pFree us a).length (m : Int))]) ∧ InO z.heap.size w' (slV u) (tkLst (pFree us a) (m : Int)) ∧ Below z.heap.size z w') := fun z hz => by
      have := po_take (HST.out z hz) (HLE.out rfl).1 (HLE.out rfl).2 a (by omega) (m : Int)
      rw [hue] at this
      exact this
    have HRI := Lib.hid hri
    clear hus hri hue
    go_wp2_with fail
    go_at_call 26
    refine HUS.out.mono ?_
    rintro e X3 ⟨⟨u0, u1, u2⟩, rfl, hi, hb⟩
    have E3 : Hid (Below W0.heap.size W0 X3) := E1.out.trans (hb.mono E1.out.size)
    have hu1 : u1 = us.length := po_len hi
    have HUL := Lib.hid hu1
    have I3 := Lib.hid hi
    have hu9 : u1 ≤ 100000 := by omega
    simp only [slV] at I3 ⊢
    clear hi hb HUS l1 hu1 hun
    go_wp2_with fail
    go_loopw [7, 8] (fun sv iv wr => ∃ i s : Nat, i ≤ u1 ∧ iv = .int .i64 (i : Int) ∧ sv = .int .i64 (s : Int) ∧ Hid (s = (pWith (us.take i) (a : Int)).length) ∧ Hid (Below X3.heap.size X3 wr)) (fun _ iv _ => u1 - (intOf iv).toNat)
    case atStart => exact ⟨0, 0, Nat.zero_le _, rfl, rfl, (by show _ = _; simp [pWith]), Below.refl _ _⟩
    case round =>
      obtain ⟨i, s, hi, rfl, rfl, HS, HBR⟩ := hrel
      have hsb : s ≤ 100000 := by
        have h1 := List.length_filter_le (fun x => decide (0 ≤ x) && decide (x < (a : Int))) (us.take i)
        rw [List.length_take] at h1
        have h2 := HS.out
        unfold pWith at h2
        have := HUL.out
        omega
      have HSB := Lib.hid hsb
      by_cases hlt : i < u1
      · obtain ⟨v, hv⟩ : ∃ v, us[i]? = some v := ⟨_, List.getElem?_eq_getElem (by rw [← HUL.out]; exact hlt)⟩
        have I4 := I3.out.below HBR.out
        obtain ⟨g, rfl, hg, d0⟩ := po_at I4 hv
        have D1 : ∀ z : Ext wr, z.1.cell? ⟨g, i, none⟩ = some (.int .i64 v) := fun z => (z.2.cell (p := ⟨g, i, none⟩) hg).trans d0
        have HD1 := Lib.hid D1
        have g1 : (i : Int) < (u1 : Int) := by omega
        have HWI : Hid (wrap64 ((i : Int) + 1) = (i : Int) + 1) := IntWalk.wrap64_in _ (by omega)
        have HWS : Hid (wrap64 ((s : Int) + 1) = (s : Int) + 1) := IntWalk.wrap64_in _ (by omega)
        have HLT := Lib.hid hlt
        have HSN := Lib.hid (ap_count (a := (a : Int)) hv)
        by_cases h0 : i = 0
        · have q0 : decide ((i : Int) > 0) = false := by simp; omega
          have q1 : ¬ (i : Int) > 0 := by omega
          have HD5 : Hid (decide (0 < i) = false) := by show _ = _; simp; omega
          clear hg d0 I4 hv hi hlt hsb h0
          by_cases p1 : 0 ≤ v
          · have p1a : decide (v ≥ 0) = true := by simpa using p1
            by_cases p2 : v < (a : Int)
            · have p2a : decide (v < (a : Int)) = true := by simpa using p2
              have HSN2 : Hid (s + 1 = (pWith (us.take (i + 1)) (a : Int)).length) := by show _ = _; rw [HSN.out, if_pos ⟨p1, p2⟩, ← HS.out]
              clear p1 p2
              go_wp2_with fail
              refine region_ext (by kernel_rfl) (by kernel_rfl) ?_
              repeat (go_big_quiet_step (fail); try rw [HD5.out])
              try (with_reducible refine wpQuiet_nil ?_)
              intro z
              have HBZ : Hid (Below X3.heap.size X3 z.1) := HBR.out.trans (z.2.mono HBR.out.size)
              have d1 := HD1.out z
              clear D1 
              go_wp2_with fail
              exact ⟨⟨i + 1, s + 1, HLT.out, by first | (simp; done) | (simp; exact HWI.out) | (rw [HWI.out]; simp), by first | (simp; done) | (simp; exact HWS.out) | (rw [HWS.out]; simp), HSN2, HBZ⟩, by have := HLT.out; first | (simp [intOf]; omega) | (rw [HWI.out]; simp [intOf]; omega) | (simp [intOf, HWI.out]; omega)⟩
            · have p2a : decide (v < (a : Int)) = false := by simpa using p2
              have HSN2 : Hid (s = (pWith (us.take (i + 1)) (a : Int)).length) := by show _ = _; rw [HSN.out, if_neg (fun h => p2 h.2), ← HS.out]
              clear p1 p2
              go_wp2_with fail
              refine region_ext (by kernel_rfl) (by kernel_rfl) ?_
              repeat (go_big_quiet_step (fail); try rw [HD5.out])
              try (with_reducible refine wpQuiet_nil ?_)
              intro z
              have HBZ : Hid (Below X3.heap.size X3 z.1) := HBR.out.trans (z.2.mono HBR.out.size)
              have d1 := HD1.out z
              clear D1 
              go_wp2_with fail
              exact ⟨⟨i + 1, s, HLT.out, by first | (simp; done) | (simp; exact HWI.out) | (rw [HWI.out]; simp), rfl, HSN2, HBZ⟩, by have := HLT.out; first | (simp [intOf]; omega) | (rw [HWI.out]; simp [intOf]; omega) | (simp [intOf, HWI.out]; omega)⟩
          · have p1a : decide (v ≥ 0) = false := by simpa using p1
            have HSN2 : Hid (s = (pWith (us.take (i + 1)) (a : Int)).length) := by show _ = _; rw [HSN.out, if_neg (fun h => p1 h.1), ← HS.out]
            clear p1
            go_wp2_with fail
            refine region_ext (by kernel_rfl) (by kernel_rfl) ?_
            repeat (go_big_quiet_step (fail); try rw [HD5.out])
            try (with_reducible refine wpQuiet_nil ?_)
            intro z
            have HBZ : Hid (Below X3.heap.size X3 z.1) := HBR.out.trans (z.2.mono HBR.out.size)
            have d1 := HD1.out z
            clear D1 
            go_wp2_with fail
            exact ⟨⟨i + 1, s, HLT.out, by first | (simp; done) | (simp; exact HWI.out) | (rw [HWI.out]; simp), rfl, HSN2, HBZ⟩, by have := HLT.out; first | (simp [intOf]; omega) | (rw [HWI.out]; simp [intOf]; omega) | (simp [intOf, HWI.out]; omega)⟩
        · have q0 : decide ((i : Int) > 0) = true := by simp; omega
          have q1 : (i : Int) > 0 := by omega
          have HD5 : Hid (decide (0 < i) = true) := by show _ = _; simp; omega
          obtain ⟨j, hj⟩ : ∃ j : Nat, i = j + 1 := ⟨i - 1, by omega⟩
          obtain ⟨v', hv'⟩ : ∃ v', us[j]? = some v' := ⟨_, List.getElem?_eq_getElem (by have := HUL.out; omega)⟩
          have hst2 := ap_step HRI.out hv' (by rw [← hj]; exact hv)
          obtain ⟨g', e', hg', d0'⟩ := po_at I4 hv'
          cases e'
          have D2 : ∀ z : Ext wr, z.1.cell? ⟨g, j, none⟩ = some (.int .i64 v') := fun z => (z.2.cell (p := ⟨g, j, none⟩) hg).trans d0'
          have gj : (i : Int) - 1 = (j : Int) := by omega
          have gj2 : wrap64 ((i : Int) - 1) = (j : Int) := by rw [gj]; exact IntWalk.wrap64_in _ (by omega)
          have gj3 : (j : Int) < (u1 : Int) := by omega
          have q2 : decide (v ≤ v') = false := by simp; omega
          clear hg d0 d0' hg' I4 hv hv' hi hlt hsb h0 hj hst2
          by_cases p1 : 0 ≤ v
          · have p1a : decide (v ≥ 0) = true := by simpa using p1
            by_cases p2 : v < (a : Int)
            · have p2a : decide (v < (a : Int)) = true := by simpa using p2
              have HSN2 : Hid (s + 1 = (pWith (us.take (i + 1)) (a : Int)).length) := by show _ = _; rw [HSN.out, if_pos ⟨p1, p2⟩, ← HS.out]
              clear p1 p2
              go_wp2_with fail
              refine region_ext (by kernel_rfl) (by kernel_rfl) ?_
              repeat (go_big_quiet_step (fail); try rw [HD5.out])
              try (with_reducible refine wpQuiet_nil ?_)
              intro z
              have HBZ : Hid (Below X3.heap.size X3 z.1) := HBR.out.trans (z.2.mono HBR.out.size)
              have d1 := HD1.out z
              clear D1 D2
              go_wp2_with fail
              exact ⟨⟨i + 1, s + 1, HLT.out, by first | (simp; done) | (simp; exact HWI.out) | (rw [HWI.out]; simp), by first | (simp; done) | (simp; exact HWS.out) | (rw [HWS.out]; simp), HSN2, HBZ⟩, by have := HLT.out; first | (simp [intOf]; omega) | (rw [HWI.out]; simp [intOf]; omega) | (simp [intOf, HWI.out]; omega)⟩
            · have p2a : decide (v < (a : Int)) = false := by simpa using p2
              have HSN2 : Hid (s = (pWith (us.take (i + 1)) (a : Int)).length) := by show _ = _; rw [HSN.out, if_neg (fun h => p2 h.2), ← HS.out]
              clear p1 p2
              go_wp2_with fail
              refine region_ext (by kernel_rfl) (by kernel_rfl) ?_
              repeat (go_big_quiet_step (fail); try rw [HD5.out])
              try (with_reducible refine wpQuiet_nil ?_)
              intro z
              have HBZ : Hid (Below X3.heap.size X3 z.1) := HBR.out.trans (z.2.mono HBR.out.size)
              have d1 := HD1.out z
              clear D1 D2
              go_wp2_with fail
              exact ⟨⟨i + 1, s, HLT.out, by first | (simp; done) | (simp; exact HWI.out) | (rw [HWI.out]; simp), rfl, HSN2, HBZ⟩, by have := HLT.out; first | (simp [intOf]; omega) | (rw [HWI.out]; simp [intOf]; omega) | (simp [intOf, HWI.out]; omega)⟩
          · have p1a : decide (v ≥ 0) = false := by simpa using p1
            have HSN2 : Hid (s = (pWith (us.take (i + 1)) (a : Int)).length) := by show _ = _; rw [HSN.out, if_neg (fun h => p1 h.1), ← HS.out]
            clear p1
            go_wp2_with fail
            refine region_ext (by kernel_rfl) (by kernel_rfl) ?_
            repeat (go_big_quiet_step (fail); try rw [HD5.out])
            try (with_reducible refine wpQuiet_nil ?_)
            intro z
            have HBZ : Hid (Below X3.heap.size X3 z.1) := HBR.out.trans (z.2.mono HBR.out.size)
            have d1 := HD1.out z
            clear D1 D2
            go_wp2_with fail
            exact ⟨⟨i + 1, s, HLT.out, by first | (simp; done) | (simp; exact HWI.out) | (rw [HWI.out]; simp), rfl, HSN2, HBZ⟩, by have := HLT.out; first | (simp [intOf]; omega) | (rw [HWI.out]; simp [intOf]; omega) | (simp [intOf, HWI.out]; omega)⟩
      · obtain rfl : i = u1 := by omega
        have g1 : ¬ (i : Int) < (i : Int) := by omega
        have hsl : s + (pFree us a).length = a := by
          have h1 := free_len HRI.out a
          have h2 := HS.out
          rw [List.take_of_length_le (by have := HUL.out; omega)] at h2
          omega
        have HSL := Lib.hid hsl
        clear hi hlt HS hsl
        have E4 : Hid (Below W0.heap.size W0 wr) := E3.out.trans (HBR.out.mono E3.out.size)
        have I4 := Lib.hid (I3.out.below HBR.out)
        have l4 := HLS.out wr E4.out
        have HFR2 := Lib.hid (HFR.out wr E4.out)
        obtain ⟨fl, hfl⟩ : ∃ fl, pFree us a = fl := ⟨_, rfl⟩
        rw [hfl] at HFR2 HSL
        obtain ⟨fn, hfn⟩ : ∃ fn, fl.length = fn := ⟨_, rfl⟩
        rw [hfn] at HFR2 HSL
        have HFN := Lib.hid hfn
        have HFL := Lib.hid hfl
        have HAS : Hid (wrap64 ((a : Int) - (s : Int)) = (fn : Int)) := by
          show _ = _
          have := HSL.out
          rw [show (a : Int) - (s : Int) = (fn : Int) by omega]
          exact IntWalk.wrap64_in _ (by omega)
        have gas : (a : Int) - (s : Int) = (fn : Int) := by have := HSL.out; omega
        have gas2 := HAS.out
        have q3 : ((fn : Int) == (fn : Int)) = true := by simp
        have HTK2 : Hid (∀ z : World, Below W0.heap.size W0 z → Calls Try.prog 28 #[.agg #[.slice dx dn dc, .slice sx sn sc, .int .i64 nx, .int .i64 kd, .int .i64 id, .slice px pn pc], .int .i64 (a : Int), .int .i64 (m : Int)] z fun e w' => ∃ u : SlV, e = .returned (.tuple #[slV u, .int .i64 (tkErr fn (m : Int))]) ∧ InO z.heap.size w' (slV u) (tkLst fl (m : Int)) ∧ Below z.heap.size z w') := fun z hz => by
          have := HTK.out z hz
          rw [hfl, hfn] at this
          exact this
        clear hfl hfn HFR HTK I3
        go_wp2_with fail
        go_at_call 27
        refine HFR2.out.mono ?_
        rintro e X5 ⟨rfl, hb⟩
        have E5 : Hid (Below W0.heap.size W0 X5) := E4.out.trans (hb.mono E4.out.size)
        have I5 := Lib.hid (I4.out.below hb)
        have l5 := HLS.out X5 E5.out
        have c5 := HC1.out X5 E5.out
        have HTK3 := Lib.hid (HTK2.out X5 E5.out)
        clear hb HFR2 l4 I4 E4 HTK2
        by_cases hfm : fn < m
        · have he : tkErr fn (m : Int) = 12 := by unfold tkErr; rw [if_neg (by omega), if_pos (by omega)]
          rw [he] at HTK3
          clear he
          go_wp2_with fail
          go_at_call 28
          refine HTK3.out.mono ?_
          rintro e X6 ⟨⟨z0, z1, z2⟩, rfl, -, hb⟩
          have E6 : Hid (Below W0.heap.size W0 X6) := E5.out.trans (hb.mono E5.out.size)
          have c6 := HC1.out X6 E6.out
          have q4 : (fn : Int) < (m : Int) := by omega
          have q5 : decide ((m : Int) > (fn : Int)) = true := by simp; omega
          simp only [slV]
          clear hb HTK3 l5 c5 E5
          go_wp2_with fail
          refine (po_wakes _).mono ?_
          rintro e X7 ⟨rfl, hb⟩
          have E7 : Hid (Below W0.heap.size W0 X7) := E6.out.trans (hb.mono E6.out.size)
          clear hb
          go_wp2_with fail
          go_ret
          exact ⟨rfl, by rw [HSZ.out]; exact HB0.out.trans (E7.out.mono (by rw [← HSZ.out]; exact HB0.out.size))⟩
        · have he : tkErr fn (m : Int) = 0 := by unfold tkErr; rw [if_neg (by omega), if_neg (by omega)]
          have he2 : tkLst fl (m : Int) = tkL fl m := by unfold tkLst; rw [HFN.out, he, if_pos rfl, Int.toNat_natCast]
          rw [he, he2] at HTK3
          have hmf : m ≤ fn := by omega
          have HMF := Lib.hid hmf
          clear he he2 hfm
          go_wp2_with fail
          go_at_call 28
          refine HTK3.out.mono ?_
          rintro e X6 ⟨⟨z0, z1, z2⟩, rfl, hi, hb⟩
          have E6 : Hid (Below W0.heap.size W0 X6) := E5.out.trans (hb.mono E5.out.size)
          have hz1 : z1 = m := by
            have h1 : z1 = (tkL fl m).length := po_len hi
            rw [tkL_len, HFN.out] at h1
            omega
          have I6 := Lib.hid (I5.out.below hb)
          have T6 := Lib.hid hi
          simp only [slV, hz1] at T6 ⊢
          clear hb hi HTK3 l5 c5 E5 I5 hz1
          go_wp2_with fail
          go_loopw [11, 12] (fun tv vv wr => ∃ v t : Nat, v ≤ a ∧ t ≤ m ∧ vv = .int .i64 (v : Int) ∧ tv = .int .i64 (t : Int) ∧ Hid (t = (pFree us v).length) ∧ wr = X6) (fun _ vv _ => a - (intOf vv).toNat)
          case atStart => exact ⟨0, 0, Nat.zero_le _, Nat.zero_le _, rfl, rfl, (by show _ = _; rfl), rfl⟩
          case round =>
            obtain ⟨v, t, hv, ht, rfl, rfl, HKT, rfl⟩ := hrel
            by_cases hlt : v < a
            · have g1 : (v : Int) < (a : Int) := by omega
              have g1d : decide ((v : Int) < (a : Int)) = true := by simp; omega
              have HLT := Lib.hid hlt
              by_cases htm : t < m
              · have g2 : (t : Int) < (m : Int) := by omega
                have g2d : decide ((t : Int) < (m : Int)) = true := by simp; omega
                have g2n : decide (t < m) = true := by simp; omega
                have HTM := Lib.hid htm
                have HWV : Hid (wrap64 ((v : Int) + 1) = (v : Int) + 1) := IntWalk.wrap64_in _ (by omega)
                have HWT : Hid (wrap64 ((t : Int) + 1) = (t : Int) + 1) := IntWalk.wrap64_in _ (by omega)
                clear hv ht hlt htm
                go_wp2_with fail
                go_loopw [13, 14] (fun bv kv ws => ∃ (k : Nat) (b : Bool), k ≤ i ∧ kv = .int .i64 (k : Int) ∧ bv = .bool b ∧ Hid (b = (us.take k).contains (v : Int)) ∧ ws = wr) (fun _ kv _ => i - (intOf kv).toNat)
                case atStart => exact ⟨0, false, Nat.zero_le _, rfl, rfl, (by show _ = _; simp), rfl⟩
                case round =>
                  obtain ⟨k, b, hk, rfl, rfl, HB, rfl⟩ := hrel
                  by_cases hku : k < i
                  · obtain ⟨z, hz⟩ : ∃ z, us[k]? = some z := ⟨_, List.getElem?_eq_getElem (by rw [← HUL.out]; exact hku)⟩
                    obtain ⟨g, rfl, -, d1⟩ := po_at I6.out hz
                    have g3 : (k : Int) < (i : Int) := by omega
                    have HWK : Hid (wrap64 ((k : Int) + 1) = (k : Int) + 1) := IntWalk.wrap64_in _ (by omega)
                    have HKU := Lib.hid hku
                    have HB2 : Hid ((us.take (k + 1)).contains (v : Int) = (b || (z == (v : Int)))) := by
                      show _ = _
                      rw [List.take_add_one, hz, HB.out, Option.toList_some, ap_has]
                    clear hk hku hz HB
                    cases b with
                    | true =>
                      have HB3 : Hid (true = (us.take (k + 1)).contains (v : Int)) := by show _ = _; rw [HB2.out]; rfl
                      go_wp2_with fail
                      exact ⟨⟨k + 1, true, HKU.out, by first | (simp; done) | (simp; exact HWK.out) | (rw [HWK.out]; simp), rfl, HB3, trivial⟩, by have := HKU.out; first | (simp [intOf]; omega) | (rw [HWK.out]; simp [intOf]; omega) | (simp [intOf, HWK.out]; omega)⟩
                    | false =>
                      cases hzv : (z == (v : Int)) with
                      | true =>
                        have HB3 : Hid (true = (us.take (k + 1)).contains (v : Int)) := by show _ = _; rw [HB2.out, hzv]; rfl
                        go_wp2_with fail
                        exact ⟨⟨k + 1, true, HKU.out, by first | (simp; done) | (simp; exact HWK.out) | (rw [HWK.out]; simp), rfl, HB3, trivial⟩, by have := HKU.out; first | (simp [intOf]; omega) | (rw [HWK.out]; simp [intOf]; omega) | (simp [intOf, HWK.out]; omega)⟩
                      | false =>
                        have HB3 : Hid (false = (us.take (k + 1)).contains (v : Int)) := by show _ = _; rw [HB2.out, hzv]; rfl
                        go_wp2_with fail
                        exact ⟨⟨k + 1, false, HKU.out, by first | (simp; done) | (simp; exact HWK.out) | (rw [HWK.out]; simp), rfl, HB3, trivial⟩, by have := HKU.out; first | (simp [intOf]; omega) | (rw [HWK.out]; simp [intOf]; omega) | (simp [intOf, HWK.out]; omega)⟩
                  · obtain rfl : k = i := by omega
                    have g3 : ¬ (k : Int) < (k : Int) := by omega
                    have HBU : Hid (b = us.contains (v : Int)) := by
                      have := HB.out
                      rw [List.take_of_length_le (by have := HUL.out; omega)] at this
                      exact this
                    clear hk hku HB
                    cases b with
                    | true =>
                      have HK2 : Hid (t = (pFree us (v + 1)).length) := by show _ = _; rw [free_succ, if_pos HBU.out.symm]; exact HKT.out
                      go_wp2_with fail
                      exact ⟨⟨v + 1, t, HLT.out, Nat.le_of_lt HTM.out, by first | (simp; done) | (simp; exact HWV.out) | (rw [HWV.out]; simp), rfl, HK2, trivial⟩, by have := HLT.out; first | (simp [intOf]; omega) | (rw [HWV.out]; simp [intOf]; omega) | (simp [intOf, HWV.out]; omega)⟩
                    | false =>
                      have hnu : (v : Int) ∉ us := by
                        intro hmem
                        have h1 := HBU.out
                        rw [show us.contains (v : Int) = true from by simpa using hmem] at h1
                        cases h1
                      have HK2 : Hid (t + 1 = (pFree us (v + 1)).length) := by
                        show _ = _
                        rw [free_succ, if_neg (by rw [← HBU.out]; simp), List.length_append, ← HKT.out]
                        rfl
                      have hat : (tkL fl m)[t]? = some (v : Int) := by
                        unfold tkL
                        rw [List.getElem?_map, List.getElem?_take, if_pos HTM.out, HKT.out, ← HFL.out, free_at HLT.out hnu]
                        rfl
                      obtain ⟨g, rfl, -, d1⟩ := po_at T6.out hat
                      have q8 : ((v : Int) == (v : Int)) = true := by simp
                      clear hnu hat
                      go_wp2_with fail
                      exact ⟨⟨v + 1, t + 1, HLT.out, HTM.out, by first | (simp; done) | (simp; exact HWV.out) | (rw [HWV.out]; simp), by first | (simp; done) | (simp; exact HWT.out) | (rw [HWT.out]; simp), HK2, trivial⟩, by have := HLT.out; first | (simp [intOf]; omega) | (rw [HWV.out]; simp [intOf]; omega) | (simp [intOf, HWV.out]; omega)⟩
              · have g2 : ¬ (t : Int) < (m : Int) := by omega
                have g2d : decide ((t : Int) < (m : Int)) = false := by simp; omega
                have g2n : decide (t < m) = false := by simp; omega
                obtain rfl : t = m := by omega
                have c8 := HC1.out wr E6.out
                have q7 : ((t : Int) == (t : Int)) = true := by simp
                clear HKT hv ht hlt htm
                go_wp2_with fail
                refine (po_wakes _).mono ?_
                rintro e X7 ⟨rfl, hb⟩
                have E7 : Hid (Below W0.heap.size W0 X7) := E6.out.trans (hb.mono E6.out.size)
                clear hb
                go_wp2_with fail
                go_ret
                exact ⟨rfl, by rw [HSZ.out]; exact HB0.out.trans (E7.out.mono (by rw [← HSZ.out]; exact HB0.out.size))⟩
            · have g1 : ¬ (v : Int) < (a : Int) := by omega
              have g1d : decide ((v : Int) < (a : Int)) = false := by simp; omega
              obtain rfl : v = a := by omega
              obtain rfl : t = m := by
                have h1 := HKT.out
                have h2 := HFN.out
                rw [← HFL.out] at h2
                have h3 := HMF.out
                omega
              have c8 := HC1.out wr E6.out
              have q7 : ((t : Int) == (t : Int)) = true := by simp
              clear HKT hv ht hlt
              go_wp2_with fail
              refine (po_wakes _).mono ?_
              rintro e X7 ⟨rfl, hb⟩
              have E7 : Hid (Below W0.heap.size W0 X7) := E6.out.trans (hb.mono E6.out.size)
              clear hb
              go_wp2_with fail
              go_ret
              exact ⟨rfl, by rw [HSZ.out]; exact HB0.out.trans (E7.out.mono (by rw [← HSZ.out]; exact HB0.out.size))⟩

set_option maxRecDepth 100000 in
theorem lifted (os : Os) (started : os.Started) (H : Type) (enc : TypeId × Value → H) :
    ReturnsInHanded {} Try.checked os 6 .any (Rows.poolApartSpec.pre6 enc Try.prog Try.f6 Rows.poolApartRow.domain false) (Rows.poolApartSpec.post enc Try.prog Try.f6 false true false false) := by
  refine returnsInHanded_of_change (C := Try.checked) own started (by kernel_rfl) Try.func6
    (ChangeSpec.witness6 (enc := enc) (C := Try.checked) false ⟨#[], #[.agg #[.slice none 0 0, .slice none 0 0, .int .i64 0, .int .i64 0, .int .i64 0, .slice none 0 0], .agg #[.int .u8 0, .int .u8 0]], []⟩ 8 (by kernel_rfl) (by kernel_rfl) (by kernel_rfl) (by kernel_rfl)) ?_
  intro W base args ds gs before hval0 hW hcnd _
  have hval : ∀ (j : Nat) t v, Try.f6.params[j]? = some t → args[j]? = some v → Value.okWide Try.prog W .any base t v := hval0
  have hW' := hW
  obtain ⟨p, q, hA0, hV, rfl, hfz, hnd⟩ := hW
  have hA : DataW.TrodAll enc Try.prog W 0 (fun _ => true) true Try.f6.params.toList args.toList ds p := hA0
  rw [Try.params6] at hA hval
  obtain ⟨v0, vs0, d0, ds0, p0, q0, hargs, rfl, rfl, h0, r0⟩ := trodAll_cons hA
  obtain ⟨v1, vs1, d1, ds1, p1, q1, rfl, rfl, rfl, h1, r1⟩ := trodAll_cons r0
  obtain ⟨rfl, rfl, rfl⟩ := trodAll_nil r1
  obtain rfl : args = #[v0, v1] := by cases args; simp_all
  obtain ⟨rfl, rfl⟩ := trodVars_none hV
  have lt0 : ∀ x ∈ p0, x.block < W.heap.size := by obtain ⟨m, hm⟩ := h0; exact DataW.trod_lt m _ _ _ hm
  have a0 := Arg.mk (hval 0 48 v0 rfl rfl) h0
  have lt1 : ∀ x ∈ p1, x.block < W.heap.size := by obtain ⟨m, hm⟩ := h1; exact DataW.trod_lt m _ _ _ hm
  have a1 := Arg.mk (hval 1 49 v1 rfl rfl) h1
  clear hA0 hval0
  refine (walk v0 v1 W a0 a1).mono fun e W' ⟨he, bel⟩ => ?_
  subst he
  exact ⟨_, rfl, _, _, _, [], _, [], hW', trodAll_mk1 (shut_bool Try.underlying4 _), (trodAll_cons_mk (Below.trod laidOut (by kernel_rfl) (of_decide_eq_true (by kernel_rfl)) h0 bel lt0) (trodAll_cons_mk (Below.trod laidOut (by kernel_rfl) (of_decide_eq_true (by kernel_rfl)) h1 bel lt1) trodAll_mk0)), rfl, bel.frame _, fun h => by cases h⟩

set_option maxRecDepth 100000 in
theorem over : Rows.poolApartRow.holds Try.pinned (OpenSpec.ofChange Rows.poolApartSpec) :=
  OpenClaim.holds_of_wide 6 Try.f6 rfl rfl rfl rfl rfl rfl rfl ⟨rfl, rfl, rfl, rfl, rfl⟩ rfl rfl rfl rfl rfl (by kernel_rfl) Try.func6 (by kernel_rfl)
    (of_decide_eq_true (by kernel_rfl)) (by unfold Func.isWrapper; first | (rw [if_pos (by decide +kernel)]; kernel_rfl) | (rw [if_neg (by decide +kernel)]; exact ⟨rfl, rfl⟩))
    (fun os started H enc _ => lifted os started H enc)

theorem proved : Rows.PoolApartSaid := over
#print axioms proved
end Go.Proofs.Ytiidfffedoekiaa.poolApart
