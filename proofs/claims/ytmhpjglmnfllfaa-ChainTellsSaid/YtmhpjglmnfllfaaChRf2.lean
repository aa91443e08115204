/- The helper that holds snapshots against each other; the document's Drop. -/
import Derived.Test.YtmhpjglmnfllfaaChCy
import Derived.Test.YtmhpjglmnfllfaaChDr
import Derived.Test.YtmhpjglmnfllfaaTbRf1
import Derived.Test.YtmhpjglmnfllfaaTbRf3
import Derived.Test.YtmhpjglmnfllfaaBiRef
namespace Go.Proofs.Ytmhpjglmnfllfaa
open Go.RowKit Go.Shelf
set_option linter.unusedVariables false
set_option linter.unusedSimpArgs false
attribute [-simp] Try.isAgg49 Try.zeroValue49 Try.isAgg52 Try.zeroValue52
attribute [-go_sem] loadVar storeVar
attribute [local go_sem] loadVar_openPS storeVar_openPS zero_sn build_sn build_sn2

set_option maxRecDepth 100000 in
set_option maxHeartbeats 8000000 in
theorem snaps_same {w : World} {u v : Value} {l : List SN} (h : Snp w u l) (h' : Snp w v l) (hK : Lens 1000 l) :
    Calls Try.prog 21 #[u, v] w fun e w' => e = .returned (.bool true) ∧ Below w.heap.size w w' := by
  have hmx : Try.prog.follows .mixedOrders = true := by kernel_rfl
  obtain ⟨r, h⟩ := h
  obtain ⟨r', h'⟩ := h'
  have HS := Lib.hid h
  have HS' := Lib.hid h'
  have HKL := Lib.hid hK
  obtain ⟨a, cap, rfl, -⟩ := h
  obtain ⟨a', cap', rfl, -⟩ := h'
  obtain ⟨len, hle⟩ : ∃ len, l.length = len := ⟨_, rfl⟩
  have HL := Lib.hid hle
  have hlen : len ≤ 1000 := by have := hK.1; omega
  rw [hle] at HS HS' ⊢
  clear hle
  go_enter Try.func21, Try.ntmps21
  go_wp2_with fail
  go_loopw [5] (fun iv W => ∃ k : Nat, k ≤ len ∧ iv = .int .i64 (k : Int) ∧ Hid (Below w.heap.size w W)) (fun iv _ => len - (intOf iv).toNat)
  case atStart => exact ⟨0, Nat.zero_le _, rfl, Below.refl _ _⟩
  case round =>
    obtain ⟨W, hWwr⟩ : ∃ W, W = wr := ⟨_, rfl⟩
    subst hWwr
    obtain ⟨k, hk, rfl, HB⟩ := hrel
    by_cases hlt : k < len
    · obtain ⟨s, hs⟩ : ∃ s, l[k]? = some s := ⟨_, List.getElem?_eq_getElem (by rw [HL.out]; exact hlt)⟩
      have hls := HKL.out.2 s (List.mem_of_getElem? hs)
      have hS := HS.out.below HB.out
      have hS' := HS'.out.below HB.out
      obtain ⟨b, off, q, rfl, hb, -, hq, e0, e1, e2⟩ := hS.at hs
      obtain ⟨b', off', q', rfl, hb', -, hq', e0', e1', e2'⟩ := hS'.at hs
      obtain ⟨i, ⟨x, n, c⟩, ⟨y, m, d⟩⟩ := q
      obtain ⟨i', ⟨x', n', c'⟩, ⟨y', m', d'⟩⟩ := q'
      obtain rfl : i = i' := hq.id.trans hq'.id.symm
      have c0 : ∀ z : Ext W, z.1.cell? ⟨b, off + k * 3, none⟩ = some (.int .i64 i) := fun z => (z.2.cell (p := ⟨b, off + k * 3, none⟩) hb).trans e0
      have c1 : ∀ z : Ext W, z.1.cell? ⟨b, off + k * 3 + 1, none⟩ = some (.slice x n c) := fun z => (z.2.cell (p := ⟨b, off + k * 3 + 1, none⟩) hb).trans e1
      have c2 : ∀ z : Ext W, z.1.cell? ⟨b, off + k * 3 + 2, none⟩ = some (.slice y m d) := fun z => (z.2.cell (p := ⟨b, off + k * 3 + 2, none⟩) hb).trans e2
      have d0 : ∀ z : Ext W, z.1.cell? ⟨b', off' + k * 3, none⟩ = some (.int .i64 i) := fun z => (z.2.cell (p := ⟨b', off' + k * 3, none⟩) hb').trans e0'
      have d1 : ∀ z : Ext W, z.1.cell? ⟨b', off' + k * 3 + 1, none⟩ = some (.slice x' n' c') := fun z => (z.2.cell (p := ⟨b', off' + k * 3 + 1, none⟩) hb').trans e1'
      have d2 : ∀ z : Ext W, z.1.cell? ⟨b', off' + k * 3 + 2, none⟩ = some (.slice y' m' d') := fun z => (z.2.cell (p := ⟨b', off' + k * 3 + 2, none⟩) hb').trans e2'
      have HBY : Hid (∀ z : Ext W, Calls Try.prog 18 #[.slice x n c, .slice x' n' c'] z.1 fun e w'' => e = .returned (.bool true) ∧ ∃ y : Ext W, w'' = y.1) := fun z => (bytes_yes _ _ s.ch z.1 (hq.ch.below z.2) (hq'.ch.below z.2)).mono fun e w'' ⟨h1, h2⟩ => ⟨h1, z, h2⟩
      have HPY : Hid (∀ z : Ext W, Calls Try.prog 42 #[.slice y m d, .slice y' m' d'] z.1 fun e w'' => e = .returned (.bool true) ∧ ∃ y : Ext W, w'' = y.1) := fun z => (pairs_same (hq.tb.below z.2) (hq'.tb.below z.2) (by omega)).mono fun e w'' ⟨h1, h2⟩ => ⟨h1, ⟨w'', z.2.trans (h2.mono z.2.size)⟩, rfl⟩
      have g1 : (k : Int) < (len : Int) := by omega
      have HW : Hid (wrap64 ((k : Int) + 1) = (k : Int) + 1) := IntWalk.wrap64_in _ (by omega)
      have HLT := Lib.hid hlt
      clear hs hls hS hS' hb hq e0 e1 e2 hb' hq' e0' e1' e2' hlt
      go_wp2_with fail
      refine region_ext (by kernel_rfl) (by kernel_rfl) ?_
      repeat (go_big_quiet_step (with_reducible (first | exact HBY.out _ | exact HPY.out _)))
      try (with_reducible refine wpQuiet_nil ?_)
      intro z
      have HBZ : Hid (Below w.heap.size w z.1) := HB.out.trans (z.2.mono HB.out.size)
      clear c0 c1 c2 d0 d1 d2 HBY HPY
      go_wp2_with fail
      exact ⟨⟨k + 1, HLT.out, by first | simp | (rw [HW.out]; simp), HBZ⟩, by have := HLT.out; first | (simp [intOf]; omega) | (rw [HW.out]; simp [intOf]; omega)⟩
    · obtain rfl : k = len := by omega
      go_wp2_with fail
      refine bodyPost_ret (results_tmp rfl _ _ _) rfl ?_
      exact ⟨rfl, HB.out⟩

set_option maxRecDepth 100000 in
theorem field_both (a b : Option Addr) (n c m d : Nat) (w : World) : (Instr.field 71 (.agg #[.slice a n c, .slice b m d]) 0).run Try.prog w = .ok (.slice a n c) w := by kernel_rfl
attribute [local go_sem] field_both

set_option maxRecDepth 100000 in
set_option maxHeartbeats 8000000 in
theorem rf_drop {w : World} {v : Value} {l : List SN} (h : Snp w v l) (hK : Lens 1000 l) (i : Int) :
    Calls Try.prog 23 #[v, .int .i64 i] w fun e w' => ∃ u, e = .returned u ∧ SnO w.heap.size w' u (cDrop l i) ∧ Below w.heap.size w w' := by
  have hmx : Try.prog.follows .mixedOrders = true := by kernel_rfl
  obtain ⟨r, h⟩ := h
  have HS := Lib.hid h
  have HKL := Lib.hid hK
  obtain ⟨a, cap, rfl, h1, h2, -⟩ := h
  obtain ⟨len, hle⟩ : ∃ len, l.length = len := ⟨_, rfl⟩
  have HL := Lib.hid hle
  have hlen : len ≤ 1000 := by have := hK.1; omega
  rw [hle] at HS h1 ⊢
  clear h1 h2 hle
  go_enter Try.func23, Try.ntmps23
  go_wp2_with fail
  go_loopw [5, 6, 7, 8] (fun uv iv _ _ W => ∃ (k : Nat) (u : SlV), k ≤ len ∧ iv = .int .i64 (k : Int) ∧ uv = slV u ∧ Hid (SnO w.heap.size W (slV u) (cDrop (l.take k) i)) ∧ Hid (Below w.heap.size w W)) (fun _ iv _ _ _ => len - (intOf iv).toNat)
  case atStart => exact ⟨0, (none, 0, 0), Nat.zero_le _, rfl, rfl, by show SnO _ _ _ _; rw [List.take_zero, cDrop_before (by simp; omega)]; exact SnO.nil _ _, Below.refl _ _⟩
  case round =>
    obtain ⟨W, hWwr⟩ : ∃ W, W = wr := ⟨_, rfl⟩
    subst hWwr
    obtain ⟨k, u, hk, rfl, rfl, HU, HB⟩ := hrel
    by_cases hlt : k < len
    · obtain ⟨s, hs⟩ : ∃ s, l[k]? = some s := ⟨_, List.getElem?_eq_getElem (by rw [HL.out]; exact hlt)⟩
      have hls := HKL.out.2 s (List.mem_of_getElem? hs)
      have hS := HS.out.below HB.out
      obtain ⟨b, off, q, rfl, hb, -, hq, e0, e1, e2⟩ := hS.at hs
      have LD := load_sn e0 e1 e2
      have g1 : (k : Int) < (len : Int) := by omega
      have HW : Hid (wrap64 ((k : Int) + 1) = (k : Int) + 1) := IntWalk.wrap64_in _ (by omega)
      have HLT := Lib.hid hlt
      have hz := HB.out.size
      by_cases hki : (k : Int) = i
      · have q1 : ((k : Int) != i) = false := by simpa using hki
        cases k with
        | zero =>
          have HD : Hid (cDrop (l.take (0 + 1)) i = cDrop (l.take 0) i) := by show _ = _; rw [← hki]; exact drop_zero hs
          obtain ⟨⟨ux, un, uc⟩, hu, hul⟩ : ∃ q : SlV, slV u = slV q ∧ q.2.1 = 0 := by
            have h0 := HU.out
            rw [List.take_zero, cDrop_before (by simp; omega)] at h0
            obtain ⟨q, e, e2⟩ := h0.isSl
            exact ⟨q, e, e2⟩
          simp only at hul
          subst hul
          have HU2 : Hid (SnO w.heap.size W (.slice ux 0 uc) (cDrop (l.take (0 + 1)) i)) := by
            show SnO _ _ _ _
            rw [HD.out]
            have := HU.out
            rw [hu] at this
            exact this
          rw [hu]
          simp only [slV]
          clear hs hls hS hb hq e0 e1 e2 LD hlt hki hu HU
          go_wp2_with fail
          exact ⟨⟨1, (ux, 0, uc), HLT.out, by first | rfl | simp | (rw [HW.out]; simp), rfl, HU2, HB⟩, by have := HLT.out; first | (simp [intOf]; omega) | (rw [HW.out]; simp [intOf]; omega)⟩
        | succ k =>
          obtain ⟨p, hp⟩ : ∃ p, l[k]? = some p := ⟨_, List.getElem?_eq_getElem (by have := HL.out; omega)⟩
          obtain ⟨hd1, hd2⟩ := drop_here hs hp
          rw [hki] at hd1 hd2
          have HD : Hid (cDrop (l.take (k + 1 + 1)) i = (l.take (k + 1)).set k (joinS p s)) := hd1
          have g3 := HU.out
          rw [hd2] at g3
          have hltk : (l.take (k + 1)).length = k + 1 := by rw [List.length_take]; have := HL.out; omega
          have G3 := Lib.hid g3
          have hpl := HKL.out.2 p (List.mem_of_getElem? hp)
          obtain ⟨g, gc, qk, hug, hg1, hg2, hgs, hqk, f0, f1, f2⟩ := g3.open (k := k) (s := p) (by rw [List.getElem?_take, if_pos (by omega)]; exact hp)
          rw [hltk] at hug hg1
          have HUG := Lib.hid hug
          rw [hug]
          have LK := load_sn f0 f1 f2
          obtain ⟨Y, hY⟩ : ∃ Y, W.alloc (.cells (svL qk).toArray 49) = Y := ⟨_, rfl⟩
          have ST := new_sn W qk
          have bY : Below W.heap.size W Y := by rw [← hY]; exact below_new _ _
          have rY : RowC Y W.heap.size 49 (svL qk) := by rw [← hY]; exact RowC.new W _ _
          rw [hY] at ST
          obtain ⟨C, hC⟩ : ∃ C, W.heap.size = C := ⟨_, rfl⟩
          rw [hC] at ST rY
          have c0 : ∀ z : Ext Y, z.1.cell? ⟨C, 0, none⟩ = some (.int .i64 qk.1) := fun z => (rY.below z.2).cell 0 _ rfl
          have c1 : ∀ z : Ext Y, z.1.cell? ⟨C, 1, none⟩ = some (slV qk.2.1) := fun z => (rY.below z.2).cell 1 _ rfl
          have c2 : ∀ z : Ext Y, z.1.cell? ⟨C, 2, none⟩ = some (slV qk.2.2) := fun z => (rY.below z.2).cell 2 _ rfl
          have hbY : b < Y.heap.size := Nat.lt_of_lt_of_le hb bY.size
          have i1 : ∀ z : Ext Y, z.1.cell? ⟨b, off + (k + 1) * 3 + 1, none⟩ = some (slV q.2.1) := fun z => (z.2.cell (p := ⟨b, off + (k + 1) * 3 + 1, none⟩) hbY).trans ((bY.cell (p := ⟨b, off + (k + 1) * 3 + 1, none⟩) hb).trans e1)
          have i2 : ∀ z : Ext Y, z.1.cell? ⟨b, off + (k + 1) * 3 + 2, none⟩ = some (slV q.2.2) := fun z => (z.2.cell (p := ⟨b, off + (k + 1) * 3 + 2, none⟩) hbY).trans ((bY.cell (p := ⟨b, off + (k + 1) * 3 + 2, none⟩) hb).trans e2)
          have HKS := Lib.hid (hqk.is.below bY)
          have HQS := Lib.hid (hq.below bY)
          have HGY := Lib.hid (g3.below bY)
          have HBY : Hid (Below w.heap.size w Y) := HB.out.trans (bY.mono HB.out.size)
          have HLS : Hid (p.ch.length ≤ 1000 ∧ p.tb.length ≤ 1000 ∧ s.ch.length ≤ 1000 ∧ s.tb.length ≤ 1000) := ⟨hpl.1, hpl.2, hls.1, hls.2⟩
          have b1 : (k : Int) < ((k + 1 : Nat) : Int) := by omega
          have b2 : ((k + 1 : Nat) : Int) ≤ (gc : Int) := by omega
          have b3 : (0 : Int) < (k : Int) + 1 := by omega
          have hltk' := Lib.hid hltk
          obtain rfl : i = (k : Int) + 1 := by omega
          have hYZ : Hid (w.heap.size ≤ Y.heap.size) := HBY.out.size
          obtain ⟨q0, qc, qt⟩ := q
          obtain ⟨k0, kc, kt⟩ := qk
          simp only at c0 c1 c2 i1 i2
          have HID : Hid (k0 = p.id) := hqk.id
          have HOK : Hid ((joinS p s).Ok) := ⟨hqk.ok.id, or_bytes hqk.ok.ch hq.ok.ch, tKeep_is _ _ _ hqk.ok.tb hq.ok.tb⟩
          clear hs hls hS hb hq e0 e1 e2 hlt hki hp hd1 hd2 g3 hpl hug hg1 hg2 hgs hqk f0 f1 f2 hltk bY rY hbY HU LD
          go_wp2_with fail
          clear LK ST
          try rw [hY]
          clear hY
          refine region_plan (fun x => ∃ y : Ext Y, x = y.1) 24 (.takes [0, 1, 2, 3, 4, 5, 6, 7, 8, 9, 10, 11, 13, 14, 15, 16, 17, 18, 19] (.one 12 (.one 20 (.takes [21, 22, 23] .leaf)))) hmx (by kernel_rfl) (by intro c x v a w h; cases x <;> exact h) ⟨⟨Y.drew, (Below.refl _ Y).drew⟩, rfl⟩ ?_
          repeat (rw [wpPlan_takes_cons]; simp only [nth_zero, nth_succ]; go_big_quiet_step (fail); try (with_reducible refine wpQuiet_nil ?_))
          clear c0 c1 c2 i1 i2
          rw [wpPlan_takes_nil, wpPlan_one]
          simp only [nth_zero, nth_succ]
          have HOR := Lib.hid (rf_orO (slV kc) (slV qc) p.ch s.ch Y.drew (HKS.out.ch.below (Below.refl _ Y).drew) (HQS.out.ch.below (Below.refl _ Y).drew) HKS.out.ok.ch HQS.out.ok.ch (by have := HLS.out; omega) (by have := HLS.out; omega))
          go_wp2_with fail
          go_at_call 41
          refine HOR.out.mono ?_
          rintro e y1 ⟨v1, rfl, ho1, hbb1⟩
          have KB1 : Hid (Below Y.heap.size Y y1) := (Below.refl _ Y).drew.trans hbb1
          obtain ⟨⟨x1, n1, e1⟩, rfl, -⟩ := own_slV ho1
          simp only [slV] at ho1 ⊢
          have O1 := Lib.hid ho1
          have HMG := Lib.hid (rf_merge (HKS.out.tb.below KB1.out) (HQS.out.tb.below KB1.out) (by have := HLS.out; omega) (by have := HLS.out; omega))
          clear ho1 hbb1 HOR
          go_wp2_with fail
          refine planPost_mk ⟨⟨y1, KB1.out⟩, rfl⟩ ?_
          rw [wpPlan_one]
          simp only [nth_zero, nth_succ]
          simp only [slV] at HMG
          go_wp2_with fail
          try go_at_call 46
          refine HMG.out.mono ?_
          rintro e y2 ⟨v2, f2, rfl, ho2, hf2, hbb2⟩
          have KB2 : Hid (Below Y.heap.size Y y2) := KB1.out.trans (hbb2.mono KB1.out.size)
          obtain ⟨⟨x2, n2, e2⟩, rfl, -⟩ := own_slV ho2.1
          obtain ⟨⟨x3, n3, e3⟩, rfl, -⟩ := own_slV hf2
          simp only [slV] at ho2 ⊢
          have HF2 : Hid (SnF w.heap.size y2 (k0, (x1, n1, e1), (x2, n2, e2)) (joinS p s)) := ⟨HID.out, own_weak (own_belowT O1.out hbb2) (by have := hYZ.out; simp; exact this), ho2.weak (Nat.le_trans hYZ.out KB1.out.size), HOK.out⟩
          obtain ⟨g', gc', y3, hv', -, -, ST, O3, hg3⟩ := sn_store (HGY.out.below KB2.out) (k := k) (by rw [hltk'.out]; omega) HF2.out
          rw [HUG.out] at hv'
          obtain rfl : g = g' := by simp only [Value.slice.injEq, Option.some.injEq, Addr.mk.injEq] at hv'; exact hv'.1.1
          have HO3 : Hid (SnO w.heap.size y3 (.slice (some ⟨g, 0, none⟩) (k + 1) gc) (cDrop (l.take (k + 1 + 1)) ((k : Int) + 1))) := by
            show SnO _ _ _ _
            rw [HD.out]
            rw [HUG.out] at O3
            exact O3
          have HB3 : Hid (Below w.heap.size w y3) := (HBY.out.trans (KB2.out.mono HBY.out.size)).grown hg3 (Nat.le_trans hYZ.out KB2.out.size) (fun j e => ((HGY.out.below KB2.out).base j e).1)
          simp only [svV, slV] at ST
          clear ho2 hf2 hbb2 O1 O3 hg3 hv' HMG HF2
          go_wp2_with fail
          refine planPost_mk ⟨⟨y2, KB2.out⟩, rfl⟩ ?_
          repeat (rw [wpPlan_takes_cons]; simp only [nth_zero, nth_succ]; go_big_quiet_step (fail); try (with_reducible refine wpQuiet_nil ?_))
          rw [wpPlan_takes_nil, wpPlan_leaf]
          simp only [List.drop_succ_cons, List.drop_zero]
          go_wp2_with fail
          exact ⟨⟨k + 1 + 1, (some ⟨g, 0, none⟩, k + 1, gc), HLT.out, by first | simp | (rw [HW.out]; simp), rfl, HO3, HB3⟩, by have := HLT.out; first | (simp [intOf]; omega) | (rw [HW.out]; simp [intOf]; omega)⟩
      · have q1 : ((k : Int) != i) = true := by simpa using hki
        have HD := Lib.hid (drop_other hs hki)
        have HCP := Lib.hid (rf_own (hq) (by omega) (by omega))
        have hlo : (cDrop (l.take k) i).length ≤ 1000 := by have := cDrop_len (l.take k) i; rw [List.length_take] at this; omega
        clear hs hls hS hb hq e0 e1 e2 hlt hki
        go_wp2_with fail
        go_at_call 45
        refine HCP.out.mono ?_
        rintro e y1 ⟨q2, rfl, hF, hbb⟩
        have HBB := Lib.hid hbb
        have HF1 := Lib.hid (hF.weak (M := w.heap.size) hz)
        have O1 := HU.out.below hbb
        have S1 := slice_sn1 y1 q2
        obtain ⟨v3, y3, hA, O3, hg3⟩ := sn_append O1 (Nat.le_trans hz hbb.size) HF1.out (by omega)
        obtain ⟨Y2, hY2⟩ : ∃ Y, y1.alloc (.cells (svL q2).toArray 49) = Y := ⟨_, rfl⟩
        rw [hY2] at S1 hA
        have HB3 : Hid (Below w.heap.size w y3) := (HB.out.trans (hbb.mono HB.out.size)).grown hg3 (Nat.le_trans hz hbb.size) (fun j e => (O1.base j e).1)
        have HO3 : Hid (SnO w.heap.size y3 v3 (cDrop (l.take (k + 1)) i)) := by show SnO _ _ _ _; rw [HD.out]; exact O3
        obtain ⟨⟨vx, vn, vc⟩, rfl, -⟩ := HO3.out.isSl
        have HA := Lib.hid hA
        have HS1 := Lib.hid S1
        clear hF hbb O1 S1 hA O3 hg3 hY2 HCP LD
        go_wp2_with (first | ((with_reducible refine gate_build ?_); refine wpList_build_run 22 1 #[(0, .tmp 23)] rfl rfl [(0, svV q2)] _ rfl HS1.out ?_) | (at_builtin; refine wpList_append_run (.tmp 18) (.tmp 24) 22 rfl rfl _ _ _ rfl rfl (HA.out _) ?_))
        exact ⟨⟨k + 1, (vx, vn, vc), HLT.out, by first | simp | (rw [HW.out]; simp), rfl, HO3, HB3⟩, by have := HLT.out; first | (simp [intOf]; omega) | (rw [HW.out]; simp [intOf]; omega)⟩
    · obtain rfl : k = len := by omega
      have HU2 : Hid (SnO w.heap.size W (slV u) (cDrop l i)) := by
        have := HU.out
        rw [List.take_of_length_le (by rw [HL.out]; exact Nat.le_refl _)] at this
        exact this
      clear HU
      go_wp2_with fail
      refine bodyPost_ret (results_tmp rfl _ _ _) rfl ?_
      exact ⟨_, rfl, HU2.out, HB.out⟩
end Go.Proofs.Ytmhpjglmnfllfaa
