/- The document's Cut. -/
import Derived.Test.YtmhpjglmnfllfaaChRf2
import Derived.Test.YtmhpjglmnfllfaaChCt
import Derived.Test.YtmhpjglmnfllfaaMake
namespace Go.Proofs.Ytmhpjglmnfllfaa
open Go.RowKit Go.Shelf
set_option linter.unusedVariables false
set_option linter.unusedSimpArgs false
attribute [-simp] Try.isAgg49 Try.zeroValue49 Try.isAgg52 Try.zeroValue52
attribute [-go_sem] loadVar storeVar
attribute [local go_sem] loadVar_openPS storeVar_openPS zero_sn build_sn build_sn2

theorem cut_app {l : List SN} {i : Int} {k : Nat} {s : SN} (h : l[k]? = some s) (hc : i < 0 ∨ (l.length : Int) ≤ i ∨ (k : Int) < i) : cCut (l.take (k + 1)) i = cCut (l.take k) i ++ [s] := by
  have hk := (List.getElem?_eq_some_iff.1 h).1
  rw [cCut_before (by rw [List.length_take]; omega), cCut_before (by rw [List.length_take]; omega), take_at h]
theorem cut_stay {l : List SN} {i : Int} {k : Nat} (hk : k < l.length) (h0 : 0 ≤ i) (h1 : i < (k : Int)) : cCut (l.take (k + 1)) i = cCut (l.take k) i := by
  rw [cCut_behind h0 (by omega) (by omega), cCut_behind h0 h1 (by omega)]
theorem cut_here {l : List SN} {k : Nat} {s : SN} (h : l[k]? = some s) : cCut (l.take (k + 1)) (k : Int) = cCut (l.take k) (k : Int) ++ [emptyS s] := by
  have hk := (List.getElem?_eq_some_iff.1 h).1
  have h2 : (l.take (k + 1))[k]? = some s := by rw [List.getElem?_take, if_pos (by omega)]; exact h
  rw [cCut_at h2, cCut_before (a := l.take k) (by rw [List.length_take]; omega), List.take_take, Nat.min_eq_left (by omega)]

set_option maxRecDepth 100000 in
theorem sn_app_lit {N : Nat} {Z : World} {v : Value} {L : List SN} {q : SV} {s : SN} (h : SnO N Z v L) (hN : N ≤ Z.heap.size) (hq : SnF N Z q s) (hl : L.length ≤ 900000) :
    ∃ (Y2 : World) (x : Option Addr) (n c : Nat) (y3 : World), (Instr.buildSlice 22 1 #[(0, svV q)]).run Try.prog Z = .ok (.slice (some ⟨Z.heap.size, 0, none⟩) 1 1) Y2 ∧ (∀ ty, (Builtin.append_ #[22, 22] ty #[v, .slice (some ⟨Z.heap.size, 0, none⟩) 1 1]).run Try.prog Y2 = .ok (.slice x n c) y3) ∧ SnO N y3 (.slice x n c) (L ++ [s]) ∧ Z.grownBy y3 v.ownBlock := by
  obtain ⟨v3, y3, hA, O3, hg3⟩ := sn_append h hN hq hl
  obtain ⟨⟨x, n, c⟩, rfl, -⟩ := O3.isSl
  exact ⟨_, x, n, c, y3, slice_sn1 Z q, hA, O3, hg3⟩
theorem cut_snf {N M n : Nat} {Z : World} {j0 : Int} {a : Option Addr} {s : SN} (h : Z.ownsRow M 5 1 (.slice a n n) n (List.replicate n (.int .u8 0))) (hM : N ≤ M) (hj : j0 = s.id) (hn : n = s.ch.length) (ho : (emptyS s).Ok) : SnF N Z (j0, (a, n, n), (none, 0, 0)) (emptyS s) := by
  refine ⟨hj, ?_, PrO.nil _ _, ho⟩
  show Z.ownsRow _ _ _ _ (List.replicate s.ch.length (0 : Int)).length ((List.replicate s.ch.length (0 : Int)).map _)
  rw [List.length_replicate, List.map_replicate, ← hn]
  exact own_weak h hM
set_option maxRecDepth 100000 in
/-- A new row of zeros put in the place of what changed. -/
theorem cut_make {Y Y1 : World} {C n : Nat} {j0 : Int} {p r : Value} (rY : RowC Y C 49 [.int .i64 j0, p, r]) (hown1 : Y1.ownsRow Y.heap.size 5 1 (.slice (some ⟨Y.heap.size, 0, none⟩) n n) n (madeCells (Value.int .u8 0).cells (n * 1)).toList) (hgrow1 : Y.grownBy Y1 none) :
    (Y1.cell? ⟨C, 1, none⟩ = some p ∧ Y1.frozen? ⟨C, 1, none⟩ = false) ∧ ((Y1.setCell ⟨C, 1, none⟩ (.slice (some ⟨Y.heap.size, 0, none⟩) n n)).cell? ⟨C, 2, none⟩ = some r ∧ (Y1.setCell ⟨C, 1, none⟩ (.slice (some ⟨Y.heap.size, 0, none⟩) n n)).frozen? ⟨C, 2, none⟩ = false) ∧
    (loadVar 49 ⟨C, 0, none⟩).run Try.prog ((Y1.setCell ⟨C, 1, none⟩ (.slice (some ⟨Y.heap.size, 0, none⟩) n n)).setCell ⟨C, 2, none⟩ (.slice none 0 0)) = .ok (.agg #[.int .i64 j0, .slice (some ⟨Y.heap.size, 0, none⟩) n n, .slice none 0 0]) ((Y1.setCell ⟨C, 1, none⟩ (.slice (some ⟨Y.heap.size, 0, none⟩) n n)).setCell ⟨C, 2, none⟩ (.slice none 0 0)) ∧
    Hid (Below Y.heap.size Y Y1) ∧ Hid (Y1.grownBy ((Y1.setCell ⟨C, 1, none⟩ (.slice (some ⟨Y.heap.size, 0, none⟩) n n)).setCell ⟨C, 2, none⟩ (.slice none 0 0)) (some C)) ∧
    Hid (((Y1.setCell ⟨C, 1, none⟩ (.slice (some ⟨Y.heap.size, 0, none⟩) n n)).setCell ⟨C, 2, none⟩ (.slice none 0 0)).ownsRow Y.heap.size 5 1 (.slice (some ⟨Y.heap.size, 0, none⟩) n n) n (List.replicate n (.int .u8 0))) := by
  have hB1 : Below Y.heap.size Y Y1 := (Below.refl _ Y).grown hgrow1 (Nat.le_refl _) (fun k e => by cases e)
  rw [show (Value.int .u8 0).cells = #[.int .u8 0] from rfl, toList_madeCells_one, Nat.mul_one] at hown1
  have r1 : RowC Y1 C 49 [.int .i64 j0, p, r] := rY.below hB1
  have r2 : RowC (Y1.setCell ⟨C, 1, none⟩ (.slice (some ⟨Y.heap.size, 0, none⟩) n n)) C 49 [.int .i64 j0, .slice (some ⟨Y.heap.size, 0, none⟩) n n, r] := r1.set 1 _
  have r3 : RowC ((Y1.setCell ⟨C, 1, none⟩ (.slice (some ⟨Y.heap.size, 0, none⟩) n n)).setCell ⟨C, 2, none⟩ (.slice none 0 0)) C 49 (svL (j0, (some ⟨Y.heap.size, 0, none⟩, n, n), (none, 0, 0))) := r2.set 2 _
  have hg : Y1.grownBy ((Y1.setCell ⟨C, 1, none⟩ (.slice (some ⟨Y.heap.size, 0, none⟩) n n)).setCell ⟨C, 2, none⟩ (.slice none 0 0)) (some C) := grown_trans (grownBy_setCellJ Y1 C 1 _) (grownBy_setCellJ _ C 2 _)
  exact ⟨⟨r1.cell 1 _ rfl, r1.frozen 1⟩, ⟨r2.cell 2 _ rfl, r2.frozen 2⟩, load_snC r3, hB1, hg, hown1.kept hg (.inr (row_ne hown1 r1 (by decide)))⟩

set_option maxRecDepth 100000 in
set_option maxHeartbeats 8000000 in
theorem rf_cut {w : World} {v : Value} {l : List SN} (h : Snp w v l) (hK : Lens 1000 l) (i : Int) :
    Calls Try.prog 25 #[v, .int .i64 i] w fun e w' => ∃ u, e = .returned u ∧ SnO w.heap.size w' u (cCut l i) ∧ Below w.heap.size w w' := by
  have hmx : Try.prog.follows .mixedOrders = true := by kernel_rfl
  obtain ⟨i0, hi0, hz0, hz1, hz2⟩ := info_parts info_u8
  obtain ⟨r, h⟩ := h
  have HS := Lib.hid h
  have HKL := Lib.hid hK
  obtain ⟨a, cap, rfl, h1, h2, -⟩ := h
  obtain ⟨len, hle⟩ : ∃ len, l.length = len := ⟨_, rfl⟩
  have HL := Lib.hid hle
  have hlen : len ≤ 1000 := by have := hK.1; omega
  rw [hle] at HS h1 ⊢
  clear h1 h2 hle
  go_enter Try.func25, Try.ntmps25
  go_wp2_with fail
  go_loopw [5, 6] (fun uv iv W => ∃ (k : Nat) (u : SlV), k ≤ len ∧ iv = .int .i64 (k : Int) ∧ uv = slV u ∧ Hid (SnO w.heap.size W (slV u) (cCut (l.take k) i)) ∧ Hid (Below w.heap.size w W)) (fun _ iv _ => len - (intOf iv).toNat)
  case atStart => exact ⟨0, (none, 0, 0), Nat.zero_le _, rfl, rfl, by show SnO _ _ _ _; rw [List.take_zero, cCut_before (by simp; omega)]; exact SnO.nil _ _, Below.refl _ _⟩
  case round =>
    obtain ⟨W, hWwr⟩ : ∃ W, W = wr := ⟨_, rfl⟩
    subst hWwr
    obtain ⟨k, u, hk, rfl, rfl, HU, HB⟩ := hrel
    by_cases hlt : k < len
    · obtain ⟨s, hs⟩ : ∃ s, l[k]? = some s := ⟨_, List.getElem?_eq_getElem (by rw [HL.out]; exact hlt)⟩
      have hls := HKL.out.2 s (List.mem_of_getElem? hs)
      have hS := HS.out.below HB.out
      obtain ⟨b, off, q, rfl, hb, -, hq, e0, e1, e2⟩ := hS.at hs
      have LD := load_sn e0 e1 e2
      have g1 : (k : Int) < (len : Int) := by omega
      have HW : Hid (wrap64 ((k : Int) + 1) = (k : Int) + 1) := IntWalk.wrap64_in _ (by omega)
      have HLT := Lib.hid hlt
      have hz := HB.out.size
      have HLS : Hid (s.ch.length ≤ 1000 ∧ s.tb.length ≤ 1000) := hls
      have hlo : (cCut (l.take k) i).length ≤ 1000 := by
        by_cases hh : i < 0 ∨ (k : Int) ≤ i
        · rw [cCut_before (by rw [List.length_take]; omega), List.length_take]; omega
        · rw [cCut_behind (by omega) (by omega) (by have := HL.out; omega)]
          unfold cCut
          rw [if_pos (by have := HL.out; omega)]
          simp [List.length_take]
          omega
      have HCP := Lib.hid (rf_own hq (by omega) (by omega))
      have HSO : Hid (∀ (q' : SV) (x : World), SnF W.heap.size x q' s → SnIs x q' s) := fun q' x hx => hx.is
      have HOKE : Hid ((emptyS s).Ok ∧ s.id = s.id) := ⟨⟨hq.ok.id, fun j => by
        show 0 ≤ ((List.replicate s.ch.length (0 : Int))[j]?).getD 0 ∧ ((List.replicate s.ch.length (0 : Int))[j]?).getD 0 < 256
        rw [List.getElem?_replicate]
        split <;> decide, fun p hp => by cases hp⟩, rfl⟩
      have hst := hs
      have HST := Lib.hid hst
      clear hls hS hb hq e0 e1 e2 hst
      by_cases hki : (k : Int) = i
      · have q1 : ((k : Int) == i) = true := by simpa using hki
        have E1 : Hid (cCut (l.take (k + 1)) i = cCut (l.take k) i ++ [emptyS s]) := by show _ = _; rw [← hki]; exact cut_here hs
        have p1 : ¬ i < 0 := by omega
        have p2 : decide (i < 0) = false := by simpa using p1
        have p3 : ¬ i ≥ (len : Int) := by omega
        have p4 : decide (i ≥ (len : Int)) = false := by simpa using p3
        have p5 : (k : Int) ≤ i := by omega
        have p6 : decide ((k : Int) ≤ i) = true := by simpa using p5
        clear hki
        go_wp2_with fail
        try go_at_call 45
        refine HCP.out.mono ?_
        rintro e y1 ⟨q2, rfl, hF, hbb⟩
        have HBB := Lib.hid hbb
        obtain ⟨j0, ⟨x, n, c⟩, ⟨yy, m, d⟩⟩ := q2
        have HF1 := Lib.hid hF
        have O1 := HU.out.below hbb
        have ST := new_sn y1 (j0, (x, n, c), (yy, m, d))
        obtain ⟨Y, hY⟩ : ∃ Y, y1.alloc (.cells (svL (j0, (x, n, c), (yy, m, d))).toArray 49) = Y := ⟨_, rfl⟩
        have bY : Below y1.heap.size y1 Y := by rw [← hY]; exact below_new _ _
        have rY : RowC Y y1.heap.size 49 (svL (j0, (x, n, c), (yy, m, d))) := by rw [← hY]; exact RowC.new y1 _ _
        rw [hY] at ST
        have HFY := Lib.hid (hF.below bY)
        have HOY := Lib.hid (O1.below bY)
        have HBY : Hid (Below w.heap.size w Y) := (HB.out.trans (hbb.mono hz)).trans (bY.mono (Nat.le_trans hz hbb.size))
        have hyz : w.heap.size ≤ Y.heap.size := HBY.out.size
        have hWY : W.heap.size ≤ y1.heap.size := hbb.size
        obtain ⟨C, hC⟩ : ∃ C, y1.heap.size = C := ⟨_, rfl⟩
        rw [hC] at ST rY
        have hwC : w.heap.size ≤ C := by omega
        have HRY := Lib.hid rY
        simp only [svV, slV] at ST ⊢
        have hn : n = s.ch.length := by obtain ⟨q', e', e2'⟩ := own_slV hF.ch; simp only [slV, Value.slice.injEq] at e'; rw [e'.2.1]; exact e2'
        have hn1 : n ≤ 1000 := by have := HLS.out; omega
        have HN := Lib.hid hn
        have d1 : Y.cell? ⟨C, 1, none⟩ = some (.slice x n c) := rY.cell 1 _ rfl
        have HWC : Hid (W.heap.size ≤ C) := by show _ ≤ _; omega
        have HWY : Hid (Below W.heap.size W Y) := hbb.trans (bY.mono hWY)
        have HID : Hid (j0 = s.id) := hF.id
        clear hF hbb O1 bY rY HCP hlt hs hn
        go_wp2_with (first | (at_make; refine wpList_make_full _ rfl _ _ 35 rfl Y.heap.size 5 i0 (.int .u8 0) 1 Try.underlying35 hi0 hz0 hz1 .i64 .i64 _ _ n rfl rfl rfl rfl (by rw [hz2]; omega) (by unfold maxLen; omega) (by simp) ?_; intro Y1 hown1 hgrow1; obtain ⟨⟨mc1, mf1⟩, ⟨mc2, mf2⟩, LZ, HMB, HGZ, HMO⟩ := cut_make HRY.out hown1 hgrow1; clear hown1 hgrow1) | ((with_reducible refine gate_build ?_); obtain ⟨Y2, vx, vn, vc, y3, hS1, hA, hO3, hG3⟩ := sn_app_lit (Z := _) (HU.out.below (((HWY.out.trans (HMB.out.mono HWY.out.size)).grown HGZ.out (Nat.le_trans HWY.out.size HMB.out.size) (fun j e => by cases e; exact HWC.out)))) (Nat.le_trans hyz (Nat.le_trans HMB.out.size HGZ.out.size)) (q := (j0, (some ⟨Y.heap.size, 0, none⟩, n, n), (none, 0, 0))) (s := emptyS s) (cut_snf HMO.out hyz HID.out HN.out HOKE.out.1) (by omega); simp only [svV, slV] at hS1 hA; have HO3 : Hid (SnO w.heap.size y3 (.slice vx vn vc) (cCut (l.take (k + 1)) i)) := (by show SnO _ _ _ _; rw [E1.out]; exact hO3); have HB3 : Hid (Below w.heap.size w y3) := ((HBY.out.trans (HMB.out.mono hyz)).grown HGZ.out (Nat.le_trans hyz HMB.out.size) (fun j e => by cases e; exact hwC)).grown hG3 (Nat.le_trans hyz (Nat.le_trans HMB.out.size HGZ.out.size)) (fun j e => (HU.out.base j e).1); clear hO3 hG3 mc1 mf1 mc2 mf2 LZ; refine wpList_build_run _ _ _ rfl rfl [(0, _)] _ rfl hS1 ?_) | (at_builtin; refine wpList_append_run (.tmp 41) (.tmp 43) 22 rfl rfl _ _ _ rfl rfl (hA _) ?_))
        exact ⟨⟨k + 1, (vx, vn, vc), HLT.out, by first | simp | (rw [HW.out]; simp), rfl, HO3, HB3⟩, by have := HLT.out; first | (simp [intOf]; omega) | (rw [HW.out]; simp [intOf]; omega)⟩
      · have q1 : ((k : Int) == i) = false := by simpa using hki
        by_cases hA : i < 0 ∨ (len : Int) ≤ i ∨ (k : Int) < i
        · have E1 : Hid (cCut (l.take (k + 1)) i = cCut (l.take k) i ++ [s]) := cut_app hs (by have := HL.out; omega)
          go_wp2_with fail
          try go_at_call 45
          refine HCP.out.mono ?_
          rintro e y1 ⟨q2, rfl, hF, hbb⟩
          have HBB := Lib.hid hbb
          obtain ⟨j0, ⟨x, n, c⟩, ⟨yy, m, d⟩⟩ := q2
          have HF1 := Lib.hid hF
          have O1 := HU.out.below hbb
          have ST := new_sn y1 (j0, (x, n, c), (yy, m, d))
          obtain ⟨Y, hY⟩ : ∃ Y, y1.alloc (.cells (svL (j0, (x, n, c), (yy, m, d))).toArray 49) = Y := ⟨_, rfl⟩
          have bY : Below y1.heap.size y1 Y := by rw [← hY]; exact below_new _ _
          have rY : RowC Y y1.heap.size 49 (svL (j0, (x, n, c), (yy, m, d))) := by rw [← hY]; exact RowC.new y1 _ _
          rw [hY] at ST
          have HFY := Lib.hid (hF.below bY)
          have HOY := Lib.hid (O1.below bY)
          have HBY : Hid (Below w.heap.size w Y) := (HB.out.trans (hbb.mono hz)).trans (bY.mono (Nat.le_trans hz hbb.size))
          have hyz : w.heap.size ≤ Y.heap.size := HBY.out.size
          have hWY : W.heap.size ≤ y1.heap.size := hbb.size
          obtain ⟨C, hC⟩ : ∃ C, y1.heap.size = C := ⟨_, rfl⟩
          rw [hC] at ST rY
          have hwC : w.heap.size ≤ C := by omega
          have HRY := Lib.hid rY
          simp only [svV, slV] at ST ⊢
          have LZ := load_snC rY
          simp only [svV, slV] at LZ
          have HSZ : SnF w.heap.size Y (j0, (x, n, c), (yy, m, d)) s := HFY.out.weak hz
          obtain ⟨v3, y3, hA, O3, hg3⟩ := sn_append HOY.out (Nat.le_trans hyz (Nat.le_refl _)) HSZ (by omega)
          have S1 := slice_sn1 Y (j0, (x, n, c), (yy, m, d))
          obtain ⟨Y2, hY2⟩ : ∃ YY, Y.alloc (.cells (svL (j0, (x, n, c), (yy, m, d))).toArray 49) = YY := ⟨_, rfl⟩
          rw [hY2] at S1 hA
          have HB3 : Hid (Below w.heap.size w y3) := HBY.out.grown hg3 (Nat.le_trans hyz (Nat.le_refl _)) (fun j e => (HOY.out.base j e).1)
          have HO3 : Hid (SnO w.heap.size y3 v3 (cCut (l.take (k + 1)) i)) := by show SnO _ _ _ _; rw [E1.out]; exact O3
          obtain ⟨⟨vx, vn, vc⟩, rfl, -⟩ := HO3.out.isSl
          have HA := Lib.hid hA
          simp only [svV, slV] at S1 HA
          have HS1 := Lib.hid S1
          clear hF hbb O1 bY rY HCP LD hlt hs HSZ hA O3 hg3 hY2
          rcases (show i < 0 ∨ (¬ i < 0 ∧ i ≥ (len : Int)) ∨ (¬ i < 0 ∧ ¬ i ≥ (len : Int) ∧ (k : Int) ≤ i) by omega) with p1 | ⟨p1, p3⟩ | ⟨p1, p3, p5⟩
          · have p2 : decide (i < 0) = true := by simpa using p1
            go_wp2_with (first | ((with_reducible refine gate_build ?_); refine wpList_build_run 22 1 #[(0, .tmp 42)] rfl rfl [(0, _)] _ rfl HS1.out ?_) | (at_builtin; refine wpList_append_run (.tmp 41) (.tmp 43) 22 rfl rfl _ _ _ rfl rfl (HA.out _) ?_))
            exact ⟨⟨k + 1, (vx, vn, vc), HLT.out, by first | simp | (rw [HW.out]; simp), rfl, HO3, HB3⟩, by have := HLT.out; first | (simp [intOf]; omega) | (rw [HW.out]; simp [intOf]; omega)⟩
          · have p2 : decide (i < 0) = false := by simpa using p1
            have p4 : decide (i ≥ (len : Int)) = true := by simpa using p3
            go_wp2_with (first | ((with_reducible refine gate_build ?_); refine wpList_build_run 22 1 #[(0, .tmp 42)] rfl rfl [(0, _)] _ rfl HS1.out ?_) | (at_builtin; refine wpList_append_run (.tmp 41) (.tmp 43) 22 rfl rfl _ _ _ rfl rfl (HA.out _) ?_))
            exact ⟨⟨k + 1, (vx, vn, vc), HLT.out, by first | simp | (rw [HW.out]; simp), rfl, HO3, HB3⟩, by have := HLT.out; first | (simp [intOf]; omega) | (rw [HW.out]; simp [intOf]; omega)⟩
          · have p2 : decide (i < 0) = false := by simpa using p1
            have p4 : decide (i ≥ (len : Int)) = false := by simpa using p3
            have p6 : decide ((k : Int) ≤ i) = true := by simpa using p5
            go_wp2_with (first | ((with_reducible refine gate_build ?_); refine wpList_build_run 22 1 #[(0, .tmp 42)] rfl rfl [(0, _)] _ rfl HS1.out ?_) | (at_builtin; refine wpList_append_run (.tmp 41) (.tmp 43) 22 rfl rfl _ _ _ rfl rfl (HA.out _) ?_))
            exact ⟨⟨k + 1, (vx, vn, vc), HLT.out, by first | simp | (rw [HW.out]; simp), rfl, HO3, HB3⟩, by have := HLT.out; first | (simp [intOf]; omega) | (rw [HW.out]; simp [intOf]; omega)⟩
        · have E1 : Hid (cCut (l.take (k + 1)) i = cCut (l.take k) i) := cut_stay (by rw [HL.out]; exact hlt) (by omega) (by omega)
          have p1 : ¬ i < 0 := by omega
          have p2 : decide (i < 0) = false := by simpa using p1
          have p3 : ¬ i ≥ (len : Int) := by omega
          have p4 : decide (i ≥ (len : Int)) = false := by simpa using p3
          have p5 : ¬ (k : Int) ≤ i := by omega
          have p6 : decide ((k : Int) ≤ i) = false := by simpa using p5
          go_wp2_with fail
          try go_at_call 45
          refine HCP.out.mono ?_
          rintro e y1 ⟨q2, rfl, hF, hbb⟩
          have HBB := Lib.hid hbb
          obtain ⟨j0, ⟨x, n, c⟩, ⟨yy, m, d⟩⟩ := q2
          have HF1 := Lib.hid hF
          have O1 := HU.out.below hbb
          have ST := new_sn y1 (j0, (x, n, c), (yy, m, d))
          obtain ⟨Y, hY⟩ : ∃ Y, y1.alloc (.cells (svL (j0, (x, n, c), (yy, m, d))).toArray 49) = Y := ⟨_, rfl⟩
          have bY : Below y1.heap.size y1 Y := by rw [← hY]; exact below_new _ _
          have rY : RowC Y y1.heap.size 49 (svL (j0, (x, n, c), (yy, m, d))) := by rw [← hY]; exact RowC.new y1 _ _
          rw [hY] at ST
          have HFY := Lib.hid (hF.below bY)
          have HOY := Lib.hid (O1.below bY)
          have HBY : Hid (Below w.heap.size w Y) := (HB.out.trans (hbb.mono hz)).trans (bY.mono (Nat.le_trans hz hbb.size))
          have hyz : w.heap.size ≤ Y.heap.size := HBY.out.size
          have hWY : W.heap.size ≤ y1.heap.size := hbb.size
          obtain ⟨C, hC⟩ : ∃ C, y1.heap.size = C := ⟨_, rfl⟩
          rw [hC] at ST rY
          have hwC : w.heap.size ≤ C := by omega
          have HRY := Lib.hid rY
          simp only [svV, slV] at ST ⊢
          have HO3 : Hid (SnO w.heap.size Y (slV u) (cCut (l.take (k + 1)) i)) := by show SnO _ _ _ _; rw [E1.out]; exact HOY.out
          clear hF hbb O1 bY rY HCP LD hlt hs
          go_wp2_with fail
          exact ⟨⟨k + 1, u, HLT.out, by first | simp | (rw [HW.out]; simp), rfl, HO3, HBY⟩, by have := HLT.out; first | (simp [intOf]; omega) | (rw [HW.out]; simp [intOf]; omega)⟩
    · obtain rfl : k = len := by omega
      have HU2 : Hid (SnO w.heap.size W (slV u) (cCut l i)) := by
        have := HU.out
        rw [List.take_of_length_le (by rw [HL.out]; exact Nat.le_refl _)] at this
        exact this
      clear HU
      go_wp2_with fail
      refine bodyPost_ret (results_tmp rfl _ _ _) rfl ?_
      exact ⟨_, rfl, HU2.out, HB.out⟩
end Go.Proofs.Ytmhpjglmnfllfaa
