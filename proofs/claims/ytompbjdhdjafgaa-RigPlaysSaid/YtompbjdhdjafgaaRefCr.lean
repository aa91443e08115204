/- The document's own disk: Crash. -/
import Derived.Test.YtompbjdhdjafgaaRefLo
namespace Go.Proofs.Ytompbjdhdjafgaa
open Go.RowKit
set_option linter.unusedVariables false
attribute [-simp] Try.isAgg38 Try.zeroValue38
attribute [-go_sem] loadVar storeVar
attribute [local go_sem] zero_blk build_blk loadVar_open storeVar_open

theorem looseTo_nodup (D : Nat → Sec) (n : Nat) : (looseTo D n).Nodup := List.nodup_range.filter _
/-- What stands at place k, and what ahead of it. -/
theorem looseTo_place {D : Nat → Sec} {n k x : Nat} (h : (looseTo D n)[k]? = some x) : x < n ∧ (D x).vs ≠ [] ∧ (looseTo D n).take k = looseTo D x ∧ (looseTo D x).length = k ∧ x ∉ looseTo D x ∧ (looseTo D n).take (k + 1) = looseTo D x ++ [x] := by
  have hm := List.mem_of_getElem? h
  have hx := looseTo_lt hm
  have hv := looseTo_loose hm
  have hp : looseTo D x ++ [x] <+: looseTo D n := by
    rw [← looseTo_yes hv]
    have := looseTo_prefix D (x + 1) (n - (x + 1))
    rwa [show x + 1 + (n - (x + 1)) = n by omega] at this
  obtain ⟨t, ht⟩ := hp
  have h2 : (looseTo D n)[(looseTo D x).length]? = some x := by rw [← ht]; simp
  have hk : k = (looseTo D x).length := (List.getElem?_inj (List.getElem?_eq_some_iff.1 h).1 (looseTo_nodup D n)).1 (h.trans h2.symm)
  refine ⟨hx, hv, ?_, hk.symm, not_mem_self D x, ?_⟩
  · rw [hk, ← ht]; simp
  · rw [hk, ← ht, List.take_append_of_le_length (by simp), List.take_of_length_le (by simp)]

theorem list_form {w w1 : World} {l : List Nat} {v : Value} (h : w1.ownsRow w.heap.size 3 1 v l.length (ints l)) : ∃ a cap, v = .slice a l.length cap ∧ ∀ (k x : Nat), l[k]? = some x → ∃ g, a = some ⟨g, 0, none⟩ ∧ w.heap.size ≤ g ∧ g < w1.heap.size ∧ w1.cell? ⟨g, k, none⟩ = some (.int .i64 (x : Int)) := by
  have hc := h
  rcases h.2 with ⟨rfl, h0⟩ | ⟨g, cap, cur, rfl, h1, h2, _⟩
  · exact ⟨none, 0, by rw [h0], fun k x hk => by have := (List.getElem?_eq_some_iff.1 hk).1; omega⟩
  · refine ⟨_, cap, rfl, fun k x hk => ⟨g, rfl, h1, (Array.getElem?_eq_some_iff.1 h2).1, ?_⟩⟩
    have := hc.cells rfl k (.int .i64 (x : Int)) (by simp [ints, hk])
    rwa [show (⟨g, 0, none⟩ : Addr).add k = ⟨g, k, none⟩ by simp [Addr.add]; omega] at this

set_option maxRecDepth 100000 in
set_option maxHeartbeats 8000000 in
/-- **Crash**. -/
theorem refCrash (rq n : Nat) (f : Nat → Prop) (D : Nat → Sec) (v : Value) (bs : List Int) (w : World) (h : Ref w rq n f D) (hn : 0 < n) (hv : Sl .u8 w v bs) (hB : IsBytes bs) (hc : bs ≠ [] → Clear f v) (hl : ∀ i, i < n → (D i).vs.length ≤ 1000000) :
    Calls Try.prog 41 #[.pointer (some ⟨rq, 0, none⟩), v] w fun e w' => e = .returned (.tuple #[]) ∧ ∃ f', Ref w' rq n f' (settled D (crashG D bs) (looseTo D n)) ∧ Turn f f' w w' := by
  obtain ⟨g, hg⟩ : ∃ g : Nat → Nat, crashG D bs = g := ⟨_, rfl⟩
  rw [hg]
  have HLo := Lib.hid (refLoose rq n f D w h)
  obtain ⟨ss, vb, sv0, h, rfl⟩ := h
  obtain ⟨ad, cap, rfl, hcap, hmaxc, hlies, -⟩ := hv
  have HMX : Hid (n ≤ 4096) := h.max
  have HH := Lib.hid h
  have HG := Lib.hid hg
  have HC := Lib.hid hc
  have HLI := Lib.hid hlies
  have HBY := Lib.hid hB
  have HMC := Lib.hid hmaxc
  have HCAP := Lib.hid hcap
  obtain ⟨L, hL⟩ : ∃ L, bs.length = L := ⟨_, rfl⟩
  have HL := Lib.hid hL
  rw [hL] at hcap ⊢
  have HLV := Lib.hid hl
  clear h hg hc hlies hB hmaxc hcap hL hl
  have hmx : Try.prog.follows .mixedOrders = true := by kernel_rfl
  go_enter Try.func41, Try.ntmps41
  go_wp2_with fail
  refine HLo.out.mono ?_
  rintro e w1 ⟨lv, rfl, hrow, hb, -⟩
  obtain ⟨la, lcap, hlv, hlist⟩ := list_form hrow
  have BL := Lib.hid hb
  have hR1 : RefAt w1 rq ss vb n sv0 D := HH.out.kept fun k hk => hb.block k (HH.out.lt hn hk)
  have HP : Hid (RPart w1 rq ss vb n (rfoot rq ss vb n sv0) (settled D g ((looseTo D n).take 0)) w1) := by rw [List.take_zero, settled_nil]; exact ⟨sv0, hR1, Turn.refl _ _⟩
  have HLs := Lib.hid hlist
  obtain ⟨M, hM⟩ : ∃ M, (looseTo D n).length = M := ⟨_, rfl⟩
  rw [hM] at hlv
  subst hlv
  have HMl := Lib.hid hM
  have hMn : M ≤ n := by rw [← hM]; exact looseTo_length D n
  have HMn := Lib.hid hMn
  clear hrow hb hlist hR1 hM hMn
  go_wp2
  go_loopw [5] (fun i wr => ∃ k : Nat, k ≤ M ∧ i = .int .i64 k ∧ RPart w1 rq ss vb n (rfoot rq ss vb n sv0) (settled D g ((looseTo D n).take k)) wr) (fun i _ => M - (intOf i).toNat)
  case atStart => exact ⟨0, Nat.zero_le _, rfl, HP.out⟩
  case round =>
    obtain ⟨k, hk, rfl, sv, hR, hT⟩ := hrel
    by_cases hlt : k < M
    · obtain ⟨x, hx⟩ : ∃ x, (looseTo D n)[k]? = some x := ⟨_, List.getElem?_eq_getElem (by rw [HMl.out]; exact hlt)⟩
      obtain ⟨p1, p2, p3, p4, p5, p6⟩ := looseTo_place hx
      obtain ⟨lg, rfl, q1, q2, q3⟩ := HLs.out k x hx
      have hlcell : wr.cell? ⟨lg, k, none⟩ = some (.int .i64 (x : Int)) := (World.cell?_of_block (a := ⟨lg, k, none⟩) (hT.out lg q2 (fun hf => by have := HH.out.lt hn hf; omega))).trans q3
      have hDx : settled D g ((looseTo D n).take k) x = D x := by rw [p3]; exact settled_not p5
      obtain ⟨m, hm⟩ : ∃ m, (D x).vs.length = m := ⟨_, rfl⟩
      have hgx : g x = crashK bs k m := by rw [← HG.out, crashG, p4, hm]
      have hgm : g x ≤ m := by rw [hgx]; exact crashK_le _ _ _
      have key : ∀ y : Ext wr, RefAt y.1 rq ss vb n sv (settled D g ((looseTo D n).take k)) := fun y => hR.kept fun q hq => y.2.block q (hR.lt hn hq)
      have hC0 : ∀ y : Ext wr, y.1.cell? ⟨rq, 0, none⟩ = some (.slice (some ⟨ss, 0, none⟩) n n) := fun y => by rw [cell_of_row _ _ _ _ _ _ (key y).head]; rfl
      have hC1 : ∀ y : Ext wr, y.1.cell? ⟨rq, 1, none⟩ = some (.slice (some ⟨vb, 0, none⟩) n n) := fun y => by rw [cell_of_row _ _ _ _ _ _ (key y).head]; rfl
      obtain ⟨a, vcap, hf, hvc, hvm, hvn, hvs⟩ := row_form (hR.ok x p1).2 (hR.row x p1)
      rw [hDx] at hf hvc hvn hvs
      have hC2 : ∀ y : Ext wr, y.1.cell? ⟨vb, x, none⟩ = some (.slice a m vcap) := fun y => by rw [(key y).ver x p1, hf, hm]
      have hF2 : ∀ y : Ext wr, y.1.frozen? ⟨vb, x, none⟩ = false := fun y => by have := ((key y).thereV x p1).2; rwa [Nat.zero_add] at this
      -- where nothing is taken
      have HF0 : Hid (g x = 0 → ∀ y : Ext wr, RPart w1 rq ss vb n (rfoot rq ss vb n sv0) (settled D g ((looseTo D n).take (k + 1))) (y.1.setCell ⟨vb, x, none⟩ (.slice none 0 0))) := by
        intro h0 y
        obtain ⟨z1, z2⟩ := hR.setV (v' := .slice none 0 0) (vs' := []) p1 y.2 (by simp) (World.ownsRow_nil _ _ _ _)
        refine ⟨_, ?_, hT.trans z2⟩
        rw [p6, settled_snoc, ← p3, h0]
        rw [hDx] at z1
        exact z1
      -- where the version r is taken
      have HF1 : Hid (∀ (r : Nat) (u : List Value), g x = r + 1 → (D x).vs[r]? = some u → ∀ y : Ext wr, ∃ y2, (storeVar 38 ⟨ss, x * 64, none⟩ (.agg u.toArray)).run Try.prog y.1 = .ok () y2 ∧ y2.cell? ⟨rq, 1, none⟩ = some (.slice (some ⟨vb, 0, none⟩) n n) ∧ (∃ v, y2.cell? ⟨vb, x, none⟩ = some v) ∧ y2.frozen? ⟨vb, x, none⟩ = false ∧ RPart w1 rq ss vb n (rfoot rq ss vb n sv0) (settled D g ((looseTo D n).take (k + 1))) (y2.setCell ⟨vb, x, none⟩ (.slice none 0 0))) := by
        intro r u h0 hu y
        have hok : IsBlk u := by have := (hR.ok x p1).2 u; rw [hDx] at this; exact this (List.mem_of_getElem? hu)
        have hx := key y
        obtain ⟨z1, z2⟩ := hR.setS p1 y.2 hok
        refine ⟨_, store_blk (fun j hj => ?_) hok, ?_, ⟨_, z1.ver x p1⟩, ?_, ?_⟩
        · have := hx.thereS (x * 64 + j) (by omega)
          rwa [Nat.zero_add] at this
        · rw [cell_of_row _ _ _ _ _ _ z1.head]; rfl
        · have := (z1.thereV x p1).2; rwa [Nat.zero_add] at this
        · obtain ⟨z3, z4⟩ := z1.setV (v' := .slice none 0 0) (vs' := []) p1 (Below.refl _ _) (by simp) (World.ownsRow_nil _ _ _ _)
          refine ⟨_, ?_, (hT.trans z2).trans z4⟩
          rw [p6, settled_snoc, ← p3, h0]
          have e : (D x).settle (r + 1) = ⟨u, []⟩ := by simp [Sec.settle, hu]
          rw [e]
          rw [upd_same] at z3
          have e2 : ∀ (E : Nat → Sec) (s t : Sec), upd (upd E x s) x t = upd E x t := fun E s t => by
            funext j
            by_cases ej : j = x
            · subst ej; rw [upd_same, upd_same]
            · rw [upd_other _ _ ej, upd_other _ _ ej, upd_other _ _ ej]
          rw [e2] at z3
          exact z3
      have c1 := hC1 ⟨wr, Below.refl _ _⟩
      have c2 := hC2 ⟨wr, Below.refl _ _⟩
      have f2 := hF2 ⟨wr, Below.refl _ _⟩
      have g1 : (x : Int) < (n : Int) := by omega
      have g2 : (k : Int) < (M : Int) := by omega
      have HLT := Lib.hid hlt
      have HMm : Hid ((m : Int) ≤ 1000000) := by have := HLV.out x p1; show _ ≤ _; omega
      have HW : Hid (wrap64 ((k : Int) + 1) = (k : Int) + 1) := IntWalk.wrap64_in _ (by have := HMn.out; have := HMX.out; omega)
      by_cases hKL : k < L
      · obtain ⟨b, off, rfl, hbw, hby⟩ : ∃ b off, ad = some ⟨b, off, none⟩ ∧ b < w.heap.size ∧ ∀ j, j < bs.length → w.cell? ⟨b, off + j, none⟩ = some (.int .u8 (bs[j]?.getD 0)) := by
          rcases HLI.out with e | e
          · have := HL.out; rw [e] at this; simp at this; omega
          · exact e
        obtain ⟨y, hy⟩ : ∃ y, bs[k]?.getD 0 = y := ⟨_, rfl⟩
        obtain ⟨y0, y1⟩ := HBY.out k
        rw [hy] at y0 y1
        have hbw1 := Nat.lt_of_lt_of_le hbw BL.out.size
        have hD3 : ∀ z : Ext wr, z.1.cell? ⟨b, off + k, none⟩ = some (.int .u8 y) := fun z => by
          rw [← hy, ← hby k (by rw [HL.out]; exact hKL)]
          exact World.cell?_of_block (a := ⟨b, off + k, none⟩) ((z.2.block b (Nat.lt_of_lt_of_le hbw1 hT.size)).trans ((hT.out b hbw1 (HC.out (fun e => by have := HL.out; rw [e] at this; simp at this; omega) b off _ _ rfl)).trans (BL.out.block b hbw)))
        obtain ⟨q, hq⟩ : ∃ q, g x = q := ⟨_, rfl⟩
        have hqy : q = y.toNat % (m + 1) := by rw [← hq, hgx, crashK, if_pos (by rw [HL.out]; exact hKL), hy]
        have HQY : Hid (y % ((m : Int) + 1) = (q : Int)) := by
          show _ = _
          obtain ⟨z, rfl⟩ := Int.eq_ofNat_of_zero_le y0
          rw [hqy, Int.toNat_natCast, Int.natCast_emod, Int.natCast_add]
          rfl
        have g3 : (k : Int) < (L : Int) := by omega
        have d3 := hD3 ⟨wr, Below.refl _ _⟩
        have hm1 := HMm.out
        have k0 : Hid (∃ z : Ext wr, wr.drew = z.1) := ⟨⟨wr.drew, (Below.refl _ wr).drew⟩, rfl⟩
        cases q with
        | zero =>
          have HFin := Lib.hid (HF0.out hq ⟨wr.drew, (Below.refl _ wr).drew⟩)
          clear hR hT hk hlt hx p1 p2 p3 p4 p5 p6 q1 q2 q3 hDx hgx hgm key hf hvc hvm hvn hvs hm hKL hq hqy hby hbw hbw1 hy HF1 HF0
          go_wp2_with fail
          refine region_plan (fun z => ∃ y : Ext wr, z = y.1) 15 (.takes [0, 1, 2, 3, 4, 5, 6, 7, 8, 9, 10, 11, 12, 13, 14] .leaf) hmx (by kernel_rfl) (by intro c x v a w h; cases x <;> exact h) k0.out ?_
          repeat (rw [wpPlan_takes_cons]; simp only [nth_zero, nth_succ]; go_big_quiet_step (fail); refine wpQuiet_nil ?_)
          rw [wpPlan_takes_nil, wpPlan_leaf]
          simp only [List.drop_succ_cons, List.drop_zero]
          rw [HQY.out]
          clear hm1 y0 y1 HQY
          go_wp2_with fail
          exact ⟨next_rel (C := fun k => RPart w1 rq ss vb n (rfoot rq ss vb n sv0) (settled D g ((looseTo D n).take k)) _) HW.out HLT.out HFin.out, next_lt HW.out HLT.out⟩
        | succ r =>
          have hrm : r < m := by omega
          obtain ⟨u, hu⟩ : ∃ u, (D x).vs[r]? = some u := ⟨_, List.getElem?_eq_getElem (by rw [hm]; exact hrm)⟩
          have hok : IsBlk u := by have := (hR.ok x p1).2 u; rw [hDx] at this; exact this (List.mem_of_getElem? hu)
          obtain ⟨gv, rfl, hvg⟩ : ∃ gv, a = some ⟨gv, 0, none⟩ ∧ ∀ z : Ext wr, (loadVar 38 ⟨gv, r * 64, none⟩).run Try.prog z.1 = .ok (.agg u.toArray) z.1 := by
            cases a with
            | none => have := (hvn rfl).2; rw [this] at hu; simp at hu
            | some ad' =>
              obtain ⟨gv, rfl, h1, h2, h3⟩ := hvs ad' rfl
              exact ⟨gv, rfl, fun z => load_blk (rangeAt_same (h3 r u hu) (z.2.block gv h2)) hok.length⟩
          obtain ⟨y2, s1, s2, ⟨sv2, s3⟩, s4, s5⟩ := HF1.out r u hq hu ⟨wr.drew.drew, (Below.refl _ wr).drew.drew⟩
          have HFin := Lib.hid s5
          have HS1 := Lib.hid s1
          have k1 : Hid (∃ z : Ext wr, wr.drew.drew = z.1) := ⟨⟨wr.drew.drew, (Below.refl _ wr).drew.drew⟩, rfl⟩
          have g4 : decide ((0 : Int) < (r : Int) + 1) = true := by simp
          have g5 : (r : Int) < (m : Int) := by omega
          have hw2 : wrap64 (r : Int) = (r : Int) := IntWalk.wrap64_in _ (by omega)
          clear hR hT hk hlt hx p1 p2 p3 p4 p5 p6 q1 q2 q3 hDx hgx hgm key hf hvc hvm hvn hvs hm hKL hq hqy hby hbw hbw1 hy HF1 HF0 hrm hu hok s5
          go_wp2_with fail
          refine region_plan (fun z => ∃ y : Ext wr, z = y.1) 15 (.takes [0, 1, 2, 3, 4, 5, 6, 7, 8, 9, 10, 11, 12, 13, 14] .leaf) hmx (by kernel_rfl) (by intro c x v a w h; cases x <;> exact h) k0.out ?_
          repeat (rw [wpPlan_takes_cons]; simp only [nth_zero, nth_succ]; go_big_quiet_step (fail); refine wpQuiet_nil ?_)
          rw [wpPlan_takes_nil, wpPlan_leaf]
          simp only [List.drop_succ_cons, List.drop_zero]
          rw [HQY.out]
          clear hm1 y0 y1 HQY
          go_wp2_with fail
          refine region_plan (fun z => ∃ y : Ext wr, z = y.1) 16 (.takes [0, 1, 2, 3, 4, 5, 6, 7, 8, 9, 10, 11, 12, 13, 14, 15] .leaf) hmx (by kernel_rfl) (by intro c x v a w h; cases x <;> exact h) k1.out ?_
          repeat (rw [wpPlan_takes_cons]; simp only [nth_zero, nth_succ]; go_big_quiet_step (fail); refine wpQuiet_nil ?_)
          rw [wpPlan_takes_nil, wpPlan_leaf]
          simp only [List.drop_succ_cons, List.drop_zero]
          go_wp2_with fail
          exact ⟨next_rel (C := fun k => RPart w1 rq ss vb n (rfoot rq ss vb n sv0) (settled D g ((looseTo D n).take k)) _) HW.out HLT.out HFin.out, next_lt HW.out HLT.out⟩
      · have hq0 : g x = 0 := by rw [hgx]; unfold crashK; rw [if_neg (by rw [HL.out]; exact hKL)]
        have HFin := Lib.hid (HF0.out hq0 ⟨wr, Below.refl _ _⟩)
        have g3 : ¬ ((k : Int) < (L : Int)) := by omega
        clear hR hT hk hlt hx p1 p2 p3 p4 p5 p6 q1 q2 q3 hDx hgx hgm key hf hvc hvm hvn hvs hm hKL hq0 hC0 hC1 hC2 hF2
        go_wp2_with fail
        exact ⟨next_rel (C := fun k => RPart w1 rq ss vb n (rfoot rq ss vb n sv0) (settled D g ((looseTo D n).take k)) _) HW.out HLT.out HFin.out, next_lt HW.out HLT.out⟩
    · obtain rfl : k = M := by omega
      have HE : Hid (∃ f', Ref wr rq n f' (settled D g (looseTo D n)) ∧ Turn (rfoot rq ss vb n sv0) f' w wr) := by
        rw [List.take_of_length_le (by rw [HMl.out]; exact Nat.le_refl _)] at hR
        exact ⟨_, ⟨ss, vb, sv, hR, rfl⟩, (Turn.of_below BL.out).trans hT⟩
      clear hR hT hk hlt
      go_wp2_with fail
      go_end0
      exact ⟨rfl, HE.out⟩
end Go.Proofs.Ytompbjdhdjafgaa
