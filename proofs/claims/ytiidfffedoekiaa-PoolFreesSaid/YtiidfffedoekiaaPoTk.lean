/- The developers' Take. -/
import Derived.Test.YtiidfffedoekiaaPoFr
import Derived.Test.YtiidfffedoekiaaChBx
import Derived.Test.YtiidfffedoekiaaQuiet
namespace Go.Proofs.Ytiidfffedoekiaa
open Go.RowKit Go.Shelf Go.Lib Go.Sort
set_option linter.unusedVariables false
set_option linter.unusedSimpArgs false
attribute [-simp] Try.isAgg39 Try.zeroValue39 Try.isAgg42 Try.zeroValue42 Try.isAgg48 Try.zeroValue48
attribute [-go_sem] loadVar storeVar
attribute [local go_sem] loadVar_openQ storeVar_openQ zero_sn zero_prs zero_st
attribute [local go_sem] Oper.semAt_some

theorem letsOut_numG {B G : Nat} {I : Nat → World → Prop} {Ix : Code → Nat → World → Prop} {k : Nat} {W : World} : ¬ LetsOut (numPostG B G I Ix k W) := fun ⟨a, w, e⟩ => e
/-- The numbers taken. -/
def tkL (fl : List Nat) (k : Nat) : List Int := (fl.take k).map fun v : Nat => (v : Int)
theorem tkL_succ {fl : List Nat} {k v : Nat} (h : fl[k]? = some v) : tkL fl (k + 1) = tkL fl k ++ [(v : Int)] := by
  unfold tkL
  rw [List.take_add_one, h]
  simp
theorem tkL_len (fl : List Nat) (k : Nat) : (tkL fl k).length = min k fl.length := by unfold tkL; simp
/-- What a round of Take keeps. -/
structure TkI (B D G : Nat) (q : PS) (ar n : Int) (fl : List Nat) (w : World) (k : Nat) (W : World) : Prop where
  n0 : RowC W (B + 1) 3 [.int .i64 n]
  tk : ∃ u : SlV, RowC W D 35 [slV u] ∧ InO G W (slV u) (tkL fl k)
  cs : RowC W (D + 1) 48 (stL q)
  ca : RowC W (D + 2) 3 [.int .i64 ar]
  be : Below B w W
theorem TkI.own {B D G N k : Nat} {q : PS} {ar n : Int} {fl : List Nat} {w x y : World} {row : Option Nat} (h : TkI B D G q ar n fl w k x) (hB : B ≤ w.heap.size) (hN : w.heap.size ≤ N) (hg : x.grownBy y row) (hr : ∀ r, row = some r → N ≤ r ∧ ∃ o : Obj, x.heap[r]? = some o ∧ o.isCells = false) : TkI B D G q ar n fl w k y := by
  obtain ⟨u, h1, h2⟩ := h.tk
  exact ⟨rowC_own h.n0 hg hr, ⟨u, rowC_own h1 hg hr, row_own h2 hg hr⟩, rowC_own h.cs hg hr, rowC_own h.ca hg hr, below_own h.be hB hg (fun r e => ⟨by have := (hr r e).1; omega, (hr r e).2⟩)⟩
/-- What is told. -/
def tkErr (m : Nat) (n : Int) : Int := if n < 0 ∨ 4096 < n then 1 else if (m : Int) < n then 12 else 0
def tkLst (fl : List Nat) (n : Int) : List Int := if tkErr fl.length n = 0 then tkL fl n.toNat else []

set_option maxRecDepth 100000 in
set_option maxHeartbeats 4000000 in
/-- **Take**. -/
theorem po_take {w : World} {q : PS} {l : List SN} {ps : List (Int × Int)} (h : StIs w q l ps) (hK : Lens 200 l) (hp : ps.length ≤ 200) (ar : Nat) (har : ar ≤ 1000) (n : Int) :
    Calls Try.prog 28 #[stV q, .int .i64 (ar : Int), .int .i64 n] w fun e w' => ∃ u : SlV, e = .returned (.tuple #[slV u, .int .i64 (tkErr (pFree (pUsed l ps) ar).length n)]) ∧ InO w.heap.size w' (slV u) (tkLst (pFree (pUsed l ps) ar) n) ∧ Below w.heap.size w w' := by
  have hmx : Try.prog.follows .mixedOrders = true := by kernel_rfl
  have hq : StIs w q l ps := h
  obtain ⟨⟨dx, dn, dc⟩, ⟨sx, sn, sc⟩, nx, kd, id, ⟨px, pn, pc⟩⟩ := q
  obtain ⟨B, hB⟩ : ∃ B, w.heap.size = B := ⟨_, rfl⟩
  have HSZ := Lib.hid hB
  obtain ⟨X, hX⟩ : ∃ X, (w.alloc (.cells #[.slice dx dn dc, .slice sx sn sc, .int .i64 nx, .int .i64 kd, .int .i64 id, .slice px pn pc] 48)).alloc (.cells #[.int .i64 n] 3) = X := ⟨_, rfl⟩
  have hXs : X.heap.size = B + 2 := by rw [← hX, ← hB]; simp
  have hXb : Below B w X := by rw [← hX, ← hB]; exact ((Below.refl _ w).alloc (Nat.le_refl _) _).alloc (by simp) _
  have k0 : RowC X B 48 (stL ⟨(dx, dn, dc), (sx, sn, sc), nx, kd, id, (px, pn, pc)⟩) := by rw [← hX, ← hB]; exact (RowC.new w _ _).below (below_new _ _)
  have k1 : RowC X (B + 1) 3 [.int .i64 n] := by
    rw [← hX, ← hB]
    have := RowC.new (w.alloc (.cells #[.slice dx dn dc, .slice sx sn sc, .int .i64 nx, .int .i64 kd, .int .i64 id, .slice px pn pc] 48)) 3 [.int .i64 n]
    rwa [World.size_alloc] at this
  obtain ⟨fl, hfl⟩ : ∃ fl, pFree (pUsed l ps) ar = fl := ⟨_, rfl⟩
  have hfll : fl.length ≤ 1000 := by
    have := free_len (used_rise l ps) ar
    rw [hfl] at this
    omega
  have HXB := Lib.hid hXb
  have c1 : ∀ z : Ext X, z.1.cell? ⟨B + 1, 0, none⟩ = some (.int .i64 n) := fun z => (k1.below z.2).cell 0 _ rfl
  by_cases h1 : n < 0 ∨ 4096 < n
  · have HE : Hid (tkErr fl.length n = 1) := by show _ = _; unfold tkErr; rw [if_pos h1]
    have HLs : Hid (tkLst fl n = []) := by show _ = _; unfold tkLst; rw [HE.out, if_neg (by decide)]
    have d1 := k1.cell 0 _ rfl
    rw [hfl, HE.out, HLs.out]
    by_cases hn0 : n < 0
    · have q0 : decide (n < 0) = true := by simpa using hn0
      clear hXs hXb k0 k1 hfl hfll c1 h1 h hq hK hp HLs HE
      go_enter Try.func28, Try.ntmps28
      simp only [stV, stL, slV]
      go_wp2_with fail
      go_ret2
      first | exact ⟨(none, 0, 0), rfl, InO.nil _ _, by rw [HSZ.out]; exact HXB.out⟩ | exact ⟨none, 0, 0, rfl, InO.nil _ _, HXB.out⟩
    · have q0 : decide (n < 0) = false := by simpa using hn0
      have q1 : decide (n > 4096) = true := by simp; omega
      clear hXs hXb k0 k1 hfl hfll c1 h1 h hq hK hp HLs HE
      go_enter Try.func28, Try.ntmps28
      simp only [stV, stL, slV]
      go_wp2_with fail
      go_ret2
      first | exact ⟨(none, 0, 0), rfl, InO.nil _ _, by rw [HSZ.out]; exact HXB.out⟩ | exact ⟨none, 0, 0, rfl, InO.nil _ _, HXB.out⟩
  · have q0 : decide (n < 0) = false := by simp; omega
    have q1 : decide (n > 4096) = false := by simp; omega
    obtain ⟨m, rfl⟩ : ∃ m : Nat, n = (m : Int) := ⟨n.toNat, by omega⟩
    have hm4 : m ≤ 4096 := by omega
    have d1 := k1.cell 0 _ rfl
    have hqX := hq.below (by rw [hB]; exact hXb)
    have LS : ∀ z : Ext X, (loadVar 48 ⟨B, 0, none⟩).run Try.prog z.1 = .ok (.agg #[.slice dx dn dc, .slice sx sn sc, .int .i64 nx, .int .i64 kd, .int .i64 id, .slice px pn pc]) z.1 := fun z => load_stC (k0.below z.2)
    have hf0 : ∀ z : Ext X, Calls Try.prog 27 #[.agg #[.slice dx dn dc, .slice sx sn sc, .int .i64 nx, .int .i64 kd, .int .i64 id, .slice px pn pc], .int .i64 (ar : Int)] z.1 fun e w'' => e = .returned (.int .i64 ((fl.length : Nat) : Int)) ∧ ∃ y : Ext X, w'' = y.1 := fun z => by
      have := po_free (hqX.below z.2) hK hp ar har
      rw [hfl] at this
      exact calls_ext z this
    have HF := Lib.hid hf0
    obtain ⟨fn, hfn⟩ : ∃ fn, fl.length = fn := ⟨_, rfl⟩
    by_cases hs : fn < m
    · have HE : Hid (tkErr fl.length (m : Int) = 12) := by show _ = _; unfold tkErr; rw [if_neg h1, if_pos (by omega)]
      have HLs : Hid (tkLst fl (m : Int) = []) := by show _ = _; unfold tkLst; rw [HE.out, if_neg (by decide)]
      rw [hfl, HE.out, HLs.out]
      rw [hfn] at HF
      have q2 : decide ((fn : Int) < (m : Int)) = true := by simp; omega
      have q2n : decide (fn < m) = true := by simp; omega
      clear hXs hXb k0 k1 hfl hfll h1 h hq hK hp HLs HE hf0 hfn hs hqX
      go_enter Try.func28, Try.ntmps28
      simp only [stV, stL, slV]
      go_wp2_with fail
      try rw [hX]
      clear hX hB
      refine region_ext (by kernel_rfl) (by kernel_rfl) ?_
      repeat (go_big_quiet_step (with_reducible (first | exact HF.out _)))
      try (with_reducible refine wpQuiet_nil ?_)
      intro z
      have HBZ : Hid (Below B w z.1) := HXB.out.trans (z.2.mono (by rw [← HSZ.out]; exact HXB.out.size))
      clear c1 LS HF
      go_wp2_with fail
      go_ret2
      first | exact ⟨(none, 0, 0), rfl, InO.nil _ _, by rw [HSZ.out]; exact HBZ.out⟩ | exact ⟨none, 0, 0, rfl, InO.nil _ _, by rw [HSZ.out]; exact HBZ.out⟩
    · have HE : Hid (tkErr fl.length (m : Int) = 0) := by show _ = _; unfold tkErr; rw [if_neg h1, if_neg (by omega)]
      have HLs : Hid (tkLst fl (m : Int) = tkL fl m) := by show _ = _; unfold tkLst; rw [HE.out, if_pos rfl, Int.toNat_natCast]
      rw [hfl, HE.out, HLs.out]
      rw [hfn] at HF
      have q2 : decide ((fn : Int) < (m : Int)) = false := by simp; omega
      have HFN := Lib.hid hfn
      have HMF : Hid (m ≤ fn) := by show _ ≤ _; omega
      have HK0 := Lib.hid k0
      have HK1 := Lib.hid k1
      have HQX := Lib.hid hqX
      have HFL := Lib.hid hfl
      have HQ0 := Lib.hid hq
      have HKL := Lib.hid hK
      have HPL := Lib.hid hp
      clear hXb k0 k1 hfl h1 h hq hK hp HLs HE hf0 hfn hs hqX d1
      refine (callsIn_wide (n := 3)).1 ?_
      refine callsIn_of_wp_marks Try.func28 rfl trivial ?_ rfl
      simp only [Try.ntmps28, List.size_toArray, List.length_cons, List.length_nil, Nat.reduceAdd, Nat.reduceSub, Array.replicate_succ, Array.replicate_zero, List.push_toArray, List.append_toArray, List.nil_append, List.cons_append]
      simp only [stV, stL, slV]
      have d1 := HK1.out.cell 0 _ rfl
      gi_wp2
      try rw [hX]
      clear hX hB d1
      refine wpIn_wide.2 ?_
      refine region_ext (by kernel_rfl) (by kernel_rfl) ?_
      repeat (go_big_quiet_step (with_reducible (first | exact HF.out _)))
      try (with_reducible refine wpQuiet_nil ?_)
      intro z
      obtain ⟨x, hzx⟩ : ∃ x, z.1 = x := ⟨_, rfl⟩
      have hbx : Below X.heap.size X x := by rw [← hzx]; exact z.2
      rw [hzx]
      clear hzx
      have hsx : B + 2 ≤ x.heap.size := by have := hbx.size; omega
      have r0 := HK0.out.below hbx
      have r1 := HK1.out.below hbx
      have hbx2 : Below B w x := HXB.out.trans (hbx.mono (by omega))
      have q2n : decide (fn < m) = false := by have := HMF.out; simp; omega
      have q3 : ¬ fn < m := by have := HMF.out; omega
      have LX : (loadVar 48 ⟨B, 0, none⟩).run Try.prog x = .ok (.agg #[.slice dx dn dc, .slice sx sn sc, .int .i64 nx, .int .i64 kd, .int .i64 id, .slice px pn pc]) x := load_stC r0
      obtain ⟨D, hD⟩ : ∃ D, x.heap.size = D := ⟨_, rfl⟩
      obtain ⟨Y, hY⟩ : ∃ Y, x.alloc (.cells #[.slice none 0 0] 35) = Y := ⟨_, rfl⟩
      have hYs : Y.heap.size = D + 1 := by rw [← hY, ← hD]; simp
      have hYb : Below x.heap.size x Y := by rw [← hY]; exact below_new _ _
      have s0 := r0.below hYb
      have s1 := r1.below hYb
      have s2 : RowC Y D 35 [.slice none 0 0] := by rw [← hY, ← hD]; exact RowC.new x _ _
      have LY : (loadVar 48 ⟨B, 0, none⟩).run Try.prog Y = .ok (.agg #[.slice dx dn dc, .slice sx sn sc, .int .i64 nx, .int .i64 kd, .int .i64 id, .slice px pn pc]) Y := load_stC s0
      have hbY : Below B w Y := hbx2.trans (hYb.mono (by omega))
      have HQY := HQX.out.below hbx
      obtain ⟨W0, hW0⟩ : ∃ W0, (Y.alloc (.cells (stL ⟨(dx, dn, dc), (sx, sn, sc), nx, kd, id, (px, pn, pc)⟩).toArray 48)).alloc (.cells #[.int .i64 (ar : Int)] 3) = W0 := ⟨_, rfl⟩
      have hWs : W0.heap.size = D + 3 := by rw [← hW0]; simp [hYs]
      have hWb : Below Y.heap.size Y W0 := by rw [← hW0]; exact ((Below.refl _ Y).alloc (Nat.le_refl _) _).alloc (by simp) _
      have t1 := s1.below hWb
      have t2 := s2.below hWb
      have t3 : RowC W0 (D + 1) 48 (stL ⟨(dx, dn, dc), (sx, sn, sc), nx, kd, id, (px, pn, pc)⟩) := by
        rw [← hW0, ← hYs]; exact (RowC.new Y _ _).below (below_new _ _)
      have t4 : RowC W0 (D + 2) 3 [.int .i64 (ar : Int)] := by
        rw [← hW0]
        have := RowC.new (Y.alloc (.cells (stL ⟨(dx, dn, dc), (sx, sn, sc), nx, kd, id, (px, pn, pc)⟩).toArray 48)) 3 [.int .i64 (ar : Int)]
        rw [World.size_alloc, hYs] at this
        exact this
      have t5 : Below B w W0 := hbY.trans (hWb.mono (by omega))
      have HQw : Hid (StIs w ⟨(dx, dn, dc), (sx, sn, sc), nx, kd, id, (px, pn, pc)⟩ l ps) := HQ0.out
      have HBXX : Hid (Below B w x) := hbx2
      have HXW : Hid (Below x.heap.size x W0) := hYb.trans (hWb.mono hYb.size)
      have T1 := Lib.hid t1
      have T2 := Lib.hid t2
      have T3 := Lib.hid t3
      have T4 := Lib.hid t4
      have T5 := Lib.hid t5
      have HSX := Lib.hid hsx
      clear c1 LS HF hbx hsx r0 r1 hbx2 hYb s0 s1 s2 hbY HQY hWb t1 t2 t3 t4 t5 HK0 HK1 HQX hXs q0 q1 HXB
      gi_wp2_with (refine ⟨trivial, ?_⟩; gi_at_call 49; refine (free_in _ _ trivial rfl ⟨(dx, dn, dc), (sx, sn, sc), nx, kd, id, (px, pn, pc)⟩ _ _).mono ?_; rintro e w' ⟨rfl, hw'⟩; rw [hw'.trans hW0]; clear hw' w')
      try rw [hD]
      try rw [hYs]
      have HW := Lib.hid hWs
      have HDX : Hid (B + 2 ≤ D) := by show _ ≤ _; rw [← hD]; exact HSX.out
      have hseq := free1_seq 2 (by omega) (D + 1) (D + 2) ⟨(dx, dn, dc), (sx, sn, sc), nx, kd, id, (px, pn, pc)⟩ ar har l ps HKL.out HPL.out W0
      rw [HFL.out] at hseq
      clear hW0 hD hY hYs LX LY q2 q2n q3
      refine wpIn_rangeFunc_numG (n := 3) rfl (by omega) (gf := 65) (lb := #[.pointer (some ⟨D + 1, 0, none⟩), .pointer (some ⟨D + 2, 0, none⟩)]) rfl trivial (enters_of Try.func65 (by kernel_rfl) rfl)
        hseq (Below.refl _ _) (fun _ => rfl)
        (fun G k W => TkI B D G ⟨(dx, dn, dc), (sx, sn, sc), nx, kd, id, (px, pn, pc)⟩ (ar : Int) (m : Int) fl w k W ∧ k ≤ m)
        (fun G c k W => c = .exit 0 ∧ TkI B D G ⟨(dx, dn, dc), (sx, sn, sc), nx, kd, id, (px, pn, pc)⟩ (ar : Int) (m : Int) fl w m W)
        ?hR ?hI ?hIx ?h0
        (fun k a' W => ∃ v : Nat, fl[k]? = some v ∧ a' = { tmps := #[.agg #[.slice dx dn dc, .slice sx sn sc, .int .i64 nx, .int .i64 kd, .int .i64 id, .slice px pn pc], .int .i64 (ar : Int), .int .i64 (m : Int), .pointer (some ⟨B, 0, none⟩), undef, .pointer (some ⟨B + 1, 0, none⟩), .slice none 0 0, .int .i64 0, .pointer (some ⟨D, 0, none⟩), .int .i64 (v : Int), .int .i64 (m : Int), .bool false, .bool false, .int .i64 (m : Int), .bool false, .bool false, .agg #[.slice dx dn dc, .slice sx sn sc, .int .i64 nx, .int .i64 kd, .int .i64 id, .slice px pn pc], .int .i64 (ar : Int), .int .i64 (fn : Int), .int .i64 (m : Int), .bool false, .agg #[.slice dx dn dc, .slice sx sn sc, .int .i64 nx, .int .i64 kd, .int .i64 id, .slice px pn pc], .int .i64 (ar : Int), .func (.func 65) #[] #[.pointer (some ⟨D + 1, 0, none⟩), .pointer (some ⟨D + 1 + 1, 0, none⟩)], .int .i64 (v : Int), undef, undef, undef, undef, undef, undef, undef, undef, undef], defers := [] })
        ?hAx ?assign ?body ?done ?stop
      case hR =>
        rintro G k W ⟨h, -⟩
        exact ⟨h.cs, h.ca.cell 0 _ rfl, HQw.out.below (by rw [HSZ.out]; exact h.be)⟩
      case hI =>
        rintro G k Y Z row ⟨h, h2⟩ hg hr
        exact ⟨h.own (N := W0.heap.size) (by rw [HSZ.out]; exact Nat.le_refl _) T5.out.size hg hr, h2⟩
      case hIx =>
        rintro G c k Y Z row ⟨h1, h⟩ hg hr
        exact ⟨h1, h.own (N := W0.heap.size) (by rw [HSZ.out]; exact Nat.le_refl _) T5.out.size hg hr⟩
      case h0 =>
        intro G hG
        exact ⟨⟨T1.out, ⟨(none, 0, 0), T2.out, InO.nil _ _⟩, T3.out, T4.out, T5.out⟩, Nat.zero_le _⟩
      case hAx =>
        rintro k a' _ Y Z row ⟨v, f1, f2⟩ hg hr
        exact ⟨v, f1, f2⟩
      case assign =>
        rintro lp G k W K hG hG2 hkm ⟨h, h2⟩ hK
        obtain ⟨v, hv⟩ : ∃ v, fl[k]? = some v := ⟨_, List.getElem?_eq_getElem hkm⟩
        have hK := hK _ _ (KeepsFrom.refl _ _) (StayG.refl _ _ _) ⟨h, h2⟩ ⟨v, hv, rfl⟩
        rw [show encF fl k = #[.int .i64 (v : Int)] from by unfold encF; rw [hv]; rfl]
        clear hv h h2
        gi_wp2
        exact hK
      case body =>
        rintro lp G k a' W _ _ hG hG2 hkm ⟨h, h2⟩ ⟨v, hv, rfl⟩
        obtain ⟨u, hu1, hu2⟩ := h.tk
        obtain ⟨ux, un, uc⟩ := u
        have hkl : k < fl.length := hkm
        have hun : un = k := by
          obtain ⟨q', e, e2⟩ := own_slV hu2
          simp only [slV, Value.slice.injEq] at e
          rw [tkL_len] at e2
          omega
        have d1 := hu1.cell 0 _ rfl
        have d2 := h.n0.cell 0 _ rfl
        have f1 := hu1.frozen 0
        simp only [slV] at d1 hu1 hu2
        subst hun
        have hbD : B + 2 ≤ D := HDX.out
        by_cases hkm2 : un = m
        · subst hkm2
          have q5 : ((un : Int) == (un : Int)) = true := by simp
          have H := Lib.hid h
          clear h hu1 hu2 hv hkl hkm h2
          gi_wp2
          exact ⟨⟨KeepsFrom.refl _ _, StayG.refl _ _ _⟩, rfl, H.out⟩
        · have q5 : ((un : Int) == (m : Int)) = false := by simp; omega
          obtain ⟨W3, vx, vn, vc, X4, hS1, hr, g1, g2⟩ := po_app hu2 hG2 (v : Int) (by rw [tkL_len]; have := hfll; omega)
          have HA := Lib.hid hr
          have SB := Lib.hid hS1
          have hrow : ∀ r, (Value.slice ux un uc).ownBlock = some r → G ≤ r := fun r e => (hu2.base r e).1
          have e1 : RowC X4 D 35 [.slice ux un uc] := hu1.grown g2 (fun e => by have := hrow D e; have := HW.out; omega)
          have e0 : RowC X4 (B + 1) 3 [.int .i64 (m : Int)] := h.n0.grown g2 (fun e => by have := hrow _ e; have := HW.out; omega)
          have e3 : RowC X4 (D + 1) 48 (stL ⟨(dx, dn, dc), (sx, sn, sc), nx, kd, id, (px, pn, pc)⟩) := h.cs.grown g2 (fun e => by have := hrow _ e; have := HW.out; omega)
          have e4 : RowC X4 (D + 2) 3 [.int .i64 (ar : Int)] := h.ca.grown g2 (fun e => by have := hrow _ e; have := HW.out; omega)
          have hz4 := g2.size
          have e5 : Below B w X4 := h.be.grown g2 (by have := HW.out; omega) (fun t e => by have := hrow _ e; have := HW.out; omega)
          have x1 : RowC (X4.setCell ⟨D, 0, none⟩ (.slice vx vn vc)) D 35 [.slice vx vn vc] := e1.set 0 _
          have NX : Hid (TkI B D G ⟨(dx, dn, dc), (sx, sn, sc), nx, kd, id, (px, pn, pc)⟩ (ar : Int) (m : Int) fl w (un + 1) (X4.setCell ⟨D, 0, none⟩ (.slice vx vn vc)) ∧ un + 1 ≤ m) :=
            ⟨⟨set_other e0 (by omega) 0 _, ⟨(vx, vn, vc), x1, by rw [tkL_succ hv]; exact g1.kept (grownBy_setCellJ X4 D 0 _) (.inr (fun e => by have := (g1.base _ e).1; have := HW.out; omega))⟩, set_other e3 (by omega) 0 _, set_other e4 (by omega) 0 _, set_below e5 (by omega) 0 _⟩, by omega⟩
          have KF : Hid (KeepsFrom W0.heap.size W (X4.setCell ⟨D, 0, none⟩ (.slice vx vn vc))) := keepsFrom_trans (keepsFrom_row hu2 g2) (keepsFrom_cells e1 (grownBy_setCellJ X4 D 0 _))
          have SG : Hid (StayG (W0.heap.size + 2) G W (X4.setCell ⟨D, 0, none⟩ (.slice vx vn vc))) := (StayG.grown g2 hG2 (fun r e => .inr (hrow r e))).trans (StayG.grown (grownBy_setCellJ X4 D 0 _) (by omega) (fun r e => by cases e; have := HW.out; omega))
          have f4 := e1.frozen 0
          have c4 := e1.cell 0 _ rfl
          clear h hv hkl hkm h2 hr hS1 g1 g2 hrow e0 e1 e3 e4 e5 hz4 x1 hu1 hu2 f1
          gi_step
          gi_step
          gi_step
          gi_step
          refine region_seq_roundC (letsOut_thenC (letsOut_thenC (letsOut_inBlock letsOut_numG))) (by kernel_rfl) ?_
          go_wp2_with fail
          gi_step
          gi_step
          gi_step
          gi_step
          refine region_seq_roundC (letsOut_inBlock letsOut_numG) (by kernel_rfl) ?_
          go_wp2_with (first | (refine gate_build ?_; refine wpList_build_run 35 1 #[(0, .tmp 30)] rfl rfl [(0, .int .i64 (v : Int))] _ rfl SB.out ?_) | (at_builtin; refine wpList_append_run (.tmp 29) (.tmp 31) 35 rfl rfl _ _ _ rfl rfl (HA.out _) ?_))
          gi_wp2
          exact ⟨⟨KF.out, SG.out⟩, NX.out⟩
      case done =>
        rintro D' G W hD hG ⟨h, h2⟩ hK
        obtain ⟨⟨ux, un, uc⟩, hu1, hu2⟩ := h.tk
        have hml : fl.length = m := by have := HFN.out; have := HMF.out; omega
        rw [hml] at hu2
        have d1 := hu1.cell 0 _ rfl
        have HU2 := Lib.hid hu2
        have HBE := Lib.hid h.be
        have HK := Lib.hid hK
        simp only [slV] at d1 HU2
        clear h h2 hK hu1 hu2 hml
        gi_wp2
        refine ⟨by simp, .inl ⟨_, _, rfl, run_takeDeferred HK.out, ?_⟩⟩
        have hg2 := grownBy_putObj' W D' (.deferred none)
        have hy := row_own (M := 0) HU2.out hg2 (fun r e => by cases e; exact ⟨Nat.zero_le _, _, HK.out, rfl⟩)
        refine ⟨_, results_tmp2 rfl _ _ _, ⟨(ux, un, uc), rfl, own_weak hy (by have := HW.out; have := HSZ.out; have := HDX.out; omega), ?_⟩⟩
        rw [HSZ.out]
        exact HBE.out.trans (belowK_b (w := w) (by have := HSZ.out; omega) W D' _ _ (by have := HW.out; have := HSZ.out; have := HDX.out; omega) HK.out rfl rfl)
      case stop =>
        rintro D' c G k W hD hG _ ⟨rfl, h⟩ hK
        obtain ⟨⟨ux, un, uc⟩, hu1, hu2⟩ := h.tk
        have d1 := hu1.cell 0 _ rfl
        have HU2 := Lib.hid hu2
        have HBE := Lib.hid h.be
        have HK := Lib.hid hK
        simp only [slV] at d1 HU2
        clear h hK hu1 hu2
        gi_wp2
        refine ⟨by simp, .inl ⟨_, _, rfl, run_takeDeferred HK.out, ?_⟩⟩
        have hg2 := grownBy_putObj' W D' (.deferred none)
        have hy := row_own (M := 0) HU2.out hg2 (fun r e => by cases e; exact ⟨Nat.zero_le _, _, HK.out, rfl⟩)
        refine ⟨_, results_tmp2 rfl _ _ _, ⟨(ux, un, uc), rfl, own_weak hy (by have := HW.out; have := HSZ.out; have := HDX.out; omega), ?_⟩⟩
        rw [HSZ.out]
        exact HBE.out.trans (belowK_b (w := w) (by have := HSZ.out; omega) W D' _ _ (by have := HW.out; have := HSZ.out; have := HDX.out; omega) HK.out rfl rfl)
end Go.Proofs.Ytiidfffedoekiaa
