/- The developers' usedWithin and Free. -/
import Derived.Test.YtiidfffedoekiaaPoUs
namespace Go.Proofs.Ytiidfffedoekiaa
open Go.RowKit Go.Shelf Go.Lib Go.Sort
set_option linter.unusedVariables false
set_option linter.unusedSimpArgs false
attribute [-simp] Try.isAgg39 Try.zeroValue39 Try.isAgg42 Try.zeroValue42 Try.isAgg48 Try.zeroValue48
attribute [-go_sem] loadVar storeVar
attribute [local go_sem] loadVar_openQ storeVar_openQ zero_sn zero_prs zero_st

set_option maxRecDepth 100000 in
theorem elem_int12 : Try.prog.underlying 35 = some (.slice (Try.prog.elem 35)) := by kernel_rfl
set_option maxRecDepth 100000 in
theorem sizeOf_int12 (W : World) : (sizeOf (Try.prog.elem 35)).run Try.prog W = .ok 1 W := by kernel_rfl
theorem po_get {zs : List Int} {A j : Nat} (h : j < (zs.drop A).length) : (zs.drop A)[j]?.getD 0 = zs[A + j]?.getD 0 := by rw [List.getElem?_drop]
/-- The block, if there is one, lies from B up to G. -/
def InBG (B G : Nat) (a : Option Addr) : Prop := ∀ x, a = some x → B ≤ x.block ∧ x.block < G
theorem InBG.mono {B G B' G' : Nat} {a : Option Addr} (h : InBG B G a) (h1 : B' ≤ B) (h2 : G ≤ G') : InBG B' G' a := fun x e => by have := h x e; omega
theorem InBG.add {B G K : Nat} {a : Option Addr} (h : InBG B G a) : InBG B G (a.map fun x => x.add K) := fun x e => by
  cases a with
  | none => cases e
  | some y =>
    cases e
    have := h y rfl
    have e2 : (y.add K).block = y.block := by unfold Addr.add; split <;> rfl
    rw [e2]
    exact this
theorem InBG.own {N : Nat} {W : World} {a : Option Addr} {n c : Nat} {zs : List Int} (h : InO N W (.slice a n c) zs) : InBG N W.heap.size a := fun x e => by
  subst e
  rcases h.2 with ⟨e, _⟩ | ⟨g, cap, cur, e, h1, h2, -⟩
  · cases e
  · cases e
    exact ⟨h1, (Array.getElem?_eq_some_iff.1 h2).1⟩
/-- What lies in blocks that stay stays. -/
theorem sl_stay {B G : Nat} {W W' : World} {a : Option Addr} {n c : Nat} {zs : List Int} (h : Sl .i64 W (.slice a n c) zs) (hB : InBG B G a) (hs : ∀ b, B ≤ b → b < G → W'.heap[b]? = W.heap[b]?) : Sl .i64 W' (.slice a n c) zs := by
  obtain ⟨a', cap, e, h1, h2, h3, h4⟩ := h
  refine ⟨a', cap, e, h1, h2, ?_, h4⟩
  rcases h3 with h3 | ⟨b, off, rfl, h5, h6⟩
  · exact .inl h3
  · simp only [Value.slice.injEq] at e
    obtain ⟨rfl, -, -⟩ := e
    have hb := hB _ rfl
    have hh := hs b hb.1 hb.2
    refine .inr ⟨b, off, rfl, ?_, fun j hj => ?_⟩
    · rw [Array.getElem?_eq_getElem h5] at hh
      exact (Array.getElem?_eq_some_iff.1 hh).1
    · rw [← h6 j hj]
      unfold World.cell?
      rw [hh]
set_option maxRecDepth 100000 in
/-- A cut of numbers. -/
theorem po_cut {ra : Option Addr} {R rc A K : Nat} {zs : List Int} {w0 : World} (h : Sl .i64 w0 (.slice ra R rc) zs) (hA : A ≤ K) (hK : K ≤ R) :
    ∃ ra', (∀ W : World, (Instr.sliceAt 35 (.slice ra R rc) (some (.int .i64 (A : Int))) (some (.int .i64 (K : Int))) none).run Try.prog W = .ok (.slice ra' (K - A) (rc - A)) W) ∧ (∀ W : World, Sl .i64 W (.slice ra R rc) zs → Sl .i64 W (.slice ra' (K - A) (rc - A)) ((zs.take K).drop A)) ∧ ∀ B G, InBG B G ra → InBG B G ra' := by
  obtain ⟨a, cap, e, h1, h2, _, h4⟩ := h
  simp only [Value.slice.injEq] at e
  obtain ⟨rfl, rfl, rfl⟩ := e
  refine ⟨if rc = A then ra else ra.map fun x => x.add A, fun W => ?_, fun W hW => ?_, fun B G h => by split; exact h; exact h.add⟩
  · rw [run_sliceAt_slice (h := elem_int12), run_slice_lh (ht := elem_int12) (kl := .i64) (kh := .i64) (h0 := by omega) (h1 := by omega) (h2 := by omega), sizeOf_int12]
    simp only [Result.andThen, sliced, Int.toNat_natCast, Nat.mul_one]
  · obtain ⟨a, cap, e, h1, h2, h3, h4⟩ := hW
    simp only [Value.slice.injEq] at e
    obtain ⟨rfl, _, rfl⟩ := e
    have hl : ((zs.take K).drop A).length = K - A := by rw [List.length_drop, List.length_take]; omega
    refine ⟨_, rc - A, by rw [hl], by rw [hl]; omega, by omega, ?_, ?_⟩
    · by_cases h0 : K = A
      · exact .inl (List.eq_nil_of_length_eq_zero (by omega))
      · rcases h3 with rfl | ⟨b, off, rfl, h5, h6⟩
        · simp at hK; omega
        · refine .inr ⟨b, off + A, ?_, h5, fun j hj => ?_⟩
          · rw [if_neg (by omega)]
            show some _ = _
            congr 1
            unfold Addr.add
            split <;> simp_all
          · rw [hl] at hj
            rw [List.getElem?_drop, List.getElem?_take, if_pos (by omega), Nat.add_assoc]
            exact h6 (A + j) (by omega)
    · intro e
      split at e
      · omega
      · have := h4 (by simpa using e); omega
set_option maxRecDepth 100000 in
theorem po_lo {ra : Option Addr} {R rc K : Nat} {zs : List Int} {w0 : World} (h : Sl .i64 w0 (.slice ra R rc) zs) (hK : K ≤ R) :
    ∃ ra', ra' = (if rc = K then ra else ra.map fun x => x.add K) ∧ (∀ W : World, (Instr.sliceAt 35 (.slice ra R rc) (some (.int .i64 (K : Int))) none none).run Try.prog W = .ok (.slice ra' (R - K) (rc - K)) W) ∧ (∀ W : World, Sl .i64 W (.slice ra R rc) zs → Sl .i64 W (.slice ra' (R - K) (rc - K)) (zs.drop K)) ∧ ∀ B G, InBG B G ra → InBG B G ra' := by
  obtain ⟨a, cap, e, h1, h2, _, h4⟩ := h
  simp only [Value.slice.injEq] at e
  obtain ⟨rfl, rfl, rfl⟩ := e
  refine ⟨if rc = K then ra else ra.map fun x => x.add K, rfl, fun W => ?_, fun W hW => ?_, fun B G h => by split; exact h; exact h.add⟩
  · rw [run_sliceAt_slice (h := elem_int12), run_slice_l (ht := elem_int12) (kl := .i64) (h0 := by omega) (h1 := by omega), sizeOf_int12]
    simp only [Result.andThen, sliced, Int.toNat_natCast, Nat.mul_one]
  · obtain ⟨a, cap, e, h1, h2, h3, h4⟩ := hW
    simp only [Value.slice.injEq] at e
    obtain ⟨rfl, _, rfl⟩ := e
    refine ⟨_, rc - K, by rw [List.length_drop], by rw [List.length_drop]; omega, by omega, ?_, ?_⟩
    · by_cases h0 : zs.length = K
      · exact .inl (List.drop_of_length_le (by omega))
      · rcases h3 with rfl | ⟨b, off, rfl, h5, h6⟩
        · exact .inl (by simp)
        · refine .inr ⟨b, off + K, ?_, h5, fun j hj => ?_⟩
          · rw [if_neg (by omega)]
            show some _ = _
            congr 1
            unfold Addr.add
            split <;> simp_all
          · rw [List.length_drop] at hj
            rw [List.getElem?_drop, Nat.add_assoc]
            exact h6 (K + j) (by omega)
    · intro e
      split at e
      · omega
      · have := h4 (by simpa using e); omega

set_option maxRecDepth 100000 in
/-- BinarySearch of numbers of one's own that rise, none too. -/
theorem po_search {N : Nat} {w : World} {u : SlV} {zs : List Int} (h : InO N w (slV u) zs) (hs : zs.Pairwise (· < ·)) (hl : zs.length ≤ 900000) (x : Int) :
    Calls Try.prog 64 #[slV u, .int .i64 x] w fun e w' => e = .returned (.tuple #[.int .i64 ((zs.countP fun y => decide (y < x) : Nat) : Int), .bool (zs.contains x)]) ∧ Below w.heap.size w w' := by
  rcases h.2 with ⟨e, h0⟩ | ⟨g, cap, cur, e, hb, hg, hn, hm, hs2, ht⟩
  · have hz : zs = [] := List.eq_nil_of_length_eq_zero h0
    subst hz
    rw [e]
    refine (Any.slices_BinarySearch_int_empty searchLaid225 none 0 x w).mono ?_
    rintro e w' ⟨rfl, rfl⟩
    exact ⟨rfl, Below.refl _ _⟩
  · rw [e]
    have hsl := sl_own h
    have hc : ∀ j, j < zs.length → w.cell? ⟨g, 0 + j, none⟩ = some (.int .i64 (zs.getD j 0)) := by
      intro j hj
      rw [e] at hsl
      obtain ⟨a', c', e', h1, h2, h3, h4⟩ := hsl
      simp only [Value.slice.injEq] at e'
      obtain ⟨rfl, -, rfl⟩ := e'
      rcases h3 with rfl | ⟨b, off, e3, h5, h6⟩
      · simp at hj
      · cases e3
        rw [List.getD_eq_getElem?_getD]
        exact h6 j hj
    have hle : (zs.take zs.length).Pairwise (· ≤ ·) := by rw [List.take_length]; exact hs.imp fun h => Int.le_of_lt h
    refine (laid_slices_BinarySearch_int g 0 zs.length cap zs x w (Nat.le_refl _) (by omega) hc hle).mono ?_
    rw [List.take_length]
    rintro e w' ⟨rfl, n, rfl⟩
    exact ⟨rfl, (Below.refl _ _).trans ⟨rfl, rfl, rfl, Nat.le_refl _, fun _ _ => rfl⟩⟩

theorem with_max (u : List Int) (ar : Int) : pWith u (if ar < 0 then 0 else ar) = pWith u ar := by
  unfold pWith
  congr 1
  funext x
  rw [Bool.eq_iff_iff]
  simp
  intro h
  split <;> omega
def mxOf (ar : Int) : Int := if ar < 0 then 0 else ar
theorem mx_nonneg (ar : Int) : 0 ≤ mxOf ar := by unfold mxOf; split <;> omega
theorem used_short {l : List SN} {ps : List (Int × Int)} (hK : Lens 200 l) (hp : ps.length ≤ 200) : (pUsed l ps).length ≤ 100000 := by
  have h0 := used_le l ps
  have h1 := cAts_len (K := 200) l (fun t ht => (hK.2 t ht).2)
  have h2 : l.length * 200 ≤ 200 * 200 := Nat.mul_le_mul_right _ hK.1
  have h3 := pPlan_len ps
  unfold pAts at h0
  rw [List.length_append] at h0
  omega

set_option maxRecDepth 100000 in
set_option maxHeartbeats 600000 in
/-- **usedWithin**. -/
theorem po_within {w : World} {q : PS} {l : List SN} {ps : List (Int × Int)} (h : StIs w q l ps) (hK : Lens 200 l) (hp : ps.length ≤ 200) (ar : Int) :
    Calls Try.prog 48 #[stV q, .int .i64 ar] w fun e w' => ∃ u : SlV, e = .returned (slV u) ∧ Sl .i64 w' (slV u) (pWith (pUsed l ps) ar) ∧ InBG w.heap.size w'.heap.size u.1 ∧ Below w.heap.size w w' := by
  have hmax : ∀ (ts : Array TypeId) (t : TypeId) (W : World), (Builtin.max_ ts t #[.int .i64 ar, .int .i64 0]).run Try.prog W = .ok (.int .i64 (mxOf ar)) W := fun ts t W => by
    rw [run_max_int2]
    unfold mxOf
    congr 2
  have HSH := Lib.hid (used_short hK hp)
  have hq : StIs w q l ps := h
  obtain ⟨⟨dx, dn, dc⟩, ⟨sx, sn, sc⟩, nx, kd, id, ⟨px, pn, pc⟩⟩ := q
  obtain ⟨B, hB⟩ : ∃ B, w.heap.size = B := ⟨_, rfl⟩
  have HSZ := Lib.hid hB
  obtain ⟨W0, hW0⟩ : ∃ W0, w.alloc (.cells #[.slice dx dn dc, .slice sx sn sc, .int .i64 nx, .int .i64 kd, .int .i64 id, .slice px pn pc] 48) = W0 := ⟨_, rfl⟩
  have b0 : Hid (Below B w W0) := by show Below _ _ _; rw [← hW0, ← hB]; exact below_new _ _
  have r0 : RowC W0 B 48 (stL ⟨(dx, dn, dc), (sx, sn, sc), nx, kd, id, (px, pn, pc)⟩) := by rw [← hW0, ← hB]; exact RowC.new w _ _
  have LS : (loadVar 48 ⟨B, 0, none⟩).run Try.prog W0 = .ok (.agg #[.slice dx dn dc, .slice sx sn sc, .int .i64 nx, .int .i64 kd, .int .i64 id, .slice px pn pc]) W0 := load_stC r0
  have hu0 := po_used (hq.below (by rw [hB]; exact b0.out)) hK hp
  have HUS : Hid (Calls Try.prog 26 #[.agg #[.slice dx dn dc, .slice sx sn sc, .int .i64 nx, .int .i64 kd, .int .i64 id, .slice px pn pc]] W0 fun e w' => ∃ u : SlV, e = .returned (slV u) ∧ InO W0.heap.size w' (slV u) (pUsed l ps) ∧ Below W0.heap.size W0 w') := hu0
  obtain ⟨us, hus⟩ : ∃ us, pUsed l ps = us := ⟨_, rfl⟩
  have hri := used_rise l ps
  clear hu0
  rw [hus] at HUS HSH hri ⊢
  have HRI := Lib.hid hri
  obtain ⟨lo, hlo⟩ : ∃ lo, (us.countP fun x => decide (x < 0)) = lo := ⟨_, rfl⟩
  obtain ⟨hi, hhi⟩ : ∃ hi, (us.countP fun x => decide (x < mxOf ar)) = hi := ⟨_, rfl⟩
  obtain ⟨t0, ht0⟩ : ∃ t0, us.contains 0 = t0 := ⟨_, rfl⟩
  obtain ⟨t1, ht1⟩ : ∃ t1, us.contains (mxOf ar) = t1 := ⟨_, rfl⟩
  have hle : lo ≤ hi := by rw [← hlo, ← hhi]; exact below_le (mx_nonneg ar)
  have hhl : hi ≤ us.length := by rw [← hhi]; exact List.countP_le_length
  have HLO := Lib.hid hle
  have HHI := Lib.hid hhl
  have HWS : Hid ((us.take hi).drop lo = pWith us ar) := by
    show _ = _
    rw [← hlo, ← hhi, with_seg hri _ (mx_nonneg ar)]
    exact with_max us ar
  have HPS : Hid (∀ (N : Nat) (W : World) (u : SlV), InO N W (slV u) us → Calls Try.prog 64 #[slV u, .int .i64 0] W fun e w' => e = .returned (.tuple #[.int .i64 (lo : Int), .bool t0]) ∧ Below W.heap.size W w') := fun N W u hu => by
    have := po_search hu hri (by have := HSH.out; omega) 0
    rwa [hlo, ht0] at this
  have HPT : Hid (∀ (N : Nat) (W : World) (u : SlV), InO N W (slV u) us → Calls Try.prog 64 #[slV u, .int .i64 (mxOf ar)] W fun e w' => e = .returned (.tuple #[.int .i64 (hi : Int), .bool t1]) ∧ Below W.heap.size W w') := fun N W u hu => by
    have := po_search hu hri (by have := HSH.out; omega) (mxOf ar)
    rwa [hhi, ht1] at this
  obtain ⟨mx, hmx2⟩ : ∃ mx, mxOf ar = mx := ⟨_, rfl⟩
  rw [hmx2] at HPT hmax
  clear h hq r0 hK hp hus hri hlo hhi ht0 ht1 hle hhl hmx2 HSH
  go_enter Try.func48, Try.ntmps48
  simp only [stV, stL, slV]
  go_wp2_with fail
  try rw [hW0]
  try rw [hB]
  clear hW0 hB
  go_at_call 26
  refine HUS.out.mono ?_
  rintro e X ⟨⟨z0, z1, z2⟩, rfl, hI, hb1⟩
  have hBX : Below B w X := b0.out.trans (hb1.mono (by rw [← HSZ.out]; exact b0.out.size))
  have HBX := Lib.hid hBX
  have HBB : Hid (w.heap.size ≤ W0.heap.size) := by show _ ≤ _; exact b0.out.size
  have HI := Lib.hid hI
  have HS1 := Lib.hid (HPS.out _ _ _ hI)
  simp only [slV] at HI HS1 ⊢
  clear LS HUS hI hb1 hBX
  go_wp2_with fail
  go_at_call 64
  refine HS1.out.mono ?_
  rintro e X2 ⟨rfl, hb2⟩
  have hI2 := HI.out.below hb2
  have HBX2 : Hid (Below B w X2) := HBX.out.trans (hb2.mono (by rw [← HSZ.out]; exact HBX.out.size))
  have HI2 := Lib.hid hI2
  have HS2 := Lib.hid (HPT.out _ _ (z0, z1, z2) hI2)
  simp only [slV] at HS2
  clear hI2 hb2 HI HS1 HBX
  go_wp2_with fail
  go_at_call 64
  refine HS2.out.mono ?_
  rintro e X3 ⟨rfl, hb3⟩
  have HBX3 : Hid (Below B w X3) := HBX2.out.trans (hb3.mono (by rw [← HSZ.out]; exact HBX2.out.size))
  have hsl : Sl .i64 X3 (.slice z0 z1 z2) us := sl_own (HI2.out.below hb3)
  have hz1 : z1 = us.length := by obtain ⟨a, cap, e, -⟩ := hsl; simp only [Value.slice.injEq] at e; omega
  obtain ⟨ra', hr1, hr2, hr3⟩ := po_cut hsl HLO.out (by rw [hz1]; exact HHI.out)
  have HFI : Hid (Sl .i64 X3 (.slice ra' (hi - lo) (z2 - lo)) (pWith us ar)) := by
    show Sl _ _ _ _
    rw [← HWS.out]
    exact hr2 X3 hsl
  have HCU := Lib.hid hr1
  have HIB : Hid (InBG w.heap.size X3.heap.size ra') := hr3 _ _ ((InBG.own (HI2.out.below hb3)).mono HBB.out (Nat.le_refl _))
  clear hb3 hsl hz1 hr1 hr2 hr3 HBB HS2 HI2 hmax HBX2 HPS HPT
  go_wp2_with ((with_reducible refine gate_slice 24 ?_); refine wpList_slice_run (.tmp 24) 35 (some (.tmp 25)) (some (.tmp 26)) rfl rfl _ _ _ _ rfl rfl rfl (HCU.out _) ?_)
  go_ret
  exact ⟨(ra', hi - lo, z2 - lo), rfl, HFI.out, HIB.out, by rw [HSZ.out]; exact HBX3.out⟩

set_option maxRecDepth 100000 in
set_option maxHeartbeats 600000 in
/-- **Free**. -/
theorem po_free {w : World} {q : PS} {l : List SN} {ps : List (Int × Int)} (h : StIs w q l ps) (hK : Lens 200 l) (hp : ps.length ≤ 200) (ar : Nat) (har : ar ≤ 1000) :
    Calls Try.prog 27 #[stV q, .int .i64 (ar : Int)] w fun e w' => e = .returned (.int .i64 (((pFree (pUsed l ps) ar).length : Nat) : Int)) ∧ Below w.heap.size w w' := by
  have hmax : ∀ (ts : Array TypeId) (t : TypeId) (W : World), (Builtin.max_ ts t #[.int .i64 (ar : Int), .int .i64 0]).run Try.prog W = .ok (.int .i64 (ar : Int)) W := fun ts t W => by
    rw [run_max_int2]
    have : ¬ (ar : Int) < 0 := by omega
    simp [this]
  have hq : StIs w q l ps := h
  have hlen := free_len (used_rise l ps) ar
  obtain ⟨⟨dx, dn, dc⟩, ⟨sx, sn, sc⟩, nx, kd, id, ⟨px, pn, pc⟩⟩ := q
  obtain ⟨B, hB⟩ : ∃ B, w.heap.size = B := ⟨_, rfl⟩
  have HSZ := Lib.hid hB
  obtain ⟨W0, hW0⟩ : ∃ W0, w.alloc (.cells #[.slice dx dn dc, .slice sx sn sc, .int .i64 nx, .int .i64 kd, .int .i64 id, .slice px pn pc] 48) = W0 := ⟨_, rfl⟩
  have b0 : Hid (Below B w W0) := by show Below _ _ _; rw [← hW0, ← hB]; exact below_new _ _
  have r0 : RowC W0 B 48 (stL ⟨(dx, dn, dc), (sx, sn, sc), nx, kd, id, (px, pn, pc)⟩) := by rw [← hW0, ← hB]; exact RowC.new w _ _
  have LS : (loadVar 48 ⟨B, 0, none⟩).run Try.prog W0 = .ok (.agg #[.slice dx dn dc, .slice sx sn sc, .int .i64 nx, .int .i64 kd, .int .i64 id, .slice px pn pc]) W0 := load_stC r0
  have hu0 := po_within (hq.below (by rw [hB]; exact b0.out)) hK hp (ar : Int)
  have HUS : Hid (Calls Try.prog 48 #[.agg #[.slice dx dn dc, .slice sx sn sc, .int .i64 nx, .int .i64 kd, .int .i64 id, .slice px pn pc], .int .i64 (ar : Int)] W0 fun e w' => ∃ u : SlV, e = .returned (slV u) ∧ Sl .i64 w' (slV u) (pWith (pUsed l ps) (ar : Int)) ∧ InBG W0.heap.size w'.heap.size u.1 ∧ Below W0.heap.size W0 w') := hu0
  obtain ⟨n, hn⟩ : ∃ n, (pFree (pUsed l ps) ar).length = n := ⟨_, rfl⟩
  rw [hn] at hlen ⊢
  have HLE := Lib.hid hlen
  clear h hq hu0 r0 hK hp hn hlen
  go_enter Try.func27, Try.ntmps27
  simp only [stV, stL, slV]
  go_wp2_with fail
  try rw [hW0]
  try rw [hB]
  clear hW0 hB
  go_at_call 48
  refine HUS.out.mono ?_
  rintro e X ⟨⟨z0, z1, z2⟩, rfl, hI, -, hb1⟩
  have HBX : Hid (Below B w X) := b0.out.trans (hb1.mono (by rw [← HSZ.out]; exact b0.out.size))
  have hz1 : z1 = (pWith (pUsed l ps) (ar : Int)).length := by obtain ⟨a, cap, e, -⟩ := hI; simp only [slV, Value.slice.injEq] at e; omega
  have HN : Hid (wrap64 ((ar : Int) - (z1 : Int)) = (n : Int)) := by
    show _ = _
    have := HLE.out
    rw [show (ar : Int) - (z1 : Int) = (n : Int) by omega]
    exact IntWalk.wrap64_in _ (by omega)
  have HN2 : Hid ((ar : Int) - (z1 : Int) = (n : Int)) := by show _ = _; have := HLE.out; omega
  simp only [slV]
  clear hI hb1 hz1 LS HUS hmax
  go_wp2_with fail
  go_ret
  exact ⟨by simp; exact HN.out, by rw [HSZ.out]; exact HBX.out⟩
end Go.Proofs.Ytiidfffedoekiaa
