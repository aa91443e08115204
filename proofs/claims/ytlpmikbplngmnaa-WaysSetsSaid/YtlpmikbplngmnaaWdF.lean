/- The program's map of blocks in slots: New. -/
import Derived.Test.YtlpmikbplngmnaaWdE
import Derived.Test.YtlpmikbplngmnaaRowC
import Derived.Test.YtlpmikbplngmnaaNew
import Derived.Test.YtlpmikbplngmnaaMake
import Derived.Test.YtlpmikbplngmnaaBytes
namespace Go.Proofs.Ytlpmikbplngmnaa
open Go.RowKit Go.Shelf Go.Lib
set_option linter.unusedVariables false
set_option linter.unusedSimpArgs false
variable {P SB HB cap : Nat} {m : WM} {w : World} {f : Nat → Prop}
/-- Two maps of the same shape with the same hands and slots are one. -/
theorem wm_ext {m n : WM} (h1 : WmLen m) (h2 : WmLen n) (e1 : m.wy = n.wy) (e2 : m.ss.length = n.ss.length) (e3 : ∀ s, s < m.ss.length → (m.set s).h = (n.set s).h) (e4 : ∀ i, i < m.size → m.slot i = n.slot i) : m = n := by
  obtain ⟨wy, ss⟩ := m
  obtain ⟨wy', ss'⟩ := n
  obtain rfl : wy = wy' := e1
  congr 1
  apply List.ext_getElem?
  intro s
  by_cases hs : s < ss.length
  · have hs' : s < ss'.length := by have : ss.length = ss'.length := e2; omega
    rw [List.getElem?_eq_getElem hs, List.getElem?_eq_getElem hs']
    have q1 : WM.set ⟨wy, ss⟩ s = ss[s] := by unfold WM.set; rw [List.getElem?_eq_getElem hs]; rfl
    have q2 : WM.set ⟨wy, ss'⟩ s = ss'[s] := by unfold WM.set; rw [List.getElem?_eq_getElem hs']; rfl
    have l1 := h1.sets s hs
    have l2 := h2.sets s hs'
    have h3 := e3 s hs
    rw [q1] at l1 h3
    rw [q2] at l2 h3
    have l1' : ss[s].l.length = wy := l1
    have l2' : ss'[s].l.length = wy := l2
    congr 1
    cases hx : ss[s] with
    | mk a l =>
      cases hy : ss'[s] with
      | mk a' l' =>
        rw [hx] at q1 h3 l1'
        rw [hy] at q2 h3 l2'
        simp only at h3 l1' l2'
        subst h3
        congr 1
        apply List.ext_getElem?
        intro v
        by_cases hv : v < wy
        · have h4 := e4 (s * wy + v) (at_lt (wy := wy) hs hv)
          have g1 := slot_at (m := ⟨wy, ss⟩) (s := s) (w := v) hv
          have g2 := slot_at (m := ⟨wy, ss'⟩) (s := s) (w := v) hv
          have h5 : WM.slot ⟨wy, ss⟩ (s * wy + v) = WM.slot ⟨wy, ss'⟩ (s * wy + v) := h4
          rw [g1, g2, q1, q2] at h5
          unfold WS.slot at h5
          simp only at h5
          rw [List.getElem?_eq_getElem (by omega), List.getElem?_eq_getElem (by omega)] at h5 ⊢
          exact congrArg some h5
        · rw [List.getElem?_eq_none (by omega), List.getElem?_eq_none (by omega)]
  · rw [List.getElem?_eq_none (by omega), List.getElem?_eq_none (by have : ss.length = ss'.length := e2; omega)]
def wZ : WSlot := ⟨0, false, false⟩
/-- All slots alike, all hands at the start. -/
def mAll (v : WSlot) (st wy : Nat) : WM := ⟨wy, List.replicate st ⟨0, List.replicate wy v⟩⟩
theorem mAll_st (v : WSlot) (st wy : Nat) : (mAll v st wy).ss.length = st := by unfold mAll; simp
theorem mAll_set {v : WSlot} {st wy s : Nat} (h : s < st) : (mAll v st wy).set s = ⟨0, List.replicate wy v⟩ := by unfold WM.set mAll; simp [h]
theorem mAll_len {v : WSlot} {st wy : Nat} (h : 1 ≤ wy) : WmLen (mAll v st wy) := ⟨h, fun s hs => by rw [mAll_st] at hs; rw [mAll_set hs]; simp [mAll]⟩
theorem mAll_size (v : WSlot) (st wy : Nat) : (mAll v st wy).size = st * wy := by unfold WM.size; rw [mAll_st]; rfl
theorem mAll_slot {v : WSlot} {st wy i : Nat} (h : i < st * wy) (hw : 1 ≤ wy) : (mAll v st wy).slot i = v := by
  have hi : i < (mAll v st wy).size := by rw [mAll_size]; exact h
  have h1 := div_lt hi
  rw [mAll_st] at h1
  have h1 : i / wy < st := h1
  show ((mAll v st wy).set (i / wy)).slot (i % wy) = v
  rw [mAll_set h1]
  unfold WS.slot
  simp [Nat.mod_lt _ hw]
theorem mAll_flat {v : WSlot} {st wy : Nat} (hw : 1 ≤ wy) : mFlat (mAll v st wy) = List.replicate (st * wy) v := by
  apply List.ext_getElem?
  intro i
  by_cases hi : i < st * wy
  · rw [wy_flat_get (by rw [mAll_size]; exact hi), mAll_slot hi hw, List.getElem?_replicate, if_pos hi]
  · rw [List.getElem?_eq_none (by rw [wy_flat_len, mAll_size]; omega), List.getElem?_eq_none (by simp; omega)]
theorem mAll_hands (v : WSlot) (st wy : Nat) : mHands (mAll v st wy) = List.replicate st 0 := by unfold mHands mAll; simp
/-- Slots emptied one after another. -/
structure PartN (st wy k : Nat) (m : WM) : Prop where
  len : WmLen m
  ewy : m.wy = wy
  est : m.ss.length = st
  hand : ∀ s, s < st → (m.set s).h = 0
  slot : ∀ i, i < k → m.slot i = wE
theorem write_slot {m : WM} (h : WmLen m) {i : Nat} (hi : i < m.size) (v : WSlot) {j : Nat} (hj : j < m.size) : (mWrite m i v).slot j = if i = j then v else m.slot j := by
  have h1 := wy_flat_get (m := mWrite m i v) (i := j) (by unfold mWrite; rw [upd_size]; exact hj)
  rw [flat_write h hi, List.getElem?_set] at h1
  by_cases e : i = j
  · rw [if_pos e, if_pos (by rw [wy_flat_len]; exact hi)] at h1
    rw [if_pos e]
    exact (Option.some.inj h1).symm
  · rw [if_neg e, wy_flat_get hj] at h1
    rw [if_neg e]
    exact (Option.some.inj h1).symm
theorem PartN.step {st wy k : Nat} {m : WM} (h : PartN st wy k m) (hk : k < st * wy) : PartN st wy (k + 1) (mDrop m (k : Int)) := by
  have hz : m.size = st * wy := by unfold WM.size; rw [h.est, h.ewy]
  have hi : mHas m (k : Int) := ⟨by omega, by rw [hz]; omega⟩
  have hkz : k < m.size := by rw [hz]; exact hk
  have e : mDrop m (k : Int) = mWrite m k wE := by unfold mDrop; rw [if_pos hi, Int.toNat_natCast]
  rw [e]
  refine ⟨h.len.write hkz _, h.ewy, by unfold mWrite; rw [upd_st]; exact h.est, fun s hs => ?_, fun i hi => ?_⟩
  · unfold mWrite
    by_cases e2 : k / m.wy = s
    · rw [← e2, set_upd_same _ (div_lt hkz)]
      have := h.hand (k / m.wy) (by rw [e2]; exact hs)
      exact this
    · rw [set_upd_other _ e2]
      exact h.hand s hs
  · rw [write_slot h.len hkz _ (by rw [hz]; omega)]
    by_cases e2 : k = i
    · rw [if_pos e2]
    · rw [if_neg e2]
      exact h.slot i (by omega)
theorem PartN.first {st wy : Nat} (hw : 1 ≤ wy) (v : WSlot) : PartN st wy 0 (mAll v st wy) :=
  ⟨mAll_len hw, rfl, mAll_st _ _ _, fun s hs => by rw [mAll_set hs], fun i hi => absurd hi (Nat.not_lt_zero _)⟩
theorem PartN.all {st wy : Nat} {m : WM} (h : PartN st wy (st * wy) m) (hw : 1 ≤ wy) : m = mNew st wy := by
  have hz : m.size = st * wy := by unfold WM.size; rw [h.est, h.ewy]
  refine wm_ext (n := mAll wE st wy) h.len (mAll_len hw) h.ewy (by rw [mAll_st]; exact h.est) (fun s hs => ?_) (fun i hi => ?_)
  · rw [h.est] at hs
    rw [h.hand s hs, mAll_set hs]
  · rw [hz] at hi
    rw [h.slot i hi, mAll_slot hi hw]
theorem wcs_rep (v : WSlot) (n : Nat) (zc : Array Value) (hz : zc = #[.int .i64 v.b, .bool v.d, .bool v.k]) : (madeCells zc (n * 3)).toList = wcs (List.replicate n v) := by
  subst hz
  apply List.ext_getElem?
  intro j
  by_cases hj : j < n * 3
  · have hd : j / 3 < n := by omega
    have hm := made_get #[.int .i64 v.b, .bool v.d, .bool v.k] 3 rfl (by decide) n (j / 3) (j % 3) hd (Nat.mod_lt _ (by decide))
    have he : j / 3 * 3 + j % 3 = j := by omega
    rw [he] at hm
    rw [Array.getElem?_toList, hm]
    obtain ⟨g1, g2, g3⟩ := wcs_get (l := List.replicate n v) (j := j / 3) (s := v) (by rw [List.getElem?_replicate, if_pos hd])
    have h3 : j % 3 = 0 ∨ j % 3 = 1 ∨ j % 3 = 2 := by omega
    rcases h3 with e | e | e
    · rw [e] at he ⊢
      rw [← he, Nat.add_zero, g1]; rfl
    · rw [e] at he ⊢
      rw [← he, g2]; rfl
    · rw [e] at he ⊢
      rw [← he, g3]; rfl
  · rw [List.getElem?_eq_none (by rw [Array.length_toList]; unfold madeCells; simp; omega), List.getElem?_eq_none (by rw [wcs_len, List.length_replicate]; omega)]
set_option maxRecDepth 100000 in
theorem info_cont : (Try.prog.info? 64).map (fun i => (i.zero, i.size, i.bytes)) = some (some (.agg #[.int .i64 0, .bool false, .bool false]), 3, 16) := by kernel_rfl
set_option maxRecDepth 100000 in
theorem info_int13 : (Try.prog.info? 3).map (fun i => (i.zero, i.size, i.bytes)) = some (some (.int .i64 0), 1, 8) := by kernel_rfl
set_option maxRecDepth 100000 in
theorem make_slots (x : World) (n : Nat) (hn : n ≤ 1000) : ∃ x', (Instr.makeSlice 52 (.int .i64 (n : Int)) (.int .i64 (n : Int))).run Try.prog x = .ok (.slice (some ⟨x.heap.size, 0, none⟩) n n) x' ∧ RowC x' x.heap.size 64 (wcs (List.replicate n wZ)) ∧ x.grownBy x' none := by
  obtain ⟨i0, hi, hz0, hz1, hz2⟩ := info_parts info_cont
  obtain ⟨x', r, ho, hg⟩ := run_make_full (P := Try.prog) x x.heap.size 52 64 i0 (.agg #[.int .i64 0, .bool false, .bool false]) 3 Try.underlying52 hi hz0 hz1 .i64 .i64 n (by rw [hz2]; omega) (by unfold maxLen; omega) (Nat.le_refl _)
  have e0 : (madeCells (Value.agg #[Value.int IntKind.i64 0, Value.bool false, Value.bool false]).cells (n * 3)).toList = wcs (List.replicate n wZ) := wcs_rep wZ n _ rfl
  rw [e0] at ho
  exact ⟨x', r, ownsRow_full ho, hg⟩
set_option maxRecDepth 100000 in
theorem make_ints (x : World) (n : Nat) (hn : n ≤ 1000) : ∃ x', (Instr.makeSlice 43 (.int .i64 (n : Int)) (.int .i64 (n : Int))).run Try.prog x = .ok (.slice (some ⟨x.heap.size, 0, none⟩) n n) x' ∧ RowC x' x.heap.size 3 (List.replicate n (.int .i64 0)) ∧ x.grownBy x' none := by
  obtain ⟨i0, hi, hz0, hz1, hz2⟩ := info_parts info_int13
  obtain ⟨x', r, ho, hg⟩ := run_make_full (P := Try.prog) x x.heap.size 43 3 i0 (.int .i64 0) 1 Try.underlying43 hi hz0 hz1 .i64 .i64 n (by rw [hz2]; omega) (by unfold maxLen; omega) (Nat.le_refl _)
  rw [show (Value.int IntKind.i64 0).cells = #[.int .i64 0] from rfl, toList_madeCells_one, Nat.mul_one] at ho
  exact ⟨x', r, ownsRow_full ho, hg⟩
/-- The three blocks, side by side, are a map. -/
theorem wd_made {w : World} {P SB HB : Nat} {hd : Nat → Nat → Nat → Array Value} {tP tS : TypeId} (v : WSlot) {st wy : Nat} (hw : 1 ≤ wy) (hn : st * wy ≤ 1000)
    (r1 : RowC w P tP (hd st wy (st * wy)).toList) (r2 : RowC w SB tS (wcs (List.replicate (st * wy) v))) (r3 : RowC w HB 3 (List.replicate st (.int .i64 0)))
    (n1 : P ≠ SB) (n2 : P ≠ HB) (n3 : SB ≠ HB) : WyG hd tP tS P SB HB (st * wy) (mAll v st wy) w (fun k => k = P ∨ k = SB ∨ k = HB) := by
  refine ⟨(wcs (List.replicate (st * wy) v)).toArray, by simp [wcs_len], by rw [mAll_size]; exact Nat.le_refl _, by unfold maxLen; omega, ?_, ?_⟩
  · rw [mAll_flat hw, mAll_size, List.take_of_length_le (by simp [wcs_len])]
  · refine ⟨fun k => k = P, fun k => k = SB ∨ k = HB, ⟨?_, rfl⟩, ⟨fun k => k = SB, fun k => k = HB, ⟨r2, rfl⟩, ⟨?_, rfl⟩, fun k e1 e2 => n3 (e1.symm.trans e2), rfl⟩, fun k e1 e2 => ?_, rfl⟩
    · rw [mAll_st, mAll_size]
      exact r1
    · rw [mAll_hands]
      unfold hcs
      rw [List.map_replicate]
      exact r3
    · rcases e2 with e2 | e2
      · exact n1 (e1.symm.trans e2)
      · exact n2 (e1.symm.trans e2)

set_option maxRecDepth 100000 in
set_option maxHeartbeats 1000000 in
/-- **New**, of numbers that may not be. -/
theorem wd_newNo (st wy : Int) (h : ¬ (1 ≤ st ∧ st ≤ 8 ∧ 1 ≤ wy ∧ wy ≤ 4)) :
    Calls Try.prog 9 #[.int .i64 st, .int .i64 wy] w fun e w' => e = .returned (.tuple #[.pointer none, .int .i64 1]) ∧ w' = w := by
  by_cases h1 : st < 1
  · have g1 : decide (st < 1) = true := by simpa using h1
    clear h h1
    go_enter Try.func9, Try.ntmps9
    go_wp2_with fail
    go_ret2
    exact ⟨rfl, rfl⟩
  · have g1 : decide (st < 1) = false := by simpa using h1
    by_cases h2 : 8 < st
    · have g2 : decide (8 < st) = true := by simpa using h2
      clear h h1 h2
      go_enter Try.func9, Try.ntmps9
      go_wp2_with fail
      go_ret2
      exact ⟨rfl, rfl⟩
    · have g2 : decide (8 < st) = false := by simpa using h2
      by_cases h3 : wy < 1
      · have g3 : decide (wy < 1) = true := by simpa using h3
        clear h h1 h2 h3
        go_enter Try.func9, Try.ntmps9
        go_wp2_with fail
        go_ret2
        exact ⟨rfl, rfl⟩
      · have g3 : decide (wy < 1) = false := by simpa using h3
        have g4 : decide (4 < wy) = true := by simp; omega
        clear h h1 h2 h3
        go_enter Try.func9, Try.ntmps9
        go_wp2_with fail
        go_ret2
        exact ⟨rfl, rfl⟩
theorem wpPlan_two13 {P : Program} {l : List Oper} {Q : Exit → Act → World → Prop} {S : World → Prop} {n i j : Nat} {p q : Plan} {a : Act} {w : World} : wpPlan P l Q S n (.two i j p q) a w = (wpList P l.toArray (planPost S Q (wpPlan P l Q S n p)) [nth l i] a w ∧ wpList P l.toArray (planPost S Q (wpPlan P l Q S n q)) [nth l j] a w) := rfl
set_option maxRecDepth 100000 in
set_option maxHeartbeats 2000000 in
/-- **New**. -/
theorem wd_newYes (st wy : Nat) (h1 : 1 ≤ st) (h2 : st ≤ 8) (h3 : 1 ≤ wy) (h4 : wy ≤ 4) :
    Calls Try.prog 9 #[.int .i64 (st : Int), .int .i64 (wy : Int)] w fun e w' => ∃ P SB HB, e = .returned (.tuple #[.pointer (some ⟨P, 0, none⟩), .int .i64 0]) ∧ (∃ f, WyD P SB HB (st * wy) (mNew st wy) w' f ∧ ∀ k, f k → w.heap.size ≤ k) ∧ Below w.heap.size w w' := by
  have hmx : Try.prog.follows .mixedOrders = true := by kernel_rfl
  have g1 : decide ((st : Int) < 1) = false := by simp; omega
  have g2 : decide (8 < (st : Int)) = false := by simp; omega
  have g3 : decide ((wy : Int) < 1) = false := by simp; omega
  have g4 : decide (4 < (wy : Int)) = false := by simp; omega
  obtain ⟨n, hn⟩ : ∃ n, st * wy = n := ⟨_, rfl⟩
  have hni : (st : Int) * (wy : Int) = (n : Int) := by rw [← hn]; simp
  have hn32 : n ≤ 32 := by rw [← hn]; calc st * wy ≤ 8 * 4 := Nat.mul_le_mul h2 h4
                                         _ = 32 := rfl
  have HN := Lib.hid hn
  obtain ⟨B, hB⟩ : ∃ B, w.heap.size = B := ⟨_, rfl⟩
  have HB0 : Hid (w.heap.size = B) := hB
  have HBR : Hid (Below B w w.drew) := by show Below B w w.drew; rw [← hB]; exact (Below.refl _ w).drew
  have HSD : Hid (w.drew.heap.size = B) := hB
  clear hB hn
  have H1 := Lib.hid h1
  have H2 := Lib.hid h2
  have H3 := Lib.hid h3
  clear h1 h2 h3
  go_enter Try.func9, Try.ntmps9
  go_wp2_with fail
  refine region_plan (fun _ => True) 7 (.takes [0, 1, 2, 3, 5] (.two 4 6 (.one 6 .leaf) (.one 4 .leaf))) hmx (by kernel_rfl) (by intro c x v a w h; cases x <;> exact h) trivial ?_
  repeat (rw [wpPlan_takes_cons]; simp only [nth_zero, nth_succ]; go_big_quiet_step (fail); refine wpQuiet_nil ?_)
  rw [wpPlan_takes_nil, wpPlan_two13]
  simp only [nth_zero, nth_succ, hni]
  have KD : Hid (∀ (P SB HB : Nat) (m' : WM) (k : Nat) (f : Nat → Prop) (wr : World), PartN st wy k m' → k < n → WyD P SB HB n m' wr f → Calls Try.prog 23 #[.pointer (some ⟨P, 0, none⟩), .int .i64 (k : Int)] wr fun e w' => e = .returned (.tuple #[]) ∧ PartN st wy (k + 1) (mDrop m' (k : Int)) ∧ WyD P SB HB n (mDrop m' (k : Int)) w' f ∧ Turn f f wr w') := fun P SB HB m' k f wr hp hk hd => by
    have hz : m'.size = n := by unfold WM.size; rw [hp.est, hp.ewy]; exact HN.out
    exact (hd.drop hp.len (by rw [hz]; exact hn32) (k : Int)).mono fun e w' h => ⟨h.1, hp.step (by rw [HN.out]; exact hk), h.2⟩
  refine ⟨?_, ?_⟩
  · skip
    obtain ⟨x1, m1, r1, gg1⟩ := make_slots w.drew n (by omega)
    obtain ⟨x, m2, r2, gg2⟩ := make_ints x1 st (by have := H2.out; omega)
    rw [HSD.out] at m1 r1
    obtain ⟨SB, hSB⟩ : ∃ SB, SB = B := ⟨_, rfl⟩
    obtain ⟨HB, hHB⟩ : ∃ HB, x1.heap.size = HB := ⟨_, rfl⟩
    rw [hHB] at m2 r2
    rw [← hSB] at m1 r1
    have M1 := Lib.hid m1
    have M2 := Lib.hid m2
    have l1 := r1.lt
    have R1 : Hid (RowC x SB 64 (wcs (List.replicate n wZ))) := r1.grown gg2 (by simp)
    have R2 := Lib.hid r2
    have BX : Hid (Below B w x) := (HBR.out.grown gg1 (by rw [HSD.out]; exact Nat.le_refl _) (fun j e => by cases e)).grown gg2 (by have := gg1.size; rw [HSD.out] at this; exact this) (fun j e => by cases e)
    have NE : Hid (SB ≠ HB) := by show SB ≠ HB; omega
    have LS : Hid (B ≤ SB) := by show B ≤ SB; omega
    have LH : Hid (B ≤ HB) := by show B ≤ HB; omega
    clear m1 m2 r1 r2 gg1 gg2 l1 hSB hHB
    go_wp2_with ((with_reducible refine gate_make ?_); refine wpList_make_run _ _ _ rfl rfl _ _ _ rfl rfl M1.out ?_)
    refine planPost_mk trivial ?_
    rw [wpPlan_one]
    simp only [nth_zero, nth_succ]
    go_wp2_with ((with_reducible refine gate_make ?_); refine wpList_make_run _ _ _ rfl rfl _ _ _ rfl rfl M2.out ?_)
    refine planPost_mk trivial ?_
    rw [wpPlan_leaf]
    simp only [List.drop_succ_cons, List.drop_zero]
    obtain ⟨P, hP⟩ : ∃ P, x.heap.size = P := ⟨_, rfl⟩
    obtain ⟨W, hW⟩ : ∃ W, x.alloc (.cells #[.int .i64 (wy : Int), .slice (some ⟨SB, 0, none⟩) n n, .slice (some ⟨HB, 0, none⟩) st st] 54) = W := ⟨_, rfl⟩
    have RP : RowC W P 54 [.int .i64 (wy : Int), .slice (some ⟨SB, 0, none⟩) n n, .slice (some ⟨HB, 0, none⟩) st st] := by rw [← hW, ← hP]; exact RowC.new _ _ _
    have hXW : Below x.heap.size x W := by rw [← hW]; exact below_new _ _
    have BW : Hid (Below B w W) := BX.out.trans (hXW.mono (by have := BX.out.size; have := HB0.out; omega))
    have LP : Hid (B ≤ P) := by show B ≤ P; rw [← hP]; have := BX.out.size; have := HB0.out; omega
    have c1 := RP.cell 1 _ rfl
    have MD : Hid (WyD P SB HB n (mAll wZ st wy) W (fun k => k = P ∨ k = SB ∨ k = HB)) := by
      have := wd_made (w := W) (P := P) (SB := SB) (HB := HB) (hd := dHead SB HB n) (tP := 54) (tS := 64) wZ (st := st) (wy := wy) H3.out (by rw [HN.out]; omega) (by rw [HN.out]; exact RP) (by rw [HN.out]; exact R1.out.below hXW) (R2.out.below hXW)
        (fun e => by have := R1.out.lt; omega) (fun e => by have := R2.out.lt; omega) NE.out
      rw [HN.out] at this
      exact this
    have HP := Lib.hid hP
    have HF : Hid (∀ k, (fun k => k = P ∨ k = SB ∨ k = HB) k → B ≤ k) := fun k hk => by
      rcases hk with rfl | rfl | rfl
      · exact LP.out
      · exact LS.out
      · exact LH.out
    obtain ⟨f, hf⟩ : ∃ f : Nat → Prop, (fun k => k = P ∨ k = SB ∨ k = HB) = f := ⟨_, rfl⟩
    rw [hf] at MD HF
    clear RP hXW hf
    go_wp2_with fail
    clear c1 hP
    go_loopw [7, 36] (fun _ iv wr => ∃ (k : Nat) (m' : WM), k ≤ n ∧ iv = .int .i64 (k : Int) ∧ Hid (PartN st wy k m') ∧ Hid (WyD P SB HB n m' wr f) ∧ Hid (Turn f f W wr)) (fun _ iv _ => n - (intOf iv).toNat)
    case atStart => exact ⟨0, mAll wZ st wy, Nat.zero_le _, rfl, PartN.first H3.out wZ, MD, Turn.refl _ _⟩
    case round =>
      obtain ⟨k, m', hk, rfl, HQ, HM, HT⟩ := hrel
      by_cases hlt : k < n
      · have q1 : (k : Int) < (n : Int) := by omega
        have HLT := Lib.hid hlt
        go_wp2_with fail
        refine (KD.out P SB HB m' k f _ HQ.out HLT.out HM.out).mono ?_
        rintro e y ⟨rfl, a1, a2, a3⟩
        have A1 := Lib.hid a1
        have A2 := Lib.hid a2
        have A3 := Lib.hid (HT.out.trans a3)
        clear a1 a2 a3
        go_wp2_with fail
        exact ⟨⟨k + 1, _, HLT.out, by simp, A1, A2, A3⟩, by have := HLT.out; simp [intOf]; omega⟩
      · obtain rfl : k = n := by omega
        have E : Hid (m' = mNew st wy) := by
          have := HQ.out
          rw [← HN.out] at this
          exact this.all H3.out
        rw [E.out] at HM
        go_wp2_with fail
        go_ret2
        refine ⟨P, SB, HB, rfl, ⟨f, ?_, ?_⟩, ?_⟩
        · rw [HN.out]; exact HM.out
        · rw [HB0.out]; exact HF.out
        · rw [HB0.out]; exact BW.out.trans (HT.out.below (by have := BW.out.size; have := HB0.out; omega) HF.out)
  · skip
    obtain ⟨x1, m1, r1, gg1⟩ := make_ints w.drew st (by have := H2.out; omega)
    obtain ⟨x, m2, r2, gg2⟩ := make_slots x1 n (by omega)
    rw [HSD.out] at m1 r1
    obtain ⟨HB, hHB⟩ : ∃ HB, HB = B := ⟨_, rfl⟩
    obtain ⟨SB, hSB⟩ : ∃ SB, x1.heap.size = SB := ⟨_, rfl⟩
    rw [hSB] at m2 r2
    rw [← hHB] at m1 r1
    have M1 := Lib.hid m1
    have M2 := Lib.hid m2
    have l1 := r1.lt
    have R2 : Hid (RowC x HB 3 (List.replicate st (.int .i64 0))) := r1.grown gg2 (by simp)
    have R1 := Lib.hid r2
    have BX : Hid (Below B w x) := (HBR.out.grown gg1 (by rw [HSD.out]; exact Nat.le_refl _) (fun j e => by cases e)).grown gg2 (by have := gg1.size; rw [HSD.out] at this; exact this) (fun j e => by cases e)
    have NE : Hid (SB ≠ HB) := by show SB ≠ HB; omega
    have LS : Hid (B ≤ SB) := by show B ≤ SB; omega
    have LH : Hid (B ≤ HB) := by show B ≤ HB; omega
    clear m1 m2 r1 r2 gg1 gg2 l1 hSB hHB
    go_wp2_with ((with_reducible refine gate_make ?_); refine wpList_make_run _ _ _ rfl rfl _ _ _ rfl rfl M1.out ?_)
    refine planPost_mk trivial ?_
    rw [wpPlan_one]
    simp only [nth_zero, nth_succ]
    go_wp2_with ((with_reducible refine gate_make ?_); refine wpList_make_run _ _ _ rfl rfl _ _ _ rfl rfl M2.out ?_)
    refine planPost_mk trivial ?_
    rw [wpPlan_leaf]
    simp only [List.drop_succ_cons, List.drop_zero]
    obtain ⟨P, hP⟩ : ∃ P, x.heap.size = P := ⟨_, rfl⟩
    obtain ⟨W, hW⟩ : ∃ W, x.alloc (.cells #[.int .i64 (wy : Int), .slice (some ⟨SB, 0, none⟩) n n, .slice (some ⟨HB, 0, none⟩) st st] 54) = W := ⟨_, rfl⟩
    have RP : RowC W P 54 [.int .i64 (wy : Int), .slice (some ⟨SB, 0, none⟩) n n, .slice (some ⟨HB, 0, none⟩) st st] := by rw [← hW, ← hP]; exact RowC.new _ _ _
    have hXW : Below x.heap.size x W := by rw [← hW]; exact below_new _ _
    have BW : Hid (Below B w W) := BX.out.trans (hXW.mono (by have := BX.out.size; have := HB0.out; omega))
    have LP : Hid (B ≤ P) := by show B ≤ P; rw [← hP]; have := BX.out.size; have := HB0.out; omega
    have c1 := RP.cell 1 _ rfl
    have MD : Hid (WyD P SB HB n (mAll wZ st wy) W (fun k => k = P ∨ k = SB ∨ k = HB)) := by
      have := wd_made (w := W) (P := P) (SB := SB) (HB := HB) (hd := dHead SB HB n) (tP := 54) (tS := 64) wZ (st := st) (wy := wy) H3.out (by rw [HN.out]; omega) (by rw [HN.out]; exact RP) (by rw [HN.out]; exact R1.out.below hXW) (R2.out.below hXW)
        (fun e => by have := R1.out.lt; omega) (fun e => by have := R2.out.lt; omega) NE.out
      rw [HN.out] at this
      exact this
    have HP := Lib.hid hP
    have HF : Hid (∀ k, (fun k => k = P ∨ k = SB ∨ k = HB) k → B ≤ k) := fun k hk => by
      rcases hk with rfl | rfl | rfl
      · exact LP.out
      · exact LS.out
      · exact LH.out
    obtain ⟨f, hf⟩ : ∃ f : Nat → Prop, (fun k => k = P ∨ k = SB ∨ k = HB) = f := ⟨_, rfl⟩
    rw [hf] at MD HF
    clear RP hXW hf
    go_wp2_with fail
    clear c1 hP
    go_loopw [7, 36] (fun _ iv wr => ∃ (k : Nat) (m' : WM), k ≤ n ∧ iv = .int .i64 (k : Int) ∧ Hid (PartN st wy k m') ∧ Hid (WyD P SB HB n m' wr f) ∧ Hid (Turn f f W wr)) (fun _ iv _ => n - (intOf iv).toNat)
    case atStart => exact ⟨0, mAll wZ st wy, Nat.zero_le _, rfl, PartN.first H3.out wZ, MD, Turn.refl _ _⟩
    case round =>
      obtain ⟨k, m', hk, rfl, HQ, HM, HT⟩ := hrel
      by_cases hlt : k < n
      · have q1 : (k : Int) < (n : Int) := by omega
        have HLT := Lib.hid hlt
        go_wp2_with fail
        refine (KD.out P SB HB m' k f _ HQ.out HLT.out HM.out).mono ?_
        rintro e y ⟨rfl, a1, a2, a3⟩
        have A1 := Lib.hid a1
        have A2 := Lib.hid a2
        have A3 := Lib.hid (HT.out.trans a3)
        clear a1 a2 a3
        go_wp2_with fail
        exact ⟨⟨k + 1, _, HLT.out, by simp, A1, A2, A3⟩, by have := HLT.out; simp [intOf]; omega⟩
      · obtain rfl : k = n := by omega
        have E : Hid (m' = mNew st wy) := by
          have := HQ.out
          rw [← HN.out] at this
          exact this.all H3.out
        rw [E.out] at HM
        go_wp2_with fail
        go_ret2
        refine ⟨P, SB, HB, rfl, ⟨f, ?_, ?_⟩, ?_⟩
        · rw [HN.out]; exact HM.out
        · rw [HB0.out]; exact HF.out
        · rw [HB0.out]; exact BW.out.trans (HT.out.below (by have := BW.out.size; have := HB0.out; omega) HF.out)
end Go.Proofs.Ytlpmikbplngmnaa
