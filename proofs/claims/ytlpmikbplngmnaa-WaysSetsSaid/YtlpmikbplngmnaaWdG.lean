/- The program's map of blocks in slots: Dirty; a map that nobody made. -/
import Derived.Test.YtlpmikbplngmnaaWdF
import Derived.Test.YtlpmikbplngmnaaWyDty
import Derived.Deep.Cut
import Derived.Deep.CutRange
import Derived.Deep.CutBlock
namespace Go.Proofs.Ytlpmikbplngmnaa
open Go.RowKit Go.Shelf Go.Lib
set_option linter.unusedVariables false
set_option linter.unusedSimpArgs false
variable {P SB HB cap : Nat} {m : WM} {w : World} {f : Nat → Prop}
def dRow (m : WM) (k : Nat) : List Value := ((mDirty m).take k ++ List.replicate (m.size - k) 0).map (Value.int .i64)
theorem dRow_zero (m : WM) : dRow m 0 = List.replicate m.size (.int .i64 0) := by unfold dRow; simp
theorem dirty_len (m : WM) : (mDirty m).length = m.size := by unfold mDirty; simp
theorem dRow_all (m : WM) : dRow m m.size = (mDirty m).map (Value.int .i64) := by
  unfold dRow
  rw [Nat.sub_self, List.take_of_length_le (by rw [dirty_len]; exact Nat.le_refl _)]
  simp
theorem dRow_step {m : WM} {k : Nat} (h : k < m.size) : (dRow m k).set k (.int .i64 (dOf (m.slot k))) = dRow m (k + 1) := by
  unfold dRow
  rw [dirty_take h]
  obtain ⟨n, hn⟩ : ∃ n, m.size - k = n + 1 := ⟨m.size - k - 1, by omega⟩
  rw [hn, show m.size - (k + 1) = n by omega, List.replicate_succ]
  have hl : ((mDirty m).take k).length = k := by rw [List.length_take, dirty_len]; omega
  simp only [List.map_append, List.map_cons, List.append_assoc, List.map_nil, List.cons_append, List.nil_append]
  rw [List.set_append_right _ _ (by rw [List.length_map, hl]; exact Nat.le_refl _), List.length_map, hl, Nat.sub_self]
  rfl

set_option maxRecDepth 100000 in
set_option maxHeartbeats 2000000 in
/-- **Dirty**. -/
theorem WyD.dirty (h : WyD P SB HB cap m w f) (ho : WmOk m) :
    Calls Try.prog 27 #[.pointer (some ⟨P, 0, none⟩)] w fun e w' => ∃ u, e = .returned u ∧ InO w.heap.size w' u (mDirty m) ∧ Below w.heap.size w w' := by
  have hn8 := ho.size32
  have KK : Hid (∀ x : World, Below w.heap.size w x → WyD P SB HB cap m x f) := fun x hx => (WyD.isRes P SB HB cap m).below h hx
  have KH : Hid (∀ x : World, Below w.heap.size w x → x.cell? ⟨P, 1, none⟩ = some (.slice (some ⟨SB, 0, none⟩) m.size cap)) := fun x hx => (KK.out x hx).head.2.1
  have KS : Hid (∀ x : World, Below w.heap.size w x → ∀ r, r < m.size → x.cell? ⟨SB, r * 3, none⟩ = some (.int .i64 (m.slot r).b) ∧ x.cell? ⟨SB, r * 3 + 1, none⟩ = some (.bool (m.slot r).d) ∧ x.cell? ⟨SB, r * 3 + 2, none⟩ = some (.bool (m.slot r).k)) := fun x hx r hr => (KK.out x hx).slot hr
  obtain ⟨x0, mk, r0, g0⟩ := make_ints w m.size (by omega)
  have HMK := Lib.hid mk
  have HR0 : Hid (RowC x0 w.heap.size 3 (dRow m 0)) := by show RowC _ _ _ _; rw [dRow_zero]; exact r0
  have HB0 : Hid (Below w.heap.size w x0) := (Below.refl _ w).grown g0 (Nat.le_refl _) (fun j e => by cases e)
  have HT : Hid (∀ k, k < m.size → (dRow m k).set k (.int .i64 (dOf (m.slot k))) = dRow m (k + 1)) := fun k hk => dRow_step hk
  have HA : Hid (dRow m m.size = (mDirty m).map (Value.int .i64)) := dRow_all m
  have HDL : Hid (∀ k, k ≤ m.size → (dRow m k).length = m.size) := fun k hk => by
    show (dRow m k).length = m.size
    unfold dRow
    rw [List.length_map, List.length_append, List.length_take, dirty_len, List.length_replicate]
    omega
  have HDM : Hid ((mDirty m).length = m.size) := dirty_len m
  obtain ⟨nn, hnn⟩ : ∃ nn, m.size = nn := ⟨_, rfl⟩
  rw [hnn] at hn8 KH KS HT HA HMK HDL HDM
  obtain ⟨B, hB⟩ : ∃ B, w.heap.size = B := ⟨_, rfl⟩
  rw [hB] at KK KH KS HR0 HB0 HMK ⊢
  have HSZ := Lib.hid hB
  clear h ho hnn mk r0 g0 hB
  have c0 := KH.out w (by rw [← HSZ.out]; exact Below.refl _ w)
  have c1 := KH.out x0 HB0.out
  go_enter Try.func27, Try.ntmps27
  go_wp2_with ((with_reducible refine gate_make ?_); refine wpList_make_run _ _ _ rfl rfl _ _ _ rfl rfl HMK.out ?_)
  clear c0 c1
  go_loopw [19] (fun iv wr => ∃ k : Nat, k ≤ nn ∧ iv = .int .i64 (k : Int) ∧ Hid (RowC wr B 3 (dRow m k)) ∧ Hid (Below B w wr)) (fun iv _ => nn - (intOf iv).toNat)
  case atStart => exact ⟨0, Nat.zero_le _, rfl, HR0, HB0⟩
  case round =>
    obtain ⟨k, hk, rfl, HU, HB⟩ := hrel
    by_cases hlt : k < nn
    · have g1 : (k : Int) < (nn : Int) := by omega
      have HLT := Lib.hid hlt
      obtain ⟨c1, c2, c3⟩ := KS.out _ HB.out k hlt
      obtain ⟨C, hC⟩ : ∃ C, wr.heap.size = C := ⟨_, rfl⟩
      obtain ⟨X, hX⟩ : ∃ X, wr.alloc (.cells #[.int .i64 (m.slot k).b, .bool (m.slot k).d, .bool (m.slot k).k] 64) = X := ⟨_, rfl⟩
      have hWX : Below wr.heap.size wr X := by rw [← hX]; exact below_new _ _
      have hBw : B ≤ wr.heap.size := by rw [← HSZ.out]; exact HB.out.size
      have hlB : B < wr.heap.size := HU.out.lt
      have RU : RowC X B 3 (dRow m k) := HU.out.below hWX
      have RC : RowC X C 64 [.int .i64 (m.slot k).b, .bool (m.slot k).d, .bool (m.slot k).k] := by rw [← hX, ← hC]; exact RowC.new _ _ _
      have HBX : Hid (Below B w X) := HB.out.trans (hWX.mono hBw)
      have hne : B ≠ C := by omega
      have d0 : ∃ z, X.cell? ⟨B, k, none⟩ = some z := by
        have hl := HDL.out k hk
        exact ⟨_, RU.cell k _ (List.getElem?_eq_getElem (by rw [hl]; exact hlt))⟩
      obtain ⟨z, d0⟩ := d0
      have d1 := RU.frozen k
      have hY := RU.set k (.int .i64 (-1))
      have RCY : RowC (X.setCell ⟨B, k, none⟩ (.int .i64 (-1))) C 64 [.int .i64 (m.slot k).b, .bool (m.slot k).d, .bool (m.slot k).k] := (Below.heap_setCell _ _ _ C (fun e => hne e.symm)).trans RC
      have e0 := RCY.cell 0 _ rfl
      have e1 := RCY.cell 1 _ rfl
      have e2 : ∃ z, (X.setCell ⟨B, k, none⟩ (.int .i64 (-1))).cell? ⟨B, k, none⟩ = some z := by
        have hl := HDL.out k hk
        exact ⟨_, hY.cell k _ (List.getElem?_eq_getElem (by rw [List.length_set, hl]; exact hlt))⟩
      obtain ⟨z2, e2⟩ := e2
      have e3 := hY.frozen k
      have HBY : Hid (Below B w (X.setCell ⟨B, k, none⟩ (.int .i64 (-1)))) := HBX.out.setCell (p := ⟨B, k, none⟩) (Nat.le_refl _) _
      have HLT := Lib.hid hlt
      have hst := HT.out k hlt
      by_cases hd : (m.slot k).d = true
      · have hx : dOf (m.slot k) = (m.slot k).b := by unfold dOf; rw [if_pos hd]
        have HZ : Hid (RowC ((X.setCell ⟨B, k, none⟩ (.int .i64 (-1))).setCell ⟨B, k, none⟩ (.int .i64 (m.slot k).b)) B 3 (dRow m (k + 1))) := by
          have := hY.set k (.int .i64 (m.slot k).b)
          rw [List.set_set, ← hx, hst] at this
          rw [← hx]
          exact this
        have HBZ : Hid (Below B w ((X.setCell ⟨B, k, none⟩ (.int .i64 (-1))).setCell ⟨B, k, none⟩ (.int .i64 (m.slot k).b))) := HBY.out.setCell (p := ⟨B, k, none⟩) (Nat.le_refl _) _
        rw [hd] at c2 e1 hX
        clear hx hd hst hY RCY RC RU hWX hBw hlB hne hlt HB HU
        go_wp2_with fail
        exact ⟨⟨k + 1, HLT.out, by simp, HZ, HBZ⟩, by have := HLT.out; simp [intOf]; omega⟩
      · have hd2 : (m.slot k).d = false := by simpa using hd
        have hx : dOf (m.slot k) = -1 := by unfold dOf; rw [if_neg hd]
        have HZ : Hid (RowC (X.setCell ⟨B, k, none⟩ (.int .i64 (-1))) B 3 (dRow m (k + 1))) := by
          have := hY
          rw [← hx, hst] at this
          rw [← hx]
          exact this
        rw [hd2] at c2 e1 hX
        clear hx hd hd2 hst hY RCY RC RU hWX hBw hlB hne hlt HB HU
        go_wp2_with fail
        exact ⟨⟨k + 1, HLT.out, by simp, HZ, HBY⟩, by have := HLT.out; simp [intOf]; omega⟩
    · obtain rfl : k = nn := by omega
      have HI : Hid (InO B wr (.slice (some ⟨B, 0, none⟩) k k) (mDirty m)) := by
        show World.ownsRow _ _ _ _ _ _ _
        have hu := HU.out
        rw [HA.out] at hu
        have hl := HDM.out
        refine ⟨by rw [List.length_map]; simp, .inr ⟨B, k, ((mDirty m).map (Value.int .i64)).toArray, by rw [hl], Nat.le_refl _, hu, by omega, by unfold maxLen; omega, by simp [hl], ?_⟩⟩
        rw [hl, Nat.mul_one, List.take_of_length_le (by simp [hl])]
      clear HU
      go_wp2_with fail
      go_ret
      exact ⟨_, rfl, HI.out, HB.out⟩
end Go.Proofs.Ytlpmikbplngmnaa
