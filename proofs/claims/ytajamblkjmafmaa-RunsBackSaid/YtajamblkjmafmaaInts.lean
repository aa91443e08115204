/- revetmentkeep.Ints: of two rows that are alike. -/
import Derived.Test.YtajamblkjmafmaaState
import Derived.Test.YtajamblkjmafmaaOrd
namespace Go.Proofs.Ytajamblkjmafmaa
open Go.RowKit
set_option linter.unusedVariables false

/-- A row of one's own, as a slice of numbers. -/
theorem sl_own {w : World} {base e n : Nat} {v : Value} {k : IntKind} {bs : List Int} (h : w.ownsRow base e 1 v n (bs.map (Value.int k))) : Sl k w v bs := by
  have hl : bs.length = n := by simpa using h.1
  rcases h.2 with ⟨rfl, h0⟩ | ⟨g, cap, cur, rfl, h1, h2, h3, h4, h5, h6⟩
  · obtain rfl : bs = [] := List.eq_nil_of_length_eq_zero (by omega)
    exact Sl.nil _ _
  · subst hl
    refine ⟨_, cap, rfl, h3, h4, .inr ⟨g, 0, rfl, (Array.getElem?_eq_some_iff.1 h2).1, fun j hj => ?_⟩, fun e => by cases e⟩
    rw [cell_of_row _ _ _ _ _ _ h2]
    have : (cur.toList.take (bs.length * 1))[j]? = (bs.map (Value.int k))[j]? := by rw [h6]
    rw [List.getElem?_take, if_pos (by omega)] at this
    simp only [Nat.zero_add]
    rw [← Array.getElem?_toList, this]
    simp [hj]

set_option maxRecDepth 100000 in
set_option maxHeartbeats 2000000 in
theorem ints_same (u v : Value) (xs : List Int) (w : World) (hu : Sl .i64 w u xs) (hv : Sl .i64 w v xs) :
    Calls Try.prog 10 #[u, v] w fun e w' => e = .returned (.bool true) ∧ Below w.heap.size w w' := by
  obtain ⟨a, ca, rfl, ha1, ha2, hla, -⟩ := hu
  obtain ⟨b, cb, rfl, hb1, hb2, hlb, -⟩ := hv
  obtain ⟨n, hn⟩ : ∃ n, xs.length = n := ⟨_, rfl⟩
  have HN := Lib.hid hn
  rw [hn] at ha1 hb1 ⊢
  have HM : Hid (n ≤ maxLen) := Nat.le_trans ha1 ha2
  have HLA := Lib.hid hla
  have HLB := Lib.hid hlb
  clear hla hlb hn ha1 ha2 hb1 hb2
  have hmx : Try.prog.follows .mixedOrders = true := by kernel_rfl
  go_enter Try.func10, Try.ntmps10
  go_wp2
  go_loopw [5] (fun i wr => ∃ k : Nat, k ≤ n ∧ i = .int .i64 k ∧ Below w.heap.size w wr) (fun i _ => n - (intOf i).toNat)
  case atStart => exact ⟨0, Nat.zero_le _, rfl, Below.refl _ _⟩
  case round =>
    obtain ⟨k, hk, rfl, hB⟩ := hrel
    by_cases hlt : k < n
    · obtain ⟨x, hx⟩ : ∃ x, xs[k]?.getD 0 = x := ⟨_, rfl⟩
      obtain ⟨ba, oa, rfl, c1⟩ : ∃ ba oa, a = some ⟨ba, oa, none⟩ ∧ wr.cell? ⟨ba, oa + k, none⟩ = some (.int .i64 x) := by
        rcases HLA.out with e | ⟨ba, oa, rfl, h1, h2⟩
        · have := HN.out; rw [e] at this; simp at this; omega
        · exact ⟨ba, oa, rfl, (hB.cell (p := ⟨ba, oa + k, none⟩) h1).trans (by rw [← hx]; exact h2 k (by rw [HN.out]; exact hlt))⟩
      obtain ⟨bb, ob, rfl, c2⟩ : ∃ bb ob, b = some ⟨bb, ob, none⟩ ∧ wr.cell? ⟨bb, ob + k, none⟩ = some (.int .i64 x) := by
        rcases HLB.out with e | ⟨bb, ob, rfl, h1, h2⟩
        · have := HN.out; rw [e] at this; simp at this; omega
        · exact ⟨bb, ob, rfl, (hB.cell (p := ⟨bb, ob + k, none⟩) h1).trans (by rw [← hx]; exact h2 k (by rw [HN.out]; exact hlt))⟩
      have g1 : (k : Int) < (n : Int) := by omega
      have HLT := Lib.hid hlt
      have HB := Lib.hid hB
      have HW : Hid (wrap64 ((k : Int) + 1) = (k : Int) + 1) := IntWalk.wrap64_in _ (by have := HM.out; unfold maxLen at this; omega)
      clear hx hlt hk hB
      go_wp2_with fail
      refine region_plan (fun x => x = wr.drew) 8 (.takes [0, 1, 2, 3, 4, 5, 6, 7] .leaf) hmx (by kernel_rfl) (by intro c x v a w h; cases x <;> exact h) rfl ?_
      repeat (rw [wpPlan_takes_cons]; simp only [nth_zero, nth_succ]; go_big_quiet_step (fail); refine wpQuiet_nil ?_)
      rw [wpPlan_takes_nil, wpPlan_leaf]
      simp only [List.drop_succ_cons, List.drop_zero]
      go_wp2_with fail
      exact ⟨next_rel (C := fun _ => Below w.heap.size w wr.drew) HW.out HLT.out HB.out.drew, next_lt HW.out HLT.out⟩
    · obtain rfl : k = n := by omega
      have HB := Lib.hid hB
      clear hB
      go_wp2_with fail
      go_ret
      exact ⟨rfl, HB.out⟩
end Go.Proofs.Ytajamblkjmafmaa
