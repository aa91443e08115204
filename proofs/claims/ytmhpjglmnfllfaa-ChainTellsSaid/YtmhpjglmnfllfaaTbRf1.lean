/- The document's Find; pairs held against each other. -/
import Derived.Test.YtmhpjglmnfllfaaTbGd
namespace Go.Proofs.Ytmhpjglmnfllfaa
open Go.RowKit
set_option linter.unusedVariables false
attribute [-simp] Try.isAgg52 Try.zeroValue52
attribute [-go_sem] loadVar storeVar
attribute [local go_sem] loadVar_openP storeVar_openP zero_prs build_prs0 build_prs

set_option maxRecDepth 100000 in
set_option maxHeartbeats 4000000 in
/-- The document's **Find**. -/
theorem rf_find {w : World} {v : Value} {l : List (Int × Int)} (h : Prt w v l) (b : Int) (hlen : l.length ≤ 1000000) :
    Calls Try.prog 33 #[v, .int .i64 b] w fun e w' => e = .returned (.int .i64 (tIx l b)) ∧ w' = w := by
  have HP := Lib.hid h
  obtain ⟨pa, ca, rfl, -⟩ := h
  obtain ⟨n, hn⟩ : ∃ n, l.length = n := ⟨_, rfl⟩
  rw [hn] at HP hlen ⊢
  have HN := Lib.hid hn
  clear hn
  go_enter Try.func33, Try.ntmps33
  go_wp2_with fail
  go_loopw [5] (fun iv wr => ∃ k : Nat, k ≤ n ∧ iv = .int .i64 (k : Int) ∧ Hid (∀ (j : Nat) (p : Int × Int), j < k → l[j]? = some p → p.1 ≠ b) ∧ wr = w) (fun iv _ => n - (intOf iv).toNat)
  case atStart => exact ⟨0, Nat.zero_le _, rfl, fun j p hj => absurd hj (by omega), rfl⟩
  case round =>
    obtain ⟨k, hk, rfl, HS, rfl⟩ := hrel
    by_cases hlt : k < n
    · obtain ⟨p, hp⟩ : ∃ p, l[k]? = some p := ⟨_, List.getElem?_eq_getElem (by rw [HN.out]; exact hlt)⟩
      obtain ⟨bb, off, rfl, hbb, c1, c2⟩ := HP.out.at hp
      obtain ⟨x0, y0⟩ := p
      simp only at c1 c2
      have HPK := Lib.hid hp
      have g1 : (k : Int) < (n : Int) := by omega
      have HW : Hid (wrap64 ((k : Int) + 1) = (k : Int) + 1) := IntWalk.wrap64_in _ (by omega)
      have HLT := Lib.hid hlt
      clear hp hbb c2 hlt
      by_cases hx : x0 = b
      · subst hx
        have q1 : (x0 == x0) = true := by simp
        have HF : Hid (tIx l x0 = k) := by show _ = _; unfold tIx; rw [tFind_some.2 ⟨⟨_, HPK.out, rfl⟩, HS.out⟩]
        go_wp2_with fail
        go_ret
        exact ⟨by rw [HF.out]; rfl, rfl⟩
      · have q1 : (x0 == b) = false := by simpa using hx
        have HS1 : Hid (∀ (j : Nat) (p : Int × Int), j < k + 1 → l[j]? = some p → p.1 ≠ b) := fun j p hj hp => by
          by_cases e : j = k
          · subst e; rw [HPK.out] at hp; cases hp; exact hx
          · exact HS.out j p (by omega) hp
        go_wp2_with fail
        exact ⟨⟨k + 1, HLT.out, by simp, HS1, trivial⟩, by simp [intOf]; omega⟩
    · obtain rfl : k = n := by omega
      have HF : Hid (tIx l b = -1) := by
        show _ = _
        unfold tIx
        rw [tFind_none.2 fun j p hp => HS.out j p (by have := (List.getElem?_eq_some_iff.1 hp).1; rw [HN.out] at this; exact this) hp]
      go_wp2_with fail
      go_ret
      exact ⟨by rw [HF.out]; rfl, rfl⟩

set_option maxRecDepth 100000 in
set_option maxHeartbeats 4000000 in
/-- revetmentkeep.**Pairs** of two that are alike. -/
theorem pairs_same {w : World} {u v : Value} {l : List (Int × Int)} (hu : Prt w u l) (hv : Prt w v l) (hlen : l.length ≤ 1000000) :
    Calls Try.prog 42 #[u, v] w fun e w' => e = .returned (.bool true) ∧ Below w.heap.size w w' := by
  have HU := Lib.hid hu
  have HV := Lib.hid hv
  obtain ⟨pa, ca, rfl, -⟩ := hu
  obtain ⟨pb, cb, rfl, -⟩ := hv
  obtain ⟨n, hn⟩ : ∃ n, l.length = n := ⟨_, rfl⟩
  rw [hn] at HU HV hlen ⊢
  have HN := Lib.hid hn
  clear hn
  have hmx : Try.prog.follows .mixedOrders = true := by kernel_rfl
  go_enter Try.func42, Try.ntmps42
  go_wp2_with fail
  go_loopw [5] (fun iv wr => ∃ k : Nat, k ≤ n ∧ iv = .int .i64 (k : Int) ∧ Hid (Below w.heap.size w wr)) (fun iv _ => n - (intOf iv).toNat)
  case atStart => exact ⟨0, Nat.zero_le _, rfl, Below.refl _ _⟩
  case round =>
    obtain ⟨k, hk, rfl, HB⟩ := hrel
    by_cases hlt : k < n
    · obtain ⟨p, hp⟩ : ∃ p, l[k]? = some p := ⟨_, List.getElem?_eq_getElem (by rw [HN.out]; exact hlt)⟩
      obtain ⟨b1, o1, rfl, hb1, c1, c2⟩ := (HU.out.below HB.out).at hp
      obtain ⟨b2, o2, rfl, hb2, c3, c4⟩ := (HV.out.below HB.out).at hp
      obtain ⟨x0, y0⟩ := p
      simp only at c1 c2 c3 c4
      have L1 := load_prs (W := wr.drew) c1 c2
      have L2 := load_prs (W := wr.drew) c3 c4
      have g1 : (k : Int) < (n : Int) := by omega
      have HW : Hid (wrap64 ((k : Int) + 1) = (k : Int) + 1) := IntWalk.wrap64_in _ (by omega)
      have HLT := Lib.hid hlt
      have HB2 : Hid (Below w.heap.size w wr.drew) := HB.out.drew
      clear hp hb1 hb2 c1 c2 c3 c4 hlt
      go_wp2_with fail
      refine region_plan (fun x => x = wr.drew) 8 (.takes [0, 1, 2, 3, 4, 5, 6, 7] .leaf) hmx (by kernel_rfl) (by intro c x v a w h; cases x <;> exact h) rfl ?_
      repeat (rw [wpPlan_takes_cons]; simp only [nth_zero, nth_succ]; go_big_quiet_step (fail); refine wpQuiet_nil ?_)
      rw [wpPlan_takes_nil, wpPlan_leaf]
      simp only [List.drop_succ_cons, List.drop_zero]
      go_wp2_with fail
      exact ⟨⟨k + 1, HLT.out, by simp, HB2⟩, by simp [intOf]; omega⟩
    · obtain rfl : k = n := by omega
      go_wp2_with fail
      go_ret
      exact ⟨rfl, HB.out⟩
end Go.Proofs.Ytmhpjglmnfllfaa
