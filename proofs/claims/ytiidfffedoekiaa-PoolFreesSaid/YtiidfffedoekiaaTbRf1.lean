/- The document's Find; pairs held against each other. -/
import Derived.Test.YtiidfffedoekiaaTbGd
namespace Go.Proofs.Ytiidfffedoekiaa
open Go.RowKit
set_option linter.unusedVariables false
attribute [-simp] Try.isAgg42 Try.zeroValue42
attribute [-go_sem] loadVar storeVar
attribute [local go_sem] loadVar_openP storeVar_openP zero_prs build_prs0 build_prs

set_option maxRecDepth 100000 in
set_option maxHeartbeats 4000000 in
/-- The document's **Find**. -/
theorem rf_find {w : World} {v : Value} {l : List (Int × Int)} (h : Prt w v l) (b : Int) (hlen : l.length ≤ 1000000) :
    Calls Try.prog 32 #[v, .int .i64 b] w fun e w' => e = .returned (.int .i64 (tIx l b)) ∧ w' = w := by
  have HP := Lib.hid h
  obtain ⟨pa, ca, rfl, -⟩ := h
  obtain ⟨n, hn⟩ : ∃ n, l.length = n := ⟨_, rfl⟩
  rw [hn] at HP hlen ⊢
  have HN := Lib.hid hn
  clear hn
  go_enter Try.func32, Try.ntmps32
  go_wp2_with fail
  go_loopw [5] (fun iv wr => ∃ k : Nat, k ≤ n ∧ iv = .int .i64 (k : Int) ∧ Hid (∀ (j : Nat) (p : Int × Int), j < k → l[j]? = some p → p.1 ≠ b) ∧ wr = w) (fun iv _ => n - (intOf iv).toNat)
  case atStart => exact ⟨0, Nat.zero_le _, rfl, fun j p hj => absurd hj (by omega), rfl⟩
  case round =>
    obtain ⟨k, hk, rfl, HS, rfl⟩ := hrel
    by_cases hlt : k < n
    · obtain ⟨p, hp⟩ : ∃ p, l[k]? = some p := ⟨_, List.getElem?_eq_getElem (by rw [HN.out]; exact hlt)⟩
      obtain ⟨bb, off, rfl, hbb, c1, c2⟩ := HP.out.at hp
      obtain ⟨x0, y0⟩ := p
      simp only at c1 c2
      have HPK := Lib.hid hp
      have g1 : (k : Int) < (n : Int) := by omega
      have HW : Hid (wrap64 ((k : Int) + 1) = (k : Int) + 1) := IntWalk.wrap64_in _ (by omega)
      have HLT := Lib.hid hlt
      clear hp hbb c2 hlt
      by_cases hx : x0 = b
      · subst hx
        have q1 : (x0 == x0) = true := by simp
        have HF : Hid (tIx l x0 = k) := by show _ = _; unfold tIx; rw [tFind_some.2 ⟨⟨_, HPK.out, rfl⟩, HS.out⟩]
        go_wp2_with fail
        go_ret
        exact ⟨by rw [HF.out]; rfl, rfl⟩
      · have q1 : (x0 == b) = false := by simpa using hx
        have HS1 : Hid (∀ (j : Nat) (p : Int × Int), j < k + 1 → l[j]? = some p → p.1 ≠ b) := fun j p hj hp => by
          by_cases e : j = k
          · subst e; rw [HPK.out] at hp; cases hp; exact hx
          · exact HS.out j p (by omega) hp
        go_wp2_with fail
        exact ⟨⟨k + 1, HLT.out, by simp, HS1, trivial⟩, by simp [intOf]; omega⟩
    · obtain rfl : k = n := by omega
      have HF : Hid (tIx l b = -1) := by
        show _ = _
        unfold tIx
        rw [tFind_none.2 fun j p hp => HS.out j p (by have := (List.getElem?_eq_some_iff.1 hp).1; rw [HN.out] at this; exact this) hp]
      go_wp2_with fail
      go_ret
      exact ⟨by rw [HF.out]; rfl, rfl⟩

end Go.Proofs.Ytiidfffedoekiaa
