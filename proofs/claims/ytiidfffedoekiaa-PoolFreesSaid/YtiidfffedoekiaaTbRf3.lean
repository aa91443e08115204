/- The document's Merge. -/
import Derived.Test.YtiidfffedoekiaaTbRf2
namespace Go.Proofs.Ytiidfffedoekiaa
open Go.RowKit
set_option linter.unusedVariables false
set_option linter.unusedSimpArgs false
attribute [-simp] Try.isAgg42 Try.zeroValue42
attribute [-go_sem] loadVar storeVar

/-- What is kept, what becomes free, in a block. -/
def boL (u f : Value) : List Value := [u, f]
theorem InO.sl {N : Nat} {x : World} {v : Value} {zs : List Int} (h : InO N x v zs) : Sl .i64 x v zs := sl_own h
theorem PrO.form {N : Nat} {x : World} {v : Value} {l : List (Int × Int)} (h : PrO N x v l) : ∃ a c, v = .slice a l.length c := by
  obtain ⟨a, c, e, -⟩ := h.prt; exact ⟨a, c, e⟩
theorem InO.form {N : Nat} {x : World} {v : Value} {zs : List Int} (h : InO N x v zs) : ∃ a c, v = .slice a zs.length c := by
  obtain ⟨a, c, e, -⟩ := h.sl; exact ⟨a, c, e⟩
attribute [local go_sem] zero_prs build_prs0 build_prs
end Go.Proofs.Ytiidfffedoekiaa
