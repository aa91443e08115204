/- What lies in memory through TableTells. -/
import Derived.Test.YtlnkfphkgjcdiaaTbWk
namespace Go.Proofs.Ytlnkfphkgjcdiaa
open Go.RowKit
set_option linter.unusedVariables false
structure TT (x : World) (Bn B14 : Nat) (n0 n1 : Int) (va vb vx vy vm vf vk vg : Value) (a b m : List (Int × Int)) (zs : List Int) : Prop where
  ha : Prt x va a
  hb : Prt x vb b
  hx : Prt x vx a
  hy : Prt x vy b
  hm : Prt x vm m
  hk : Prt x vk m
  hf : Sl .i64 x vf zs
  hg : Sl .i64 x vg zs
  rn : RowC x Bn 23 [.int .i64 n0, .int .i64 n1]
  r4 : RowC x B14 34 (boL vk vg)
theorem TT.below {x y : World} {Bn B14 : Nat} {n0 n1 : Int} {va vb vx vy vm vf vk vg : Value} {a b m : List (Int × Int)} {zs : List Int} (h : TT x Bn B14 n0 n1 va vb vx vy vm vf vk vg a b m zs) (hB : Below x.heap.size x y) : TT y Bn B14 n0 n1 va vb vx vy vm vf vk vg a b m zs :=
  ⟨h.ha.below hB, h.hb.below hB, h.hx.below hB, h.hy.below hB, h.hm.below hB, h.hk.below hB, h.hf.below hB, h.hg.below hB, h.rn.below hB, h.r4.below hB⟩
/-- How long a slice is. -/
def lenOf10 : Value → Nat
  | .slice _ n _ => n
  | _ => 0
theorem len_prt {x : World} {v : Value} {l : List (Int × Int)} (h : Prt x v l) : lenOf10 v = l.length := by
  obtain ⟨a, c, rfl, -⟩ := h; rfl
end Go.Proofs.Ytlnkfphkgjcdiaa
