/- An empty literal of runs. -/
import Derived.Test.YtajamblkjmafmaaRuPr
import Derived.Test.YtajamblkjmafmaaInC
import Derived.Test.YtajamblkjmafmaaArgSl
namespace Go.Proofs.Ytajamblkjmafmaa
open Go.RowKit Go.ChangeShapes
set_option linter.unusedVariables false
theorem own_rns0 (N : Nat) (w : World) (hN : N ≤ w.heap.size) : RnO N (w.alloc (.cells #[] 36)) (.slice (some ⟨w.heap.size, 0, none⟩) 0 0) [] := ⟨World.ownsRow_lit w #[] 0 hN (by simp [maxLen]) rfl, fun p hp => by cases hp⟩
set_option maxRecDepth 100000 in
/-- Copies of numbers and of runs, one behind the other. -/
theorem ru_copies {w : World} {vl vm : Value} {l : List Int} {m : List (Int × Int)} (hl : Sl .i64 w vl l) (hm : Prt w vm m) (hll : l.length ≤ 1000) (hml : m.length ≤ 1000) :
    ∃ W0 x W1 W2 y W3, (Instr.buildSlice 22 0 #[]).run Try.prog w = .ok (.slice (some ⟨w.heap.size, 0, none⟩) 0 0) W0 ∧
      Hid (∀ ty, (Builtin.append_ #[22, 22] ty #[.slice (some ⟨w.heap.size, 0, none⟩) 0 0, vl]).run Try.prog W0 = .ok x W1) ∧
      (Instr.buildSlice 23 0 #[]).run Try.prog W1 = .ok (.slice (some ⟨W1.heap.size, 0, none⟩) 0 0) W2 ∧
      Hid (∀ ty, (Builtin.append_ #[23, 23] ty #[.slice (some ⟨W1.heap.size, 0, none⟩) 0 0, vm]).run Try.prog W2 = .ok y W3) ∧
      Hid (Below w.heap.size w W3) ∧ Hid (Sl .i64 W3 x l) ∧ Hid (Prt W3 y m) := by
  obtain ⟨W0, hW0⟩ : ∃ W, w.alloc (.cells #[] 3) = W := ⟨_, rfl⟩
  have s0 := slice_int0 w
  have o0 := own_int0 w.heap.size w (Nat.le_refl _)
  have b0 := below_new w (.cells #[] 3)
  rw [hW0] at s0 o0 b0
  obtain ⟨x, W1, hr1, hx, hg1⟩ := in_appendS o0 (hl.below b0) b0.size (by simp; omega)
  have b1 : Below w.heap.size w W1 := b0.grown hg1 b0.size (fun j e => by cases e; exact Nat.le_refl _)
  obtain ⟨W2, hW2⟩ : ∃ W, W1.alloc (.cells #[] 36) = W := ⟨_, rfl⟩
  have s2 := slice_rns0 W1
  have o2 := own_rns0 w.heap.size W1 b1.size
  have b2 := below_new W1 (.cells #[] 36)
  rw [hW2] at s2 o2 b2
  have b12 : Below w.heap.size w W2 := b1.trans (b2.mono b1.size)
  have hx2 := InO.below hx b2
  obtain ⟨y, W3, hr3, hy, hg3, -⟩ := rn_append o2 (hm.below b12) b12.size (by simp; omega)
  have b3 : Below w.heap.size w W3 := b12.grown hg3 b12.size (fun j e => (o2.base j e).1)
  have hx3 : InO w.heap.size W3 x ([] ++ l) := World.ownsRow.kept hx2 hg3 (rows_ne hx2 o2.1 (by decide))
  exact ⟨W0, x, W1, W2, y, W3, s0, hr1, s2, hr3, b3, sl_own hx3, Lib.hid (by simpa using hy.prt)⟩
end Go.Proofs.Ytajamblkjmafmaa
