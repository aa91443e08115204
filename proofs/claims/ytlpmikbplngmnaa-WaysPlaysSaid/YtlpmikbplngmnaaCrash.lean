/- Crash. -/
import Derived.Test.YtlpmikbplngmnaaFlush
namespace Go.Proofs.Ytlpmikbplngmnaa
open Go.RowKit Go.Shelf
set_option linter.unusedVariables false
attribute [-go_sem] loadVar storeVar
attribute [local go_sem] Oper.semAt_some

/-- What a crash makes of the sector with m versions that has place i among the loose ones. -/
def crashK (bs : List Int) (i m : Nat) : Nat := if i < bs.length then (bs[i]?.getD 0).toNat % (m + 1) else 0
theorem crashK_le (bs : List Int) (i m : Nat) : crashK bs i m ≤ m := by
  unfold crashK; split
  · exact Nat.le_of_lt_succ (Nat.mod_lt _ (by omega))
  · omega
def crashG (D : Nat → Sec) (bs : List Int) (j : Nat) : Nat := crashK bs (looseTo D j).length (D j).vs.length

/-- Where the bytes of pick are: no block of the disk. -/
def Clear (f : Nat → Prop) (v : Value) : Prop := ∀ b off len cap, v = .slice (some ⟨b, off, none⟩) len cap → ¬ f b

theorem letsOut_ownG {α : Type} {B : Nat} {Kp : World → World → Prop} {I : List α → World → Prop} {Ix : Code → List α → World → Prop} {xs : List α} {W : World} : ¬ LetsOut (ownPostG B Kp I Ix xs W) := fun ⟨a, w, e⟩ => e.elim

end Go.Proofs.Ytlpmikbplngmnaa
