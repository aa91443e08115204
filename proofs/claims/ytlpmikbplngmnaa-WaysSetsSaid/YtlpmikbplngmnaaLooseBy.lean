/- Ranges over the loose sectors. -/
import Derived.RangeFuncBox
import Derived.Maps.AppendAt
import Derived.Test.YtlpmikbplngmnaaLoose
namespace Go.Proofs.Ytlpmikbplngmnaa
open Go.RowKit Go.Shelf
set_option linter.unusedVariables false
attribute [-go_sem] loadVar storeVar
attribute [local go_sem] Oper.semAt_some

theorem SeqBy.mono {α : Type} {F : Fence} {n : Nat} {P : Program} {g : Nat} {lb : Array Value} {encs : α → Array Value} {R R' : List α → World → Prop} {Ok : List α → α → Prop} {S : List α → Prop} {w : World}
    (h : SeqBy F n P g lb encs R Ok S w) (hR : ∀ pre W, R' pre W → R pre W) : SeqBy F n P g lb encs R' Ok S w :=
  fun l J Jx W hW hJ hA hAx hY h0 => h l J Jx W hW (fun pre W' hj => hR pre W' (hJ pre W' hj)) hA hAx hY h0

set_option maxRecDepth 100000 in
theorem info_int : (Try.prog.info? 3).map (fun i => (i.zero, i.size, i.bytes)) = some (some (.int .i64 0), 1, 8) := by kernel_rfl

/-- Numbers as cells. -/
def ints (l : List Nat) : List Value := l.map fun i : Nat => Value.int .i64 (i : Int)
theorem ints_snoc (l : List Nat) (x : Nat) : ints (l ++ [x]) = ints l ++ [.int .i64 (x : Int)] := by simp [ints]

theorem boxed_from {β : Type} (B : Nat) (t : TypeId) (f : β → Value) (N : Nat) : OwnFrom N (fun s W => Boxed W B t (f s)) := (boxed_own B t f).from N

end Go.Proofs.Ytlpmikbplngmnaa
