/- Ranges over the loose sectors. -/
import Derived.RangeFuncBox
import Derived.Maps.AppendAt
import Derived.Test.YtompbjdhdjafgaaLoose
namespace Go.Proofs.Ytompbjdhdjafgaa
open Go.RowKit Go.Shelf
set_option linter.unusedVariables false
attribute [-simp] Try.isAgg38 Try.zeroValue38
attribute [-go_sem] loadVar storeVar
attribute [local go_sem] zero_blk build_blk loadVar_open storeVar_open
attribute [local go_sem] Oper.semAt_some

theorem SeqBy.mono {α : Type} {F : Fence} {n : Nat} {P : Program} {g : Nat} {lb : Array Value} {encs : α → Array Value} {R R' : List α → World → Prop} {Ok : List α → α → Prop} {S : List α → Prop} {w : World}
    (h : SeqBy F n P g lb encs R Ok S w) (hR : ∀ pre W, R' pre W → R pre W) : SeqBy F n P g lb encs R' Ok S w :=
  fun l J Jx W hW hJ hA hAx hY h0 => h l J Jx W hW (fun pre W' hj => hR pre W' (hJ pre W' hj)) hA hAx hY h0

theorem loose_by (Bd rb sb n : Nat) (D0 : Nat → Sec) (w : World) : SeqBy Fence.wide 2 Try.prog 51 #[.pointer (some ⟨Bd, 0, none⟩)] (encL sb) (LooseR Bd rb sb n D0) (LooseOk n D0) (fun xs => xs = looseTo D0 n) w :=
  fun l J Jx W _ hR _ _ hY h0 => loose1_in Bd rb sb n D0 l J Jx hR hY W h0

set_option maxRecDepth 100000 in
set_option maxHeartbeats 2000000 in
/-- Of a nil disk none comes. -/
theorem loose_nil_by (Bd : Nat) (encs : Nat → Array Value) (w : World) : SeqBy Fence.wide 2 Try.prog 51 #[.pointer (some ⟨Bd, 0, none⟩)] encs (fun _ W => Boxed W Bd 62 (.pointer none)) (fun _ _ => False) (fun xs => xs = []) w := by
  intro l J Jx W _ hR _ _ _ h0
  refine callsIn_of_wp Try.func51 rfl trivial ?_ rfl
  simp only [Try.ntmps51, List.size_toArray, List.length_cons, List.length_nil, Nat.reduceAdd, Nat.reduceSub, Array.replicate_succ, Array.replicate_zero, List.push_toArray, List.append_toArray, List.nil_append, List.cons_append]
  have hbc := (hR _ _ h0).cell
  gi_wp2_with (refine ⟨trivial, ?_⟩; gi_at_call 42; refine (callsIn_wide.2 (len_nil _)).mono ?_; rintro e w' ⟨rfl, rfl⟩)
  gi_loopw [7] (fun i wr => i = .int .i64 0 ∧ J [] wr) (fun i _ => 0)
  case atStart => exact ⟨rfl, h0⟩
  case round =>
    obtain ⟨rfl, hJs⟩ := hrel
    gi_wp2
    go_end0
    exact ⟨⟨_, rfl⟩, .inl ⟨_, rfl, hJs⟩⟩

set_option maxHeartbeats 1000000 in
theorem loose_in (F : Fence) (n : Nat) (hf : F.fn 47) (hro : F.round = none) (p : Option Addr) (w : World) :
    CallsIn F n Try.prog 47 #[.pointer p] w fun e w' => e = .returned (.func (.func 51) #[] #[.pointer (some ⟨w.heap.size, 0, none⟩)]) ∧ w' = w.alloc (.cells #[.pointer p] 62) := by
  refine callsIn_of_wp Try.func47 rfl hf ?_ hro
  simp only [Try.ntmps47, List.size_toArray, List.length_cons, List.length_nil, Nat.reduceAdd, Nat.reduceSub, Array.replicate_succ, Array.replicate_zero, List.push_toArray, List.append_toArray, List.nil_append, List.cons_append]
  gi_wp2
  go_ret
  exact ⟨rfl, rfl⟩
theorem info_int : (Try.prog.info? 3).map (fun i => (i.zero, i.size, i.bytes)) = some (some (.int .i64 0), 1, 8) := by kernel_rfl

/-- Numbers as cells. -/
def ints (l : List Nat) : List Value := l.map fun i : Nat => Value.int .i64 (i : Int)
theorem ints_snoc (l : List Nat) (x : Nat) : ints (l ++ [x]) = ints l ++ [.int .i64 (x : Int)] := by simp [ints]

theorem boxed_from {β : Type} (B : Nat) (t : TypeId) (f : β → Value) (N : Nat) : OwnFrom N (fun s W => Boxed W B t (f s)) := (boxed_own B t f).from N

end Go.Proofs.Ytompbjdhdjafgaa
