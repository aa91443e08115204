/- Rows of numbers of one's own: one more number. -/
import Derived.Test.YtajamblkjmafmaaRowC
import Derived.Test.YtajamblkjmafmaaBytes
namespace Go.Proofs.Ytajamblkjmafmaa
open Go.RowKit
set_option linter.unusedVariables false

/-- Numbers of one's own. -/
def InO (N : Nat) (w : World) (v : Value) (zs : List Int) : Prop := w.ownsRow N 3 1 v zs.length (zs.map (Value.int .i64))
theorem InO.nil (N : Nat) (w : World) : InO N w (.slice none 0 0) [] := World.ownsRow_nil _ _ _ _
theorem InO.below {N : Nat} {w w' : World} {v : Value} {zs : List Int} (h : InO N w v zs) (hB : Below w.heap.size w w') : InO N w' v zs := own_belowT h hB
theorem InO.base {N : Nat} {w : World} {v : Value} {zs : List Int} (h : InO N w v zs) : ∀ j, v.ownBlock = some j → N ≤ j ∧ j < w.heap.size := by
  intro j hj
  rcases h.2 with ⟨rfl, h0⟩ | ⟨g, cap, cur, rfl, h1, h2, -⟩
  · cases hj
  · cases hj
    exact ⟨h1, (Array.getElem?_eq_some_iff.1 h2).1⟩
set_option maxRecDepth 100000 in
theorem info_intT : (Try.prog.info? 3).map (fun i => (i.zero, i.size, i.bytes)) = some (some (.int .i64 0), 1, 8) := by kernel_rfl
set_option maxRecDepth 100000 in
theorem slice_int1 (w : World) (x : Int) : (Instr.buildSlice 22 1 #[(0, .int .i64 x)]).run Try.prog w = .ok (.slice (some ⟨w.heap.size, 0, none⟩) 1 1) (w.alloc (.cells #[.int .i64 x] 3)) := by kernel_rfl
set_option maxRecDepth 100000 in
/-- One more number. -/
theorem in_append {N : Nat} {w : World} {v : Value} {zs : List Int} (h : InO N w v zs) (hN : N ≤ w.heap.size) (x : Int) (hlen : zs.length ≤ 900000) :
    ∃ v' w', (∀ ty, (Builtin.append_ #[22, 22] ty #[v, .slice (some ⟨w.heap.size, 0, none⟩) 1 1]).run Try.prog (w.alloc (.cells #[.int .i64 x] 3)) = .ok v' w') ∧ InO N w' v' (zs ++ [x]) ∧ w.grownBy w' v.ownBlock ∧ v' ≠ .slice none 0 0 := by
  obtain ⟨i0, hi⟩ : ∃ i, Try.prog.info? 3 = some i := ⟨_, rfl⟩
  have hq := info_intT
  rw [hi] at hq
  have hz : (i0.zero, i0.size, i0.bytes) = (some (.int .i64 0), 1, 8) := Option.some.inj hq
  have hz0 := congrArg (·.1) hz
  have hz1 := congrArg (·.2.1) hz
  have hz2 := congrArg (·.2.2) hz
  simp only at hz0 hz1 hz2
  have hr : ∀ ty, ∃ v' w', (Builtin.append_ #[22, 22] ty #[v, .slice (some ⟨w.heap.size, 0, none⟩) 1 1]).run Try.prog (w.alloc (.cells #[.int .i64 x] 3)) = .ok v' w' ∧ w'.ownsRow N 3 1 v' (zs.length + 1) (zs.map (Value.int .i64) ++ [.int .i64 x]) ∧ (w.alloc (.cells #[.int .i64 x] 3)).grownBy w' v.ownBlock ∧ (v' = .slice none 0 0 ↔ v = .slice none 0 0 ∧ (1 : Nat) = 0) := fun ty => by
    obtain ⟨v', w', g1, g2, g3, g4⟩ := run_append_own (P := Try.prog) (w.alloc (.cells #[.int .i64 x] 3)) N 22 ty 3 i0 (.int .i64 0) 1 8 Try.underlying22 hi hz0 hz1 hz2 rfl (by decide) v zs.length _ (own_belowT h (below_new w _)) ⟨w.heap.size, 0, none⟩ 1 1 [.int .i64 x] rfl
      (fun j u hj => by
        have hj0 : j = 0 := by have := (List.getElem?_eq_some_iff.1 hj).1; simp at this; exact this
        subst hj0
        cases hj
        rw [Addr.add_lit]
        exact (RowC.new w 3 [.int .i64 x]).cell 0 _ rfl) (fun u hu => by simp at hu; subst hu; rfl) (by unfold maxLen; omega) (by omega) (by simp; omega)
    exact ⟨v', w', g1, g2, g3, g4⟩
  obtain ⟨v', w', g1, g2, g3, g4⟩ := hr 0
  refine ⟨v', w', fun ty => ?_, ?_, grown_trans (grown_below (below_new w _) _) g3, fun e => absurd (g4.1 e).2 (by decide)⟩
  · rw [← g1]; rfl
  · show w'.ownsRow N _ 1 v' (zs ++ [x]).length ((zs ++ [x]).map _)
    rw [List.length_append, List.map_append]
    exact g2

end Go.Proofs.Ytajamblkjmafmaa
