/- Copies of rows of numbers. -/
import Derived.Test.YtajamblkjmafmaaInO
import Derived.Test.YtajamblkjmafmaaMake
import Derived.Maps.AppendAt
namespace Go.Proofs.Ytajamblkjmafmaa
open Go.RowKit
set_option linter.unusedVariables false
set_option maxRecDepth 100000 in
theorem slice_int0 (w : World) : (Instr.buildSlice 22 0 #[]).run Try.prog w = .ok (.slice (some ⟨w.heap.size, 0, none⟩) 0 0) (w.alloc (.cells #[] 3)) := by kernel_rfl
theorem own_int0 (N : Nat) (w : World) (hN : N ≤ w.heap.size) : InO N (w.alloc (.cells #[] 3)) (.slice (some ⟨w.heap.size, 0, none⟩) 0 0) [] := World.ownsRow_lit w #[] 0 hN (by simp [maxLen]) rfl
set_option maxRecDepth 100000 in
theorem in_appendS {N : Nat} {w : World} {v x : Value} {l m : List Int} (h : InO N w v l) (hx : Sl .i64 w x m) (hN : N ≤ w.heap.size) (hlen : l.length + m.length ≤ 1000000) :
    ∃ v' w', (∀ ty, (Builtin.append_ #[22, 22] ty #[v, x]).run Try.prog w = .ok v' w') ∧ InO N w' v' (l ++ m) ∧ w.grownBy w' v.ownBlock := by
  obtain ⟨i0, hi, hz0, hz1, hz2⟩ := info_parts info_intT
  obtain ⟨a, cap, rfl, h1, h2, h4, h0⟩ := hx
  cases a with
  | none =>
    obtain rfl := h0 rfl
    obtain rfl : m = [] := List.eq_nil_of_length_eq_zero (by omega)
    exact ⟨v, w, fun ty => run_append_owned_none (P := Try.prog) (w := w) N 22 ty 3 i0 1 Try.underlying22 hi v l.length _ h, by simpa using h, World.grownBy.refl _ _⟩
  | some ad =>
    have hnews : ∀ j u, (m.map (Value.int .i64))[j]? = some u → w.cell? (ad.add j) = some u := by
      rcases h4 with rfl | ⟨b, off, e, h5, h6⟩
      · intro j u hu; simp at hu
      · cases e
        intro j u hu
        rw [Addr.add_lit]
        rw [List.getElem?_map] at hu
        obtain ⟨z, hz, rfl⟩ := Option.map_eq_some_iff.1 hu
        have := (List.getElem?_eq_some_iff.1 hz).1
        have h := h6 j this
        rw [hz] at h
        exact h
    have hr : ∀ ty, ∃ v' w', (Builtin.append_ #[22, 22] ty #[v, .slice (some ad) m.length cap]).run Try.prog w = .ok v' w' ∧ w'.ownsRow N 3 1 v' (l.length + m.length) (l.map (Value.int .i64) ++ m.map (Value.int .i64)) ∧ w.grownBy w' v.ownBlock := fun ty => by
      obtain ⟨v', w', g1, g2, g3, -, g4⟩ := run_append_own_at (P := Try.prog) w N 22 ty 3 i0 (.int .i64 0) 1 8 Try.underlying22 hi hz0 hz1 hz2 rfl (by decide) v l.length _ h ad m.length cap (m.map (Value.int .i64)) (by simp) hnews (fun u hu => by obtain ⟨z, -, rfl⟩ := List.mem_map.1 hu; rfl) (by unfold maxLen; omega) (by omega) hN
      exact ⟨v', w', g1, g2, g3⟩
    obtain ⟨v', w', g1, g2, g3⟩ := hr 0
    refine ⟨v', w', fun ty => ?_, ?_, g3⟩
    · rw [← g1]; rfl
    · show w'.ownsRow N _ 1 v' (l ++ m).length ((l ++ m).map _)
      rw [List.length_append, List.map_append]
      exact g2
end Go.Proofs.Ytajamblkjmafmaa
