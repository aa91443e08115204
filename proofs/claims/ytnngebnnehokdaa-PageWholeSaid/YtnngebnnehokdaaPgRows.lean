/- Pieces, cell by cell. -/
import Derived.Test.YtnngebnnehokdaaPgCut
namespace Go.Proofs.Ytnngebnnehokdaa
open Go.RowKit
set_option linter.unusedVariables false

theorem flat_get {α : Type} {n : Nat} : ∀ (ls : List (List α)) (k j : Nat), (∀ l ∈ ls, l.length = n) → j < n → ls.flatten[n * k + j]? = (ls[k]?.getD [])[j]?
  | [], k, j, _, _ => by simp
  | l :: ls, 0, j, h, hj => by
    have hl := h l List.mem_cons_self
    rw [List.flatten_cons, Nat.mul_zero, Nat.zero_add, List.getElem?_append_left (by omega)]
    rfl
  | l :: ls, k + 1, j, h, hj => by
    have hl := h l List.mem_cons_self
    rw [List.flatten_cons, Nat.mul_succ, List.getElem?_append_right (by omega), show n * k + n + j - l.length = n * k + j by omega, flat_get ls k j (fun l hl => h l (List.mem_cons_of_mem _ hl)) hj]
    rfl
theorem piece_get (bs : List Int) (k j : Nat) (hj : j < 48) : (piece bs k)[j]? = some (bs[48 * k + j]?.getD 0) := by
  unfold piece
  by_cases h : 48 * k + j < bs.length
  · rw [List.getElem?_append_left (by simp; omega), List.getElem?_take, if_pos hj, List.getElem?_drop, List.getElem?_eq_getElem h]
    rfl
  · rw [List.getElem?_append_right (by simp; omega), List.getElem?_replicate, if_pos (by simp; omega), List.getElem?_eq_none (by omega)]
    rfl
/-- What lies in a piece's cell. -/
theorem rows_cell (bs : List Int) (m k j : Nat) (hk : k < m) (hj : j < 48) : (rows bs m).flatten[48 * k + j]? = some (.int .u8 (bs[48 * k + j]?.getD 0)) := by
  rw [flat_get (rows bs m) k j (fun l hl => by
    unfold rows at hl
    obtain ⟨i, _, rfl⟩ := List.mem_map.1 hl
    rw [u8s_length, piece_length]) hj]
  unfold rows u8s
  rw [List.getElem?_map, List.getElem?_range hk]
  show ((piece bs k).map (Value.int .u8))[j]? = _
  rw [List.getElem?_map, piece_get bs k j hj]
  rfl
/-- A piece where it lies. -/
theorem rows_piece {W : World} {g : Nat} (bs : List Int) (m k : Nat) (h : W.rangeAt g 0 (rows bs m).flatten) (hk : k < m) : W.rangeAt g (k * 48) (u8s (piece bs k)) := fun j v hv => by
  have hj : j < 48 := by have := (List.getElem?_eq_some_iff.1 hv).1; rwa [u8s_length, piece_length] at this
  have e := h (48 * k + j) _ (rows_cell bs m k j hk hj)
  unfold u8s at hv
  rw [List.getElem?_map, piece_get bs k j hj] at hv
  rw [show k * 48 + j = 0 + (48 * k + j) by omega, e]
  exact hv
/-- A row that is not empty, its cells. -/
theorem row_form {W : World} {base sz n : Nat} {e : TypeId} {v : Value} {xs : List Value} (h : W.ownsRow base e sz v n xs) : ∃ ra c, v = .slice ra n c ∧ (0 < n → ∃ g, ra = some ⟨g, 0, none⟩ ∧ g < W.heap.size ∧ W.rangeAt g 0 xs) := by
  rcases h.2 with ⟨rfl, rfl⟩ | ⟨g, cap, cur, rfl, _, hg, _⟩
  · exact ⟨_, _, rfl, fun h => absurd h (by omega)⟩
  · refine ⟨_, _, rfl, fun _ => ⟨g, rfl, (Array.getElem?_eq_some_iff.1 hg).1, fun j u hj => ?_⟩⟩
    have := h.cells (g := g) rfl j u hj
    rwa [Addr.add_mid] at this
end Go.Proofs.Ytnngebnnehokdaa
