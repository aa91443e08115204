/- New. -/
import Derived.Test.YtlpmikbplngmnaaWr
namespace Go.Proofs.Ytlpmikbplngmnaa
open Go.RowKit
set_option linter.unusedVariables false
attribute [-go_sem] loadVar storeVar
/-- A sector of zeros. -/
def zsec : Sec := ⟨fillB 0, []⟩
theorem zsec_ok : zsec.Ok := ⟨isBlk_fill 0, fun v hv => by cases hv⟩
/-- Its cells. -/
def zcells : Array Value := (fillB 0 ++ [Value.slice none 0 0]).toArray
theorem zcells_size : zcells.size = 65 := by simp [zcells, fillB]
theorem made_get (z : Array Value) (k : Nat) (hz : z.size = k) (hk : 0 < k) (n i j : Nat) (hi : i < n) (hj : j < k) : (madeCells z (n * k))[i * k + j]? = z[j]? := by
  have h1 : i * k + j < n * k := by
    have : (i + 1) * k ≤ n * k := Nat.mul_le_mul_right k hi
    rw [Nat.add_mul] at this; omega
  have h2 : (i * k + j) % k = j := by rw [Nat.mul_comm, Nat.mul_add_mod, Nat.mod_eq_of_lt hj]
  unfold madeCells
  simp only [Array.getElem?_map, hz]
  rw [Array.getElem?_range, if_pos h1]
  simp only [Option.map_some, h2]
  rw [getElem!_pos z j (by omega), Array.getElem?_eq_getElem (by omega)]

theorem ownsRow_full {w : World} {base e n g size : Nat} {xs : List Value} (h : w.ownsRow base e size (.slice (some ⟨g, 0, none⟩) n n) n xs) : w.heap[g]? = some (.cells xs.toArray e (0, 0)) := by
  rcases h.2 with ⟨h', _⟩ | ⟨g', cap, cur, h', _, hg, _, _, hs, ht⟩
  · simp at h'
  · simp only [Value.slice.injEq, Option.some.injEq, Addr.mk.injEq, and_true, true_and] at h'
    obtain ⟨rfl, rfl⟩ := h'
    rw [hg, ← ht, List.take_of_length_le (by rw [Array.length_toList]; omega)]

end Go.Proofs.Ytlpmikbplngmnaa
