/- Bodies: arrays of 48 bytes, and slices of them; pieces of bytes. -/
import Derived.Test.YtnngebnnehokdaaPgRow
import Derived.Test.YtnngebnnehokdaaPgCount
import Derived.Test.YtnngebnnehokdaaLaid
import Derived.Maps.AppendAt
namespace Go.Proofs.Ytnngebnnehokdaa
open Go.RowKit
set_option linter.unusedVariables false

def z48 : List Value := u8s (List.replicate 48 0)
theorem z48_size : z48.toArray.size = 48 := by simp [z48, u8s]
theorem under_bod : Try.prog.underlying 23 = some (.array 48 5) := by kernel_rfl
theorem info_bod : (Try.prog.info? 23).map (fun i => (i.zero, i.size, i.bytes)) = some (some (.agg z48.toArray), 48, 48) := by kernel_rfl
theorem size_bod : (Try.prog.info? 23).map (·.size) = some 48 := by kernel_rfl
theorem zero_bod (w : World) : (zeroValue 23).run Try.prog w = .ok (.agg z48.toArray) w := by kernel_rfl
theorem load_bod {w : World} {b o : Nat} {c : List Value} (hc : w.rangeAt b o c) (h : c.length = 48) : (loadVar 23 ⟨b, o, none⟩).run Try.prog w = .ok (.agg c.toArray) w :=
  run_loadVar_mid w b o _ c _ hc under_bod rfl (by rw [h]; exact size_bod)
/-- Whatever is neither a block nor a body is read and written cell by cell. -/
theorem loadVar_open3 (t : TypeId) (h : t ≠ 27 ∧ t ≠ 23) (a : Addr) : loadVar t a = (do if ← isAgg t then pure (.agg (← loadCells a (← sizeOf t))) else load a) := rfl
/-- A slice of one body. -/
theorem slice_bod (w : World) (b : List Value) (h : b.length = 48) : (Instr.buildSlice 42 1 #[(0, .agg b.toArray)]).run Try.prog w = .ok (.slice (some ⟨w.heap.size, 0, none⟩) 1 1) (w.alloc (.cells b.toArray 23)) := by
  have e : (b.zipIdx.foldl (fun cs (x : Value × Nat) => cs.setIfInBounds (0 + x.2) x.1) ((Array.range 48).map (z48.toArray[· % z48.toArray.size]!))) = b.toArray := laid_all b _ (by simp [h])
  have e2 : b.toArray.zipIdx.foldl (fun cs (x : Value × Nat) => cs.setIfInBounds (0 + x.2) x.1) ((Array.range 48).map (z48.toArray[· % z48.toArray.size]!)) = b.toArray := by
    rw [← Array.foldl_toList, Array.toList_zipIdx]
    exact e
  obtain ⟨i0, hi, hz0, hz1, hz2⟩ := info_parts info_bod
  refine run_buildSlice (P := Try.prog) w 42 23 1 _ b.toArray i0 (.agg z48.toArray) (by kernel_rfl) hi hz0 (by rw [hz1]; decide) (by rw [hz1]; decide) ?_
  rw [hz1]
  show Instr.fill _ _ [(0, Value.agg b.toArray)] = _
  simp only [Instr.fill]
  rw [if_neg (by simp [Value.cells, h])]
  congr 1
/-- A body appended to bodies. -/
theorem append_bod (N : Nat) (w : World) (v : Value) (vs : List (List Value)) (b : List Value) (B : Nat) (hown : w.ownsRow N 23 48 v vs.length vs.flatten) (hb : b.length = 48) (h1 : ∀ u ∈ b, u.oneCell' = true) (hB : w.rangeAt B 0 b) (hlen : vs.length ≤ 1000000) (hN : N ≤ w.heap.size) :
    ∃ v' w', (Builtin.append_ #[42, 42] 42 #[v, .slice (some ⟨B, 0, none⟩) 1 1]).run Try.prog w = .ok v' w' ∧ w'.ownsRow N 23 48 v' (vs ++ [b]).length (vs ++ [b]).flatten ∧ w.grownBy w' v.ownBlock ∧ (v'.ownBlock = v.ownBlock ∨ v'.ownBlock = some w.heap.size) := by
  obtain ⟨i0, hi, hz0, hz1, hz2⟩ := info_parts info_bod
  obtain ⟨v', w', hr, h1, h2, _, h3⟩ := run_append_own_at (P := Try.prog) w N 42 42 23 i0 (.agg z48.toArray) 48 48 Try.underlying42 hi hz0 hz1 hz2 z48_size (by omega) v vs.length vs.flatten hown
    ⟨B, 0, none⟩ 1 1 b (by rw [hb]) (fun j u hj => by have := hB j u hj; rwa [Addr.add_mid]) h1 (by unfold maxLen; omega) (by omega) hN
  exact ⟨v', w', hr, by simpa using h1, h2, h3⟩

/-- The bytes from K up to H. -/
theorem sl_mid {ra : Option Addr} {R rc K H : Nat} {rest : List Int} {w0 : World} (h : Sl .u8 w0 (.slice ra R rc) rest) (hK : K ≤ H) (hH : H ≤ R) :
    ∃ ra', (∀ W : World, (Instr.sliceAt 41 (.slice ra R rc) (some (.int .i64 (K : Int))) (some (.int .i64 (H : Int))) none).run Try.prog W = .ok (.slice ra' (H - K) (rc - K)) W) ∧ ∀ W : World, Sl .u8 W (.slice ra R rc) rest → Sl .u8 W (.slice ra' (H - K) (rc - K)) ((rest.drop K).take (H - K)) := by
  obtain ⟨a, cap, e, h1, h2, _, h4⟩ := h
  simp only [Value.slice.injEq] at e
  obtain ⟨rfl, rfl, rfl⟩ := e
  refine ⟨if rc = K then ra else ra.map fun x => x.add K, fun W => ?_, fun W hW => ?_⟩
  · rw [run_sliceAt_slice (h := elem_bytes), run_slice_lh (ht := elem_bytes) (kl := .i64) (kh := .i64) (h0 := by omega) (h1 := by omega) (h2 := by omega), sizeOf_byte]
    simp only [Result.andThen, sliced, Int.toNat_natCast, Nat.mul_one]
  · have := sl_lo_at hW (K := K) (by omega)
    have hl : (rest.drop K).length = rest.length - K := List.length_drop
    rw [← hl] at this
    exact (sl_hi this (K := H - K) (by omega)).2 W this

/-- How many pieces bytes have; one of them; the first k of them. -/
def nPcs (bs : List Int) : Nat := (bs.length + 47) / 48
def piece (bs : List Int) (k : Nat) : List Int := (bs.drop (48 * k)).take 48 ++ List.replicate (48 - ((bs.drop (48 * k)).take 48).length) 0
theorem piece_length (bs : List Int) (k : Nat) : (piece bs k).length = 48 := by simp [piece]; omega
def rows (bs : List Int) (k : Nat) : List (List Value) := (List.range k).map fun i => u8s (piece bs i)
theorem rows_succ (bs : List Int) (k : Nat) : rows bs (k + 1) = rows bs k ++ [u8s (piece bs k)] := by simp [rows, List.range_succ]
theorem rows_length (bs : List Int) (k : Nat) : (rows bs k).length = k := by simp [rows]
end Go.Proofs.Ytnngebnnehokdaa
