/- Slices of bytes in memory: read, copied, cut, appended, made a string of. -/
import Derived.RangeFuncBox
import Derived.Test.YtlpmikbplngmnaaProg
import Derived.Test.YtlpmikbplngmnaaMath
import Derived.Test.YtlpmikbplngmnaaRegion
import Derived.Shelf.Abstract
import Derived.Lib.Hide
import Derived.Laws.BytesArg
namespace Go.Proofs.Ytlpmikbplngmnaa
open Go.RowKit Go.Shelf
set_option linter.unusedVariables false

set_option maxRecDepth 100000 in
theorem info_u8 : (Try.prog.info? 5).map (fun i => (i.zero, i.size, i.bytes)) = some (some (.int .u8 0), 1, 1) := by kernel_rfl

set_option maxRecDepth 100000 in
theorem size_u8 : (Try.prog.info? 5).map (·.size) = some 1 := by kernel_rfl

/-- Where the bytes of a slice value lie. -/
def Lies (w : World) (a : Option Addr) (len : Nat) (bs : List Int) : Prop :=
  len = 0 ∨ ∃ b off, a = some ⟨b, off, none⟩ ∧ b < w.heap.size ∧ ∀ j, j < len → w.cell? ⟨b, off + j, none⟩ = some (.int .u8 (bs[j]?.getD 0))

/-- What a copy of bytes into a new row of as many asks. -/
theorem copy_facts {w w1 : World} {a : Option Addr} {len e : Nat} {bs : List Int} (HL : Hid (bs.length = len)) (hA : Hid (Lies w a len bs))
    (hown1 : w1.ownsRow w.heap.size e 1 (.slice (some ⟨w.heap.size, 0, none⟩) len len) len (madeCells (Value.int .u8 0).cells (len * 1)).toList) (hgrow1 : w.grownBy w1 none) :
    Hid (Below w.heap.size w w1) ∧ Hid (w1.heap[w.heap.size]? = some (.cells (List.replicate len (Value.int .u8 0)).toArray e (0, 0))) ∧
    Hid (0 < (bs.map (Value.int .u8)).length → some (⟨w.heap.size, 0, none⟩ : Addr) = some ⟨w.heap.size, 0, none⟩ ∧ ∃ ad, a = some ad ∧ ∀ j v, (bs.map (Value.int .u8))[j]? = some v → w1.cell? (ad.add j) = some v) := by
  have hB1 : Below w.heap.size w w1 := (Below.refl _ w).grown hgrow1 (Nat.le_refl _) (fun k e => by cases e)
  refine ⟨hB1, ?_, ?_⟩
  · rw [show (Value.int .u8 0).cells = #[.int .u8 0] from rfl, toList_madeCells_one, Nat.mul_one] at hown1
    exact ownsRow_row hown1
  · intro h0
    rw [List.length_map, HL.out] at h0
    rcases hA.out with h | ⟨b, off, e, hb, hc⟩
    · omega
    · refine ⟨rfl, _, e, fun j v hj => ?_⟩
      have hjl : j < len := by
        have := (List.getElem?_eq_some_iff.1 hj).1
        rwa [List.length_map, HL.out] at this
      have hplain : (⟨b, off, none⟩ : Addr).add j = ⟨b, off + j, none⟩ := by unfold Addr.add; split <;> simp_all
      rw [hplain, hB1.cell (p := ⟨b, off + j, none⟩) hb, hc j hjl]
      rw [List.getElem?_map, List.getElem?_eq_getElem (by rw [HL.out]; exact hjl)] at hj
      rw [List.getElem?_eq_getElem (by rw [HL.out]; exact hjl)]
      exact hj

theorem copy_len {len : Nat} {bs : List Int} (HL : Hid (bs.length = len)) : Hid ((bs.map (Value.int .u8)).length = Nat.min len len) := by
  show _ = _
  rw [List.length_map, HL.out]; exact (Nat.min_self _).symm

theorem copy_one {bs : List Int} : Hid (∀ v ∈ bs.map (Value.int .u8), v.oneCell' = true) := by
  intro v hv
  obtain ⟨x, _, rfl⟩ := List.mem_map.1 hv
  rfl

theorem Lies.of_sl {w : World} {v : Value} {bs : List Int} (h : Sl .u8 w v bs) : ∃ a cap, v = .slice a bs.length cap ∧ Lies w a bs.length bs ∧ bs.length ≤ maxLen := by
  obtain ⟨a, cap, rfl, h1, h2, h, _⟩ := h
  refine ⟨a, cap, rfl, ?_, Nat.le_trans h1 h2⟩
  rcases h with rfl | h
  · exact .inl rfl
  · exact .inr h

theorem drop_get (bs : List Int) (k j : Nat) : (bs.drop k)[j]?.getD 0 = bs[k + j]?.getD 0 := by rw [List.getElem?_drop]

theorem take_get (bs : List Int) (k j : Nat) (h : j < k) : (bs.take k)[j]?.getD 0 = bs[j]?.getD 0 := by rw [List.getElem?_take, if_pos h]

theorem grown_below {w w' : World} (h : Below w.heap.size w w') (row : Option Nat) : w.grownBy w' row := ⟨h.os, h.tape, h.output, h.size, fun k hk _ => h.block k hk⟩

theorem grown_trans {a b c : World} {row : Option Nat} (h : a.grownBy b row) (k : b.grownBy c row) : a.grownBy c row :=
  ⟨k.os.trans h.os, k.tape.trans h.tape, k.output.trans h.output, Nat.le_trans h.size k.size, fun i hi hn => (k.block i (Nat.lt_of_lt_of_le hi h.size) hn).trans (h.block i hi hn)⟩

theorem IsBytes.take {bs : List Int} (h : IsBytes bs) (k : Nat) : IsBytes (bs.take k) := by
  intro j
  by_cases hj : j < k
  · rw [take_get bs k j hj]; exact h j
  · rw [List.getElem?_eq_none (by simp; omega)]; simp

theorem IsBytes.drop {bs : List Int} (h : IsBytes bs) (k : Nat) : IsBytes (bs.drop k) := by
  intro j
  rw [drop_get]; exact h _

/-- What a slice owns it leads to. -/
theorem Sl.of_owns {w : World} {base : Nat} {v : Value} {bs : List Int} (h : w.ownsRow base 5 1 v bs.length (bs.map (Value.int .u8))) : Sl .u8 w v bs := by
  rcases h.2 with ⟨rfl, h0⟩ | ⟨g, cap, cur, rfl, _, hg, h1, h2, h3, h4⟩
  · obtain rfl := List.eq_nil_of_length_eq_zero h0
    exact Sl.nil _ _
  · refine Sl.at (off := 0) h1 h2 (Array.getElem?_eq_some_iff.1 hg).1 fun j hj => ?_
    rw [cell_of_row _ _ _ _ _ _ hg]
    have e : (cur.toList.take (bs.length * 1))[0 + j]? = (bs.map (Value.int .u8))[0 + j]? := by rw [h4]
    rw [List.getElem?_take, if_pos (by omega)] at e
    rw [← Array.getElem?_toList, e]
    simp [hj]

theorem sl_new {W : World} {g : Nat} {xs : List Int} (h : W.heap[g]? = some (.cells (xs.map (Value.int .u8)).toArray 5 (0, 0))) (hm : xs.length ≤ maxLen) :
    Sl .u8 W (.slice (some ⟨g, 0, none⟩) xs.length xs.length) xs := by
  refine Sl.at (off := 0) (Nat.le_refl _) hm (Array.getElem?_eq_some_iff.1 h).1 fun j hj => ?_
  rw [cell_of_row _ _ _ _ _ _ h]
  simp [hj]

theorem row_new (w : World) (xs : List Int) : (w.alloc (.cells (xs.map (Value.int .u8)).toArray 5)).heap[w.heap.size]? = some (.cells (xs.map (Value.int .u8)).toArray 5 (0, 0)) := World.alloc_heap_new w _

theorem add_none (ra : Option Addr) : (ra.map fun x => x.add 0) = ra := by cases ra <;> simp [Addr.add]

/-- All behind the first K bytes, as the walk spells it. -/
theorem sl_lo_at {ra : Option Addr} {R rc K : Nat} {rest : List Int} {W : World} (hW : Sl .u8 W (.slice ra R rc) rest) (hK : K ≤ R) :
    Sl .u8 W (.slice (if rc = K then ra else ra.map fun x => x.add K) (R - K) (rc - K)) (rest.drop K) := by
  obtain ⟨a, cap, e, h1, h2, h3, h4⟩ := hW
  simp only [Value.slice.injEq] at e
  obtain ⟨rfl, rfl, rfl⟩ := e
  refine ⟨_, rc - K, by rw [List.length_drop], by rw [List.length_drop]; omega, by omega, ?_, ?_⟩
  · by_cases h0 : rest.length = K
    · exact .inl (List.drop_of_length_le (by omega))
    · rcases h3 with rfl | ⟨b, off, rfl, h5, h6⟩
      · exact .inl (by simp)
      · refine .inr ⟨b, off + K, ?_, h5, fun j hj => ?_⟩
        · rw [if_neg (by omega)]
          show some _ = _
          congr 1
          unfold Addr.add
          split <;> simp_all
        · rw [List.length_drop] at hj
          rw [drop_get, Nat.add_assoc]
          exact h6 (K + j) (by omega)
  · intro e
    split at e
    · omega
    · have := h4 (by simpa using e); omega

end Go.Proofs.Ytlpmikbplngmnaa
