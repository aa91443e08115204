/- Slices of bytes in memory: read, copied, cut, appended, made a string of. -/
import Derived.RangeFuncBox
import Derived.Test.YtajamblkjmafmaaProg
import Derived.Test.YtajamblkjmafmaaMath
import Derived.Test.YtajamblkjmafmaaRegion
import Derived.Shelf.Abstract
import Derived.Lib.Hide
import Derived.Laws.BytesArg
namespace Go.Proofs.Ytajamblkjmafmaa
open Go.RowKit Go.Shelf
set_option linter.unusedVariables false

set_option maxRecDepth 100000 in
theorem info_u8 : (Try.prog.info? 5).map (fun i => (i.zero, i.size, i.bytes)) = some (some (.int .u8 0), 1, 1) := by kernel_rfl

set_option maxRecDepth 100000 in
theorem size_u8 : (Try.prog.info? 5).map (·.size) = some 1 := by kernel_rfl

/-- Where the bytes of a slice value lie. -/
def Lies (w : World) (a : Option Addr) (len : Nat) (bs : List Int) : Prop :=
  len = 0 ∨ ∃ b off, a = some ⟨b, off, none⟩ ∧ b < w.heap.size ∧ ∀ j, j < len → w.cell? ⟨b, off + j, none⟩ = some (.int .u8 (bs[j]?.getD 0))

/-- What a copy of bytes into a new row of as many asks. -/
theorem copy_facts {w w1 : World} {a : Option Addr} {len e : Nat} {bs : List Int} (HL : Hid (bs.length = len)) (hA : Hid (Lies w a len bs))
    (hown1 : w1.ownsRow w.heap.size e 1 (.slice (some ⟨w.heap.size, 0, none⟩) len len) len (madeCells (Value.int .u8 0).cells (len * 1)).toList) (hgrow1 : w.grownBy w1 none) :
    Hid (Below w.heap.size w w1) ∧ Hid (w1.heap[w.heap.size]? = some (.cells (List.replicate len (Value.int .u8 0)).toArray e (0, 0))) ∧
    Hid (0 < (bs.map (Value.int .u8)).length → some (⟨w.heap.size, 0, none⟩ : Addr) = some ⟨w.heap.size, 0, none⟩ ∧ ∃ ad, a = some ad ∧ ∀ j v, (bs.map (Value.int .u8))[j]? = some v → w1.cell? (ad.add j) = some v) := by
  have hB1 : Below w.heap.size w w1 := (Below.refl _ w).grown hgrow1 (Nat.le_refl _) (fun k e => by cases e)
  refine ⟨hB1, ?_, ?_⟩
  · rw [show (Value.int .u8 0).cells = #[.int .u8 0] from rfl, toList_madeCells_one, Nat.mul_one] at hown1
    exact ownsRow_row hown1
  · intro h0
    rw [List.length_map, HL.out] at h0
    rcases hA.out with h | ⟨b, off, e, hb, hc⟩
    · omega
    · refine ⟨rfl, _, e, fun j v hj => ?_⟩
      have hjl : j < len := by
        have := (List.getElem?_eq_some_iff.1 hj).1
        rwa [List.length_map, HL.out] at this
      have hplain : (⟨b, off, none⟩ : Addr).add j = ⟨b, off + j, none⟩ := by unfold Addr.add; split <;> simp_all
      rw [hplain, hB1.cell (p := ⟨b, off + j, none⟩) hb, hc j hjl]
      rw [List.getElem?_map, List.getElem?_eq_getElem (by rw [HL.out]; exact hjl)] at hj
      rw [List.getElem?_eq_getElem (by rw [HL.out]; exact hjl)]
      exact hj

theorem copy_len {len : Nat} {bs : List Int} (HL : Hid (bs.length = len)) : Hid ((bs.map (Value.int .u8)).length = Nat.min len len) := by
  show _ = _
  rw [List.length_map, HL.out]; exact (Nat.min_self _).symm

theorem copy_one {bs : List Int} : Hid (∀ v ∈ bs.map (Value.int .u8), v.oneCell' = true) := by
  intro v hv
  obtain ⟨x, _, rfl⟩ := List.mem_map.1 hv
  rfl

theorem Lies.of_sl {w : World} {v : Value} {bs : List Int} (h : Sl .u8 w v bs) : ∃ a cap, v = .slice a bs.length cap ∧ Lies w a bs.length bs ∧ bs.length ≤ maxLen := by
  obtain ⟨a, cap, rfl, h1, h2, h, _⟩ := h
  refine ⟨a, cap, rfl, ?_, Nat.le_trans h1 h2⟩
  rcases h with rfl | h
  · exact .inl rfl
  · exact .inr h

theorem drop_get (bs : List Int) (k j : Nat) : (bs.drop k)[j]?.getD 0 = bs[k + j]?.getD 0 := by rw [List.getElem?_drop]

theorem take_get (bs : List Int) (k j : Nat) (h : j < k) : (bs.take k)[j]?.getD 0 = bs[j]?.getD 0 := by rw [List.getElem?_take, if_pos h]

theorem grown_below {w w' : World} (h : Below w.heap.size w w') (row : Option Nat) : w.grownBy w' row := ⟨h.os, h.tape, h.output, h.size, fun k hk _ => h.block k hk⟩

theorem grown_trans {a b c : World} {row : Option Nat} (h : a.grownBy b row) (k : b.grownBy c row) : a.grownBy c row :=
  ⟨k.os.trans h.os, k.tape.trans h.tape, k.output.trans h.output, Nat.le_trans h.size k.size, fun i hi hn => (k.block i (Nat.lt_of_lt_of_le hi h.size) hn).trans (h.block i hi hn)⟩

theorem IsBytes.take {bs : List Int} (h : IsBytes bs) (k : Nat) : IsBytes (bs.take k) := by
  intro j
  by_cases hj : j < k
  · rw [take_get bs k j hj]; exact h j
  · rw [List.getElem?_eq_none (by simp; omega)]; simp

theorem IsBytes.drop {bs : List Int} (h : IsBytes bs) (k : Nat) : IsBytes (bs.drop k) := by
  intro j
  rw [drop_get]; exact h _

/-- What a slice owns it leads to. -/
theorem Sl.of_owns {w : World} {base : Nat} {v : Value} {bs : List Int} (h : w.ownsRow base 5 1 v bs.length (bs.map (Value.int .u8))) : Sl .u8 w v bs := by
  rcases h.2 with ⟨rfl, h0⟩ | ⟨g, cap, cur, rfl, _, hg, h1, h2, h3, h4⟩
  · obtain rfl := List.eq_nil_of_length_eq_zero h0
    exact Sl.nil _ _
  · refine Sl.at (off := 0) h1 h2 (Array.getElem?_eq_some_iff.1 hg).1 fun j hj => ?_
    rw [cell_of_row _ _ _ _ _ _ hg]
    have e : (cur.toList.take (bs.length * 1))[0 + j]? = (bs.map (Value.int .u8))[0 + j]? := by rw [h4]
    rw [List.getElem?_take, if_pos (by omega)] at e
    rw [← Array.getElem?_toList, e]
    simp [hj]

theorem sl_new {W : World} {g : Nat} {xs : List Int} (h : W.heap[g]? = some (.cells (xs.map (Value.int .u8)).toArray 5 (0, 0))) (hm : xs.length ≤ maxLen) :
    Sl .u8 W (.slice (some ⟨g, 0, none⟩) xs.length xs.length) xs := by
  refine Sl.at (off := 0) (Nat.le_refl _) hm (Array.getElem?_eq_some_iff.1 h).1 fun j hj => ?_
  rw [cell_of_row _ _ _ _ _ _ h]
  simp [hj]

theorem row_new (w : World) (xs : List Int) : (w.alloc (.cells (xs.map (Value.int .u8)).toArray 5)).heap[w.heap.size]? = some (.cells (xs.map (Value.int .u8)).toArray 5 (0, 0)) := World.alloc_heap_new w _

set_option maxRecDepth 100000 in
theorem conv_sl {w : World} {v : Value} {xs : List Int} (h : Sl .u8 w v xs) : (convert 31 9 v).run Try.prog w = .ok (.string (strOfNums xs)) w := by
  obtain ⟨a, cap, rfl, h1, h2, h, _⟩ := h
  rcases h with rfl | ⟨b, off, rfl, h3, h4⟩
  · cases a with
    | none => exact run_convert_bytes_nil w 31 5 Try.underlying31 Try.underlying5 0 cap 9 Try.underlying9
    | some x =>
      rw [run_convert_bytes_string w 31 9 5 _ _ cap Try.underlying31 Try.underlying5 Try.underlying9, run_bytesToString w x _ cap [] (by have := run_loadCells_list (P := Try.prog) w x [] (fun j v hj => by simp at hj); simpa using this)]
      rfl
  · exact run_convert_bytes_arg w 31 5 Try.underlying31 Try.underlying5 b off _ cap xs rfl (fun i hi => by rw [List.getD_eq_getElem?_getD]; exact h4 i hi) 9 Try.underlying9

set_option maxRecDepth 100000 in
/-- Bytes of whatever slice appended to a row of one's own. -/
theorem run_append_bytes (base : Nat) (w : World) (v : Value) (xs : List Int) (hown : w.ownsRow base 5 1 v xs.length (xs.map (Value.int .u8))) (x : Value) (bs : List Int) (hx : Sl .u8 w x bs)
    (hlen : xs.length + bs.length ≤ 140737488355328) (hbase : base ≤ w.heap.size) :
    ∃ v' w', (Builtin.append_ #[31, 31] 31 #[v, x]).run Try.prog w = .ok v' w' ∧ w'.ownsRow base 5 1 v' (xs ++ bs).length ((xs ++ bs).map (Value.int .u8)) ∧ w.grownBy w' v.ownBlock := by
  obtain ⟨i0, hi, hz0, hz1, hz2⟩ := info_parts info_u8
  obtain ⟨a, cap, rfl, h1, h2, h, hnil⟩ := hx
  have hap : ∀ ad, a = some ad → (∀ j u, (bs.map (Value.int .u8))[j]? = some u → w.cell? (ad.add j) = some u) → ∃ v' w', (Builtin.append_ #[31, 31] 31 #[v, .slice a bs.length cap]).run Try.prog w = .ok v' w' ∧ w'.ownsRow base 5 1 v' (xs ++ bs).length ((xs ++ bs).map (Value.int .u8)) ∧ w.grownBy w' v.ownBlock := by
    rintro ad rfl hc
    obtain ⟨v', w', hr, ho, hg, _⟩ := run_append_own (P := Try.prog) w base 31 31 5 i0 (.int .u8 0) 1 1 Try.underlying31 hi hz0 hz1 hz2 rfl (by decide) v xs.length _ hown ad bs.length cap (bs.map (Value.int .u8)) (by simp) hc
      (fun u hu => by obtain ⟨y, _, rfl⟩ := List.mem_map.1 hu; rfl) (by unfold maxLen; omega) (by omega) hbase
    exact ⟨v', w', hr, by rw [List.length_append, List.map_append]; exact ho, hg⟩
  rcases h with rfl | ⟨b, off, rfl, h3, h4⟩
  · cases a with
    | some ad => exact hap ad rfl (fun j u hj => by simp at hj)
    | none =>
      obtain rfl := hnil rfl
      exact ⟨v, w, run_append_owned_none (P := Try.prog) (w := w) base 31 31 5 i0 1 Try.underlying31 hi v xs.length _ hown, by simpa using hown, World.grownBy.refl _ _⟩
  · refine hap _ rfl fun j u hj => ?_
    have hjl : j < bs.length := by
      have := (List.getElem?_eq_some_iff.1 hj).1
      rwa [List.length_map] at this
    have hplain : (⟨b, off, none⟩ : Addr).add j = ⟨b, off + j, none⟩ := by unfold Addr.add; split <;> simp_all
    rw [hplain, h4 j hjl]
    rw [List.getElem?_map, List.getElem?_eq_getElem hjl] at hj
    rw [List.getElem?_eq_getElem hjl]
    exact hj

set_option maxRecDepth 100000 in
/-- A copy by append to an empty literal. -/
theorem copy_lit (w : World) (x : Value) (bs : List Int) (hx : Sl .u8 w x bs) (hlen : bs.length ≤ 140737488355328) :
    ∃ v' w', Hid ((Builtin.append_ #[31, 31] 31 #[.slice (some ⟨w.heap.size, 0, none⟩) 0 0, x]).run Try.prog (w.alloc (.cells #[] 5)) = .ok v' w') ∧ Hid (w'.ownsRow w.heap.size 5 1 v' bs.length (bs.map (Value.int .u8))) ∧ Hid (Below w.heap.size w w') := by
  have ho0 : (w.alloc (.cells #[] 5)).ownsRow w.heap.size 5 1 (.slice (some ⟨w.heap.size, 0, none⟩) 0 0) ([] : List Int).length (([] : List Int).map (Value.int .u8)) := World.ownsRow_lit w #[] 0 (Nat.le_refl _) (by unfold maxLen; omega) rfl
  obtain ⟨v3, w3, hrun, ho3, hg3⟩ := run_append_bytes w.heap.size (w.alloc (.cells #[] 5)) _ [] ho0 x bs (hx.below ((Below.refl _ _).alloc (Nat.le_refl _) _)) (by simp; omega) (by simp)
  have hgB : Below w.heap.size w w3 := ((Below.refl _ _).alloc (Nat.le_refl _) _).grown hg3 (by simp) (fun k e => by simp [Value.ownBlock] at e; omega)
  exact ⟨v3, w3, hrun, Lib.hid (by simpa using ho3), hgB⟩

set_option maxRecDepth 100000 in
theorem elem_bytes : Try.prog.underlying 31 = some (.slice (Try.prog.elem 31)) := by kernel_rfl

set_option maxRecDepth 100000 in
theorem sizeOf_byte (W : World) : (sizeOf (Try.prog.elem 31)).run Try.prog W = .ok 1 W := by kernel_rfl

theorem add_none (ra : Option Addr) : (ra.map fun x => x.add 0) = ra := by cases ra <;> simp [Addr.add]

set_option maxRecDepth 100000 in
/-- The first K bytes of a slice. -/
theorem sl_hi {ra : Option Addr} {R rc K : Nat} {rest : List Int} {w0 : World} (h : Sl .u8 w0 (.slice ra R rc) rest) (hK : K ≤ R) :
    (∀ W : World, (Instr.sliceAt 31 (.slice ra R rc) none (some (.int .i64 (K : Int))) none).run Try.prog W = .ok (.slice ra K rc) W) ∧ ∀ W : World, Sl .u8 W (.slice ra R rc) rest → Sl .u8 W (.slice ra K rc) (rest.take K) := by
  obtain ⟨a, cap, e, h1, h2, _, h4⟩ := h
  simp only [Value.slice.injEq] at e
  obtain ⟨rfl, rfl, rfl⟩ := e
  refine ⟨fun W => ?_, fun W hW => ?_⟩
  · rw [run_sliceAt_slice (h := elem_bytes), run_slice_h (ht := elem_bytes) (kh := .i64) (h0 := by omega) (h2 := by omega), sizeOf_byte]
    simp only [Result.andThen, sliced, Int.toNat_natCast, Nat.zero_mul, add_none, ite_self, Nat.sub_zero]
  · obtain ⟨a, cap, e, h1, h2, h3, h4⟩ := hW
    simp only [Value.slice.injEq] at e
    obtain ⟨rfl, _, rfl⟩ := e
    have htl : (rest.take K).length = K := by rw [List.length_take]; omega
    refine ⟨ra, rc, by rw [htl], by omega, h2, ?_, h4⟩
    rcases h3 with rfl | ⟨b, off, e, h5, h6⟩
    · exact .inl (by simp)
    · exact .inr ⟨b, off, e, h5, fun j hj => by rw [htl] at hj; rw [take_get _ _ _ hj]; exact h6 j (by omega)⟩

set_option maxRecDepth 100000 in
/-- .. and all behind them. -/
theorem sl_lo {ra : Option Addr} {R rc K : Nat} {rest : List Int} {w0 : World} (h : Sl .u8 w0 (.slice ra R rc) rest) (hK : K ≤ R) :
    ∃ ra', (∀ W : World, (Instr.sliceAt 31 (.slice ra R rc) (some (.int .i64 (K : Int))) none none).run Try.prog W = .ok (.slice ra' (R - K) (rc - K)) W) ∧ ∀ W : World, Sl .u8 W (.slice ra R rc) rest → Sl .u8 W (.slice ra' (R - K) (rc - K)) (rest.drop K) := by
  obtain ⟨a, cap, e, h1, h2, _, h4⟩ := h
  simp only [Value.slice.injEq] at e
  obtain ⟨rfl, rfl, rfl⟩ := e
  refine ⟨if rc = K then ra else ra.map fun x => x.add K, fun W => ?_, fun W hW => ?_⟩
  · rw [run_sliceAt_slice (h := elem_bytes), run_slice_l (ht := elem_bytes) (kl := .i64) (h0 := by omega) (h1 := by omega), sizeOf_byte]
    simp only [Result.andThen, sliced, Int.toNat_natCast, Nat.mul_one]
  · obtain ⟨a, cap, e, h1, h2, h3, h4⟩ := hW
    simp only [Value.slice.injEq] at e
    obtain ⟨rfl, _, rfl⟩ := e
    refine ⟨_, rc - K, by rw [List.length_drop], by rw [List.length_drop]; omega, by omega, ?_, ?_⟩
    · by_cases h0 : rest.length = K
      · exact .inl (List.drop_of_length_le (by omega))
      · rcases h3 with rfl | ⟨b, off, rfl, h5, h6⟩
        · exact .inl (by simp)
        · refine .inr ⟨b, off + K, ?_, h5, fun j hj => ?_⟩
          · rw [if_neg (by omega)]
            show some _ = _
            congr 1
            unfold Addr.add
            split <;> simp_all
          · rw [List.length_drop] at hj
            rw [drop_get, Nat.add_assoc]
            exact h6 (K + j) (by omega)
    · intro e
      split at e
      · omega
      · have := h4 (by simpa using e); omega


/-- All behind the first K bytes, as the walk spells it. -/
theorem sl_lo_at {ra : Option Addr} {R rc K : Nat} {rest : List Int} {W : World} (hW : Sl .u8 W (.slice ra R rc) rest) (hK : K ≤ R) :
    Sl .u8 W (.slice (if rc = K then ra else ra.map fun x => x.add K) (R - K) (rc - K)) (rest.drop K) := by
  obtain ⟨a, cap, e, h1, h2, h3, h4⟩ := hW
  simp only [Value.slice.injEq] at e
  obtain ⟨rfl, rfl, rfl⟩ := e
  refine ⟨_, rc - K, by rw [List.length_drop], by rw [List.length_drop]; omega, by omega, ?_, ?_⟩
  · by_cases h0 : rest.length = K
    · exact .inl (List.drop_of_length_le (by omega))
    · rcases h3 with rfl | ⟨b, off, rfl, h5, h6⟩
      · exact .inl (by simp)
      · refine .inr ⟨b, off + K, ?_, h5, fun j hj => ?_⟩
        · rw [if_neg (by omega)]
          show some _ = _
          congr 1
          unfold Addr.add
          split <;> simp_all
        · rw [List.length_drop] at hj
          rw [drop_get, Nat.add_assoc]
          exact h6 (K + j) (by omega)
  · intro e
    split at e
    · omega
    · have := h4 (by simpa using e); omega

end Go.Proofs.Ytajamblkjmafmaa
