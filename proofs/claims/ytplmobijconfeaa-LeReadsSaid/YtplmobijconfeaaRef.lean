/- The helpers of the statements on le: two rows of bytes alike; the document's own answers. -/
import Derived.Test.YtplmobijconfeaaRead
import Derived.LoopTactic
namespace Go.Proofs.Ytplmobijconfeaa
open Go.RowKit Go.Shelf
set_option linter.unusedVariables false

theorem conv_sl {w : World} {v : Value} {xs : List Int} (h : Sl .u8 w v xs) : (convert 23 9 v).run Try.prog w = .ok (.string (strOfNums xs)) w := by
  obtain ⟨a, cap, rfl, h1, h2, h, _⟩ := h
  rcases h with rfl | ⟨b, off, rfl, h3, h4⟩
  · cases a with
    | none => exact run_convert_bytes_nil w 23 5 Try.underlying23 Try.underlying5 0 cap 9 Try.underlying9
    | some x =>
      rw [run_convert_bytes_string w 23 9 5 _ _ cap Try.underlying23 Try.underlying5 Try.underlying9, run_bytesToString w x _ cap [] (by have := run_loadCells_list (P := Try.prog) w x [] (fun j v hj => by simp at hj); simpa using this)]
      rfl
  · exact run_convert_bytes_arg w 23 5 Try.underlying23 Try.underlying5 b off _ cap xs rfl (fun i hi => by rw [List.getD_eq_getElem?_getD]; exact h4 i hi) 9 Try.underlying9

set_option maxRecDepth 100000 in
set_option maxHeartbeats 1000000 in
/-- **Bytes**: two rows of the same bytes are alike. -/
theorem bytes_yes (va vb : Value) (xs : List Int) (w : World) (ha : Sl .u8 w va xs) (hb : Sl .u8 w vb xs) :
    Calls Try.prog 9 #[va, vb] w fun e w' => e = .returned (.bool true) ∧ w' = w := by
  have k1 := conv_sl ha
  have k2 := conv_sl hb
  clear ha hb
  go_enter Try.func9, Try.ntmps9
  go_wp2
  go_ret
  exact ⟨rfl, rfl⟩

set_option maxRecDepth 100000 in
set_option maxHeartbeats 2000000 in
/-- **ref.Get**: by definition. -/
theorem refGet_at (a : Option Addr) (len cap : Nat) (bs : List Int) (hlen : bs.length = len) (hcap : len ≤ 9223372036854775807) (w : World) (hA : Lies w a len bs) (hr : IsBytes bs) :
    Calls Try.prog 13 #[.slice a len cap] w fun e w' => e = .returned (.int .u64 (getL bs)) ∧ w' = w := by
  have HL := Lib.hid hlen
  have hA := Lib.hid hA
  have hr := Lib.hid hr
  clear hlen
  go_enter Try.func13, Try.ntmps13
  go_wp2
  go_loop [3, 4] (fun v i => ∃ k : Nat, k ≤ nPlaces (len : Int) ∧ i = .int .i64 k ∧ v = .int .u64 (getN bs k)) (fun _ i => 8 - (intOf i).toNat)
  case atStart => exact ⟨0, Nat.zero_le _, rfl, rfl⟩
  case round =>
    obtain ⟨k, hk, rfl, rfl⟩ := hrel
    have hk8 := nPlaces_le (len : Int)
    by_cases hlt : k < nPlaces (len : Int)
    · have hl : k < len := by have := nPlaces_lt hlt; omega
      have hl8 : k < 8 := by omega
      have hl8' : (k : Int) < 8 := by omega
      obtain ⟨b, off, rfl, hb, hc⟩ : ∃ b off, a = some ⟨b, off, none⟩ ∧ b < w.heap.size ∧ ∀ j, j < len → w.cell? ⟨b, off + j, none⟩ = some (.int .u8 (bs[j]?.getD 0)) := by
        rcases hA.out with h | h
        · omega
        · exact h
      have c3 := hc k hl
      obtain ⟨r1, r2⟩ := hr.out k
      have HS := Lib.hid (getN_plus bs hr.out k hl8)
      obtain ⟨y, hy⟩ : ∃ y, bs[k]?.getD 0 = y := ⟨_, rfl⟩
      rw [hy] at c3 r1 r2 HS
      obtain ⟨v, hv⟩ : ∃ v, getN bs k = v := ⟨_, rfl⟩
      rw [hv] at HS ⊢
      clear hc hy hv
      go_wp2
      go_round
      case rel => exact ⟨k + 1, by omega, by go_num, by rw [HS.out]⟩
      case measure => simp [intOf]; omega
    · have hk' : k = nPlaces (len : Int) := by omega
      have hd : ¬ (k < len ∧ k < 8) := by
        rintro ⟨h1, h2⟩
        unfold nPlaces at hk'; split at hk' <;> omega
      have HK := Lib.hid hk'
      clear hk'
      by_cases h1 : k < len
      · have h2 : ¬ k < 8 := fun h => hd ⟨h1, h⟩
        have h3 : decide ((k : Int) < 8) = false := by simp; omega
        clear hd
        go_wp2
        go_ret
        refine ⟨?_, rfl⟩
        rw [HK.out]; simp [getL, HL.out]
      · have h3 : decide ((k : Int) < (len : Int)) = false := by simp; omega
        clear hd
        go_wp2
        go_ret
        refine ⟨?_, rfl⟩
        rw [HK.out]; simp [getL, HL.out]

theorem refGet_any (v : Value) (bs : List Int) (w : World) (hv : Sl .u8 w v bs) (hr : IsBytes bs) :
    Calls Try.prog 13 #[v] w fun e w' => e = .returned (.int .u64 (getL bs)) ∧ w' = w := by
  obtain ⟨a, cap, rfl, hl, h2⟩ := Lies.of_sl hv
  unfold maxLen at h2
  exact refGet_at a bs.length cap bs rfl (by omega) w hl hr

set_option maxRecDepth 100000 in
set_option maxHeartbeats 1000000 in
theorem refPut_none (n size : Int) (w : World) (hs : size < 1 ∨ 16 < size) :
    Calls Try.prog 11 #[.int .u64 n, .int .i64 size] w fun e w' => e = .returned (.slice none 0 0) ∧ w' = w := by
  rcases hs with h | h
  · have h1 : size < 1 := h
    go_enter Try.func11, Try.ntmps11
    go_wp2
    go_ret
    exact ⟨rfl, rfl⟩
  · have h1 : 16 < size := h
    have h2 : ¬ size < 1 := by omega
    have h3 : decide (size < 1) = false := by simpa using h2
    go_enter Try.func11, Try.ntmps11
    go_wp2
    go_ret
    exact ⟨rfl, rfl⟩

set_option maxRecDepth 100000 in
set_option maxHeartbeats 2000000 in
theorem refPut_some (n : Int) (size : Nat) (w : World) (hs1 : 1 ≤ size) (hs2 : size ≤ 16) (hn0 : 0 ≤ n) (hn1 : n < 18446744073709551616) :
    Calls Try.prog 11 #[.int .u64 n, .int .i64 (size : Int)] w fun e w' => ∃ v, e = .returned v ∧ w'.ownsRow w.heap.size 5 1 v size ((putL n size).map (Value.int .u8)) ∧ Below w.heap.size w w' := by
  obtain ⟨i0, hi, hz0, hz1, hz2⟩ := info_parts info_u8
  have g1 : ¬ ((size : Int) < 1) := by omega
  have g2 : ¬ (16 < (size : Int)) := by omega
  have g3 : decide ((size : Int) < 1) = false := by simpa using g1
  have g4 : decide (16 < (size : Int)) = false := by simpa using g2
  go_enter Try.func11, Try.ntmps11
  go_wp2_with (first | (at_make; refine wpList_make_full _ rfl _ _ 23 rfl w.heap.size 5 i0 (.int .u8 0) 1 Try.underlying23 hi hz0 hz1 .i64 .i64 _ _ size rfl rfl rfl rfl (by rw [hz2]; omega) (by unfold maxLen; omega) (by simp) ?_; intro w1 hown1 hgrow1))
  have hown2 : w1.ownsRow w.heap.size 5 1 (.slice (some ⟨w.heap.size, 0, none⟩) size size) size (putP n size 0) := by
    rw [putP_zero]
    rw [show (Value.int IntKind.u8 0).cells = #[.int .u8 0] from rfl, toList_madeCells_one, Nat.mul_one] at hown1
    exact hown1
  have hB1 : Below w.heap.size w w1 := (Below.refl _ w).grown hgrow1 (Nat.le_refl _) (fun k e => by cases e)
  have HO := Lib.hid hown2
  have HB := Lib.hid hB1
  clear hown1 hgrow1 hown2 hB1 g1 g2 g3 g4
  go_loopw [6] (fun i wr => ∃ k : Nat, k ≤ nPlaces (size : Int) ∧ i = .int .i64 k ∧ wr.ownsRow w.heap.size 5 1 (.slice (some ⟨w.heap.size, 0, none⟩) size size) size (putP n size k) ∧ Below w.heap.size w wr) (fun i _ => 8 - (intOf i).toNat)
  case atStart => exact ⟨0, Nat.zero_le _, rfl, HO.out, HB.out⟩
  case round =>
    obtain ⟨k, hk, rfl, hrow, hB⟩ := hrel
    have hk8 := nPlaces_le (size : Int)
    by_cases hlt : k < nPlaces (size : Int)
    · have hl : k < size := by have := nPlaces_lt hlt; omega
      have hl8 : k < 8 := by omega
      have hl8' : (k : Int) < 8 := by omega
      obtain ⟨z, c3⟩ : ∃ z, wr.cell? ⟨w.heap.size, k, none⟩ = some (.int .u8 z) := by
        rw [hrow.cellAt k (by omega)]
        unfold putP
        simp [hl]
      have f3 := hrow.frozenAt k
      have hst := hrow.stored k (.int .u8 (n / 2 ^ (8 * k) % 256))
      have HST := Lib.hid hst
      have HB1 := Lib.hid hB
      clear hrow hst hB
      go_wp2
      go_roundw
      case rel => exact ⟨k + 1, by omega, by go_num, by rw [putP_succ]; exact HST.out.1, HB1.out.setCell (p := ⟨w.heap.size, k, none⟩) (Nat.le_refl _) _⟩
      case measure => simp [intOf]; omega
    · have hk' : k = nPlaces (size : Int) := by omega
      have hd : ¬ (k < size ∧ k < 8) := by
        rintro ⟨h1, h2⟩
        unfold nPlaces at hk'; split at hk' <;> omega
      have hfin : wr.ownsRow w.heap.size 5 1 (.slice (some ⟨w.heap.size, 0, none⟩) size size) size ((putL n size).map (Value.int .u8)) := by
        rw [← putP_all, ← hk']; exact hrow
      have HF := Lib.hid hfin
      have HB1 := Lib.hid hB
      clear hk' hrow hB hfin
      by_cases h1 : k < size
      · have h2 : ¬ k < 8 := fun h => hd ⟨h1, h⟩
        have h3 : decide ((k : Int) < 8) = false := by simp; omega
        clear hd
        go_wp2
        go_ret
        exact ⟨_, rfl, HF.out, HB1.out⟩
      · have h3 : decide ((k : Int) < (size : Int)) = false := by simp; omega
        clear hd
        go_wp2
        go_ret
        exact ⟨_, rfl, HF.out, HB1.out⟩

/-- **ref.Put**: any number as so many bytes. -/
theorem refPut_any (n size : Int) (w : World) (hn0 : 0 ≤ n) (hn1 : n < 18446744073709551616) :
    Calls Try.prog 11 #[.int .u64 n, .int .i64 size] w fun e w' => ∃ v, e = .returned v ∧ w'.ownsRow w.heap.size 5 1 v (putZ n size).length ((putZ n size).map (Value.int .u8)) ∧ Below w.heap.size w w' := by
  by_cases hs : size < 1 ∨ 16 < size
  · refine (refPut_none n size w hs).mono ?_
    rintro e w' ⟨rfl, rfl⟩
    have e1 : putZ n size = [] := by unfold putZ; rw [if_pos hs]
    exact ⟨_, rfl, by rw [e1]; exact World.ownsRow_nil _ _ _ _, Below.refl _ _⟩
  · obtain ⟨m, rfl⟩ := Int.eq_ofNat_of_zero_le (show 0 ≤ size by omega)
    refine (refPut_some n m w (by omega) (by omega) hn0 hn1).mono ?_
    rintro e w' ⟨v, rfl, h, hB⟩
    have e1 : putZ n (m : Int) = putL n m := by unfold putZ; rw [if_neg hs, Int.toNat_natCast]
    exact ⟨v, rfl, by rw [e1]; simpa [putL_length] using h, hB⟩

/-- What a slice owns it leads to. -/
theorem Sl.of_owns {w : World} {base : Nat} {v : Value} {bs : List Int} (h : w.ownsRow base 5 1 v bs.length (bs.map (Value.int .u8))) : Sl .u8 w v bs := by
  rcases h.2 with ⟨rfl, h0⟩ | ⟨g, cap, cur, rfl, _, hg, h1, h2, h3, h4⟩
  · obtain rfl := List.eq_nil_of_length_eq_zero h0
    exact Sl.nil _ _
  · refine Sl.at (off := 0) h1 h2 (Array.getElem?_eq_some_iff.1 hg).1 fun j hj => ?_
    rw [cell_of_row _ _ _ _ _ _ hg]
    have e : (cur.toList.take (bs.length * 1))[0 + j]? = (bs.map (Value.int .u8))[0 + j]? := by rw [h4]
    rw [List.getElem?_take, if_pos (by omega)] at e
    rw [← Array.getElem?_toList, e]
    simp [hj]

/-- Bytes of whatever slice appended to a row of one's own. -/
theorem run_append_bytes (base : Nat) (w : World) (v : Value) (xs : List Int) (hown : w.ownsRow base 5 1 v xs.length (xs.map (Value.int .u8))) (x : Value) (bs : List Int) (hx : Sl .u8 w x bs)
    (hlen : xs.length + bs.length ≤ 140737488355328) (hbase : base ≤ w.heap.size) :
    ∃ v' w', (Builtin.append_ #[23, 23] 23 #[v, x]).run Try.prog w = .ok v' w' ∧ w'.ownsRow base 5 1 v' (xs ++ bs).length ((xs ++ bs).map (Value.int .u8)) ∧ w.grownBy w' v.ownBlock := by
  obtain ⟨i0, hi, hz0, hz1, hz2⟩ := info_parts info_u8
  obtain ⟨a, cap, rfl, h1, h2, h, hnil⟩ := hx
  have hap : ∀ ad, a = some ad → (∀ j u, (bs.map (Value.int .u8))[j]? = some u → w.cell? (ad.add j) = some u) → ∃ v' w', (Builtin.append_ #[23, 23] 23 #[v, .slice a bs.length cap]).run Try.prog w = .ok v' w' ∧ w'.ownsRow base 5 1 v' (xs ++ bs).length ((xs ++ bs).map (Value.int .u8)) ∧ w.grownBy w' v.ownBlock := by
    rintro ad rfl hc
    obtain ⟨v', w', hr, ho, hg, _⟩ := run_append_own (P := Try.prog) w base 23 23 5 i0 (.int .u8 0) 1 1 Try.underlying23 hi hz0 hz1 hz2 rfl (by decide) v xs.length _ hown ad bs.length cap (bs.map (Value.int .u8)) (by simp) hc
      (fun u hu => by obtain ⟨y, _, rfl⟩ := List.mem_map.1 hu; rfl) (by unfold maxLen; omega) (by omega) hbase
    exact ⟨v', w', hr, by rw [List.length_append, List.map_append]; exact ho, hg⟩
  rcases h with rfl | ⟨b, off, rfl, h3, h4⟩
  · cases a with
    | some ad => exact hap ad rfl (fun j u hj => by simp at hj)
    | none =>
      obtain rfl := hnil rfl
      exact ⟨v, w, run_append_owned_none (P := Try.prog) (w := w) base 23 23 5 i0 1 Try.underlying23 hi v xs.length _ hown, by simpa using hown, World.grownBy.refl _ _⟩
  · refine hap _ rfl fun j u hj => ?_
    have hjl : j < bs.length := by
      have := (List.getElem?_eq_some_iff.1 hj).1
      rwa [List.length_map] at this
    have hplain : (⟨b, off, none⟩ : Addr).add j = ⟨b, off + j, none⟩ := by unfold Addr.add; split <;> simp_all
    rw [hplain, h4 j hjl]
    rw [List.getElem?_map, List.getElem?_eq_getElem hjl] at hj
    rw [List.getElem?_eq_getElem hjl]
    exact hj

theorem elem_bytes : Try.prog.underlying 23 = some (.slice (Try.prog.elem 23)) := by kernel_rfl
theorem sizeOf_byte (W : World) : (sizeOf (Try.prog.elem 23)).run Try.prog W = .ok 1 W := by kernel_rfl
theorem add_none (ra : Option Addr) : (ra.map fun x => x.add 0) = ra := by cases ra <;> simp [Addr.add]

/-- The first K bytes of a slice. -/
theorem sl_hi {ra : Option Addr} {R rc K : Nat} {rest : List Int} {w0 : World} (h : Sl .u8 w0 (.slice ra R rc) rest) (hK : K ≤ R) :
    (∀ W : World, (Instr.sliceAt 23 (.slice ra R rc) none (some (.int .i64 (K : Int))) none).run Try.prog W = .ok (.slice ra K rc) W) ∧ ∀ W : World, Sl .u8 W (.slice ra R rc) rest → Sl .u8 W (.slice ra K rc) (rest.take K) := by
  obtain ⟨a, cap, e, h1, h2, _, h4⟩ := h
  simp only [Value.slice.injEq] at e
  obtain ⟨rfl, rfl, rfl⟩ := e
  refine ⟨fun W => ?_, fun W hW => ?_⟩
  · rw [run_sliceAt_slice (h := elem_bytes), run_slice_h (ht := elem_bytes) (kh := .i64) (h0 := by omega) (h2 := by omega), sizeOf_byte]
    simp only [Result.andThen, sliced, Int.toNat_natCast, Nat.zero_mul, add_none, ite_self, Nat.sub_zero]
  · obtain ⟨a, cap, e, h1, h2, h3, h4⟩ := hW
    simp only [Value.slice.injEq] at e
    obtain ⟨rfl, _, rfl⟩ := e
    have htl : (rest.take K).length = K := by rw [List.length_take]; omega
    refine ⟨ra, rc, by rw [htl], by omega, h2, ?_, h4⟩
    rcases h3 with rfl | ⟨b, off, e, h5, h6⟩
    · exact .inl (by simp)
    · exact .inr ⟨b, off, e, h5, fun j hj => by rw [htl] at hj; rw [take_get _ _ _ hj]; exact h6 j (by omega)⟩

/-- .. and all behind them. -/
theorem sl_lo {ra : Option Addr} {R rc K : Nat} {rest : List Int} {w0 : World} (h : Sl .u8 w0 (.slice ra R rc) rest) (hK : K ≤ R) :
    ∃ ra', (∀ W : World, (Instr.sliceAt 23 (.slice ra R rc) (some (.int .i64 (K : Int))) none none).run Try.prog W = .ok (.slice ra' (R - K) (rc - K)) W) ∧ ∀ W : World, Sl .u8 W (.slice ra R rc) rest → Sl .u8 W (.slice ra' (R - K) (rc - K)) (rest.drop K) := by
  obtain ⟨a, cap, e, h1, h2, _, h4⟩ := h
  simp only [Value.slice.injEq] at e
  obtain ⟨rfl, rfl, rfl⟩ := e
  refine ⟨if rc = K then ra else ra.map fun x => x.add K, fun W => ?_, fun W hW => ?_⟩
  · rw [run_sliceAt_slice (h := elem_bytes), run_slice_l (ht := elem_bytes) (kl := .i64) (h0 := by omega) (h1 := by omega), sizeOf_byte]
    simp only [Result.andThen, sliced, Int.toNat_natCast, Nat.mul_one]
  · obtain ⟨a, cap, e, h1, h2, h3, h4⟩ := hW
    simp only [Value.slice.injEq] at e
    obtain ⟨rfl, _, rfl⟩ := e
    refine ⟨_, rc - K, by rw [List.length_drop], by rw [List.length_drop]; omega, by omega, ?_, ?_⟩
    · by_cases h0 : rest.length = K
      · exact .inl (List.drop_of_length_le (by omega))
      · rcases h3 with rfl | ⟨b, off, rfl, h5, h6⟩
        · exact .inl (by simp)
        · refine .inr ⟨b, off + K, ?_, h5, fun j hj => ?_⟩
          · rw [if_neg (by omega)]
            show some _ = _
            congr 1
            unfold Addr.add
            split <;> simp_all
          · rw [List.length_drop] at hj
            rw [drop_get, Nat.add_assoc]
            exact h6 (K + j) (by omega)
    · intro e
      split at e
      · omega
      · have := h4 (by simpa using e); omega
end Go.Proofs.Ytplmobijconfeaa
