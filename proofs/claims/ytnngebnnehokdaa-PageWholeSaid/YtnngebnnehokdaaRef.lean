/- The helpers of the statements on le: two rows of bytes alike; the document's own answers. -/
import Derived.Test.YtnngebnnehokdaaGet
import Derived.Test.YtnngebnnehokdaaPut
import Derived.LoopTactic
namespace Go.Proofs.Ytnngebnnehokdaa
open Go.RowKit Go.Shelf
set_option linter.unusedVariables false

set_option maxRecDepth 100000 in
set_option maxHeartbeats 2000000 in
/-- **ref.Get**: by definition. -/
theorem refGet_at (a : Option Addr) (len cap : Nat) (bs : List Int) (hlen : bs.length = len) (hcap : len ≤ 9223372036854775807) (w : World) (hA : Lies w a len bs) (hr : IsBytes bs) :
    Calls Try.prog 26 #[.slice a len cap] w fun e w' => e = .returned (.int .u64 (getL bs)) ∧ w' = w := by
  have HL := Lib.hid hlen
  have hA := Lib.hid hA
  have hr := Lib.hid hr
  clear hlen
  go_enter Try.func26, Try.ntmps26
  go_wp2
  go_loop [3, 4] (fun v i => ∃ k : Nat, k ≤ nPlaces (len : Int) ∧ i = .int .i64 k ∧ v = .int .u64 (getN bs k)) (fun _ i => 8 - (intOf i).toNat)
  case atStart => exact ⟨0, Nat.zero_le _, rfl, rfl⟩
  case round =>
    obtain ⟨k, hk, rfl, rfl⟩ := hrel
    have hk8 := nPlaces_le (len : Int)
    by_cases hlt : k < nPlaces (len : Int)
    · have hl : k < len := by have := nPlaces_lt hlt; omega
      have hl8 : k < 8 := by omega
      have hl8' : (k : Int) < 8 := by omega
      obtain ⟨b, off, rfl, hb, hc⟩ : ∃ b off, a = some ⟨b, off, none⟩ ∧ b < w.heap.size ∧ ∀ j, j < len → w.cell? ⟨b, off + j, none⟩ = some (.int .u8 (bs[j]?.getD 0)) := by
        rcases hA.out with h | h
        · omega
        · exact h
      have c3 := hc k hl
      obtain ⟨r1, r2⟩ := hr.out k
      have HS := Lib.hid (getN_plus bs hr.out k hl8)
      obtain ⟨y, hy⟩ : ∃ y, bs[k]?.getD 0 = y := ⟨_, rfl⟩
      rw [hy] at c3 r1 r2 HS
      obtain ⟨v, hv⟩ : ∃ v, getN bs k = v := ⟨_, rfl⟩
      rw [hv] at HS ⊢
      clear hc hy hv
      go_wp2
      go_round
      case rel => exact ⟨k + 1, by omega, by go_num, by rw [HS.out]⟩
      case measure => simp [intOf]; omega
    · have hk' : k = nPlaces (len : Int) := by omega
      have hd : ¬ (k < len ∧ k < 8) := by
        rintro ⟨h1, h2⟩
        unfold nPlaces at hk'; split at hk' <;> omega
      have HK := Lib.hid hk'
      clear hk'
      by_cases h1 : k < len
      · have h2 : ¬ k < 8 := fun h => hd ⟨h1, h⟩
        have h3 : decide ((k : Int) < 8) = false := by simp; omega
        clear hd
        go_wp2
        go_ret
        refine ⟨?_, rfl⟩
        rw [HK.out]; simp [getL, HL.out]
      · have h3 : decide ((k : Int) < (len : Int)) = false := by simp; omega
        clear hd
        go_wp2
        go_ret
        refine ⟨?_, rfl⟩
        rw [HK.out]; simp [getL, HL.out]

theorem refGet_any (v : Value) (bs : List Int) (w : World) (hv : Sl .u8 w v bs) (hr : IsBytes bs) :
    Calls Try.prog 26 #[v] w fun e w' => e = .returned (.int .u64 (getL bs)) ∧ w' = w := by
  obtain ⟨a, cap, rfl, hl, h2⟩ := Lies.of_sl hv
  unfold maxLen at h2
  exact refGet_at a bs.length cap bs rfl (by omega) w hl hr

set_option maxRecDepth 100000 in
set_option maxHeartbeats 1000000 in
theorem refPut_none (n size : Int) (w : World) (hs : size < 1 ∨ 16 < size) :
    Calls Try.prog 23 #[.int .u64 n, .int .i64 size] w fun e w' => e = .returned (.slice none 0 0) ∧ w' = w := by
  rcases hs with h | h
  · have h1 : size < 1 := h
    go_enter Try.func23, Try.ntmps23
    go_wp2
    go_ret
    exact ⟨rfl, rfl⟩
  · have h1 : 16 < size := h
    have h2 : ¬ size < 1 := by omega
    have h3 : decide (size < 1) = false := by simpa using h2
    go_enter Try.func23, Try.ntmps23
    go_wp2
    go_ret
    exact ⟨rfl, rfl⟩

set_option maxRecDepth 100000 in
set_option maxHeartbeats 2000000 in
theorem refPut_some (n : Int) (size : Nat) (w : World) (hs1 : 1 ≤ size) (hs2 : size ≤ 16) (hn0 : 0 ≤ n) (hn1 : n < 18446744073709551616) :
    Calls Try.prog 23 #[.int .u64 n, .int .i64 (size : Int)] w fun e w' => ∃ v, e = .returned v ∧ w'.ownsRow w.heap.size 5 1 v size ((putL n size).map (Value.int .u8)) ∧ Below w.heap.size w w' := by
  obtain ⟨i0, hi, hz0, hz1, hz2⟩ := info_parts info_u8
  have g1 : ¬ ((size : Int) < 1) := by omega
  have g2 : ¬ (16 < (size : Int)) := by omega
  have g3 : decide ((size : Int) < 1) = false := by simpa using g1
  have g4 : decide (16 < (size : Int)) = false := by simpa using g2
  go_enter Try.func23, Try.ntmps23
  go_wp2_with (first | (at_make; refine wpList_make_full _ rfl _ _ 41 rfl w.heap.size 5 i0 (.int .u8 0) 1 Try.underlying41 hi hz0 hz1 .i64 .i64 _ _ size rfl rfl rfl rfl (by rw [hz2]; omega) (by unfold maxLen; omega) (by simp) ?_; intro w1 hown1 hgrow1))
  have hown2 : w1.ownsRow w.heap.size 5 1 (.slice (some ⟨w.heap.size, 0, none⟩) size size) size (putP n size 0) := by
    rw [putP_zero]
    rw [show (Value.int IntKind.u8 0).cells = #[.int .u8 0] from rfl, toList_madeCells_one, Nat.mul_one] at hown1
    exact hown1
  have hB1 : Below w.heap.size w w1 := (Below.refl _ w).grown hgrow1 (Nat.le_refl _) (fun k e => by cases e)
  have HO := Lib.hid hown2
  have HB := Lib.hid hB1
  clear hown1 hgrow1 hown2 hB1 g1 g2 g3 g4
  go_loopw [6] (fun i wr => ∃ k : Nat, k ≤ nPlaces (size : Int) ∧ i = .int .i64 k ∧ wr.ownsRow w.heap.size 5 1 (.slice (some ⟨w.heap.size, 0, none⟩) size size) size (putP n size k) ∧ Below w.heap.size w wr) (fun i _ => 8 - (intOf i).toNat)
  case atStart => exact ⟨0, Nat.zero_le _, rfl, HO.out, HB.out⟩
  case round =>
    obtain ⟨k, hk, rfl, hrow, hB⟩ := hrel
    have hk8 := nPlaces_le (size : Int)
    by_cases hlt : k < nPlaces (size : Int)
    · have hl : k < size := by have := nPlaces_lt hlt; omega
      have hl8 : k < 8 := by omega
      have hl8' : (k : Int) < 8 := by omega
      obtain ⟨z, c3⟩ : ∃ z, wr.cell? ⟨w.heap.size, k, none⟩ = some (.int .u8 z) := by
        rw [hrow.cellAt k (by omega)]
        unfold putP
        simp [hl]
      have f3 := hrow.frozenAt k
      have hst := hrow.stored k (.int .u8 (n / 2 ^ (8 * k) % 256))
      have HST := Lib.hid hst
      have HB1 := Lib.hid hB
      clear hrow hst hB
      go_wp2
      go_roundw
      case rel => exact ⟨k + 1, by omega, by go_num, by rw [putP_succ]; exact HST.out.1, HB1.out.setCell (p := ⟨w.heap.size, k, none⟩) (Nat.le_refl _) _⟩
      case measure => simp [intOf]; omega
    · have hk' : k = nPlaces (size : Int) := by omega
      have hd : ¬ (k < size ∧ k < 8) := by
        rintro ⟨h1, h2⟩
        unfold nPlaces at hk'; split at hk' <;> omega
      have hfin : wr.ownsRow w.heap.size 5 1 (.slice (some ⟨w.heap.size, 0, none⟩) size size) size ((putL n size).map (Value.int .u8)) := by
        rw [← putP_all, ← hk']; exact hrow
      have HF := Lib.hid hfin
      have HB1 := Lib.hid hB
      clear hk' hrow hB hfin
      by_cases h1 : k < size
      · have h2 : ¬ k < 8 := fun h => hd ⟨h1, h⟩
        have h3 : decide ((k : Int) < 8) = false := by simp; omega
        clear hd
        go_wp2
        go_ret
        exact ⟨_, rfl, HF.out, HB1.out⟩
      · have h3 : decide ((k : Int) < (size : Int)) = false := by simp; omega
        clear hd
        go_wp2
        go_ret
        exact ⟨_, rfl, HF.out, HB1.out⟩

/-- **ref.Put**: any number as so many bytes. -/
theorem refPut_any (n size : Int) (w : World) (hn0 : 0 ≤ n) (hn1 : n < 18446744073709551616) :
    Calls Try.prog 23 #[.int .u64 n, .int .i64 size] w fun e w' => ∃ v, e = .returned v ∧ w'.ownsRow w.heap.size 5 1 v (putZ n size).length ((putZ n size).map (Value.int .u8)) ∧ Below w.heap.size w w' := by
  by_cases hs : size < 1 ∨ 16 < size
  · refine (refPut_none n size w hs).mono ?_
    rintro e w' ⟨rfl, rfl⟩
    have e1 : putZ n size = [] := by unfold putZ; rw [if_pos hs]
    exact ⟨_, rfl, by rw [e1]; exact World.ownsRow_nil _ _ _ _, Below.refl _ _⟩
  · obtain ⟨m, rfl⟩ := Int.eq_ofNat_of_zero_le (show 0 ≤ size by omega)
    refine (refPut_some n m w (by omega) (by omega) hn0 hn1).mono ?_
    rintro e w' ⟨v, rfl, h, hB⟩
    have e1 : putZ n (m : Int) = putL n m := by unfold putZ; rw [if_neg hs, Int.toNat_natCast]
    exact ⟨v, rfl, by rw [e1]; simpa [putL_length] using h, hB⟩

end Go.Proofs.Ytnngebnnehokdaa
