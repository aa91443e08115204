/- The bytes of a number, as the package le writes them. -/
import Derived.RangeFuncBox
import Derived.Test.YtnngebnnehokdaaIter
import Derived.Test.YtnngebnnehokdaaBytes
import Derived.Lib.Hide
namespace Go.Proofs.Ytnngebnnehokdaa
open Go.RowKit Go.Shelf
set_option linter.unusedVariables false

attribute [local go_sem] Oper.semAt_some

set_option maxRecDepth 100000 in
set_option maxHeartbeats 1000000 in
theorem put_none (n size : Int) (w : World) (hs : size < 1 ∨ 16 < size) :
    Calls Try.prog 21 #[.int .u64 n, .int .i64 size] w fun e w' => e = .returned (.slice none 0 0) ∧ Below w.heap.size w w' := by
  rcases hs with h | h
  · have h1 : size < 1 := h
    go_enter Try.func21, Try.ntmps21
    go_wp2
    go_ret
    exact ⟨rfl, (Below.refl _ w).alloc (Nat.le_refl _) _⟩
  · have h1 : 16 < size := h
    have h2 : ¬ size < 1 := by omega
    have h3 : decide (size < 1) = false := by simpa using h2
    go_enter Try.func21, Try.ntmps21
    go_wp2
    go_ret
    exact ⟨rfl, (Below.refl _ w).alloc (Nat.le_refl _) _⟩

set_option maxRecDepth 100000 in
set_option maxHeartbeats 2000000 in
theorem put_some (n : Int) (size : Nat) (w : World) (hs1 : 1 ≤ size) (hs2 : size ≤ 16) (hn0 : 0 ≤ n) (hn1 : n < 18446744073709551616) :
    Calls Try.prog 21 #[.int .u64 n, .int .i64 (size : Int)] w fun e w' => ∃ v, e = .returned v ∧ w'.ownsRow w.heap.size 5 1 v size ((putL n size).map (Value.int .u8)) ∧ Below w.heap.size w w' := by
  refine (callsIn_wide (n := 3)).1 ?_
  refine callsIn_of_wp_marks Try.func21 rfl trivial ?_ rfl
  simp only [Try.ntmps21, List.size_toArray, List.length_cons, List.length_nil, Nat.reduceAdd, Nat.reduceSub, Array.replicate_succ, Array.replicate_zero, List.push_toArray, List.append_toArray, List.nil_append, List.cons_append]
  obtain ⟨i0, hi, hz0, hz1, hz2⟩ := info_parts info_u8
  have g1 : ¬ ((size : Int) < 1) := by omega
  have g2 : ¬ (16 < (size : Int)) := by omega
  have g3 : decide ((size : Int) < 1) = false := by simpa using g1
  have g4 : decide (16 < (size : Int)) = false := by simpa using g2
  gi_wp2_with (first | (gi_at_make; refine wpListIn_make_full _ rfl _ _ 41 rfl w.heap.size 5 i0 (.int .u8 0) 1 Try.underlying41 hi hz0 hz1 .i64 .i64 _ _ size rfl rfl rfl rfl (by rw [hz2]; omega) (by unfold maxLen; omega) (by simp) ?_; intro w1 hown1 hgrow1) | (refine ⟨trivial, ?_⟩; gi_at_call 29; refine (places_in _ _ trivial rfl _ _).mono ?_; rintro e w' ⟨rfl, rfl⟩))
  have hz := hown1.lt _ rfl
  have hown2 : w1.ownsRow w.heap.size 5 1 (.slice (some ⟨w.heap.size + 1, 0, none⟩) size size) size (putF n size (m := nPlaces (size : Int)) []) := by
    rw [putF_nil]
    rw [show (Value.int IntKind.u8 0).cells = #[.int .u8 0] from rfl, toList_madeCells_one, Nat.mul_one, World.size_alloc] at hown1
    exact hown1
  rw [World.size_alloc] at hz
  have bN1 : Boxed w1 w.heap.size 55 (.int .u64 n) := (Boxed.new w 55 (.int .u64 n)).kept hgrow1 (by simp)
  have bS := Boxed.new w1 41 (.slice (some ⟨w.heap.size + 1, 0, none⟩) size size)
  have bP := Boxed.new (w1.alloc (.cells #[.slice (some ⟨w.heap.size + 1, 0, none⟩) size size] 41)) 3 (.int .i64 (size : Int))
  rw [World.size_alloc] at bP
  have hB1 : Below w.heap.size w w1 := ((Below.refl _ w).alloc (Nat.le_refl _) _).grown hgrow1 (by simp) (fun k e => by cases e)
  have hB0 : Below w.heap.size w ((w1.alloc (.cells #[.slice (some ⟨w.heap.size + 1, 0, none⟩) size size] 41)).alloc (.cells #[.int .i64 (size : Int)] 3)) := (hB1.alloc hB1.size _).alloc (by have := hB1.size; simp; omega) _
  clear hown1 hgrow1 g3 g4
  refine wpIn_rangeFunc_ownF (n := 3) rfl (by omega) (gf := 36) (lb := #[.pointer (some ⟨w1.heap.size + 1, 0, none⟩)]) rfl trivial (enters_of Try.func36 (by kernel_rfl) rfl)
    (places_stops Fence.wide 2 trivial rfl (by omega) (w1.heap.size + 1) (size : Int) _ (by simp) bP.cell) anyKp_t (fun _ _ _ _ _ _ _ _ => trivial) (Below.refl _ _) (fun _ => rfl)
    (fun pre W => (W.ownsRow w.heap.size 5 1 (.slice (some ⟨w.heap.size + 1, 0, none⟩) size size) size (putF n size pre) ∧ Boxed W w.heap.size 55 (.int .u64 n) ∧ Boxed W w1.heap.size 41 (.slice (some ⟨w.heap.size + 1, 0, none⟩) size size)) ∧ Below w.heap.size w W)
    (fun _ _ _ => False)
    (OwnFrom.and (OwnFrom.and ((ownsRow_own _ _ _ _ (fun _ => size) (fun pre => putF n size pre)).from _) (OwnFrom.and ((boxed_own _ _ (fun _ => _)).from _) ((boxed_own _ _ (fun _ => _)).from _))) (ownFrom_below (Nat.le_refl _) (by have := hB1.size; simp; omega)))
    (fun _ _ _ _ _ h _ _ => h.elim) ?h0 ?a1 ?assign ?body ?done ?stop
  case h0 => exact ⟨⟨(hown2.alloc _).alloc _, (bN1.alloc _).alloc _, bS.alloc _⟩, hB0⟩
  case assign =>
    intro l x W K hK
    dsimp only [encP]
    gi_wp2
    exact hK
  case body =>
    rintro l pre x W ⟨⟨hrow, hbn, hbs⟩, hB⟩ hlen
    have c1 := hbn.cell
    have c2 := hbs.cell
    have hx : x.1 < size := by have := x.2; unfold nPlaces at this; split at this <;> omega
    have hx8 : x.1 < 8 := by have := x.2; have := nPlaces_le (size : Int); omega
    have hx' : ((x.1 : Nat) : Int) < (size : Int) := by omega
    obtain ⟨z, c3⟩ : ∃ z, W.cell? ⟨w.heap.size + 1, x.1, none⟩ = some (.int .u8 z) := by
      rw [hrow.cellAt x.1 (by omega)]
      unfold putF
      simp [hx]
    have f3 := hrow.frozenAt x.1
    gi_wp2
    have hst := hrow.stored x.1 (.int .u8 (n / 2 ^ (8 * x.1) % 256))
    refine ⟨KeepsOthers.setCell _ _ _, trivial, ⟨?_, hbn.kept hst.2 (by simp), hbs.kept hst.2 (by have := hz.2; simp; omega)⟩, hB.setCell (p := ⟨w.heap.size + 1, x.1, none⟩) (by simp) _⟩
    rw [putF_snoc]
    exact hst.1
  case done =>
    rintro D xs W hD rfl ⟨⟨hrow, hbn, hbs⟩, hB⟩ hK
    have c2 := hbs.cell
    rw [putF_all] at hrow
    gi_wp2
    refine ⟨by simp, .inl ⟨_, _, rfl, run_takeDeferred hK, ?_⟩⟩
    refine ⟨_, results_tmp rfl _ _ _, _, rfl, ownsRow_putObj hrow _ hK rfl, hB.trans (belowK_b (w := w) (Nat.le_refl _) W D _ _ (by have := hB1.size; simp at hD; omega) hK rfl rfl)⟩
  case stop =>
    rintro D c pre W _ _ h _
    exact h.elim

/-- **Put**: any number as so many bytes. -/
theorem put_any (n size : Int) (w : World) (hn0 : 0 ≤ n) (hn1 : n < 18446744073709551616) :
    Calls Try.prog 21 #[.int .u64 n, .int .i64 size] w fun e w' => ∃ v, e = .returned v ∧ w'.ownsRow w.heap.size 5 1 v (putZ n size).length ((putZ n size).map (Value.int .u8)) ∧ Below w.heap.size w w' := by
  by_cases hs : size < 1 ∨ 16 < size
  · refine (put_none n size w hs).mono ?_
    rintro e w' ⟨rfl, hB⟩
    have e1 : putZ n size = [] := by unfold putZ; rw [if_pos hs]
    exact ⟨_, rfl, by rw [e1]; exact World.ownsRow_nil _ _ _ _, hB⟩
  · obtain ⟨m, rfl⟩ := Int.eq_ofNat_of_zero_le (show 0 ≤ size by omega)
    refine (put_some n m w (by omega) (by omega) hn0 hn1).mono ?_
    rintro e w' ⟨v, rfl, h, hB⟩
    have e1 : putZ n (m : Int) = putL n m := by unfold putZ; rw [if_neg hs, Int.toNat_natCast]
    exact ⟨v, rfl, by rw [e1]; simpa [putL_length] using h, hB⟩

end Go.Proofs.Ytnngebnnehokdaa
