/- The number that bytes stand for, as the package le reads it. -/
import Derived.RangeFuncBox
import Derived.Test.YtnngebnnehokdaaIter
import Derived.Lib.Hide
import Derived.Test.YtnngebnnehokdaaRegion
namespace Go.Proofs.Ytnngebnnehokdaa
open Go.RowKit Go.Shelf
set_option linter.unusedVariables false

attribute [local go_sem] Oper.semAt_some

set_option maxRecDepth 100000 in
set_option maxHeartbeats 2000000 in
theorem get_at (a : Option Addr) (len cap : Nat) (bs : List Int) (hlen : bs.length = len) (hcap : len ≤ 9223372036854775807) (w : World)
    (hA : len = 0 ∨ ∃ b off, a = some ⟨b, off, none⟩ ∧ b < w.heap.size ∧ ∀ j, j < len → w.cell? ⟨b, off + j, none⟩ = some (.int .u8 (bs[j]?.getD 0))) (hr : IsBytes bs) :
    Calls Try.prog 39 #[.slice a len cap] w fun e w' => e = .returned (.int .u64 (getL bs)) ∧ Below w.heap.size w w' := by
  refine (callsIn_wide (n := 3)).1 ?_
  refine callsIn_of_wp_marks Try.func39 rfl trivial ?_ rfl
  simp only [Try.ntmps39, List.size_toArray, List.length_cons, List.length_nil, Nat.reduceAdd, Nat.reduceSub, Array.replicate_succ, Array.replicate_zero, List.push_toArray, List.append_toArray, List.nil_append, List.cons_append]
  have hr := Lib.hid hr
  have hA := Lib.hid hA
  gi_wp2_with (refine ⟨trivial, ?_⟩; gi_at_call 29; refine (places_in _ _ trivial rfl _ _).mono ?_; rintro e w' ⟨rfl, rfl⟩)
  have bB := Boxed.new w 41 (.slice a len cap)
  have bN := Boxed.new (w.alloc (.cells #[.slice a len cap] 41)) 55 (.int .u64 0)
  rw [World.size_alloc] at bN
  have bP := Boxed.new ((w.alloc (.cells #[.slice a len cap] 41)).alloc (.cells #[.int .u64 0] 55)) 3 (.int .i64 (len : Int))
  rw [World.size_alloc, World.size_alloc] at bP
  have hB0 : Below w.heap.size w (((w.alloc (.cells #[.slice a len cap] 41)).alloc (.cells #[.int .u64 0] 55)).alloc (.cells #[.int .i64 (len : Int)] 3)) := (((Below.refl _ w).alloc (Nat.le_refl _) _).alloc (by simp) _).alloc (by simp; omega) _
  refine wpIn_rangeFunc_ownF (n := 3) rfl (by omega) (gf := 36) (lb := #[.pointer (some ⟨w.heap.size + 1 + 1, 0, none⟩)]) rfl trivial (enters_of Try.func36 (by kernel_rfl) rfl)
    (places_stops Fence.wide 2 trivial rfl (by omega) (w.heap.size + 1 + 1) (len : Int) _ (by simp) bP.cell) anyKp_t (fun _ _ _ _ _ _ _ _ => trivial) (Below.refl _ _) (fun _ => rfl)
    (fun pre W => (∃ v : Int, Boxed W (w.heap.size + 1) 55 (.int .u64 v) ∧ 0 ≤ v ∧ v < 18446744073709551616 ∧ (pre <+: List.finRange (nPlaces (len : Int)) → v = getN bs pre.length)) ∧ Boxed W w.heap.size 41 (.slice a len cap) ∧ Below w.heap.size w W)
    (fun _ _ _ => False)
    ?hI (fun _ _ _ _ _ h _ _ => h.elim) ?h0 ?a1 ?assign ?body ?done ?stop
  case hI =>
    intro s W W' row ⟨⟨v, hv, h1, h2, h3⟩, hb, hB⟩ hg hrow
    have hr' : ∀ r, row = some r → ∃ o : Obj, W.heap[r]? = some o ∧ o.isCells = false := fun r e => (hrow r e).2
    exact ⟨⟨v, boxed_own _ _ (fun _ : Unit => _) () W W' row hv hg hr', h1, h2, h3⟩, boxed_own _ _ (fun _ : Unit => _) () W W' row hb hg hr', ownFrom_below (β := Unit) (Nat.le_refl _) (by simp; omega) () W W' row hB hg hrow⟩
  case h0 => exact ⟨⟨0, bN.alloc _, by omega, by omega, fun _ => rfl⟩, (bB.alloc _).alloc _, hB0⟩
  case assign =>
    intro l x W K hK
    dsimp only [encP]
    gi_wp2
    exact hK
  case body =>
    rintro l pre x W ⟨⟨v, hv, hv0, hv1, hvp⟩, hbx, hB⟩ hlen
    have c1 := hv.cell
    have f1 := hv.frozen
    have hx : x.1 < len := by have := x.2; unfold nPlaces at this; split at this <;> omega
    have hx8 : x.1 < 8 := by have := x.2; have := nPlaces_le (len : Int); omega
    obtain ⟨b, off, rfl, hb, hc⟩ : ∃ b off, a = some ⟨b, off, none⟩ ∧ b < w.heap.size ∧ ∀ j, j < len → w.cell? ⟨b, off + j, none⟩ = some (.int .u8 (bs[j]?.getD 0)) := by
      rcases hA.out with h | h
      · omega
      · exact h
    have c2 := hbx.cell
    have c3 : W.cell? ⟨b, off + x.1, none⟩ = some (.int .u8 (bs[x.1]?.getD 0)) := (hB.cell (p := ⟨b, off + x.1, none⟩) hb).trans (hc x.1 hx)
    have hx' : ((x.1 : Nat) : Int) < (len : Int) := by omega
    obtain ⟨hr1, hr2⟩ := hr.out x.1
    obtain ⟨y, hy⟩ : ∃ y, bs[x.1]?.getD 0 = y := ⟨_, rfl⟩
    rw [hy] at c3 hr1 hr2
    have HP := Lib.hid hvp
    have HY := Lib.hid hy
    clear hc hvp hy
    have hmx : Try.prog.follows .mixedOrders = true := by kernel_rfl
    gi_wp2
    refine region_round 9 (letsOut_inBlock letsOut_own) (by kernel_rfl) (by kernel_rfl) (by kernel_rfl) ?_
    simp only [List.take_succ_cons, List.take_zero, List.drop_succ_cons, List.drop_zero]
    repeat still_step
    try refine wpStill_nil ?_
    go_wp2
    have bd := orStep_bd v y x.1 hx8 hv0 hv1 hr1 hr2
    refine ⟨(KeepsOthers.setCell _ _ _).trans (KeepsOthers.drew _), trivial, ⟨orStep v y x.1, hv.set _, bd.1, bd.2, fun hp => ?_⟩, hbx.other (by omega) _, (hB.setCell (p := ⟨w.heap.size + 1, 0, none⟩) (by simp) _).drew⟩
    obtain ⟨hp1, hp2⟩ := prefix_snoc hp
    rw [HP.out hp1, ← HY.out, hp2]
    rw [hp2] at hx8
    rw [getN_step bs hr.out pre.length hx8]
    simp
  case done =>
    rintro D xs W hD rfl ⟨⟨v, hv, _, _, hvp⟩, hbx, hB⟩ hK
    have c1 := hv.cell
    have e := hvp (List.prefix_refl _)
    have He := Lib.hid e
    clear e hvp
    gi_wp2
    refine ⟨by simp, .inl ⟨_, _, rfl, run_takeDeferred hK, ?_⟩⟩
    refine ⟨_, results_tmp rfl _ _ _, ?_, hB.trans (belowK_b (w := w) (Nat.le_refl _) W D _ _ (by simp at hD; omega) hK rfl rfl)⟩
    rw [He.out]
    simp [getL, hlen]
  case stop =>
    rintro D c pre W _ _ h _
    exact h.elim

/-- **Get**: of any bytes. -/
theorem get_any (v : Value) (bs : List Int) (w : World) (hv : Sl .u8 w v bs) (hr : IsBytes bs) :
    Calls Try.prog 39 #[v] w fun e w' => e = .returned (.int .u64 (getL bs)) ∧ Below w.heap.size w w' := by
  obtain ⟨a, cap, rfl, h1, h2, h, _⟩ := hv
  unfold maxLen at h2
  refine get_at a _ cap bs rfl (by omega) w ?_ hr
  rcases h with rfl | h
  · exact .inl rfl
  · exact .inr h
end Go.Proofs.Ytnngebnnehokdaa
