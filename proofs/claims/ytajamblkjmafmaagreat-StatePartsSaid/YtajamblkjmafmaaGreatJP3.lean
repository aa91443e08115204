/- The ground of the proofs, part 3. -/
import Derived.Test.YtajamblkjmafmaaGreatJP2
import Derived.RangeFuncNested
import Derived.RangeFuncBound
import Derived.RangeFuncCalls
import Derived.RangeFuncLeaves
import Derived.Shelf.Abstract
import Derived.Shelf.RegionOpen
import Derived.WalkKit
import Derived.OwnWalkIn
import Derived.TacticsInMore
import Derived.LoopNIn
import Derived.LoopIn
import Derived.Test.YtajamblkjmafmaaGreatProg
import Derived.RangeFuncBox
import Derived.Lib.Hide
import Derived.LoopTactic
import Derived.Laws.StructEq
import Derived.Maps.AppendAt
import Derived.Lib.AppendZerosOnto
/- The range function of package le has its contract: each place below the bound comes, with its shift, in order. -/
namespace Go.Proofs.YtajamblkjmafmaaGreat
open Go.RowKit Go.Shelf
set_option linter.unusedVariables false

attribute [local go_sem] Oper.semAt_some

/-- What has come when k rounds are over: the first k places. -/
def upto (m k : Nat) : List (Fin m) := (List.finRange m).take k
theorem upto_succ (m k : Nat) (h : k < m) : upto m (k + 1) = upto m k ++ [⟨k, h⟩] := by
  unfold upto
  rw [List.take_succ_eq_append_getElem (by simpa using h)]
  simp
theorem upto_length (m k : Nat) (h : k ≤ m) : (upto m k).length = k := by simp [upto, h]
theorem upto_all (m : Nat) : upto m m = List.finRange m := by
  unfold upto; rw [List.take_of_length_le (by simp)]

def encP {m : Nat} (x : Fin m) : Array Value := #[.int .i64 (x.1 : Int), .int .u64 (8 * (x.1 : Int))]

set_option maxRecDepth 100000 in
set_option maxHeartbeats 1000000 in
theorem places_in (F : Fence) (n : Nat) (hf : F.fn 60) (hro : F.round = none) (size : Int) (w : World) :
    CallsIn F n Tryz.prog 60 #[.int .i64 size] w fun e w' => e = .returned (.func (.func 99) #[] #[.pointer (some ⟨w.heap.size, 0, none⟩)]) ∧ w' = w.alloc (.cells #[.int .i64 size] 3) := by
  refine callsIn_of_wp Tryz.func60 rfl hf ?_ hro
  simp only [Tryz.ntmps60, List.size_toArray, List.length_cons, List.length_nil, Nat.reduceAdd, Nat.reduceSub, Array.replicate_succ, Array.replicate_zero, List.push_toArray, List.append_toArray, List.nil_append, List.cons_append]
  gi_wp2
  go_ret
  exact ⟨rfl, rfl⟩

set_option maxRecDepth 100000 in
set_option maxHeartbeats 2000000 in
theorem places1_in (F : Fence) (n : Nat) (hf : F.fn 99) (hro : F.round = none) (hn : 1 ≤ n) (l Bs m : Nat) (size : Int) (hm : (size ≤ 8 ∧ m = size.toNat) ∨ (8 < size ∧ m = 8)) (J Jx : List (Fin m) → World → Prop)
    (hY : ∀ pre x W, J pre W → pre.length < m → YieldAt F (n - 1) Tryz.prog l (encP x) W fun e W' =>
      (e = .returned (.bool true) ∧ J (pre ++ [x]) W' ∧ True) ∨ (e = .returned (.bool false) ∧ Jx (pre ++ [x]) W'))
    (W : World) (hBs : W.cell? ⟨Bs, 0, none⟩ = some (.int .i64 size)) (h0 : J [] W) :
    CallsIn F n Tryz.prog 99 #[.func (.yield l) #[] #[], .pointer (some ⟨Bs, 0, none⟩)] W fun e W' => (∃ v, e = .returned v) ∧
      ((∃ ys, ys = List.finRange m ∧ J ys W') ∨ (∃ pre, (∃ k, k ≤ m ∧ pre = upto m k) ∧ Jx pre W')) := by
  refine callsIn_of_wp Tryz.func99 rfl hf ?_ hro
  simp only [Tryz.ntmps99, List.size_toArray, List.length_cons, List.length_nil, Nat.reduceAdd, Nat.reduceSub, Array.replicate_succ, Array.replicate_zero, List.push_toArray, List.append_toArray, List.nil_append, List.cons_append]
  gi_wp2
  all_goals
    gi_loopw [6] (fun i wr => ∃ k : Nat, k ≤ m ∧ i = .int .i64 k ∧ J (upto m k) wr) (fun i _ => m - (intOf i).toNat)
    case atStart => exact ⟨0, Nat.zero_le _, rfl, h0⟩
    case round =>
      obtain ⟨k, hk, rfl, hJs⟩ := hrel
      by_cases hlt : k < m
      · obtain ⟨fn, tmps, assign, body, hy, hR⟩ := hY _ ⟨k, hlt⟩ wr hJs (by rw [upto_length m k hk]; exact hlt)
        dsimp only [encP] at hy
        have hb1 : (k : Int) < size := by omega
        have hb2 : (k : Int) < 8 := by omega
        gi_wp2
        refine hR.mono ?_
        rintro e W3 (⟨rfl, hJ3, hk3⟩ | ⟨rfl, hJx3⟩)
        · gi_wp2
          go_roundw
          case rel => exact ⟨k + 1, by omega, by simp, by rw [upto_succ m k hlt]; exact hJ3⟩
          case measure => simp [intOf]; omega
        · gi_wp2
          refine bodyPost_ret (results_none rfl _ _ _) rfl ?_
          exact ⟨⟨_, rfl⟩, .inr ⟨_, ⟨k + 1, by omega, (upto_succ m k hlt).symm⟩, hJx3⟩⟩
      · obtain rfl : k = m := by omega
        gi_wp2
        go_end0
        exact ⟨⟨_, rfl⟩, .inl ⟨_, rfl, by rw [← upto_all]; exact hJs⟩⟩

/-- What a loop over the places may rely on: nothing but its own. -/
def AnyKp (_ _ : World) : Prop := True

set_option maxRecDepth 100000 in
theorem places_stops (F : Fence) (n : Nat) (hf : F.fn 99) (hro : F.round = none) (hn : 1 ≤ n) (Bs : Nat) (size : Int) (w : World) (hBs : Bs < w.heap.size)
    (hc : w.cell? ⟨Bs, 0, none⟩ = some (.int .i64 size)) :
    SeqStopsK F n Tryz.prog 99 #[.pointer (some ⟨Bs, 0, none⟩)] (encP (m := nPlaces size)) AnyKp (fun ys => ys = List.finRange (nPlaces size)) (fun _ => True) (nPlaces size) w := fun l J Jx W hW _ _ hY h0 =>
  (places1_in F n hf hro hn l Bs (nPlaces size) size (nPlaces_cases size) J Jx
    (fun pre x W hJ hl => (hY pre x W hJ hl).mono fun e W' h => h.imp (fun ⟨a, b, _⟩ => ⟨a, b, trivial⟩) id)
    W ((hW.cell (p := ⟨Bs, 0, none⟩) hBs).trans hc) h0).mono fun e W' ⟨he, h⟩ => ⟨he, h.imp id fun ⟨pre, _, hj⟩ => ⟨pre, trivial, hj⟩⟩

theorem anyKp_t {A B C : World} (_ : AnyKp A B) (_ : AnyKp B C) : AnyKp A C := trivial
end Go.Proofs.YtajamblkjmafmaaGreat

/- The number that bytes stand for, as the package le reads it. -/
namespace Go.Proofs.YtajamblkjmafmaaGreat
open Go.RowKit Go.Shelf
set_option linter.unusedVariables false

attribute [local go_sem] Oper.semAt_some

set_option maxRecDepth 100000 in
set_option maxHeartbeats 2000000 in
theorem get_at (a : Option Addr) (len cap : Nat) (bs : List Int) (hlen : bs.length = len) (hcap : len ≤ 9223372036854775807) (w : World)
    (hA : len = 0 ∨ ∃ b off, a = some ⟨b, off, none⟩ ∧ b < w.heap.size ∧ ∀ j, j < len → w.cell? ⟨b, off + j, none⟩ = some (.int .u8 (bs[j]?.getD 0))) (hr : IsBytes bs) :
    Calls Tryz.prog 116 #[.slice a len cap] w fun e w' => e = .returned (.int .u64 (getL bs)) ∧ Below w.heap.size w w' := by
  refine (callsIn_wide (n := 3)).1 ?_
  refine callsIn_of_wp_marks Tryz.func116 rfl trivial ?_ rfl
  simp only [Tryz.ntmps116, List.size_toArray, List.length_cons, List.length_nil, Nat.reduceAdd, Nat.reduceSub, Array.replicate_succ, Array.replicate_zero, List.push_toArray, List.append_toArray, List.nil_append, List.cons_append]
  have hr := Lib.hid hr
  have hA := Lib.hid hA
  gi_wp2_with (refine ⟨trivial, ?_⟩; gi_at_call 60; refine (places_in _ _ trivial rfl _ _).mono ?_; rintro e w' ⟨rfl, rfl⟩)
  have bB := Boxed.new w 31 (.slice a len cap)
  have bN := Boxed.new (w.alloc (.cells #[.slice a len cap] 31)) 63 (.int .u64 0)
  rw [World.size_alloc] at bN
  have bP := Boxed.new ((w.alloc (.cells #[.slice a len cap] 31)).alloc (.cells #[.int .u64 0] 63)) 3 (.int .i64 (len : Int))
  rw [World.size_alloc, World.size_alloc] at bP
  have hB0 : Below w.heap.size w (((w.alloc (.cells #[.slice a len cap] 31)).alloc (.cells #[.int .u64 0] 63)).alloc (.cells #[.int .i64 (len : Int)] 3)) := (((Below.refl _ w).alloc (Nat.le_refl _) _).alloc (by simp) _).alloc (by simp; omega) _
  refine wpIn_rangeFunc_ownF (n := 3) rfl (by omega) (gf := 99) (lb := #[.pointer (some ⟨w.heap.size + 1 + 1, 0, none⟩)]) rfl trivial (enters_of Tryz.func99 (by kernel_rfl) rfl)
    (places_stops Fence.wide 2 trivial rfl (by omega) (w.heap.size + 1 + 1) (len : Int) _ (by simp) bP.cell) anyKp_t (fun _ _ _ _ _ _ _ _ => trivial) (Below.refl _ _) (fun _ => rfl)
    (fun pre W => (∃ v : Int, Boxed W (w.heap.size + 1) 63 (.int .u64 v) ∧ 0 ≤ v ∧ v < 18446744073709551616 ∧ (pre <+: List.finRange (nPlaces (len : Int)) → v = getN bs pre.length)) ∧ Boxed W w.heap.size 31 (.slice a len cap) ∧ Below w.heap.size w W)
    (fun _ _ _ => False)
    ?hI (fun _ _ _ _ _ h _ _ => h.elim) ?h0 ?a1 ?assign ?body ?done ?stop
  case hI =>
    intro s W W' row ⟨⟨v, hv, h1, h2, h3⟩, hb, hB⟩ hg hrow
    have hr' : ∀ r, row = some r → ∃ o : Obj, W.heap[r]? = some o ∧ o.isCells = false := fun r e => (hrow r e).2
    exact ⟨⟨v, boxed_own _ _ (fun _ : Unit => _) () W W' row hv hg hr', h1, h2, h3⟩, boxed_own _ _ (fun _ : Unit => _) () W W' row hb hg hr', ownFrom_below (β := Unit) (Nat.le_refl _) (by simp; omega) () W W' row hB hg hrow⟩
  case h0 => exact ⟨⟨0, bN.alloc _, by omega, by omega, fun _ => rfl⟩, (bB.alloc _).alloc _, hB0⟩
  case assign =>
    intro l x W K hK
    dsimp only [encP]
    gi_wp2
    exact hK
  case body =>
    rintro l pre x W ⟨⟨v, hv, hv0, hv1, hvp⟩, hbx, hB⟩ hlen
    have c1 := hv.cell
    have f1 := hv.frozen
    have hx : x.1 < len := by have := x.2; unfold nPlaces at this; split at this <;> omega
    have hx8 : x.1 < 8 := by have := x.2; have := nPlaces_le (len : Int); omega
    obtain ⟨b, off, rfl, hb, hc⟩ : ∃ b off, a = some ⟨b, off, none⟩ ∧ b < w.heap.size ∧ ∀ j, j < len → w.cell? ⟨b, off + j, none⟩ = some (.int .u8 (bs[j]?.getD 0)) := by
      rcases hA.out with h | h
      · omega
      · exact h
    have c2 := hbx.cell
    have c3 : W.cell? ⟨b, off + x.1, none⟩ = some (.int .u8 (bs[x.1]?.getD 0)) := (hB.cell (p := ⟨b, off + x.1, none⟩) hb).trans (hc x.1 hx)
    have hx' : ((x.1 : Nat) : Int) < (len : Int) := by omega
    obtain ⟨hr1, hr2⟩ := hr.out x.1
    obtain ⟨y, hy⟩ : ∃ y, bs[x.1]?.getD 0 = y := ⟨_, rfl⟩
    rw [hy] at c3 hr1 hr2
    have HP := Lib.hid hvp
    have HY := Lib.hid hy
    clear hc hvp hy
    have hmx : Tryz.prog.follows .mixedOrders = true := by kernel_rfl
    gi_wp2
    refine region_round 9 (letsOut_inBlock letsOut_own) (by kernel_rfl) (by kernel_rfl) (by kernel_rfl) ?_
    simp only [List.take_succ_cons, List.take_zero, List.drop_succ_cons, List.drop_zero]
    repeat still_step
    try refine wpStill_nil ?_
    go_wp2
    have bd := orStep_bd v y x.1 hx8 hv0 hv1 hr1 hr2
    refine ⟨(KeepsOthers.setCell _ _ _).trans (KeepsOthers.drew _), trivial, ⟨orStep v y x.1, hv.set _, bd.1, bd.2, fun hp => ?_⟩, hbx.other (by omega) _, (hB.setCell (p := ⟨w.heap.size + 1, 0, none⟩) (by simp) _).drew⟩
    obtain ⟨hp1, hp2⟩ := prefix_snoc hp
    rw [HP.out hp1, ← HY.out, hp2]
    rw [hp2] at hx8
    rw [getN_step bs hr.out pre.length hx8]
    simp
  case done =>
    rintro D xs W hD rfl ⟨⟨v, hv, _, _, hvp⟩, hbx, hB⟩ hK
    have c1 := hv.cell
    have e := hvp (List.prefix_refl _)
    have He := Lib.hid e
    clear e hvp
    gi_wp2
    refine ⟨by simp, .inl ⟨_, _, rfl, run_takeDeferred hK, ?_⟩⟩
    refine ⟨_, results_tmp rfl _ _ _, ?_, hB.trans (belowK_b (w := w) (Nat.le_refl _) W D _ _ (by simp at hD; omega) hK rfl rfl)⟩
    rw [He.out]
    simp [getL, hlen]
  case stop =>
    rintro D c pre W _ _ h _
    exact h.elim

end Go.Proofs.YtajamblkjmafmaaGreat

/- The bytes of a number, as the package le writes them. -/
namespace Go.Proofs.YtajamblkjmafmaaGreat
open Go.RowKit Go.Shelf
set_option linter.unusedVariables false

attribute [local go_sem] Oper.semAt_some

set_option maxRecDepth 100000 in
set_option maxHeartbeats 2000000 in
theorem put_some (n : Int) (size : Nat) (w : World) (hs1 : 1 ≤ size) (hs2 : size ≤ 16) (hn0 : 0 ≤ n) (hn1 : n < 18446744073709551616) :
    Calls Tryz.prog 25 #[.int .u64 n, .int .i64 (size : Int)] w fun e w' => ∃ v, e = .returned v ∧ w'.ownsRow w.heap.size 5 1 v size ((putL n size).map (Value.int .u8)) ∧ Below w.heap.size w w' := by
  refine (callsIn_wide (n := 3)).1 ?_
  refine callsIn_of_wp_marks Tryz.func25 rfl trivial ?_ rfl
  simp only [Tryz.ntmps25, List.size_toArray, List.length_cons, List.length_nil, Nat.reduceAdd, Nat.reduceSub, Array.replicate_succ, Array.replicate_zero, List.push_toArray, List.append_toArray, List.nil_append, List.cons_append]
  obtain ⟨i0, hi, hz0, hz1, hz2⟩ := info_parts info_u8
  have g1 : ¬ ((size : Int) < 1) := by omega
  have g2 : ¬ (16 < (size : Int)) := by omega
  have g3 : decide ((size : Int) < 1) = false := by simpa using g1
  have g4 : decide (16 < (size : Int)) = false := by simpa using g2
  gi_wp2_with (first | (gi_at_make; refine wpListIn_make_full _ rfl _ _ 31 rfl w.heap.size 5 i0 (.int .u8 0) 1 Tryz.underlying31 hi hz0 hz1 .i64 .i64 _ _ size rfl rfl rfl rfl (by rw [hz2]; omega) (by unfold maxLen; omega) (by simp) ?_; intro w1 hown1 hgrow1) | (refine ⟨trivial, ?_⟩; gi_at_call 60; refine (places_in _ _ trivial rfl _ _).mono ?_; rintro e w' ⟨rfl, rfl⟩))
  have hz := hown1.lt _ rfl
  have hown2 : w1.ownsRow w.heap.size 5 1 (.slice (some ⟨w.heap.size + 1, 0, none⟩) size size) size (putF n size (m := nPlaces (size : Int)) []) := by
    rw [putF_nil]
    rw [show (Value.int IntKind.u8 0).cells = #[.int .u8 0] from rfl, toList_madeCells_one, Nat.mul_one, World.size_alloc] at hown1
    exact hown1
  rw [World.size_alloc] at hz
  have bN1 : Boxed w1 w.heap.size 63 (.int .u64 n) := (Boxed.new w 63 (.int .u64 n)).kept hgrow1 (by simp)
  have bS := Boxed.new w1 31 (.slice (some ⟨w.heap.size + 1, 0, none⟩) size size)
  have bP := Boxed.new (w1.alloc (.cells #[.slice (some ⟨w.heap.size + 1, 0, none⟩) size size] 31)) 3 (.int .i64 (size : Int))
  rw [World.size_alloc] at bP
  have hB1 : Below w.heap.size w w1 := ((Below.refl _ w).alloc (Nat.le_refl _) _).grown hgrow1 (by simp) (fun k e => by cases e)
  have hB0 : Below w.heap.size w ((w1.alloc (.cells #[.slice (some ⟨w.heap.size + 1, 0, none⟩) size size] 31)).alloc (.cells #[.int .i64 (size : Int)] 3)) := (hB1.alloc hB1.size _).alloc (by have := hB1.size; simp; omega) _
  clear hown1 hgrow1 g3 g4
  refine wpIn_rangeFunc_ownF (n := 3) rfl (by omega) (gf := 99) (lb := #[.pointer (some ⟨w1.heap.size + 1, 0, none⟩)]) rfl trivial (enters_of Tryz.func99 (by kernel_rfl) rfl)
    (places_stops Fence.wide 2 trivial rfl (by omega) (w1.heap.size + 1) (size : Int) _ (by simp) bP.cell) anyKp_t (fun _ _ _ _ _ _ _ _ => trivial) (Below.refl _ _) (fun _ => rfl)
    (fun pre W => (W.ownsRow w.heap.size 5 1 (.slice (some ⟨w.heap.size + 1, 0, none⟩) size size) size (putF n size pre) ∧ Boxed W w.heap.size 63 (.int .u64 n) ∧ Boxed W w1.heap.size 31 (.slice (some ⟨w.heap.size + 1, 0, none⟩) size size)) ∧ Below w.heap.size w W)
    (fun _ _ _ => False)
    (OwnFrom.and (OwnFrom.and ((ownsRow_own _ _ _ _ (fun _ => size) (fun pre => putF n size pre)).from _) (OwnFrom.and ((boxed_own _ _ (fun _ => _)).from _) ((boxed_own _ _ (fun _ => _)).from _))) (ownFrom_below (Nat.le_refl _) (by have := hB1.size; simp; omega)))
    (fun _ _ _ _ _ h _ _ => h.elim) ?h0 ?a1 ?assign ?body ?done ?stop
  case h0 => exact ⟨⟨(hown2.alloc _).alloc _, (bN1.alloc _).alloc _, bS.alloc _⟩, hB0⟩
  case assign =>
    intro l x W K hK
    dsimp only [encP]
    gi_wp2
    exact hK
  case body =>
    rintro l pre x W ⟨⟨hrow, hbn, hbs⟩, hB⟩ hlen
    have c1 := hbn.cell
    have c2 := hbs.cell
    have hx : x.1 < size := by have := x.2; unfold nPlaces at this; split at this <;> omega
    have hx8 : x.1 < 8 := by have := x.2; have := nPlaces_le (size : Int); omega
    have hx' : ((x.1 : Nat) : Int) < (size : Int) := by omega
    obtain ⟨z, c3⟩ : ∃ z, W.cell? ⟨w.heap.size + 1, x.1, none⟩ = some (.int .u8 z) := by
      rw [hrow.cellAt x.1 (by omega)]
      unfold putF
      simp [hx]
    have f3 := hrow.frozenAt x.1
    gi_wp2
    have hst := hrow.stored x.1 (.int .u8 (n / 2 ^ (8 * x.1) % 256))
    refine ⟨KeepsOthers.setCell _ _ _, trivial, ⟨?_, hbn.kept hst.2 (by simp), hbs.kept hst.2 (by have := hz.2; simp; omega)⟩, hB.setCell (p := ⟨w.heap.size + 1, x.1, none⟩) (by simp) _⟩
    rw [putF_snoc]
    exact hst.1
  case done =>
    rintro D xs W hD rfl ⟨⟨hrow, hbn, hbs⟩, hB⟩ hK
    have c2 := hbs.cell
    rw [putF_all] at hrow
    gi_wp2
    refine ⟨by simp, .inl ⟨_, _, rfl, run_takeDeferred hK, ?_⟩⟩
    refine ⟨_, results_tmp rfl _ _ _, _, rfl, ownsRow_putObj hrow _ hK rfl, hB.trans (belowK_b (w := w) (Nat.le_refl _) W D _ _ (by have := hB1.size; simp at hD; omega) hK rfl rfl)⟩
  case stop =>
    rintro D c pre W _ _ h _
    exact h.elim

end Go.Proofs.YtajamblkjmafmaaGreat

/- The document's marked sectors in memory: read, written, made at once. -/
namespace Go.Proofs.YtajamblkjmafmaaGreat
open Go.RowKit
set_option linter.unusedVariables false

def zcs : List Value := .int .u8 0 :: .int .u32 0 :: .int .i64 0 :: u8s (List.replicate 48 0)
end Go.Proofs.YtajamblkjmafmaaGreat

/- Bodies: arrays of 48 bytes, and slices of them; pieces of bytes. -/
namespace Go.Proofs.YtajamblkjmafmaaGreat
open Go.RowKit
set_option linter.unusedVariables false

def z48 : List Value := u8s (List.replicate 48 0)
def piece (bs : List Int) (k : Nat) : List Int := (bs.drop (48 * k)).take 48 ++ List.replicate (48 - ((bs.drop (48 * k)).take 48).length) 0
def rows (bs : List Int) (k : Nat) : List (List Value) := (List.range k).map fun i => u8s (piece bs i)
end Go.Proofs.YtajamblkjmafmaaGreat

/- The developers' marked sectors in memory; what their page promises. -/
namespace Go.Proofs.YtajamblkjmafmaaGreat
open Go.RowKit
set_option linter.unusedVariables false

end Go.Proofs.YtajamblkjmafmaaGreat

/- The reader of the package le: what its methods come to. -/
namespace Go.Proofs.YtajamblkjmafmaaGreat
open Go.RowKit Go.Shelf
set_option linter.unusedVariables false

/-- The reader at block rb has the bytes bs left; it and they lie below block N. -/
def Rdr (w : World) (N rb : Nat) (bs : List Int) : Prop :=
  ∃ b off cap, Boxed w rb 129 (.slice (some ⟨b, off, none⟩) bs.length cap) ∧ bs.length ≤ cap ∧ cap ≤ maxLen ∧ b < N ∧
    (∀ j, j < bs.length → w.cell? ⟨b, off + j, none⟩ = some (.int .u8 (bs[j]?.getD 0))) ∧ rb < N ∧ N ≤ w.heap.size

set_option maxRecDepth 100000 in
set_option maxHeartbeats 1000000 in
theorem next_at (rb b off len cap k : Nat) (w : World) (hb : Boxed w rb 129 (.slice (some ⟨b, off, none⟩) len cap)) (hk : k ≤ len) (hlen : len ≤ cap) (hcap : cap ≤ maxLen) :
    Calls Tryz.prog 115 #[.pointer (some ⟨rb, 0, none⟩), .int .i64 (k : Int)] w fun e w' =>
      e = .returned (.tuple #[.slice (some ⟨b, off, none⟩) k cap, .bool true]) ∧ w' = w.setCell ⟨rb, 0, none⟩ (.slice (some ⟨b, if k = cap then off else off + k, none⟩) (len - k) (cap - k)) := by
  unfold maxLen at hcap
  have c1 := hb.cell
  have f1 := hb.frozen
  have g1 : decide ((k : Int) < 0) = false := by simp
  have g2 : decide (len < k) = false := by simp; omega
  go_enter Tryz.func115, Tryz.ntmps115
  go_wp2
  all_goals
    go_ret2
    exact ⟨rfl, rfl⟩

set_option maxRecDepth 100000 in
set_option maxHeartbeats 1000000 in
theorem newReader_at (a : Option Addr) (len cap : Nat) (bs : List Int) (hlen : bs.length = len) (hcap : len ≤ 140737488351232) (w : World) (hA : Lies w a len bs) :
    Calls Tryz.prog 65 #[.slice a len cap] w fun e w' => ∃ rb, e = .returned (.pointer (some ⟨rb, 0, none⟩)) ∧ w.heap.size < rb ∧ Rdr w' w'.heap.size rb bs ∧ Below w.heap.size w w' := by
  obtain ⟨i0, hi, hz0, hz1, hz2⟩ := info_parts info_u8
  have hA := Lib.hid hA
  have HL := Lib.hid hlen
  clear hlen
  have HN := copy_len HL
  have H1 := copy_one (bs := bs)
  go_enter Tryz.func65, Tryz.ntmps65
  go_wp2_with (first | (at_make; refine wpList_make_full _ rfl _ _ 31 rfl w.heap.size 5 i0 (.int .u8 0) 1 Tryz.underlying31 hi hz0 hz1 .i64 .i64 _ _ len rfl rfl rfl rfl (by rw [hz2]; omega) (by unfold maxLen; omega) (by simp) ?_; intro w1 hown1 hgrow1; obtain ⟨HB, HR, HP⟩ := copy_facts HL hA hown1 hgrow1; clear hown1 hgrow1) | (with_reducible refine wpList_copy_splice rfl (.tmp 7) (.tmp 8) 31 31 rfl 5 Tryz.underlying31 size_u8 _ _ len len len cap rfl rfl w.heap.size 0 (List.replicate len (Value.int .u8 0)) 5 HR.out (bs.map (Value.int .u8)) HN.out HP.out (by rw [HN.out]; simp) H1.out w.heap.size w HB.out (Nat.le_refl _) ?_; intro w2 hg2 hB2))
  have hsz : w.heap.size < w2.heap.size := (Array.getElem?_eq_some_iff.1 hg2.out).1
  have hcells : ∀ j, j < bs.length → w2.cell? ⟨w.heap.size, 0 + j, none⟩ = some (.int .u8 (bs[j]?.getD 0)) := by
    intro j hj
    rw [cell_of_row _ _ _ _ _ _ hg2.out, splice_all _ _ (by rw [List.length_replicate, List.length_map, HL.out])]
    simp [hj]
  have HZ := Lib.hid hsz
  have HC := Lib.hid hcells
  clear hsz hcells
  go_ret
  refine ⟨_, rfl, HZ.out, ?_, hB2.alloc (Nat.le_of_lt HZ.out) _⟩
  have e := HL.out
  subst e
  exact ⟨w.heap.size, 0, _, Boxed.new _ _ _, Nat.le_refl _, by unfold maxLen; omega, by have := HZ.out; simp; omega, fun j hj => ((World.cell?_of_block (Below.heap_alloc w2 _ _ HZ.out)).trans (HC.out j hj)), by simp, Nat.le_refl _⟩

set_option maxRecDepth 100000 in
/-- **NewReader**: a reader of its own, with all bytes left. -/
theorem newReader_any (v : Value) (bs : List Int) (w : World) (hv : Sl .u8 w v bs) (hcap : bs.length ≤ 140737488351232) :
    Calls Tryz.prog 65 #[v] w fun e w' => ∃ rb, e = .returned (.pointer (some ⟨rb, 0, none⟩)) ∧ w.heap.size < rb ∧ Rdr w' w'.heap.size rb bs ∧ Below w.heap.size w w' := by
  obtain ⟨a, cap, rfl, hl, _⟩ := Lies.of_sl hv
  exact newReader_at a bs.length cap bs rfl hcap w hl

/-- Behind a read the reader has what was left, but for what was read; what was read lies where it lay. -/
theorem Rdr.next {w : World} {N rb b off cap : Nat} {bs : List Int} {k : Nat} (hb : Boxed w rb 129 (.slice (some ⟨b, off, none⟩) bs.length cap)) (h1 : bs.length ≤ cap) (h2 : cap ≤ maxLen) (h3 : b < N)
    (h4 : ∀ j, j < bs.length → w.cell? ⟨b, off + j, none⟩ = some (.int .u8 (bs[j]?.getD 0))) (hk : k ≤ bs.length) (h5 : rb < N ∧ N ≤ w.heap.size) :
    (Rdr (w.setCell ⟨rb, 0, none⟩ (.slice (some ⟨b, if k = cap then off else off + k, none⟩) (bs.length - k) (cap - k))) N rb (bs.drop k)) ∧
    (∀ j, j < bs.length → (w.setCell ⟨rb, 0, none⟩ (.slice (some ⟨b, if k = cap then off else off + k, none⟩) (bs.length - k) (cap - k))).cell? ⟨b, off + j, none⟩ = some (.int .u8 (bs[j]?.getD 0))) ∧
    w.grownBy (w.setCell ⟨rb, 0, none⟩ (.slice (some ⟨b, if k = cap then off else off + k, none⟩) (bs.length - k) (cap - k))) (some rb) := by
  have hg := grownBy_setCell' w rb (.slice (some ⟨b, if k = cap then off else off + k, none⟩) (bs.length - k) (cap - k))
  have hcells : ∀ j, j < bs.length → (w.setCell ⟨rb, 0, none⟩ (.slice (some ⟨b, if k = cap then off else off + k, none⟩) (bs.length - k) (cap - k))).cell? ⟨b, off + j, none⟩ = some (.int .u8 (bs[j]?.getD 0)) := by
    intro j hj
    have hne : b ≠ rb := by
      rintro rfl
      have h5 := h4 j hj
      rw [cell_of_row _ _ _ _ _ _ hb] at h5
      by_cases e : off + j = 0
      · rw [e] at h5; simp at h5
      · rw [Array.getElem?_eq_none (by simp; omega)] at h5; cases h5
    exact (World.cell?_of_block (hg.block b (Nat.lt_of_lt_of_le h3 h5.2) (fun e => hne (by cases e; rfl)))).trans (h4 j hj)
  refine ⟨⟨b, if k = cap then off else off + k, cap - k, ?_, by rw [List.length_drop]; omega, by omega, h3, ?_, h5.1, Nat.le_trans h5.2 hg.size⟩, hcells, hg⟩
  · rw [List.length_drop]; exact hb.set _
  · intro j hj
    rw [List.length_drop] at hj
    have e : (if k = cap then off else off + k) + j = off + (k + j) := by rw [if_neg (by omega)]; omega
    rw [e, drop_get]
    exact hcells (k + j) (by omega)

theorem Rdr.kept {w w' : World} {N rb : Nat} {bs : List Int} {row : Option Nat} (h : Rdr w N rb bs) (hg : w.grownBy w' row) (hr : ∀ r, row = some r → N ≤ r) : Rdr w' N rb bs := by
  obtain ⟨b, off, cap, h0, h1, h2, h3, h4, h5, h6⟩ := h
  exact ⟨b, off, cap, h0.kept hg (fun e => by have := hr _ e.symm; omega), h1, h2, h3, fun j hj => (World.cell?_of_block (hg.block b (by omega) (fun e => by have := hr _ e.symm; omega))).trans (h4 j hj), h5, Nat.le_trans h6 hg.size⟩

theorem Rdr.below {w w' : World} {N rb : Nat} {bs : List Int} (h : Rdr w N rb bs) (hg : w.grownBy w' none) : Rdr w' N rb bs := h.kept hg (fun r e => by cases e)

set_option maxRecDepth 100000 in
set_option maxHeartbeats 1000000 in
/-- **Num**, of no more than is left. -/
theorem num_yes {N : Nat} (rb : Nat) (bs : List Int) (k : Nat) (w : World) (hr : Rdr w N rb bs) (hB : IsBytes bs) (hk : k ≤ bs.length) :
    Calls Tryz.prog 101 #[.pointer (some ⟨rb, 0, none⟩), .int .i64 (k : Int)] w fun e w' =>
      e = .returned (.tuple #[.int .u64 (getL (bs.take k)), .bool true]) ∧ Rdr w' N rb (bs.drop k) ∧ w.grownBy w' (some rb) := by
  obtain ⟨b, off, cap, h0, h1, h2, h3, h4, h5⟩ := hr
  obtain ⟨r1, r2, r3⟩ := Rdr.next h0 h1 h2 h3 h4 hk h5
  obtain ⟨W, hW⟩ : ∃ W, w.setCell ⟨rb, 0, none⟩ (.slice (some ⟨b, if k = cap then off else off + k, none⟩) (bs.length - k) (cap - k)) = W := ⟨_, rfl⟩
  have hl : Lies W (some ⟨b, off, none⟩) k (bs.take k) := by
    rw [← hW]
    exact .inr ⟨b, off, rfl, Nat.lt_of_lt_of_le h3 (Nat.le_trans h5.2 r3.size), fun j hj => by rw [take_get bs k j hj]; exact r2 j (by omega)⟩
  have hn : Calls Tryz.prog 115 #[.pointer (some ⟨rb, 0, none⟩), .int .i64 (k : Int)] w fun e w' => e = .returned (.tuple #[.slice (some ⟨b, off, none⟩) k cap, .bool true]) ∧ w' = W := by
    rw [← hW]; exact next_at rb b off bs.length cap k w h0 hk h1 h2
  rw [hW] at r1 r3
  have hg := get_at (some ⟨b, off, none⟩) k cap (bs.take k) (by rw [List.length_take]; omega) (by unfold maxLen at h2; omega) W hl (hB.take k)
  have HG := Lib.hid hg
  have HC := Lib.hid hn
  have R1 := Lib.hid r1
  have R3 := Lib.hid r3
  clear h0 h1 h2 h3 h4 h5 hk hB hl r1 r2 r3 hW hn hg
  go_enter Tryz.func101, Tryz.ntmps101
  go_wp2_with fail
  refine HC.out.mono ?_
  rintro e w' ⟨rfl, rfl⟩
  go_wp2_with fail
  refine HG.out.mono ?_
  rintro e w' ⟨rfl, hb⟩
  have HB := Lib.hid hb
  clear hb
  go_wp2
  go_ret2
  exact ⟨rfl, R1.out.below (grown_below HB.out none), grown_trans R3.out (grown_below HB.out _)⟩

set_option maxRecDepth 100000 in
set_option maxHeartbeats 1000000 in
/-- **Take**, of no more than is left: bytes of its own. -/
theorem take_yes {N : Nat} (rb : Nat) (bs : List Int) (k : Nat) (w : World) (hr : Rdr w N rb bs) (hk : k ≤ bs.length) (hcap : bs.length ≤ 140737488351232) :
    Calls Tryz.prog 102 #[.pointer (some ⟨rb, 0, none⟩), .int .i64 (k : Int)] w fun e w' =>
      ∃ g, e = .returned (.tuple #[.slice (some ⟨g, 0, none⟩) k k, .bool true]) ∧ w.heap.size ≤ g ∧ w'.heap[g]? = some (.cells ((bs.take k).map (Value.int .u8)).toArray 5 (0, 0)) ∧ Rdr w' N rb (bs.drop k) ∧ w.grownBy w' (some rb) := by
  obtain ⟨b, off, cap, h0, h1, h2, h3, h4, h5⟩ := hr
  obtain ⟨r1, r2, r3⟩ := Rdr.next h0 h1 h2 h3 h4 hk h5
  obtain ⟨W, hW⟩ : ∃ W, w.setCell ⟨rb, 0, none⟩ (.slice (some ⟨b, if k = cap then off else off + k, none⟩) (bs.length - k) (cap - k)) = W := ⟨_, rfl⟩
  have hl : Lies W (some ⟨b, off, none⟩) k (bs.take k) := by
    rw [← hW]
    exact .inr ⟨b, off, rfl, Nat.lt_of_lt_of_le h3 (Nat.le_trans h5.2 r3.size), fun j hj => by rw [take_get bs k j hj]; exact r2 j (by omega)⟩
  have hsz : W.heap.size = w.heap.size := by rw [← hW]; simp
  have hn : Calls Tryz.prog 115 #[.pointer (some ⟨rb, 0, none⟩), .int .i64 (k : Int)] w fun e w' => e = .returned (.tuple #[.slice (some ⟨b, off, none⟩) k cap, .bool true]) ∧ w' = W := by
    rw [← hW]; exact next_at rb b off bs.length cap k w h0 hk h1 h2
  rw [hW] at r1 r3
  obtain ⟨i0, hi, hz0, hz1, hz2⟩ := info_parts info_u8
  have HL0 : Hid ((bs.take k).length = k) := by show _ = _; rw [List.length_take]; omega
  have hA := Lib.hid hl
  have HN := copy_len HL0
  have H1 := copy_one (bs := bs.take k)
  have HC := Lib.hid hn
  have R1 := Lib.hid r1
  have R3 := Lib.hid r3
  have HS := Lib.hid hsz
  have hk1 : k ≤ 140737488351232 := by omega
  clear h0 h1 h2 h3 h4 h5 hk hl r1 r2 r3 hW hn hsz hcap
  go_enter Tryz.func102, Tryz.ntmps102
  go_wp2_with fail
  refine HC.out.mono ?_
  rintro e w' ⟨rfl, rfl⟩
  go_wp2_with (first | (at_make; refine wpList_make_full _ rfl _ _ 31 rfl w'.heap.size 5 i0 (.int .u8 0) 1 Tryz.underlying31 hi hz0 hz1 .i64 .i64 _ _ k rfl rfl rfl rfl (by rw [hz2]; omega) (by unfold maxLen; omega) (by simp) ?_; intro w1 hown1 hgrow1; obtain ⟨HB, HR, HP⟩ := copy_facts HL0 hA hown1 hgrow1; clear hown1 hgrow1) | (with_reducible refine wpList_copy_splice rfl (.tmp 19) (.tmp 20) 31 31 rfl 5 Tryz.underlying31 size_u8 _ _ k k k cap rfl rfl w'.heap.size 0 (List.replicate k (Value.int .u8 0)) 5 HR.out ((bs.take k).map (Value.int .u8)) HN.out HP.out (by rw [HN.out]; simp) H1.out w'.heap.size w' HB.out (Nat.le_refl _) ?_; intro w2 hg2 hB2))
  go_ret2
  have hB2' := hB2
  have e2 : splice (List.replicate k (Value.int .u8 0)) 0 ((bs.take k).map (Value.int .u8)) = (bs.take k).map (Value.int .u8) := splice_all _ _ (by rw [List.length_replicate, List.length_map, HL0.out])
  have h2 := hg2.out
  rw [e2] at h2
  exact ⟨_, rfl, Nat.le_of_eq HS.out.symm, by rw [← List.map_take]; exact h2, R1.out.below (grown_below hB2 none), grown_trans R3.out (grown_below hB2 _)⟩

/-- The reader is not a row of bytes. -/
theorem Rdr.not_row {w : World} {N rb : Nat} {bs : List Int} (h : Rdr w N rb bs) {base n : Nat} {v : Value} {xs : List Value} (hr : w.ownsRow base 5 1 v n xs) : v.ownBlock ≠ some rb := by
  obtain ⟨b, off, cap, h0, _⟩ := h
  exact (h0.not_row (by decide) hr).symm

end Go.Proofs.YtajamblkjmafmaaGreat

/- The developers' fields: what stands in a block where a marked sector has its parts. -/
namespace Go.Proofs.YtajamblkjmafmaaGreat
open Go.RowKit Go.Shelf
set_option linter.unusedVariables false
attribute [-go_sem] loadVar storeVar
theorem getL_one {y : Int} : getL [y] = y := by
  show getN [y] 1 = y
  simp [getN]

end Go.Proofs.YtajamblkjmafmaaGreat

/- The library's Grow and Concat at bytes. -/
namespace Go.Proofs.YtajamblkjmafmaaGreat
open Go.RowKit Go.Shelf
set_option linter.unusedVariables false

set_option maxRecDepth 100000 in
set_option maxHeartbeats 1600000 in
/-- **Grow** of the nil slice: room, and no bytes. -/
theorem grow_nil (n : Nat) (hn : n ≤ 1000000) (w : World) :
    Calls Tryz.prog 59 #[.slice none 0 0, .int .i64 (n : Int)] w fun e w' => ∃ v, e = .returned v ∧ w'.ownsRow w.heap.size 5 1 v 0 [] ∧ Below w.heap.size w w' := by
  obtain ⟨i0, hi, hz0, hz1, hz2⟩ := info_parts info_u8
  have g0 : ¬ ((n : Int) < 0) := by omega
  have g1 : decide ((n : Int) < 0) = false := by simp
  by_cases h : 0 < n
  · have g2 : decide ((n : Int) > 0) = true := by simp; omega
    have hr := fun ty => Lib.run_append_grow_zeros (P := Tryz.prog) w 31 3 ty 5 i0 (.int .u8 0) .i64 .i64 Tryz.underlying31 Tryz.underlying3 hi hz0 none 0 0 [] (run_firstCells_none w.drew i0.size 0 0 0) n h (by omega) (by omega) (by omega) (by rw [hz2]; omega)
      (by rw [hz2]; exact growslice_fits (by omega) (by omega))
    have hc1 := grownCap_ge w (0 + n) 0 5
    have hc2 := grownCap_le_maxLen w (0 + n) 0 5 (by unfold maxLen; omega)
    obtain ⟨G, hG⟩ : ∃ G, grownCap w (0 + n) 0 5 = G := ⟨_, rfl⟩
    rw [hG] at hr hc1 hc2
    obtain ⟨W, hW⟩ : ∃ W, w.drew.alloc (.cells (([] : List Value).toArray ++ Builtin.zeroCells (Value.int .u8 0).cells n ++ Builtin.zeroCells (Value.int .u8 0).cells (G - (0 + n))) 5) = W := ⟨_, rfl⟩
    rw [hW] at hr
    have HO : Hid (W.ownsRow w.heap.size 5 1 (.slice (some ⟨w.heap.size, 0, none⟩) 0 G) 0 []) := by
      refine ⟨by simp, .inr ⟨w.heap.size, G, _, rfl, Nat.le_refl _, by rw [← hW]; exact heap_alloc_new w.drew _, Nat.zero_le _, hc2, ?_, by simp⟩⟩
      simp [size_zeroCells, Value.cells]
      omega
    have HB : Hid (Below w.heap.size w W) := by rw [← hW]; exact ((Below.refl _ w).drew).alloc (Nat.le_refl _) _
    have HR := Lib.hid hr
    have g3 : G ≤ 9223372036854775807 := by unfold maxLen at hc2; omega
    clear hr hW hc2 hG hz0 hz1 hz2 hi
    go_enter Tryz.func59, Tryz.ntmps59
    go_wp2_with (at_builtin; refine Lib.wpList_append_run _ rfl _ _ _ _ rfl _ _ rfl rfl _ _ (HR.out _) ?_)
    go_ret
    exact ⟨_, rfl, HO.out, HB.out⟩
  · obtain rfl : n = 0 := by omega
    go_enter Tryz.func59, Tryz.ntmps59
    go_wp2
    go_ret
    exact ⟨_, rfl, World.ownsRow_nil _ _ _ _, Below.refl _ _⟩

/-- A slice of slices of bytes. -/
def Sls (w : World) (v : Value) (bss : List (List Int)) : Prop :=
  ∃ B cap, v = .slice (some ⟨B, 0, none⟩) bss.length cap ∧ bss.length ≤ cap ∧ cap ≤ maxLen ∧ B < w.heap.size ∧ ∀ k, k < bss.length → ∃ u, w.cell? ⟨B, k, none⟩ = some u ∧ Sl .u8 w u (bss[k]?.getD [])
theorem take_snoc_nil (bss : List (List Int)) {k : Nat} (h : k < bss.length) : bss.take (k + 1) = bss.take k ++ [bss[k]?.getD []] := by
  rw [List.take_succ_eq_append_getElem h, List.getElem?_eq_getElem h]
  rfl
theorem flat_snocB (bss : List (List Int)) {k : Nat} (h : k < bss.length) : (bss.take (k + 1)).flatten = (bss.take k).flatten ++ bss[k]?.getD [] := by
  rw [take_snoc_nil bss h]; simp
theorem flat_le (bss : List (List Int)) (k : Nat) : (bss.take k).flatten.length ≤ bss.flatten.length := by
  conv => rhs; rw [← List.take_append_drop k bss]
  rw [List.flatten_append, List.length_append]
  omega

set_option maxRecDepth 100000 in
set_option maxHeartbeats 1600000 in
/-- **Concat**. -/
theorem concat_any (v : Value) (bss : List (List Int)) (w : World) (hv : Sls w v bss) (hl : bss.flatten.length ≤ 1000000) :
    Calls Tryz.prog 24 #[v] w fun e w' => ∃ v, e = .returned v ∧ w'.ownsRow w.heap.size 5 1 v bss.flatten.length (u8s bss.flatten) ∧ Below w.heap.size w w' := by
  obtain ⟨B, cap, rfl, h1, h2, h3, h4⟩ := hv
  obtain ⟨n, hn⟩ : ∃ n, bss.length = n := ⟨_, rfl⟩
  have HN := Lib.hid hn
  have HL := Lib.hid hl
  rw [hn] at h1 h4 ⊢
  have H4 := Lib.hid h4
  have hm : (n : Int) ≤ 9223372036854775807 := by unfold maxLen at h2; omega
  clear hn hl h4 h2
  go_enter Tryz.func24, Tryz.ntmps24
  go_wp2_with fail
  go_loop [3, 11] (fun s i => ∃ k : Nat, k ≤ n ∧ i = .int .i64 k ∧ s = .int .i64 (((bss.take k).flatten.length : Nat) : Int)) (fun _ i => n - (intOf i).toNat)
  case atStart => exact ⟨0, Nat.zero_le _, rfl, rfl⟩
  case round =>
    obtain ⟨k, hk, rfl, rfl⟩ := hrel
    obtain ⟨m, hm0⟩ : ∃ m, (bss.take k).flatten.length = m := ⟨_, rfl⟩
    rw [hm0]
    by_cases hlt : k < n
    · have hlt' : decide ((k : Int) < (n : Int)) = true := by simp; omega
      obtain ⟨u, c0, ⟨a, cp, rfl, -⟩⟩ := H4.out k hlt
      obtain ⟨q, hq⟩ : ∃ q, (bss[k]?.getD []).length = q := ⟨_, rfl⟩
      rw [hq] at c0
      have hs : (bss.take (k + 1)).flatten.length = m + q := by rw [flat_snocB bss (by rw [HN.out]; exact hlt), List.length_append, hm0, hq]
      have hb := flat_le bss (k + 1)
      have hb2 := HL.out
      have g5 : (m : Int) + (q : Int) ≤ 1000000 := by omega
      have g6 : decide ((m : Int) + (q : Int) < 0) = false := by simp; omega
      have HS := Lib.hid hs
      clear hs hb hb2 hq hm0
      go_wp2_with fail
      go_round
      case rel => exact ⟨k + 1, by omega, by go_num, by rw [HS.out]; simp⟩
      case measure => simp [intOf]; omega
    · have hlt' : decide ((k : Int) < (n : Int)) = false := by simp; omega
      obtain rfl : k = n := by omega
      have hmb : m ≤ 1000000 := by rw [← hm0]; exact Nat.le_trans (flat_le bss k) HL.out
      clear hm0
      go_wp2_with fail
      go_at_call 59
      refine (grow_nil m hmb w).mono ?_
      rintro e w1 ⟨v1, rfl, hO, hB⟩
      have HO := Lib.hid hO
      have HB := Lib.hid hB
      clear hO hB
      go_wp2_with fail
      go_loopw [6, 27] (fun v i wr => ∃ j : Nat, j ≤ k ∧ i = .int .i64 j ∧ Hid (OwnB w wr v (bss.take j).flatten) ∧ Hid (Below w.heap.size w wr)) (fun _ i _ => k - (intOf i).toNat)
      case atStart => exact ⟨0, Nat.zero_le _, rfl, HO, HB⟩
      case round =>
        obtain ⟨j, hj, rfl, HO, HB⟩ := hrel
        by_cases hlt : j < k
        · have hlt' : decide ((j : Int) < (k : Int)) = true := by simp; omega
          obtain ⟨u, c0, hu⟩ := H4.out j hlt
          have c1 : wr.cell? ⟨B, j, none⟩ = some u := (HB.out.cell (p := ⟨B, j, none⟩) h3).trans c0
          obtain ⟨v5, x3, R3, O3, K3⟩ := HO.out.app HB.out (hu.below HB.out) (by
            rw [← List.length_append, ← flat_snocB bss (by rw [HN.out]; exact hlt)]
            exact Nat.le_trans (flat_le bss _) HL.out)
          clear c0 hu
          go_wp2_with (at_builtin; refine wpList_append_run (.tmp 31) (.tmp 32) 31 rfl rfl _ _ _ rfl rfl R3.out ?_)
          go_roundw
          case rel => exact ⟨j + 1, by omega, by go_num, by rw [flat_snocB bss (by rw [HN.out]; exact hlt)]; exact O3, K3⟩
          case measure => simp [intOf]; omega
        · have hlt' : decide ((j : Int) < (k : Int)) = false := by simp; omega
          obtain rfl : j = k := by omega
          have e1 : bss.take j = bss := List.take_of_length_le (by rw [HN.out]; exact Nat.le_refl _)
          rw [e1] at HO
          clear e1
          go_wp2_with fail
          go_ret
          exact ⟨_, rfl, HO.out, HB.out⟩
end Go.Proofs.YtajamblkjmafmaaGreat

/- The developers' Encode. -/
namespace Go.Proofs.YtajamblkjmafmaaGreat
open Go.RowKit Go.Shelf
set_option linter.unusedVariables false
attribute [-go_sem] loadVar storeVar
set_option maxRecDepth 100000 in
theorem build_sls (w : World) (a b c d : Option Addr) (la lb lc ld ca cb cc cd : Nat) :
    (Instr.buildSlice 86 4 #[(0, .slice a la ca), (1, .slice b lb cb), (2, .slice c lc cc), (3, .slice d ld cd)]).run Tryz.prog w = .ok (.slice (some ⟨w.heap.size, 0, none⟩) 4 4) (w.alloc (.cells #[.slice a la ca, .slice b lb cb, .slice c lc cc, .slice d ld cd] 31)) := by
  kernel_rfl
theorem putL_one {n : Int} (h0 : 0 ≤ n) (h1 : n < 256) : putL n 1 = [n] := by
  show [_] = _
  simp
  omega

end Go.Proofs.YtajamblkjmafmaaGreat

/- The developers' Count. -/
namespace Go.Proofs.YtajamblkjmafmaaGreat
open Go.RowKit
set_option linter.unusedVariables false

set_option maxRecDepth 100000 in
theorem pgCount (n : Int) (w : World) (h0 : -9223372036854775808 ≤ n) (h1 : n < 9223372036854775808) :
    Calls Tryz.prog 64 #[.int .i64 n] w fun e w' => e = .returned (.int .i64 (cnt n)) ∧ w' = w := by
  by_cases hn : n < 1
  · have hc : cnt n = 0 := if_pos hn
    rw [hc]
    go_enter Tryz.func64, Tryz.ntmps64
    go_wp2_with fail
    all_goals (go_ret; exact ⟨rfl, rfl⟩)
  · have hc : cnt n = (n - 1) / 48 + 1 := if_neg hn
    have hq : Int.tdiv (n - 1) 48 = (n - 1) / 48 := Int.tdiv_eq_ediv_of_nonneg (by omega)
    rw [hc]
    go_enter Tryz.func64, Tryz.ntmps64
    go_wp2_with fail
    all_goals (go_ret; exact ⟨rfl, rfl⟩)
end Go.Proofs.YtajamblkjmafmaaGreat

/- The document's geometry: bytes, Good, Of, Slot, Area. -/
namespace Go.Proofs.YtajamblkjmafmaaGreat
open Go.RowKit Go.Shelf
set_option linter.unusedVariables false

theorem loadVar_openG (t : TypeId) (h : t ≠ 23 ∧ t ≠ 71) (a : Addr) : loadVar t a = (do if ← isAgg t then pure (.agg (← loadCells a (← sizeOf t))) else load a) := rfl
theorem storeVar_openG (t : TypeId) (h : t ≠ 23 ∧ t ≠ 71) (a : Addr) (v : Value) : storeVar t a v = (do
    if v.cells.size ≠ (← sizeOf t) then stuck "storeVar: the value has not the size of the variable"
    storeCells a v.cells.toList) := rfl
attribute [-go_sem] loadVar storeVar
attribute [local go_sem] loadVar_openG storeVar_openG
def Geo.cs (g : Geo) : List Value := [.int .i64 g.b, .int .i64 g.s, .int .i64 g.y, .int .i64 g.a, .int .i64 g.r]
set_option maxRecDepth 100000 in
theorem load_geo {x : World} {B : Nat} {t : TypeId} {g : Geo} (h : RowC x B t g.cs) : (loadVar 23 ⟨B, 0, none⟩).run Tryz.prog x = .ok (.agg g.v) x :=
  run_loadVar_mid x B 0 _ g.cs _ h.range Tryz.underlying23 rfl (by kernel_rfl)
def szL (a b c d e f h i : Int) : List Value := [.int .i64 a, .int .i64 b, .int .i64 c, .int .i64 d, .int .i64 e, .int .i64 f, .int .i64 h, .int .i64 i]
section
set_option maxRecDepth 100000
set_option maxHeartbeats 4000000
set_option maxRecDepth 100000 in
theorem refBts (g : Geo) (hs : g.shape) (w : World) : Calls Tryz.prog 74 #[.agg g.v] w fun e w' => e = .returned (.int .i64 g.bts) ∧ Below w.heap.size w w' := by
  obtain ⟨b1, b2, b3, b4, b5, b6⟩ := Geo.bounds hs
  have HBT : Hid (g.bts = 10 + g.s * g.y + g.b + 8 * (4 + (g.b + 7) / 8 + g.b)) := rfl
  obtain ⟨W, hW⟩ : ∃ W, w.alloc (.cells g.v 23) = W := ⟨_, rfl⟩
  have r : RowC W w.heap.size 23 g.cs := by rw [← hW]; exact RowC.new w _ _
  have HB : Hid (Below w.heap.size w W) := by show Below _ _ _; rw [← hW]; exact below_new w _
  have c0 := r.cell 0 _ rfl
  have c1 := r.cell 1 _ rfl
  have c2 := r.cell 2 _ rfl
  obtain ⟨h1, h2, h3, h4, h5, h6, h7, h8⟩ := hs
  have m1 : 1 ≤ g.s * g.y := b1
  have m2 : g.s * g.y ≤ 32 := b2
  obtain ⟨b, hb⟩ : ∃ n, g.b = n := ⟨_, rfl⟩
  obtain ⟨s, hs⟩ : ∃ n, g.s = n := ⟨_, rfl⟩
  obtain ⟨y, hy⟩ : ∃ n, g.y = n := ⟨_, rfl⟩
  obtain ⟨m, hm⟩ : ∃ n, s * y = n := ⟨_, rfl⟩
  obtain ⟨k, hk⟩ : ∃ n, (b + 7).tdiv 8 = n := ⟨_, rfl⟩
  rw [hb] at c0 h1 h2 HBT
  rw [hs, hy] at m1 m2 HBT
  rw [hs] at c1 h3 h4
  rw [hy] at c2 h5 h6
  rw [hm] at m1 m2 HBT
  have hk2 : (b + 7) / 8 = k := by rw [← hk, Int.tdiv_eq_ediv_of_nonneg (by omega)]
  have hk3 : 1 ≤ k ∧ k ≤ 8 := by omega
  have HK2 := Lib.hid hk2
  obtain ⟨k1, k2⟩ := hk3
  clear r b1 b2 b3 b4 b5 b6 h7 h8 hb hs hy hk2
  go_enter Tryz.func74, Tryz.ntmps74
  go_wp2_with fail
  go_ret
  refine ⟨?_, HB.out⟩
  rw [HBT.out, HK2.out]
  first
    | rfl
    | exact congrArg (fun x => Ending.returned (Value.int .i64 x)) (by omega)
set_option maxRecDepth 100000 in
theorem refGood7 (g : Geo) (w : World) : Calls Tryz.prog 35 #[.agg g.v] w fun e w' => e = .returned (.bool (decide g.good)) ∧ Below w.heap.size w w' := by
  obtain ⟨W, hW⟩ : ∃ W, w.alloc (.cells g.v 23) = W := ⟨_, rfl⟩
  have r : RowC W w.heap.size 23 g.cs := by rw [← hW]; exact RowC.new w _ _
  have HB : Hid (Below w.heap.size w W) := by show Below _ _ _; rw [← hW]; exact below_new w _
  obtain ⟨B, hB⟩ : ∃ b, w.heap.size = b := ⟨_, rfl⟩
  rw [hB] at r
  have LG : ∀ x : Ext W, (loadVar 23 ⟨B, 0, none⟩).run Tryz.prog x.1 = .ok (.agg g.v) x.1 := fun x => load_geo (r.below x.2)
  have c4 : ∀ x : Ext W, x.1.cell? ⟨B, 4, none⟩ = some (.int .i64 g.r) := fun x => (r.below x.2).cell 4 _ rfl
  obtain ⟨z, hz⟩ : ∃ z, decide g.shape = z := ⟨_, rfl⟩
  have C1 : Hid (∀ x : Ext W, Calls Tryz.prog 72 #[.agg g.v] x.1 fun e w'' => e = .returned (.bool z) ∧ ∃ y : Ext W, w'' = y.1) := fun x => calls_ext x (by have := refShape g x.1; rwa [hz] at this)
  cases z with
  | false =>
    have hg : Hid (decide g.good = false) := decide_eq_false (fun h => of_decide_eq_false hz h.1)
    clear r hz
    go_enter Tryz.func35, Tryz.ntmps35
    go_wp2_with fail
    refine region_ext (by kernel_rfl) (by kernel_rfl) ?_
    repeat (go_big_quiet_step (with_reducible (first | exact C1.out _)))
    refine wpQuiet_nil ?_
    intro x
    have HX : Hid (Below w.heap.size w x.1) := HB.out.trans (x.2.mono HB.out.size)
    clear LG c4
    go_wp2_with fail
    go_ret
    rw [hg.out]
    exact ⟨rfl, HX.out⟩
  | true =>
    have hs : g.shape := of_decide_eq_true hz
    obtain ⟨b1, b2, b3, b4, b5, b6⟩ := Geo.bounds hs
    have C2 : Hid (∀ x : Ext W, Calls Tryz.prog 74 #[.agg g.v] x.1 fun e w'' => e = .returned (.int .i64 g.bts) ∧ ∃ y : Ext W, w'' = y.1) := fun x => calls_ext x (refBts g hs x.1)
    have C3 : Hid (∀ x : Ext W, Calls Tryz.prog 73 #[.int .i64 g.bts] x.1 fun e w'' => e = .returned (.int .i64 g.pgs) ∧ ∃ y : Ext W, w'' = y.1) := fun x => (refCount g.bts x.1 (by omega) (by omega)).mono fun e w'' ⟨h1, h2⟩ => ⟨h1, x, h2⟩
    have hg : Hid (decide g.good = decide (g.pgs + 2 ≤ g.r ∧ g.r ≤ 256)) := by
      show _ = _
      rw [decide_eq_decide]
      exact ⟨fun h => h.2, fun h => ⟨hs, h⟩⟩
    obtain ⟨P, hP⟩ : ∃ n, g.pgs = n := ⟨_, rfl⟩
    obtain ⟨T, hT⟩ : ∃ n, g.bts = n := ⟨_, rfl⟩
    obtain ⟨R, hR⟩ : ∃ n, g.r = n := ⟨_, rfl⟩
    rw [hP, hT] at C3
    rw [hT] at C2
    rw [hR] at c4
    rw [hP, hR] at hg
    rw [hP] at b5 b6
    clear r hz hs b1 b2 b3 b4 hP hT hR
    by_cases q1 : P + 2 ≤ R
    · have g1 : decide (P + 2 ≤ R) = true := by simpa using q1
      have g1' : decide (R ≥ P + 2) = true := g1
      by_cases q2 : R ≤ 256
      · have g2 : decide (R ≤ 256) = true := by simpa using q2
        have hgd : Hid (decide g.good = true) := by show _ = _; rw [hg.out]; exact decide_eq_true ⟨q1, q2⟩
        go_enter Tryz.func35, Tryz.ntmps35
        go_wp2_with fail
        refine region_ext (by kernel_rfl) (by kernel_rfl) ?_
        repeat (go_big_quiet_step (with_reducible (first | exact C1.out _ | exact C2.out _ | exact C3.out _)))
        refine wpQuiet_nil ?_
        intro x
        have HX : Hid (Below w.heap.size w x.1) := HB.out.trans (x.2.mono HB.out.size)
        clear LG c4
        go_wp2_with fail
        go_ret
        rw [hgd.out]
        exact ⟨rfl, HX.out⟩
      · have g2 : decide (R ≤ 256) = false := by simpa using q2
        have hgd : Hid (decide g.good = false) := by show _ = _; rw [hg.out]; exact decide_eq_false (fun h => q2 h.2)
        go_enter Tryz.func35, Tryz.ntmps35
        go_wp2_with fail
        refine region_ext (by kernel_rfl) (by kernel_rfl) ?_
        repeat (go_big_quiet_step (with_reducible (first | exact C1.out _ | exact C2.out _ | exact C3.out _)))
        refine wpQuiet_nil ?_
        intro x
        have HX : Hid (Below w.heap.size w x.1) := HB.out.trans (x.2.mono HB.out.size)
        clear LG c4
        go_wp2_with fail
        go_ret
        rw [hgd.out]
        exact ⟨rfl, HX.out⟩
    · have g1 : decide (P + 2 ≤ R) = false := by simpa using q1
      have g1' : decide (R ≥ P + 2) = false := g1
      have hgd : Hid (decide g.good = false) := by show _ = _; rw [hg.out]; exact decide_eq_false (fun h => q1 h.1)
      go_enter Tryz.func35, Tryz.ntmps35
      go_wp2_with fail
      refine region_ext (by kernel_rfl) (by kernel_rfl) ?_
      repeat (go_big_quiet_step (with_reducible (first | exact C1.out _ | exact C2.out _ | exact C3.out _)))
      refine wpQuiet_nil ?_
      intro x
      have HX : Hid (Below w.heap.size w x.1) := HB.out.trans (x.2.mono HB.out.size)
      clear LG c4
      go_wp2_with fail
      go_ret
      rw [hgd.out]
      exact ⟨rfl, HX.out⟩
end
end Go.Proofs.YtajamblkjmafmaaGreat

/- The document's Good of a state. -/
namespace Go.Proofs.YtajamblkjmafmaaGreat
open Go.RowKit Go.Shelf Go.Lib
set_option linter.unusedVariables false
set_option linter.unusedSimpArgs false
attribute [-simp] Tryz.isAgg55 Tryz.zeroValue55 Tryz.isAgg57 Tryz.zeroValue57 Tryz.isAgg30 Tryz.zeroValue30
attribute [-go_sem] loadVar storeVar
attribute [local go_sem] loadVar_openQ storeVar_openQ zero_sn zero_prs zero_st
def SG.geo (g : SG) (r : Int) : Geo := ⟨g.b, g.s, g.y, g.a, r⟩
theorem SG.geo_v (g : SG) (r : Int) : (g.geo r).v = g.v r := rfl
set_option maxRecDepth 100000 in
theorem good_doc {g : SG} {r : Int} (h : (g.geo r).good) (x : World) : Calls Tryz.prog 35 #[.agg (g.v r)] x fun e w' => e = .returned (.bool true) ∧ Below x.heap.size x w' :=
  (refGood7 (g.geo r) x).mono fun e y hy => ⟨by rw [hy.1, decide_eq_true h], hy.2⟩
set_option maxRecDepth 100000 in
set_option maxHeartbeats 4000000 in
/-- **Good** of no sizes. -/
theorem rf14_goodN {w : World} {q : PS} (G : Geo) (hb : ¬ G.good) :
    Calls Tryz.prog 16 #[.agg G.v, stV q] w fun e w' => e = .returned (.bool false) ∧ Below w.heap.size w w' := by
  obtain ⟨⟨qd, qdn, qdc⟩, ⟨qs, qsn, qsc⟩, nx, kd, id, ⟨qp, qpn, qpc⟩⟩ := q
  simp only [stV, stL, slV]
  obtain ⟨gb, gs, gy, ga, gr⟩ := G
  have HG : Hid (∀ x : World, Calls Tryz.prog 35 #[.agg (Geo.v ⟨gb, gs, gy, ga, gr⟩)] x fun e w' => e = .returned (.bool false) ∧ Below x.heap.size x w') := fun x =>
    (refGood7 ⟨gb, gs, gy, ga, gr⟩ x).mono fun e y hy => ⟨by rw [hy.1, decide_eq_false hb], hy.2⟩
  clear hb
  unfold Geo.v at *
  simp only at *
  obtain ⟨B, hB⟩ : ∃ B, w.heap.size = B := ⟨_, rfl⟩
  obtain ⟨W1, hW1⟩ : ∃ W, w.alloc (.cells #[.int .i64 gb, .int .i64 gs, .int .i64 gy, .int .i64 ga, .int .i64 gr] 23) = W := ⟨_, rfl⟩
  obtain ⟨W2, hW2⟩ : ∃ W, W1.alloc (.cells #[.slice qd qdn qdc, .slice qs qsn qsc, .int .i64 nx, .int .i64 kd, .int .i64 id, .slice qp qpn qpc] 30) = W := ⟨_, rfl⟩
  have s1 : W1.heap.size = B + 1 := by rw [← hW1, ← hB]; simp
  have r1 : RowC W1 B 23 [.int .i64 gb, .int .i64 gs, .int .i64 gy, .int .i64 ga, .int .i64 gr] := by rw [← hW1, ← hB]; exact RowC.new _ _ _
  have b1 : Below B w W1 := by rw [← hW1, ← hB]; exact below_new _ _
  have b2 : Below W1.heap.size W1 W2 := by rw [← hW2]; exact below_new _ _
  have HB : Hid (Below B w W2) := b1.trans (b2.mono (by omega))
  have t1 := r1.below b2
  have k0 := t1.cell 0 _ rfl
  have k1 := t1.cell 1 _ rfl
  have k2 := t1.cell 2 _ rfl
  have k3 := t1.cell 3 _ rfl
  have k4 := t1.cell 4 _ rfl
  have HS2 : Hid (B ≤ W2.heap.size) := by show B ≤ _; rw [← hB]; exact HB.out.size
  rw [hB]
  clear r1 b1 b2 t1
  go_enter Tryz.func16, Tryz.ntmps16
  go_wp2_with fail
  refine (HG.out W2).mono ?_
  rintro e y ⟨rfl, hy⟩
  have HY : Hid (Below B w y) := HB.out.trans (hy.mono HS2.out)
  clear hy k0 k1 k2 k3 k4
  go_wp2_with fail
  go_ret
  exact ⟨rfl, HY.out⟩

set_option maxRecDepth 100000 in
set_option maxHeartbeats 4000000 in
/-- **Good**. -/
theorem rf14_good {w : World} {q : PS} {d : List Int} {l : List SN} {ps : List (Int × Int)} (g : SG) (hg : g.Ok) (r : Int) (hr : (g.geo r).good) (hd : Sl .i64 w (slV q.d) d) (h : StIs w q l ps) (hK : Lens 1000 l) (hp : ps.length ≤ 1000) :
    Calls Tryz.prog 16 #[.agg (g.v r), stV q] w fun e w' => e = .returned (.bool (sGood g ⟨d, l, q.nx, q.kd, q.id, ps⟩)) ∧ Below w.heap.size w w' := by
  have hmx : Tryz.prog.follows .mixedOrders = true := by kernel_rfl
  have HQ := Lib.hid h
  have HD0 := Lib.hid hd
  have HPL : Hid (∀ x : World, Below w.heap.size w x → Calls Tryz.prog 47 #[.agg (g.v r), stV q] x fun e w' => e = .returned (.bool (sPlan g ⟨[], l, q.nx, q.kd, q.id, ps⟩)) ∧ Below x.heap.size x w') := fun x hx => rf14_plan g hg r (HQ.out.below hx) hK hp
  have HDY : Hid (∀ x : World, Below w.heap.size w x → Calls Tryz.prog 45 #[.agg (g.v r), slV q.d] x fun e w' => e = .returned (.bool (sDirty g d)) ∧ Below x.heap.size x w') := fun x hx => rf14_dirty g hg r (HD0.out.below hx)
  have HCG : Hid (∀ x : World, Below w.heap.size w x → Calls Tryz.prog 46 #[slV q.sn, .int .i64 (g.b : Int), .int .i64 (g.a : Int)] x fun e w' => e = .returned (.bool (cGood l (g.b : Int) (g.a : Int))) ∧ Below x.heap.size x w') := fun x hx => rf11_goodL (HQ.out.sn.below hx) (g.b : Int) (g.a : Int) (by have := hg.b64; omega) (wf_i64 (by have := hg.b64; omega) (by have := hg.b64; omega))
  have HGD : Hid (∀ x : World, Calls Tryz.prog 35 #[.agg (g.v r)] x fun e w' => e = .returned (.bool true) ∧ Below x.heap.size x w') := fun x => good_doc hr x
  obtain ⟨⟨qd, qdn, qdc⟩, ⟨qs, qsn, qsc⟩, nx, kd, id, ⟨qp, qpn, qpc⟩⟩ := q
  have hsn := h.sn
  simp only [stV, stL, slV] at *
  obtain ⟨B, hB⟩ : ∃ B, w.heap.size = B := ⟨_, rfl⟩
  obtain ⟨W1, hW1⟩ : ∃ W, w.alloc (.cells (g.v r) 23) = W := ⟨_, rfl⟩
  obtain ⟨W2, hW2⟩ : ∃ W, W1.alloc (.cells #[.slice qd qdn qdc, .slice qs qsn qsc, .int .i64 nx, .int .i64 kd, .int .i64 id, .slice qp qpn qpc] 30) = W := ⟨_, rfl⟩
  have s1 : W1.heap.size = B + 1 := by rw [← hW1, ← hB]; simp
  have r1 : RowC W1 B 23 [.int .i64 (g.b : Int), .int .i64 (g.s : Int), .int .i64 (g.y : Int), .int .i64 (g.a : Int), .int .i64 r] := by rw [← hW1, ← hB]; exact RowC.new _ _ _
  have r2 : RowC W2 (B + 1) 30 (stL ⟨(qd, qdn, qdc), (qs, qsn, qsc), nx, kd, id, (qp, qpn, qpc)⟩) := by rw [← hW2, ← s1]; exact RowC.new _ _ _
  have b1 : Below B w W1 := by rw [← hW1, ← hB]; exact below_new _ _
  have b2 : Below W1.heap.size W1 W2 := by rw [← hW2]; exact below_new _ _
  have hBF : Below B w W2 := b1.trans (b2.mono (by omega))
  have HBs : B ≤ W2.heap.size := by rw [← hB]; exact hBF.size
  have HBF : Hid (∀ x : World, Below W2.heap.size W2 x → Below B w x) := fun x hx => hBF.trans (hx.mono HBs)
  have KR : Hid (∀ x : World, Below W2.heap.size W2 x → x.cell? ⟨B, 0, none⟩ = some (.int .i64 (g.b : Int)) ∧ x.cell? ⟨B, 1, none⟩ = some (.int .i64 (g.s : Int)) ∧ x.cell? ⟨B, 2, none⟩ = some (.int .i64 (g.y : Int)) ∧ x.cell? ⟨B, 3, none⟩ = some (.int .i64 (g.a : Int)) ∧ x.cell? ⟨B, 4, none⟩ = some (.int .i64 r) ∧
      x.cell? ⟨B + 1, 0, none⟩ = some (.slice qd qdn qdc) ∧ x.cell? ⟨B + 1, 1, none⟩ = some (.slice qs qsn qsc) ∧ x.cell? ⟨B + 1, 2, none⟩ = some (.int .i64 nx)) := fun x hx => by
    have t1 := (r1.below b2).below hx
    have t2 := r2.below hx
    exact ⟨t1.cell 0 _ rfl, t1.cell 1 _ rfl, t1.cell 2 _ rfl, t1.cell 3 _ rfl, t1.cell 4 _ rfl, t2.cell 0 _ rfl, t2.cell 1 _ rfl, t2.cell 2 _ rfl⟩
  have KLS : Hid (∀ x : World, Below W2.heap.size W2 x → (loadVar 30 ⟨B + 1, 0, none⟩).run Tryz.prog x = .ok (.agg #[.slice qd qdn qdc, .slice qs qsn qsc, .int .i64 nx, .int .i64 kd, .int .i64 id, .slice qp qpn qpc]) x) := fun x hx => load_stC (r2.below hx)
  have KSn : Hid (∀ x : World, Below W2.heap.size W2 x → Snp x (.slice qs qsn qsc) l) := fun x hx => hsn.below (by rw [hB]; exact HBF.out x hx)
  have HSN : Hid (qsn = l.length) := by obtain ⟨r', a', c', e, -⟩ := hsn; cases e; rfl
  have hqs : qsn ≤ 1000 := by rw [HSN.out]; exact hK.1
  have E0 : Hid (sGood g ⟨d, l, nx, kd, id, ps⟩ = (sDirty g d && cGood l (g.b : Int) (g.a : Int) && decide (1 ≤ nx) && decide (nx ≤ 1000001) && l.all (fun t => decide (t.id < nx)) && sPlan g ⟨[], l, nx, kd, id, ps⟩)) := rfl
  have HSZ := Lib.hid hB
  rw [hB] at HPL HDY HCG ⊢
  clear h hsn hK hp r1 r2 b1 b2 hBF hd hr HBs
  unfold SG.v at *
  obtain ⟨k0, k1, k2, k3, k4, k5, k6, k7⟩ := KR.out W2 (Below.refl _ _)
  go_enter Tryz.func16, Tryz.ntmps16
  go_wp2_with fail
  refine (HGD.out W2).mono ?_
  rintro e x1 ⟨rfl, hx1⟩
  have HB1 := Lib.hid hx1
  clear hx1 k0 k1 k2 k3 k4 k5 k6 k7
  obtain ⟨k0, k1, k2, k3, k4, k5, k6, k7⟩ := KR.out x1 HB1.out
  obtain ⟨v1, hv1⟩ : ∃ u, sDirty g d = u := ⟨_, rfl⟩
  rw [hv1] at HDY E0
  clear hv1
  go_wp2_with fail
  refine (HDY.out x1 (HBF.out _ HB1.out)).mono ?_
  rintro e x2 ⟨rfl, hx2⟩
  have HB2 : Hid (Below W2.heap.size W2 x2) := HB1.out.trans (hx2.mono HB1.out.size)
  clear hx2 k0 k1 k2 k3 k4 k5 k6 k7
  cases v1 with
  | false =>
    have E5 : Hid (sGood g ⟨d, l, nx, kd, id, ps⟩ = false) := E0.out
    have HGO : Hid (Below B w x2) := HBF.out _ HB2.out
    go_wp2_with fail
    go_ret
    rw [E5.out]
    exact ⟨rfl, HGO.out⟩
  | true =>
    obtain ⟨k0, k1, k2, k3, k4, k5, k6, k7⟩ := KR.out x2 HB2.out
    obtain ⟨v2, hv2⟩ : ∃ u, cGood l (g.b : Int) (g.a : Int) = u := ⟨_, rfl⟩
    rw [hv2] at HCG E0
    clear hv2
    go_wp2_with fail
    refine (HCG.out x2 (HBF.out _ HB2.out)).mono ?_
    rintro e x3 ⟨rfl, hx3⟩
    have HB3 : Hid (Below W2.heap.size W2 x3) := HB2.out.trans (hx3.mono HB2.out.size)
    clear hx3 k0 k1 k2 k3 k4 k5 k6 k7
    have HGO : Hid (Below B w x3) := HBF.out _ HB3.out
    cases v2 with
    | false =>
      have E5 : Hid (sGood g ⟨d, l, nx, kd, id, ps⟩ = false) := E0.out
      go_wp2_with fail
      go_ret
      rw [E5.out]
      exact ⟨rfl, HGO.out⟩
    | true =>
      obtain ⟨k0, k1, k2, k3, k4, k5, k6, k7⟩ := KR.out x3 HB3.out
      by_cases h1 : nx < 1
      · have q1 : decide (nx < 1) = true := by simpa using h1
        have E5 : Hid (sGood g ⟨d, l, nx, kd, id, ps⟩ = false) := by show _ = _; rw [E0.out, decide_eq_false (by omega : ¬ 1 ≤ nx)]; rfl
        clear h1
        go_wp2_with fail
        go_ret
        rw [E5.out]
        exact ⟨rfl, HGO.out⟩
      · have q1 : decide (nx < 1) = false := by simpa using h1
        by_cases h2 : 1000001 < nx
        · have q2 : decide (1000001 < nx) = true := by simpa using h2
          have E5 : Hid (sGood g ⟨d, l, nx, kd, id, ps⟩ = false) := by show _ = _; rw [E0.out, decide_eq_false (by omega : ¬ nx ≤ 1000001)]; simp
          clear h1 h2
          go_wp2_with fail
          go_ret
          rw [E5.out]
          exact ⟨rfl, HGO.out⟩
        · have q2 : decide (1000001 < nx) = false := by simpa using h2
          have E1 : Hid (sGood g ⟨d, l, nx, kd, id, ps⟩ = (l.all (fun t => decide (t.id < nx)) && sPlan g ⟨[], l, nx, kd, id, ps⟩)) := by show _ = _; rw [E0.out, decide_eq_true (by omega : 1 ≤ nx), decide_eq_true (by omega : nx ≤ 1000001)]; rfl
          clear h1 h2 E0
          go_wp2_with fail
          clear q1 q2 k0 k1 k2 k3 k4 k5 k6 k7
          go_loopw [5] (fun iv wr => ∃ k : Nat, k ≤ qsn ∧ iv = .int .i64 (k : Int) ∧ Hid (Below W2.heap.size W2 wr) ∧ Hid (∀ i t, i < k → l[i]? = some t → t.id < nx)) (fun iv _ => qsn - (intOf iv).toNat)
          case atStart => exact ⟨0, Nat.zero_le _, rfl, HB3, fun i t hi => absurd hi (Nat.not_lt_zero i)⟩
          case round =>
            clear HGO
            obtain ⟨k, hk, rfl, HB4, HP⟩ := hrel
            have HGO : Hid (Below B w wr.drew) := HBF.out _ HB4.out.drew
            have HB5 : Hid (Below W2.heap.size W2 wr.drew) := HB4.out.drew
            by_cases hlt : k < qsn
            · have q1 : (k : Int) < (qsn : Int) := by omega
              have HLT := Lib.hid hlt
              obtain ⟨s, hs⟩ : ∃ s, l[k]? = some s := ⟨_, List.getElem?_eq_getElem (by rw [← HSN.out]; exact hlt)⟩
              obtain ⟨k0, k1, k2, k3, k4, k5, k6, k7⟩ := KR.out wr HB4.out
              obtain ⟨rr, hS⟩ := KSn.out wr HB4.out
              obtain ⟨b, off, qv, rfl, hb, -, hq, c0, c1, c2⟩ := hS.at hs
              obtain ⟨i, qx⟩ := qv
              obtain rfl : i = s.id := hq.id
              simp only at c0
              have HSS := Lib.hid hs
              clear hs hb hq c1 c2 hlt hS k0 k1 k2 k3 k4 k5
              by_cases hc : nx ≤ s.id
              · have q2 : decide (nx ≤ s.id) = true := by simpa using hc
                have E5 : Hid (sGood g ⟨d, l, nx, kd, id, ps⟩ = false) := by
                  show _ = _
                  rw [E1.out]
                  have : l.all (fun t => decide (t.id < nx)) = false := by
                    rw [List.all_eq_false]
                    exact ⟨s, List.mem_of_getElem? HSS.out, by simp; omega⟩
                  rw [this]
                  rfl
                clear hc
                go_wp2_with fail
                refine region_plan (fun z => z = wr.drew) 8 (.takes [0, 1, 2, 3, 4, 5, 6, 7] .leaf) hmx (by kernel_rfl) (by intro c x v a w h; cases x <;> exact h) rfl ?_
                repeat (rw [wpPlan_takes_cons]; simp only [nth_zero, nth_succ]; go_big_quiet_step (fail); try (with_reducible refine wpQuiet_nil ?_))
                rw [wpPlan_takes_nil, wpPlan_leaf]
                simp only [List.drop_succ_cons, List.drop_zero]
                go_wp2_with fail
                go_ret
                rw [E5.out]
                exact ⟨rfl, HGO.out⟩
              · have q2 : decide (nx ≤ s.id) = false := by simpa using hc
                have HPs : Hid (∀ i t, i < k + 1 → l[i]? = some t → t.id < nx) := fun i t hi ht => by
                  by_cases h : i < k
                  · exact HP.out i t h ht
                  · obtain rfl : i = k := by omega
                    rw [HSS.out] at ht
                    cases ht
                    omega
                clear hc
                go_wp2_with fail
                refine region_plan (fun z => z = wr.drew) 8 (.takes [0, 1, 2, 3, 4, 5, 6, 7] .leaf) hmx (by kernel_rfl) (by intro c x v a w h; cases x <;> exact h) rfl ?_
                repeat (rw [wpPlan_takes_cons]; simp only [nth_zero, nth_succ]; go_big_quiet_step (fail); try (with_reducible refine wpQuiet_nil ?_))
                rw [wpPlan_takes_nil, wpPlan_leaf]
                simp only [List.drop_succ_cons, List.drop_zero]
                go_wp2_with fail
                exact ⟨⟨k + 1, HLT.out, by simp, HB5, HPs⟩, by have := HLT.out; simp [intOf]; omega⟩
            · obtain rfl : k = qsn := by omega
              have E5 : Hid (sGood g ⟨d, l, nx, kd, id, ps⟩ = sPlan g ⟨[], l, nx, kd, id, ps⟩) := by
                show _ = _
                rw [E1.out]
                have : l.all (fun t => decide (t.id < nx)) = true := by
                  rw [List.all_eq_true]
                  intro t ht
                  obtain ⟨i, hi, he⟩ := List.getElem_of_mem ht
                  exact decide_eq_true (HP.out i t (by rw [HSN.out]; exact hi) (by rw [List.getElem?_eq_getElem hi, he]))
                rw [this]
                rfl
              obtain ⟨k0, k1, k2, k3, k4, k5, k6, k7⟩ := KR.out wr HB4.out
              have LS := KLS.out wr HB4.out
              clear hlt
              go_wp2_with fail
              refine (HPL.out wr (HBF.out _ HB4.out)).mono ?_
              rintro e y ⟨rfl, hy⟩
              have HGY : Hid (Below B w y) := (HBF.out _ HB4.out).trans (hy.mono (by have := (HBF.out _ HB4.out).size; rw [HSZ.out] at this; exact this))
              clear hy LS k0 k1 k2 k3 k4 k5 k6 k7 HGO
              go_wp2_with fail
              go_ret
              rw [E5.out]
              exact ⟨rfl, HGY.out⟩
end Go.Proofs.YtajamblkjmafmaaGreat

/- Snapshots and states held against each other, any two: the program's Same, the statements' States. -/
namespace Go.Proofs.YtajamblkjmafmaaGreat
open Go.RowKit Go.Shelf Go.Lib
set_option linter.unusedVariables false
set_option linter.unusedSimpArgs false
attribute [-simp] Tryz.isAgg55 Tryz.zeroValue55 Tryz.isAgg57 Tryz.zeroValue57 Tryz.isAgg30 Tryz.zeroValue30
attribute [-go_sem] loadVar storeVar
attribute [local go_sem] loadVar_openQ storeVar_openQ zero_sn zero_prs zero_st
theorem sn_iff (s t : SN) : s = t ↔ s.id = t.id ∧ s.ch = t.ch ∧ s.tb = t.tb := by
  obtain ⟨a, b, c⟩ := s
  obtain ⟨a', b', c'⟩ := t
  simp
theorem st_iff (s t : ST) : s = t ↔ s.d = t.d ∧ s.sn = t.sn ∧ s.nx = t.nx ∧ s.kd = t.kd ∧ s.id = t.id ∧ s.pr = t.pr := by
  obtain ⟨a, b, c, d, e, f⟩ := s
  obtain ⟨a', b', c', d', e', f'⟩ := t
  simp
set_option maxRecDepth 100000 in
set_option maxHeartbeats 4000000 in
/-- **sameSnap**. -/
theorem sg_sameSnap {w : World} {q q' : SV} {s s' : SN} (h : SnIs w q s) (h' : SnIs w q' s') (hc : s.ch.length ≤ 1000000) (ht : s.tb.length ≤ 1000000) :
    Calls Tryz.prog 56 #[svV q, svV q'] w fun e w' => ∃ t : Bool, e = .returned (.bool t) ∧ (t = true ↔ s = s') ∧ Below w.heap.size w w' := by
  obtain ⟨i, ⟨x, n, c⟩, ⟨y, m, d⟩⟩ := q
  obtain ⟨i', ⟨x', n', c'⟩, ⟨y', m', d'⟩⟩ := q'
  obtain ⟨B, hB⟩ : ∃ B, w.heap.size = B := ⟨_, rfl⟩
  have HSZ := Lib.hid hB
  obtain ⟨W1, hW1⟩ : ∃ W, w.alloc (.cells #[.int .i64 i, .slice x n c, .slice y m d] 55) = W := ⟨_, rfl⟩
  obtain ⟨W2, hW2⟩ : ∃ W, W1.alloc (.cells #[.int .i64 i', .slice x' n' c', .slice y' m' d'] 55) = W := ⟨_, rfl⟩
  have s1 : W1.heap.size = B + 1 := by rw [← hW1, ← hB]; simp
  have r1 : RowC W1 B 55 [.int .i64 i, .slice x n c, .slice y m d] := by rw [← hW1, ← hB]; exact RowC.new _ _ _
  have r2 : RowC W2 (B + 1) 55 [.int .i64 i', .slice x' n' c', .slice y' m' d'] := by rw [← hW2, ← s1]; exact RowC.new _ _ _
  have b1 : Below B w W1 := by rw [← hW1, ← hB]; exact below_new _ _
  have b2 : Below W1.heap.size W1 W2 := by rw [← hW2]; exact below_new _ _
  have bF : Below B w W2 := b1.trans (b2.mono (by omega))
  have HBF : Hid (∀ x : World, Below W2.heap.size W2 x → Below B w x) := fun x hx => bF.trans (hx.mono (by have := bF.size; omega))
  have KR : Hid (∀ z : World, Below W2.heap.size W2 z → z.cell? ⟨B, 0, none⟩ = some (.int .i64 i) ∧ z.cell? ⟨B, 1, none⟩ = some (.slice x n c) ∧ z.cell? ⟨B, 2, none⟩ = some (.slice y m d) ∧ z.cell? ⟨B + 1, 0, none⟩ = some (.int .i64 i') ∧ z.cell? ⟨B + 1, 1, none⟩ = some (.slice x' n' c') ∧ z.cell? ⟨B + 1, 2, none⟩ = some (.slice y' m' d')) := fun z hz =>
    ⟨((r1.below b2).below hz).cell 0 _ rfl, ((r1.below b2).below hz).cell 1 _ rfl, ((r1.below b2).below hz).cell 2 _ rfl, (r2.below hz).cell 0 _ rfl, (r2.below hz).cell 1 _ rfl, (r2.below hz).cell 2 _ rfl⟩
  have HCB : Hid (∀ z : World, Below W2.heap.size W2 z → Calls Tryz.prog 34 #[.slice x n c, .slice x' n' c'] z fun e w' => e = .returned (.bool (decide (s.ch = s'.ch))) ∧ Below z.heap.size z w') := fun z hz => eq_bytes (h.ch.below (by rw [hB]; exact HBF.out z hz)) (h'.ch.below (by rw [hB]; exact HBF.out z hz)) hc
  have HCP : Hid (∀ z : World, Below W2.heap.size W2 z → Calls Tryz.prog 57 #[.slice y m d, .slice y' m' d'] z fun e w' => e = .returned (.bool (decide (s.tb = s'.tb))) ∧ Below z.heap.size z w') := fun z hz => eq_pairs (h.tb.below (by rw [hB]; exact HBF.out z hz)) (h'.tb.below (by rw [hB]; exact HBF.out z hz)) ht
  have E0 : Hid (s = s' ↔ i = i' ∧ s.ch = s'.ch ∧ s.tb = s'.tb) := by
    have e1 := h.id
    have e2 := h'.id
    simp only at e1 e2
    show _ ↔ _
    rw [sn_iff, e1, e2]
  clear h h' hc ht r1 r2 b1 b2 bF
  obtain ⟨k0, k1, k2, k3, k4, k5⟩ := KR.out W2 (Below.refl _ _)
  by_cases e0 : i = i'
  · subst e0
    obtain ⟨t1, ht1⟩ : ∃ t, decide (s.ch = s'.ch) = t := ⟨_, rfl⟩
    obtain ⟨t2, ht2⟩ : ∃ t, decide (s.tb = s'.tb) = t := ⟨_, rfl⟩
    rw [ht1] at HCB
    rw [ht2] at HCP
    have E1 : Hid (s = s' ↔ t1 = true ∧ t2 = true) := by show _ ↔ _; rw [E0.out, ← ht1, ← ht2, decide_eq_true_eq, decide_eq_true_eq]; simp
    clear ht1 ht2 E0
    go_enter Tryz.func56, Tryz.ntmps56
    simp only [svV, slV]
    go_wp2_with fail
    refine (HCB.out W2 (Below.refl _ _)).mono ?_
    rintro e x1 ⟨rfl, hx1⟩
    have H1 := Lib.hid hx1
    clear hx1 k0 k1 k2 k3 k4 k5
    obtain ⟨k0, k1, k2, k3, k4, k5⟩ := KR.out x1 H1.out
    cases t1 with
    | false =>
      have HF := Lib.hid (HBF.out x1 H1.out)
      go_wp2_with fail
      go_ret
      exact ⟨false, rfl, by rw [E1.out]; simp, by rw [HSZ.out]; exact HF.out⟩
    | true =>
      go_wp2_with fail
      refine (HCP.out x1 H1.out).mono ?_
      rintro e x2 ⟨rfl, hx2⟩
      have HF : Hid (Below B w x2) := HBF.out x2 (H1.out.trans (hx2.mono H1.out.size))
      clear hx2
      go_wp2_with fail
      go_ret
      exact ⟨t2, rfl, by rw [E1.out]; simp, by rw [HSZ.out]; exact HF.out⟩
  · have g0 : (i == i') = false := by simpa using e0
    have HF := Lib.hid (HBF.out W2 (Below.refl _ _))
    have E1 : Hid (¬ s = s') := fun h => e0 (E0.out.1 h).1
    clear e0
    go_enter Tryz.func56, Tryz.ntmps56
    simp only [svV, slV]
    go_wp2_with fail
    go_ret
    exact ⟨false, rfl, by simp [E1.out], by rw [HSZ.out]; exact HF.out⟩

set_option maxRecDepth 100000 in
set_option maxHeartbeats 4000000 in
/-- **EqualFunc** at snapshots. -/
theorem eq_snaps {w : World} {u v : Value} {l m : List SN} (hu : Snp w u l) (hv : Snp w v m) (hK : Lens 1000 l) :
    Calls Tryz.prog 55 #[u, v, .func (.func 56) #[] #[]] w fun e w' => ∃ t : Bool, e = .returned (.bool t) ∧ (t = true ↔ l = m) ∧ Below w.heap.size w w' := by
  obtain ⟨ru, hu⟩ := hu
  obtain ⟨rv, hv⟩ := hv
  have HU := Lib.hid hu
  have HV := Lib.hid hv
  have HKL := Lib.hid hK
  obtain ⟨a, ca, rfl, -⟩ := hu
  obtain ⟨b, cb, rfl, -⟩ := hv
  obtain ⟨n, hn⟩ : ∃ n, l.length = n := ⟨_, rfl⟩
  obtain ⟨mm, hmm⟩ : ∃ n, m.length = n := ⟨_, rfl⟩
  have hn1 : n ≤ 1000 := by rw [← hn]; exact hK.1
  rw [hn] at HU ⊢
  rw [hmm] at HV ⊢
  have HN := Lib.hid hn
  have HM := Lib.hid hmm
  clear hn hmm hK
  by_cases hl : n = mm
  · subst hl
    have g0 : ((n : Int) != (n : Int)) = false := by simp
    go_enter Tryz.func55, Tryz.ntmps55
    go_wp2_with fail
    go_loopw [17] (fun iv wr => ∃ k : Nat, k ≤ n ∧ iv = .int .i64 (k : Int) ∧ Hid (l.take k = m.take k) ∧ Hid (Below w.heap.size w wr)) (fun iv _ => n - (intOf iv).toNat)
    case atStart => exact ⟨0, Nat.zero_le _, rfl, by simp [Hid], Below.refl _ _⟩
    case round =>
      obtain ⟨k, hk, rfl, HP, HB⟩ := hrel
      by_cases hlt : k < n
      · have q1 : (k : Int) < (n : Int) := by omega
        have HLT := Lib.hid hlt
        obtain ⟨s, hx⟩ : ∃ x, l[k]? = some x := ⟨_, List.getElem?_eq_getElem (by rw [HN.out]; exact hlt)⟩
        obtain ⟨s', hy⟩ : ∃ y, m[k]? = some y := ⟨_, List.getElem?_eq_getElem (by rw [HM.out]; exact hlt)⟩
        obtain ⟨ba, oa, qa, rfl, h1, -, hqa, c1, c2, c3⟩ := (HU.out.below HB.out).at hx
        have LA := load_sn c1 c2 c3
        have SA := new_sn wr qa
        obtain ⟨Y1, hY1⟩ : ∃ Y, wr.alloc (.cells (svL qa).toArray 55) = Y := ⟨_, rfl⟩
        have bY1 : Below wr.heap.size wr Y1 := by rw [← hY1]; exact below_new _ _
        have rY1 : RowC Y1 wr.heap.size 55 (svL qa) := by rw [← hY1]; exact RowC.new _ _ _
        rw [hY1] at SA
        obtain ⟨bb, ob, qb, rfl, h2, -, hqb, d1, d2, d3⟩ := (HV.out.below (HB.out.trans (bY1.mono HB.out.size))).at hy
        have LB := load_sn d1 d2 d3
        have SB := new_sn Y1 qb
        obtain ⟨Y2, hY2⟩ : ∃ Y, Y1.alloc (.cells (svL qb).toArray 55) = Y := ⟨_, rfl⟩
        have bY2 : Below Y1.heap.size Y1 Y2 := by rw [← hY2]; exact below_new _ _
        have rY2 : RowC Y2 Y1.heap.size 55 (svL qb) := by rw [← hY2]; exact RowC.new _ _ _
        rw [hY2] at SB
        have LA2 := load_snC (rY1.below bY2)
        have LB2 := load_snC rY2
        have HCS := Lib.hid (sg_sameSnap ((hqa.below bY1).below bY2) (hqb.below bY2) (by have := (HKL.out.2 s (List.mem_of_getElem? hx)).1; omega) (by have := (HKL.out.2 s (List.mem_of_getElem? hx)).2; omega))
        have HB2 : Hid (Below w.heap.size w Y2) := (HB.out.trans (bY1.mono HB.out.size)).trans (bY2.mono (by have := HB.out.size; have := bY1.size; omega))
        obtain ⟨C1, hC1⟩ : ∃ C, wr.heap.size = C := ⟨_, rfl⟩
        obtain ⟨C2, hC2⟩ : ∃ C, Y1.heap.size = C := ⟨_, rfl⟩
        rw [hC1] at SA LA2
        rw [hC2] at SB LB2
        obtain ⟨i1, ⟨x1, n1, c1'⟩, ⟨y1, m1, d1'⟩⟩ := qa
        obtain ⟨i2, ⟨x2, n2, c2'⟩, ⟨y2, m2, d2'⟩⟩ := qb
        have HX := Lib.hid hx
        have HY := Lib.hid hy
        simp only [svV, slV] at LA SA LB SB LA2 LB2 HCS
        clear hx hy hlt c1 c2 c3 d1 d2 d3 h1 h2 hqa hqb bY1 bY2 rY1 rY2 hY1 hY2
        go_wp2_with fail
        refine HCS.out.mono ?_
        rintro e x3 ⟨t, rfl, ht, hx3⟩
        have HB3 : Hid (Below w.heap.size w x3) := HB2.out.trans (hx3.mono HB2.out.size)
        have HT := Lib.hid ht
        clear ht hx3 HCS LA SA LB SB LA2 LB2
        cases t with
        | true =>
          have HQ : Hid (l.take (k + 1) = m.take (k + 1)) := take_eq_succ HX.out HY.out HP.out (HT.out.1 rfl)
          go_wp2_with fail
          exact ⟨⟨k + 1, HLT.out, by simp, HQ, HB3⟩, by have := HLT.out; simp [intOf]; omega⟩
        | false =>
          have HE : Hid (¬ l = m) := ne_at HX.out HY.out (fun h => by have := HT.out.2 h; cases this)
          go_wp2_with fail
          go_ret
          exact ⟨false, rfl, by simp [HE.out], HB3.out⟩
      · obtain rfl : k = n := by omega
        have HE : Hid (l = m) := by
          have := HP.out
          rw [List.take_of_length_le (by rw [HN.out]; exact Nat.le_refl _), List.take_of_length_le (by rw [HM.out]; exact Nat.le_refl _)] at this
          exact this
        clear hlt
        go_wp2_with fail
        go_ret
        exact ⟨true, rfl, by simp [HE.out], HB.out⟩
  · have g0 : ((n : Int) != (mm : Int)) = true := by simp; omega
    have HE : Hid (¬ l = m) := fun h => by rw [h, HM.out] at HN; exact hl HN.out.symm
    clear hl
    go_enter Tryz.func55, Tryz.ntmps55
    go_wp2_with fail
    go_ret
    exact ⟨false, rfl, by simp [HE.out], Below.refl _ _⟩
end Go.Proofs.YtajamblkjmafmaaGreat

/- States held against each other, any two: the program's Same, the statements' Snaps and States. -/
namespace Go.Proofs.YtajamblkjmafmaaGreat
open Go.RowKit Go.Shelf Go.Lib
set_option linter.unusedVariables false
set_option linter.unusedSimpArgs false
attribute [-simp] Tryz.isAgg55 Tryz.zeroValue55 Tryz.isAgg57 Tryz.zeroValue57 Tryz.isAgg30 Tryz.zeroValue30
attribute [-go_sem] loadVar storeVar
attribute [local go_sem] loadVar_openQ storeVar_openQ zero_sn zero_prs zero_st
set_option maxRecDepth 100000 in
set_option maxHeartbeats 4000000 in
/-- **Same** of any two states. -/
theorem sg_same {w : World} {q q' : PS} {d d' : List Int} {l l' : List SN} {ps ps' : List (Int × Int)} (hd : Sl .i64 w (slV q.d) d) (hd' : Sl .i64 w (slV q'.d) d') (h : StIs w q l ps) (h' : StIs w q' l' ps') (hK : Lens 1000 l) (hn : d.length ≤ 1000000) (hp : ps.length ≤ 1000000) :
    Calls Tryz.prog 20 #[stV q, stV q'] w fun e w' => ∃ t : Bool, e = .returned (.bool t) ∧ (t = true ↔ (⟨d, l, q.nx, q.kd, q.id, ps⟩ : ST) = ⟨d', l', q'.nx, q'.kd, q'.id, ps'⟩) ∧ Below w.heap.size w w' := by
  obtain ⟨⟨qd, qdn, qdc⟩, ⟨qs, qsn, qsc⟩, nx, kd, id, ⟨qp, qpn, qpc⟩⟩ := q
  obtain ⟨⟨pd, pdn, pdc⟩, ⟨pss, psn, psc⟩, nx', kd', id', ⟨pp, ppn, ppc⟩⟩ := q'
  obtain ⟨B, hB⟩ : ∃ B, w.heap.size = B := ⟨_, rfl⟩
  have HSZ := Lib.hid hB
  obtain ⟨W1, hW1⟩ : ∃ W, w.alloc (.cells #[.slice qd qdn qdc, .slice qs qsn qsc, .int .i64 nx, .int .i64 kd, .int .i64 id, .slice qp qpn qpc] 30) = W := ⟨_, rfl⟩
  obtain ⟨W2, hW2⟩ : ∃ W, W1.alloc (.cells #[.slice pd pdn pdc, .slice pss psn psc, .int .i64 nx', .int .i64 kd', .int .i64 id', .slice pp ppn ppc] 30) = W := ⟨_, rfl⟩
  have s1 : W1.heap.size = B + 1 := by rw [← hW1, ← hB]; simp
  have r1 : RowC W1 B 30 [.slice qd qdn qdc, .slice qs qsn qsc, .int .i64 nx, .int .i64 kd, .int .i64 id, .slice qp qpn qpc] := by rw [← hW1, ← hB]; exact RowC.new _ _ _
  have r2 : RowC W2 (B + 1) 30 [.slice pd pdn pdc, .slice pss psn psc, .int .i64 nx', .int .i64 kd', .int .i64 id', .slice pp ppn ppc] := by rw [← hW2, ← s1]; exact RowC.new _ _ _
  have b1 : Below B w W1 := by rw [← hW1, ← hB]; exact below_new _ _
  have b2 : Below W1.heap.size W1 W2 := by rw [← hW2]; exact below_new _ _
  have bF : Below B w W2 := b1.trans (b2.mono (by omega))
  have HBF : Hid (∀ x : World, Below W2.heap.size W2 x → Below B w x) := fun x hx => bF.trans (hx.mono (by have := bF.size; omega))
  have KR : Hid (∀ z : World, Below W2.heap.size W2 z → (z.cell? ⟨B, 0, none⟩ = some (.slice qd qdn qdc) ∧ z.cell? ⟨B, 1, none⟩ = some (.slice qs qsn qsc) ∧ z.cell? ⟨B, 2, none⟩ = some (.int .i64 nx) ∧ z.cell? ⟨B, 3, none⟩ = some (.int .i64 kd) ∧ z.cell? ⟨B, 4, none⟩ = some (.int .i64 id) ∧ z.cell? ⟨B, 5, none⟩ = some (.slice qp qpn qpc)) ∧
      z.cell? ⟨B + 1, 0, none⟩ = some (.slice pd pdn pdc) ∧ z.cell? ⟨B + 1, 1, none⟩ = some (.slice pss psn psc) ∧ z.cell? ⟨B + 1, 2, none⟩ = some (.int .i64 nx') ∧ z.cell? ⟨B + 1, 3, none⟩ = some (.int .i64 kd') ∧ z.cell? ⟨B + 1, 4, none⟩ = some (.int .i64 id') ∧ z.cell? ⟨B + 1, 5, none⟩ = some (.slice pp ppn ppc)) := fun z hz =>
    have t := (r1.below b2).below hz
    have u := r2.below hz
    ⟨⟨t.cell 0 _ rfl, t.cell 1 _ rfl, t.cell 2 _ rfl, t.cell 3 _ rfl, t.cell 4 _ rfl, t.cell 5 _ rfl⟩, u.cell 0 _ rfl, u.cell 1 _ rfl, u.cell 2 _ rfl, u.cell 3 _ rfl, u.cell 4 _ rfl, u.cell 5 _ rfl⟩
  have HCI : Hid (∀ z : World, Below W2.heap.size W2 z → Calls Tryz.prog 54 #[.slice qd qdn qdc, .slice pd pdn pdc] z fun e w' => e = .returned (.bool (decide (d = d'))) ∧ Below z.heap.size z w') := fun z hz => eq_ints (hd.below (by rw [hB]; exact HBF.out z hz)) (hd'.below (by rw [hB]; exact HBF.out z hz)) hn
  have HCS : Hid (∀ z : World, Below W2.heap.size W2 z → Calls Tryz.prog 55 #[.slice qs qsn qsc, .slice pss psn psc, .func (.func 56) #[] #[]] z fun e w' => ∃ t : Bool, e = .returned (.bool t) ∧ (t = true ↔ l = l') ∧ Below z.heap.size z w') := fun z hz => eq_snaps (h.sn.below (by rw [hB]; exact HBF.out z hz)) (h'.sn.below (by rw [hB]; exact HBF.out z hz)) hK
  have HCP : Hid (∀ z : World, Below W2.heap.size W2 z → Calls Tryz.prog 57 #[.slice qp qpn qpc, .slice pp ppn ppc] z fun e w' => e = .returned (.bool (decide (ps = ps'))) ∧ Below z.heap.size z w') := fun z hz => eq_pairs (h.pr.below (by rw [hB]; exact HBF.out z hz)) (h'.pr.below (by rw [hB]; exact HBF.out z hz)) hp
  obtain ⟨t1, ht1⟩ : ∃ t, decide (d = d') = t := ⟨_, rfl⟩
  obtain ⟨t3, ht3⟩ : ∃ t, decide (ps = ps') = t := ⟨_, rfl⟩
  rw [ht1] at HCI
  rw [ht3] at HCP
  have E0 : Hid ((⟨d, l, nx, kd, id, ps⟩ : ST) = ⟨d', l', nx', kd', id', ps'⟩ ↔ t1 = true ∧ l = l' ∧ nx = nx' ∧ kd = kd' ∧ id = id' ∧ t3 = true) := by
    show _ ↔ _
    rw [st_iff, ← ht1, ← ht3, decide_eq_true_eq, decide_eq_true_eq]
  simp only [stV, stL, slV]
  clear hd hd' h h' hK hn hp r1 r2 b1 b2 bF ht1 ht3
  obtain ⟨⟨k0, k1, k2, k3, k4, k5⟩, j0, j1, j2, j3, j4, j5⟩ := KR.out W2 (Below.refl _ _)
  go_enter Tryz.func20, Tryz.ntmps20
  go_wp2_with fail
  refine (HCI.out W2 (Below.refl _ _)).mono ?_
  rintro e x1 ⟨rfl, hx1⟩
  have H1 := Lib.hid hx1
  clear hx1 k0 k1 k2 k3 k4 k5 j0 j1 j2 j3 j4 j5
  cases t1 with
  | false =>
    have HF := Lib.hid (HBF.out x1 H1.out)
    go_wp2_with fail
    go_ret
    exact ⟨false, rfl, by rw [E0.out]; simp, by rw [HSZ.out]; exact HF.out⟩
  | true =>
    obtain ⟨⟨k0, k1, k2, k3, k4, k5⟩, j0, j1, j2, j3, j4, j5⟩ := KR.out x1 H1.out
    go_wp2_with fail
    refine (HCS.out x1 H1.out).mono ?_
    rintro e x2 ⟨t2, rfl, ht2, hx2⟩
    have H2 : Hid (Below W2.heap.size W2 x2) := H1.out.trans (hx2.mono H1.out.size)
    have HT2 := Lib.hid ht2
    have HF := Lib.hid (HBF.out x2 H2.out)
    clear hx2 ht2 k0 k1 k2 k3 k4 k5 j0 j1 j2 j3 j4 j5
    cases t2 with
    | false =>
      have HN : Hid (¬ l = l') := fun h => by have := HT2.out.2 h; cases this
      go_wp2_with fail
      go_ret
      exact ⟨false, rfl, by rw [E0.out]; simp [HN.out], by rw [HSZ.out]; exact HF.out⟩
    | true =>
      have HL : Hid (l = l') := HT2.out.1 rfl
      obtain ⟨⟨k0, k1, k2, k3, k4, k5⟩, j0, j1, j2, j3, j4, j5⟩ := KR.out x2 H2.out
      by_cases e1 : nx = nx'
      · subst e1
        by_cases e2 : kd = kd'
        · subst e2
          by_cases e3 : id = id'
          · subst e3
            go_wp2_with fail
            refine (HCP.out x2 H2.out).mono ?_
            rintro e x3 ⟨rfl, hx3⟩
            have HF3 : Hid (Below B w x3) := HBF.out x3 (H2.out.trans (hx3.mono H2.out.size))
            clear hx3
            go_wp2_with fail
            go_ret
            exact ⟨t3, rfl, by rw [E0.out]; simp [HL.out], by rw [HSZ.out]; exact HF3.out⟩
          · have g : (id == id') = false := by simpa using e3
            have HN : Hid (¬ id = id') := e3
            clear e3
            go_wp2_with fail
            go_ret
            exact ⟨false, rfl, by rw [E0.out]; simp [HN.out], by rw [HSZ.out]; exact HF.out⟩
        · have g : (kd == kd') = false := by simpa using e2
          have HN : Hid (¬ kd = kd') := e2
          clear e2
          go_wp2_with fail
          go_ret
          exact ⟨false, rfl, by rw [E0.out]; simp [HN.out], by rw [HSZ.out]; exact HF.out⟩
      · have g : (nx == nx') = false := by simpa using e1
        have HN : Hid (¬ nx = nx') := e1
        clear e1
        go_wp2_with fail
        go_ret
        exact ⟨false, rfl, by rw [E0.out]; simp [HN.out], by rw [HSZ.out]; exact HF.out⟩

end Go.Proofs.YtajamblkjmafmaaGreat

/- What it means that a chain may be: plain facts. -/
namespace Go.Proofs.YtajamblkjmafmaaGreat
open Go.RowKit
set_option linter.unusedVariables false

theorem rise_iff (bl ar : Int) : ∀ (l : List SN) (last : Int), cRise bl ar last l = true ↔ (∀ s ∈ l, last < s.id ∧ s.id ≤ 1000000 ∧ fitS s bl ar = true) ∧ l.Pairwise (fun s t => s.id < t.id) ∧ (∀ s ∈ l.dropLast, fullS s = true)
  | [], last => by simp [cRise]
  | s :: l, last => by
    rw [cRise_cons]
    simp only [Bool.and_eq_true, decide_eq_true_eq, Bool.or_eq_true]
    rw [rise_iff bl ar l s.id, List.pairwise_cons]
    cases l with
    | nil => simp
    | cons t l =>
      rw [show (s :: t :: l).dropLast = s :: (t :: l).dropLast from rfl]
      constructor
      · rintro ⟨h1, h2, h3, h4, h5, h6, h7⟩
        refine ⟨fun u hu => ?_, ⟨fun u hu => (h5 u hu).1, h6⟩, fun u hu => ?_⟩
        · rcases List.mem_cons.1 hu with rfl | hu
          · exact ⟨h1, h2, h3⟩
          · have := h5 u hu; exact ⟨by omega, this.2⟩
        · rcases List.mem_cons.1 hu with rfl | hu
          · rcases h4 with h4 | h4
            · simp at h4
            · exact h4
          · exact h7 u hu
      · rintro ⟨h1, ⟨h2, h3⟩, h4⟩
        have h0 := h1 s (List.mem_cons_self ..)
        exact ⟨h0.1, h0.2.1, h0.2.2, .inr (h4 s (List.mem_cons_self ..)), fun u hu => ⟨h2 u hu, (h1 u (List.mem_cons_of_mem _ hu)).2⟩, h3, fun u hu => h4 u (List.mem_cons_of_mem _ hu)⟩
theorem good_iff (l : List SN) (bl ar : Int) : cGood l bl ar = true ↔ l.length ≤ 8 ∧ (∀ s ∈ l, 0 < s.id ∧ s.id ≤ 1000000 ∧ fitS s bl ar = true) ∧ l.Pairwise (fun s t => s.id < t.id) ∧ (∀ s ∈ l.dropLast, fullS s = true) ∧ (cAts l).Nodup := by
  unfold cGood
  rw [Bool.and_eq_true, Bool.and_eq_true, rise_iff, decide_eq_true_eq, decide_eq_true_eq]
  constructor
  · rintro ⟨h1, ⟨h2, h3, h4⟩, h5⟩; exact ⟨h1, h2, h3, h4, h5⟩
  · rintro ⟨h1, h2, h3, h4, h5⟩; exact ⟨h1, ⟨h2, h3, h4⟩, h5⟩
theorem fit_iff (s : SN) (bl ar : Int) : fitS s bl ar = true ↔ goodB s.ch bl = true ∧ tGood s.tb bl ar = true ∧ ∀ p ∈ s.tb, hasB s.ch p.1 = true := by
  unfold fitS
  rw [Bool.and_eq_true, Bool.and_eq_true, List.all_eq_true]
end Go.Proofs.YtajamblkjmafmaaGreat

/- States that may be: what they are worth; a state of its bytes, bytes of their state; no program is named. -/
namespace Go.Proofs.YtajamblkjmafmaaGreat
set_option linter.unusedVariables false

theorem index_some {l : List SN} {id : Int} : ∀ {k : Nat}, 0 ≤ firstId l id k → ∃ s ∈ l, s.id = id := by
  induction l with
  | nil => intro k h; exact absurd h (by unfold firstId; decide)
  | cons s l ih =>
    intro k h
    unfold firstId at h
    by_cases e : s.id = id
    · exact ⟨s, List.mem_cons_self .., e⟩
    · rw [if_neg e] at h
      obtain ⟨t, ht, e2⟩ := ih h
      exact ⟨t, List.mem_cons_of_mem _ ht, e2⟩
theorem held_iff {l : List SN} {a : Int} : sHeld l a = true ↔ ∃ s ∈ l, ∃ p ∈ s.tb, p.2 = a := by
  unfold sHeld cAts
  rw [List.contains_iff_mem, List.mem_flatten]
  constructor
  · rintro ⟨x, hx, ha⟩
    obtain ⟨s, hs, rfl⟩ := List.mem_map.1 hx
    obtain ⟨p, hp, e⟩ := List.mem_map.1 ha
    exact ⟨s, hs, p, hp, e⟩
  · rintro ⟨s, hs, p, hp, e⟩
    exact ⟨_, List.mem_map.2 ⟨s, hs, rfl⟩, List.mem_map.2 ⟨p, hp, e⟩⟩
theorem asc_of {pr : List (Int × Int)} (h : ∀ i, i < pr.length → i = 0 ∨ (pr[i - 1]?.getD (0, 0)).1 < (pr[i]?.getD (0, 0)).1) : Asc pr := by
  refine List.pairwise_iff_getElem.2 fun i j hi hj hij => ?_
  have key : ∀ n, ∀ (hi : i < pr.length) (hj : i + n + 1 < pr.length), pr[i].1 < pr[i + n + 1].1 := by
    intro n
    induction n with
    | zero =>
      intro hi hj
      rcases h (i + 1) hj with e | e
      · omega
      · rw [Nat.add_sub_cancel, List.getElem?_eq_getElem hi, List.getElem?_eq_getElem hj] at e
        exact e
    | succ n ih =>
      intro hi hj
      have h1 := ih hi (by omega)
      rcases h (i + (n + 1) + 1) hj with e | e
      · omega
      · rw [Nat.add_sub_cancel, List.getElem?_eq_getElem (by omega), List.getElem?_eq_getElem hj] at e
        have e2 : pr[i + (n + 1)].1 < pr[i + (n + 1) + 1].1 := e
        exact Int.lt_trans h1 e2
  have := key (j - i - 1) hi (by omega)
  have e : i + (j - i - 1) + 1 = j := by omega
  simp only [e] at this
  exact this
theorem tb_in {g : SG} (hg : g.Ok) {tb : List (Int × Int)} (h : tGood tb (g.b : Int) (g.a : Int) = true) : PrIn g tb := by
  obtain ⟨h1, h2, h3⟩ := (tGood_iff _ _ _).1 h
  have := hg.a200
  exact ⟨h2, fun p hp => ⟨(h1 p hp).1, (h1 p hp).2.1⟩, fun p hp => by have := h1 p hp; omega⟩
theorem sn_in {g : SG} (hg : g.Ok) {l : List SN} (h : cGood l (g.b : Int) (g.a : Int) = true) : l.length ≤ 8 ∧ ∀ t ∈ l, SnIn g t := by
  obtain ⟨h1, h2, -⟩ := (good_iff _ _ _).1 h
  refine ⟨h1, fun t ht => ?_⟩
  obtain ⟨a1, a2, a3⟩ := h2 t ht
  obtain ⟨b1, b2, b3⟩ := (fit_iff _ _ _).1 a3
  refine ⟨by omega, a2, ?_, tb_in hg b2⟩
  unfold goodB at b1
  rw [Bool.and_eq_true, decide_eq_true_eq] at b1
  exact b1.1
theorem pairs_in {g : SG} (hg : g.Ok) {kd : Int} {l : List SN} (hl : cGood l (g.b : Int) (g.a : Int) = true) {pr : List (Int × Int)} (h : sPairsOk g kd l pr = true) : PrIn g pr := by
  unfold sPairsOk at h
  rw [List.all_eq_true] at h
  have hi : ∀ i, i < pr.length → pairAt g kd l pr i = true := fun i hi => h i (List.mem_range.2 hi)
  have ha := hg.a200
  have hat : ∀ i (h : i < pr.length), pr[i]?.getD (0, 0) = pr[i] := fun i h => by rw [List.getElem?_eq_getElem h]; rfl
  refine ⟨asc_of fun i hlt => ?_, fun p hp => ?_, fun p hp => ?_⟩
  · have := hi i hlt
    unfold pairAt at this
    simp only [Bool.and_eq_true, Bool.or_eq_true, decide_eq_true_eq] at this
    exact this.1.2
  · obtain ⟨i, hlt, rfl⟩ := List.getElem_of_mem hp
    have := hi i hlt
    unfold pairAt at this
    simp only [Bool.and_eq_true, Bool.or_eq_true, decide_eq_true_eq, hat i hlt] at this
    exact this.1.1
  · obtain ⟨i, hlt, rfl⟩ := List.getElem_of_mem hp
    have := hi i hlt
    unfold pairAt at this
    rw [Bool.and_eq_true] at this
    have h2 := this.2
    rw [hat i hlt] at h2
    by_cases e : kd = 1
    · rw [if_pos e] at h2
      obtain ⟨s, hs, q, hq, e2⟩ := held_iff.1 h2
      have hq2 := ((sn_in hg hl).2 s hs).tb
      obtain ⟨-, k2, -⟩ := (good_iff _ _ _).1 hl
      obtain ⟨-, -, a3⟩ := k2 s hs
      obtain ⟨-, b2, -⟩ := (fit_iff _ _ _).1 a3
      obtain ⟨c1, -, -⟩ := (tGood_iff _ _ _).1 b2
      have := c1 q hq
      rw [← e2]
      omega
    · rw [if_neg e] at h2
      simp only [Bool.or_eq_true, Bool.and_eq_true, beq_iff_eq, decide_eq_true_eq] at h2
      rcases h2 with h2 | h2
      · omega
      · have := h2.1.1
        omega
/-- **What a state that may be is worth.** -/
theorem good_in {g : SG} (hg : g.Ok) {s : ST} (h : sGood g s = true) : StIn g s := by
  unfold sGood at h
  simp only [Bool.and_eq_true, decide_eq_true_eq] at h
  obtain ⟨⟨⟨⟨⟨h1, h2⟩, h3⟩, h4⟩, h5⟩, h6⟩ := h
  obtain ⟨l1, l2⟩ := sn_in hg h2
  have hd : s.d.length = g.slots := by
    unfold sDirty at h1
    rw [Bool.and_eq_true, decide_eq_true_eq] at h1
    exact h1.1
  have hp : (s.kd = 0 ∧ s.id = 0 ∧ s.pr = []) ∨ (s.kd = 1 ∧ 0 ≤ cIndex s.sn s.id ∧ PrIn g s.pr) ∨ (s.kd = 2 ∧ s.nx ≤ s.id ∧ s.id ≤ 1000000 ∧ PrIn g s.pr) := by
    unfold sPlan at h6
    by_cases k0 : s.kd = 0
    · rw [if_pos k0, Bool.and_eq_true, decide_eq_true_eq, beq_iff_eq] at h6
      exact .inl ⟨k0, h6.1, List.length_eq_zero_iff.1 h6.2⟩
    · rw [if_neg k0] at h6
      by_cases k1 : s.kd = 1
      · rw [if_pos k1, Bool.and_eq_true, decide_eq_true_eq] at h6
        exact .inr (.inl ⟨k1, h6.1, pairs_in hg h2 h6.2⟩)
      · rw [if_neg k1] at h6
        by_cases k2 : s.kd = 2
        · rw [if_pos k2] at h6
          simp only [Bool.and_eq_true, decide_eq_true_eq] at h6
          exact .inr (.inr ⟨k2, h6.1.1.1.1, h6.1.1.1.2, pairs_in hg h2 h6.2⟩)
        · rw [if_neg k2] at h6
          cases h6
  have hid : 0 ≤ s.id ∧ s.id ≤ 1000000 ∧ 0 ≤ s.kd ∧ PrIn g s.pr := by
    rcases hp with ⟨a, b, c⟩ | ⟨a, b, c⟩ | ⟨a, b, c, d⟩
    · exact ⟨by omega, by omega, by omega, by rw [c]; exact ⟨List.Pairwise.nil, (fun p hp => absurd hp List.not_mem_nil), (fun p hp => absurd hp List.not_mem_nil)⟩⟩
    · obtain ⟨t, ht, e⟩ := index_some b
      have := l2 t ht
      exact ⟨by rw [← e]; exact this.id0, by rw [← e]; exact this.id1, by omega, c⟩
    · exact ⟨by omega, c, by omega, d⟩
  exact ⟨hd, l1, l2, by omega, by omega, hid.2.2.1, hid.1, hid.2.1, hid.2.2.2⟩
/-- **Decode of Encode.** -/
theorem dec_enc {g : SG} (hg : g.Ok) {s : ST} (h : sGood g s = true) : sDec g (sEnc g s) = some s := by
  have hi := good_in hg h
  obtain ⟨e1, e2⟩ := parse_enc hi
  unfold sDec
  rw [e1, if_pos ⟨enc_len hi.dl (fun t ht => (hi.sn t ht).ch), by rw [e2]; have := hi.sl; omega, h, rfl⟩]
theorem dec_some {g : SG} {bs : List Int} {s : ST} (h : sDec g bs = some s) : sGood g s = true ∧ sEnc g s = bs := by
  unfold sDec at h
  split at h
  · rename_i c
    cases h
    exact ⟨c.2.2.1, c.2.2.2⟩
  · cases h
theorem enc_inj {g : SG} (hg : g.Ok) {s t : ST} (hs : sGood g s = true) (ht : sGood g t = true) : sEnc g s = sEnc g t ↔ s = t :=
  ⟨fun e => by
    have := dec_enc hg hs
    rw [e, dec_enc hg ht] at this
    exact (Option.some.inj this).symm, fun e => by rw [e]⟩
end Go.Proofs.YtajamblkjmafmaaGreat

/- Plain facts on a set that numbers are put in one by one. -/
namespace Go.Proofs.YtajamblkjmafmaaGreat
open Go.RowKit
set_option linter.unusedVariables false

theorem bi_zeros (n : Nat) : IsBytes (List.replicate n 0) := fun j => by
  by_cases h : j < n
  · simp [h]
  · simp [h]
theorem zeros_bit (n i : Nat) : bitAt (List.replicate n 0) i = false := by
  unfold bitAt
  by_cases h : i / 8 < n
  · simp [h]
  · simp [h]
end Go.Proofs.YtajamblkjmafmaaGreat

/- Plain facts: how the program tells whether a state may be; no program is named. -/
namespace Go.Proofs.YtajamblkjmafmaaGreat
open Go.RowKit
set_option linter.unusedVariables false

/-- Numbers put into a set one by one. -/
def addB (bs xs : List Int) : List Int := xs.foldl withB bs
theorem addB_snoc (bs xs : List Int) (x : Int) : addB bs (xs ++ [x]) = withB (addB bs xs) x := by unfold addB; rw [List.foldl_append]; rfl
theorem addB_len : ∀ (xs bs : List Int), (addB bs xs).length = bs.length
  | [], bs => rfl
  | x :: xs, bs => by
    show (addB (withB bs x) xs).length = _
    rw [addB_len xs, with_length]
theorem addB_bytes : ∀ (xs bs : List Int), IsBytes bs → IsBytes (addB bs xs)
  | [], bs, h => h
  | x :: xs, bs, h => addB_bytes xs (withB bs x) (with_bytes h x)
theorem with_has (bs : List Int) (i a : Int) : hasB (withB bs i) a = (hasB bs a || (decide (i = a) && decide (0 ≤ a ∧ a / 8 < bs.length))) := by
  unfold hasB
  rw [with_bit]
  rw [Bool.eq_iff_iff]
  simp only [Bool.and_eq_true, Bool.or_eq_true, decide_eq_true_eq, beq_iff_eq]
  constructor
  · rintro ⟨h0, h | ⟨h1, h2⟩⟩
    · exact .inl ⟨h0, h⟩
    · exact .inr ⟨by omega, by omega⟩
  · rintro (⟨h0, h⟩ | ⟨rfl, h1⟩)
    · exact ⟨h0, .inl h⟩
    · exact ⟨h1.1, .inr ⟨h1, rfl⟩⟩
theorem addB_has : ∀ (xs bs : List Int) (a : Int), hasB (addB bs xs) a = (hasB bs a || (xs.contains a && decide (0 ≤ a ∧ a / 8 < bs.length)))
  | [], bs, a => by simp [addB]
  | x :: xs, bs, a => by
    show hasB (addB (withB bs x) xs) a = _
    rw [addB_has xs, with_has, with_length, List.contains_cons]
    rw [Bool.eq_iff_iff]
    simp only [Bool.and_eq_true, Bool.or_eq_true, decide_eq_true_eq, beq_iff_eq]
    constructor
    · rintro ((h | ⟨rfl, h⟩) | ⟨h1, h2⟩)
      · exact .inl h
      · exact .inr ⟨.inl rfl, h⟩
      · exact .inr ⟨.inr h1, h2⟩
    · rintro (h | ⟨rfl | h1, h2⟩)
      · exact .inl (.inl h)
      · exact .inl (.inr ⟨rfl, h2⟩)
      · exact .inr ⟨h1, h2⟩
theorem has_zeros (n : Nat) (a : Int) : hasB (List.replicate n 0) a = false := by
  unfold hasB
  rw [zeros_bit, Bool.and_false]
theorem size_fit {n a : Int} (h1 : n ≤ 4096) (h2 : 0 ≤ a) (h3 : a < n) : a / 8 < (sizeB n : Int) := by
  unfold sizeB
  rw [if_neg (by omega)]
  omega

/-! The dirty slots -/
def seenK (g : SG) (d : List Int) (k : Nat) : List Int := addB (List.replicate g.n9 0) ((d.take k).filter fun x => !(x == -1))
theorem seen_zero (g : SG) (d : List Int) : seenK g d 0 = List.replicate g.n9 0 := by unfold seenK; simp [addB]
theorem seen_len (g : SG) (d : List Int) (k : Nat) : (seenK g d k).length = g.n9 := by unfold seenK; rw [addB_len, List.length_replicate]
theorem seen_bytes (g : SG) (d : List Int) (k : Nat) : IsBytes (seenK g d k) := addB_bytes _ _ (bi_zeros _)
theorem take_get0 {d : List Int} {k : Nat} (h : k < d.length) : d.take (k + 1) = d.take k ++ [d[k]?.getD 0] := by
  rw [List.take_add_one, List.getElem?_eq_getElem h]; rfl
theorem seen_skip (g : SG) {d : List Int} {k : Nat} (h : k < d.length) (hx : d[k]?.getD 0 = -1) : seenK g d (k + 1) = seenK g d k := by
  unfold seenK
  rw [take_get0 h, List.filter_append, hx]
  simp
theorem seen_put (g : SG) {d : List Int} {k : Nat} (h : k < d.length) (hx : d[k]?.getD 0 ≠ -1) : seenK g d (k + 1) = withB (seenK g d k) (d[k]?.getD 0) := by
  unfold seenK
  rw [take_get0 h, List.filter_append, ← addB_snoc]
  congr 1
  have : (!(d[k]?.getD 0 == -1)) = true := by simpa using hx
  rw [List.filter_cons, if_pos this, List.filter_nil]
theorem seen_has {g : SG} (hg : g.Ok) (d : List Int) (k : Nat) {x : Int} (h0 : 0 ≤ x) (h1 : x < (g.b : Int)) : hasB (seenK g d k) x = (d.take k).contains x := by
  unfold seenK
  have := hg.b64
  have hs : decide (0 ≤ x ∧ x / 8 < ((List.replicate g.n9 (0 : Int)).length : Int)) = true := by
    rw [decide_eq_true_eq, List.length_replicate]
    exact ⟨h0, size_fit (by omega) h0 h1⟩
  rw [addB_has, has_zeros, hs, Bool.false_or, Bool.and_true, Bool.eq_iff_iff, List.contains_iff_mem, List.contains_iff_mem, List.mem_filter]
  constructor
  · exact fun h => h.1
  · exact fun h => ⟨h, by simp; omega⟩
/-- The program's test of a slot. -/
theorem dirt_test {g : SG} (hg : g.Ok) {d : List Int} {k : Nat} {x : Int} (hx : d[k]?.getD 0 = x) (hm : x ≠ -1) :
    dirtAt g d k = (decide (0 ≤ x ∧ x ≤ (g.b : Int) - 1) && ((x % (g.s : Int) == (k : Int) / (g.y : Int)) && !(hasB (seenK g d k) x))) := by
  unfold dirtAt
  rw [hx]
  have e1 : (x == -1) = false := by simpa using hm
  rw [e1, Bool.false_or]
  by_cases h0 : 0 ≤ x ∧ x < (g.b : Int)
  · rw [seen_has hg d k h0.1 h0.2]
    have a1 : decide (0 ≤ x) = true := by simpa using h0.1
    have a2 : decide (x < (g.b : Int)) = true := by simpa using h0.2
    have a3 : decide (0 ≤ x ∧ x ≤ (g.b : Int) - 1) = true := by rw [decide_eq_true_eq]; omega
    rw [a1, a2, a3, Bool.true_and, Bool.true_and, Bool.true_and]
  · have a3 : decide (0 ≤ x ∧ x ≤ (g.b : Int) - 1) = false := by rw [decide_eq_false_iff_not]; omega
    have a4 : (decide (0 ≤ x) && decide (x < (g.b : Int))) = false := by
      rw [Bool.eq_false_iff, ne_eq, Bool.and_eq_true, decide_eq_true_eq, decide_eq_true_eq]
      exact h0
    rw [a3, a4]
    simp

/-! Pairs -/
def riseAt (b : Nat) (pr : List (Int × Int)) (i : Nat) : Bool := decide (0 ≤ (pr[i]?.getD (0, 0)).1) && decide ((pr[i]?.getD (0, 0)).1 < (b : Int)) && (decide (i = 0) || decide ((pr[i - 1]?.getD (0, 0)).1 < (pr[i]?.getD (0, 0)).1))
def gRise (b : Nat) (pr : List (Int × Int)) : Bool := (List.range pr.length).all (riseAt b pr)
def leastK (pr : List (Int × Int)) (k : Nat) : Int := if k = 0 then 0 else (pr[k - 1]?.getD (0, 0)).1 + 1
theorem least_succ {pr : List (Int × Int)} {k : Nat} {p : Int × Int} (h : pr[k]? = some p) : leastK pr (k + 1) = p.1 + 1 := by
  unfold leastK
  rw [if_neg (by omega), Nat.add_sub_cancel, h]; rfl
theorem rise_test {b : Nat} {pr : List (Int × Int)} {k : Nat} {p : Int × Int} (h : pr[k]? = some p) (hr : ∀ i, i < k → riseAt b pr i = true) :
    riseAt b pr k = decide (leastK pr k ≤ p.1 ∧ p.1 ≤ (b : Int) - 1) := by
  unfold riseAt leastK
  rw [h]
  simp only [Option.getD_some]
  cases k with
  | zero =>
    simp
    rw [Bool.eq_iff_iff]
    simp only [Bool.and_eq_true, decide_eq_true_eq]
    omega
  | succ k =>
    have h1 := hr k (Nat.lt_succ_self _)
    unfold riseAt at h1
    simp only [Bool.and_eq_true, decide_eq_true_eq] at h1
    rw [if_neg (by omega), Nat.add_sub_cancel]
    rw [Bool.eq_iff_iff]
    simp only [Bool.and_eq_true, Bool.or_eq_true, decide_eq_true_eq]
    omega
theorem rise_no {b : Nat} {pr : List (Int × Int)} {k : Nat} (hk : k < pr.length) (h : riseAt b pr k = false) : gRise b pr = false := by
  unfold gRise
  rw [List.all_eq_false]
  exact ⟨k, List.mem_range.2 hk, by rw [h]; decide⟩
theorem rise_yes {b : Nat} {pr : List (Int × Int)} (h : ∀ k, k < pr.length → riseAt b pr k = true) : gRise b pr = true := by
  unfold gRise
  rw [List.all_eq_true]
  exact fun k hk => h k (List.mem_range.1 hk)
/-- What is held, as a set. -/
def heldS (g : SG) (l : List SN) : List Int := addB (List.replicate (sizeB (g.a : Int)) 0) (cAts l)
theorem heldS_len (g : SG) (l : List SN) : (heldS g l).length = sizeB (g.a : Int) := by unfold heldS; rw [addB_len, List.length_replicate]
theorem heldS_bytes (g : SG) (l : List SN) : IsBytes (heldS g l) := addB_bytes _ _ (bi_zeros _)
theorem held_has {g : SG} (hg : g.Ok) {l : List SN} (hl : cGood l (g.b : Int) (g.a : Int) = true) (x : Int) : hasB (heldS g l) x = sHeld l x := by
  unfold heldS
  rw [addB_has, has_zeros, Bool.false_or, List.length_replicate]
  show _ = (cAts l).contains x
  cases h : (cAts l).contains x with
  | false => rfl
  | true =>
    have h2 : sHeld l x = true := h
    obtain ⟨s, hs, p, hp, e⟩ := held_iff.1 h2
    obtain ⟨-, k2, -⟩ := (good_iff _ _ _).1 hl
    obtain ⟨-, -, a3⟩ := k2 s hs
    obtain ⟨-, b2, -⟩ := (fit_iff _ _ _).1 a3
    obtain ⟨c1, -, -⟩ := (tGood_iff _ _ _).1 b2
    have := c1 p hp
    have ha := hg.a200
    rw [Bool.true_and, decide_eq_true_eq]
    exact ⟨by omega, size_fit (by omega) (by omega) (by omega)⟩
def gHeld (set : List Int) (pr : List (Int × Int)) : Bool := pr.all fun p => hasB set p.2
/-- Places taken so far. -/
def apSeen (set : List Int) (pr : List (Int × Int)) (k : Nat) : List Int := addB set (((pr.take k).map (·.2)).filter fun x => !(x == 255))
theorem apS_zero (set : List Int) (pr : List (Int × Int)) : apSeen set pr 0 = set := by unfold apSeen; simp [addB]
theorem apS_len (set : List Int) (pr : List (Int × Int)) (k : Nat) : (apSeen set pr k).length = set.length := by unfold apSeen; rw [addB_len]
theorem apS_bytes {set : List Int} (h : IsBytes set) (pr : List (Int × Int)) (k : Nat) : IsBytes (apSeen set pr k) := addB_bytes _ _ h
theorem apS_skip (set : List Int) {pr : List (Int × Int)} {k : Nat} {p : Int × Int} (h : pr[k]? = some p) (hx : p.2 = 255) : apSeen set pr (k + 1) = apSeen set pr k := by
  unfold apSeen
  rw [take_at h, List.map_append, List.filter_append]
  simp [hx]
theorem apS_put (set : List Int) {pr : List (Int × Int)} {k : Nat} {p : Int × Int} (h : pr[k]? = some p) (hx : p.2 ≠ 255) : apSeen set pr (k + 1) = withB (apSeen set pr k) p.2 := by
  unfold apSeen
  rw [take_at h, List.map_append, List.filter_append, ← addB_snoc]
  congr 1
  have : (!(p.2 == 255)) = true := by simpa using hx
  rw [List.map_cons, List.map_nil, List.filter_cons, if_pos this, List.filter_nil]
def apB (g : SG) (set : List Int) (pr : List (Int × Int)) (i : Nat) : Bool := ((pr[i]?.getD (0, 0)).2 == 255) || (decide (0 ≤ (pr[i]?.getD (0, 0)).2 ∧ (pr[i]?.getD (0, 0)).2 ≤ (g.a : Int) - 1) && !(hasB (apSeen set pr i) (pr[i]?.getD (0, 0)).2))
def gApart (g : SG) (set : List Int) (pr : List (Int × Int)) : Bool := (List.range pr.length).all (apB g set pr)
theorem apart_no {g : SG} {set : List Int} {pr : List (Int × Int)} {k : Nat} (hk : k < pr.length) (h : apB g set pr k = false) : gApart g set pr = false := by
  unfold gApart
  rw [List.all_eq_false]
  exact ⟨k, List.mem_range.2 hk, by rw [h]; decide⟩
theorem apart_yes {g : SG} {set : List Int} {pr : List (Int × Int)} (h : ∀ k, k < pr.length → apB g set pr k = true) : gApart g set pr = true := by
  unfold gApart
  rw [List.all_eq_true]
  exact fun k hk => h k (List.mem_range.1 hk)
theorem apB_is {g : SG} {set : List Int} {pr : List (Int × Int)} {k : Nat} {p : Int × Int} (h : pr[k]? = some p) : apB g set pr k = ((p.2 == 255) || (decide (0 ≤ p.2 ∧ p.2 ≤ (g.a : Int) - 1) && !(hasB (apSeen set pr k) p.2))) := by
  unfold apB
  rw [h]; rfl
/-- Is each block of the last one's Changed in its Table? As the program counts. -/
def gFull (l : List SN) : Bool := match l.getLast? with
  | none => true
  | some s => fullS s
theorem full_whole {l : List SN} {bl ar : Int} (h : cGood l bl ar = true) : gFull l = sWhole l := by
  unfold gFull sWhole
  cases e : l.getLast? with
  | none => rfl
  | some s =>
    obtain ⟨-, k2, -⟩ := (good_iff _ _ _).1 h
    obtain ⟨-, -, a3⟩ := k2 s (List.mem_of_getLast? e)
    obtain ⟨b1, b2, b3⟩ := (fit_iff _ _ _).1 a3
    show fullS s = _
    rw [full_iff b2 b3]
    unfold rF
    congr 1
    funext c
    unfold tFind
    rw [List.findIdx?_isSome]
def gPlan (g : SG) (s : ST) : Bool :=
  if s.kd = 0 then (s.id == 0) && decide (s.pr.length = 0)
  else if s.kd = 1 then decide (0 ≤ cIndex s.sn s.id) && (gRise g.b s.pr && gHeld (heldS g s.sn) s.pr)
  else if s.kd = 2 then decide (s.sn.length < 8) && (gFull s.sn && (decide (s.nx ≤ s.id ∧ s.id ≤ 1000000) && (gRise g.b s.pr && gApart g (heldS g s.sn) s.pr)))
  else false
theorem pairs_split {g : SG} (hg : g.Ok) {l : List SN} (hl : cGood l (g.b : Int) (g.a : Int) = true) (kd : Int) (pr : List (Int × Int)) :
    sPairsOk g kd l pr = (gRise g.b pr && (if kd = 1 then gHeld (heldS g l) pr else gApart g (heldS g l) pr)) := by
  rw [Bool.eq_iff_iff]
  unfold sPairsOk gRise
  simp only [Bool.and_eq_true, List.all_eq_true, List.mem_range]
  have hp : ∀ i, pairAt g kd l pr i = (riseAt g.b pr i && (if kd = 1 then sHeld l (pr[i]?.getD (0, 0)).2 else ((pr[i]?.getD (0, 0)).2 == 255) || (decide (0 ≤ (pr[i]?.getD (0, 0)).2) && decide ((pr[i]?.getD (0, 0)).2 < (g.a : Int)) && !(sHeld l (pr[i]?.getD (0, 0)).2) && !((pr.take i).any fun p => p.2 == (pr[i]?.getD (0, 0)).2)))) := fun i => rfl
  have hsplit : (∀ i, i < pr.length → pairAt g kd l pr i = true) ↔ (∀ i, i < pr.length → riseAt g.b pr i = true) ∧ (∀ i, i < pr.length → (if kd = 1 then sHeld l (pr[i]?.getD (0, 0)).2 else ((pr[i]?.getD (0, 0)).2 == 255) || (decide (0 ≤ (pr[i]?.getD (0, 0)).2) && decide ((pr[i]?.getD (0, 0)).2 < (g.a : Int)) && !(sHeld l (pr[i]?.getD (0, 0)).2) && !((pr.take i).any fun p => p.2 == (pr[i]?.getD (0, 0)).2))) = true) := by
    constructor
    · intro h
      exact ⟨fun i hi => by have := h i hi; rw [hp, Bool.and_eq_true] at this; exact this.1, fun i hi => by have := h i hi; rw [hp, Bool.and_eq_true] at this; exact this.2⟩
    · intro h i hi
      rw [hp, Bool.and_eq_true]
      exact ⟨h.1 i hi, h.2 i hi⟩
  rw [hsplit]
  refine and_congr_right fun _ => ?_
  by_cases k1 : kd = 1
  · simp only [if_pos k1]
    unfold gHeld
    rw [List.all_eq_true]
    constructor
    · intro h p hp
      obtain ⟨i, hi⟩ := List.getElem?_of_mem hp
      have := h i (List.getElem?_eq_some_iff.1 hi).1
      rw [hi] at this
      rw [held_has hg hl]
      exact this
    · intro h i hi
      have := h pr[i] (List.getElem_mem hi)
      rw [held_has hg hl] at this
      rw [List.getElem?_eq_getElem hi]
      exact this
  · simp only [if_neg k1]
    unfold gApart
    rw [List.all_eq_true]
    have key : ∀ i, i < pr.length → apB g (heldS g l) pr i = (((pr[i]?.getD (0, 0)).2 == 255) || (decide (0 ≤ (pr[i]?.getD (0, 0)).2) && decide ((pr[i]?.getD (0, 0)).2 < (g.a : Int)) && !(sHeld l (pr[i]?.getD (0, 0)).2) && !((pr.take i).any fun p => p.2 == (pr[i]?.getD (0, 0)).2))) := by
      intro i hi
      unfold apB
      obtain ⟨b, hb⟩ : ∃ b, (pr[i]?.getD (0, 0)).2 = b := ⟨_, rfl⟩
      rw [hb]
      by_cases h5 : b = 255
      · rw [h5]; rfl
      · have e5 : (b == 255) = false := by simpa using h5
        rw [e5, Bool.false_or, Bool.false_or]
        by_cases hr : 0 ≤ b ∧ b < (g.a : Int)
        · have a1 : decide (0 ≤ b ∧ b ≤ (g.a : Int) - 1) = true := by rw [decide_eq_true_eq]; omega
          have a2 : decide (0 ≤ b) = true := by simpa using hr.1
          have a3 : decide (b < (g.a : Int)) = true := by simpa using hr.2
          have ha := hg.a200
          rw [a1, a2, a3, Bool.true_and, Bool.true_and, Bool.true_and]
          unfold apSeen
          rw [addB_has, held_has hg hl, Bool.not_or]
          congr 2
          have a4 : decide (0 ≤ b ∧ b / 8 < ((heldS g l).length : Int)) = true := by
            rw [decide_eq_true_eq, heldS_len]
            exact ⟨hr.1, size_fit (by omega) hr.1 hr.2⟩
          rw [a4, Bool.and_true, Bool.eq_iff_iff, List.contains_iff_mem, List.mem_filter, List.mem_map, List.any_eq_true]
          constructor
          · rintro ⟨⟨p, hp, e⟩, -⟩
            exact ⟨p, hp, by simpa using e⟩
          · rintro ⟨p, hp, e⟩
            exact ⟨⟨p, hp, by simpa using e⟩, by simpa using h5⟩
        · have a1 : decide (0 ≤ b ∧ b ≤ (g.a : Int) - 1) = false := by rw [decide_eq_false_iff_not]; omega
          have a4 : (decide (0 ≤ b) && decide (b < (g.a : Int))) = false := by
            rw [Bool.eq_false_iff, ne_eq, Bool.and_eq_true, decide_eq_true_eq, decide_eq_true_eq]
            exact hr
          rw [a1, a4]
          simp
    constructor
    · intro h i hi
      have hi := List.mem_range.1 hi
      rw [key i hi]
      exact h i hi
    · intro h i hi
      rw [← key i hi]
      exact h i (List.mem_range.2 hi)
/-- **The program's plan is the document's**, where the snapshots may be. -/
theorem plan_is {g : SG} (hg : g.Ok) {s : ST} (hl : cGood s.sn (g.b : Int) (g.a : Int) = true) : gPlan g s = sPlan g s := by
  unfold gPlan sPlan
  by_cases k0 : s.kd = 0
  · rw [if_pos k0, if_pos k0]
  · rw [if_neg k0, if_neg k0]
    by_cases k1 : s.kd = 1
    · rw [if_pos k1, if_pos k1, pairs_split hg hl, if_pos k1]
    · rw [if_neg k1, if_neg k1]
      by_cases k2 : s.kd = 2
      · rw [if_pos k2, if_pos k2, pairs_split hg hl, if_neg k1, full_whole hl]
        rw [Bool.eq_iff_iff]
        simp only [Bool.and_eq_true, decide_eq_true_eq]
        constructor
        · rintro ⟨a, b, ⟨c, c'⟩, d⟩; exact ⟨⟨⟨⟨c, c'⟩, a⟩, b⟩, d⟩
        · rintro ⟨⟨⟨⟨c, c'⟩, a⟩, b⟩, d⟩; exact ⟨a, b, ⟨c, c'⟩, d⟩
      · rw [if_neg k2, if_neg k2]
end Go.Proofs.YtajamblkjmafmaaGreat

/- The program's state: within, the slots, a byte for a place, the dirty slots. -/
namespace Go.Proofs.YtajamblkjmafmaaGreat
open Go.RowKit Go.Shelf Go.Lib
set_option linter.unusedVariables false
set_option linter.unusedSimpArgs false
theorem sizeB_le64 {g : SG} (hg : g.Ok) : sizeB (g.b : Int) ≤ 8 := by
  have := hg.b1
  have := hg.b64
  unfold sizeB
  rw [if_neg (by omega)]
  omega
section
set_option maxRecDepth 100000
set_option maxHeartbeats 4000000
set_option maxRecDepth 100000 in
theorem sg_within (n lo hi : Int) (w : World) : Calls Tryz.prog 76 #[.int .i64 n, .int .i64 lo, .int .i64 hi] w fun e w' => e = .returned (.bool (decide (lo ≤ n ∧ n ≤ hi))) ∧ w' = w := by
  obtain ⟨z, hz⟩ : ∃ z, decide (lo ≤ n ∧ n ≤ hi) = z := ⟨_, rfl⟩
  by_cases h1 : lo ≤ n
  · have g1 : decide (lo ≤ n) = true := by simpa using h1
    have g1' : decide (n ≥ lo) = true := g1
    have g2 : decide (n ≤ hi) = z := by rw [← hz]; simp [h1]
    rw [hz]
    clear hz
    go_enter Tryz.func76, Tryz.ntmps76
    go_wp2_with fail
    go_ret
    first | exact ⟨rfl, rfl⟩ | exact ⟨by rw [← g2], rfl⟩ | exact ⟨by rw [g2], rfl⟩
  · have g1 : decide (lo ≤ n) = false := by simpa using h1
    have g1' : decide (n ≥ lo) = false := g1
    have hzz : z = false := by rw [← hz]; simp [h1]
    rw [hz, hzz]
    clear hz hzz
    go_enter Tryz.func76, Tryz.ntmps76
    go_wp2_with fail
    go_ret
    exact ⟨rfl, rfl⟩
set_option maxRecDepth 100000 in
theorem sg_code (n : Int) (h0 : -1 ≤ n) (h1 : n ≤ 255) (h2 : n ≠ 254) (w : World) : Calls Tryz.prog 26 #[.int .i64 n] w fun e w' => e = .returned (.int .u8 (plV n)) ∧ w' = w := by
  obtain ⟨z, hz⟩ : ∃ z, plV n = z := ⟨_, rfl⟩
  rw [hz]
  by_cases h : n = 255
  · subst h
    have : z = 255 := by rw [← hz]; rfl
    subst this
    clear hz
    go_enter Tryz.func26, Tryz.ntmps26
    go_wp2_with fail
    go_ret
    exact ⟨rfl, rfl⟩
  · have e1 : (n == 255) = false := by simpa using h
    have e2 : z = n + 1 := by rw [← hz]; unfold plV; rw [if_neg h]
    have e3 : 0 ≤ n + 1 := by omega
    have e4 : n + 1 < 256 := by omega
    have HZ := Lib.hid e2
    clear hz e2 h
    go_enter Tryz.func26, Tryz.ntmps26
    go_wp2_with fail
    go_ret
    rw [HZ.out]
    exact ⟨by first | rfl | (congr 2; omega), rfl⟩
set_option maxRecDepth 100000 in
theorem sg_meant (c : Nat) (h1 : c < 256) (w : World) : Calls Tryz.prog 68 #[.int .u8 (c : Int)] w fun e w' => e = .returned (.int .i64 (plA (c : Int))) ∧ w' = w := by
  obtain ⟨z, hz⟩ : ∃ z, plA (c : Int) = z := ⟨_, rfl⟩
  rw [hz]
  by_cases h : c = 255
  · subst h
    have : z = 255 := by rw [← hz]; rfl
    subst this
    clear hz
    go_enter Tryz.func68, Tryz.ntmps68
    go_wp2_with fail
    go_ret
    exact ⟨rfl, rfl⟩
  · have e1 : ((c : Int) == 255) = false := by simp; omega
    have e2 : z = (c : Int) - 1 := by rw [← hz]; unfold plA; rw [if_neg (by omega)]
    have HZ := Lib.hid e2
    clear hz e2 h
    go_enter Tryz.func68, Tryz.ntmps68
    go_wp2_with fail
    go_ret
    rw [HZ.out]
    exact ⟨rfl, rfl⟩
set_option maxRecDepth 100000 in
theorem sg_slots (g : SG) (hg : g.Ok) (r : Int) (w : World) : Calls Tryz.prog 40 #[.agg (g.v r)] w fun e w' => e = .returned (.int .i64 (g.slots : Int)) ∧ Below w.heap.size w w' := by
  obtain ⟨W, hW⟩ : ∃ W, w.alloc (.cells (g.v r) 23) = W := ⟨_, rfl⟩
  have hr : RowC W w.heap.size 23 [.int .i64 (g.b : Int), .int .i64 (g.s : Int), .int .i64 (g.y : Int), .int .i64 (g.a : Int), .int .i64 r] := by rw [← hW]; exact RowC.new w _ _
  have HB : Hid (Below w.heap.size w W) := by show Below _ _ _; rw [← hW]; exact below_new w _
  have c1 := hr.cell 1 _ rfl
  have c2 := hr.cell 2 _ rfl
  have h4 := hg.s8
  have h6 := hg.y4
  obtain ⟨z, hz⟩ : ∃ z, g.s * g.y = z := ⟨_, rfl⟩
  have hzi : (g.s : Int) * (g.y : Int) = (z : Int) := by rw [← hz]; simp
  have hz32 : z ≤ 32 := by rw [← hz]; exact Nat.le_trans (Nat.mul_le_mul h4 h6) (by decide)
  have HZ : Hid (g.slots = z) := hz
  rw [HZ.out]
  clear hr hz
  unfold SG.v at *
  go_enter Tryz.func40, Tryz.ntmps40
  go_wp2_with fail
  go_ret
  exact ⟨rfl, HB.out⟩
end
set_option maxRecDepth 100000 in
set_option maxHeartbeats 4000000 in
/-- **goodDirty**. -/
theorem sg_dirty {w : World} {v : Value} {d : List Int} (g : SG) (hg : g.Ok) (r : Int) (hv : Sl .i64 w v d) (hd : ∀ x ∈ d, Is64 x) :
    Calls Tryz.prog 41 #[.agg (g.v r), v] w fun e w' => e = .returned (.bool (sDirty g d)) ∧ Below w.heap.size w w' := by
  obtain ⟨a, c, rfl, -⟩ := id hv
  obtain ⟨hn, hm, hcell⟩ := hv.cellI
  obtain ⟨n, hnn⟩ : ∃ n, d.length = n := ⟨_, rfl⟩
  rw [hnn] at hn hm hcell ⊢
  clear hn hv
  obtain ⟨B, hB⟩ : ∃ B, w.heap.size = B := ⟨_, rfl⟩
  obtain ⟨W, hW⟩ : ∃ W, w.alloc (.cells (g.v r) 23) = W := ⟨_, rfl⟩
  have hrow : RowC W B 23 [.int .i64 (g.b : Int), .int .i64 (g.s : Int), .int .i64 (g.y : Int), .int .i64 (g.a : Int), .int .i64 r] := by rw [← hW, ← hB]; exact RowC.new _ _ _
  have HB : Hid (Below B w W) := by show Below B w W; rw [← hW, ← hB]; exact below_new _ _
  have HSZ := Lib.hid hB
  have KG : Hid (∀ x : World, Below W.heap.size W x → x.cell? ⟨B, 0, none⟩ = some (.int .i64 (g.b : Int)) ∧ x.cell? ⟨B, 1, none⟩ = some (.int .i64 (g.s : Int)) ∧ x.cell? ⟨B, 2, none⟩ = some (.int .i64 (g.y : Int))) := fun x hx =>
    ⟨(hrow.below hx).cell 0 _ rfl, (hrow.below hx).cell 1 _ rfl, (hrow.below hx).cell 2 _ rfl⟩
  have c3 := hrow.cell 3 _ rfl
  have c4 := hrow.cell 4 _ rfl
  have KD : Hid (0 < n → ∃ b o, a = some ⟨b, o, none⟩ ∧ ∀ x : World, Below W.heap.size W x → ∀ j, j < n → x.cell? ⟨b, o + j, none⟩ = some (.int .i64 (d[j]?.getD 0))) := fun h0 => by
    obtain ⟨b, o, e1, e2⟩ := hcell h0
    exact ⟨b, o, e1, fun x hx j hj => e2 x (by have h1 := HB.out; have h2 := HSZ.out; rw [h2]; exact h1.trans (hx.mono (by have := h1.size; omega))) j hj⟩
  have h1 := hg.b1
  have h2 := hg.b64
  have h3 := hg.s1
  have h4 := hg.s8
  have h5 := hg.y1
  have h6 := hg.y4
  have HNN := Lib.hid hnn
  have HM : Hid (n ≤ maxLen) := hm
  obtain ⟨z, hz⟩ : ∃ z, g.slots = z := ⟨_, rfl⟩
  have hz32 : z ≤ 32 := by rw [← hz]; exact Nat.le_trans (Nat.mul_le_mul h4 h6) (by decide)
  have HZ := Lib.hid hz
  have HSC := Lib.hid (sg_slots g hg r W)
  have HNW : Hid (∀ x : World, Calls Tryz.prog 27 #[.int .i64 (g.b : Int)] x fun e w' => ∃ v, e = .returned v ∧ Sl .u8 w' v (List.replicate g.n9 0) ∧ Below x.heap.size x w') := fun x => bi_new (g.b : Int) x
  rw [hz] at HSC
  obtain ⟨c0, c1, c2⟩ := KG.out W (Below.refl _ _)
  have HWB : Hid (B ≤ W.heap.size) := by show B ≤ W.heap.size; have := HB.out.size; have := HSZ.out; omega
  have HDI : Hid (∀ x ∈ d, Is64 x) := hd
  clear hrow hcell hnn hm hz hd
  by_cases hlen : n = z
  · subst hlen
    have g0 : ((n : Int) == (n : Int)) = true := by simp
    have g00 : ((n : Int) != (n : Int)) = false := by simp
    unfold SG.v at *
    go_enter Tryz.func41, Tryz.ntmps41
    go_wp2_with fail
    refine HSC.out.mono ?_
    rintro e x1 ⟨rfl, hx1⟩
    have H1 : Hid (Below W.heap.size W x1) := hx1
    clear hx1 c0 c1 c2 c3 c4 HSC
    obtain ⟨c0, -, -⟩ := KG.out x1 H1.out
    go_wp2_with fail
    refine (HNW.out x1).mono ?_
    rintro e x2 ⟨v0, rfl, hv0, hx2⟩
    have HV0 := Lib.hid hv0
    have H2 : Hid (Below W.heap.size W x2) := H1.out.trans (hx2.mono H1.out.size)
    clear hv0 hx2 c0 H1 HNW
    go_wp2_with fail
    have HLen : Hid (d.length = g.slots) := by show _ = _; rw [HNN.out, HZ.out]
    go_loopw [5, 18] (fun sv iv wr => ∃ k : Nat, k ≤ n ∧ iv = .int .i64 (k : Int) ∧ Hid (Sl .u8 wr sv (seenK g d k)) ∧ Hid (Below W.heap.size W wr) ∧ Hid (∀ j, j < k → dirtAt g d j = true)) (fun _ iv _ => n - (intOf iv).toNat)
    case atStart => exact ⟨0, Nat.zero_le _, rfl, by rw [seen_zero]; exact HV0, H2, fun j hj => absurd hj (Nat.not_lt_zero _)⟩
    case round =>
      obtain ⟨k, hk, rfl, HSV, HBw, HP⟩ := hrel
      by_cases hlt : k < n
      · have q1 : (k : Int) < (n : Int) := by omega
        have HLT := Lib.hid hlt
        obtain ⟨ba, oa, rfl, HC⟩ := KD.out (by omega)
        have d0 := HC _ HBw.out k hlt
        obtain ⟨x, hx⟩ : ∃ x, d[k]?.getD 0 = x := ⟨_, rfl⟩
        rw [hx] at d0
        have hxm : Is64 x := by
          rw [← hx]
          exact HDI.out _ (by rw [List.getElem?_eq_getElem (show k < d.length by rw [HNN.out]; exact hlt)]; exact List.getElem_mem _)
        have HX := Lib.hid hx
        have HX6 := Lib.hid hxm
        have hkd : Hid (k < d.length) := by show k < _; rw [HNN.out]; exact hlt
        clear hx hxm
        by_cases hm1 : x = -1
        · have q2 : (x == -1) = true := by simpa using hm1
          have HY : Hid (dirtAt g d k = true) := by show _ = _; unfold dirtAt; rw [HX.out, q2]; rfl
          have HS2 : Hid (Sl .u8 wr u5 (seenK g d (k + 1))) := by show Sl _ _ _ _; rw [seen_skip g hkd.out (by rw [HX.out]; exact hm1)]; exact HSV.out
          clear hm1 hlt HSV
          go_wp2_with fail
          exact ⟨⟨k + 1, HLT.out, by simp, HS2, HBw, fun j hj => by
            by_cases e : j = k
            · subst e; exact HY.out
            · exact HP.out j (by omega)⟩, by have := HLT.out; simp [intOf]; omega⟩
        · have q2 : (x == -1) = false := by simpa using hm1
          have e0 : ∀ y : Ext wr, y.1.cell? ⟨B, 0, none⟩ = some (.int .i64 (g.b : Int)) := fun y => (KG.out _ (HBw.out.trans (y.2.mono HBw.out.size))).1
          have e1 : ∀ y : Ext wr, y.1.cell? ⟨B, 1, none⟩ = some (.int .i64 (g.s : Int)) := fun y => (KG.out _ (HBw.out.trans (y.2.mono HBw.out.size))).2.1
          have e2 : ∀ y : Ext wr, y.1.cell? ⟨B, 2, none⟩ = some (.int .i64 (g.y : Int)) := fun y => (KG.out _ (HBw.out.trans (y.2.mono HBw.out.size))).2.2
          have HDT := Lib.hid (dirt_test hg HX.out hm1)
          obtain ⟨tv, htv⟩ : ∃ tv, decide (0 ≤ x ∧ x ≤ (g.b : Int) - 1) = tv := ⟨_, rfl⟩
          obtain ⟨hv, hhv⟩ : ∃ hv, hasB (seenK g d k) x = hv := ⟨_, rfl⟩
          have HWI : Hid (∀ y : Ext wr, Calls Tryz.prog 76 #[.int .i64 x, .int .i64 0, .int .i64 ((g.b : Int) - 1)] y.1 fun e w'' => e = .returned (.bool tv) ∧ ∃ z : Ext wr, w'' = z.1) := fun y => (sg_within x 0 ((g.b : Int) - 1) y.1).mono fun e w' h => ⟨by rw [h.1, htv], y, h.2⟩
          have HHS : Hid (∀ y : Ext wr, Calls Tryz.prog 77 #[u5, .int .i64 x] y.1 fun e w'' => e = .returned (.bool hv) ∧ ∃ z : Ext wr, w'' = z.1) := fun y => calls_ext y (by rw [← hhv]; exact bi_has _ _ x (wf_i64 HX6.out.1 HX6.out.2) y.1 (HSV.out.below y.2) (seen_bytes g d k))
          rw [htv, hhv] at HDT
          cases tv with
          | false =>
            have HY : Hid (sDirty g d = false) := dirt_no (k := k) hkd.out (by rw [HDT.out]; rfl)
            clear hm1 hlt htv hhv
            go_wp2_with fail
            refine region_ext (by kernel_rfl) (by kernel_rfl) ?_
            repeat (go_big_quiet_step (with_reducible (first | exact HWI.out _ | exact HHS.out _)))
            try (with_reducible refine wpQuiet_nil ?_)
            intro y
            have HYB : Hid (Below W.heap.size W y.1) := HBw.out.trans (y.2.mono HBw.out.size)
            go_wp2_with fail
            go_ret
            rw [HY.out]
            exact ⟨rfl, by rw [HSZ.out]; exact HB.out.trans (HYB.out.mono HWB.out)⟩
          | true =>
            have hxr : 0 ≤ x ∧ x ≤ (g.b : Int) - 1 := of_decide_eq_true htv
            obtain ⟨xn, rfl⟩ : ∃ xn : Nat, x = (xn : Int) := ⟨x.toNat, by omega⟩
            obtain ⟨rm, hrm⟩ : ∃ rm, xn % g.s = rm := ⟨_, rfl⟩
            obtain ⟨qt, hqt⟩ : ∃ qt, k / g.y = qt := ⟨_, rfl⟩
            have hrmi : (xn : Int) % (g.s : Int) = (rm : Int) := by rw [← hrm]; simp
            have hqti : (k : Int) / (g.y : Int) = (qt : Int) := by rw [← hqt]; simp
            have hqk : qt ≤ k := by rw [← hqt]; exact Nat.div_le_self _ _
            have hxn : xn < 64 := by omega
            by_cases hC : rm = qt
            · have q6 : ((rm : Int) != (qt : Int)) = false := by simp; omega
              have HDT2 : Hid (dirtAt g d k = !hv) := by
                show _ = _
                rw [HDT.out, hrmi, hqti, hC]
                simp
              cases hv with
              | true =>
                have HY : Hid (sDirty g d = false) := dirt_no (k := k) hkd.out (by rw [HDT2.out]; rfl)
                clear hm1 hlt htv hhv hxr hrm hqt hC
                go_wp2_with fail
                refine region_ext (by kernel_rfl) (by kernel_rfl) ?_
                repeat (go_big_quiet_step (with_reducible (first | exact HWI.out _ | exact HHS.out _)))
                try (with_reducible refine wpQuiet_nil ?_)
                intro y
                have HYB : Hid (Below W.heap.size W y.1) := HBw.out.trans (y.2.mono HBw.out.size)
                go_wp2_with fail
                go_ret
                rw [HY.out]
                exact ⟨rfl, by rw [HSZ.out]; exact HB.out.trans (HYB.out.mono HWB.out)⟩
              | false =>
                have HY : Hid (dirtAt g d k = true) := HDT2.out
                have HWT : Hid (∀ x : World, Below wr.heap.size wr x → Calls Tryz.prog 78 #[u5, .int .i64 (xn : Int)] x fun e w' => ∃ v', e = .returned v' ∧ Sl .u8 w' v' (seenK g d (k + 1)) ∧ Below x.heap.size x w') := fun y hy => by
                  rw [seen_put g hkd.out (by rw [HX.out]; exact hm1), HX.out]
                  exact bi_with _ _ _ (wf_i64 HX6.out.1 HX6.out.2) y (HSV.out.below hy) (seen_bytes g d k) (by rw [seen_len]; unfold SG.n9; have := sizeB_le64 hg; omega)
                clear hm1 hlt htv hhv hxr hrm hqt hC
                go_wp2_with fail
                refine region_ext (by kernel_rfl) (by kernel_rfl) ?_
                repeat (go_big_quiet_step (with_reducible (first | exact HWI.out _ | exact HHS.out _)))
                try (with_reducible refine wpQuiet_nil ?_)
                intro y
                have HYB : Hid (Below W.heap.size W y.1) := HBw.out.trans (y.2.mono HBw.out.size)
                have HW1 := Lib.hid (HWT.out y.1 y.2)
                clear e0 e1 e2 HWI HHS HWT d0
                go_wp2_with fail
                refine HW1.out.mono ?_
                rintro e x3 ⟨v3, rfl, hv3, hx3⟩
                have HS3 : Hid (Sl .u8 x3 v3 (seenK g d (k + 1))) := hv3
                have HB3 : Hid (Below W.heap.size W x3) := HYB.out.trans (hx3.mono HYB.out.size)
                clear hv3 hx3 HW1
                go_wp2_with fail
                exact ⟨⟨k + 1, HLT.out, by simp, HS3, HB3, fun j hj => by
                  by_cases e : j = k
                  · subst e; exact HY.out
                  · exact HP.out j (by omega)⟩, by have := HLT.out; simp [intOf]; omega⟩
            · have q6 : ((rm : Int) != (qt : Int)) = true := by simp; omega
              have HY : Hid (sDirty g d = false) := dirt_no (k := k) hkd.out (by
                rw [HDT.out, hrmi, hqti]
                have : ((rm : Int) == (qt : Int)) = false := by simp; omega
                rw [this]
                simp)
              clear hm1 hlt htv hhv hxr hrm hqt hC
              go_wp2_with fail
              refine region_ext (by kernel_rfl) (by kernel_rfl) ?_
              repeat (go_big_quiet_step (with_reducible (first | exact HWI.out _ | exact HHS.out _)))
              try (with_reducible refine wpQuiet_nil ?_)
              intro y
              have HYB : Hid (Below W.heap.size W y.1) := HBw.out.trans (y.2.mono HBw.out.size)
              go_wp2_with fail
              go_ret
              rw [HY.out]
              exact ⟨rfl, by rw [HSZ.out]; exact HB.out.trans (HYB.out.mono HWB.out)⟩
      · obtain rfl : k = n := by omega
        have HY : Hid (sDirty g d = true) := dirt_yes HLen.out fun j hj => HP.out j (by rw [HNN.out] at hj; exact hj)
        clear hlt
        go_wp2_with fail
        go_ret
        rw [HY.out]
        exact ⟨rfl, by rw [HSZ.out]; exact HB.out.trans (HBw.out.mono HWB.out)⟩
  · have g0 : ((n : Int) != (z : Int)) = true := by simp; omega
    have HY : Hid (sDirty g d = false) := by
      show _ = _
      unfold sDirty
      rw [HNN.out, HZ.out, decide_eq_false hlen]
      rfl
    unfold SG.v at *
    clear hlen
    go_enter Tryz.func41, Tryz.ntmps41
    go_wp2_with fail
    refine HSC.out.mono ?_
    rintro e x1 ⟨rfl, hx1⟩
    have H1 : Hid (Below W.heap.size W x1) := hx1
    clear hx1 c0 c1 c2 c3 c4 HSC
    go_wp2_with fail
    go_ret
    rw [HY.out]
    exact ⟨rfl, by rw [HSZ.out]; exact HB.out.trans (H1.out.mono HWB.out)⟩
end Go.Proofs.YtajamblkjmafmaaGreat

/- The document's places and pairs: of each block its place, and back. -/
namespace Go.Proofs.YtajamblkjmafmaaGreat
open Go.RowKit Go.Shelf Go.Lib
set_option linter.unusedVariables false
set_option linter.unusedSimpArgs false
attribute [-simp] Tryz.isAgg55 Tryz.zeroValue55 Tryz.isAgg57 Tryz.zeroValue57 Tryz.isAgg30 Tryz.zeroValue30
attribute [-go_sem] loadVar storeVar
attribute [local go_sem] loadVar_openQ storeVar_openQ zero_sn zero_prs zero_st
/-- Pairs whose places go into bytes. -/
def PlOk (b : Nat) (ps : List (Int × Int)) : Prop := ∀ p ∈ ps, 0 ≤ p.1 ∧ p.1 < (b : Int) ∧ 0 ≤ p.2 ∧ (p.2 = 255 ∨ p.2 < 254)
end Go.Proofs.YtajamblkjmafmaaGreat

/- The document's pairs: a plan's or a table's bytes read back. -/
namespace Go.Proofs.YtajamblkjmafmaaGreat
open Go.RowKit Go.Shelf Go.Lib
set_option linter.unusedVariables false
set_option linter.unusedSimpArgs false
attribute [-simp] Tryz.isAgg55 Tryz.zeroValue55 Tryz.isAgg57 Tryz.zeroValue57 Tryz.isAgg30 Tryz.zeroValue30
attribute [-go_sem] loadVar storeVar
attribute [local go_sem] loadVar_openQ storeVar_openQ zero_sn zero_prs zero_st build_prs
theorem prFrom_append : ∀ (l m : List Int) (k : Nat), prFrom k (l ++ m) = prFrom k l ++ prFrom (k + l.length) m
  | [], m, k => by simp [prFrom]
  | x :: l, m, k => by
    have ih := prFrom_append l m (k + 1)
    rw [List.cons_append, prFrom_cons, prFrom_cons, ih, List.length_cons, show k + 1 + l.length = k + (l.length + 1) by omega]
    by_cases h : 0 < x <;> simp [h]
theorem prFrom_len : ∀ (l : List Int) (k : Nat), (prFrom k l).length ≤ l.length
  | [], k => by simp [prFrom]
  | x :: l, k => by
    have ih := prFrom_len l (k + 1)
    rw [prFrom_cons]
    by_cases h : 0 < x <;> simp [h] <;> omega
theorem prFrom_succ {bs : List Int} {k : Nat} (h : k < bs.length) : prFrom 0 (bs.take (k + 1)) = prFrom 0 (bs.take k) ++ (if 0 < bs[k]?.getD 0 then [((k : Int), plA (bs[k]?.getD 0))] else []) := by
  have e : bs[k]? = some bs[k] := List.getElem?_eq_getElem h
  rw [take_at e, prFrom_append, List.length_take, Nat.min_eq_left (by omega), Nat.zero_add, prFrom_cons, e]
  rfl
end Go.Proofs.YtajamblkjmafmaaGreat

/- The program's state: the pairs that bytes tell, collected out of a range function. -/
namespace Go.Proofs.YtajamblkjmafmaaGreat
open Go.RowKit Go.Shelf Go.Lib
set_option linter.unusedVariables false
set_option linter.unusedSimpArgs false
attribute [-simp] Tryz.isAgg57 Tryz.zeroValue57
attribute [-go_sem] loadVar storeVar
attribute [local go_sem] loadVar_openP storeVar_openP zero_prs build_prs
attribute [local go_sem] Oper.semAt_some
/-- The item number j. -/
def encPd (l : List (Int × Int)) (j : Nat) : Array Value := #[.agg #[.int .i64 (l[j]?.getD (0, 0)).1, .int .i64 (l[j]?.getD (0, 0)).2]]
/-- What the box of the range function holds. -/
structure PdB (Bb : Nat) (v : Value) (bs : List Int) (W : World) : Prop where
  cl : W.cell? ⟨Bb, 0, none⟩ = some v
  sl : Sl .u8 W v bs
set_option maxRecDepth 100000 in
set_option maxHeartbeats 1000000 in
theorem pld_in (F : Fence) (n : Nat) (hf : F.fn 71) (hro : F.round = none) (a : Option Addr) (len cap : Nat) (w : World) :
    CallsIn F n Tryz.prog 71 #[.slice a len cap] w fun e w' => e = .returned (.func (.func 104) #[] #[.pointer (some ⟨w.heap.size, 0, none⟩)]) ∧
      w' = w.alloc (.cells #[.slice a len cap] 31) := by
  refine callsIn_of_wp Tryz.func71 rfl hf ?_ hro
  simp only [Tryz.ntmps71, List.size_toArray, List.length_cons, List.length_nil, Nat.reduceAdd, Nat.reduceSub, Array.replicate_succ, Array.replicate_zero, List.push_toArray, List.append_toArray, List.nil_append, List.cons_append]
  gi_wp2
  go_ret
  exact ⟨rfl, rfl⟩
theorem prFrom_pre (bs : List Int) {k : Nat} (h : k ≤ bs.length) : ∃ R, prFrom 0 bs = prFrom 0 (bs.take k) ++ R := by
  have := prFrom_append (bs.take k) (bs.drop k) 0
  rw [List.take_append_drop] at this
  exact ⟨_, this⟩

set_option maxRecDepth 100000 in
set_option maxHeartbeats 2000000 in
theorem pld1_seq (n : Nat) (hn : 1 ≤ n) (Bb : Nat) (v : Value) (bs : List Int) (hb : IsBytes bs) (hl : bs.length ≤ 1000) (w : World) :
    SeqNum Fence.wide n Tryz.prog 104 #[.pointer (some ⟨Bb, 0, none⟩)] (encPd (prFrom 0 bs)) (PdB Bb v bs) (prFrom 0 bs).length w := by
  intro lp J Jx W hW hJR _ _ hY h0
  have hR0 := hJR 0 W h0
  have HJR := Lib.hid hJR
  have HY := Lib.hid hY
  have HB := Lib.hid hb
  obtain ⟨a, cap, rfl, -⟩ := id hR0.sl
  obtain ⟨len, hle⟩ : ∃ len, bs.length = len := ⟨_, rfl⟩
  rw [hle] at hl HJR
  have HL := Lib.hid hle
  have hcl := hR0.cl
  rw [hle] at hcl
  have H0 : Hid (J (prFrom 0 (bs.take 0)).length W) := h0
  clear hR0 hY hJR hW hle h0 hb
  refine callsIn_of_wp Tryz.func104 rfl trivial ?_ rfl
  simp only [Tryz.ntmps104, List.size_toArray, List.length_cons, List.length_nil, Nat.reduceAdd, Nat.reduceSub, Array.replicate_succ, Array.replicate_zero, List.push_toArray, List.append_toArray, List.nil_append, List.cons_append]
  gi_wp2
  clear hcl
  gi_loopw [8] (fun iv wr => ∃ k : Nat, k ≤ len ∧ iv = .int .i64 (k : Int) ∧ Hid (J (prFrom 0 (bs.take k)).length wr)) (fun iv _ => len - (intOf iv).toNat)
  case atStart => exact ⟨0, Nat.zero_le _, rfl, H0⟩
  case round =>
    obtain ⟨k, hk, rfl, HJ⟩ := hrel
    by_cases hkm : k < len
    · have g1 : (k : Int) < (len : Int) := by omega
      have HKM := Lib.hid hkm
      obtain ⟨y, hy, hy8⟩ := byte_of bs HB.out k
      have hkl : k < bs.length := by rw [HL.out]; exact hkm
      obtain ⟨ba, oa, rfl, hbb, hcs⟩ : ∃ b o, a = some ⟨b, o, none⟩ ∧ b < wr.heap.size ∧ wr.cell? ⟨b, o + k, none⟩ = some (.int .u8 (y : Int)) := by
        obtain ⟨a', cap', e, h1, h2, h3, h4⟩ := (HJR.out _ wr HJ.out).sl
        cases e
        rcases h3 with h3 | ⟨b, o, rfl, h5, h6⟩
        · rw [h3] at hkl; exact absurd hkl (Nat.not_lt_zero _)
        · exact ⟨b, o, rfl, h5, by rw [← hy]; exact h6 k hkl⟩
      have HPS := Lib.hid (prFrom_succ hkl)
      obtain ⟨R, hR⟩ := prFrom_pre bs (show k + 1 ≤ bs.length by omega)
      rw [hy] at HPS
      have HRR := Lib.hid hR
      have HME : Hid (∀ x : World, Calls Tryz.prog 68 #[.int .u8 (y : Int)] x fun e w' => e = .returned (.int .i64 (plA (y : Int))) ∧ w' = x) := fun x => sg_meant y hy8 x
      by_cases h0 : y = 0
      · subst h0
        have HJ2 : Hid (J (prFrom 0 (bs.take (k + 1))).length wr) := by
          show J _ _
          rw [HPS.out, if_neg (by omega), List.append_nil]
          exact HJ.out
        have e0 : plA ((0 : Nat) : Int) = -1 := rfl
        rw [e0] at HME
        clear hkm hkl hR hy e0 hbb
        gi_wp2_with (refine ⟨trivial, ?_⟩; gi_at_call 68; refine (callsIn_wide.2 (HME.out _)).mono ?_; rintro e W5 ⟨rfl, rfl⟩; gi_wp2; refine ⟨fun _ h => (by cases h), ?_⟩)
        exact ⟨⟨k + 1, HKM.out, by simp, HJ2⟩, by have := HKM.out; simp [intOf]; omega⟩
      · have hN : (prFrom 0 (bs.take k)).length < (prFrom 0 bs).length := by
          rw [hR, HPS.out, if_pos (by omega)]
          simp only [List.length_append, List.length_cons, List.length_nil]
          omega
        have hat : (prFrom 0 bs)[(prFrom 0 (bs.take k)).length]? = some ((k : Int), plA (y : Int)) := by
          rw [hR, HPS.out, if_pos (by omega), List.append_assoc, List.getElem?_append_right (Nat.le_refl _), Nat.sub_self]
          rfl
        have HLN : Hid ((prFrom 0 (bs.take (k + 1))).length = (prFrom 0 (bs.take k)).length + 1) := by
          show _ = _
          rw [HPS.out, if_pos (by omega), List.length_append]; rfl
        have HNL := Lib.hid hN
        have hy0 := HY.out _ wr hN HJ.out
        unfold encPd at hy0
        rw [hat] at hy0
        simp only [Option.getD_some] at hy0
        obtain ⟨z, hz⟩ : ∃ z, plA (y : Int) = z := ⟨_, rfl⟩
        have hz1 : z ≠ -1 := by rw [← hz]; unfold plA; split <;> omega
        have q1 : (z != -1) = true := by simpa using hz1
        have q2 : (z == -1) = false := by simpa using hz1
        rw [hz] at HME hy0
        obtain ⟨fn, tmps, assign, body, hyy, hRR⟩ := hy0
        clear hkm hkl hR hy hN hat hz hz1 hbb
        gi_wp2_with (refine ⟨trivial, ?_⟩; gi_at_call 68; refine (callsIn_wide.2 (HME.out _)).mono ?_; rintro e W5 ⟨rfl, rfl⟩)
        refine hRR.mono ?_
        rintro e W3 (⟨rfl, hJ3⟩ | ⟨rfl, hJx3⟩)
        · have HJ3 : Hid (J (prFrom 0 (bs.take (k + 1))).length W3) := by show J _ _; rw [HLN.out]; exact hJ3
          clear hJ3
          gi_wp2
          go_roundw
          case rel => exact ⟨k + 1, HKM.out, by simp, HJ3⟩
          case measure => have := HKM.out; simp [intOf]; omega
        · have HJ3 := Lib.hid hJx3
          clear hJx3
          gi_wp2
          refine bodyPost_ret (results_none rfl _ _ _) rfl ?_
          exact ⟨⟨_, rfl⟩, .inr ⟨_, HNL.out, HJ3.out⟩⟩
    · obtain rfl : k = len := by omega
      have g1 : ¬ (k : Int) < (k : Int) := by omega
      have HJ2 : Hid (J (prFrom 0 bs).length wr) := by
        have := HJ.out
        rw [List.take_of_length_le (by rw [HL.out]; exact Nat.le_refl _)] at this
        exact this
      clear hkm
      gi_wp2
      go_end0
      exact ⟨⟨_, rfl⟩, .inl HJ2.out⟩
end Go.Proofs.YtajamblkjmafmaaGreat

/- The program's state: pairs collected. -/
namespace Go.Proofs.YtajamblkjmafmaaGreat
open Go.RowKit Go.Shelf Go.Lib
set_option linter.unusedVariables false
set_option linter.unusedSimpArgs false
attribute [-simp] Tryz.isAgg57 Tryz.zeroValue57
attribute [-go_sem] loadVar storeVar
attribute [local go_sem] loadVar_openP storeVar_openP zero_prs build_prs
attribute [local go_sem] Oper.semAt_some
set_option maxRecDepth 100000 in
set_option maxHeartbeats 4000000 in
theorem sg_appendSeq {w : World} {v : Value} {bs : List Int} (Bb : Nat) (hbb : Bb < w.heap.size) (hP : PdB Bb v bs w) (hb : IsBytes bs) (hl : bs.length ≤ 1000) :
    Calls Tryz.prog 103 #[.slice none 0 0, .func (.func 104) #[] #[.pointer (some ⟨Bb, 0, none⟩)]] w fun e w' => ∃ u, e = .returned u ∧ PrO w.heap.size w' u (prFrom 0 bs) ∧ Below w.heap.size w w' := by
  obtain ⟨B, hB⟩ : ∃ B, w.heap.size = B := ⟨_, rfl⟩
  have HSZ := Lib.hid hB
  have HPP := Lib.hid hP
  have HBB := Lib.hid hbb
  obtain ⟨L, hL⟩ : ∃ L, prFrom 0 bs = L := ⟨_, rfl⟩
  have HLL := Lib.hid hL
  have HLn : Hid (L.length ≤ 1000) := by show _ ≤ _; rw [← hL]; have := prFrom_len bs 0; omega
  have HIS : Hid (∀ p ∈ L, Is64 p.1 ∧ Is64 p.2) := fun p hp => by
    rw [← hL] at hp
    obtain ⟨j, x, hj, hx, rfl⟩ := (prFrom_mem bs 0 p).1 hp
    have hjl := (List.getElem?_eq_some_iff.1 hj).1
    have hx8 := hb j
    rw [hj] at hx8
    simp only [Option.getD_some] at hx8
    unfold Is64 plA
    simp only
    split <;> omega
  obtain ⟨W0, hW0⟩ : ∃ W0, w.alloc (.cells #[.slice none 0 0] 26) = W0 := ⟨_, rfl⟩
  have hWs : W0.heap.size = B + 1 := by rw [← hW0, ← hB]; simp
  have bW : Below B w W0 := by rw [← hW0, ← hB]; exact below_new _ _
  have r1 : RowC W0 B 26 [slV (none, 0, 0)] := by rw [← hW0, ← hB]; exact RowC.new _ _ _
  have HW := Lib.hid hWs
  have I0 : Hid (RowC W0 B 26 [slV (none, 0, 0)] ∧ PrO B W0 (slV (none, 0, 0)) (L.take 0) ∧ Below B w W0) := ⟨r1, PrO.nil _ _, bW⟩
  have hseq := pld1_seq 2 (by omega) Bb v bs hb hl W0
  rw [hL] at hseq ⊢
  clear r1 bW hP hL hbb
  refine (callsIn_wide (n := 3)).1 ?_
  refine callsIn_of_wp_marks Tryz.func103 rfl trivial ?_ rfl
  simp only [Tryz.ntmps103, List.size_toArray, List.length_cons, List.length_nil, Nat.reduceAdd, Nat.reduceSub, Array.replicate_succ, Array.replicate_zero, List.push_toArray, List.append_toArray, List.nil_append, List.cons_append]
  gi_wp2_with fail
  try rw [hW0]
  try rw [hB]
  clear hW0
  refine wpIn_rangeFunc_num (n := 3) rfl (by omega) (gf := 104) (lb := #[.pointer (some ⟨Bb, 0, none⟩)]) rfl trivial (enters_of Tryz.func104 (by kernel_rfl) rfl)
    hseq (Below.refl _ _) (fun _ => rfl)
    (fun k W => ∃ u : SlV, RowC W B 26 [slV u] ∧ PrO B W (slV u) (L.take k) ∧ Below B w W)
    (fun c k W => False)
    ?hR ?hI (fun c s Y Z row h => h.elim) ⟨_, I0.out⟩
    (fun k a' W => ∃ C p, B < C ∧ L[k]? = some p ∧ RowC W C 57 [.int .i64 p.1, .int .i64 p.2] ∧ a' = { tmps := #[.slice none 0 0, .func (.func 104) #[] #[.pointer (some ⟨Bb, 0, none⟩)], .pointer (some ⟨B, 0, none⟩), undef, .slice none 0 0, .pointer (some ⟨C, 0, none⟩), .func (.func 104) #[] #[.pointer (some ⟨Bb, 0, none⟩)], .agg #[.int .i64 p.1, .int .i64 p.2], undef, undef, undef, undef, undef], defers := [] })
    ?hAx ?assign ?body ?done ?stop
  case hR =>
    rintro k W ⟨u, g1, g2, g3⟩
    exact ⟨(g3.cell (p := ⟨Bb, 0, none⟩) (by rw [← HSZ.out]; exact HBB.out)).trans HPP.out.cl, HPP.out.sl.below (by rw [HSZ.out]; exact g3)⟩
  case hI =>
    intro s Y Z row ⟨u, g1, g2, g3⟩ hg hr
    refine ⟨u, rowC_own g1 hg hr, ⟨row_own g2.1 hg hr, g2.2⟩, below_own g3 (by omega) hg (fun r e => ⟨by have := (hr r e).1; have := HW.out; have := HSZ.out; omega, (hr r e).2⟩)⟩
  case hAx =>
    rintro k a' _ Y Z row ⟨C, p, f1, f2, f3, f4⟩ hg hr
    exact ⟨C, p, f1, f2, rowC_own f3 hg hr, f4⟩
  case assign =>
    rintro lp k W K hkm ⟨u, g1, g2, g3⟩ hK
    obtain ⟨p, hp⟩ : ∃ p, L[k]? = some p := ⟨_, List.getElem?_eq_getElem hkm⟩
    have ST := new_prs W p.1 p.2
    have hK := hK _ _ (keepsFrom_below (below_new W (.cells #[.int .i64 p.1, .int .i64 p.2] 57))) ⟨u, g1.below (below_new W _), g2.below (below_new W _), g3.trans ((below_new W _).mono (by have := g3.size; omega))⟩ ⟨W.heap.size, p, g1.lt, hp, RowC.new W _ _, rfl⟩
    unfold encPd
    rw [hp]
    simp only [Option.getD_some]
    clear g1 g2 g3 hp
    gi_wp2
    exact hK
  case body =>
    rintro lp k a' W _ _ hkm ⟨u, g1, g2, g3⟩ ⟨C, p, hC, hp, hx, rfl⟩
    obtain ⟨p1, p2⟩ := p
    have HTK := Lib.hid (take_at hp)
    have d2 := g1.cell 0 _ rfl
    have LD := load_prs (hx.cell 0 _ rfl) (hx.cell 1 _ rfl)
    have hpi := HIS.out _ (List.mem_of_getElem? hp)
    have bY := below_new W (.cells #[.int .i64 p1, .int .i64 p2] 57)
    have SB := Lib.hid (slice_prs W p1 p2)
    obtain ⟨v3, y3, hA, O3, hg3, -⟩ := pr_append (g2.below bY) (PrO.one W (p1, p2) hpi).prt (by have := g3.size; have := bY.size; omega) (by rw [List.length_take]; have := HLn.out; simp; omega)
    obtain ⟨⟨xx, nn, cc⟩, rfl, -⟩ := own_slV O3.1
    skip
    obtain ⟨Y2, hY2⟩ : ∃ Y, W.alloc (.cells #[.int .i64 p1, .int .i64 p2] 57) = Y := ⟨_, rfl⟩
    rw [hY2] at SB hA hg3 bY
    have o1 : PrO B Y2 (slV u) (L.take k) := g2.below bY
    have K1 : RowC y3 B 26 [slV u] := (g1.below bY).grown hg3 (row_ne o1.1 (g1.below bY) (by decide))
    have HK1 := Lib.hid K1
    have f0 := K1.frozen 0
    have e0 := K1.cell 0 _ rfl
    have HKF : Hid (KeepsFrom W0.heap.size W y3) := keepsFrom_trans (keepsFrom_below bY) (keepsFrom_row o1.1 hg3)
    have HO3 : Hid (PrO B y3 (slV (xx, nn, cc)) (L.take (k + 1))) := by show PrO _ _ _ _; rw [HTK.out]; exact O3
    have HB3 : Hid (Below B w y3) := (g3.trans (bY.mono (by have := g3.size; omega))).grown hg3 (by have := g3.size; have := bY.size; omega) (own_block o1.1)
    have HA := Lib.hid hA
    simp only [slV] at HA e0 d2
    clear g1 g2 g3 hx bY hA O3 hg3 o1 K1 hp hpi hY2
    gi_step
    gi_step
    refine region_seq_roundC (letsOut_inBlock letsOut_num) (by kernel_rfl) ?_
    go_wp2_with (first | (with_reducible refine gate_build ?_; refine wpList_build_run 26 1 #[(0, .tmp 9)] rfl rfl [(0, .agg #[.int .i64 p1, .int .i64 p2])] _ rfl SB.out ?_) | (at_builtin; refine wpList_append_run (.tmp 8) (.tmp 10) 26 rfl rfl _ _ _ rfl rfl (HA.out _) ?_))
    have HKQ : KeepsFrom (B + 1) W y3 := by have := HKF.out; rwa [HW.out] at this
    exact ⟨keepsFrom_trans HKQ (keepsFrom_cells HK1.out (grownBy_setCellJ y3 B 0 _)), xx, nn, cc, HK1.out.set 0 _, ⟨own_setB HO3.out.1 HK1.out (by decide) 0 _, HO3.out.2⟩, set_below HB3.out (Nat.le_refl _) 0 _⟩
  case done =>
    rintro D W hD ⟨u, g1, g2, g3⟩ hK
    have d3 := g1.cell 0 _ rfl
    have G2 := Lib.hid g2
    have G3 := Lib.hid g3
    have HK := Lib.hid hK
    clear g1 g2 g3 hK
    gi_wp2
    refine ⟨by simp, .inl ⟨_, _, rfl, run_takeDeferred HK.out, ?_⟩⟩
    have hg2 := grownBy_putObj' W D (.deferred none)
    refine ⟨_, results_tmp rfl _ _ _, _, rfl, ?_, ?_⟩
    · have := row_own (M := 0) G2.out.1 hg2 (fun r e => by cases e; exact ⟨Nat.zero_le _, _, HK.out, rfl⟩)
      have h2 := G2.out.2
      rw [List.take_length] at this h2
      rw [HSZ.out]
      exact ⟨this, h2⟩
    · rw [HSZ.out]
      exact G3.out.trans (belowK_b (w := w) (by omega) W D _ _ (by have := HW.out; have := HSZ.out; omega) HK.out rfl rfl)
  case stop =>
    rintro D c k W hD _ h hK
    exact h.elim
set_option maxRecDepth 100000 in
set_option maxHeartbeats 2000000 in
theorem sg_collect {w : World} {v : Value} {bs : List Int} (Bb : Nat) (hbb : Bb < w.heap.size) (hP : PdB Bb v bs w) (hb : IsBytes bs) (hl : bs.length ≤ 1000) :
    Calls Tryz.prog 70 #[.func (.func 104) #[] #[.pointer (some ⟨Bb, 0, none⟩)]] w fun e w' => ∃ u, e = .returned u ∧ PrO w.heap.size w' u (prFrom 0 bs) ∧ Below w.heap.size w w' := by
  have HP := Lib.hid (sg_appendSeq Bb hbb hP hb hl)
  clear hP hb hl hbb
  go_enter Tryz.func70, Tryz.ntmps70
  go_wp2_with fail
  refine HP.out.mono ?_
  rintro e w1 ⟨v', rfl, ho, hB⟩
  have HO := Lib.hid ho
  have HB := Lib.hid hB
  clear ho hB HP
  go_wp2_with fail
  go_ret
  exact ⟨_, rfl, HO.out, HB.out⟩
set_option maxRecDepth 100000 in
/-- **Pairs of bytes**, in one call and the next. -/
theorem sg_placed (a : Option Addr) (len cap : Nat) (w : World) : Calls Tryz.prog 71 #[.slice a len cap] w fun e w' => e = .returned (.func (.func 104) #[] #[.pointer (some ⟨w.heap.size, 0, none⟩)]) ∧ w' = w.alloc (.cells #[.slice a len cap] 31) :=
  callsIn_wide.1 (pld_in Fence.wide 3 trivial rfl a len cap w)
end Go.Proofs.YtajamblkjmafmaaGreat

/- The document's Encode of a state. -/
namespace Go.Proofs.YtajamblkjmafmaaGreat
open Go.RowKit Go.Shelf Go.Lib
set_option linter.unusedVariables false
set_option linter.unusedSimpArgs false
attribute [-simp] Tryz.isAgg55 Tryz.zeroValue55 Tryz.isAgg57 Tryz.zeroValue57 Tryz.isAgg30 Tryz.zeroValue30
attribute [-go_sem] loadVar storeVar
attribute [local go_sem] loadVar_openQ storeVar_openQ zero_sn zero_prs zero_st build_sn build_sn2
theorem own_weakB {W x : World} {v : Value} {bs : List Int} {N : Nat} (h : x.ownsRow N 5 1 v bs.length (u8s bs)) (hN : W.heap.size ≤ N) : OwnB W x v bs := by
  refine ⟨h.1, ?_⟩
  rcases h.2 with h' | ⟨g, cap, cur, e, h1, h2⟩
  · exact .inl h'
  · exact .inr ⟨g, cap, cur, e, Nat.le_trans hN h1, h2⟩
theorem PrIn.plOk {g : SG} {ps : List (Int × Int)} (h : PrIn g ps) : PlOk g.b ps := fun p hp => by
  have a := h.rng p hp
  have b := h.val p hp
  exact ⟨a.1, a.2, b.1, by omega⟩
theorem dirt_rng {g : SG} (hg : g.Ok) {d : List Int} (h : sDirty g d = true) : ∀ x ∈ d, -1 ≤ x ∧ x < 64 := fun x hx => by
  have hb := hg.b64
  unfold sDirty at h
  rw [Bool.and_eq_true, List.all_eq_true] at h
  obtain ⟨i, hi, rfl⟩ := List.getElem_of_mem hx
  have := h.2 i (List.mem_range.2 hi)
  unfold dirtAt at this
  rw [List.getElem?_eq_getElem hi] at this
  simp at this
  omega
theorem kd_rng {g : SG} {s : ST} (h : sGood g s = true) : 0 ≤ s.kd ∧ s.kd ≤ 2 := by
  unfold sGood at h
  rw [Bool.and_eq_true] at h
  have := h.2
  unfold sPlan at this
  by_cases a : s.kd = 0
  · omega
  · by_cases b : s.kd = 1
    · omega
    · by_cases c : s.kd = 2
      · omega
      · rw [if_neg a, if_neg b, if_neg c] at this
        cases this
set_option maxRecDepth 100000 in
theorem OwnB.appG {W x : World} {v u : Value} {xs bs : List Int} (h : OwnB W x v xs) (hb : Below W.heap.size W x) (hu : Sl .u8 x u bs) (hl : xs.length + bs.length ≤ 1000000) :
    ∃ v' x', Hid ((Builtin.append_ #[31, 31] 31 #[v, u]).run Tryz.prog x = .ok v' x') ∧ Hid (OwnB W x' v' (xs ++ bs)) ∧ Hid (Below W.heap.size W x') ∧ x.grownBy x' v.ownBlock := by
  obtain ⟨v', x', r1, r2, r3⟩ := run_append_bytes W.heap.size x v xs h u bs hu (by omega) hb.size
  exact ⟨v', x', r1, r2, hb.grown r3 hb.size (fun k e => (h.lt k e).1), r3⟩
theorem sEnc_is (g : SG) (d : List Int) (l : List SN) (nx kd id : Int) (ps : List (Int × Int)) : sEnc g ⟨d, l, nx, kd, id, ps⟩ = ((putL nx 4 ++ [(l.length : Int), kd] ++ putL id 4) ++ d.map (· + 1)) ++ (sSnaps g l).flatten ++ sPlaces g.b ps := by
  simp [sEnc, List.append_assoc]
theorem snaps_succ (g : SG) (l : List SN) {k : Nat} (hk : k < 8) : ((sSnaps g l).take (k + 1)).flatten = ((sSnaps g l).take k).flatten ++ sSnapB g (l[k]?.getD (noS g)) := by
  have h : (sSnaps g l)[k]? = some (sSnapB g (l[k]?.getD (noS g))) := by
    unfold sSnaps
    rw [List.getElem?_map, List.getElem?_range hk]
    rfl
  rw [take_at h, List.flatten_append]
  simp
theorem snaps_all (g : SG) (l : List SN) : (sSnaps g l).take 8 = sSnaps g l := List.take_of_length_le (by unfold sSnaps; simp)
set_option maxRecDepth 100000 in
theorem build_sn1 (x : Option Addr) (n c : Nat) (w : World) : (Instr.build 55 #[(1, .slice x n c)]).run Tryz.prog w = .ok (svV (0, (x, n, c), (none, 0, 0))) w := by kernel_rfl
/-- Worlds in which a row of cells lies. -/
def RowT (C : Nat) (t : TypeId) (L : List Value) : Type := {x : World // RowC x C t L}
attribute [local go_sem] build_sn1
/-- What Encode answers. -/
def EncR (g : SG) (s : ST) (N : Nat) (w' : World) (u : Value) (c : Int) : Prop := (sGood g s = true → c = 0 ∧ w'.ownsRow N 5 1 u (sEnc g s).length (u8s (sEnc g s))) ∧ (sGood g s = false → c = 11 ∧ u = .slice none 0 0)
theorem lit1_sl (x : World) (a : Int) : Sl .u8 (x.alloc (.cells #[.int .u8 a] 5)) (.slice (some ⟨x.heap.size, 0, none⟩) 1 1) [a] :=
  Sl.of_owns (World.ownsRow_lit (base := x.heap.size) x #[.int .u8 a] 1 (Nat.le_refl _) (by simp [maxLen]) rfl)

end Go.Proofs.YtajamblkjmafmaaGreat

/- The document's First. -/
namespace Go.Proofs.YtajamblkjmafmaaGreat
open Go.RowKit Go.Shelf Go.Lib
set_option linter.unusedVariables false
set_option linter.unusedSimpArgs false
attribute [-simp] Tryz.isAgg55 Tryz.zeroValue55 Tryz.isAgg57 Tryz.zeroValue57 Tryz.isAgg30 Tryz.zeroValue30
attribute [-go_sem] loadVar storeVar
set_option maxRecDepth 100000 in
theorem build_st0 (w : World) : (Instr.build 30 #[]).run Tryz.prog w = .ok (.agg #[.slice none 0 0, .slice none 0 0, .int .i64 0, .int .i64 0, .int .i64 0, .slice none 0 0]) w := by kernel_rfl
set_option maxRecDepth 100000 in
theorem build_st1 (a : Int) (w : World) : (Instr.build 30 #[(2, .int .i64 a)]).run Tryz.prog w = .ok (.agg #[.slice none 0 0, .slice none 0 0, .int .i64 a, .int .i64 0, .int .i64 0, .slice none 0 0]) w := by kernel_rfl
attribute [local go_sem] loadVar_openQ storeVar_openQ zero_sn zero_prs zero_st build_st0 build_st1
set_option maxRecDepth 100000 in
theorem store_stC {x : World} {B : Nat} {old : List Value} (q : PS) (hr : RowC x B 30 old) (ho : old.length = 6) :
    ∃ y, (storeVar 30 ⟨B, 0, none⟩ (stV q)).run Tryz.prog x = .ok () y ∧ RowC y B 30 (stL q) ∧ x.grownBy y (some B) := by
  refine ⟨_, run_storeVar_row x B _ _ old.toArray (stL q).toArray hr size_st (by simpa [stL] using ho) (by kernel_rfl), setRow_heap x B _ _ _ _ hr, ?_⟩
  exact ⟨rfl, rfl, rfl, by rw [setRow_size]; exact Nat.le_refl _, fun k _ hk => setRow_other x B k _ (fun e => hk (by rw [e]))⟩
def noQ : PS := ⟨(none, 0, 0), (none, 0, 0), 0, 0, 0, (none, 0, 0)⟩

end Go.Proofs.YtajamblkjmafmaaGreat

/- What Decode reads, part by part (plain). -/
namespace Go.Proofs.YtajamblkjmafmaaGreat
open Go.RowKit
set_option linter.unusedVariables false
theorem seg_len {bs : List Int} {a n : Nat} (h : a + n ≤ bs.length) : (seg bs a n).length = n := by
  unfold seg
  rw [List.length_take, List.length_drop]
  omega
theorem seg_get {bs : List Int} {a n k : Nat} (h : k < n) : (seg bs a n)[k]? = bs[a + k]? := by
  unfold seg
  rw [List.getElem?_take, if_pos h, List.getElem?_drop]
theorem seg_all {bs : List Int} {a n : Nat} (h : bs.length = a + n) : seg bs a n = bs.drop a := by
  unfold seg
  exact List.take_of_length_le (by rw [List.length_drop]; omega)
theorem SG.at_zero (g : SG) : g.at 0 = 10 + g.slots := by unfold SG.at; omega
theorem SG.at_succ (g : SG) (i : Nat) : g.at (i + 1) = g.at i + (4 + g.n9 + g.b) := by unfold SG.at SG.step; rw [Nat.add_mul]; omega
theorem SG.at_end (g : SG) : g.at 8 + g.b = g.bts := by unfold SG.at SG.bts; omega
theorem SG.at_le (g : SG) {i : Nat} (h : i < 8) : g.at i + (4 + g.n9 + g.b) + g.b ≤ g.bts := by
  have h1 := g.at_succ i
  have h2 : g.at (i + 1) ≤ g.at 8 := by
    unfold SG.at
    have := Nat.mul_le_mul_right g.step (show i + 1 ≤ 8 by omega)
    omega
  have := g.at_end
  omega
/-- The dirty slots read so far. -/
def dirtK (g : SG) (bs : List Int) (k : Nat) : List Int := ((seg bs 10 g.slots).take k).map (· - 1)
theorem dirtK_all (g : SG) {bs : List Int} (hl : 10 + g.slots ≤ bs.length) : dirtK g bs g.slots = (seg bs 10 g.slots).map (· - 1) := by
  unfold dirtK
  rw [List.take_of_length_le (by rw [seg_len hl]; exact Nat.le_refl _)]
/-- The snapshots read so far: of i blocks of bytes, as many as byte 4 says. -/
def snK (g : SG) (bs : List Int) (i : Nat) : List SN := (List.range (min i (bs[4]?.getD 0).toNat)).map fun i => sSnapR g (seg bs (g.at i) g.step)
theorem snK_zero (g : SG) (bs : List Int) : snK g bs 0 = [] := by unfold snK; simp
theorem snK_in (g : SG) {bs : List Int} {i : Nat} (h : i < (bs[4]?.getD 0).toNat) : snK g bs (i + 1) = snK g bs i ++ [sSnapR g (seg bs (g.at i) g.step)] := by
  unfold snK
  rw [Nat.min_eq_left (by omega), Nat.min_eq_left (by omega), List.range_succ, List.map_append]
  rfl
theorem snK_out (g : SG) {bs : List Int} {i : Nat} (h : (bs[4]?.getD 0).toNat ≤ i) : snK g bs (i + 1) = snK g bs i := by
  unfold snK
  rw [Nat.min_eq_right (by omega), Nat.min_eq_right (by omega)]
theorem snK_all (g : SG) {bs : List Int} (h : (bs[4]?.getD 0).toNat ≤ 8) : snK g bs 8 = (List.range (bs[4]?.getD 0).toNat).map fun i => sSnapR g (seg bs (g.at i) g.step) := by
  unfold snK
  rw [Nat.min_eq_right h]
/-- All of it. -/
theorem parse_is (g : SG) {bs : List Int} (hl : bs.length = g.bts) (h4 : (bs[4]?.getD 0).toNat ≤ 8) : sParse g bs = ⟨dirtK g bs g.slots, snK g bs 8, getL (seg bs 0 4), bs[5]?.getD 0, getL (seg bs 6 4), prFrom 0 (bs.drop (g.at 8))⟩ := by
  unfold sParse
  rw [dirtK_all g (by have := g.at_end; have := g.at_zero; rw [hl]; unfold SG.bts; omega), snK_all g h4, seg_all (a := g.at 8) (n := g.b) (by rw [hl]; exact g.at_end.symm)]
end Go.Proofs.YtajamblkjmafmaaGreat

/- The program's state: numbers, bytes and snapshots read. -/
namespace Go.Proofs.YtajamblkjmafmaaGreat
open Go.RowKit Go.Shelf Go.Lib
set_option linter.unusedVariables false
set_option linter.unusedSimpArgs false
theorem getL_lt {bs : List Int} (h : IsBytes bs) {k : Nat} (hk : k ≤ 4) (hl : bs.length = k) : 0 ≤ getL bs ∧ getL bs < 4294967296 := by
  have h1 := getN_bd bs h (nPlaces (bs.length : Int))
  unfold getL
  have h2 : nPlaces (bs.length : Int) ≤ 4 := by unfold nPlaces; rw [hl]; split <;> omega
  refine ⟨h1.1, Int.lt_of_lt_of_le h1.2 ?_⟩
  generalize nPlaces (bs.length : Int) = m at h2
  match m, h2 with
  | 0, _ => decide
  | 1, _ => decide
  | 2, _ => decide
  | 3, _ => decide
  | 4, _ => decide
  | m + 5, h => omega
theorem isB_take {bs : List Int} (h : IsBytes bs) (k : Nat) : IsBytes (bs.take k) := fun j => by
  rw [List.getElem?_take]
  split
  · exact h j
  · exact ⟨by simp, by simp⟩
theorem isB_drop {bs : List Int} (h : IsBytes bs) (k : Nat) : IsBytes (bs.drop k) := fun j => by
  rw [List.getElem?_drop]
  exact h (k + j)
set_option maxRecDepth 100000 in
set_option maxHeartbeats 2000000 in
/-- **number**. -/
theorem sg_number {N : Nat} (rb : Nat) (bs : List Int) (k : Nat) (w : World) (hr : Rdr w N rb bs) (hB : IsBytes bs) (hk : k ≤ bs.length) (hk4 : k ≤ 4) :
    Calls Tryz.prog 66 #[.pointer (some ⟨rb, 0, none⟩), .int .i64 (k : Int)] w fun e w' => e = .returned (.int .i64 (getL (bs.take k))) ∧ Rdr w' N rb (bs.drop k) ∧ w.grownBy w' (some rb) := by
  have HN := Lib.hid (num_yes rb bs k w hr hB hk)
  obtain ⟨z, hz⟩ : ∃ z, getL (bs.take k) = z := ⟨_, rfl⟩
  obtain ⟨z0, z1⟩ := getL_lt (isB_take hB k) hk4 (by rw [List.length_take]; omega)
  rw [hz] at HN z0 z1 ⊢
  clear hr hB hz
  go_enter Tryz.func66, Tryz.ntmps66
  go_wp2_with fail
  refine HN.out.mono ?_
  rintro e w1 ⟨rfl, h1, h2⟩
  have H1 := Lib.hid h1
  have H2 := Lib.hid h2
  clear h1 h2 HN
  go_wp2_with fail
  go_ret
  exact ⟨rfl, H1.out, H2.out⟩
set_option maxRecDepth 100000 in
set_option maxHeartbeats 2000000 in
/-- **taken**. -/
theorem sg_taken {N : Nat} (rb : Nat) (bs : List Int) (k : Nat) (w : World) (hr : Rdr w N rb bs) (hk : k ≤ bs.length) (hcap : bs.length ≤ 100000) :
    Calls Tryz.prog 67 #[.pointer (some ⟨rb, 0, none⟩), .int .i64 (k : Int)] w fun e w' =>
      ∃ g, e = .returned (.slice (some ⟨g, 0, none⟩) k k) ∧ w'.ownsRow w.heap.size 5 1 (.slice (some ⟨g, 0, none⟩) k k) (bs.take k).length ((bs.take k).map (Value.int .u8)) ∧ Rdr w' N rb (bs.drop k) ∧ w.grownBy w' (some rb) := by
  have HN := Lib.hid (take_yes rb bs k w hr hk (by omega))
  have hlk : (bs.take k).length = k := by rw [List.length_take]; omega
  have HLK := Lib.hid hlk
  have hkm : k ≤ maxLen := by unfold maxLen; omega
  have HKM := Lib.hid hkm
  clear hr hlk hkm
  go_enter Tryz.func67, Tryz.ntmps67
  go_wp2_with fail
  refine HN.out.mono ?_
  rintro e w1 ⟨g, rfl, hg, hrow, h1, h2⟩
  have H1 := Lib.hid h1
  have H2 := Lib.hid h2
  have HO : Hid (w1.ownsRow w.heap.size 5 1 (.slice (some ⟨g, 0, none⟩) k k) (bs.take k).length ((bs.take k).map (Value.int .u8))) := by
    have := row_owns hrow hg (by rw [HLK.out]; exact HKM.out)
    rw [HLK.out] at this ⊢
    exact this
  clear hg hrow h1 h2 HN
  go_wp2_with fail
  go_ret
  exact ⟨_, rfl, HO.out, H1.out, H2.out⟩

attribute [-simp] Tryz.isAgg55 Tryz.zeroValue55 Tryz.isAgg57 Tryz.zeroValue57 Tryz.isAgg30 Tryz.zeroValue30
attribute [-go_sem] loadVar storeVar
attribute [local go_sem] loadVar_openQ storeVar_openQ zero_sn zero_prs zero_st build_sn
theorem isB_seg {bs : List Int} (h : IsBytes bs) (a n : Nat) : IsBytes (seg bs a n) := isB_take (isB_drop h a) n
/-- One snapshot of the first bytes. -/
theorem snapR_zero (g : SG) (bs : List Int) : sSnapR g (seg bs 0 g.step) = ⟨getL (bs.take 4), (bs.drop 4).take g.n9, prFrom 0 (((bs.drop 4).drop g.n9).take g.b)⟩ := by
  unfold sSnapR
  have e : ∀ o n, o + n ≤ g.step → seg (seg bs 0 g.step) o n = seg bs o n := fun o n h => by rw [seg_seg bs h, Nat.zero_add]
  rw [e 0 4 (by unfold SG.step; omega), e 4 g.n9 (by unfold SG.step; omega), e (4 + g.n9) g.b (by unfold SG.step; omega)]
  unfold seg
  rw [List.drop_zero, List.drop_drop]

set_option maxRecDepth 100000 in
set_option maxHeartbeats 4000000 in
/-- **readSnap**. -/
theorem sg_readSnap {N : Nat} (rb : Nat) (bs : List Int) (w : World) (g : SG) (hg : g.Ok) (r0 : Int) (hr : Rdr w N rb bs) (hB : IsBytes bs) (hl : g.step ≤ bs.length) (hcap : bs.length ≤ 1000) :
    Calls Tryz.prog 69 #[.pointer (some ⟨rb, 0, none⟩), .agg (g.v r0)] w fun e w' =>
      ∃ q : SV, e = .returned (svV q) ∧ SnF w.heap.size w' q (sSnapR g (seg bs 0 g.step)) ∧ Rdr w' N rb (bs.drop g.step) ∧ w.grownBy w' (some rb) := by
  have hmx : Tryz.prog.follows .mixedOrders = true := by kernel_rfl
  have hrb : rb < N ∧ N ≤ w.heap.size := by obtain ⟨b, off, cap, h0, h1, h2, h3, h4, h5⟩ := hr; exact h5
  obtain ⟨B, hBB⟩ : ∃ B, w.heap.size = B := ⟨_, rfl⟩
  obtain ⟨W1, hW1⟩ : ∃ W, w.alloc (.cells (g.v r0) 23) = W := ⟨_, rfl⟩
  obtain ⟨W2, hW2⟩ : ∃ W, W1.alloc (.cells #[.int .i64 0, .slice none 0 0, .slice none 0 0] 55) = W := ⟨_, rfl⟩
  have s1 : W1.heap.size = B + 1 := by rw [← hW1, ← hBB]; simp
  have r1 : RowC W1 B 23 [.int .i64 (g.b : Int), .int .i64 (g.s : Int), .int .i64 (g.y : Int), .int .i64 (g.a : Int), .int .i64 r0] := by rw [← hW1, ← hBB]; exact RowC.new _ _ _
  have r2 : RowC W2 (B + 1) 55 [.int .i64 0, .slice none 0 0, .slice none 0 0] := by rw [← hW2, ← s1]; exact RowC.new _ _ _
  have b1 : Below B w W1 := by rw [← hW1, ← hBB]; exact below_new _ _
  have b2 : Below W1.heap.size W1 W2 := by rw [← hW2]; exact below_new _ _
  have hBF : Below w.heap.size w W2 := by rw [hBB]; exact b1.trans (b2.mono (by omega))
  have gd : Below w.heap.size w W2.drew := hBF.drew
  have HG0 : Hid (w.grownBy W2.drew (some rb)) := grown_below gd _
  have R0 : Hid (Rdr W2.drew N rb bs) := hr.kept (grown_below gd none) (fun r e => by cases e)
  have HR1 : Hid (RowC W2.drew B 23 [.int .i64 (g.b : Int), .int .i64 (g.s : Int), .int .i64 (g.y : Int), .int .i64 (g.a : Int), .int .i64 r0]) := (r1.below b2).below (Below.refl _ W2).drew
  have HR2 : Hid (RowC W2.drew (B + 1) 55 [.int .i64 0, .slice none 0 0, .slice none 0 0]) := r2.below (Below.refl _ W2).drew
  have HRB : Hid (rb < B) := by show _ < _; omega
  have HNB : Hid (N ≤ B) := by show _ ≤ _; omega
  have HZ0 : Hid (B + 2 ≤ W2.drew.heap.size) := by show _ ≤ W2.heap.size; rw [← hW2]; simp [s1]
  have d0 : ∀ y : RowT B 23 [.int .i64 (g.b : Int), .int .i64 (g.s : Int), .int .i64 (g.y : Int), .int .i64 (g.a : Int), .int .i64 r0], y.1.cell? ⟨B, 0, none⟩ = some (.int .i64 (g.b : Int)) := fun y => y.2.cell 0 _ rfl
  haveI : Nonempty (RowT B 23 [.int .i64 (g.b : Int), .int .i64 (g.s : Int), .int .i64 (g.y : Int), .int .i64 (g.a : Int), .int .i64 r0]) := ⟨⟨W2.drew, HR1.out⟩⟩
  have HSZ := Lib.hid hBB
  have HBY := Lib.hid hB
  have HLL : Hid (4 + g.n9 + g.b ≤ bs.length) := hl
  have HCAP := Lib.hid hcap
  have hn9 := sizeB_le64 hg
  have hgb := hg.b64
  have HNW : Hid (∀ x : World, Calls Tryz.prog 27 #[.int .i64 (g.b : Int)] x fun e w' => ∃ v, e = .returned v ∧ Sl .u8 w' v (List.replicate g.n9 0) ∧ Below x.heap.size x w') := fun x => bi_new (g.b : Int) x
  obtain ⟨n9, hn9e⟩ : ∃ n, g.n9 = n := ⟨_, rfl⟩
  have HN9 := Lib.hid hn9e
  have hn98 : n9 ≤ 8 := by rw [← hn9e]; exact hn9
  rw [hn9e] at HNW HLL
  have HSR : Hid (sSnapR g (seg bs 0 g.step) = ⟨getL (bs.take 4), (bs.drop 4).take n9, prFrom 0 (((bs.drop 4).drop n9).take g.b)⟩) := by show _ = _; rw [snapR_zero, hn9e]
  have HST : Hid (bs.drop g.step = ((bs.drop 4).drop n9).drop g.b) := by show _ = _; unfold SG.step; rw [List.drop_drop, List.drop_drop, hn9e, Nat.add_assoc]
  clear hr hB hl hcap r1 r2 b1 b2 hBF gd hn9 hn9e hg hrb
  unfold SG.v at *
  go_enter Tryz.func69, Tryz.ntmps69
  go_wp2_with fail
  refine region_plan (fun x => ∃ z : RowT B 23 [.int .i64 (g.b : Int), .int .i64 (g.s : Int), .int .i64 (g.y : Int), .int .i64 (g.a : Int), .int .i64 r0], x = z.1) 14 (.takes [0, 2, 3, 4, 8, 9, 10] (.one 1 (.one 5 (.takes [6] (.one 7 (.one 11 (.one 12 (.one 13 .leaf)))))))) hmx (by kernel_rfl) (by intro c x v a w h; cases x <;> exact h) ⟨⟨W2.drew, HR1.out⟩, rfl⟩ ?_
  repeat (rw [wpPlan_takes_cons]; simp only [nth_zero, nth_succ]; go_big_quiet_step (fail); refine wpQuiet_nil ?_)
  clear d0
  rw [wpPlan_takes_nil, wpPlan_one]
  simp only [nth_zero, nth_succ]
  go_wp2_with fail
  go_at_call 66
  refine (sg_number rb bs 4 W2.drew R0.out HBY.out (by have := HLL.out; omega) (Nat.le_refl _)).mono ?_
  rintro e x1 ⟨rfl, hr1, hg1⟩
  have G1 : Hid (w.grownBy x1 (some rb)) := grown_trans HG0.out hg1
  have A1 : Hid (RowC x1 B 23 [.int .i64 (g.b : Int), .int .i64 (g.s : Int), .int .i64 (g.y : Int), .int .i64 (g.a : Int), .int .i64 r0]) := HR1.out.grown hg1 (by have := HRB.out; simp; omega)
  have C1 : Hid (RowC x1 (B + 1) 55 [.int .i64 0, .slice none 0 0, .slice none 0 0]) := HR2.out.grown hg1 (by have := HRB.out; simp; omega)
  have R1 := Lib.hid hr1
  have Z1 : Hid (B + 2 ≤ x1.heap.size) := by have := HZ0.out; have := hg1.size; show _ ≤ _; omega
  obtain ⟨z, hz⟩ : ∃ z, getL (bs.take 4) = z := ⟨_, rfl⟩
  have HZZ := Lib.hid hz
  have HZB : Hid (0 ≤ z ∧ z < 4294967296) := by rw [← hz]; exact getL_lt (isB_take HBY.out 4) (Nat.le_refl _) (by rw [List.length_take]; have := HLL.out; omega)
  rw [hz]
  clear hr1 hg1 hz
  go_wp2_with fail
  refine planPost_mk ⟨⟨x1, A1.out⟩, rfl⟩ ?_
  rw [wpPlan_one]
  simp only [nth_zero, nth_succ]
  go_wp2_with fail
  go_at_call 27
  refine (HNW.out x1).mono ?_
  rintro e x2 ⟨v2, rfl, hv2, hb2⟩
  obtain ⟨z2, c2, rfl⟩ : ∃ a c, v2 = .slice a n9 c := by obtain ⟨a, c, e, -⟩ := hv2; rw [List.length_replicate] at e; exact ⟨a, c, e⟩
  have hg2 := grown_below hb2 (some rb)
  have G2 : Hid (w.grownBy x2 (some rb)) := grown_trans G1.out hg2
  have A2 : Hid (RowC x2 B 23 [.int .i64 (g.b : Int), .int .i64 (g.s : Int), .int .i64 (g.y : Int), .int .i64 (g.a : Int), .int .i64 r0]) := A1.out.below hb2
  have C2 : Hid (RowC x2 (B + 1) 55 [.int .i64 0, .slice none 0 0, .slice none 0 0]) := C1.out.below hb2
  have R2 : Hid (Rdr x2 N rb (bs.drop 4)) := R1.out.below (grown_below hb2 none)
  have Z2 : Hid (B + 2 ≤ x2.heap.size) := by have := Z1.out; have := hb2.size; show _ ≤ _; omega
  clear hv2 hb2 hg2
  go_wp2_with fail
  refine planPost_mk ⟨⟨x2, A2.out⟩, rfl⟩ ?_
  repeat (rw [wpPlan_takes_cons]; simp only [nth_zero, nth_succ]; go_big_quiet_step (fail); refine wpQuiet_nil ?_)
  rw [wpPlan_takes_nil, wpPlan_one]
  simp only [nth_zero, nth_succ]
  go_wp2_with fail
  go_at_call 67
  refine (sg_taken rb (bs.drop 4) n9 x2 R2.out (by have := HLL.out; rw [List.length_drop]; omega) (by have := HCAP.out; rw [List.length_drop]; omega)).mono ?_
  rintro e x3 ⟨q3, rfl, ho3, hr3, hg3⟩
  have G3 : Hid (w.grownBy x3 (some rb)) := grown_trans G2.out hg3
  have A3 : Hid (RowC x3 B 23 [.int .i64 (g.b : Int), .int .i64 (g.s : Int), .int .i64 (g.y : Int), .int .i64 (g.a : Int), .int .i64 r0]) := A2.out.grown hg3 (by have := HRB.out; simp; omega)
  have C3 : Hid (RowC x3 (B + 1) 55 [.int .i64 0, .slice none 0 0, .slice none 0 0]) := C2.out.grown hg3 (by have := HRB.out; simp; omega)
  have R3 := Lib.hid hr3
  have Z3 : Hid (B + 2 ≤ x3.heap.size) := by have := Z2.out; have := hg3.size; show _ ≤ _; omega
  have O3 : Hid (x3.ownsRow B 5 1 (.slice (some ⟨q3, 0, none⟩) n9 n9) ((bs.drop 4).take n9).length (((bs.drop 4).take n9).map (Value.int .u8))) := own_weak ho3 (by have := Z2.out; omega)
  clear hr3 hg3 ho3
  go_wp2_with fail
  refine planPost_mk ⟨⟨x3, A3.out⟩, rfl⟩ ?_
  rw [wpPlan_one]
  simp only [nth_zero, nth_succ]
  go_wp2_with fail
  go_at_call 67
  refine (sg_taken rb ((bs.drop 4).drop n9) g.b x3 R3.out (by have := HLL.out; rw [List.length_drop, List.length_drop]; omega) (by have := HCAP.out; rw [List.length_drop, List.length_drop]; omega)).mono ?_
  rintro e x4 ⟨q4, rfl, ho4, hr4, hg4⟩
  have G4 : Hid (w.grownBy x4 (some rb)) := grown_trans G3.out hg4
  have A4 : Hid (RowC x4 B 23 [.int .i64 (g.b : Int), .int .i64 (g.s : Int), .int .i64 (g.y : Int), .int .i64 (g.a : Int), .int .i64 r0]) := A3.out.grown hg4 (by have := HRB.out; simp; omega)
  have C4 : Hid (RowC x4 (B + 1) 55 [.int .i64 0, .slice none 0 0, .slice none 0 0]) := C3.out.grown hg4 (by have := HRB.out; simp; omega)
  have R4 := Lib.hid hr4
  have Z4 : Hid (B + 2 ≤ x4.heap.size) := by have := Z3.out; have := hg4.size; show _ ≤ _; omega
  have O4 : Hid (x4.ownsRow B 5 1 (.slice (some ⟨q3, 0, none⟩) n9 n9) ((bs.drop 4).take n9).length (((bs.drop 4).take n9).map (Value.int .u8))) := O3.out.kept hg4 (.inr (R3.out.not_row O3.out))
  have S4 : Hid (Sl .u8 x4 (.slice (some ⟨q4, 0, none⟩) g.b g.b) (((bs.drop 4).drop n9).take g.b)) := Sl.of_owns ho4
  clear hr4 hg4 ho4
  go_wp2_with fail
  refine planPost_mk ⟨⟨x4, A4.out⟩, rfl⟩ ?_
  rw [wpPlan_one]
  simp only [nth_zero, nth_succ]
  go_wp2_with fail
  go_at_call 71
  refine (sg_placed _ _ _ x4).mono ?_
  obtain ⟨x5, hx5⟩ : ∃ x, x4.alloc (.cells #[.slice (some ⟨q4, 0, none⟩) g.b g.b] 31) = x := ⟨_, rfl⟩
  rintro e x5' ⟨rfl, h5'⟩
  obtain rfl : x5' = x5 := h5'.trans hx5
  have b5 : Below x4.heap.size x4 x5' := by rw [← hx5]; exact below_new _ _
  have hP : PdB x4.heap.size (.slice (some ⟨q4, 0, none⟩) g.b g.b) (((bs.drop 4).drop n9).take g.b) x5' := ⟨by rw [← hx5]; exact (RowC.new x4 31 [.slice (some ⟨q4, 0, none⟩) g.b g.b]).cell 0 _ rfl, S4.out.below b5⟩
  have h5s : x4.heap.size < x5'.heap.size := by rw [← hx5]; simp
  have HCL := Lib.hid (sg_collect x4.heap.size h5s hP (isB_take (isB_drop (isB_drop HBY.out 4) n9) g.b) (by rw [List.length_take]; omega))
  have G5 : Hid (w.grownBy x5' (some rb)) := grown_trans G4.out (grown_below b5 _)
  have A5 : Hid (RowC x5' B 23 [.int .i64 (g.b : Int), .int .i64 (g.s : Int), .int .i64 (g.y : Int), .int .i64 (g.a : Int), .int .i64 r0]) := A4.out.below b5
  have C5 : Hid (RowC x5' (B + 1) 55 [.int .i64 0, .slice none 0 0, .slice none 0 0]) := C4.out.below b5
  have R5 := Lib.hid (R4.out.below (grown_below b5 none))
  have Z5 : Hid (B + 2 ≤ x5'.heap.size) := by have := Z4.out; have := b5.size; show _ ≤ _; omega
  have O5 := Lib.hid (own_belowT O4.out b5)
  clear h5' hx5 b5 hP h5s
  go_wp2_with fail
  refine planPost_mk ⟨⟨x5', A5.out⟩, rfl⟩ ?_
  rw [wpPlan_one]
  simp only [nth_zero, nth_succ]
  go_wp2_with fail
  go_at_call 70
  refine HCL.out.mono ?_
  rintro e x6 ⟨v6, rfl, ho6, hb6⟩
  obtain ⟨⟨pa, pn, pc⟩, rfl, -⟩ := own_slV ho6.1
  have G6 : Hid (w.grownBy x6 (some rb)) := grown_trans G5.out (grown_below hb6 _)
  have A6 : Hid (RowC x6 B 23 [.int .i64 (g.b : Int), .int .i64 (g.s : Int), .int .i64 (g.y : Int), .int .i64 (g.a : Int), .int .i64 r0]) := A5.out.below hb6
  have C6 : Hid (RowC x6 (B + 1) 55 [.int .i64 0, .slice none 0 0, .slice none 0 0]) := C5.out.below hb6
  have R6 := Lib.hid (R5.out.below (grown_below hb6 none))
  have Z6 : Hid (B + 2 ≤ x6.heap.size) := by have := Z5.out; have := hb6.size; show _ ≤ _; omega
  have O6 := Lib.hid (own_belowT O5.out hb6)
  have P6 : Hid (PrO B x6 (slV (pa, pn, pc)) (prFrom 0 (((bs.drop 4).drop n9).take g.b))) := ho6.weak (by have := Z5.out; omega)
  clear ho6 hb6 HCL
  simp only [slV]
  go_wp2_with fail
  refine planPost_mk ⟨⟨x6, A6.out⟩, rfl⟩ ?_
  rw [wpPlan_leaf]
  simp only [List.drop_succ_cons, List.drop_zero]
  obtain ⟨y, hST, hRy, hgy⟩ := store_snC (z, (some ⟨q3, 0, none⟩, n9, n9), (pa, pn, pc)) C6.out rfl
  have HLD := Lib.hid (load_snC hRy)
  have G7 : Hid (w.grownBy y (some rb)) := G6.out.andThen hgy (fun j e => by cases e; left; have := HSZ.out; omega)
  have R7 : Hid (Rdr y N rb (bs.drop g.step)) := by
    show Rdr _ _ _ _
    rw [HST.out]
    exact R6.out.kept hgy (fun r e => by
      cases e
      obtain ⟨b, off, cap, h0, h1, h2, h3, h4, h5⟩ := R0.out
      have h6 := HRB.out
      have h7 : N ≤ B := HNB.out
      omega)
  have F7 : Hid (SnF B y (z, (some ⟨q3, 0, none⟩, n9, n9), (pa, pn, pc)) (sSnapR g (seg bs 0 g.step))) := by
    show SnF _ _ _ _
    rw [HSR.out]
    refine ⟨HZZ.out.symm, O6.out.kept hgy (.inr (row_ne O6.out C6.out (by decide))), ⟨P6.out.1.kept hgy (.inr (row_ne P6.out.1 C6.out (by decide))), P6.out.2⟩, ⟨?_, isB_take (isB_drop HBY.out 4) n9, P6.out.2⟩⟩
    show Is64 (getL (bs.take 4))
    rw [HZZ.out]
    have := HZB.out
    constructor <;> omega
  simp only [svV, slV] at hST HLD
  clear hRy hgy
  go_wp2_with fail
  refine bodyPost_ret (results_cell rfl rfl HLD.out) rfl ?_
  exact ⟨_, rfl, by rw [HSZ.out]; exact F7.out, R7.out, G7.out⟩
end Go.Proofs.YtajamblkjmafmaaGreat

/- The document's geometry: Of, Slot, Area. -/
namespace Go.Proofs.YtajamblkjmafmaaGreat
open Go.RowKit Go.Shelf
set_option linter.unusedVariables false
attribute [-simp] Tryz.isAgg71 Tryz.zeroValue71
attribute [-go_sem] loadVar storeVar
set_option maxRecDepth 100000 in
theorem zero_szs (w : World) : (zeroValue 71).run Tryz.prog w = .ok (.agg (szL 0 0 0 0 0 0 0 0).toArray) w := by kernel_rfl
set_option maxRecDepth 100000 in
theorem build_szs0 (w : World) : (Instr.build 71 #[]).run Tryz.prog w = .ok (.agg (szL 0 0 0 0 0 0 0 0).toArray) w := by kernel_rfl
attribute [local go_sem] loadVar_openG storeVar_openG zero_szs build_szs0
section
set_option maxRecDepth 100000
set_option maxHeartbeats 8000000
end
end Go.Proofs.YtajamblkjmafmaaGreat

/- The document's Decode of a state. -/
namespace Go.Proofs.YtajamblkjmafmaaGreat
open Go.RowKit Go.Shelf Go.Lib
set_option linter.unusedVariables false
set_option linter.unusedSimpArgs false
attribute [-simp] Tryz.isAgg55 Tryz.zeroValue55 Tryz.isAgg57 Tryz.zeroValue57 Tryz.isAgg30 Tryz.zeroValue30 Tryz.isAgg71 Tryz.zeroValue71
attribute [-go_sem] loadVar storeVar
theorem loadVar_openD (t : TypeId) (h : t ≠ 55) (h' : t ≠ 57) (h'' : t ≠ 30) (h3 : t ≠ 71) (a : Addr) : loadVar t a = (do if ← isAgg t then pure (.agg (← loadCells a (← sizeOf t))) else load a) := rfl
theorem storeVar_openD (t : TypeId) (h : t ≠ 55) (h' : t ≠ 57) (h'' : t ≠ 30) (h3 : t ≠ 71) (a : Addr) (v : Value) : storeVar t a v = (do
    if v.cells.size ≠ (← sizeOf t) then stuck "storeVar: the value has not the size of the variable"
    storeCells a v.cells.toList) := rfl
set_option maxRecDepth 100000 in
theorem build_pl2 (a b : Int) (w : World) : (Instr.build 28 #[(0, .int .i64 a), (1, .int .i64 b)]).run Tryz.prog w = .ok (.agg #[.int .i64 a, .int .i64 b, .slice none 0 0]) w := by kernel_rfl
set_option maxRecDepth 100000 in
theorem build_st2 (a b c : Int) (w : World) : (Instr.build 30 #[(2, .int .i64 a), (3, .agg #[.int .i64 b, .int .i64 c, .slice none 0 0])]).run Tryz.prog w = .ok (.agg #[.slice none 0 0, .slice none 0 0, .int .i64 a, .int .i64 b, .int .i64 c, .slice none 0 0]) w := by kernel_rfl
attribute [local go_sem] loadVar_openD storeVar_openD zero_sn zero_prs zero_st zero_szs build_st0 build_pl2 build_st2 build_sn
/-- What Decode answers. -/
def DecR (g : SG) (bs : List Int) (N : Nat) (w' : World) (q : PS) (c : Int) : Prop := match sDec g bs with
  | some s => c = 0 ∧ q.nx = s.nx ∧ q.kd = s.kd ∧ q.id = s.id ∧ InO N w' (slV q.d) s.d ∧ SnO N w' (slV q.sn) s.sn ∧ PrO N w' (slV q.pr) s.pr
  | none => c = 11 ∧ q = noQ
theorem decR_none {g : SG} {bs : List Int} (h : sDec g bs = none) (N : Nat) (w' : World) : DecR g bs N w' noQ 11 := by
  unfold DecR
  rw [h]
  exact ⟨rfl, rfl⟩
theorem geo_bts {g : SG} (hg : g.Ok) (r : Int) : (g.geo r).bts = (g.bts : Int) := by
  unfold Geo.bts SG.geo SG.bts SG.step SG.n9 SG.slots sizeB
  have h1 := hg.b1
  have h2 := hg.b64
  rw [if_neg (by omega)]
  simp only
  rw [← Int.natCast_mul]
  omega
end Go.Proofs.YtajamblkjmafmaaGreat

/- The developers' fits and complete. -/
namespace Go.Proofs.YtajamblkjmafmaaGreat
open Go.RowKit Go.Shelf
set_option linter.unusedVariables false
set_option linter.unusedSimpArgs false
attribute [-simp] Tryz.isAgg55 Tryz.zeroValue55 Tryz.isAgg57 Tryz.zeroValue57
attribute [-go_sem] loadVar storeVar
attribute [local go_sem] loadVar_openPS storeVar_openPS zero_sn zero_prs

set_option maxRecDepth 100000 in
set_option maxHeartbeats 4000000 in
theorem ch_complete {w : World} {q : SV} {s : SN} (h : SnIs w q s) (hl1 : s.ch.length ≤ 100000) :
    Calls Tryz.prog 81 #[svV q] w fun e w' => e = .returned (.bool (fullS s)) ∧ Below w.heap.size w w' := by
  have hmx : Tryz.prog.follows .mixedOrders = true := by kernel_rfl
  obtain ⟨i, ⟨x, n, c⟩, ⟨y, m, d⟩⟩ := q
  obtain rfl : m = s.tb.length := by obtain ⟨a, ca, e, -⟩ := h.tb; simp only [slV, Value.slice.injEq] at e; omega
  obtain ⟨tl, htl⟩ : ∃ tl, s.tb.length = tl := ⟨_, rfl⟩
  rw [htl] at h ⊢
  obtain ⟨B, hB⟩ : ∃ B, w.heap.size = B := ⟨_, rfl⟩
  have HSZ := Lib.hid hB
  obtain ⟨W, hW⟩ : ∃ W, w.alloc (.cells #[.int .i64 i, .slice x n c, .slice y tl d] 55) = W := ⟨_, rfl⟩
  have bW : Below B w W := by rw [← hW, ← hB]; exact (Below.refl _ w).alloc (Nat.le_refl _) _
  have r1 : RowC W B 55 [.int .i64 i, .slice x n c, .slice y tl d] := by rw [← hW, ← hB]; exact RowC.new w _ _
  have hs : W.heap.size = B + 1 := by rw [← hW, ← hB]; simp
  have c1 : ∀ z : Ext W, z.1.cell? ⟨B, 1, none⟩ = some (.slice x n c) := fun z => (r1.below z.2).cell 1 _ rfl
  have c2 : ∀ z : Ext W, z.1.cell? ⟨B, 2, none⟩ = some (.slice y tl d) := fun z => (r1.below z.2).cell 2 _ rfl
  have HBW := Lib.hid bW
  have HS := Lib.hid hs
  obtain ⟨cn, hcn⟩ : ∃ cn, (allB s.ch).length = cn := ⟨_, rfl⟩
  have HE : Hid (fullS s = ((cn : Int) == (tl : Int))) := by
    show _ = _
    unfold fullS
    rw [hcn, htl, Bool.eq_iff_iff]
    simp
    omega
  have HC : Hid (∀ z : World, Below W.heap.size W z → Calls Tryz.prog 112 #[.slice x n c] z fun e w' => e = .returned (.int .i64 (cn : Int)) ∧ Below z.heap.size z w') := fun z hz => by
    rw [← hcn]
    exact bi_count _ s.ch z ((h.ch.below (by rw [hB]; exact bW)).below hz) h.ok.ch (by omega)
  rw [HE.out]
  clear h bW r1 hs hcn
  go_enter Tryz.func81, Tryz.ntmps81
  simp only [svV, slV]
  go_wp2_with fail
  try rw [hW]
  clear hW
  refine region_plan (fun x => ∃ y : Ext W, x = y.1) 7 (.takes [0, 1, 3, 4, 5] (.one 2 (.takes [6] .leaf))) hmx (by kernel_rfl) (by intro c x v a w h; cases x <;> exact h) ⟨⟨W.drew, (Below.refl _ W).drew⟩, rfl⟩ ?_
  repeat (rw [wpPlan_takes_cons]; simp only [nth_zero, nth_succ]; go_big_quiet_step (fail); refine wpQuiet_nil ?_)
  rw [wpPlan_takes_nil, wpPlan_one]
  simp only [nth_zero, nth_succ]
  go_wp2_with fail
  go_at_call 112
  refine (HC.out W.drew (Below.refl _ W).drew).mono ?_
  rintro e y1 ⟨rfl, hb1⟩
  have KB1 : Hid (Below W.heap.size W y1) := (Below.refl _ W).drew.trans hb1
  clear hb1 HC
  go_wp2_with fail
  refine planPost_mk ⟨⟨y1, KB1.out⟩, rfl⟩ ?_
  repeat (rw [wpPlan_takes_cons]; simp only [nth_zero, nth_succ]; go_big_quiet_step (fail); refine wpQuiet_nil ?_)
  rw [wpPlan_takes_nil, wpPlan_leaf]
  simp only [List.drop_succ_cons, List.drop_zero]
  go_wp2_with fail
  go_ret
  refine ⟨by first | rfl | simp, ?_⟩
  rw [HSZ.out]
  exact HBW.out.trans (KB1.out.mono (by have := HS.out; omega))

set_option maxRecDepth 100000 in
set_option maxHeartbeats 8000000 in
theorem ch_fits {w : World} {q : SV} {s : SN} (h : SnIs w q s) (hl1 : s.ch.length ≤ 100000) (hl2 : s.tb.length ≤ 100000) (bl ar : Int) :
    Calls Tryz.prog 80 #[svV q, .int .i64 bl, .int .i64 ar] w fun e w' => e = .returned (.bool (fitS s bl ar)) ∧ Below w.heap.size w w' := by
  obtain ⟨i, ⟨x, n, c⟩, ⟨y, m, d⟩⟩ := q
  obtain rfl : m = s.tb.length := by obtain ⟨a, ca, e, -⟩ := h.tb; simp only [slV, Value.slice.injEq] at e; omega
  obtain ⟨tl, htl⟩ : ∃ tl, s.tb.length = tl := ⟨_, rfl⟩
  rw [htl] at h hl2 ⊢
  obtain ⟨B, hB⟩ : ∃ B, w.heap.size = B := ⟨_, rfl⟩
  have HSZ := Lib.hid hB
  have HTL := Lib.hid htl
  obtain ⟨W, hW⟩ : ∃ W, w.alloc (.cells #[.int .i64 i, .slice x n c, .slice y tl d] 55) = W := ⟨_, rfl⟩
  have bW : Below B w W := by rw [← hW, ← hB]; exact (Below.refl _ w).alloc (Nat.le_refl _) _
  have r1 : RowC W B 55 [.int .i64 i, .slice x n c, .slice y tl d] := by rw [← hW, ← hB]; exact RowC.new w _ _
  have hs : W.heap.size = B + 1 := by rw [← hW, ← hB]; simp
  have c1 := r1.cell 1 _ rfl
  have c2 := r1.cell 2 _ rfl
  have HR := Lib.hid r1
  have HBW := Lib.hid bW
  have HS := Lib.hid hs
  have HSN := Lib.hid (h.below (W' := W) (by rw [hB]; exact bW))
  have HG := Lib.hid (bi_good _ s.ch bl W HSN.out.ch h.ok.ch (by omega))
  have hok := Lib.hid h.ok
  have htbl : Hid (s.tb.length ≤ 800000) := by show _ ≤ _; omega
  have hch : Hid (s.ch.length ≤ 100000) := hl1
  clear h bW r1 hs htl hl1
  go_enter Tryz.func80, Tryz.ntmps80
  simp only [svV, slV]
  cases hgc : goodB s.ch bl with
  | false =>
    rw [hgc] at HG
    have HE : Hid (fitS s bl ar = false) := by show _ = _; unfold fitS; rw [hgc]; rfl
    rw [HE.out]
    clear hgc
    go_wp2_with fail
    refine HG.out.mono ?_
    rintro e y1 ⟨rfl, hb1⟩
    have HB1 := Lib.hid hb1
    clear hb1
    go_wp2_with fail
    go_ret
    refine ⟨rfl, ?_⟩
    rw [HSZ.out]
    exact HBW.out.trans (HB1.out.mono (by have := HS.out; omega))
  | true =>
    rw [hgc] at HG
    have HGC := Lib.hid hgc
    clear hgc
    go_wp2_with fail
    refine HG.out.mono ?_
    rintro e y1 ⟨rfl, hb1⟩
    have HR1 := Lib.hid (HR.out.below hb1)
    have c3 := HR1.out.cell 2 _ rfl
    have HT := Lib.hid (tb_good (HSN.out.tb.below hb1) bl ar htbl.out)
    have HB1 : Hid (Below B w y1) := HBW.out.trans (hb1.mono (by have := HS.out; omega))
    have hy1s := hb1.size
    have HSN1 := Lib.hid (HSN.out.below hb1)
    have HYS : Hid (B + 1 ≤ y1.heap.size) := by have := HS.out; show _ ≤ _; omega
    clear hb1 hy1s HG HSN c1 c2
    cases htg : tGood s.tb bl ar with
    | false =>
      rw [htg] at HT
      have HE : Hid (fitS s bl ar = false) := by show _ = _; unfold fitS; rw [HGC.out, htg]; rfl
      clear htg
      go_wp2_with fail
      refine HT.out.mono ?_
      rintro e y2 ⟨rfl, hb2⟩
      have HB2 := Lib.hid hb2
      clear hb2
      go_wp2_with fail
      go_ret
      refine ⟨by rw [HE.out]; try rfl, ?_⟩
      rw [HSZ.out]
      exact HB1.out.trans (HB2.out.mono (by have := HYS.out; omega))
    | true =>
      rw [htg] at HT
      have HE0 : Hid (fitS s bl ar = s.tb.all fun p => hasB s.ch p.1) := by show _ = _; unfold fitS; rw [HGC.out, htg]; rfl
      clear htg
      go_wp2_with fail
      refine HT.out.mono ?_
      rintro e y2 ⟨rfl, hb2⟩
      have HR2 := Lib.hid (HR1.out.below hb2)
      have c4 := HR2.out.cell 2 _ rfl
      have HB2 : Hid (Below B w y2) := HB1.out.trans (hb2.mono (by have := HYS.out; omega))
      have HSN2 := Lib.hid (HSN1.out.below hb2)
      have HYS2 : Hid (B + 1 ≤ y2.heap.size) := by have := HYS.out; have := hb2.size; show _ ≤ _; omega
      clear hb2 HT HSN1 c3 HR1 HB1
      go_wp2_with fail
      go_loopw [25] (fun iv wr => ∃ k : Nat, k ≤ tl ∧ iv = .int .i64 (k : Int) ∧ Hid (∀ p ∈ s.tb.take k, hasB s.ch p.1 = true) ∧ Hid (Below y2.heap.size y2 wr)) (fun iv _ => tl - (intOf iv).toNat)
      case atStart => exact ⟨0, Nat.zero_le _, rfl, (fun p hp => by cases hp), Below.refl _ _⟩
      case round =>
        obtain ⟨k, hk, rfl, HP, HB3⟩ := hrel
        by_cases hlt : k < tl
        · obtain ⟨p, hp⟩ : ∃ p, s.tb[k]? = some p := ⟨_, List.getElem?_eq_getElem (by rw [HTL.out]; exact hlt)⟩
          have hsn : s.tb.take (k + 1) = s.tb.take k ++ [p] := take_at hp
          have hpm := List.mem_of_getElem? hp
          obtain ⟨bb, off, rfl, hbb, d1, d2⟩ := (HSN2.out.tb.below HB3.out).at hp
          obtain ⟨x0, y0⟩ := p
          simp only at d1 d2
          have hx0 : (Lit.int .i64 x0).wf = true := wf_i64 (hok.out.tb _ hpm).1.1 (hok.out.tb _ hpm).1.2
          have HSN' := Lib.hid hsn
          have g1 : (k : Int) < (tl : Int) := by omega
          have HW : Hid (wrap64 ((k : Int) + 1) = (k : Int) + 1) := IntWalk.wrap64_in _ (by omega)
          have LD := load_prs d1 d2
          have ST := new_prs wr x0 y0
          obtain ⟨W2, hW2⟩ : ∃ W2, wr.alloc (.cells #[.int .i64 x0, .int .i64 y0] 57) = W2 := ⟨_, rfl⟩
          rw [hW2] at ST
          have hb2 : Below wr.heap.size wr W2 := by rw [← hW2]; exact below_new wr _
          have e1 : W2.cell? ⟨wr.heap.size, 0, none⟩ = some (.int .i64 x0) := by rw [← hW2]; exact (RowC.new wr 57 [.int .i64 x0, .int .i64 y0]).cell 0 _ rfl
          have e2 : W2.cell? ⟨B, 1, none⟩ = some (.slice x n c) := ((HR2.out.below HB3.out).below hb2).cell 1 _ rfl
          have HH := Lib.hid (bi_has _ s.ch x0 hx0 W2 ((HSN2.out.ch.below HB3.out).below hb2) hok.out.ch)
          have HB4 : Hid (Below y2.heap.size y2 W2) := HB3.out.trans (hb2.mono HB3.out.size)
          obtain ⟨N, hN⟩ : ∃ N, wr.heap.size = N := ⟨_, rfl⟩
          rw [hN] at ST e1
          have HLT := Lib.hid hlt
          cases hhb : hasB s.ch x0 with
          | false =>
            rw [hhb] at HH
            have HE : Hid ((s.tb.all fun p => hasB s.ch p.1) = false) := by
              show _ = _
              rw [List.all_eq_false]
              exact ⟨_, hpm, by simp [hhb]⟩
            clear hhb hp hsn hpm hbb d1 d2 hx0 hW2 hb2 HB3 HP hlt
            go_wp2_with fail
            refine HH.out.mono ?_
            rintro e y3 ⟨rfl, hb3⟩
            have HB5 : Hid (Below B w y3) := HB2.out.trans ((HB4.out.trans (hb3.mono HB4.out.size)).mono (by have := HYS2.out; omega))
            clear hb3
            go_wp2_with fail
            refine bodyPost_ret (results_tmp rfl _ _ _) rfl ?_
            refine ⟨by rw [HE0.out, HE.out]; try rfl, ?_⟩
            rw [HSZ.out]
            exact HB5.out
          | true =>
            rw [hhb] at HH
            have HHB : Hid (∀ p ∈ s.tb.take (k + 1), hasB s.ch p.1 = true) := fun p hp => by
              rw [HSN'.out] at hp
              rcases List.mem_append.1 hp with hp | hp
              · exact HP.out p hp
              · rw [List.mem_singleton.1 hp]; exact hhb
            clear hhb hp hsn hpm hbb d1 d2 hx0 hW2 hb2 HB3 HP hlt
            go_wp2_with fail
            refine HH.out.mono ?_
            rintro e y3 ⟨rfl, hb3⟩
            have HB5 : Hid (Below y2.heap.size y2 y3) := HB4.out.trans (hb3.mono HB4.out.size)
            clear hb3
            go_wp2_with fail
            exact ⟨⟨k + 1, HLT.out, by simp, HHB, HB5⟩, by have := HLT.out; simp [intOf]; omega⟩
        · obtain rfl : k = tl := by omega
          have HE : Hid ((s.tb.all fun p => hasB s.ch p.1) = true) := by
            have := HP.out
            rw [List.take_of_length_le (by rw [HTL.out]; exact Nat.le_refl _)] at this
            show _ = _
            rw [List.all_eq_true]
            exact this
          have HB5 : Hid (Below B w wr) := HB2.out.trans (HB3.out.mono (by have := HYS2.out; omega))
          clear HP HB3
          go_wp2_with fail
          refine bodyPost_ret (results_tmp rfl _ _ _) rfl ?_
          refine ⟨by rw [HE0.out, HE.out]; try rfl, ?_⟩
          rw [HSZ.out]
          exact HB5.out
end Go.Proofs.YtajamblkjmafmaaGreat

/- A region that draws its order, in an iterator of one's own: what only reads is taken ahead, then the rest as it stands, inside the wide fence. No program is named. -/
namespace Go.Proofs.YtajamblkjmafmaaGreat
open Go.RowKit
set_option linter.unusedVariables false

section
variable {P : Program} {ops : Array Oper} {Q : Exit → Act → World → Prop} {md : Region.Mode} {S : World → Prop} {m : Nat}

/-- None of these. -/
def NoExit : Exit → Act → World → Prop := fun _ _ _ => False
end
end Go.Proofs.YtajamblkjmafmaaGreat

/- A region that draws its order and whose head neither panics nor leaves: the walk asks nothing of the post, and the head may be all of it. No program is named. -/
namespace Go.Proofs.YtajamblkjmafmaaGreat
open Go.RowKit
set_option linter.unusedVariables false

section
variable {P : Program} {ops : Array Oper} {Q : Exit → Act → World → Prop} {md : Region.Mode} {S : World → Prop}

theorem wp_noExit {o : Oper} {a : Act} {w : World} {K : Act → World → Prop} (h : o.wp P a w K NoExit) : o.wp P a w K Q := by
  unfold Oper.wp at *
  generalize (execOp a.eval o).run P w = r at *
  cases r with
  | ok n w' =>
    cases n <;> simp only [Oper.upon] at h ⊢ <;>
      first
        | exact h
        | exact Calls.mono h (fun e w'' he => by cases e <;> first | exact he | exact he.elim | (obtain ⟨a', w', h'⟩ := he; exact h'.elim))
  | halt x w' => cases x <;> simp only [Oper.upon] at h ⊢ <;> first | exact h | exact h.elim
theorem wpOp_noExit {i : Nat} {K : Act → World → Prop} {a : Act} {w : World} (h : wpOp P ops NoExit i K a w) : wpOp P ops Q i K a w := by
  unfold wpOp at *
  cases ho : ops[i]? with
  | none => simpa [ho] using h
  | some o =>
    simp only [ho] at h ⊢
    by_cases hw : Region.wanted o (yielded ops a.tmps) = true
    · simp only [hw, if_true] at h ⊢
      rcases h with h | ⟨_, _, _, h'⟩
      · exact .inl (wp_noExit h)
      · exact h'.elim
    · simp only [hw] at h ⊢
      exact h
theorem wpAnyM_noExit {n : Nat} {L : Array Bool → Act → World → Prop} : ∀ (f : Nat) (listed : Array Bool) (a : Act) (w : World), wpAnyM P md ops NoExit S n L f listed a w → wpAnyM P md ops Q S n L f listed a w
  | 0, _, _, _, h => h
  | f + 1, _, _, _, h => ⟨h.1, fun i hi => ⟨(h.2 i hi).1, wpOp_mono (fun a' w' h' => ⟨h'.1, wpAnyM_noExit f _ a' w' h'.2⟩) (wpOp_noExit (h.2 i hi).2)⟩⟩

/-- What waits for the head waits, as long as one of the head is left. -/
def Waits (md : Region.Mode) (ops : Array Oper) (n : Nat) : Prop := ∀ (listed : Array Bool) (i : Nat), HeadInv md ops n listed → i < n → listed.getD i true = false → ∀ j ∈ Region.ready md ops listed, j < n

theorem waits_tail {n : Nat} (hs : Region.sinkB md ops n = true) (hc : Region.chainB md ops n = true) (hn : n < ops.size) : Waits md ops n := fun listed i inv hin hun j hj => by
  rcases Nat.lt_or_ge j n with h | h
  · exact h
  · exact absurd hj (tail_waits hs hc hn inv _ i rfl hin hun j h)
theorem waits_all : Waits md ops ops.size := fun listed i _ _ _ j hj => by
  obtain ⟨_, oj, hoj, _⟩ := mem_ready.1 hj
  exact (Array.getElem?_eq_some_iff.1 hoj).1

theorem wpAnyM_firstN {n i : Nat} {oi : Oper} {v : Value} {L : Array Bool → Act → World → Prop} (hi : ops[i]? = some oi) (hsel : ∀ (j : Nat) (o : Oper) cs b, ops[j]? = some o → o.op ≠ .select cs b)
    (hT : Waits md ops n) (hin : i < n)
    (hdone : ∀ listed a w, L listed a w → ∀ j ∈ Region.ready md ops listed, n ≤ j) :
    ∀ (f : Nat) (listed : Array Bool) (a : Act) (w : World), HeadInv md ops n listed →
      (∀ j oj, ops[j]? = some oj → j ≠ i → listed.getD j true = false → (∀ e ∈ oj.after, Region.binds md e = true → e.on ≠ i) → oi.apart ops oj = true) →
      i ∈ Region.ready md ops listed → YieldsIf P ops S oi v a → S w →
      wpAnyM P md ops NoExit S n L f (listed.setIfInBounds i true) (a.put oi.dst v) w → wpAnyM P md ops NoExit S n L (f + 1) listed a w := by
  intro f
  induction f with
  | zero =>
    intro listed a w inv _ hr hy hS H
    have hun := (mem_ready.1 hr).1
    refine ⟨fun h => (by rw [h] at hr; cases hr), fun j hj => ?_⟩
    have hjn : j < n := hT listed i inv hin hun j hj
    refine ⟨hjn, ?_⟩
    by_cases hji : j = i
    · subst hji; exact hy.wpOp hi hS ⟨hS, H⟩
    · have := hdone _ _ _ H j (ready_mono hj hji)
      omega
  | succ f ih =>
    intro listed a w inv hfree hr hy hS H
    have hun := (mem_ready.1 hr).1
    refine ⟨fun h => (by rw [h] at hr; cases hr), fun j hj => ?_⟩
    have hjn : j < n := hT listed i inv hin hun j hj
    refine ⟨hjn, ?_⟩
    by_cases hji : j = i
    · subst hji; exact hy.wpOp hi hS ⟨hS, H⟩
    · have h1 := (H.2 j (ready_mono hj hji)).2
      obtain ⟨hjun, oj, hoj, hall⟩ := mem_ready.1 hj
      have hnot : ∀ e ∈ oj.after, Region.binds md e = true → e.on ≠ i := fun e he hb heq => by
        have h1 := hall e he hb
        rw [heq, getD_both hun] at h1
        cases h1
      have h2 := wpOp_putIf hoj (hfree j oj hoj hji hjun hnot) (fun cs b => hsel i oi cs b hi) (fun cs b => hsel j oj cs b hoj) (fun c a w h => h) hy h1
      have hfree' : ∀ k ok, ops[k]? = some ok → k ≠ i → (listed.setIfInBounds j true).getD k true = false →
          (∀ e ∈ ok.after, Region.binds md e = true → e.on ≠ i) → oi.apart ops ok = true := fun k ok hk hki hun hno => by
        refine hfree k ok hk hki ?_ hno
        by_cases hjk : j = k
        · subst hjk; exact hjun
        · rw [getD_set_ne true hjk] at hun; exact hun
      refine wpOp_mono (fun a' w' h3 => ⟨h3.2.1, ih (listed.setIfInBounds j true) a' w' (inv.set hj hjn) hfree' (ready_mono hr (Ne.symm hji)) h3.1 h3.2.1 ?_⟩) h2
      rw [Array.setIfInBounds_comm _ _ hji]
      exact h3.2.2

/-- The walk: the head has no way out. -/
def wpPlanN (P : Program) (l : List Oper) (Q : Exit → Act → World → Prop) (S : World → Prop) (n : Nat) : Plan → Act → World → Prop
  | .leaf, a, w => wpList P l.toArray Q (l.drop n) a w
  | .take i next, a, w => wpQuiet P l.toArray S (fun a' => wpPlanN P l Q S n next a' w) [nth l i] a
  | .one i next, a, w => wpList P l.toArray (planPost S NoExit (wpPlanN P l Q S n next)) [nth l i] a w
  | .two i j n1 n2, a, w => wpList P l.toArray (planPost S NoExit (wpPlanN P l Q S n n1)) [nth l i] a w ∧ wpList P l.toArray (planPost S NoExit (wpPlanN P l Q S n n2)) [nth l j] a w

theorem wpPlanN_leaf {l : List Oper} {n : Nat} {a : Act} {w : World} : wpPlanN P l Q S n .leaf a w = wpList P l.toArray Q (l.drop n) a w := rfl
theorem wpPlanN_one {l : List Oper} {n i : Nat} {p : Plan} {a : Act} {w : World} : wpPlanN P l Q S n (.one i p) a w = wpList P l.toArray (planPost S NoExit (wpPlanN P l Q S n p)) [nth l i] a w := rfl
theorem wpPlanN_takes_nil {l : List Oper} {n : Nat} {p : Plan} {a : Act} {w : World} : wpPlanN P l Q S n (.takes [] p) a w = wpPlanN P l Q S n p a w := rfl
theorem wpPlanN_takes_cons {l : List Oper} {n i : Nat} {is : List Nat} {p : Plan} {a : Act} {w : World} : wpPlanN P l Q S n (.takes (i :: is) p) a w = wpQuiet P l.toArray S (fun a' => wpPlanN P l Q S n (.takes is p) a' w) [nth l i] a := rfl

theorem wpAnyM_planN {l : List Oper} {n : Nat} (hsel : Region.noSelect l.toArray = true) (hT : Waits md l.toArray n) (hn : n ≤ l.length) :
    ∀ (p : Plan) (f : Nat) (listed : Array Bool) (a : Act) (w : World), HeadInv md l.toArray n listed → planB md l n p f listed = true → S w → wpPlanN P l Q S n p a w →
      wpAnyM P md l.toArray NoExit S n (fun listed' a' w' => Region.seqB md l.toArray (l.length - n) n listed' = true ∧ wpList P l.toArray Q (l.drop n) a' w') f listed a w := by
  intro p
  induction p with
  | leaf =>
    intro f listed a w inv hB hS h
    simp only [planB, Bool.and_eq_true, decide_eq_true_eq] at hB
    obtain ⟨rfl, hB⟩ := hB
    exact ⟨hB, h⟩
  | take i next ih =>
    intro f listed a w inv hB hS h
    simp only [planB, Bool.and_eq_true, decide_eq_true_eq] at hB
    obtain ⟨⟨⟨⟨⟨hf, hin⟩, hrd⟩, hr⟩, hfr⟩, hB⟩ := hB
    obtain ⟨f, rfl⟩ : ∃ g, f = g + 1 := ⟨f - 1, by omega⟩
    have ho : l.toArray[i]? = some (nth l i) := by simpa using nth_get l i (by omega)
    have hr' : i ∈ Region.ready md l.toArray listed := by simpa using hr
    simp only [wpPlanN, wpQuiet] at h
    obtain ⟨v, hy, hK⟩ := yieldsIf_of_quiet (i := i) hrd ⟨w, hS⟩ h
    exact wpAnyM_firstN ho (Region.noSelect_spec hsel) hT hin (fun listed a w hL => seqB_ready hL.1) f listed a w inv (Region.free_spec ho hfr) hr' hy hS
      (ih f _ _ w (inv.set hr' hin) (by simpa using hB) hS hK)
  | one i next ih =>
    intro f listed a w inv hB hS h
    simp only [planB, Bool.and_eq_true, decide_eq_true_eq] at hB
    obtain ⟨⟨⟨hf, hin⟩, hr⟩, hB⟩ := hB
    obtain ⟨f, rfl⟩ : ∃ g, f = g + 1 := ⟨f - 1, by omega⟩
    refine ⟨by rw [hr]; simp, fun j hj => ?_⟩
    have hj' := hj
    rw [hr] at hj
    obtain rfl : j = i := by simpa using hj
    exact ⟨hin, wpOp_mono (fun a' w' h' => ⟨h'.1, ih f _ _ w' (inv.set hj' hin) (by simpa using hB) h'.1 h'.2⟩) (wpOp_of_one (by omega) h)⟩
  | two i k n1 n2 ih1 ih2 =>
    intro f listed a w inv hB hS h
    simp only [planB, Bool.and_eq_true, decide_eq_true_eq] at hB
    obtain ⟨⟨⟨⟨⟨hf, hin⟩, hkn⟩, hr⟩, hB1⟩, hB2⟩ := hB
    obtain ⟨f, rfl⟩ : ∃ g, f = g + 1 := ⟨f - 1, by omega⟩
    obtain ⟨g1, g2⟩ := h
    refine ⟨by rw [hr]; simp, fun j hj => ?_⟩
    have hj' := hj
    rw [hr] at hj
    rcases (by simpa using hj : j = i ∨ j = k) with rfl | rfl
    · exact ⟨hin, wpOp_mono (fun a' w' h' => ⟨h'.1, ih1 f _ _ w' (inv.set hj' hin) (by simpa using hB1) h'.1 h'.2⟩) (wpOp_of_one (by omega) g1)⟩
    · exact ⟨hkn, wpOp_mono (fun a' w' h' => ⟨h'.1, ih2 f _ _ w' (inv.set hj' hkn) (by simpa using hB2) h'.1 h'.2⟩) (wpOp_of_one (by omega) g2)⟩

/-- May the region be gone so? The head may be all of it. -/
def planOkN (l : List Oper) (n : Nat) (p : Plan) : Bool :=
  Region.noSelect l.toArray && (decide (n = l.length) || (decide (n < l.length) && Region.sinkB .any l.toArray n && Region.chainB .any l.toArray n)) && planB .any l n p n (Array.replicate l.length false)

theorem wpAny_planN {l : List Oper} {a : Act} {w : World} (S : World → Prop) (n : Nat) (p : Plan) (hB : planOkN l n p = true) (hS : S w)
    (h : wpPlanN P l Q S n p a w) : wpAny P .any l.toArray Q l.toArray.size (Array.replicate l.toArray.size false) a w := by
  simp only [planOkN, Bool.and_eq_true, Bool.or_eq_true, decide_eq_true_eq] at hB
  obtain ⟨⟨hsel, hnn⟩, hp⟩ := hB
  have hn : n ≤ l.length := by omega
  have hT : Waits .any l.toArray n := by
    rcases hnn with rfl | ⟨⟨hn, hs⟩, hc⟩
    · have := waits_all (md := .any) (ops := l.toArray)
      simpa using this
    · exact waits_tail hs hc (by simpa using hn)
  have inv0 : HeadInv .any l.toArray n (Array.replicate l.toArray.size false) :=
    ⟨by simp, fun j oj _ hl => (by rw [getD_replicate_false] at hl; cases hl), fun t _ ht => getD_in (by simpa using ht) (getD_replicate_false _ _)⟩
  have H := wpAnyM_planN (md := .any) hsel hT hn p n _ a w inv0 (by simpa using hp) hS h
  have := wpAny_of_M (g := l.length - n) (fun listed a' w' hL => by
    have := wpAny_of_seq (md := .any) (Q' := Q) (l.drop n) n listed a' w' (fun j => by simp [List.getElem?_drop]) (by rw [List.length_drop]; exact hL.1) hL.2
    rwa [List.length_drop] at this) _ _ _ _ (wpAnyM_noExit (Q := Q) _ _ _ _ H)
  rw [show n + (l.length - n) = l.toArray.size by simp; omega] at this
  exact this

/-- **A REGION THAT DRAWS, its head with no way out.** -/
theorem region_planN {id : Nat} {a : Act} {w : World} {l : List Oper} (S : World → Prop) (n : Nat) (p : Plan) (hm : P.follows .mixedOrders = true) (hB : planOkN l n p = true) (hS : S w.drew)
    (h : wpPlanN P l Q S n p a w.drew) : (Code.region id l.toArray true).wp P Q a w :=
  wp_region_any hm (wpAny_planN S n p hB hS h)
end
end Go.Proofs.YtajamblkjmafmaaGreat

