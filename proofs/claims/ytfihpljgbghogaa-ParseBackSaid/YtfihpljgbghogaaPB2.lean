/- The ground of the proofs, part 2. -/
import Derived.Test.YtfihpljgbghogaaPB1
import Derived.LoopTactic
import Derived.RangeFuncNested
import Derived.RangeFuncBound
import Derived.RangeFuncCalls
import Derived.RangeFuncLeaves
import Derived.Shelf.Abstract
import Derived.Shelf.RegionOpen
import Derived.WalkKit
import Derived.OwnWalkIn
import Derived.TacticsInMore
import Derived.LoopNIn
import Derived.LoopIn
import Derived.Test.YtfihpljgbghogaaProg
import Derived.RangeFuncBox
import Derived.Lib.Hide
import Derived.Lib.Bytes
import Derived.Lib.AppendZerosOnto
import Derived.RangeFuncWrites
import Derived.Deep.Upon
import Derived.Maps.AppendAt
/- The developers' range function over records: each comes, with the least block at which it may begin, in order. -/
namespace Go.Proofs.Ytfihpljgbghogaa
open Go.RowKit Go.Shelf
set_option linter.unusedVariables false
set_option linter.unusedSimpArgs false
attribute [-simp] Try.isAgg49 Try.zeroValue49 Try.isAgg26 Try.zeroValue26
attribute [-go_sem] loadVar storeVar
attribute [local go_sem] loadVar_openRS storeVar_openRS zero_rc zero_sm
attribute [local go_sem] Oper.semAt_some

def rvz : RV := (0, 0, false, (none, 0, 0))
/-- The item number k. -/
def encR (r : List RV) (l : List RC) (k : Nat) : Array Value := #[.int .i64 (leastAt l k), rvV (r[k]?.getD rvz)]
/-- What the box of the range function holds. -/
structure RcB (B : Nat) (v : Value) (r : List RV) (l : List RC) (W : World) : Prop where
  cl : W.cell? ⟨B, 0, none⟩ = some v
  lt : B < W.heap.size
  rc : RcR W v r l
theorem encR_at {r : List RV} {l : List RC} {k : Nat} {q : RV} (h : r[k]? = some q) : encR r l k = #[.int .i64 (leastAt l k), rvV q] := by unfold encR; rw [h]; rfl
/-- Where the record ahead ends. -/
def endAt (l : List RC) : Nat → Int
  | 0 => 0
  | k + 1 => wrap64 ((l[k]?.getD rcz).fr + (l[k]?.getD rcz).ct)
theorem leastAt_same {l : List RC} {k : Nat} {p x : RC} (hp : l[k]? = some p) (hx : l[k + 1]? = some x) (h : x.ze = p.ze) : leastAt l (k + 1) = wrap64 (endAt l (k + 1) + 1) := by
  rw [leastAt_succ hp hx]; simp [least, endAt, hp, h]
theorem leastAt_other {l : List RC} {k : Nat} {p x : RC} (hp : l[k]? = some p) (hx : l[k + 1]? = some x) (h : ¬ x.ze = p.ze) : leastAt l (k + 1) = endAt l (k + 1) := by
  rw [leastAt_succ hp hx]; simp [least, endAt, hp, h]
theorem endAt_succ {l : List RC} {k : Nat} {p : RC} (hp : l[k]? = some p) : endAt l (k + 1) = wrap64 (p.fr + p.ct) := by simp [endAt, hp]

set_option maxRecDepth 100000 in
set_option maxHeartbeats 1000000 in
theorem records_in (F : Fence) (n : Nat) (hf : F.fn 30) (hro : F.round = none) (a : Option Addr) (len cap : Nat) (w : World) :
    CallsIn F n Try.prog 30 #[.slice a len cap] w fun e w' => e = .returned (.func (.func 46) #[] #[.pointer (some ⟨w.heap.size, 0, none⟩)]) ∧
      w' = w.alloc (.cells #[.slice a len cap] 24) := by
  refine callsIn_of_wp Try.func30 rfl hf ?_ hro
  simp only [Try.ntmps30, List.size_toArray, List.length_cons, List.length_nil, Nat.reduceAdd, Nat.reduceSub, Array.replicate_succ, Array.replicate_zero, List.push_toArray, List.append_toArray, List.nil_append, List.cons_append]
  gi_wp2
  go_ret
  exact ⟨rfl, rfl⟩

set_option maxRecDepth 100000 in
set_option maxHeartbeats 4000000 in
theorem records1_seq (n : Nat) (hn : 1 ≤ n) (B : Nat) (v : Value) (r : List RV) (l : List RC) (w : World) :
    SeqNumB Fence.wide n Try.prog 46 #[.pointer (some ⟨B, 0, none⟩)] (encR r l) (RcB B v r l) l.length w := by
  intro lp J Jx W hW hJR hJA _ hY h0
  have hR0 := hJR 0 W h0
  obtain ⟨a, cap, rfl, hlc, hcm⟩ := hR0.rc.len
  have HJR := Lib.hid hJR
  have HJE : Hid (∀ k x y, J k x → Below x.heap.size x y → J k y) := fun k x y hx hb => hJA k x y none hx (below_grown hb) (fun r e => by cases e)
  have HY := Lib.hid hY
  have hcl := hR0.cl
  obtain ⟨m, hm⟩ : ∃ m, l.length = m := ⟨_, rfl⟩
  have HM := Lib.hid hm
  rw [hm] at hlc hcl HY HJR ⊢
  have hmx : (m : Int) ≤ 9223372036854775807 := by unfold maxLen at hcm; omega
  have hmx2 : m ≤ maxLen := by omega
  have HMX := Lib.hid hmx2
  clear hm hlc hcm hR0 hJR hJA hY hW hmx2
  refine callsIn_of_wp Try.func46 rfl trivial ?_ rfl
  simp only [Try.ntmps46, List.size_toArray, List.length_cons, List.length_nil, Nat.reduceAdd, Nat.reduceSub, Array.replicate_succ, Array.replicate_zero, List.push_toArray, List.append_toArray, List.nil_append, List.cons_append]
  gi_wp2
  gi_loopw [3, 8] (fun x y wr => ∃ k : Nat, k ≤ m ∧ x = .int .i64 (endAt l k) ∧ y = .int .i64 (k : Int) ∧ J k wr) (fun _ y _ => m - (intOf y).toNat)
  case atStart => exact ⟨0, Nat.zero_le _, rfl, rfl, h0⟩
  case round =>
    obtain ⟨k, hk, rfl, rfl, hJs⟩ := hrel
    have hb := HJR.out k wr hJs
    have c1 := hb.cl
    by_cases hkm : k < m
    · have g1 : (k : Int) < (m : Int) := by omega
      have hW1 : Hid (wrap64 ((k : Int) + 1) = (k : Int) + 1) := IntWalk.wrap64_in _ (by have := HMX.out; unfold maxLen at this; omega)
      obtain ⟨s, hs⟩ : ∃ s, l[k]? = some s := ⟨_, List.getElem?_eq_getElem (by rw [HM.out]; omega)⟩
      obtain ⟨b, off, q, rfl, hbl, hq, hqs, d1, d2, d3, d4⟩ := hb.rc.at hs
      have LD := load_rc d1 d2 d3 d4
      obtain ⟨q1, q2, q3, q4⟩ := q
      have ST := new_rc wr (q1, q2, q3, q4)
      obtain ⟨W2, hW2⟩ : ∃ W2, wr.alloc (.cells (rvL (q1, q2, q3, q4)).toArray 49) = W2 := ⟨_, rfl⟩
      obtain ⟨C, hC⟩ : ∃ C, wr.heap.size = C := ⟨_, rfl⟩
      have hb2 : Below wr.heap.size wr W2 := by rw [← hW2]; exact below_new wr _
      have hR : RowC W2 C 49 (rvL (q1, q2, q3, q4)) := by rw [← hW2, ← hC]; exact RowC.new wr _ _
      rw [hW2] at ST
      rw [hC] at ST
      have HEN : Hid (endAt l (k + 1) = wrap64 (q1 + q2)) := by show _ = _; rw [endAt_succ hs, ← hqs.fr, ← hqs.ct]
      have e2 : ∀ y : Ext W2, y.1.cell? ⟨C, 2, none⟩ = some (.bool q3) := fun y => (hR.below y.2).cell 2 _ rfl
      have e0 : ∀ y : Ext W2, y.1.cell? ⟨B, 0, none⟩ = some (.slice (some ⟨b, off, none⟩) m cap) := fun y => ((hb2.trans (y.2.mono hb2.size)).cell (p := ⟨B, 0, none⟩) hb.lt).trans c1
      simp only [rvV, slV] at LD ST
      simp only [rvL, slV] at hW2
      by_cases h0 : k = 0
      · subst h0
        simp only [Nat.zero_mul, Nat.add_zero] at LD
        have HLA : Hid (leastAt l 0 = endAt l 0) := rfl
        gi_wp2_with fail
        refine wpIn_wide.2 ?_
        refine region_ext (by kernel_rfl) (by kernel_rfl) ?_
        repeat (go_big_quiet_step (fail))
        try (with_reducible refine wpQuiet_nil ?_)
        intro z
        clear e0 e2
        have LD2 := load_rcC (hR.below z.2)
        have hbz : Below wr.heap.size wr z.1 := hb2.trans (z.2.mono hb2.size)
        have hy0 := HY.out 0 wr z.1 hkm hJs hbz
        rw [encR_at hq, HLA.out] at hy0
        obtain ⟨fn, tmps, assign, body, hy, hRR⟩ := hy0
        have HRC : Hid (RowC z.1 C 49 (rvL (q1, q2, q3, q4))) := hR.below z.2
        have HCW : Hid (wr.heap.size ≤ C) := by show _ ≤ _; omega
        have HKM := Lib.hid hkm
        clear hb hs hq hqs d1 d2 d3 d4 hkm hR hW2 hC hJs hbl LD ST hb2 hbz 
        simp only [rvV, slV] at LD2 hy
        gi_wp2
        refine hRR.mono ?_
        rintro e W3 ⟨hst, (⟨rfl, hJ3⟩ | ⟨rfl, hJx3⟩)⟩
        · have hR3 : RowC W3 C 49 (rvL (q1, q2, q3, q4)) := (hst.2 C HCW.out HRC.out.lt).trans HRC.out
          have f0 := hR3.cell 0 _ rfl
          have f1 := hR3.cell 1 _ rfl
          have HJ3 := Lib.hid hJ3
          clear hJ3 hst hR3
          gi_wp2
          go_roundw
          case rel => exact ⟨0 + 1, HKM.out, by rw [HEN.out], by first | (simp; done) | (rw [hW1.out]; simp; done) | (simp only [Value.int.injEq, true_and]; omega), HJ3.out⟩
          case measure => have := HKM.out; first | (simp [intOf]; omega) | (rw [hW1.out]; simp [intOf]; omega)
        · have HJ3 := Lib.hid hJx3
          clear hJx3 hst
          gi_wp2
          refine bodyPost_ret (results_none rfl _ _ _) rfl ?_
          exact ⟨⟨_, rfl⟩, .inr ⟨0 + 1, HKM.out, HJ3.out⟩⟩
      · obtain ⟨i, rfl⟩ : ∃ i, k = i + 1 := ⟨k - 1, by omega⟩
        obtain ⟨s', hs'⟩ : ∃ s, l[i]? = some s := ⟨_, List.getElem?_eq_getElem (by rw [HM.out]; omega)⟩
        obtain ⟨b', off', q', eb, -, -, hqs', -, -, p3, -⟩ := hb.rc.at hs'
        obtain ⟨rfl, rfl⟩ : b' = b ∧ off' = off := by cases eb; exact ⟨rfl, rfl⟩
        obtain ⟨p1, p2, p3v, p4⟩ := q'
        simp only at p3
        have e4 : ∀ y : Ext W2, y.1.cell? ⟨b', off' + i * 4 + 2, none⟩ = some (.bool p3v) := fun y => ((hb2.trans (y.2.mono hb2.size)).cell (p := ⟨b', off' + i * 4 + 2, none⟩) hbl).trans p3
        have HQ : Hid (wrap64 (((i + 1 : Nat) : Int) - 1) = (i : Int)) := by show _ = _; rw [show ((i + 1 : Nat) : Int) - 1 = (i : Int) by omega]; exact IntWalk.wrap64_in _ (by omega)
        have g2 : (i : Int) < (m : Int) := by omega
        have g3 : ((i + 1 : Nat) : Int) > 0 := by omega
        by_cases hz : q3 = p3v
        · subst hz
          have HLA : Hid (leastAt l (i + 1) = wrap64 (endAt l (i + 1) + 1)) := leastAt_same hs' hs (by rw [← hqs.ze, ← hqs'.ze])
          have q5 : (q3 == q3) = true := by simp
          gi_wp2_with fail
          refine wpIn_wide.2 ?_
          refine region_ext (by kernel_rfl) (by kernel_rfl) ?_
          repeat (go_big_quiet_step (with_reducible (first | rw [HQ.out])))
          try (with_reducible refine wpQuiet_nil ?_)
          intro z
          clear e0 e2 e4
          have LD2 := load_rcC (hR.below z.2)
          have hbz : Below wr.heap.size wr z.1 := hb2.trans (z.2.mono hb2.size)
          have hy0 := HY.out (i + 1) wr z.1 hkm hJs hbz
          rw [encR_at hq, HLA.out] at hy0
          obtain ⟨fn, tmps, assign, body, hy, hRR⟩ := hy0
          have HRC : Hid (RowC z.1 C 49 (rvL (q1, q2, q3, q4))) := hR.below z.2
          have HCW : Hid (wr.heap.size ≤ C) := by show _ ≤ _; omega
          have HKM := Lib.hid hkm
          clear hb hs hq hqs d1 d2 d3 d4 hkm hR hW2 hC hJs hbl LD ST hb2 hbz p3 hs' hqs' eb
          simp only [rvV, slV] at LD2 hy
          gi_wp2
          refine hRR.mono ?_
          rintro e W3 ⟨hst, (⟨rfl, hJ3⟩ | ⟨rfl, hJx3⟩)⟩
          · have hR3 : RowC W3 C 49 (rvL (q1, q2, q3, q4)) := (hst.2 C HCW.out HRC.out.lt).trans HRC.out
            have f0 := hR3.cell 0 _ rfl
            have f1 := hR3.cell 1 _ rfl
            have HJ3 := Lib.hid hJ3
            clear hJ3 hst hR3
            gi_wp2
            go_roundw
            case rel => exact ⟨(i + 1) + 1, HKM.out, by rw [HEN.out], by first | (simp; done) | (rw [hW1.out]; simp; done) | (simp only [Value.int.injEq, true_and]; omega), HJ3.out⟩
            case measure => have := HKM.out; first | (simp [intOf]; omega) | (rw [hW1.out]; simp [intOf]; omega)
          · have HJ3 := Lib.hid hJx3
            clear hJx3 hst
            gi_wp2
            refine bodyPost_ret (results_none rfl _ _ _) rfl ?_
            exact ⟨⟨_, rfl⟩, .inr ⟨(i + 1) + 1, HKM.out, HJ3.out⟩⟩
        · have q5 : (q3 == p3v) = false := by simpa using hz
          have HLA : Hid (leastAt l (i + 1) = endAt l (i + 1)) := leastAt_other hs' hs (by rw [← hqs.ze, ← hqs'.ze]; exact hz)
          gi_wp2_with fail
          refine wpIn_wide.2 ?_
          refine region_ext (by kernel_rfl) (by kernel_rfl) ?_
          repeat (go_big_quiet_step (with_reducible (first | rw [HQ.out])))
          try (with_reducible refine wpQuiet_nil ?_)
          intro z
          clear e0 e2 e4
          have LD2 := load_rcC (hR.below z.2)
          have hbz : Below wr.heap.size wr z.1 := hb2.trans (z.2.mono hb2.size)
          have hy0 := HY.out (i + 1) wr z.1 hkm hJs hbz
          rw [encR_at hq, HLA.out] at hy0
          obtain ⟨fn, tmps, assign, body, hy, hRR⟩ := hy0
          have HRC : Hid (RowC z.1 C 49 (rvL (q1, q2, q3, q4))) := hR.below z.2
          have HCW : Hid (wr.heap.size ≤ C) := by show _ ≤ _; omega
          have HKM := Lib.hid hkm
          clear hb hs hq hqs d1 d2 d3 d4 hkm hR hW2 hC hJs hbl LD ST hb2 hbz p3 hs' hqs' eb
          simp only [rvV, slV] at LD2 hy
          gi_wp2
          refine hRR.mono ?_
          rintro e W3 ⟨hst, (⟨rfl, hJ3⟩ | ⟨rfl, hJx3⟩)⟩
          · have hR3 : RowC W3 C 49 (rvL (q1, q2, q3, q4)) := (hst.2 C HCW.out HRC.out.lt).trans HRC.out
            have f0 := hR3.cell 0 _ rfl
            have f1 := hR3.cell 1 _ rfl
            have HJ3 := Lib.hid hJ3
            clear hJ3 hst hR3
            gi_wp2
            go_roundw
            case rel => exact ⟨(i + 1) + 1, HKM.out, by rw [HEN.out], by first | (simp; done) | (rw [hW1.out]; simp; done) | (simp only [Value.int.injEq, true_and]; omega), HJ3.out⟩
            case measure => have := HKM.out; first | (simp [intOf]; omega) | (rw [hW1.out]; simp [intOf]; omega)
          · have HJ3 := Lib.hid hJx3
            clear hJx3 hst
            gi_wp2
            refine bodyPost_ret (results_none rfl _ _ _) rfl ?_
            exact ⟨⟨_, rfl⟩, .inr ⟨(i + 1) + 1, HKM.out, HJ3.out⟩⟩
    · have g1 : ¬ (k : Int) < (m : Int) := by omega
      obtain rfl : k = m := by omega
      have HJ := Lib.hid hJs
      clear hb hJs
      gi_wp2
      go_end0
      exact ⟨⟨_, rfl⟩, .inl HJ.out⟩
end Go.Proofs.Ytfihpljgbghogaa

/- The developers' Good. -/
namespace Go.Proofs.Ytfihpljgbghogaa
open Go.RowKit Go.Shelf
set_option linter.unusedVariables false
set_option linter.unusedSimpArgs false
attribute [-simp] Try.isAgg49 Try.zeroValue49 Try.isAgg26 Try.zeroValue26
attribute [-go_sem] loadVar storeVar
attribute [local go_sem] loadVar_openRS storeVar_openRS zero_rc zero_sm
attribute [local go_sem] Oper.semAt_some

theorem calls_yes {P : Program} {f : FuncId} {args : Array Value} {w : World} {p : Prop} (h : Calls P f args w fun e w' => ∃ t, e = .returned (.bool t) ∧ (t = true ↔ p) ∧ Below w.heap.size w w') (hp : p) : Calls P f args w fun e w' => e = .returned (.bool true) ∧ Below w.heap.size w w' :=
  h.mono fun e w' ⟨t, h1, h2, h3⟩ => ⟨by rw [h1, h2.2 hp], h3⟩
theorem calls_no {P : Program} {f : FuncId} {args : Array Value} {w : World} {p : Prop} (h : Calls P f args w fun e w' => ∃ t, e = .returned (.bool t) ∧ (t = true ↔ p) ∧ Below w.heap.size w w') (hp : ¬ p) : Calls P f args w fun e w' => e = .returned (.bool false) ∧ Below w.heap.size w w' :=
  h.mono fun e w' ⟨t, h1, h2, h3⟩ => ⟨by cases t with | false => exact h1 | true => exact absurd (h2.1 rfl) hp, h3⟩
theorem least_nn {s : SM} (hh : hdOk s.bl s.ba s.id) {k : Nat} (hk : k < s.re.length) (h : okTo s k) : 0 ≤ leastAt s.re k := by
  match k with
  | 0 => exact Int.le_refl 0
  | k + 1 =>
    have hp := List.getElem?_eq_getElem (l := s.re) (i := k) (by omega)
    have hx := List.getElem?_eq_getElem (l := s.re) (i := k + 1) hk
    obtain ⟨b1, b2, b3, b4⟩ := okTo_from hh h hp
    rw [leastAt_succ hp hx, least_ok (by omega) (by omega)]
    split <;> omega
theorem stay_below {H G : Nat} {X Y : World} (h : Below X.heap.size X Y) (hG : G ≤ X.heap.size) : StayG H G X Y := ⟨h.size, fun b _ hb => h.block b (by omega)⟩
theorem stay_set {H G B j : Nat} {X : World} {v : Value} (hB : B < H) (hG : G ≤ X.heap.size) : StayG H G X (X.setCell ⟨B, j, none⟩ v) := StayG.grown (grownBy_setCellJ X B j v) hG (fun r e => by cases e; exact .inl hB)

/-- What a round of Good keeps. -/
structure GoI (B D : Nat) (bl ba id : Int) (x : SlV) (s : SM) (w : World) (k : Nat) (W : World) : Prop where
  sb : RowC W B 26 (smL bl ba id x)
  rb : RowC W (B + 1) 4 [.bool false]
  lb : RowC W D 24 [slV x]
  be : Below B w W
  ok : okTo s k
theorem GoI.own {B D N k : Nat} {bl ba id : Int} {v : SlV} {s : SM} {w x y : World} {row : Option Nat} (h : GoI B D bl ba id v s w k x) (hB : B ≤ w.heap.size) (hN : w.heap.size ≤ N) (hg : x.grownBy y row) (hr : ∀ r, row = some r → N ≤ r ∧ ∃ o : Obj, x.heap[r]? = some o ∧ o.isCells = false) : GoI B D bl ba id v s w k y :=
  ⟨rowC_own h.sb hg hr, rowC_own h.rb hg hr, rowC_own h.lb hg hr, below_own h.be hB hg (fun r e => ⟨by have := (hr r e).1; omega, (hr r e).2⟩), h.ok⟩
theorem GoI.below {B D k : Nat} {bl ba id : Int} {v : SlV} {s : SM} {w x y : World} (h : GoI B D bl ba id v s w k x) (hB : B ≤ x.heap.size) (hb : Below x.heap.size x y) : GoI B D bl ba id v s w k y :=
  ⟨h.sb.below hb, h.rb.below hb, h.lb.below hb, h.be.trans (hb.mono hB), h.ok⟩

set_option maxRecDepth 100000 in
set_option maxHeartbeats 8000000 in
/-- **Good**. -/
theorem sm_good {w : World} {v : Value} {s : SM} (h : Smi w v s) : Calls Try.prog 14 #[v] w fun e w' => ∃ t, e = .returned (.bool t) ∧ (t = true ↔ sGood s) ∧ Below w.heap.size w w' := by
  have hok := h.ok
  obtain ⟨r, ⟨⟨x, rfl, hR⟩, ib, ia, ii⟩⟩ := h
  have HS := Lib.hid hR
  obtain ⟨xa, xn, xc⟩ := x
  obtain ⟨cap0, h0, hlc, hcm⟩ : ∃ cap, xn = s.re.length ∧ s.re.length ≤ cap ∧ cap ≤ maxLen := by obtain ⟨a', c', e, h1, h2⟩ := hR.len; cases e; exact ⟨_, rfl, h1, h2⟩
  obtain ⟨len, hle⟩ : ∃ len, s.re.length = len := ⟨_, rfl⟩
  have HL := Lib.hid hle
  have HOK := Lib.hid hok
  rw [hle] at h0
  subst h0
  obtain ⟨bl, hbl⟩ : ∃ b, s.bl = b := ⟨_, rfl⟩
  obtain ⟨ba, hba⟩ : ∃ b, s.ba = b := ⟨_, rfl⟩
  obtain ⟨id, hid⟩ : ∃ b, s.id = b := ⟨_, rfl⟩
  obtain ⟨B, hB⟩ : ∃ B, w.heap.size = B := ⟨_, rfl⟩
  have HSZ := Lib.hid hB
  obtain ⟨X, hX⟩ : ∃ X, (w.alloc (.cells #[.int .i64 bl, .int .i64 ba, .int .i64 id, .slice xa xn xc] 26)).alloc (.cells #[.bool false] 4) = X := ⟨_, rfl⟩
  have hXs : X.heap.size = B + 2 := by rw [← hX, ← hB]; simp
  have hXb : Below B w X := by rw [← hX, ← hB]; exact ((Below.refl _ w).alloc (Nat.le_refl _) _).alloc (by simp) _
  have k1 : RowC X B 26 (smL bl ba id (xa, xn, xc)) := by rw [← hX, ← hB]; exact (RowC.new w _ _).below (below_new _ _)
  have k2 : RowC X (B + 1) 4 [.bool false] := by
    rw [← hX, ← hB]
    have := RowC.new (w.alloc (.cells #[.int .i64 bl, .int .i64 ba, .int .i64 id, .slice xa xn xc] 26)) 4 [.bool false]
    rwa [World.size_alloc] at this
  have LS := load_smC k1
  have hhd := sm_head bl ba id (xa, xn, xc) X
  rw [hbl, hba, hid]
  simp only [smV, slV] at LS hhd ⊢
  by_cases hh : hdOk bl ba id
  · have HH := Lib.hid (calls_yes hhd hh)
    have HHD : Hid (hdOk s.bl s.ba s.id) := by show hdOk _ _ _; rw [hbl, hba, hid]; exact hh
    have K1 := Lib.hid k1
    have K2 := Lib.hid k2
    have HXB := Lib.hid hXb
    have HXS := Lib.hid hXs
    have HBL := Lib.hid hbl
    have HBA := Lib.hid hba
    clear hhd hh k1 k2 hXb hXs hlc hcm ib ia ii hok hR hbl hba hid hle
    refine (callsIn_wide (n := 3)).1 ?_
    refine callsIn_of_wp_marks Try.func14 rfl trivial ?_ rfl
    simp only [Try.ntmps14, List.size_toArray, List.length_cons, List.length_nil, Nat.reduceAdd, Nat.reduceSub, Array.replicate_succ, Array.replicate_zero, List.push_toArray, List.append_toArray, List.nil_append, List.cons_append]
    gi_wp2_with (refine ⟨trivial, ?_⟩; gi_at_call 35; refine (callsIn_wide.2 HH.out).mono ?_; rintro e y ⟨rfl, hy⟩; have m1 := K1.out.below hy; have m2 := K2.out.below hy; have HY := Lib.hid hy; have c3 := m1.cell 3 _ rfl; clear hy; simp only [slV] at c3)
    refine ⟨trivial, ?_⟩
    refine (records_in _ _ trivial rfl _ _ _ _).mono ?_
    rintro e w' ⟨rfl, rfl⟩
    obtain ⟨D, hD⟩ : ∃ D, y.heap.size = D := ⟨_, rfl⟩
    obtain ⟨W0, hW0⟩ : ∃ W0, y.alloc (.cells #[.slice xa xn xc] 24) = W0 := ⟨_, rfl⟩
    have hDB : B + 2 ≤ D := by rw [← hD, ← HXS.out]; exact HY.out.size
    have bW : Below y.heap.size y W0 := by rw [← hW0]; exact below_new y _
    have m3 : RowC W0 D 24 [slV (xa, xn, xc)] := by rw [← hW0, ← hD]; exact RowC.new y _ _
    have hWs : W0.heap.size = D + 1 := by rw [← hW0, ← hD]; simp
    have hbB : Below B w W0 := (HXB.out.trans (HY.out.mono (by have := HXS.out; omega))).trans (bW.mono (by omega))
    have GI0 : GoI B D bl ba id (xa, xn, xc) s w 0 W0 := ⟨m1.below bW, m2.below bW, m3, hbB, okTo_zero s⟩
    have hseq := records1_seq 2 (by omega) D (.slice xa xn xc) r s.re W0
    rw [HL.out] at hseq
    try rw [hW0]
    try rw [hD]
    have HDB := Lib.hid hDB
    have HWS := Lib.hid hWs
    clear hD hW0 m1 m2 m3 bW hbB c3 hDB LS hX
    gi_wp2_with fail
    refine wpIn_rangeFunc_numB (n := 3) rfl (by omega) (gf := 46) (lb := #[.pointer (some ⟨D, 0, none⟩)]) rfl trivial (enters_of Try.func46 (by kernel_rfl) rfl)
      hseq (Below.refl _ _) (fun _ => rfl)
      (fun H k W => GoI B D bl ba id (xa, xn, xc) s w k W)
      (fun c k W => c = .ret ∧ RowC W (B + 1) 4 [.bool false] ∧ Below B w W ∧ ¬ sGood s)
      ?hR ?hI ?hup ?hIx GI0
      (fun k a' W => ∃ C q, D < C ∧ r[k]? = some q ∧ RowC W C 49 (rvL q) ∧ a' = { tmps := #[.agg #[.int .i64 bl, .int .i64 ba, .int .i64 id, .slice xa xn xc], .pointer (some ⟨B, 0, none⟩), .pointer (some ⟨B + 1, 0, none⟩), .int .i64 (leastAt s.re k), .pointer (some ⟨C, 0, none⟩), .agg #[.int .i64 bl, .int .i64 ba, .int .i64 id, .slice xa xn xc], .bool true, .bool false, .pointer (some ⟨B, 3, none⟩), .slice xa xn xc, .func (.func 46) #[] #[.pointer (some ⟨D, 0, none⟩)], .int .i64 (leastAt s.re k), rvV q, undef, undef, undef, undef, undef, undef, undef, undef, undef, undef, undef, undef, undef], defers := [] })
      ?hAx ?assign ?body ?done ?stop
    case hR =>
      intro H k W g
      exact ⟨g.lb.cell 0 _ rfl, g.lb.lt, HS.out.below (by rw [HSZ.out]; exact g.be)⟩
    case hI =>
      intro H k Y Z row g hg hr
      exact g.own (by rw [HSZ.out]; exact Nat.le_refl _) (by have := HWS.out; have := HDB.out; have := HSZ.out; omega) hg hr
    case hup => exact fun H k W g => g
    case hIx =>
      intro c k Y Z row ⟨g1, g2, g3, g4⟩ hg hr
      exact ⟨g1, rowC_own g2 hg hr, below_own g3 (by rw [HSZ.out]; exact Nat.le_refl _) hg (fun r e => ⟨by have := (hr r e).1; have := HWS.out; have := HDB.out; have := HSZ.out; omega, (hr r e).2⟩), g4⟩
    case hAx =>
      rintro k a' _ Y Z row ⟨C, q, f1, f2, f3, f4⟩ hg hr
      exact ⟨C, q, f1, f2, rowC_own f3 hg hr, f4⟩
    case assign =>
      rintro lp H k W K hH hHW hkm g hK
      obtain ⟨q, s', hq, hs, -⟩ := rcR_at HS.out (k := k) (by rw [HL.out]; exact hkm)
      have ST := new_rc W q
      have HZ : Hid (D < W.heap.size) := g.lb.lt
      have bN := below_new W (.cells (rvL q).toArray 49)
      have hK := hK _ _ (keepsFrom_below bN) (stay_below bN (Nat.le_refl _)) (g.below (by have := HZ.out; have := HDB.out; omega) bN) ⟨W.heap.size, q, HZ.out, hq, RowC.new W _ _, rfl⟩
      rw [encR_at hq]
      clear g hq hs bN
      gi_wp2
      exact hK
    case body =>
      rintro lp H G k a' W _ _ hH hHG hGW hkm g ⟨C, q, hC, hq, hx, rfl⟩
      obtain ⟨q', s', hq', hs, hqs⟩ := rcR_at HS.out (k := k) (by rw [HL.out]; exact hkm)
      obtain rfl : q' = q := by rw [hq] at hq'; cases hq'; rfl
      obtain ⟨q1, q2, q3, q4⟩ := q'
      have eq1 := hqs.fr
      have eq2 := hqs.ct
      have eq3 := hqs.ze
      simp only at eq1 eq2 eq3
      have LD := load_rcC hx
      have d0 := g.sb.cell 0 _ rfl
      have hle := least_nn HHD.out (by rw [HL.out]; exact hkm) g.ok
      obtain ⟨lo, hlo⟩ : ∃ lo, leastAt s.re k = lo := ⟨_, rfl⟩
      have hHD := HHD.out
      rw [HBL.out, HBA.out] at hHD
      have hpl := sm_place (bl := bl) ⟨hHD.1, hHD.2.1⟩ s' hqs.ok (by rw [hlo] at hle; exact hle) q4 W
      rw [← eq1, ← eq2, ← eq3] at hpl
      rw [hlo]
      have HZ : Hid (B + 1 < H) := by have := HWS.out; have := HDB.out; show _ < _; omega
      have HGW := Lib.hid hGW
      by_cases p1 : plOk bl lo s'
      · have HP := Lib.hid (calls_yes hpl p1)
        have hda : ∀ y : World, Below W.heap.size W y → Calls Try.prog 37 #[rvV (q1, q2, q3, q4), .int .i64 ba] y fun e w' => ∃ t, e = .returned (.bool t) ∧ (t = true ↔ daOk ba s') ∧ Below y.heap.size y w' := fun y hy => by
          have := sm_data (x := s') (d := q4) (w := y) (by obtain ⟨a1, a2, a3, a4⟩ := p1; have := hHD.1; have := hHD.2.1; rw [hlo] at hle; omega) ((hqs.da.below (by rw [HSZ.out]; exact g.be)).below hy) ba
          rw [← eq1, ← eq2, ← eq3] at this
          exact this
        by_cases p2 : daOk ba s'
        · have HDA : Hid (∀ y : World, Below W.heap.size W y → Calls Try.prog 37 #[rvV (q1, q2, q3, q4), .int .i64 ba] y fun e w' => e = .returned (.bool true) ∧ Below y.heap.size y w') := fun y hy => calls_yes (hda y hy) p2
          have HO : Hid (okTo s (k + 1)) := okTo_succ g.ok hs ⟨by rw [HBL.out, hlo]; exact p1, by rw [HBA.out]; exact p2⟩
          have HX := Lib.hid hx
          have GG := Lib.hid g
          have HL2 : Hid (∀ y : World, Below W.heap.size W y → (loadVar 49 ⟨C, 0, none⟩).run Try.prog y = .ok (rvV (q1, q2, q3, q4)) y) := fun y hy => load_rcC (hx.below hy)
          have HL3 : Hid (∀ y : World, Below W.heap.size W y → y.cell? ⟨B, 1, none⟩ = some (.int .i64 ba)) := fun y hy => (g.sb.below hy).cell 1 _ rfl
          clear hda hpl p1 p2 hq hq' hs hqs eq1 eq2 eq3 hx hle hlo g hkm hGW hH hHG hHD
          simp only [rvV, slV] at LD HP HDA HL2
          gi_step
          gi_step
          gi_step
          refine region_seq_roundC (letsOut_thenC (letsOut_inBlock letsOut_numB)) (by kernel_rfl) ?_
          go_wp2_with fail
          refine HP.out.mono ?_
          rintro e y ⟨rfl, hy⟩
          have l2 := HL2.out y hy
          have l3 := HL3.out y hy
          have HD2 := Lib.hid (HDA.out y hy)
          have HY2 := Lib.hid hy
          clear hy
          go_wp2_with fail
          refine HD2.out.mono ?_
          rintro e z ⟨rfl, hz⟩
          have HZ2 : Hid (Below W.heap.size W z) := HY2.out.trans (hz.mono HY2.out.size)
          clear hz
          go_wp2_with fail
          gi_wp2
          have g := GG.out.below (by rw [← HSZ.out]; exact Nat.le_trans GG.out.be.size (Nat.le_refl _)) HZ2.out
          exact ⟨⟨keepsFrom_below HZ2.out, stay_below HZ2.out HGW.out⟩, ⟨g.sb, g.rb, g.lb, g.be, HO.out⟩⟩
        · have HDA : Hid (∀ y : World, Below W.heap.size W y → Calls Try.prog 37 #[rvV (q1, q2, q3, q4), .int .i64 ba] y fun e w' => e = .returned (.bool false) ∧ Below y.heap.size y w') := fun y hy => calls_no (hda y hy) p2
          have HN : Hid (¬ sGood s) := sGood_not hs (fun h => p2 (by have := h.2; rw [HBA.out] at this; exact this))
          have GG := Lib.hid g
          have HL2 : Hid (∀ y : World, Below W.heap.size W y → (loadVar 49 ⟨C, 0, none⟩).run Try.prog y = .ok (rvV (q1, q2, q3, q4)) y) := fun y hy => load_rcC (hx.below hy)
          have HL3 : Hid (∀ y : World, Below W.heap.size W y → y.cell? ⟨B, 1, none⟩ = some (.int .i64 ba)) := fun y hy => (g.sb.below hy).cell 1 _ rfl
          clear hda hpl p1 p2 hq hq' hs hqs eq1 eq2 eq3 hx hle hlo g hkm hGW hH hHG hHD
          simp only [rvV, slV] at LD HP HDA HL2
          gi_step
          gi_step
          gi_step
          refine region_seq_roundC (letsOut_thenC (letsOut_inBlock letsOut_numB)) (by kernel_rfl) ?_
          go_wp2_with fail
          refine HP.out.mono ?_
          rintro e y ⟨rfl, hy⟩
          have l2 := HL2.out y hy
          have l3 := HL3.out y hy
          have HD2 := Lib.hid (HDA.out y hy)
          have HY2 := Lib.hid hy
          clear hy
          go_wp2_with fail
          refine HD2.out.mono ?_
          rintro e z ⟨rfl, hz⟩
          have HZ2 : Hid (Below W.heap.size W z) := HY2.out.trans (hz.mono HY2.out.size)
          have g := GG.out.below (by rw [← HSZ.out]; exact Nat.le_trans GG.out.be.size (Nat.le_refl _)) HZ2.out
          have fz := g.rb.frozen 0
          have cz := g.rb.cell 0 _ rfl
          have HR3 : Hid (RowC (z.setCell ⟨B + 1, 0, none⟩ (.bool false)) (B + 1) 4 [.bool false]) := g.rb.set 0 _
          have HB3 : Hid (Below B w (z.setCell ⟨B + 1, 0, none⟩ (.bool false))) := set_below g.be (by omega) 0 _
          have HKF : Hid (KeepsFrom W0.heap.size W (z.setCell ⟨B + 1, 0, none⟩ (.bool false))) := keepsFrom_trans (keepsFrom_below HZ2.out) (keepsFrom_cells g.rb (grownBy_setCellJ z (B + 1) 0 _))
          have HST : Hid (StayG H G W (z.setCell ⟨B + 1, 0, none⟩ (.bool false))) := (stay_below HZ2.out HGW.out).trans (stay_set HZ.out (Nat.le_trans HGW.out HZ2.out.size))
          clear hz g
          go_wp2_with fail
          gi_wp2
          exact ⟨⟨HKF.out, HST.out⟩, rfl, HR3.out, HB3.out, HN.out⟩
      · have HP := Lib.hid (calls_no hpl p1)
        have HN : Hid (¬ sGood s) := sGood_not hs (fun h => p1 (by have := h.1; rw [HBL.out, hlo] at this; exact this))
        have GG := Lib.hid g
        clear hpl p1 hq hq' hs hqs eq1 eq2 eq3 hx hle hlo g hkm hGW hH hHG hHD
        simp only [rvV, slV] at LD HP
        gi_step
        gi_step
        gi_step
        refine region_seq_roundC (letsOut_thenC (letsOut_inBlock letsOut_numB)) (by kernel_rfl) ?_
        go_wp2_with fail
        refine HP.out.mono ?_
        rintro e z ⟨rfl, hz⟩
        have HZ2 := Lib.hid hz
        have g := GG.out.below (by rw [← HSZ.out]; exact Nat.le_trans GG.out.be.size (Nat.le_refl _)) HZ2.out
        have fz := g.rb.frozen 0
        have cz := g.rb.cell 0 _ rfl
        have HR3 : Hid (RowC (z.setCell ⟨B + 1, 0, none⟩ (.bool false)) (B + 1) 4 [.bool false]) := g.rb.set 0 _
        have HB3 : Hid (Below B w (z.setCell ⟨B + 1, 0, none⟩ (.bool false))) := set_below g.be (by omega) 0 _
        have HKF : Hid (KeepsFrom W0.heap.size W (z.setCell ⟨B + 1, 0, none⟩ (.bool false))) := keepsFrom_trans (keepsFrom_below HZ2.out) (keepsFrom_cells g.rb (grownBy_setCellJ z (B + 1) 0 _))
        have HST : Hid (StayG H G W (z.setCell ⟨B + 1, 0, none⟩ (.bool false))) := (stay_below HZ2.out HGW.out).trans (stay_set HZ.out (Nat.le_trans HGW.out HZ2.out.size))
        clear hz g
        go_wp2_with fail
        gi_wp2
        exact ⟨⟨HKF.out, HST.out⟩, rfl, HR3.out, HB3.out, HN.out⟩
    case done =>
      rintro Dd W hD g hK
      have HG : Hid (sGood s) := okTo_all (by rw [HL.out]; exact g.ok) HHD.out
      have d3 := g.rb.cell 0 _ rfl
      have f2 := g.rb.frozen 0
      have GG := Lib.hid g
      have HK := Lib.hid hK
      have HKF : Hid (KeepsFrom 0 W (W.setCell ⟨B + 1, 0, none⟩ (.bool true))) := keepsFrom_cells g.rb (grownBy_setCellJ W (B + 1) 0 _)
      clear g hK
      gi_wp2
      have hK2 := HKF.out.same Dd _ (Nat.zero_le _) HK.out rfl
      refine ⟨by simp, .inl ⟨_, _, rfl, run_takeDeferred hK2, ?_⟩⟩
      have hg2 := grownBy_putObj' (W.setCell ⟨B + 1, 0, none⟩ (.bool true)) Dd (.deferred none)
      have hy2 : RowC _ (B + 1) 4 [.bool true] := rowC_own (N := 0) (GG.out.rb.set 0 (.bool true)) hg2 (fun r e => by cases e; exact ⟨Nat.zero_le _, _, hK2, rfl⟩)
      refine ⟨_, results_cell rfl rfl (load_bool1 hy2), true, rfl, ⟨fun _ => HG.out, fun _ => rfl⟩, ?_⟩
      rw [HSZ.out]
      exact (set_below GG.out.be (by omega) 0 _).trans (belowK_b (w := w) (by rw [HSZ.out]; exact Nat.le_refl _) _ Dd _ _ (by have := HWS.out; have := HDB.out; have := HSZ.out; omega) hK2 rfl rfl)
    case stop =>
      rintro Dd c k W hD _ ⟨rfl, g2, g3, g4⟩ hK
      have G2 := Lib.hid g2
      have G3 := Lib.hid g3
      have G4 := Lib.hid g4
      have HK := Lib.hid hK
      clear g2 g3 g4 hK
      gi_wp2
      refine ⟨by simp, .inl ⟨_, _, rfl, run_takeDeferred HK.out, ?_⟩⟩
      have hg2 := grownBy_putObj' W Dd (.deferred none)
      have hy2 := rowC_own (N := 0) G2.out hg2 (fun r e => by cases e; exact ⟨Nat.zero_le _, _, HK.out, rfl⟩)
      refine ⟨_, results_cell rfl rfl (load_bool1 hy2), false, rfl, ⟨fun h => (by cases h), fun h => absurd h G4.out⟩, ?_⟩
      rw [HSZ.out]
      exact G3.out.trans (belowK_b (w := w) (by rw [HSZ.out]; exact Nat.le_refl _) W Dd _ _ (by have := HWS.out; have := HDB.out; have := HSZ.out; omega) HK.out rfl rfl)
  · have HH := Lib.hid (calls_no hhd hh)
    have HN : Hid (¬ sGood s) := by intro hg; have := hg.1; rw [hbl, hba, hid] at this; exact hh this
    have f2 := fun y (hy : Below X.heap.size X y) => (k2.below hy).frozen 0
    have HF2 := Lib.hid f2
    have K2 := Lib.hid k2
    have HXB := Lib.hid hXb
    have HXS := Lib.hid hXs
    clear hhd hh k1 k2 hXb hXs hlc hcm ib ia ii hok hR f2 hbl hba hid hle
    go_enter Try.func14, Try.ntmps14
    go_wp2_with fail
    refine HH.out.mono ?_
    rintro e y ⟨rfl, hy⟩
    have f3 := HF2.out y hy
    have c3 := (K2.out.below hy).cell 0 _ rfl
    have R3 : Hid (RowC (y.setCell ⟨B + 1, 0, none⟩ (.bool false)) (B + 1) 4 [.bool false]) := (K2.out.below hy).set 0 _
    have HB3 : Hid (Below B w (y.setCell ⟨B + 1, 0, none⟩ (.bool false))) := set_below (HXB.out.trans (hy.mono (by have := HXS.out; omega))) (by omega) 0 _
    clear hy
    go_wp2_with fail
    refine bodyPost_ret (results_cell rfl rfl (load_bool1 R3.out)) rfl ?_
    exact ⟨false, rfl, ⟨fun h => (by cases h), fun h => absurd h HN.out⟩, by rw [HSZ.out]; exact HB3.out⟩
end Go.Proofs.Ytfihpljgbghogaa

/- The range function of package le has its contract: each place below the bound comes, with its shift, in order. -/
namespace Go.Proofs.Ytfihpljgbghogaa
open Go.RowKit Go.Shelf
set_option linter.unusedVariables false

attribute [local go_sem] Oper.semAt_some

/-- What has come when k rounds are over: the first k places. -/
def upto (m k : Nat) : List (Fin m) := (List.finRange m).take k
theorem upto_succ (m k : Nat) (h : k < m) : upto m (k + 1) = upto m k ++ [⟨k, h⟩] := by
  unfold upto
  rw [List.take_succ_eq_append_getElem (by simpa using h)]
  simp
theorem upto_length (m k : Nat) (h : k ≤ m) : (upto m k).length = k := by simp [upto, h]
theorem upto_all (m : Nat) : upto m m = List.finRange m := by
  unfold upto; rw [List.take_of_length_le (by simp)]

def encP {m : Nat} (x : Fin m) : Array Value := #[.int .i64 (x.1 : Int), .int .u64 (8 * (x.1 : Int))]

set_option maxRecDepth 100000 in
set_option maxHeartbeats 1000000 in
theorem places_in (F : Fence) (n : Nat) (hf : F.fn 47) (hro : F.round = none) (size : Int) (w : World) :
    CallsIn F n Try.prog 47 #[.int .i64 size] w fun e w' => e = .returned (.func (.func 53) #[] #[.pointer (some ⟨w.heap.size, 0, none⟩)]) ∧ w' = w.alloc (.cells #[.int .i64 size] 3) := by
  refine callsIn_of_wp Try.func47 rfl hf ?_ hro
  simp only [Try.ntmps47, List.size_toArray, List.length_cons, List.length_nil, Nat.reduceAdd, Nat.reduceSub, Array.replicate_succ, Array.replicate_zero, List.push_toArray, List.append_toArray, List.nil_append, List.cons_append]
  gi_wp2
  go_ret
  exact ⟨rfl, rfl⟩

set_option maxRecDepth 100000 in
set_option maxHeartbeats 2000000 in
theorem places1_in (F : Fence) (n : Nat) (hf : F.fn 53) (hro : F.round = none) (hn : 1 ≤ n) (l Bs m : Nat) (size : Int) (hm : (size ≤ 8 ∧ m = size.toNat) ∨ (8 < size ∧ m = 8)) (J Jx : List (Fin m) → World → Prop)
    (hY : ∀ pre x W, J pre W → pre.length < m → YieldAt F (n - 1) Try.prog l (encP x) W fun e W' =>
      (e = .returned (.bool true) ∧ J (pre ++ [x]) W' ∧ True) ∨ (e = .returned (.bool false) ∧ Jx (pre ++ [x]) W'))
    (W : World) (hBs : W.cell? ⟨Bs, 0, none⟩ = some (.int .i64 size)) (h0 : J [] W) :
    CallsIn F n Try.prog 53 #[.func (.yield l) #[] #[], .pointer (some ⟨Bs, 0, none⟩)] W fun e W' => (∃ v, e = .returned v) ∧
      ((∃ ys, ys = List.finRange m ∧ J ys W') ∨ (∃ pre, (∃ k, k ≤ m ∧ pre = upto m k) ∧ Jx pre W')) := by
  refine callsIn_of_wp Try.func53 rfl hf ?_ hro
  simp only [Try.ntmps53, List.size_toArray, List.length_cons, List.length_nil, Nat.reduceAdd, Nat.reduceSub, Array.replicate_succ, Array.replicate_zero, List.push_toArray, List.append_toArray, List.nil_append, List.cons_append]
  gi_wp2
  all_goals
    gi_loopw [6] (fun i wr => ∃ k : Nat, k ≤ m ∧ i = .int .i64 k ∧ J (upto m k) wr) (fun i _ => m - (intOf i).toNat)
    case atStart => exact ⟨0, Nat.zero_le _, rfl, h0⟩
    case round =>
      obtain ⟨k, hk, rfl, hJs⟩ := hrel
      by_cases hlt : k < m
      · obtain ⟨fn, tmps, assign, body, hy, hR⟩ := hY _ ⟨k, hlt⟩ wr hJs (by rw [upto_length m k hk]; exact hlt)
        dsimp only [encP] at hy
        have hb1 : (k : Int) < size := by omega
        have hb2 : (k : Int) < 8 := by omega
        gi_wp2
        refine hR.mono ?_
        rintro e W3 (⟨rfl, hJ3, hk3⟩ | ⟨rfl, hJx3⟩)
        · gi_wp2
          go_roundw
          case rel => exact ⟨k + 1, by omega, by simp, by rw [upto_succ m k hlt]; exact hJ3⟩
          case measure => simp [intOf]; omega
        · gi_wp2
          refine bodyPost_ret (results_none rfl _ _ _) rfl ?_
          exact ⟨⟨_, rfl⟩, .inr ⟨_, ⟨k + 1, by omega, (upto_succ m k hlt).symm⟩, hJx3⟩⟩
      · obtain rfl : k = m := by omega
        gi_wp2
        go_end0
        exact ⟨⟨_, rfl⟩, .inl ⟨_, rfl, by rw [← upto_all]; exact hJs⟩⟩

/-- What a loop over the places may rely on: nothing but its own. -/
def AnyKp (_ _ : World) : Prop := True

set_option maxRecDepth 100000 in
theorem places_stops (F : Fence) (n : Nat) (hf : F.fn 53) (hro : F.round = none) (hn : 1 ≤ n) (Bs : Nat) (size : Int) (w : World) (hBs : Bs < w.heap.size)
    (hc : w.cell? ⟨Bs, 0, none⟩ = some (.int .i64 size)) :
    SeqStopsK F n Try.prog 53 #[.pointer (some ⟨Bs, 0, none⟩)] (encP (m := nPlaces size)) AnyKp (fun ys => ys = List.finRange (nPlaces size)) (fun _ => True) (nPlaces size) w := fun l J Jx W hW _ _ hY h0 =>
  (places1_in F n hf hro hn l Bs (nPlaces size) size (nPlaces_cases size) J Jx
    (fun pre x W hJ hl => (hY pre x W hJ hl).mono fun e W' h => h.imp (fun ⟨a, b, _⟩ => ⟨a, b, trivial⟩) id)
    W ((hW.cell (p := ⟨Bs, 0, none⟩) hBs).trans hc) h0).mono fun e W' ⟨he, h⟩ => ⟨he, h.imp id fun ⟨pre, _, hj⟩ => ⟨pre, trivial, hj⟩⟩

theorem anyKp_t {A B C : World} (_ : AnyKp A B) (_ : AnyKp B C) : AnyKp A C := trivial
end Go.Proofs.Ytfihpljgbghogaa

/- The number that bytes stand for, as the package le reads it. -/
namespace Go.Proofs.Ytfihpljgbghogaa
open Go.RowKit Go.Shelf
set_option linter.unusedVariables false

attribute [local go_sem] Oper.semAt_some

set_option maxRecDepth 100000 in
set_option maxHeartbeats 2000000 in
theorem get_at (a : Option Addr) (len cap : Nat) (bs : List Int) (hlen : bs.length = len) (hcap : len ≤ 9223372036854775807) (w : World)
    (hA : len = 0 ∨ ∃ b off, a = some ⟨b, off, none⟩ ∧ b < w.heap.size ∧ ∀ j, j < len → w.cell? ⟨b, off + j, none⟩ = some (.int .u8 (bs[j]?.getD 0))) (hr : IsBytes bs) :
    Calls Try.prog 44 #[.slice a len cap] w fun e w' => e = .returned (.int .u64 (getL bs)) ∧ Below w.heap.size w w' := by
  refine (callsIn_wide (n := 3)).1 ?_
  refine callsIn_of_wp_marks Try.func44 rfl trivial ?_ rfl
  simp only [Try.ntmps44, List.size_toArray, List.length_cons, List.length_nil, Nat.reduceAdd, Nat.reduceSub, Array.replicate_succ, Array.replicate_zero, List.push_toArray, List.append_toArray, List.nil_append, List.cons_append]
  have hr := Lib.hid hr
  have hA := Lib.hid hA
  gi_wp2_with (refine ⟨trivial, ?_⟩; gi_at_call 47; refine (places_in _ _ trivial rfl _ _).mono ?_; rintro e w' ⟨rfl, rfl⟩)
  have bB := Boxed.new w 22 (.slice a len cap)
  have bN := Boxed.new (w.alloc (.cells #[.slice a len cap] 22)) 45 (.int .u64 0)
  rw [World.size_alloc] at bN
  have bP := Boxed.new ((w.alloc (.cells #[.slice a len cap] 22)).alloc (.cells #[.int .u64 0] 45)) 3 (.int .i64 (len : Int))
  rw [World.size_alloc, World.size_alloc] at bP
  have hB0 : Below w.heap.size w (((w.alloc (.cells #[.slice a len cap] 22)).alloc (.cells #[.int .u64 0] 45)).alloc (.cells #[.int .i64 (len : Int)] 3)) := (((Below.refl _ w).alloc (Nat.le_refl _) _).alloc (by simp) _).alloc (by simp; omega) _
  refine wpIn_rangeFunc_ownF (n := 3) rfl (by omega) (gf := 53) (lb := #[.pointer (some ⟨w.heap.size + 1 + 1, 0, none⟩)]) rfl trivial (enters_of Try.func53 (by kernel_rfl) rfl)
    (places_stops Fence.wide 2 trivial rfl (by omega) (w.heap.size + 1 + 1) (len : Int) _ (by simp) bP.cell) anyKp_t (fun _ _ _ _ _ _ _ _ => trivial) (Below.refl _ _) (fun _ => rfl)
    (fun pre W => (∃ v : Int, Boxed W (w.heap.size + 1) 45 (.int .u64 v) ∧ 0 ≤ v ∧ v < 18446744073709551616 ∧ (pre <+: List.finRange (nPlaces (len : Int)) → v = getN bs pre.length)) ∧ Boxed W w.heap.size 22 (.slice a len cap) ∧ Below w.heap.size w W)
    (fun _ _ _ => False)
    ?hI (fun _ _ _ _ _ h _ _ => h.elim) ?h0 ?a1 ?assign ?body ?done ?stop
  case hI =>
    intro s W W' row ⟨⟨v, hv, h1, h2, h3⟩, hb, hB⟩ hg hrow
    have hr' : ∀ r, row = some r → ∃ o : Obj, W.heap[r]? = some o ∧ o.isCells = false := fun r e => (hrow r e).2
    exact ⟨⟨v, boxed_own _ _ (fun _ : Unit => _) () W W' row hv hg hr', h1, h2, h3⟩, boxed_own _ _ (fun _ : Unit => _) () W W' row hb hg hr', ownFrom_below (β := Unit) (Nat.le_refl _) (by simp; omega) () W W' row hB hg hrow⟩
  case h0 => exact ⟨⟨0, bN.alloc _, by omega, by omega, fun _ => rfl⟩, (bB.alloc _).alloc _, hB0⟩
  case assign =>
    intro l x W K hK
    dsimp only [encP]
    gi_wp2
    exact hK
  case body =>
    rintro l pre x W ⟨⟨v, hv, hv0, hv1, hvp⟩, hbx, hB⟩ hlen
    have c1 := hv.cell
    have f1 := hv.frozen
    have hx : x.1 < len := by have := x.2; unfold nPlaces at this; split at this <;> omega
    have hx8 : x.1 < 8 := by have := x.2; have := nPlaces_le (len : Int); omega
    obtain ⟨b, off, rfl, hb, hc⟩ : ∃ b off, a = some ⟨b, off, none⟩ ∧ b < w.heap.size ∧ ∀ j, j < len → w.cell? ⟨b, off + j, none⟩ = some (.int .u8 (bs[j]?.getD 0)) := by
      rcases hA.out with h | h
      · omega
      · exact h
    have c2 := hbx.cell
    have c3 : W.cell? ⟨b, off + x.1, none⟩ = some (.int .u8 (bs[x.1]?.getD 0)) := (hB.cell (p := ⟨b, off + x.1, none⟩) hb).trans (hc x.1 hx)
    have hx' : ((x.1 : Nat) : Int) < (len : Int) := by omega
    obtain ⟨hr1, hr2⟩ := hr.out x.1
    obtain ⟨y, hy⟩ : ∃ y, bs[x.1]?.getD 0 = y := ⟨_, rfl⟩
    rw [hy] at c3 hr1 hr2
    have HP := Lib.hid hvp
    have HY := Lib.hid hy
    clear hc hvp hy
    have hmx : Try.prog.follows .mixedOrders = true := by kernel_rfl
    gi_wp2
    refine region_round 9 (letsOut_inBlock letsOut_own) (by kernel_rfl) (by kernel_rfl) (by kernel_rfl) ?_
    simp only [List.take_succ_cons, List.take_zero, List.drop_succ_cons, List.drop_zero]
    repeat still_step
    try refine wpStill_nil ?_
    go_wp2
    have bd := orStep_bd v y x.1 hx8 hv0 hv1 hr1 hr2
    refine ⟨(KeepsOthers.setCell _ _ _).trans (KeepsOthers.drew _), trivial, ⟨orStep v y x.1, hv.set _, bd.1, bd.2, fun hp => ?_⟩, hbx.other (by omega) _, (hB.setCell (p := ⟨w.heap.size + 1, 0, none⟩) (by simp) _).drew⟩
    obtain ⟨hp1, hp2⟩ := prefix_snoc hp
    rw [HP.out hp1, ← HY.out, hp2]
    rw [hp2] at hx8
    rw [getN_step bs hr.out pre.length hx8]
    simp
  case done =>
    rintro D xs W hD rfl ⟨⟨v, hv, _, _, hvp⟩, hbx, hB⟩ hK
    have c1 := hv.cell
    have e := hvp (List.prefix_refl _)
    have He := Lib.hid e
    clear e hvp
    gi_wp2
    refine ⟨by simp, .inl ⟨_, _, rfl, run_takeDeferred hK, ?_⟩⟩
    refine ⟨_, results_tmp rfl _ _ _, ?_, hB.trans (belowK_b (w := w) (Nat.le_refl _) W D _ _ (by simp at hD; omega) hK rfl rfl)⟩
    rw [He.out]
    simp [getL, hlen]
  case stop =>
    rintro D c pre W _ _ h _
    exact h.elim

set_option maxRecDepth 100000 in
/-- **Get**: of any bytes. -/
theorem get_any (v : Value) (bs : List Int) (w : World) (hv : Sl .u8 w v bs) (hr : IsBytes bs) :
    Calls Try.prog 44 #[v] w fun e w' => e = .returned (.int .u64 (getL bs)) ∧ Below w.heap.size w w' := by
  obtain ⟨a, cap, rfl, h1, h2, h, _⟩ := hv
  unfold maxLen at h2
  refine get_at a _ cap bs rfl (by omega) w ?_ hr
  rcases h with rfl | h
  · exact .inl rfl
  · exact .inr h
end Go.Proofs.Ytfihpljgbghogaa

/- The bytes of a number, as the package le writes them. -/
namespace Go.Proofs.Ytfihpljgbghogaa
open Go.RowKit Go.Shelf
set_option linter.unusedVariables false

attribute [local go_sem] Oper.semAt_some

set_option maxRecDepth 100000 in
set_option maxHeartbeats 2000000 in
theorem put_some (n : Int) (size : Nat) (w : World) (hs1 : 1 ≤ size) (hs2 : size ≤ 16) (hn0 : 0 ≤ n) (hn1 : n < 18446744073709551616) :
    Calls Try.prog 32 #[.int .u64 n, .int .i64 (size : Int)] w fun e w' => ∃ v, e = .returned v ∧ w'.ownsRow w.heap.size 5 1 v size ((putL n size).map (Value.int .u8)) ∧ Below w.heap.size w w' := by
  refine (callsIn_wide (n := 3)).1 ?_
  refine callsIn_of_wp_marks Try.func32 rfl trivial ?_ rfl
  simp only [Try.ntmps32, List.size_toArray, List.length_cons, List.length_nil, Nat.reduceAdd, Nat.reduceSub, Array.replicate_succ, Array.replicate_zero, List.push_toArray, List.append_toArray, List.nil_append, List.cons_append]
  obtain ⟨i0, hi, hz0, hz1, hz2⟩ := info_parts info_u8
  have g1 : ¬ ((size : Int) < 1) := by omega
  have g2 : ¬ (16 < (size : Int)) := by omega
  have g3 : decide ((size : Int) < 1) = false := by simpa using g1
  have g4 : decide (16 < (size : Int)) = false := by simpa using g2
  gi_wp2_with (first | (gi_at_make; refine wpListIn_make_full _ rfl _ _ 22 rfl w.heap.size 5 i0 (.int .u8 0) 1 Try.underlying22 hi hz0 hz1 .i64 .i64 _ _ size rfl rfl rfl rfl (by rw [hz2]; omega) (by unfold maxLen; omega) (by simp) ?_; intro w1 hown1 hgrow1) | (refine ⟨trivial, ?_⟩; gi_at_call 47; refine (places_in _ _ trivial rfl _ _).mono ?_; rintro e w' ⟨rfl, rfl⟩))
  have hz := hown1.lt _ rfl
  have hown2 : w1.ownsRow w.heap.size 5 1 (.slice (some ⟨w.heap.size + 1, 0, none⟩) size size) size (putF n size (m := nPlaces (size : Int)) []) := by
    rw [putF_nil]
    rw [show (Value.int IntKind.u8 0).cells = #[.int .u8 0] from rfl, toList_madeCells_one, Nat.mul_one, World.size_alloc] at hown1
    exact hown1
  rw [World.size_alloc] at hz
  have bN1 : Boxed w1 w.heap.size 45 (.int .u64 n) := (Boxed.new w 45 (.int .u64 n)).kept hgrow1 (by simp)
  have bS := Boxed.new w1 22 (.slice (some ⟨w.heap.size + 1, 0, none⟩) size size)
  have bP := Boxed.new (w1.alloc (.cells #[.slice (some ⟨w.heap.size + 1, 0, none⟩) size size] 22)) 3 (.int .i64 (size : Int))
  rw [World.size_alloc] at bP
  have hB1 : Below w.heap.size w w1 := ((Below.refl _ w).alloc (Nat.le_refl _) _).grown hgrow1 (by simp) (fun k e => by cases e)
  have hB0 : Below w.heap.size w ((w1.alloc (.cells #[.slice (some ⟨w.heap.size + 1, 0, none⟩) size size] 22)).alloc (.cells #[.int .i64 (size : Int)] 3)) := (hB1.alloc hB1.size _).alloc (by have := hB1.size; simp; omega) _
  clear hown1 hgrow1 g3 g4
  refine wpIn_rangeFunc_ownF (n := 3) rfl (by omega) (gf := 53) (lb := #[.pointer (some ⟨w1.heap.size + 1, 0, none⟩)]) rfl trivial (enters_of Try.func53 (by kernel_rfl) rfl)
    (places_stops Fence.wide 2 trivial rfl (by omega) (w1.heap.size + 1) (size : Int) _ (by simp) bP.cell) anyKp_t (fun _ _ _ _ _ _ _ _ => trivial) (Below.refl _ _) (fun _ => rfl)
    (fun pre W => (W.ownsRow w.heap.size 5 1 (.slice (some ⟨w.heap.size + 1, 0, none⟩) size size) size (putF n size pre) ∧ Boxed W w.heap.size 45 (.int .u64 n) ∧ Boxed W w1.heap.size 22 (.slice (some ⟨w.heap.size + 1, 0, none⟩) size size)) ∧ Below w.heap.size w W)
    (fun _ _ _ => False)
    (OwnFrom.and (OwnFrom.and ((ownsRow_own _ _ _ _ (fun _ => size) (fun pre => putF n size pre)).from _) (OwnFrom.and ((boxed_own _ _ (fun _ => _)).from _) ((boxed_own _ _ (fun _ => _)).from _))) (ownFrom_below (Nat.le_refl _) (by have := hB1.size; simp; omega)))
    (fun _ _ _ _ _ h _ _ => h.elim) ?h0 ?a1 ?assign ?body ?done ?stop
  case h0 => exact ⟨⟨(hown2.alloc _).alloc _, (bN1.alloc _).alloc _, bS.alloc _⟩, hB0⟩
  case assign =>
    intro l x W K hK
    dsimp only [encP]
    gi_wp2
    exact hK
  case body =>
    rintro l pre x W ⟨⟨hrow, hbn, hbs⟩, hB⟩ hlen
    have c1 := hbn.cell
    have c2 := hbs.cell
    have hx : x.1 < size := by have := x.2; unfold nPlaces at this; split at this <;> omega
    have hx8 : x.1 < 8 := by have := x.2; have := nPlaces_le (size : Int); omega
    have hx' : ((x.1 : Nat) : Int) < (size : Int) := by omega
    obtain ⟨z, c3⟩ : ∃ z, W.cell? ⟨w.heap.size + 1, x.1, none⟩ = some (.int .u8 z) := by
      rw [hrow.cellAt x.1 (by omega)]
      unfold putF
      simp [hx]
    have f3 := hrow.frozenAt x.1
    gi_wp2
    have hst := hrow.stored x.1 (.int .u8 (n / 2 ^ (8 * x.1) % 256))
    refine ⟨KeepsOthers.setCell _ _ _, trivial, ⟨?_, hbn.kept hst.2 (by simp), hbs.kept hst.2 (by have := hz.2; simp; omega)⟩, hB.setCell (p := ⟨w.heap.size + 1, x.1, none⟩) (by simp) _⟩
    rw [putF_snoc]
    exact hst.1
  case done =>
    rintro D xs W hD rfl ⟨⟨hrow, hbn, hbs⟩, hB⟩ hK
    have c2 := hbs.cell
    rw [putF_all] at hrow
    gi_wp2
    refine ⟨by simp, .inl ⟨_, _, rfl, run_takeDeferred hK, ?_⟩⟩
    refine ⟨_, results_tmp rfl _ _ _, _, rfl, ownsRow_putObj hrow _ hK rfl, hB.trans (belowK_b (w := w) (Nat.le_refl _) W D _ _ (by have := hB1.size; simp at hD; omega) hK rfl rfl)⟩
  case stop =>
    rintro D c pre W _ _ h _
    exact h.elim

end Go.Proofs.Ytfihpljgbghogaa

/- The reader of the package le: what its methods come to. -/
namespace Go.Proofs.Ytfihpljgbghogaa
open Go.RowKit Go.Shelf
set_option linter.unusedVariables false

/-- The reader at block rb has the bytes bs left; it and they lie below block N. -/
def Rdr (w : World) (N rb : Nat) (bs : List Int) : Prop :=
  ∃ b off cap, Boxed w rb 82 (.slice (some ⟨b, off, none⟩) bs.length cap) ∧ bs.length ≤ cap ∧ cap ≤ maxLen ∧ b < N ∧
    (∀ j, j < bs.length → w.cell? ⟨b, off + j, none⟩ = some (.int .u8 (bs[j]?.getD 0))) ∧ rb < N ∧ N ≤ w.heap.size

set_option maxRecDepth 100000 in
set_option maxHeartbeats 1000000 in
theorem next_at (rb b off len cap k : Nat) (w : World) (hb : Boxed w rb 82 (.slice (some ⟨b, off, none⟩) len cap)) (hk : k ≤ len) (hlen : len ≤ cap) (hcap : cap ≤ maxLen) :
    Calls Try.prog 52 #[.pointer (some ⟨rb, 0, none⟩), .int .i64 (k : Int)] w fun e w' =>
      e = .returned (.tuple #[.slice (some ⟨b, off, none⟩) k cap, .bool true]) ∧ w' = w.setCell ⟨rb, 0, none⟩ (.slice (some ⟨b, if k = cap then off else off + k, none⟩) (len - k) (cap - k)) := by
  unfold maxLen at hcap
  have c1 := hb.cell
  have f1 := hb.frozen
  have g1 : decide ((k : Int) < 0) = false := by simp
  have g2 : decide (len < k) = false := by simp; omega
  go_enter Try.func52, Try.ntmps52
  go_wp2
  all_goals
    go_ret2
    exact ⟨rfl, rfl⟩

set_option maxRecDepth 100000 in
set_option maxHeartbeats 1000000 in
theorem newReader_at (a : Option Addr) (len cap : Nat) (bs : List Int) (hlen : bs.length = len) (hcap : len ≤ 140737488351232) (w : World) (hA : Lies w a len bs) :
    Calls Try.prog 40 #[.slice a len cap] w fun e w' => ∃ rb, e = .returned (.pointer (some ⟨rb, 0, none⟩)) ∧ w.heap.size < rb ∧ Rdr w' w'.heap.size rb bs ∧ Below w.heap.size w w' := by
  obtain ⟨i0, hi, hz0, hz1, hz2⟩ := info_parts info_u8
  have hA := Lib.hid hA
  have HL := Lib.hid hlen
  clear hlen
  have HN := copy_len HL
  have H1 := copy_one (bs := bs)
  go_enter Try.func40, Try.ntmps40
  go_wp2_with (first | (at_make; refine wpList_make_full _ rfl _ _ 22 rfl w.heap.size 5 i0 (.int .u8 0) 1 Try.underlying22 hi hz0 hz1 .i64 .i64 _ _ len rfl rfl rfl rfl (by rw [hz2]; omega) (by unfold maxLen; omega) (by simp) ?_; intro w1 hown1 hgrow1; obtain ⟨HB, HR, HP⟩ := copy_facts HL hA hown1 hgrow1; clear hown1 hgrow1) | (with_reducible refine wpList_copy_splice rfl (.tmp 7) (.tmp 8) 22 22 rfl 5 Try.underlying22 size_u8 _ _ len len len cap rfl rfl w.heap.size 0 (List.replicate len (Value.int .u8 0)) 5 HR.out (bs.map (Value.int .u8)) HN.out HP.out (by rw [HN.out]; simp) H1.out w.heap.size w HB.out (Nat.le_refl _) ?_; intro w2 hg2 hB2))
  have hsz : w.heap.size < w2.heap.size := (Array.getElem?_eq_some_iff.1 hg2.out).1
  have hcells : ∀ j, j < bs.length → w2.cell? ⟨w.heap.size, 0 + j, none⟩ = some (.int .u8 (bs[j]?.getD 0)) := by
    intro j hj
    rw [cell_of_row _ _ _ _ _ _ hg2.out, splice_all _ _ (by rw [List.length_replicate, List.length_map, HL.out])]
    simp [hj]
  have HZ := Lib.hid hsz
  have HC := Lib.hid hcells
  clear hsz hcells
  go_ret
  refine ⟨_, rfl, HZ.out, ?_, hB2.alloc (Nat.le_of_lt HZ.out) _⟩
  have e := HL.out
  subst e
  exact ⟨w.heap.size, 0, _, Boxed.new _ _ _, Nat.le_refl _, by unfold maxLen; omega, by have := HZ.out; simp; omega, fun j hj => ((World.cell?_of_block (Below.heap_alloc w2 _ _ HZ.out)).trans (HC.out j hj)), by simp, Nat.le_refl _⟩

set_option maxRecDepth 100000 in
/-- **NewReader**: a reader of its own, with all bytes left. -/
theorem newReader_any (v : Value) (bs : List Int) (w : World) (hv : Sl .u8 w v bs) (hcap : bs.length ≤ 140737488351232) :
    Calls Try.prog 40 #[v] w fun e w' => ∃ rb, e = .returned (.pointer (some ⟨rb, 0, none⟩)) ∧ w.heap.size < rb ∧ Rdr w' w'.heap.size rb bs ∧ Below w.heap.size w w' := by
  obtain ⟨a, cap, rfl, hl, _⟩ := Lies.of_sl hv
  exact newReader_at a bs.length cap bs rfl hcap w hl

/-- Behind a read the reader has what was left, but for what was read; what was read lies where it lay. -/
theorem Rdr.next {w : World} {N rb b off cap : Nat} {bs : List Int} {k : Nat} (hb : Boxed w rb 82 (.slice (some ⟨b, off, none⟩) bs.length cap)) (h1 : bs.length ≤ cap) (h2 : cap ≤ maxLen) (h3 : b < N)
    (h4 : ∀ j, j < bs.length → w.cell? ⟨b, off + j, none⟩ = some (.int .u8 (bs[j]?.getD 0))) (hk : k ≤ bs.length) (h5 : rb < N ∧ N ≤ w.heap.size) :
    (Rdr (w.setCell ⟨rb, 0, none⟩ (.slice (some ⟨b, if k = cap then off else off + k, none⟩) (bs.length - k) (cap - k))) N rb (bs.drop k)) ∧
    (∀ j, j < bs.length → (w.setCell ⟨rb, 0, none⟩ (.slice (some ⟨b, if k = cap then off else off + k, none⟩) (bs.length - k) (cap - k))).cell? ⟨b, off + j, none⟩ = some (.int .u8 (bs[j]?.getD 0))) ∧
    w.grownBy (w.setCell ⟨rb, 0, none⟩ (.slice (some ⟨b, if k = cap then off else off + k, none⟩) (bs.length - k) (cap - k))) (some rb) := by
  have hg := grownBy_setCell' w rb (.slice (some ⟨b, if k = cap then off else off + k, none⟩) (bs.length - k) (cap - k))
  have hcells : ∀ j, j < bs.length → (w.setCell ⟨rb, 0, none⟩ (.slice (some ⟨b, if k = cap then off else off + k, none⟩) (bs.length - k) (cap - k))).cell? ⟨b, off + j, none⟩ = some (.int .u8 (bs[j]?.getD 0)) := by
    intro j hj
    have hne : b ≠ rb := by
      rintro rfl
      have h5 := h4 j hj
      rw [cell_of_row _ _ _ _ _ _ hb] at h5
      by_cases e : off + j = 0
      · rw [e] at h5; simp at h5
      · rw [Array.getElem?_eq_none (by simp; omega)] at h5; cases h5
    exact (World.cell?_of_block (hg.block b (Nat.lt_of_lt_of_le h3 h5.2) (fun e => hne (by cases e; rfl)))).trans (h4 j hj)
  refine ⟨⟨b, if k = cap then off else off + k, cap - k, ?_, by rw [List.length_drop]; omega, by omega, h3, ?_, h5.1, Nat.le_trans h5.2 hg.size⟩, hcells, hg⟩
  · rw [List.length_drop]; exact hb.set _
  · intro j hj
    rw [List.length_drop] at hj
    have e : (if k = cap then off else off + k) + j = off + (k + j) := by rw [if_neg (by omega)]; omega
    rw [e, drop_get]
    exact hcells (k + j) (by omega)

theorem Rdr.kept {w w' : World} {N rb : Nat} {bs : List Int} {row : Option Nat} (h : Rdr w N rb bs) (hg : w.grownBy w' row) (hr : ∀ r, row = some r → N ≤ r) : Rdr w' N rb bs := by
  obtain ⟨b, off, cap, h0, h1, h2, h3, h4, h5, h6⟩ := h
  exact ⟨b, off, cap, h0.kept hg (fun e => by have := hr _ e.symm; omega), h1, h2, h3, fun j hj => (World.cell?_of_block (hg.block b (by omega) (fun e => by have := hr _ e.symm; omega))).trans (h4 j hj), h5, Nat.le_trans h6 hg.size⟩

theorem Rdr.below {w w' : World} {N rb : Nat} {bs : List Int} (h : Rdr w N rb bs) (hg : w.grownBy w' none) : Rdr w' N rb bs := h.kept hg (fun r e => by cases e)

set_option maxRecDepth 100000 in
set_option maxHeartbeats 1000000 in
/-- **Num**, of no more than is left. -/
theorem num_yes {N : Nat} (rb : Nat) (bs : List Int) (k : Nat) (w : World) (hr : Rdr w N rb bs) (hB : IsBytes bs) (hk : k ≤ bs.length) :
    Calls Try.prog 41 #[.pointer (some ⟨rb, 0, none⟩), .int .i64 (k : Int)] w fun e w' =>
      e = .returned (.tuple #[.int .u64 (getL (bs.take k)), .bool true]) ∧ Rdr w' N rb (bs.drop k) ∧ w.grownBy w' (some rb) := by
  obtain ⟨b, off, cap, h0, h1, h2, h3, h4, h5⟩ := hr
  obtain ⟨r1, r2, r3⟩ := Rdr.next h0 h1 h2 h3 h4 hk h5
  obtain ⟨W, hW⟩ : ∃ W, w.setCell ⟨rb, 0, none⟩ (.slice (some ⟨b, if k = cap then off else off + k, none⟩) (bs.length - k) (cap - k)) = W := ⟨_, rfl⟩
  have hl : Lies W (some ⟨b, off, none⟩) k (bs.take k) := by
    rw [← hW]
    exact .inr ⟨b, off, rfl, Nat.lt_of_lt_of_le h3 (Nat.le_trans h5.2 r3.size), fun j hj => by rw [take_get bs k j hj]; exact r2 j (by omega)⟩
  have hn : Calls Try.prog 52 #[.pointer (some ⟨rb, 0, none⟩), .int .i64 (k : Int)] w fun e w' => e = .returned (.tuple #[.slice (some ⟨b, off, none⟩) k cap, .bool true]) ∧ w' = W := by
    rw [← hW]; exact next_at rb b off bs.length cap k w h0 hk h1 h2
  rw [hW] at r1 r3
  have hg := get_at (some ⟨b, off, none⟩) k cap (bs.take k) (by rw [List.length_take]; omega) (by unfold maxLen at h2; omega) W hl (hB.take k)
  have HG := Lib.hid hg
  have HC := Lib.hid hn
  have R1 := Lib.hid r1
  have R3 := Lib.hid r3
  clear h0 h1 h2 h3 h4 h5 hk hB hl r1 r2 r3 hW hn hg
  go_enter Try.func41, Try.ntmps41
  go_wp2_with fail
  refine HC.out.mono ?_
  rintro e w' ⟨rfl, rfl⟩
  go_wp2_with fail
  refine HG.out.mono ?_
  rintro e w' ⟨rfl, hb⟩
  have HB := Lib.hid hb
  clear hb
  go_wp2
  go_ret2
  exact ⟨rfl, R1.out.below (grown_below HB.out none), grown_trans R3.out (grown_below HB.out _)⟩

end Go.Proofs.Ytfihpljgbghogaa

/- The check of bytes, as the package fnv and the document reckon it. -/
namespace Go.Proofs.Ytfihpljgbghogaa
open Go.RowKit Go.Shelf
set_option linter.unusedVariables false

attribute [local go_sem] Oper.semAt_some

theorem prefix_byte {pre bs : List Int} {x : Int} (hr : IsBytes bs) (h : pre ++ [x] <+: bs) : 0 ≤ x ∧ x < 256 := by
  obtain ⟨t, rfl⟩ := h
  simpa using hr pre.length

set_option maxRecDepth 100000 in
set_option maxHeartbeats 2000000 in
theorem more_at (h : Int) (hh : IsU64 h) (a : Option Addr) (len cap : Nat) (bs : List Int) (hlen : bs.length = len) (hmax : len ≤ maxLen) (hr : IsBytes bs) (w : World)
    (hA : len = 0 ∨ ∃ b off, a = some ⟨b, off, none⟩ ∧ b < w.heap.size ∧ ∀ j, j < len → w.cell? ⟨b, off + j, none⟩ = some (.int .u8 (bs[j]?.getD 0))) :
    Calls Try.prog 48 #[.int .u64 h, .slice a len cap] w fun e w' => e = .returned (.int .u64 (fnvMore h bs)) ∧ Below w.heap.size w w' := by
  refine (callsIn_wide (n := 3)).1 ?_
  refine callsIn_of_wp_marks Try.func48 rfl trivial ?_ rfl
  simp only [Try.ntmps48, List.size_toArray, List.length_cons, List.length_nil, Nat.reduceAdd, Nat.reduceSub, Array.replicate_succ, Array.replicate_zero, List.push_toArray, List.append_toArray, List.nil_append, List.cons_append]
  have HA := Lib.hid hA
  have HM := Lib.hid hmax
  have HR := Lib.hid hr
  have HH := Lib.hid hh
  have HL := Lib.hid hlen
  clear hA hmax hr hh hlen
  gi_wp2_with (refine ⟨trivial, ?_⟩; gi_at_call 54; refine (values_in _ _ trivial rfl _ _ _ _).mono ?_; rintro e w' ⟨rfl, rfl⟩)
  have bH := Boxed.new w 45 (.int .u64 h)
  have bV := Boxed.new (w.alloc (.cells #[.int .u64 h] 45)) 22 (.slice a len cap)
  rw [World.size_alloc] at bV
  have hB0 : Below w.heap.size w ((w.alloc (.cells #[.int .u64 h] 45)).alloc (.cells #[.slice a len cap] 22)) := ((Below.refl _ w).alloc (Nat.le_refl _) _).alloc (by simp) _
  refine wpIn_rangeFunc_ownF (n := 3) rfl (by omega) (gf := 57) (lb := #[.pointer (some ⟨w.heap.size + 1, 0, none⟩)]) rfl trivial (enters_of Try.func57 (by kernel_rfl) rfl)
    (values_stops Fence.wide 2 trivial rfl (by omega) (w.heap.size + 1) w.heap.size len cap a bs HL.out HM.out _ (by simp) (by simp; omega) bV.cell
      (HA.out.imp id fun ⟨b, off, e, h1, h2⟩ => ⟨b, off, e, h1, fun j hj => (hB0.cell (p := ⟨b, off + j, none⟩) h1).trans (h2 j hj)⟩)) belowK_t (belowK_b (by simp; omega)) (Below.refl _ _) (fun _ => rfl)
    (fun pre W => (∃ v : Int, Boxed W w.heap.size 45 (.int .u64 v) ∧ IsU64 v ∧ (pre <+: bs → v = fnvMore h pre)) ∧ Below w.heap.size w W)
    (fun _ _ _ => False)
    ?hI (fun _ _ _ _ _ h _ _ => h.elim) ?h0 ?a1 ?assign ?body ?done ?stop
  case hI =>
    intro s W W' row ⟨⟨v, hv, h1, h2⟩, hB⟩ hg hrow
    have hr' : ∀ r, row = some r → ∃ o : Obj, W.heap[r]? = some o ∧ o.isCells = false := fun r e => (hrow r e).2
    exact ⟨⟨v, boxed_own _ _ (fun _ : Unit => _) () W W' row hv hg hr', h1, h2⟩, ownFrom_below (β := Unit) (Nat.le_refl _) (by simp; omega) () W W' row hB hg hrow⟩
  case h0 => exact ⟨⟨h, bH.alloc _, HH.out, fun _ => rfl⟩, hB0⟩
  case assign =>
    intro l x W K hK
    gi_wp2
    exact hK
  case body =>
    rintro l pre x W ⟨⟨v, hv, hv0, hvp⟩, hB⟩ hlen
    have c1 := hv.cell
    have f1 := hv.frozen
    have HP := Lib.hid hvp
    have HV := Lib.hid hv0
    clear hvp hv0
    gi_wp2
    refine ⟨(KeepsOthers.setCell _ _ _).trans (KeepsOthers.setCell _ _ _), ((Below.refl w.heap.size W).setCell (p := ⟨w.heap.size, 0, none⟩) (Nat.le_refl _) _).setCell (p := ⟨w.heap.size, 0, none⟩) (Nat.le_refl _) _, ⟨_, (hv.set _).set _, isU64_wrap _, fun hp => ?_⟩, (hB.setCell (p := ⟨w.heap.size, 0, none⟩) (Nat.le_refl _) _).setCell (p := ⟨w.heap.size, 0, none⟩) (Nat.le_refl _) _⟩
    obtain ⟨r1, r2⟩ := prefix_byte HR.out hp
    rw [HP.out ((List.prefix_append _ _).trans hp), fnvMore_snoc, wrap_u64_in x r1 (by omega)]
    rfl
  case done =>
    rintro D xs W hD rfl ⟨⟨v, hv, _, hvp⟩, hB⟩ hK
    have c1 := hv.cell
    have e := hvp (List.prefix_refl _)
    have He := Lib.hid e
    clear e hvp
    gi_wp2
    refine ⟨by simp, .inl ⟨_, _, rfl, run_takeDeferred hK, ?_⟩⟩
    refine ⟨_, results_tmp rfl _ _ _, ?_, hB.trans (belowK_b (w := w) (Nat.le_refl _) W D _ _ (by simp at hD; omega) hK rfl rfl)⟩
    rw [He.out]; rfl
  case stop =>
    rintro D c pre W _ _ h _
    exact h.elim

set_option maxRecDepth 100000 in
/-- **More**: from any check on. -/
theorem more_any (h : Int) (v : Value) (bs : List Int) (w : World) (hh : IsU64 h) (hv : Sl .u8 w v bs) (hr : IsBytes bs) :
    Calls Try.prog 48 #[.int .u64 h, v] w fun e w' => e = .returned (.int .u64 (fnvMore h bs)) ∧ Below w.heap.size w w' := by
  obtain ⟨a, cap, rfl, hl, h2⟩ := Lies.of_sl hv
  exact more_at h hh a _ cap bs rfl h2 hr w hl

set_option maxRecDepth 100000 in
set_option maxHeartbeats 1000000 in
/-- **Check**: of any bytes. -/
theorem check_any (v : Value) (bs : List Int) (w : World) (hv : Sl .u8 w v bs) (hr : IsBytes bs) :
    Calls Try.prog 33 #[v] w fun e w' => e = .returned (.int .u64 (fnvMore fnvInit bs)) ∧ Below w.heap.size w w' := by
  have HM := Lib.hid (more_any fnvInit v bs w isU64_init hv hr)
  clear hv hr
  unfold fnvInit at *
  go_enter Try.func33, Try.ntmps33
  go_wp2_with fail
  refine HM.out.mono ?_
  rintro e w1 ⟨rfl, hB⟩
  have HB := Lib.hid hB
  clear hB
  go_wp2_with fail
  go_ret
  exact ⟨rfl, HB.out⟩

set_option maxRecDepth 100000 in
set_option maxHeartbeats 2000000 in
theorem refMore_at (h : Int) (hh : IsU64 h) (a : Option Addr) (len cap : Nat) (bs : List Int) (hlen : bs.length = len) (hmax : len ≤ 9223372036854775807) (hr : IsBytes bs) (w : World) (hA : Lies w a len bs) :
    Calls Try.prog 38 #[.int .u64 h, .slice a len cap] w fun e w' => e = .returned (.int .u64 (fnvMore h bs)) ∧ w' = w := by
  have HL := Lib.hid hlen
  have HA := Lib.hid hA
  have HR := Lib.hid hr
  clear hlen hA hr hh
  go_enter Try.func38, Try.ntmps38
  go_wp2
  go_loop [0, 5] (fun v i => ∃ k : Nat, k ≤ len ∧ i = .int .i64 k ∧ v = .int .u64 (fnvMore h (bs.take k))) (fun _ i => len - (intOf i).toNat)
  case atStart => exact ⟨0, Nat.zero_le _, rfl, rfl⟩
  case round =>
    obtain ⟨k, hk, rfl, rfl⟩ := hrel
    obtain ⟨v, hv⟩ : ∃ v, fnvMore h (bs.take k) = v := ⟨_, rfl⟩
    rw [hv]
    by_cases hlt : k < len
    · obtain ⟨b, off, rfl, hb, hc⟩ : ∃ b off, a = some ⟨b, off, none⟩ ∧ b < w.heap.size ∧ ∀ j, j < len → w.cell? ⟨b, off + j, none⟩ = some (.int .u8 (bs[j]?.getD 0)) := by
        rcases HA.out with h | h
        · omega
        · exact h
      have c3 := hc k hlt
      obtain ⟨r1, r2⟩ := HR.out k
      have HS : Hid (fnvStep v (bs[k]?.getD 0) = fnvMore h (bs.take (k + 1))) := by
        show _ = _
        rw [take_snoc_getD bs (by rw [HL.out]; exact hlt), fnvMore_snoc, hv]
      obtain ⟨y, hy⟩ : ∃ y, bs[k]?.getD 0 = y := ⟨_, rfl⟩
      rw [hy] at c3 r1 r2 HS
      clear hc hy hv
      go_wp2
      go_round
      case rel =>
        refine ⟨k + 1, by omega, by go_num, ?_⟩
        rw [← HS.out]; rfl
      case measure => simp [intOf]; omega
    · obtain rfl : k = len := by omega
      have HV := Lib.hid hv
      clear hv
      go_wp2
      go_ret
      refine ⟨?_, rfl⟩
      rw [← HV.out, ← HL.out, List.take_length]; rfl

set_option maxRecDepth 100000 in
theorem refMore_any (h : Int) (v : Value) (bs : List Int) (w : World) (hh : IsU64 h) (hv : Sl .u8 w v bs) (hr : IsBytes bs) :
    Calls Try.prog 38 #[.int .u64 h, v] w fun e w' => e = .returned (.int .u64 (fnvMore h bs)) ∧ w' = w := by
  obtain ⟨a, cap, rfl, hl, h2⟩ := Lies.of_sl hv
  unfold maxLen at h2
  exact refMore_at h hh a _ cap bs rfl (by omega) hr w hl

set_option maxRecDepth 100000 in
set_option maxHeartbeats 1000000 in
theorem refCheck_any (v : Value) (bs : List Int) (w : World) (hv : Sl .u8 w v bs) (hr : IsBytes bs) :
    Calls Try.prog 18 #[v] w fun e w' => e = .returned (.int .u64 (fnvMore fnvInit bs)) ∧ w' = w := by
  have HM := Lib.hid (refMore_any fnvInit v bs w isU64_init hv hr)
  clear hv hr
  unfold fnvInit at *
  go_enter Try.func18, Try.ntmps18
  go_wp2_with fail
  refine HM.out.mono ?_
  rintro e w' ⟨rfl, rfl⟩
  go_wp2_with fail
  go_ret
  exact ⟨rfl, rfl⟩
end Go.Proofs.Ytfihpljgbghogaa

/- The developers' parse: sizes, numbers, checks, the end. -/
namespace Go.Proofs.Ytfihpljgbghogaa
open Go.RowKit Go.Shelf
set_option linter.unusedVariables false
set_option linter.unusedSimpArgs false
attribute [-simp] Try.isAgg49 Try.zeroValue49 Try.isAgg26 Try.zeroValue26
attribute [-go_sem] loadVar storeVar
attribute [local go_sem] loadVar_openRS storeVar_openRS zero_rc zero_sm
section
set_option maxRecDepth 100000
set_option maxHeartbeats 4000000
/-- A cut in the midst, as the walk spells it. -/
theorem pa_mid {ra : Option Addr} {R rc K m : Nat} {rest : List Int} {W : World} (hW : Sl .u8 W (.slice ra R rc) rest) (hK : K + m ≤ R) :
    Sl .u8 W (.slice (if rc = K then ra else ra.map fun x => x.add K) m (rc - K)) ((rest.drop K).take m) := by
  have h1 := sl_lo_at hW (K := K) (by omega)
  exact (sl_hi (K := m) h1 (by omega)).2 W h1

set_option maxRecDepth 100000 in
/-- **plainSize**. -/
theorem pa_plain (fr ct : Int) (z : Bool) (x : SlV) (w : World) (hc : 0 ≤ ct ∧ ct ≤ 100000) : Calls Try.prog 21 #[rvV (fr, ct, z, x)] w fun e w' => e = .returned (.int .i64 (if z then 5 else 5 + ct * 64)) ∧ Below w.heap.size w w' := by
  obtain ⟨a, n, c⟩ := x
  obtain ⟨W, hW⟩ : ∃ W, w.alloc (.cells #[.int .i64 fr, .int .i64 ct, .bool z, .slice a n c] 49) = W := ⟨_, rfl⟩
  have r : RowC W w.heap.size 49 [.int .i64 fr, .int .i64 ct, .bool z, .slice a n c] := by rw [← hW]; exact RowC.new w _ _
  have HB : Hid (Below w.heap.size w W) := by show Below _ _ _; rw [← hW]; exact below_new w _
  have c1 := r.cell 1 _ rfl
  have c2 := r.cell 2 _ rfl
  obtain ⟨h0, h1⟩ := hc
  have w1 : wrap64 (ct * 64) = ct * 64 := IntWalk.wrap64_in _ (by omega)
  have w2 : wrap64 (5 + ct * 64) = 5 + ct * 64 := IntWalk.wrap64_in _ (by omega)
  simp only [rvV, slV]
  clear r
  cases z
  all_goals
    go_enter Try.func21, Try.ntmps21
    go_wp2_with fail
    go_ret
    exact ⟨by simp, HB.out⟩

def idsOk (nx id : Int) : Bool := decide (1 ≤ id ∧ id ≤ 1000000 ∧ (nx = 0 ∨ (2 ≤ nx ∧ nx ≤ id)))
theorem idsOk_iff {bl nx id : Int} (h : 1 ≤ bl ∧ bl ≤ 64) : idsOk nx id = true ↔ hdOk bl (nx - 1) id := by
  unfold idsOk hdOk
  simp only [decide_eq_true_eq]
  omega
set_option maxRecDepth 100000 in
/-- **goodIds**. -/
theorem pa_ids (nx id : Int) (w : World) : Calls Try.prog 42 #[.int .u64 nx, .int .u64 id] w fun e w' => e = .returned (.bool (idsOk nx id)) ∧ w' = w := by
  by_cases p1 : 1 ≤ id
  · have g1 : decide (1 ≤ id) = true := by simpa using p1
    have g1' : decide (id ≥ 1) = true := g1
    by_cases p2 : id ≤ 1000000
    · have g2 : decide (id ≤ 1000000) = true := by simpa using p2
      by_cases p3 : nx = 0
      · have hz : idsOk nx id = true := by unfold idsOk; simp; omega
        have g3 : (nx == 0) = true := by simpa using p3
        rw [hz]
        clear hz p1 p2 p3
        go_enter Try.func42, Try.ntmps42
        go_wp2_with fail
        go_ret
        exact ⟨rfl, rfl⟩
      · have g3 : (nx == 0) = false := by simpa using p3
        by_cases p4 : 2 ≤ nx
        · have g4 : decide (2 ≤ nx) = true := by simpa using p4
          have g4' : decide (nx ≥ 2) = true := g4
          by_cases p5 : nx ≤ id
          · have g5 : decide (nx ≤ id) = true := by simpa using p5
            have hz : idsOk nx id = true := by unfold idsOk; simp; omega
            rw [hz]
            clear hz p1 p2 p3 p4 p5
            go_enter Try.func42, Try.ntmps42
            go_wp2_with fail
            go_ret
            exact ⟨rfl, rfl⟩
          · have g5 : decide (nx ≤ id) = false := by simpa using p5
            have hz : idsOk nx id = false := by unfold idsOk; simp; omega
            rw [hz]
            clear hz p1 p2 p3 p4 p5
            go_enter Try.func42, Try.ntmps42
            go_wp2_with fail
            go_ret
            exact ⟨rfl, rfl⟩
        · have g4 : decide (2 ≤ nx) = false := by simpa using p4
          have g4' : decide (nx ≥ 2) = false := g4
          have hz : idsOk nx id = false := by unfold idsOk; simp; omega
          rw [hz]
          clear hz p1 p2 p3 p4
          go_enter Try.func42, Try.ntmps42
          go_wp2_with fail
          go_ret
          exact ⟨rfl, rfl⟩
    · have g2 : decide (id ≤ 1000000) = false := by simpa using p2
      have hz : idsOk nx id = false := by unfold idsOk; simp; omega
      rw [hz]
      clear hz p1 p2
      go_enter Try.func42, Try.ntmps42
      go_wp2_with fail
      go_ret
      exact ⟨rfl, rfl⟩
  · have g1 : decide (1 ≤ id) = false := by simpa using p1
    have g1' : decide (id ≥ 1) = false := g1
    have hz : idsOk nx id = false := by unfold idsOk; simp; omega
    rw [hz]
    clear hz p1
    go_enter Try.func42, Try.ntmps42
    go_wp2_with fail
    go_ret
    exact ⟨rfl, rfl⟩

theorem beq_dec {C G : Int} {z : Bool} (h : decide (C = G) = z) : (G == C) = z := by
  rw [← h, Bool.eq_iff_iff]
  simp only [beq_iff_eq, decide_eq_true_eq]
  exact ⟨fun e => e.symm, fun e => e.symm⟩
set_option maxRecDepth 100000 in
/-- **checked**. -/
theorem pa_checked {v : Value} {bs : List Int} {w : World} (hv : Sl .u8 w v bs) (hr : IsBytes bs) {m : Nat} (hl : bs.length = m + 8) :
    Calls Try.prog 39 #[v] w fun e w' => e = .returned (.bool (decide (fnvMore fnvInit (bs.take m) = getL (bs.drop m)))) ∧ Below w.heap.size w w' := by
  obtain ⟨a, c, rfl, hca, hmx, -⟩ := (show Sl _ _ _ _ from hv)
  obtain ⟨n, hn⟩ : ∃ n, bs.length = n := ⟨_, rfl⟩
  rw [hn] at hv hca hl ⊢
  have W1 : wrap64 ((n : Int) - 8) = (m : Int) := by unfold maxLen at hmx; rw [IntWalk.wrap64_in _ (by omega)]; omega
  have k1 : (m : Int) ≤ (n : Int) := by omega
  have k2 : (n : Int) ≤ (c : Int) := by omega
  have k0 : (0 : Int) ≤ (m : Int) := by omega
  obtain ⟨C, hC⟩ : ∃ q, fnvMore fnvInit (bs.take m) = q := ⟨_, rfl⟩
  obtain ⟨G, hG⟩ : ∃ q, getL (bs.drop m) = q := ⟨_, rfl⟩
  have S1 : ∀ x : Ext w, Sl .u8 x.1 (.slice a m c) (bs.take m) := fun x => (sl_hi (hv.below x.2) (by omega)).2 _ (hv.below x.2)
  have S2 : ∀ x : Ext w, Sl .u8 x.1 (.slice (if c = m then a else a.map fun x => x.add m) (n - m) (c - m)) (bs.drop m) := fun x => sl_lo_at (hv.below x.2) (by omega)
  have Q1 : Hid (∀ x : Ext w, Calls Try.prog 33 #[.slice a m c] x.1 fun e w'' => e = .returned (.int .u64 C) ∧ ∃ y : Ext w, w'' = y.1) := fun x => calls_ext x (by rw [← hC]; exact check_any _ _ _ (S1 x) (hr.take m))
  have Q2 : Hid (∀ x : Ext w, Calls Try.prog 44 #[.slice (if c = m then a else a.map fun x => x.add m) (n - m) (c - m)] x.1 fun e w'' => e = .returned (.int .u64 G) ∧ ∃ y : Ext w, w'' = y.1) := fun x => calls_ext x (by rw [← hG]; exact get_any _ _ _ (S2 x) (hr.drop m))
  rw [hC, hG]
  obtain ⟨Z, hZ⟩ : ∃ z, decide (C = G) = z := ⟨_, rfl⟩
  have HZ : Hid ((G == C) = Z) := beq_dec hZ
  rw [hZ]
  clear hv hr hl hca hmx hC hG hZ S1 S2 hn
  go_enter Try.func39, Try.ntmps39
  go_wp2_with fail
  refine region_ext (by kernel_rfl) (by kernel_rfl) ?_
  repeat (go_big_quiet_step (with_reducible (first | exact Q1.out _ | exact Q2.out _)))
  refine wpQuiet_nil ?_
  intro x
  rw [HZ.out]
  go_wp2_with fail
  all_goals
    go_ret
    exact ⟨rfl, x.2⟩
end
end Go.Proofs.Ytfihpljgbghogaa

/- The developers' parse: the end. -/
namespace Go.Proofs.Ytfihpljgbghogaa
open Go.RowKit Go.Shelf
set_option linter.unusedVariables false
set_option linter.unusedSimpArgs false
section
set_option maxRecDepth 100000
set_option maxHeartbeats 4000000
/-- The four ways of the end. -/
theorem en_ways (bs : List Int) (k : Nat) :
    (bs.length < k + 9 ∧ enE bs k = 21) ∨ (k + 9 ≤ bs.length ∧ ¬ bs[k]?.getD 0 = 69 ∧ enE bs k = 11) ∨
    (k + 9 ≤ bs.length ∧ bs[k]?.getD 0 = 69 ∧ ¬ getL ((bs.drop (k + 1)).take 8) = fnvMore fnvInit (bs.take k) ∧ enE bs k = 22) ∨
    (k + 9 ≤ bs.length ∧ bs[k]?.getD 0 = 69 ∧ getL ((bs.drop (k + 1)).take 8) = fnvMore fnvInit (bs.take k) ∧ enE bs k = if k + 9 < bs.length then 2 else 0) := by
  unfold enE
  by_cases h1 : bs.length < k + 9
  · exact .inl ⟨h1, if_pos h1⟩
  · rw [if_neg h1]
    by_cases h2 : bs[k]?.getD 0 = 69
    · rw [if_neg (by simp [h2])]
      by_cases h3 : getL ((bs.drop (k + 1)).take 8) = fnvMore fnvInit (bs.take k)
      · rw [if_neg (by simp [h3])]
        exact .inr (.inr (.inr ⟨by omega, h2, h3, rfl⟩))
      · rw [if_pos h3]
        exact .inr (.inr (.inl ⟨by omega, h2, h3, rfl⟩))
    · rw [if_pos h2]
      exact .inr (.inl ⟨by omega, h2, rfl⟩)
set_option maxRecDepth 100000 in
/-- **end**. -/
theorem pa_end {v : Value} {bs : List Int} {w : World} (hv : Sl .u8 w v bs) (hr : IsBytes bs) {k : Nat} (hk : k ≤ bs.length) :
    Calls Try.prog 22 #[v, .int .i64 (k : Int)] w fun e w' => e = .returned (.int .i64 (enE bs k)) ∧ Below w.heap.size w w' := by
  have hways := en_ways bs k
  obtain ⟨a, c, rfl, hca, hmx, hly, -⟩ := (show Sl _ _ _ _ from hv)
  obtain ⟨n, hn⟩ : ∃ n, bs.length = n := ⟨_, rfl⟩
  rw [hn] at hv hca hk hways ⊢
  have k1 : (k : Int) ≤ (n : Int) := by omega
  have k2 : (n : Int) ≤ (c : Int) := by omega
  have k0 : (0 : Int) ≤ (k : Int) := by omega
  rcases hways with ⟨h1, hE⟩ | ⟨h1, h2, hE⟩ | ⟨h1, h2, h3, hE⟩ | ⟨h1, h2, h3, hE⟩
  · rw [hE]
    have g1 : decide (((n - k : Nat) : Int) < 9) = true := by simp; omega
    have g2 : decide (n - k < 9) = true := by simp; omega
    clear hE h1 hly hmx hca hv hk hr hn
    go_enter Try.func22, Try.ntmps22
    go_wp2_with fail
    all_goals
      go_ret
      exact ⟨rfl, Below.refl _ _⟩
  all_goals
    obtain ⟨b, o, rfl, hb, hcell⟩ : ∃ b o, a = some ⟨b, o, none⟩ ∧ b < w.heap.size ∧ ∀ j, j < n → w.cell? ⟨b, o + j, none⟩ = some (.int .u8 (bs[j]?.getD 0)) := by
      rcases hly with h | ⟨b, o, h4, h5, h6⟩
      · rw [h] at hn; simp at hn; omega
      · exact ⟨b, o, h4, h5, fun j hj => h6 j (by omega)⟩
    have g1 : decide (((n - k : Nat) : Int) < 9) = false := by simp; omega
    have g2 : decide (n - k < 9) = false := by simp; omega
    have hck : ¬ c = k := by omega
    have hn0 : 0 < n - k := by omega
    have c0 := hcell k (by omega)
    obtain ⟨y, hy⟩ : ∃ y, bs[k]?.getD 0 = y := ⟨_, rfl⟩
    rw [hy] at c0 h2
  · rw [hE]
    have g3 : (y != 69) = true := by simpa using h2
    clear hE h1 h2 hly hmx hca hv hk hr hn hcell hb hy
    go_enter Try.func22, Try.ntmps22
    go_wp2_with fail
    go_ret
    exact ⟨rfl, Below.refl _ _⟩
  all_goals
    subst h2
    have hck2 : ¬ c - k = 1 := by omega
    have k3 : (9 : Int) ≤ ((n - k : Nat) : Int) := by omega
    have k4 : (9 : Int) ≤ ((c - k : Nat) : Int) := by omega
    obtain ⟨C, hC⟩ : ∃ q, fnvMore fnvInit (bs.take k) = q := ⟨_, rfl⟩
    obtain ⟨G, hG⟩ : ∃ q, getL ((bs.drop (k + 1)).take 8) = q := ⟨_, rfl⟩
    have S1 : ∀ x : Ext w, Sl .u8 x.1 (.slice (some ⟨b, o, none⟩) k c) (bs.take k) := fun x => (sl_hi (hv.below x.2) (by omega)).2 _ (hv.below x.2)
    have S2 : ∀ x : Ext w, Sl .u8 x.1 (.slice (some ⟨b, o + k + 1, none⟩) 8 (c - k - 1)) ((bs.drop (k + 1)).take 8) := fun x => by
      have := pa_mid (hv.below x.2) (K := k + 1) (m := 8) (by omega)
      rw [if_neg (by omega)] at this
      simpa [Addr.add, Nat.add_assoc, Nat.sub_sub] using this
    have Q1 : Hid (∀ x : Ext w, Calls Try.prog 33 #[.slice (some ⟨b, o, none⟩) k c] x.1 fun e w'' => e = .returned (.int .u64 C) ∧ ∃ y : Ext w, w'' = y.1) := fun x => calls_ext x (by rw [← hC]; exact check_any _ _ _ (S1 x) (hr.take k))
    have Q2 : Hid (∀ x : Ext w, Calls Try.prog 44 #[.slice (some ⟨b, o + k + 1, none⟩) 8 (c - k - 1)] x.1 fun e w'' => e = .returned (.int .u64 G) ∧ ∃ y : Ext w, w'' = y.1) := fun x => calls_ext x (by rw [← hG]; exact get_any _ _ _ (S2 x) ((hr.drop (k + 1)).take 8))
    rw [hC, hG] at h3
    clear S1 S2 hC hG hcell hly hv hr hca hmx hb hn hy
  · rw [hE]
    have g3 : (G != C) = true := by simpa using h3
    clear hE h3 h1 hk
    go_enter Try.func22, Try.ntmps22
    go_wp2_with fail
    refine region_ext (by kernel_rfl) (by kernel_rfl) ?_
    repeat (go_big_quiet_step (with_reducible (first | exact Q1.out _ | exact Q2.out _)))
    refine wpQuiet_nil ?_
    intro x
    go_wp2_with fail
    go_ret
    exact ⟨rfl, x.2⟩
  · have g3 : (G != C) = false := by simpa using h3
    by_cases h9 : k + 9 < n
    · rw [if_pos h9] at hE
      rw [hE]
      have g4 : decide (9 < n - k) = true := by simp; omega
      have g4' : decide ((9 : Int) < ((n - k : Nat) : Int)) = true := by simp; omega
      clear hE h3 h1 hk h9
      go_enter Try.func22, Try.ntmps22
      go_wp2_with fail
      refine region_ext (by kernel_rfl) (by kernel_rfl) ?_
      repeat (go_big_quiet_step (with_reducible (first | exact Q1.out _ | exact Q2.out _)))
      refine wpQuiet_nil ?_
      intro x
      go_wp2_with fail
      go_ret
      exact ⟨rfl, x.2⟩
    · rw [if_neg h9] at hE
      rw [hE]
      have g4 : decide (9 < n - k) = false := by simp; omega
      have g4' : decide ((9 : Int) < ((n - k : Nat) : Int)) = false := by simp; omega
      clear hE h3 h1 hk h9
      go_enter Try.func22, Try.ntmps22
      go_wp2_with fail
      refine region_ext (by kernel_rfl) (by kernel_rfl) ?_
      repeat (go_big_quiet_step (with_reducible (first | exact Q1.out _ | exact Q2.out _)))
      refine wpQuiet_nil ?_
      intro x
      go_wp2_with fail
      go_ret
      exact ⟨rfl, x.2⟩
end
end Go.Proofs.Ytfihpljgbghogaa

/- revetmentkeep's Bytes: two rows of bytes held against each other. -/
namespace Go.Proofs.Ytfihpljgbghogaa
open Go.RowKit Go.Shelf Go.Lib
set_option linter.unusedVariables false
set_option linter.unusedSimpArgs false
theorem strQ_inj {xs ys : List Int} (hx : IsBytes xs) (hy : IsBytes ys) (h : strOfNums xs = strOfNums ys) : xs = ys := by
  have h1 : (strOfNums xs).data.toList = (strOfNums ys).data.toList := by rw [h]
  rw [strOfNums_data, strOfNums_data] at h1
  have hl : xs.length = ys.length := by have := congrArg List.length h1; simpa using this
  refine List.ext_getElem hl fun i h2 h3 => ?_
  have h4 := congrArg (fun l : List UInt8 => l[i]?) h1
  simp only [List.getElem?_map, List.getElem?_eq_getElem h2, List.getElem?_eq_getElem h3, Option.map_some, Option.some.injEq] at h4
  have bx := hx i
  have by_ := hy i
  rw [List.getElem?_eq_getElem h2, Option.getD_some] at bx
  rw [List.getElem?_eq_getElem h3, Option.getD_some] at by_
  have h5 := congrArg UInt8.toNat h4
  have e : ∀ n : Int, 0 ≤ n → n < 256 → (UInt8.ofNat n.toNat).toNat = n.toNat := fun n h0 h1 => by
    rw [UInt8.toNat_ofNat']
    omega
  rw [e _ bx.1 bx.2, e _ by_.1 by_.2] at h5
  have := bx.1
  have := by_.1
  omega
set_option maxRecDepth 100000 in
set_option maxHeartbeats 2000000 in
/-- **Bytes**: two rows of bytes held against each other. -/
theorem eqk_bytes (va vb : Value) (xs ys : List Int) (w : World) (ha : Sl .u8 w va xs) (hb : Sl .u8 w vb ys) (hx : IsBytes xs) (hy : IsBytes ys) :
    Calls Try.prog 13 #[va, vb] w fun e w' => e = .returned (.bool (decide (xs = ys))) ∧ w' = w := by
  have k1 := conv_sl ha
  have k2 := conv_sl hb
  have heq : ((strOfNums xs).toList == (strOfNums ys).toList) = decide (xs = ys) := by
    by_cases h : xs = ys
    · subst h; simp
    · rw [decide_eq_false h]
      refine beq_eq_false_iff_ne.2 fun e => h (strQ_inj hx hy ?_)
      rw [Lib.strOfNums_toList, Lib.strOfNums_toList] at e
      unfold strOfNums
      rw [show (xs.map fun n => UInt8.ofNat n.toNat) = ys.map fun n => UInt8.ofNat n.toNat from e]
  have HE := Lib.hid heq
  clear ha hb hx hy heq
  go_enter Try.func13, Try.ntmps13
  go_wp2
  go_ret
  exact ⟨by rw [← HE.out]; rfl, rfl⟩
end Go.Proofs.Ytfihpljgbghogaa

/- Marked sectors in memory: their rows of cells, read and written at once; copies. -/
namespace Go.Proofs.Ytfihpljgbghogaa
open Go.RowKit
set_option linter.unusedVariables false

def u8s (bs : List Int) : List Value := bs.map (Value.int .u8)
/-- Bytes that a call has made since W. -/
def OwnB (W x : World) (v : Value) (bs : List Int) : Prop := x.ownsRow W.heap.size 5 1 v bs.length (u8s bs)
theorem OwnB.below {W x x' : World} {v : Value} {bs : List Int} (h : OwnB W x v bs) (hb : Below x.heap.size x x') : OwnB W x' v bs := by
  refine ⟨h.1, ?_⟩
  rcases h.2 with h' | ⟨g, cap, cur, rfl, a1, a2, a3⟩
  · exact .inl h'
  · exact .inr ⟨g, cap, cur, rfl, a1, (hb.block g (Array.getElem?_eq_some_iff.1 a2).1).trans a2, a3⟩
theorem OwnB.sl {W x : World} {v : Value} {bs : List Int} (h : OwnB W x v bs) : Sl .u8 x v bs := Sl.of_owns h
theorem ownB_one (W x : World) (hb : W.heap.size ≤ x.heap.size) (y : Int) : OwnB W (x.alloc (.cells #[.int .u8 y] 5)) (.slice (some ⟨x.heap.size, 0, none⟩) 1 1) [y] :=
  World.ownsRow_lit (base := W.heap.size) x #[.int .u8 y] 1 hb (by simp [maxLen]) rfl
set_option maxRecDepth 100000 in
theorem OwnB.app {W x : World} {v u : Value} {xs bs : List Int} (h : OwnB W x v xs) (hb : Below W.heap.size W x) (hu : Sl .u8 x u bs) (hl : xs.length + bs.length ≤ 1000000) :
    ∃ v' x', Hid ((Builtin.append_ #[22, 22] 22 #[v, u]).run Try.prog x = .ok v' x') ∧ Hid (OwnB W x' v' (xs ++ bs)) ∧ Hid (Below W.heap.size W x') := by
  obtain ⟨v', x', r1, r2, r3⟩ := run_append_bytes W.heap.size x v xs h u bs hu (by omega) hb.size
  exact ⟨v', x', r1, r2, hb.grown r3 hb.size (fun k e => (h.lt k e).1)⟩
end Go.Proofs.Ytfihpljgbghogaa

/- The library's Grow and Concat at bytes. -/
namespace Go.Proofs.Ytfihpljgbghogaa
open Go.RowKit Go.Shelf
set_option linter.unusedVariables false

set_option maxRecDepth 100000 in
set_option maxHeartbeats 1600000 in
/-- **Grow** of the nil slice: room, and no bytes. -/
theorem grow_nil (n : Nat) (hn : n ≤ 1000000) (w : World) :
    Calls Try.prog 49 #[.slice none 0 0, .int .i64 (n : Int)] w fun e w' => ∃ v, e = .returned v ∧ w'.ownsRow w.heap.size 5 1 v 0 [] ∧ Below w.heap.size w w' := by
  obtain ⟨i0, hi, hz0, hz1, hz2⟩ := info_parts info_u8
  have g0 : ¬ ((n : Int) < 0) := by omega
  have g1 : decide ((n : Int) < 0) = false := by simp
  by_cases h : 0 < n
  · have g2 : decide ((n : Int) > 0) = true := by simp; omega
    have hr := fun ty => Lib.run_append_grow_zeros (P := Try.prog) w 22 3 ty 5 i0 (.int .u8 0) .i64 .i64 Try.underlying22 Try.underlying3 hi hz0 none 0 0 [] (run_firstCells_none w.drew i0.size 0 0 0) n h (by omega) (by omega) (by omega) (by rw [hz2]; omega)
      (by rw [hz2]; exact growslice_fits (by omega) (by omega))
    have hc1 := grownCap_ge w (0 + n) 0 5
    have hc2 := grownCap_le_maxLen w (0 + n) 0 5 (by unfold maxLen; omega)
    obtain ⟨G, hG⟩ : ∃ G, grownCap w (0 + n) 0 5 = G := ⟨_, rfl⟩
    rw [hG] at hr hc1 hc2
    obtain ⟨W, hW⟩ : ∃ W, w.drew.alloc (.cells (([] : List Value).toArray ++ Builtin.zeroCells (Value.int .u8 0).cells n ++ Builtin.zeroCells (Value.int .u8 0).cells (G - (0 + n))) 5) = W := ⟨_, rfl⟩
    rw [hW] at hr
    have HO : Hid (W.ownsRow w.heap.size 5 1 (.slice (some ⟨w.heap.size, 0, none⟩) 0 G) 0 []) := by
      refine ⟨by simp, .inr ⟨w.heap.size, G, _, rfl, Nat.le_refl _, by rw [← hW]; exact heap_alloc_new w.drew _, Nat.zero_le _, hc2, ?_, by simp⟩⟩
      simp [size_zeroCells, Value.cells]
      omega
    have HB : Hid (Below w.heap.size w W) := by rw [← hW]; exact ((Below.refl _ w).drew).alloc (Nat.le_refl _) _
    have HR := Lib.hid hr
    have g3 : G ≤ 9223372036854775807 := by unfold maxLen at hc2; omega
    clear hr hW hc2 hG hz0 hz1 hz2 hi
    go_enter Try.func49, Try.ntmps49
    go_wp2_with (at_builtin; refine Lib.wpList_append_run _ rfl _ _ _ _ rfl _ _ rfl rfl _ _ (HR.out _) ?_)
    go_ret
    exact ⟨_, rfl, HO.out, HB.out⟩
  · obtain rfl : n = 0 := by omega
    go_enter Try.func49, Try.ntmps49
    go_wp2
    go_ret
    exact ⟨_, rfl, World.ownsRow_nil _ _ _ _, Below.refl _ _⟩

/-- A slice of slices of bytes. -/
def Sls (w : World) (v : Value) (bss : List (List Int)) : Prop :=
  ∃ B cap, v = .slice (some ⟨B, 0, none⟩) bss.length cap ∧ bss.length ≤ cap ∧ cap ≤ maxLen ∧ B < w.heap.size ∧ ∀ k, k < bss.length → ∃ u, w.cell? ⟨B, k, none⟩ = some u ∧ Sl .u8 w u (bss[k]?.getD [])
theorem take_snoc_nil (bss : List (List Int)) {k : Nat} (h : k < bss.length) : bss.take (k + 1) = bss.take k ++ [bss[k]?.getD []] := by
  rw [List.take_succ_eq_append_getElem h, List.getElem?_eq_getElem h]
  rfl
theorem flat_snocB (bss : List (List Int)) {k : Nat} (h : k < bss.length) : (bss.take (k + 1)).flatten = (bss.take k).flatten ++ bss[k]?.getD [] := by
  rw [take_snoc_nil bss h]; simp
theorem flat_le (bss : List (List Int)) (k : Nat) : (bss.take k).flatten.length ≤ bss.flatten.length := by
  conv => rhs; rw [← List.take_append_drop k bss]
  rw [List.flatten_append, List.length_append]
  omega

set_option maxRecDepth 100000 in
set_option maxHeartbeats 1600000 in
/-- **Concat**. -/
theorem concat_any (v : Value) (bss : List (List Int)) (w : World) (hv : Sls w v bss) (hl : bss.flatten.length ≤ 1000000) :
    Calls Try.prog 34 #[v] w fun e w' => ∃ v, e = .returned v ∧ w'.ownsRow w.heap.size 5 1 v bss.flatten.length (u8s bss.flatten) ∧ Below w.heap.size w w' := by
  obtain ⟨B, cap, rfl, h1, h2, h3, h4⟩ := hv
  obtain ⟨n, hn⟩ : ∃ n, bss.length = n := ⟨_, rfl⟩
  have HN := Lib.hid hn
  have HL := Lib.hid hl
  rw [hn] at h1 h4 ⊢
  have H4 := Lib.hid h4
  have hm : (n : Int) ≤ 9223372036854775807 := by unfold maxLen at h2; omega
  clear hn hl h4 h2
  go_enter Try.func34, Try.ntmps34
  go_wp2_with fail
  go_loop [3, 11] (fun s i => ∃ k : Nat, k ≤ n ∧ i = .int .i64 k ∧ s = .int .i64 (((bss.take k).flatten.length : Nat) : Int)) (fun _ i => n - (intOf i).toNat)
  case atStart => exact ⟨0, Nat.zero_le _, rfl, rfl⟩
  case round =>
    obtain ⟨k, hk, rfl, rfl⟩ := hrel
    obtain ⟨m, hm0⟩ : ∃ m, (bss.take k).flatten.length = m := ⟨_, rfl⟩
    rw [hm0]
    by_cases hlt : k < n
    · have hlt' : decide ((k : Int) < (n : Int)) = true := by simp; omega
      obtain ⟨u, c0, ⟨a, cp, rfl, -⟩⟩ := H4.out k hlt
      obtain ⟨q, hq⟩ : ∃ q, (bss[k]?.getD []).length = q := ⟨_, rfl⟩
      rw [hq] at c0
      have hs : (bss.take (k + 1)).flatten.length = m + q := by rw [flat_snocB bss (by rw [HN.out]; exact hlt), List.length_append, hm0, hq]
      have hb := flat_le bss (k + 1)
      have hb2 := HL.out
      have g5 : (m : Int) + (q : Int) ≤ 1000000 := by omega
      have g6 : decide ((m : Int) + (q : Int) < 0) = false := by simp; omega
      have HS := Lib.hid hs
      clear hs hb hb2 hq hm0
      go_wp2_with fail
      go_round
      case rel => exact ⟨k + 1, by omega, by go_num, by rw [HS.out]; simp⟩
      case measure => simp [intOf]; omega
    · have hlt' : decide ((k : Int) < (n : Int)) = false := by simp; omega
      obtain rfl : k = n := by omega
      have hmb : m ≤ 1000000 := by rw [← hm0]; exact Nat.le_trans (flat_le bss k) HL.out
      clear hm0
      go_wp2_with fail
      go_at_call 49
      refine (grow_nil m hmb w).mono ?_
      rintro e w1 ⟨v1, rfl, hO, hB⟩
      have HO := Lib.hid hO
      have HB := Lib.hid hB
      clear hO hB
      go_wp2_with fail
      go_loopw [6, 27] (fun v i wr => ∃ j : Nat, j ≤ k ∧ i = .int .i64 j ∧ Hid (OwnB w wr v (bss.take j).flatten) ∧ Hid (Below w.heap.size w wr)) (fun _ i _ => k - (intOf i).toNat)
      case atStart => exact ⟨0, Nat.zero_le _, rfl, HO, HB⟩
      case round =>
        obtain ⟨j, hj, rfl, HO, HB⟩ := hrel
        by_cases hlt : j < k
        · have hlt' : decide ((j : Int) < (k : Int)) = true := by simp; omega
          obtain ⟨u, c0, hu⟩ := H4.out j hlt
          have c1 : wr.cell? ⟨B, j, none⟩ = some u := (HB.out.cell (p := ⟨B, j, none⟩) h3).trans c0
          obtain ⟨v5, x3, R3, O3, K3⟩ := HO.out.app HB.out (hu.below HB.out) (by
            rw [← List.length_append, ← flat_snocB bss (by rw [HN.out]; exact hlt)]
            exact Nat.le_trans (flat_le bss _) HL.out)
          clear c0 hu
          go_wp2_with (at_builtin; refine wpList_append_run (.tmp 31) (.tmp 32) 22 rfl rfl _ _ _ rfl rfl R3.out ?_)
          go_roundw
          case rel => exact ⟨j + 1, by omega, by go_num, by rw [flat_snocB bss (by rw [HN.out]; exact hlt)]; exact O3, K3⟩
          case measure => simp [intOf]; omega
        · have hlt' : decide ((j : Int) < (k : Int)) = false := by simp; omega
          obtain rfl : j = k := by omega
          have e1 : bss.take j = bss := List.take_of_length_le (by rw [HN.out]; exact Nat.le_refl _)
          rw [e1] at HO
          clear e1
          go_wp2_with fail
          go_ret
          exact ⟨_, rfl, HO.out, HB.out⟩
end Go.Proofs.Ytfihpljgbghogaa

/- Bytes in slices that lie in memory, whatever order they were made in; a literal made of a constant string; le.Put. -/
namespace Go.Proofs.Ytfihpljgbghogaa
open Go.RowKit Go.Shelf
set_option linter.unusedVariables false

/-- Bytes that lie in memory, each slice by itself. -/
def AllSl (w : World) (L : List (Value × List Int)) : Prop := ∀ p ∈ L, Sl .u8 w p.1 p.2
theorem AllSl.nil (w : World) : AllSl w [] := fun p h => by cases h
theorem AllSl.put {w w' : World} {L : List (Value × List Int)} (h : AllSl w L) (hb : Below w.heap.size w w') {v : Value} {bs : List Int} (hv : Sl .u8 w' v bs) : AllSl w' ((v, bs) :: L) := fun p hp => by
  rcases List.mem_cons.1 hp with rfl | hp
  · exact hv
  · exact (h p hp).below hb
theorem AllSl.below {w w' : World} {L : List (Value × List Int)} (h : AllSl w L) (hb : Below w.heap.size w w') : AllSl w' L := fun p hp => (h p hp).below hb
theorem wpPlan_two {P : Program} {l : List Oper} {Q : Exit → Act → World → Prop} {S : World → Prop} {n i j : Nat} {p q : Plan} {a : Act} {w : World} : wpPlan P l Q S n (.two i j p q) a w = (wpList P l.toArray (planPost S Q (wpPlan P l Q S n p)) [nth l i] a w ∧ wpList P l.toArray (planPost S Q (wpPlan P l Q S n q)) [nth l j] a w) := rfl
set_option maxRecDepth 100000 in
theorem put_sl {x : World} (n : Int) (k : Nat) (h1 : 1 ≤ k) (h2 : k ≤ 16) (h0 : 0 ≤ n) (h3 : n < 18446744073709551616) : Calls Try.prog 32 #[.int .u64 n, .int .i64 (k : Int)] x fun e w' => ∃ a c, e = .returned (.slice a k c) ∧ Sl .u8 w' (.slice a k c) (putL n k) ∧ Below x.heap.size x w' := by
  refine (put_some n k x h1 h2 h0 h3).mono ?_
  rintro e w' ⟨v, rfl, hrow, hb⟩
  have hs := Sl.of_owns (bs := putL n k) (by rw [putL_length]; exact hrow)
  obtain ⟨a, c, hv, -⟩ := id hs
  rw [putL_length] at hv
  subst hv
  exact ⟨a, c, rfl, hs, hb⟩
set_option maxRecDepth 100000 in
theorem conv_mark (w : World) (L : Nat) (C : Array Value) (n c : Nat) (h : w.heap[L]? = some (.cells C 5 (0, 0))) :
    ∃ w', (convert 22 22 (.slice (some ⟨L, 0, none⟩) n c)).run Try.prog w = .ok (.slice (some ⟨L, 0, none⟩) n c) w' ∧ Below L w w' ∧ w'.heap.size = w.heap.size ∧ ∀ p, w'.cell? p = w.cell? p := by
  have hsh : w.shape? L = some (5, C.size) := by unfold World.shape?; rw [h]
  have hlt : L < w.heap.size := (Array.getElem?_eq_some_iff.1 h).1
  have hoth : ∀ k, k ≠ L → (w.freeze ⟨L, C.size, none⟩ 1).heap[k]? = w.heap[k]? := fun k hk => by
    unfold World.freeze
    rw [if_neg (by decide)]
    show (w.heap.modify L _)[k]? = _
    rw [Array.getElem?_modify, if_neg (fun e => hk e.symm)]
  have hat : ∃ r, (w.freeze ⟨L, C.size, none⟩ 1).heap[L]? = some (.cells C 5 r) := by
    unfold World.freeze
    rw [if_neg (by decide)]
    show ∃ r, (w.heap.modify L _)[L]? = _
    rw [Array.getElem?_modify, if_pos rfl, h]
    exact ⟨_, rfl⟩
  have hsz : (w.freeze ⟨L, C.size, none⟩ 1).heap.size = w.heap.size := by
    unfold World.freeze
    rw [if_neg (by decide)]
    exact Array.size_modify
  refine ⟨w.freeze ⟨L, C.size, none⟩ 1, ?_, ⟨rfl, rfl, rfl, by rw [hsz]; exact Nat.le_refl _, fun k hk => hoth k (by omega)⟩, hsz, fun p => ?_⟩
  · simp [convert, run_underlying Try.underlying22, run_underlying Try.underlying5, markStringish, hsh]
  · by_cases hp : p.block = L
    · obtain ⟨r, hr⟩ := hat
      unfold World.cell?
      rw [hp, hr, h]
    · exact World.cell?_of_block (hoth _ hp)
theorem Sl.cells {w w' : World} {v : Value} {bs : List Int} (h : Sl .u8 w v bs) (hs : w'.heap.size = w.heap.size) (hc : ∀ p, w'.cell? p = w.cell? p) : Sl .u8 w' v bs := by
  obtain ⟨a, cap, e, h1, h2, h3, hn⟩ := h
  refine ⟨a, cap, e, h1, h2, ?_, hn⟩
  rcases h3 with h3 | ⟨b, off, e, h3, h4⟩
  · exact .inl h3
  · exact .inr ⟨b, off, e, by rw [hs]; exact h3, fun j hj => (hc _).trans (h4 j hj)⟩
theorem AllSl.cells {w w' : World} {L : List (Value × List Int)} (h : AllSl w L) (hs : w'.heap.size = w.heap.size) (hc : ∀ p, w'.cell? p = w.cell? p) : AllSl w' L := fun p hp => (h p hp).cells hs hc
theorem plan_have {ι : Type} {P : Program} {l : List Oper} {Q : Exit → Act → World → Prop} {S : World → Prop} {n : Nat} {p0 : Plan} {a0 : Act} {x0 : World} (p1 : Plan) (F : ι → Act) (C : ι → World → Prop) (h1 : ∀ i x, C i x → wpPlan P l Q S n p1 (F i) x)
    (h0 : (∀ i x, C i x → wpPlan P l Q S n p1 (F i) x) → wpPlan P l Q S n p0 a0 x0) : wpPlan P l Q S n p0 a0 x0 := h0 h1
end Go.Proofs.Ytfihpljgbghogaa

/- The developers' stream: checked, record, head. -/
namespace Go.Proofs.Ytfihpljgbghogaa
open Go.RowKit Go.Shelf
set_option linter.unusedVariables false
set_option linter.unusedSimpArgs false
attribute [-simp] Try.isAgg49 Try.zeroValue49 Try.isAgg26 Try.zeroValue26
attribute [-go_sem] loadVar storeVar
attribute [local go_sem] loadVar_openRS storeVar_openRS zero_rc zero_sm

theorem own_weakS {W x : World} {v : Value} {bs : List Int} {N : Nat} (h : x.ownsRow N 5 1 v bs.length (u8s bs)) (hN : W.heap.size ≤ N) : OwnB W x v bs := by
  refine ⟨h.1, ?_⟩
  rcases h.2 with h' | ⟨g, cap, cur, e, h1, h2⟩
  · exact .inl h'
  · exact .inr ⟨g, cap, cur, e, Nat.le_trans hN h1, h2⟩
set_option maxRecDepth 100000 in
theorem slice_magic (w : World) : (Instr.buildSlice 22 4 #[(0, .int .u8 82), (1, .int .u8 86), (2, .int .u8 83), (3, .int .u8 49)]).run Try.prog w = .ok (.slice (some ⟨w.heap.size, 0, none⟩) 4 4) (w.alloc (.cells #[.int .u8 82, .int .u8 86, .int .u8 83, .int .u8 49] 5)) := by kernel_rfl
set_option maxRecDepth 100000 in
theorem slice_mark (w : World) (y : Int) : (Instr.buildSlice 22 1 #[(0, .int .u8 y)]).run Try.prog w = .ok (.slice (some ⟨w.heap.size, 0, none⟩) 1 1) (w.alloc (.cells #[.int .u8 y] 5)) := by kernel_rfl
set_option maxRecDepth 100000 in
theorem bss2 (w : World) (a b : Option Addr) (la lb ca cb : Nat) : (Instr.buildSlice 78 2 #[(0, .slice a la ca), (1, .slice b lb cb)]).run Try.prog w = .ok (.slice (some ⟨w.heap.size, 0, none⟩) 2 2) (w.alloc (.cells #[.slice a la ca, .slice b lb cb] 22)) := by kernel_rfl
set_option maxRecDepth 100000 in
theorem bss4 (w : World) (a b c d : Option Addr) (la lb lc ld ca cb cc cd : Nat) : (Instr.buildSlice 78 4 #[(0, .slice a la ca), (1, .slice b lb cb), (2, .slice c lc cc), (3, .slice d ld cd)]).run Try.prog w = .ok (.slice (some ⟨w.heap.size, 0, none⟩) 4 4) (w.alloc (.cells #[.slice a la ca, .slice b lb cb, .slice c lc cc, .slice d ld cd] 22)) := by kernel_rfl
set_option maxRecDepth 100000 in
theorem bss5 (w : World) (a b c d e : Option Addr) (la lb lc ld le ca cb cc cd ce : Nat) : (Instr.buildSlice 78 5 #[(0, .slice a la ca), (1, .slice b lb cb), (2, .slice c lc cc), (3, .slice d ld cd), (4, .slice e le ce)]).run Try.prog w = .ok (.slice (some ⟨w.heap.size, 0, none⟩) 5 5) (w.alloc (.cells #[.slice a la ca, .slice b lb cb, .slice c lc cc, .slice d ld cd, .slice e le ce] 22)) := by kernel_rfl
/-- A row of slices, new. -/
theorem sls_new {x : World} {vs : List Value} {bss : List (List Int)} (hl : vs.length = bss.length) (hm : vs.length ≤ 1000) (h : ∀ (k : Nat) (v : Value) (bs : List Int), vs[k]? = some v → bss[k]? = some bs → Sl .u8 x v bs) :
    Sls (x.alloc (.cells vs.toArray 22)) (.slice (some ⟨x.heap.size, 0, none⟩) vs.length vs.length) bss := by
  have r4 := RowC.new x 22 vs
  have b := below_new x (.cells vs.toArray 22)
  refine ⟨x.heap.size, vs.length, by rw [hl], by omega, by unfold maxLen; omega, by simp, fun k hk => ?_⟩
  have e1 := List.getElem?_eq_getElem (l := vs) (i := k) (by omega)
  have e2 := List.getElem?_eq_getElem (l := bss) (i := k) hk
  refine ⟨_, r4.cell k _ e1, ?_⟩
  rw [e2]
  exact (h k _ _ e1 e2).below b
theorem sls2 {x : World} {a b : Value} {p q : List Int} (h1 : Sl .u8 x a p) (h2 : Sl .u8 x b q) : Sls (x.alloc (.cells #[a, b] 22)) (.slice (some ⟨x.heap.size, 0, none⟩) 2 2) [p, q] :=
  sls_new (vs := [a, b]) rfl (by simp) fun k v bs e1 e2 => by
    match k with
    | 0 => cases e1; cases e2; exact h1
    | 1 => cases e1; cases e2; exact h2
    | k + 2 => cases e1
theorem sls3 {x : World} {a b c : Value} {p q r : List Int} (h1 : Sl .u8 x a p) (h2 : Sl .u8 x b q) (h3 : Sl .u8 x c r) : Sls (x.alloc (.cells #[a, b, c] 22)) (.slice (some ⟨x.heap.size, 0, none⟩) 3 3) [p, q, r] :=
  sls_new (vs := [a, b, c]) rfl (by simp) fun k v bs e1 e2 => by
    match k with
    | 0 => cases e1; cases e2; exact h1
    | 1 => cases e1; cases e2; exact h2
    | 2 => cases e1; cases e2; exact h3
    | k + 3 => cases e1
theorem slsD {x : World} {a b c d : Value} {p q r s : List Int} (h1 : Sl .u8 x a p) (h2 : Sl .u8 x b q) (h3 : Sl .u8 x c r) (h4 : Sl .u8 x d s) : Sls (x.alloc (.cells #[a, b, c, d] 22)) (.slice (some ⟨x.heap.size, 0, none⟩) 4 4) [p, q, r, s] :=
  sls_new (vs := [a, b, c, d]) rfl (by simp) fun k v bs e1 e2 => by
    match k with
    | 0 => cases e1; cases e2; exact h1
    | 1 => cases e1; cases e2; exact h2
    | 2 => cases e1; cases e2; exact h3
    | 3 => cases e1; cases e2; exact h4
    | k + 4 => cases e1
theorem sls5 {x : World} {a b c d f : Value} {p q r s t : List Int} (h1 : Sl .u8 x a p) (h2 : Sl .u8 x b q) (h3 : Sl .u8 x c r) (h4 : Sl .u8 x d s) (h5 : Sl .u8 x f t) : Sls (x.alloc (.cells #[a, b, c, d, f] 22)) (.slice (some ⟨x.heap.size, 0, none⟩) 5 5) [p, q, r, s, t] :=
  sls_new (vs := [a, b, c, d, f]) rfl (by simp) fun k v bs e1 e2 => by
    match k with
    | 0 => cases e1; cases e2; exact h1
    | 1 => cases e1; cases e2; exact h2
    | 2 => cases e1; cases e2; exact h3
    | 3 => cases e1; cases e2; exact h4
    | 4 => cases e1; cases e2; exact h5
    | k + 5 => cases e1
set_option maxRecDepth 100000 in
/-- **Concat** of a row of slices. -/
theorem concat_own {W x : World} {v : Value} {bss : List (List Int)} {bs : List Int} (hv : Sls x v bss) (e : bss.flatten = bs) (hl : bs.length ≤ 1000000) (hW : W.heap.size ≤ x.heap.size) :
    Calls Try.prog 34 #[v] x fun e w' => ∃ v, e = .returned v ∧ OwnB W w' v bs ∧ Below x.heap.size x w' := by
  subst e
  exact (concat_any v bss x hv hl).mono fun e w' ⟨v, h1, h2, h3⟩ => ⟨v, h1, own_weakS h2 hW, h3⟩

set_option maxRecDepth 100000 in
set_option maxHeartbeats 4000000 in
/-- **checked**. -/
theorem sm_checked {w : World} {v : Value} {bs : List Int} (hv : Sl .u8 w v bs) (hr : IsBytes bs) (hl : bs.length ≤ 900000) :
    Calls Try.prog 28 #[v] w fun e w' => ∃ u, e = .returned u ∧ OwnB w w' u (sld bs) ∧ Below w.heap.size w w' := by
  have HV := Lib.hid hv
  obtain ⟨a, c, rfl, -⟩ := (show Sl _ _ _ _ from hv)
  have HC := Lib.hid (check_any _ bs w hv hr)
  obtain ⟨K, hK⟩ : ∃ K, fnvMore fnvInit bs = K := ⟨_, rfl⟩
  have hu : IsU64 (fnvMore fnvInit bs) := isU64_more bs isU64_init
  rw [hK] at HC hu
  have hk0 : 0 ≤ K := hu.1
  have hk1 : K < 18446744073709551616 := hu.2
  have HP : Hid (∀ x : World, Calls Try.prog 32 #[.int .u64 K, .int .i64 8] x fun e w' => ∃ a c, e = .returned (.slice a 8 c) ∧ Sl .u8 w' (.slice a 8 c) (putL K 8) ∧ Below x.heap.size x w') := fun x => put_sl (x := x) K 8 (by omega) (by omega) hk0 hk1
  have HE : Hid ([bs, putL K 8].flatten = sld bs) := by show _ = _; simp [sld, hK]
  have HLn : Hid ((sld bs).length ≤ 1000000) := by show _ ≤ _; rw [sld_length]; omega
  clear hu hk0 hk1 hr hv hl hK
  go_enter Try.func28, Try.ntmps28
  go_wp2_with fail
  refine HC.out.mono ?_
  rintro e x ⟨rfl, hx⟩
  have HX := Lib.hid hx
  clear hx
  go_wp2_with fail
  refine (HP.out x).mono ?_
  rintro e y ⟨a1, c1, rfl, hs, hb⟩
  have HY : Hid (Below w.heap.size w y) := HX.out.trans (hb.mono HX.out.size)
  have HS := Lib.hid hs
  clear hs hb
  have BS := bss2 y a a1 bs.length 8 c c1
  have SS := Lib.hid (sls2 (HV.out.below HY.out) HS.out)
  obtain ⟨z, hz⟩ : ∃ z, y.alloc (.cells #[.slice a bs.length c, .slice a1 8 c1] 22) = z := ⟨_, rfl⟩
  have HZ : Hid (Below w.heap.size w z) := by show Below _ _ _; rw [← hz]; exact HY.out.trans ((below_new y _).mono HY.out.size)
  rw [hz] at BS SS
  clear hz
  go_wp2_with ((with_reducible refine gate_build ?_); refine wpList_build_run _ _ _ rfl rfl _ _ rfl BS ?_)
  go_at_call 34
  refine (concat_own (W := w) SS.out HE.out HLn.out HZ.out.size).mono ?_
  rintro e u ⟨v, rfl, ho, hb⟩
  have HO := Lib.hid ho
  have HU : Hid (Below w.heap.size w u) := HZ.out.trans (hb.mono HZ.out.size)
  clear ho hb BS
  go_wp2_with fail
  go_ret
  exact ⟨_, rfl, HO.out, HU.out⟩

set_option maxRecDepth 100000 in
set_option maxHeartbeats 8000000 in
/-- **record**. -/
theorem sm_record {x : RC} {d : SlV} {w : World} (hf : 0 ≤ x.fr ∧ x.fr ≤ 1000) (hc : 0 ≤ x.ct ∧ x.ct ≤ 1000) (hd : Sl .u8 w (slV d) x.da) (hl : x.da.length ≤ 800000) :
    Calls Try.prog 31 #[rvV (x.fr, x.ct, x.ze, d)] w fun e w' => ∃ u, e = .returned u ∧ OwnB w w' u (rcB x) ∧ Below w.heap.size w w' := by
  have hmx : Try.prog.follows .mixedOrders = true := by kernel_rfl
  obtain ⟨a, n, c⟩ := d
  obtain ⟨rfl, -, -⟩ := Sl.cellW hd
  have HE0 : Hid ([[mkB x], putL x.fr 2, putL x.ct 2, x.da].flatten = rcB x) := by show _ = _; simp [rcB]
  have HLn : Hid ((rcB x).length ≤ 1000000) := by show _ ≤ _; rw [rcB_length]; omega
  obtain ⟨R, hR⟩ : ∃ R, rcB x = R := ⟨_, rfl⟩
  rw [hR] at HE0 HLn ⊢
  clear hR
  obtain ⟨fr, ct, ze, da⟩ := x
  simp only at hf hc hd HE0
  have HP5 : Hid (∀ x : World, Calls Try.prog 32 #[.int .u64 fr, .int .i64 2] x fun e w' => ∃ a c, e = .returned (.slice a 2 c) ∧ Sl .u8 w' (.slice a 2 c) (putL fr 2) ∧ Below x.heap.size x w') := fun x => put_sl (x := x) fr 2 (by omega) (by omega) (by omega) (by omega)
  have HP9 : Hid (∀ x : World, Calls Try.prog 32 #[.int .u64 ct, .int .i64 2] x fun e w' => ∃ a c, e = .returned (.slice a 2 c) ∧ Sl .u8 w' (.slice a 2 c) (putL ct 2) ∧ Below x.heap.size x w') := fun x => put_sl (x := x) ct 2 (by omega) (by omega) (by omega) (by omega)
  obtain ⟨hf0, hf1⟩ := hf
  obtain ⟨hc0, hc1⟩ := hc
  obtain ⟨W, hW⟩ : ∃ W, w.alloc (.cells #[.int .i64 fr, .int .i64 ct, .bool ze, .slice a da.length c] 49) = W := ⟨_, rfl⟩
  have r : RowC W w.heap.size 49 [.int .i64 fr, .int .i64 ct, .bool ze, .slice a da.length c] := by rw [← hW]; exact RowC.new w _ _
  have hB : Below w.heap.size w W := by rw [← hW]; exact below_new w _
  have HBW := Lib.hid hB
  have HDA : Hid (Sl .u8 W (.slice a da.length c) da) := hd.below hB
  obtain ⟨n, hn⟩ : ∃ n, da.length = n := ⟨_, rfl⟩
  rw [hn] at hW r HDA hl ⊢
  obtain ⟨B, hBB⟩ : ∃ B, w.heap.size = B := ⟨_, rfl⟩
  rw [hBB] at r
  have e0 : ∀ z : Ext W, z.1.cell? ⟨B, 0, none⟩ = some (.int .i64 fr) := fun z => (r.below z.2).cell 0 _ rfl
  have e1 : ∀ z : Ext W, z.1.cell? ⟨B, 1, none⟩ = some (.int .i64 ct) := fun z => (r.below z.2).cell 1 _ rfl
  have e3 : ∀ z : Ext W, z.1.cell? ⟨B, 3, none⟩ = some (.slice a n c) := fun z => (r.below z.2).cell 3 _ rfl
  have d2 := r.cell 2 _ rfl
  have KD : Hid (Below W.heap.size W W.drew) := (Below.refl _ W).drew
  simp only [rvV, slV]
  clear r hB hd hn
  cases ze with
  | true =>
    have HE : Hid ([[2], putL fr 2, putL ct 2, da].flatten = R) := HE0.out
    clear HE0
    go_enter Try.func31, Try.ntmps31
    go_wp2_with fail
    try rw [hW]
    try rw [hBB]
    clear d2 hW
    refine region_plan (fun x => ∃ y : Ext W, x = y.1) 14 (.takes [0, 2, 3, 4, 6, 7, 8, 10, 11] (.two 1 5 (.one 5 (.one 9 (.one 12 (.one 13 .leaf)))) (.two 1 9 (.one 9 (.one 12 (.one 13 .leaf))) (.one 1 (.one 12 (.one 13 .leaf)))))) hmx (by kernel_rfl) (by intro c x v a w h; cases x <;> exact h) ⟨⟨W.drew, KD.out⟩, rfl⟩ ?_
    rw [wpPlan_takes_cons]; simp only [nth_zero, nth_succ]; go_big_quiet_step (fail); refine wpQuiet_nil ?_
    rw [wpPlan_takes_cons]; simp only [nth_zero, nth_succ]; go_big_quiet_step (fail); refine wpQuiet_nil ?_
    rw [wpPlan_takes_cons]; simp only [nth_zero, nth_succ]; go_big_quiet_step (fail); refine wpQuiet_nil ?_
    rw [wpPlan_takes_cons]; simp only [nth_zero, nth_succ]; go_big_quiet_step (fail); refine wpQuiet_nil ?_
    rw [wpPlan_takes_cons]; simp only [nth_zero, nth_succ]; go_big_quiet_step (fail); refine wpQuiet_nil ?_
    rw [wpPlan_takes_cons]; simp only [nth_zero, nth_succ]; go_big_quiet_step (fail); refine wpQuiet_nil ?_
    rw [wpPlan_takes_cons]; simp only [nth_zero, nth_succ]; go_big_quiet_step (fail); refine wpQuiet_nil ?_
    rw [wpPlan_takes_cons]; simp only [nth_zero, nth_succ]; go_big_quiet_step (fail); refine wpQuiet_nil ?_
    rw [wpPlan_takes_cons]; simp only [nth_zero, nth_succ]; go_big_quiet_step (fail); refine wpQuiet_nil ?_
    rw [wpPlan_takes_nil]
    clear e0 e1 e3
    obtain ⟨x0, hx0⟩ : ∃ X, W.drew = X := ⟨_, rfl⟩
    rw [hx0] at KD
    try rw [hx0]
    have Kx0 := KD
    clear hx0 KD
    rw [wpPlan_two]
    refine ⟨?_, ?_⟩
    · simp only [nth_zero, nth_succ]
      have BS := slice_mark x0 2
      have OS := ownB_one W x0 Kx0.out.size 2
      obtain ⟨x1, hx1⟩ : ∃ Y, x0.alloc (.cells #[.int .u8 2] 5) = Y := ⟨_, rfl⟩
      have hb : Below x0.heap.size x0 x1 := by rw [← hx1]; exact below_new _ _
      rw [hx1] at BS OS
      have Kx1 : Hid (Below W.heap.size W x1) := Kx0.out.trans (hb.mono Kx0.out.size)
      have S0 := Lib.hid OS.sl
      have BS := Lib.hid BS
      clear OS hx1 hb
      go_wp2_with ((with_reducible refine gate_build ?_); refine wpList_build_run _ _ _ rfl rfl _ _ rfl BS.out ?_)
      clear BS
      refine planPost_mk ⟨⟨x1, Kx1.out⟩, rfl⟩ ?_
      rw [wpPlan_one]
      simp only [nth_zero, nth_succ]
      go_wp2_with fail
      go_at_call 32
      refine (HP5.out x1).mono ?_
      rintro e x3 ⟨a1, n1, rfl, hs, hb⟩
      have Kx3 : Hid (Below W.heap.size W x3) := Kx1.out.trans (hb.mono Kx1.out.size)
      have S0 := Lib.hid (S0.out.below hb)
      have S1 := Lib.hid hs
      clear hs hb
      go_wp2_with fail
      refine planPost_mk ⟨⟨x3, Kx3.out⟩, rfl⟩ ?_
      rw [wpPlan_one]
      simp only [nth_zero, nth_succ]
      go_wp2_with fail
      go_at_call 32
      refine (HP9.out x3).mono ?_
      rintro e x4 ⟨a2, n2, rfl, hs, hb⟩
      have Kx4 : Hid (Below W.heap.size W x4) := Kx3.out.trans (hb.mono Kx3.out.size)
      have S0 := Lib.hid (S0.out.below hb)
      have S1 := Lib.hid (S1.out.below hb)
      have S2 := Lib.hid hs
      clear hs hb
      go_wp2_with fail
      refine planPost_mk ⟨⟨x4, Kx4.out⟩, rfl⟩ ?_
      rw [wpPlan_one]
      simp only [nth_zero, nth_succ]
      have BS := bss4 x4 (some ⟨x0.heap.size, 0, none⟩) a1 a2 a 1 2 2 n 1 n1 n2 c
      have SS := Lib.hid (slsD S0.out S1.out S2.out (HDA.out.below Kx4.out))
      obtain ⟨x5, hx5⟩ : ∃ Y, x4.alloc (.cells #[.slice (some ⟨x0.heap.size, 0, none⟩) 1 1, .slice a1 2 n1, .slice a2 2 n2, .slice a n c] 22) = Y := ⟨_, rfl⟩
      have Kx5 : Hid (Below W.heap.size W x5) := by show Below _ _ _; rw [← hx5]; exact Kx4.out.trans ((below_new _ _).mono Kx4.out.size)
      rw [hx5] at BS SS
      have BS := Lib.hid BS
      clear hx5
      go_wp2_with ((with_reducible refine gate_build ?_); refine wpList_build_run _ _ _ rfl rfl _ _ rfl BS.out ?_)
      clear BS
      refine planPost_mk ⟨⟨x5, Kx5.out⟩, rfl⟩ ?_
      rw [wpPlan_one]
      simp only [nth_zero, nth_succ]
      go_wp2_with fail
      go_at_call 34
      refine (concat_own (W := w) SS.out HE.out HLn.out (Nat.le_trans HBW.out.size Kx5.out.size)).mono ?_
      rintro e x6 ⟨v, rfl, ho, hb⟩
      have HO := Lib.hid ho
      have Kx6 : Hid (Below W.heap.size W x6) := Kx5.out.trans (hb.mono Kx5.out.size)
      clear ho hb SS
      go_wp2_with fail
      refine planPost_mk ⟨⟨x6, Kx6.out⟩, rfl⟩ ?_
      rw [wpPlan_leaf]
      simp only [List.drop_succ_cons, List.drop_zero]
      go_wp2_with fail
      go_ret
      exact ⟨_, rfl, HO.out, HBW.out.trans (Kx6.out.mono HBW.out.size)⟩
    · simp only [nth_zero, nth_succ]
      go_wp2_with fail
      go_at_call 32
      refine (HP5.out x0).mono ?_
      rintro e x2 ⟨a1, n1, rfl, hs, hb⟩
      have Kx2 : Hid (Below W.heap.size W x2) := Kx0.out.trans (hb.mono Kx0.out.size)
      have S1 := Lib.hid hs
      clear hs hb
      go_wp2_with fail
      refine planPost_mk ⟨⟨x2, Kx2.out⟩, rfl⟩ ?_
      rw [wpPlan_two]
      refine ⟨?_, ?_⟩
      · simp only [nth_zero, nth_succ]
        have BS := slice_mark x2 2
        have OS := ownB_one W x2 Kx2.out.size 2
        obtain ⟨x7, hx7⟩ : ∃ Y, x2.alloc (.cells #[.int .u8 2] 5) = Y := ⟨_, rfl⟩
        have hb : Below x2.heap.size x2 x7 := by rw [← hx7]; exact below_new _ _
        rw [hx7] at BS OS
        have Kx7 : Hid (Below W.heap.size W x7) := Kx2.out.trans (hb.mono Kx2.out.size)
        have S1 := Lib.hid (S1.out.below hb)
        have S0 := Lib.hid OS.sl
        have BS := Lib.hid BS
        clear OS hx7 hb
        go_wp2_with ((with_reducible refine gate_build ?_); refine wpList_build_run _ _ _ rfl rfl _ _ rfl BS.out ?_)
        clear BS
        refine planPost_mk ⟨⟨x7, Kx7.out⟩, rfl⟩ ?_
        rw [wpPlan_one]
        simp only [nth_zero, nth_succ]
        go_wp2_with fail
        go_at_call 32
        refine (HP9.out x7).mono ?_
        rintro e x9 ⟨a2, n2, rfl, hs, hb⟩
        have Kx9 : Hid (Below W.heap.size W x9) := Kx7.out.trans (hb.mono Kx7.out.size)
        have S1 := Lib.hid (S1.out.below hb)
        have S0 := Lib.hid (S0.out.below hb)
        have S2 := Lib.hid hs
        clear hs hb
        go_wp2_with fail
        refine planPost_mk ⟨⟨x9, Kx9.out⟩, rfl⟩ ?_
        rw [wpPlan_one]
        simp only [nth_zero, nth_succ]
        have BS := bss4 x9 (some ⟨x2.heap.size, 0, none⟩) a1 a2 a 1 2 2 n 1 n1 n2 c
        have SS := Lib.hid (slsD S0.out S1.out S2.out (HDA.out.below Kx9.out))
        obtain ⟨x10, hx10⟩ : ∃ Y, x9.alloc (.cells #[.slice (some ⟨x2.heap.size, 0, none⟩) 1 1, .slice a1 2 n1, .slice a2 2 n2, .slice a n c] 22) = Y := ⟨_, rfl⟩
        have Kx10 : Hid (Below W.heap.size W x10) := by show Below _ _ _; rw [← hx10]; exact Kx9.out.trans ((below_new _ _).mono Kx9.out.size)
        rw [hx10] at BS SS
        have BS := Lib.hid BS
        clear hx10
        go_wp2_with ((with_reducible refine gate_build ?_); refine wpList_build_run _ _ _ rfl rfl _ _ rfl BS.out ?_)
        clear BS
        refine planPost_mk ⟨⟨x10, Kx10.out⟩, rfl⟩ ?_
        rw [wpPlan_one]
        simp only [nth_zero, nth_succ]
        go_wp2_with fail
        go_at_call 34
        refine (concat_own (W := w) SS.out HE.out HLn.out (Nat.le_trans HBW.out.size Kx10.out.size)).mono ?_
        rintro e x11 ⟨v, rfl, ho, hb⟩
        have HO := Lib.hid ho
        have Kx11 : Hid (Below W.heap.size W x11) := Kx10.out.trans (hb.mono Kx10.out.size)
        clear ho hb SS
        go_wp2_with fail
        refine planPost_mk ⟨⟨x11, Kx11.out⟩, rfl⟩ ?_
        rw [wpPlan_leaf]
        simp only [List.drop_succ_cons, List.drop_zero]
        go_wp2_with fail
        go_ret
        exact ⟨_, rfl, HO.out, HBW.out.trans (Kx11.out.mono HBW.out.size)⟩
      · simp only [nth_zero, nth_succ]
        go_wp2_with fail
        go_at_call 32
        refine (HP9.out x2).mono ?_
        rintro e x8 ⟨a2, n2, rfl, hs, hb⟩
        have Kx8 : Hid (Below W.heap.size W x8) := Kx2.out.trans (hb.mono Kx2.out.size)
        have S1 := Lib.hid (S1.out.below hb)
        have S2 := Lib.hid hs
        clear hs hb
        go_wp2_with fail
        refine planPost_mk ⟨⟨x8, Kx8.out⟩, rfl⟩ ?_
        rw [wpPlan_one]
        simp only [nth_zero, nth_succ]
        have BS := slice_mark x8 2
        have OS := ownB_one W x8 Kx8.out.size 2
        obtain ⟨x12, hx12⟩ : ∃ Y, x8.alloc (.cells #[.int .u8 2] 5) = Y := ⟨_, rfl⟩
        have hb : Below x8.heap.size x8 x12 := by rw [← hx12]; exact below_new _ _
        rw [hx12] at BS OS
        have Kx12 : Hid (Below W.heap.size W x12) := Kx8.out.trans (hb.mono Kx8.out.size)
        have S1 := Lib.hid (S1.out.below hb)
        have S2 := Lib.hid (S2.out.below hb)
        have S0 := Lib.hid OS.sl
        have BS := Lib.hid BS
        clear OS hx12 hb
        go_wp2_with ((with_reducible refine gate_build ?_); refine wpList_build_run _ _ _ rfl rfl _ _ rfl BS.out ?_)
        clear BS
        refine planPost_mk ⟨⟨x12, Kx12.out⟩, rfl⟩ ?_
        rw [wpPlan_one]
        simp only [nth_zero, nth_succ]
        have BS := bss4 x12 (some ⟨x8.heap.size, 0, none⟩) a1 a2 a 1 2 2 n 1 n1 n2 c
        have SS := Lib.hid (slsD S0.out S1.out S2.out (HDA.out.below Kx12.out))
        obtain ⟨x13, hx13⟩ : ∃ Y, x12.alloc (.cells #[.slice (some ⟨x8.heap.size, 0, none⟩) 1 1, .slice a1 2 n1, .slice a2 2 n2, .slice a n c] 22) = Y := ⟨_, rfl⟩
        have Kx13 : Hid (Below W.heap.size W x13) := by show Below _ _ _; rw [← hx13]; exact Kx12.out.trans ((below_new _ _).mono Kx12.out.size)
        rw [hx13] at BS SS
        have BS := Lib.hid BS
        clear hx13
        go_wp2_with ((with_reducible refine gate_build ?_); refine wpList_build_run _ _ _ rfl rfl _ _ rfl BS.out ?_)
        clear BS
        refine planPost_mk ⟨⟨x13, Kx13.out⟩, rfl⟩ ?_
        rw [wpPlan_one]
        simp only [nth_zero, nth_succ]
        go_wp2_with fail
        go_at_call 34
        refine (concat_own (W := w) SS.out HE.out HLn.out (Nat.le_trans HBW.out.size Kx13.out.size)).mono ?_
        rintro e x14 ⟨v, rfl, ho, hb⟩
        have HO := Lib.hid ho
        have Kx14 : Hid (Below W.heap.size W x14) := Kx13.out.trans (hb.mono Kx13.out.size)
        clear ho hb SS
        go_wp2_with fail
        refine planPost_mk ⟨⟨x14, Kx14.out⟩, rfl⟩ ?_
        rw [wpPlan_leaf]
        simp only [List.drop_succ_cons, List.drop_zero]
        go_wp2_with fail
        go_ret
        exact ⟨_, rfl, HO.out, HBW.out.trans (Kx14.out.mono HBW.out.size)⟩
  | false =>
    have HE : Hid ([[1], putL fr 2, putL ct 2, da].flatten = R) := HE0.out
    clear HE0
    go_enter Try.func31, Try.ntmps31
    go_wp2_with fail
    try rw [hW]
    try rw [hBB]
    clear d2 hW
    refine region_plan (fun x => ∃ y : Ext W, x = y.1) 14 (.takes [0, 2, 3, 4, 6, 7, 8, 10, 11] (.two 1 5 (.one 5 (.one 9 (.one 12 (.one 13 .leaf)))) (.two 1 9 (.one 9 (.one 12 (.one 13 .leaf))) (.one 1 (.one 12 (.one 13 .leaf)))))) hmx (by kernel_rfl) (by intro c x v a w h; cases x <;> exact h) ⟨⟨W.drew, KD.out⟩, rfl⟩ ?_
    rw [wpPlan_takes_cons]; simp only [nth_zero, nth_succ]; go_big_quiet_step (fail); refine wpQuiet_nil ?_
    rw [wpPlan_takes_cons]; simp only [nth_zero, nth_succ]; go_big_quiet_step (fail); refine wpQuiet_nil ?_
    rw [wpPlan_takes_cons]; simp only [nth_zero, nth_succ]; go_big_quiet_step (fail); refine wpQuiet_nil ?_
    rw [wpPlan_takes_cons]; simp only [nth_zero, nth_succ]; go_big_quiet_step (fail); refine wpQuiet_nil ?_
    rw [wpPlan_takes_cons]; simp only [nth_zero, nth_succ]; go_big_quiet_step (fail); refine wpQuiet_nil ?_
    rw [wpPlan_takes_cons]; simp only [nth_zero, nth_succ]; go_big_quiet_step (fail); refine wpQuiet_nil ?_
    rw [wpPlan_takes_cons]; simp only [nth_zero, nth_succ]; go_big_quiet_step (fail); refine wpQuiet_nil ?_
    rw [wpPlan_takes_cons]; simp only [nth_zero, nth_succ]; go_big_quiet_step (fail); refine wpQuiet_nil ?_
    rw [wpPlan_takes_cons]; simp only [nth_zero, nth_succ]; go_big_quiet_step (fail); refine wpQuiet_nil ?_
    rw [wpPlan_takes_nil]
    clear e0 e1 e3
    obtain ⟨x0, hx0⟩ : ∃ X, W.drew = X := ⟨_, rfl⟩
    rw [hx0] at KD
    try rw [hx0]
    have Kx0 := KD
    clear hx0 KD
    rw [wpPlan_two]
    refine ⟨?_, ?_⟩
    · simp only [nth_zero, nth_succ]
      have BS := slice_mark x0 1
      have OS := ownB_one W x0 Kx0.out.size 1
      obtain ⟨x1, hx1⟩ : ∃ Y, x0.alloc (.cells #[.int .u8 1] 5) = Y := ⟨_, rfl⟩
      have hb : Below x0.heap.size x0 x1 := by rw [← hx1]; exact below_new _ _
      rw [hx1] at BS OS
      have Kx1 : Hid (Below W.heap.size W x1) := Kx0.out.trans (hb.mono Kx0.out.size)
      have S0 := Lib.hid OS.sl
      have BS := Lib.hid BS
      clear OS hx1 hb
      go_wp2_with ((with_reducible refine gate_build ?_); refine wpList_build_run _ _ _ rfl rfl _ _ rfl BS.out ?_)
      clear BS
      refine planPost_mk ⟨⟨x1, Kx1.out⟩, rfl⟩ ?_
      rw [wpPlan_one]
      simp only [nth_zero, nth_succ]
      go_wp2_with fail
      go_at_call 32
      refine (HP5.out x1).mono ?_
      rintro e x3 ⟨a1, n1, rfl, hs, hb⟩
      have Kx3 : Hid (Below W.heap.size W x3) := Kx1.out.trans (hb.mono Kx1.out.size)
      have S0 := Lib.hid (S0.out.below hb)
      have S1 := Lib.hid hs
      clear hs hb
      go_wp2_with fail
      refine planPost_mk ⟨⟨x3, Kx3.out⟩, rfl⟩ ?_
      rw [wpPlan_one]
      simp only [nth_zero, nth_succ]
      go_wp2_with fail
      go_at_call 32
      refine (HP9.out x3).mono ?_
      rintro e x4 ⟨a2, n2, rfl, hs, hb⟩
      have Kx4 : Hid (Below W.heap.size W x4) := Kx3.out.trans (hb.mono Kx3.out.size)
      have S0 := Lib.hid (S0.out.below hb)
      have S1 := Lib.hid (S1.out.below hb)
      have S2 := Lib.hid hs
      clear hs hb
      go_wp2_with fail
      refine planPost_mk ⟨⟨x4, Kx4.out⟩, rfl⟩ ?_
      rw [wpPlan_one]
      simp only [nth_zero, nth_succ]
      have BS := bss4 x4 (some ⟨x0.heap.size, 0, none⟩) a1 a2 a 1 2 2 n 1 n1 n2 c
      have SS := Lib.hid (slsD S0.out S1.out S2.out (HDA.out.below Kx4.out))
      obtain ⟨x5, hx5⟩ : ∃ Y, x4.alloc (.cells #[.slice (some ⟨x0.heap.size, 0, none⟩) 1 1, .slice a1 2 n1, .slice a2 2 n2, .slice a n c] 22) = Y := ⟨_, rfl⟩
      have Kx5 : Hid (Below W.heap.size W x5) := by show Below _ _ _; rw [← hx5]; exact Kx4.out.trans ((below_new _ _).mono Kx4.out.size)
      rw [hx5] at BS SS
      have BS := Lib.hid BS
      clear hx5
      go_wp2_with ((with_reducible refine gate_build ?_); refine wpList_build_run _ _ _ rfl rfl _ _ rfl BS.out ?_)
      clear BS
      refine planPost_mk ⟨⟨x5, Kx5.out⟩, rfl⟩ ?_
      rw [wpPlan_one]
      simp only [nth_zero, nth_succ]
      go_wp2_with fail
      go_at_call 34
      refine (concat_own (W := w) SS.out HE.out HLn.out (Nat.le_trans HBW.out.size Kx5.out.size)).mono ?_
      rintro e x6 ⟨v, rfl, ho, hb⟩
      have HO := Lib.hid ho
      have Kx6 : Hid (Below W.heap.size W x6) := Kx5.out.trans (hb.mono Kx5.out.size)
      clear ho hb SS
      go_wp2_with fail
      refine planPost_mk ⟨⟨x6, Kx6.out⟩, rfl⟩ ?_
      rw [wpPlan_leaf]
      simp only [List.drop_succ_cons, List.drop_zero]
      go_wp2_with fail
      go_ret
      exact ⟨_, rfl, HO.out, HBW.out.trans (Kx6.out.mono HBW.out.size)⟩
    · simp only [nth_zero, nth_succ]
      go_wp2_with fail
      go_at_call 32
      refine (HP5.out x0).mono ?_
      rintro e x2 ⟨a1, n1, rfl, hs, hb⟩
      have Kx2 : Hid (Below W.heap.size W x2) := Kx0.out.trans (hb.mono Kx0.out.size)
      have S1 := Lib.hid hs
      clear hs hb
      go_wp2_with fail
      refine planPost_mk ⟨⟨x2, Kx2.out⟩, rfl⟩ ?_
      rw [wpPlan_two]
      refine ⟨?_, ?_⟩
      · simp only [nth_zero, nth_succ]
        have BS := slice_mark x2 1
        have OS := ownB_one W x2 Kx2.out.size 1
        obtain ⟨x7, hx7⟩ : ∃ Y, x2.alloc (.cells #[.int .u8 1] 5) = Y := ⟨_, rfl⟩
        have hb : Below x2.heap.size x2 x7 := by rw [← hx7]; exact below_new _ _
        rw [hx7] at BS OS
        have Kx7 : Hid (Below W.heap.size W x7) := Kx2.out.trans (hb.mono Kx2.out.size)
        have S1 := Lib.hid (S1.out.below hb)
        have S0 := Lib.hid OS.sl
        have BS := Lib.hid BS
        clear OS hx7 hb
        go_wp2_with ((with_reducible refine gate_build ?_); refine wpList_build_run _ _ _ rfl rfl _ _ rfl BS.out ?_)
        clear BS
        refine planPost_mk ⟨⟨x7, Kx7.out⟩, rfl⟩ ?_
        rw [wpPlan_one]
        simp only [nth_zero, nth_succ]
        go_wp2_with fail
        go_at_call 32
        refine (HP9.out x7).mono ?_
        rintro e x9 ⟨a2, n2, rfl, hs, hb⟩
        have Kx9 : Hid (Below W.heap.size W x9) := Kx7.out.trans (hb.mono Kx7.out.size)
        have S1 := Lib.hid (S1.out.below hb)
        have S0 := Lib.hid (S0.out.below hb)
        have S2 := Lib.hid hs
        clear hs hb
        go_wp2_with fail
        refine planPost_mk ⟨⟨x9, Kx9.out⟩, rfl⟩ ?_
        rw [wpPlan_one]
        simp only [nth_zero, nth_succ]
        have BS := bss4 x9 (some ⟨x2.heap.size, 0, none⟩) a1 a2 a 1 2 2 n 1 n1 n2 c
        have SS := Lib.hid (slsD S0.out S1.out S2.out (HDA.out.below Kx9.out))
        obtain ⟨x10, hx10⟩ : ∃ Y, x9.alloc (.cells #[.slice (some ⟨x2.heap.size, 0, none⟩) 1 1, .slice a1 2 n1, .slice a2 2 n2, .slice a n c] 22) = Y := ⟨_, rfl⟩
        have Kx10 : Hid (Below W.heap.size W x10) := by show Below _ _ _; rw [← hx10]; exact Kx9.out.trans ((below_new _ _).mono Kx9.out.size)
        rw [hx10] at BS SS
        have BS := Lib.hid BS
        clear hx10
        go_wp2_with ((with_reducible refine gate_build ?_); refine wpList_build_run _ _ _ rfl rfl _ _ rfl BS.out ?_)
        clear BS
        refine planPost_mk ⟨⟨x10, Kx10.out⟩, rfl⟩ ?_
        rw [wpPlan_one]
        simp only [nth_zero, nth_succ]
        go_wp2_with fail
        go_at_call 34
        refine (concat_own (W := w) SS.out HE.out HLn.out (Nat.le_trans HBW.out.size Kx10.out.size)).mono ?_
        rintro e x11 ⟨v, rfl, ho, hb⟩
        have HO := Lib.hid ho
        have Kx11 : Hid (Below W.heap.size W x11) := Kx10.out.trans (hb.mono Kx10.out.size)
        clear ho hb SS
        go_wp2_with fail
        refine planPost_mk ⟨⟨x11, Kx11.out⟩, rfl⟩ ?_
        rw [wpPlan_leaf]
        simp only [List.drop_succ_cons, List.drop_zero]
        go_wp2_with fail
        go_ret
        exact ⟨_, rfl, HO.out, HBW.out.trans (Kx11.out.mono HBW.out.size)⟩
      · simp only [nth_zero, nth_succ]
        go_wp2_with fail
        go_at_call 32
        refine (HP9.out x2).mono ?_
        rintro e x8 ⟨a2, n2, rfl, hs, hb⟩
        have Kx8 : Hid (Below W.heap.size W x8) := Kx2.out.trans (hb.mono Kx2.out.size)
        have S1 := Lib.hid (S1.out.below hb)
        have S2 := Lib.hid hs
        clear hs hb
        go_wp2_with fail
        refine planPost_mk ⟨⟨x8, Kx8.out⟩, rfl⟩ ?_
        rw [wpPlan_one]
        simp only [nth_zero, nth_succ]
        have BS := slice_mark x8 1
        have OS := ownB_one W x8 Kx8.out.size 1
        obtain ⟨x12, hx12⟩ : ∃ Y, x8.alloc (.cells #[.int .u8 1] 5) = Y := ⟨_, rfl⟩
        have hb : Below x8.heap.size x8 x12 := by rw [← hx12]; exact below_new _ _
        rw [hx12] at BS OS
        have Kx12 : Hid (Below W.heap.size W x12) := Kx8.out.trans (hb.mono Kx8.out.size)
        have S1 := Lib.hid (S1.out.below hb)
        have S2 := Lib.hid (S2.out.below hb)
        have S0 := Lib.hid OS.sl
        have BS := Lib.hid BS
        clear OS hx12 hb
        go_wp2_with ((with_reducible refine gate_build ?_); refine wpList_build_run _ _ _ rfl rfl _ _ rfl BS.out ?_)
        clear BS
        refine planPost_mk ⟨⟨x12, Kx12.out⟩, rfl⟩ ?_
        rw [wpPlan_one]
        simp only [nth_zero, nth_succ]
        have BS := bss4 x12 (some ⟨x8.heap.size, 0, none⟩) a1 a2 a 1 2 2 n 1 n1 n2 c
        have SS := Lib.hid (slsD S0.out S1.out S2.out (HDA.out.below Kx12.out))
        obtain ⟨x13, hx13⟩ : ∃ Y, x12.alloc (.cells #[.slice (some ⟨x8.heap.size, 0, none⟩) 1 1, .slice a1 2 n1, .slice a2 2 n2, .slice a n c] 22) = Y := ⟨_, rfl⟩
        have Kx13 : Hid (Below W.heap.size W x13) := by show Below _ _ _; rw [← hx13]; exact Kx12.out.trans ((below_new _ _).mono Kx12.out.size)
        rw [hx13] at BS SS
        have BS := Lib.hid BS
        clear hx13
        go_wp2_with ((with_reducible refine gate_build ?_); refine wpList_build_run _ _ _ rfl rfl _ _ rfl BS.out ?_)
        clear BS
        refine planPost_mk ⟨⟨x13, Kx13.out⟩, rfl⟩ ?_
        rw [wpPlan_one]
        simp only [nth_zero, nth_succ]
        go_wp2_with fail
        go_at_call 34
        refine (concat_own (W := w) SS.out HE.out HLn.out (Nat.le_trans HBW.out.size Kx13.out.size)).mono ?_
        rintro e x14 ⟨v, rfl, ho, hb⟩
        have HO := Lib.hid ho
        have Kx14 : Hid (Below W.heap.size W x14) := Kx13.out.trans (hb.mono Kx13.out.size)
        clear ho hb SS
        go_wp2_with fail
        refine planPost_mk ⟨⟨x14, Kx14.out⟩, rfl⟩ ?_
        rw [wpPlan_leaf]
        simp only [List.drop_succ_cons, List.drop_zero]
        go_wp2_with fail
        go_ret
        exact ⟨_, rfl, HO.out, HBW.out.trans (Kx14.out.mono HBW.out.size)⟩
end Go.Proofs.Ytfihpljgbghogaa

/- The developers' stream: head. -/
namespace Go.Proofs.Ytfihpljgbghogaa
open Go.RowKit Go.Shelf
set_option linter.unusedVariables false
set_option linter.unusedSimpArgs false
attribute [-simp] Try.isAgg49 Try.zeroValue49 Try.isAgg26 Try.zeroValue26
attribute [-go_sem] loadVar storeVar
attribute [local go_sem] loadVar_openRS storeVar_openRS zero_rc zero_sm

set_option maxRecDepth 100000 in
set_option maxHeartbeats 20000000 in
/-- **head**. -/
theorem sm_headB {s : SM} {v : SlV} {w : World} (hh : hdOk s.bl s.ba s.id) (hn : v.2.1 = s.re.length) (hl : s.re.length ≤ 1000) :
    Calls Try.prog 29 #[smV s.bl s.ba s.id v] w fun e w' => ∃ u, e = .returned u ∧ OwnB w w' u (hdB s) ∧ Below w.heap.size w w' := by
  have hmx : Try.prog.follows .mixedOrders = true := by kernel_rfl
  obtain ⟨a, n, c⟩ := v
  simp only at hn
  have HE0 : Hid ([[82, 86, 83, 49], putL s.bl 2, putL (s.ba + 1) 4, putL s.id 4, putL (s.re.length : Int) 2].flatten = hdB s) := by show _ = _; simp [hdB]
  have HLn : Hid ((hdB s).length ≤ 1000000) := by show _ ≤ _; rw [hdB_length]; omega
  obtain ⟨R, hR⟩ : ∃ R, hdB s = R := ⟨_, rfl⟩
  rw [hR] at HE0 HLn ⊢
  clear hR
  rw [← hn] at HE0 hl
  obtain ⟨bl, ba, id, re⟩ := s
  simp only at hh hn HE0 hl
  obtain ⟨h1, h2, h3, h4, h5⟩ := hh
  have hb0 : -1 ≤ ba := by omega
  have hb1 : ba ≤ 1000000 := by omega
  have w1 : wrap64 (ba + 1) = ba + 1 := IntWalk.wrap64_in _ (by omega)
  have hb2 : 0 ≤ ba + 1 := by omega
  have hb3 : ba + 1 ≤ 1000001 := by omega
  have HE : Hid _ := HE0
  have HP5 : Hid (∀ x : World, Calls Try.prog 32 #[.int .u64 bl, .int .i64 2] x fun e w' => ∃ a c, e = .returned (.slice a 2 c) ∧ Sl .u8 w' (.slice a 2 c) (putL bl 2) ∧ Below x.heap.size x w') := fun x => put_sl (x := x) bl 2 (by omega) (by omega) (by omega) (by omega)
  have HP10 : Hid (∀ x : World, Calls Try.prog 32 #[.int .u64 (ba + 1), .int .i64 4] x fun e w' => ∃ a c, e = .returned (.slice a 4 c) ∧ Sl .u8 w' (.slice a 4 c) (putL (ba + 1) 4) ∧ Below x.heap.size x w') := fun x => put_sl (x := x) (ba + 1) 4 (by omega) (by omega) (by omega) (by omega)
  have HP14 : Hid (∀ x : World, Calls Try.prog 32 #[.int .u64 id, .int .i64 4] x fun e w' => ∃ a c, e = .returned (.slice a 4 c) ∧ Sl .u8 w' (.slice a 4 c) (putL id 4) ∧ Below x.heap.size x w') := fun x => put_sl (x := x) id 4 (by omega) (by omega) (by omega) (by omega)
  have HP19 : Hid (∀ x : World, Calls Try.prog 32 #[.int .u64 (n : Int), .int .i64 2] x fun e w' => ∃ a c, e = .returned (.slice a 2 c) ∧ Sl .u8 w' (.slice a 2 c) (putL (n : Int) 2) ∧ Below x.heap.size x w') := fun x => put_sl (x := x) (n : Int) 2 (by omega) (by omega) (by omega) (by omega)
  obtain ⟨W, hW⟩ : ∃ W, w.alloc (.cells #[.int .i64 bl, .int .i64 ba, .int .i64 id, .slice a n c] 26) = W := ⟨_, rfl⟩
  have r : RowC W w.heap.size 26 [.int .i64 bl, .int .i64 ba, .int .i64 id, .slice a n c] := by rw [← hW]; exact RowC.new w _ _
  have HBW : Hid (Below w.heap.size w W) := by show Below _ _ _; rw [← hW]; exact below_new w _
  obtain ⟨B, hBB⟩ : ∃ B, w.heap.size = B := ⟨_, rfl⟩
  rw [hBB] at r
  have e0 : ∀ z : Ext W, z.1.cell? ⟨B, 0, none⟩ = some (.int .i64 bl) := fun z => (r.below z.2).cell 0 _ rfl
  have e1 : ∀ z : Ext W, z.1.cell? ⟨B, 1, none⟩ = some (.int .i64 ba) := fun z => (r.below z.2).cell 1 _ rfl
  have e2 : ∀ z : Ext W, z.1.cell? ⟨B, 2, none⟩ = some (.int .i64 id) := fun z => (r.below z.2).cell 2 _ rfl
  have e3 : ∀ z : Ext W, z.1.cell? ⟨B, 3, none⟩ = some (.slice a n c) := fun z => (r.below z.2).cell 3 _ rfl
  have KD : Hid (Below W.heap.size W W.drew) := (Below.refl _ W).drew
  simp only [smV, slV]
  clear r HE0 hn h5
  go_enter Try.func29, Try.ntmps29
  go_wp2_with fail
  try rw [hW]
  try rw [hBB]
  clear hW
  refine region_plan (fun x => ∃ y : Ext W, x = y.1) 22 (.takes [2, 3, 4, 6, 7, 8, 9, 11, 12, 13, 15, 16, 17, 18] (.two 0 5 (.two 1 5 (.one 5 (.one 10 (.one 14 (.one 19 (.one 20 (.one 21 .leaf)))))) (.two 1 10 (.one 10 (.one 14 (.one 19 (.one 20 (.one 21 .leaf))))) (.two 1 14 (.one 14 (.one 19 (.one 20 (.one 21 .leaf)))) (.two 1 19 (.one 19 (.one 20 (.one 21 .leaf))) (.one 1 (.one 20 (.one 21 .leaf))))))) (.two 0 10 (.two 1 10 (.one 10 (.one 14 (.one 19 (.one 20 (.one 21 .leaf))))) (.two 1 14 (.one 14 (.one 19 (.one 20 (.one 21 .leaf)))) (.two 1 19 (.one 19 (.one 20 (.one 21 .leaf))) (.one 1 (.one 20 (.one 21 .leaf)))))) (.two 0 14 (.two 1 14 (.one 14 (.one 19 (.one 20 (.one 21 .leaf)))) (.two 1 19 (.one 19 (.one 20 (.one 21 .leaf))) (.one 1 (.one 20 (.one 21 .leaf))))) (.two 0 19 (.two 1 19 (.one 19 (.one 20 (.one 21 .leaf))) (.one 1 (.one 20 (.one 21 .leaf)))) (.one 0 (.one 1 (.one 20 (.one 21 .leaf))))))))) hmx (by kernel_rfl) (by intro c x v a w h; cases x <;> exact h) ⟨⟨W.drew, KD.out⟩, rfl⟩ ?_
  repeat (rw [wpPlan_takes_cons]; simp only [nth_zero, nth_succ]; go_big_quiet_step (fail); refine wpQuiet_nil ?_)
  rw [wpPlan_takes_nil]
  clear e0 e1 e2 e3 w1
  obtain ⟨x0, hx0⟩ : ∃ x, W.drew = x := ⟨_, rfl⟩
  rw [hx0] at KD
  try rw [hx0]
  have K0 := KD
  clear hx0 KD h1 h2 h3 h4 hb0 hb1 hb2 hb3 hl
  refine plan_have (ι := Nat × Option Addr × Nat × Option Addr × Nat × Option Addr × Nat × Option Addr × Nat) (.one 20 (.one 21 .leaf)) (fun i => { tmps := #[.agg #[.int .i64 bl, .int .i64 ba, .int .i64 id, .slice a n c], .pointer (some ⟨B, 0, none⟩), .slice none 0 0, .slice (some ⟨i.1, 0, none⟩) 4 4, .slice (some ⟨i.1, 0, none⟩) 4 4, .pointer (some ⟨B, 0, none⟩), .int .i64 bl, .int .u64 bl, .slice i.2.1 2 i.2.2.1, .pointer (some ⟨B, 1, none⟩), .int .i64 ba, .int .i64 (ba + 1), .int .u64 (ba + 1), .slice i.2.2.2.1 4 i.2.2.2.2.1, .pointer (some ⟨B, 2, none⟩), .int .i64 id, .int .u64 id, .slice i.2.2.2.2.2.1 4 i.2.2.2.2.2.2.1, .pointer (some ⟨B, 3, none⟩), .slice a n c, .int .i64 (n : Int), .int .u64 (n : Int), .slice i.2.2.2.2.2.2.2.1 2 i.2.2.2.2.2.2.2.2, undef, undef], defers := [] }) (fun i x => Hid (Below W.heap.size W x) ∧ Hid (AllSl x [(.slice i.2.2.2.2.2.2.2.1 2 i.2.2.2.2.2.2.2.2, putL (n : Int) 2), (.slice i.2.2.2.2.2.1 4 i.2.2.2.2.2.2.1, putL id 4), (.slice i.2.2.2.1 4 i.2.2.2.2.1, putL (ba + 1) 4), (.slice i.2.1 2 i.2.2.1, putL bl 2)]) ∧ Hid (Sl .u8 x (.slice (some ⟨i.1, 0, none⟩) 4 4) [82, 86, 83, 49])) ?_ ?_
  · rintro ⟨L, a1, n1, a2, n2, a3, n3, a4, n4⟩ x ⟨K, S, Z⟩
    try dsimp only
    try dsimp only at S Z
    as_aux_lemma =>
      rw [wpPlan_one]
      simp only [nth_zero, nth_succ]
      have BS := bss5 x (some ⟨L, 0, none⟩) a1 a2 a3 a4 4 2 4 4 2 4 n1 n2 n3 n4
      have SS := Lib.hid (sls5 Z.out (S.out (.slice a1 2 n1, putL bl 2) (by simp)) (S.out (.slice a2 4 n2, putL (ba + 1) 4) (by simp)) (S.out (.slice a3 4 n3, putL id 4) (by simp)) (S.out (.slice a4 2 n4, putL (n : Int) 2) (by simp)))
      obtain ⟨x1, hx⟩ : ∃ y, x.alloc (.cells #[.slice (some ⟨L, 0, none⟩) 4 4, .slice a1 2 n1, .slice a2 4 n2, .slice a3 4 n3, .slice a4 2 n4] 22) = y := ⟨_, rfl⟩
      have K1 : Hid (Below W.heap.size W x1) := by show Below _ _ _; rw [← hx]; exact K.out.trans ((below_new _ _).mono K.out.size)
      rw [hx] at BS SS
      clear hx S Z
      refine wpList_build_run _ _ _ rfl rfl _ _ rfl BS ?_
      clear BS
      go_wp2_with fail
      refine planPost_mk ⟨⟨x1, K1.out⟩, rfl⟩ ?_
      rw [wpPlan_one]
      simp only [nth_zero, nth_succ]
      go_wp2_with fail
      go_at_call 34
      refine (concat_own (W := w) SS.out HE.out HLn.out (Nat.le_trans HBW.out.size K1.out.size)).mono ?_
      rintro e y ⟨v, rfl, ho, hb⟩
      have HO := Lib.hid ho
      have K2 : Hid (Below W.heap.size W y) := K1.out.trans (hb.mono K1.out.size)
      clear ho hb SS
      go_wp2_with fail
      refine planPost_mk ⟨⟨y, K2.out⟩, rfl⟩ ?_
      rw [wpPlan_leaf]
      simp only [List.drop_succ_cons, List.drop_zero]
      go_wp2_with fail
      go_ret
      exact ⟨_, rfl, HO.out, HBW.out.trans (K2.out.mono HBW.out.size)⟩
  intro T42
  refine plan_have (ι := Nat × Option Addr × Nat × Option Addr × Nat × Option Addr × Nat) (.one 19 (.one 20 (.one 21 .leaf))) (fun i => { tmps := #[.agg #[.int .i64 bl, .int .i64 ba, .int .i64 id, .slice a n c], .pointer (some ⟨B, 0, none⟩), .slice none 0 0, .slice (some ⟨i.1, 0, none⟩) 4 4, .slice (some ⟨i.1, 0, none⟩) 4 4, .pointer (some ⟨B, 0, none⟩), .int .i64 bl, .int .u64 bl, .slice i.2.1 2 i.2.2.1, .pointer (some ⟨B, 1, none⟩), .int .i64 ba, .int .i64 (ba + 1), .int .u64 (ba + 1), .slice i.2.2.2.1 4 i.2.2.2.2.1, .pointer (some ⟨B, 2, none⟩), .int .i64 id, .int .u64 id, .slice i.2.2.2.2.2.1 4 i.2.2.2.2.2.2, .pointer (some ⟨B, 3, none⟩), .slice a n c, .int .i64 (n : Int), .int .u64 (n : Int), undef, undef, undef], defers := [] }) (fun i x => Hid (Below W.heap.size W x) ∧ Hid (AllSl x [(.slice i.2.2.2.2.2.1 4 i.2.2.2.2.2.2, putL id 4), (.slice i.2.2.2.1 4 i.2.2.2.2.1, putL (ba + 1) 4), (.slice i.2.1 2 i.2.2.1, putL bl 2)]) ∧ Hid (Sl .u8 x (.slice (some ⟨i.1, 0, none⟩) 4 4) [82, 86, 83, 49])) ?_ ?_
  · rintro ⟨L, a1, n1, a2, n2, a3, n3⟩ x ⟨K, S, Z⟩
    try dsimp only
    try dsimp only at S Z
    as_aux_lemma =>
      rw [wpPlan_one]
      simp only [nth_zero, nth_succ]
      go_wp2_with fail
      go_at_call 32
      refine (HP19.out _).mono ?_
      rintro e x1 ⟨a4, n4, rfl, hs, hb⟩
      have K1 : Hid (Below W.heap.size W x1) := K.out.trans (hb.mono K.out.size)
      have S1 := Lib.hid (S.out.put hb hs)
      have Z1 := Lib.hid (Z.out.below hb)
      clear hs hb
      go_wp2_with fail
      refine planPost_mk ⟨⟨x1, K1.out⟩, rfl⟩ ?_
      exact T42 (L, a1, n1, a2, n2, a3, n3, a4, n4) x1 ⟨K1, S1, Z1⟩
  intro T32
  refine plan_have (ι := Nat × Option Addr × Nat × Option Addr × Nat) (.one 14 (.one 19 (.one 20 (.one 21 .leaf)))) (fun i => { tmps := #[.agg #[.int .i64 bl, .int .i64 ba, .int .i64 id, .slice a n c], .pointer (some ⟨B, 0, none⟩), .slice none 0 0, .slice (some ⟨i.1, 0, none⟩) 4 4, .slice (some ⟨i.1, 0, none⟩) 4 4, .pointer (some ⟨B, 0, none⟩), .int .i64 bl, .int .u64 bl, .slice i.2.1 2 i.2.2.1, .pointer (some ⟨B, 1, none⟩), .int .i64 ba, .int .i64 (ba + 1), .int .u64 (ba + 1), .slice i.2.2.2.1 4 i.2.2.2.2, .pointer (some ⟨B, 2, none⟩), .int .i64 id, .int .u64 id, undef, .pointer (some ⟨B, 3, none⟩), .slice a n c, .int .i64 (n : Int), .int .u64 (n : Int), undef, undef, undef], defers := [] }) (fun i x => Hid (Below W.heap.size W x) ∧ Hid (AllSl x [(.slice i.2.2.2.1 4 i.2.2.2.2, putL (ba + 1) 4), (.slice i.2.1 2 i.2.2.1, putL bl 2)]) ∧ Hid (Sl .u8 x (.slice (some ⟨i.1, 0, none⟩) 4 4) [82, 86, 83, 49])) ?_ ?_
  · rintro ⟨L, a1, n1, a2, n2⟩ x ⟨K, S, Z⟩
    try dsimp only
    try dsimp only at S Z
    as_aux_lemma =>
      rw [wpPlan_one]
      simp only [nth_zero, nth_succ]
      go_wp2_with fail
      go_at_call 32
      refine (HP14.out _).mono ?_
      rintro e x1 ⟨a3, n3, rfl, hs, hb⟩
      have K1 : Hid (Below W.heap.size W x1) := K.out.trans (hb.mono K.out.size)
      have S1 := Lib.hid (S.out.put hb hs)
      have Z1 := Lib.hid (Z.out.below hb)
      clear hs hb
      go_wp2_with fail
      refine planPost_mk ⟨⟨x1, K1.out⟩, rfl⟩ ?_
      exact T32 (L, a1, n1, a2, n2, a3, n3) x1 ⟨K1, S1, Z1⟩
  intro T22
  refine plan_have (ι := Nat × Option Addr × Nat) (.one 10 (.one 14 (.one 19 (.one 20 (.one 21 .leaf))))) (fun i => { tmps := #[.agg #[.int .i64 bl, .int .i64 ba, .int .i64 id, .slice a n c], .pointer (some ⟨B, 0, none⟩), .slice none 0 0, .slice (some ⟨i.1, 0, none⟩) 4 4, .slice (some ⟨i.1, 0, none⟩) 4 4, .pointer (some ⟨B, 0, none⟩), .int .i64 bl, .int .u64 bl, .slice i.2.1 2 i.2.2, .pointer (some ⟨B, 1, none⟩), .int .i64 ba, .int .i64 (ba + 1), .int .u64 (ba + 1), undef, .pointer (some ⟨B, 2, none⟩), .int .i64 id, .int .u64 id, undef, .pointer (some ⟨B, 3, none⟩), .slice a n c, .int .i64 (n : Int), .int .u64 (n : Int), undef, undef, undef], defers := [] }) (fun i x => Hid (Below W.heap.size W x) ∧ Hid (AllSl x [(.slice i.2.1 2 i.2.2, putL bl 2)]) ∧ Hid (Sl .u8 x (.slice (some ⟨i.1, 0, none⟩) 4 4) [82, 86, 83, 49])) ?_ ?_
  · rintro ⟨L, a1, n1⟩ x ⟨K, S, Z⟩
    try dsimp only
    try dsimp only at S Z
    as_aux_lemma =>
      rw [wpPlan_one]
      simp only [nth_zero, nth_succ]
      go_wp2_with fail
      go_at_call 32
      refine (HP10.out _).mono ?_
      rintro e x1 ⟨a2, n2, rfl, hs, hb⟩
      have K1 : Hid (Below W.heap.size W x1) := K.out.trans (hb.mono K.out.size)
      have S1 := Lib.hid (S.out.put hb hs)
      have Z1 := Lib.hid (Z.out.below hb)
      clear hs hb
      go_wp2_with fail
      refine planPost_mk ⟨⟨x1, K1.out⟩, rfl⟩ ?_
      exact T22 (L, a1, n1, a2, n2) x1 ⟨K1, S1, Z1⟩
  intro T12
  refine plan_have (ι := Nat) (.one 5 (.one 10 (.one 14 (.one 19 (.one 20 (.one 21 .leaf)))))) (fun i => { tmps := #[.agg #[.int .i64 bl, .int .i64 ba, .int .i64 id, .slice a n c], .pointer (some ⟨B, 0, none⟩), .slice none 0 0, .slice (some ⟨i, 0, none⟩) 4 4, .slice (some ⟨i, 0, none⟩) 4 4, .pointer (some ⟨B, 0, none⟩), .int .i64 bl, .int .u64 bl, undef, .pointer (some ⟨B, 1, none⟩), .int .i64 ba, .int .i64 (ba + 1), .int .u64 (ba + 1), undef, .pointer (some ⟨B, 2, none⟩), .int .i64 id, .int .u64 id, undef, .pointer (some ⟨B, 3, none⟩), .slice a n c, .int .i64 (n : Int), .int .u64 (n : Int), undef, undef, undef], defers := [] }) (fun i x => Hid (Below W.heap.size W x) ∧ Hid (AllSl x []) ∧ Hid (Sl .u8 x (.slice (some ⟨i, 0, none⟩) 4 4) [82, 86, 83, 49])) ?_ ?_
  · rintro L x ⟨K, S, Z⟩
    try dsimp only
    try dsimp only at S Z
    as_aux_lemma =>
      rw [wpPlan_one]
      simp only [nth_zero, nth_succ]
      go_wp2_with fail
      go_at_call 32
      refine (HP5.out _).mono ?_
      rintro e x1 ⟨a1, n1, rfl, hs, hb⟩
      have K1 : Hid (Below W.heap.size W x1) := K.out.trans (hb.mono K.out.size)
      have S1 := Lib.hid (S.out.put hb hs)
      have Z1 := Lib.hid (Z.out.below hb)
      clear hs hb
      go_wp2_with fail
      refine planPost_mk ⟨⟨x1, K1.out⟩, rfl⟩ ?_
      exact T12 (L, a1, n1) x1 ⟨K1, S1, Z1⟩
  intro T02
  refine plan_have (ι := Nat × Option Addr × Nat × Option Addr × Nat × Option Addr × Nat × Option Addr × Nat) (.one 1 (.one 20 (.one 21 .leaf))) (fun i => { tmps := #[.agg #[.int .i64 bl, .int .i64 ba, .int .i64 id, .slice a n c], .pointer (some ⟨B, 0, none⟩), .slice none 0 0, .slice (some ⟨i.1, 0, none⟩) 4 4, undef, .pointer (some ⟨B, 0, none⟩), .int .i64 bl, .int .u64 bl, .slice i.2.1 2 i.2.2.1, .pointer (some ⟨B, 1, none⟩), .int .i64 ba, .int .i64 (ba + 1), .int .u64 (ba + 1), .slice i.2.2.2.1 4 i.2.2.2.2.1, .pointer (some ⟨B, 2, none⟩), .int .i64 id, .int .u64 id, .slice i.2.2.2.2.2.1 4 i.2.2.2.2.2.2.1, .pointer (some ⟨B, 3, none⟩), .slice a n c, .int .i64 (n : Int), .int .u64 (n : Int), .slice i.2.2.2.2.2.2.2.1 2 i.2.2.2.2.2.2.2.2, undef, undef], defers := [] }) (fun i x => Hid (Below W.heap.size W x) ∧ Hid (AllSl x [(.slice i.2.2.2.2.2.2.2.1 2 i.2.2.2.2.2.2.2.2, putL (n : Int) 2), (.slice i.2.2.2.2.2.1 4 i.2.2.2.2.2.2.1, putL id 4), (.slice i.2.2.2.1 4 i.2.2.2.2.1, putL (ba + 1) 4), (.slice i.2.1 2 i.2.2.1, putL bl 2)]) ∧ Hid (W.heap.size ≤ i.1 ∧ x.heap[i.1]? = some (.cells (u8s [82, 86, 83, 49]).toArray 5 (0, 0)))) ?_ ?_
  · rintro ⟨L, a1, n1, a2, n2, a3, n3, a4, n4⟩ x ⟨K, S, Z⟩
    try dsimp only
    try dsimp only at S Z
    as_aux_lemma =>
      rw [wpPlan_one]
      simp only [nth_zero, nth_succ]
      obtain ⟨x1, CV, hbl, hsz, hcs⟩ := conv_mark x L (u8s [82, 86, 83, 49]).toArray 4 4 Z.out.2
      have K1 : Hid (Below W.heap.size W x1) := K.out.trans (hbl.mono Z.out.1)
      have S1 := Lib.hid (S.out.cells hsz hcs)
      have Z1 : Hid (Sl .u8 x1 (.slice (some ⟨L, 0, none⟩) 4 4) [82, 86, 83, 49]) := (sl_new (g := L) (xs := [82, 86, 83, 49]) Z.out.2 (by simp [maxLen])).cells hsz hcs
      clear hbl hsz hcs
      go_wp2_with fail
      refine planPost_mk ⟨⟨x1, K1.out⟩, rfl⟩ ?_
      exact T42 (L, a1, n1, a2, n2, a3, n3, a4, n4) x1 ⟨K1, S1, Z1⟩
  intro T41
  refine plan_have (ι := Nat × Option Addr × Nat × Option Addr × Nat × Option Addr × Nat) (.two 1 19 (.one 19 (.one 20 (.one 21 .leaf))) (.one 1 (.one 20 (.one 21 .leaf)))) (fun i => { tmps := #[.agg #[.int .i64 bl, .int .i64 ba, .int .i64 id, .slice a n c], .pointer (some ⟨B, 0, none⟩), .slice none 0 0, .slice (some ⟨i.1, 0, none⟩) 4 4, undef, .pointer (some ⟨B, 0, none⟩), .int .i64 bl, .int .u64 bl, .slice i.2.1 2 i.2.2.1, .pointer (some ⟨B, 1, none⟩), .int .i64 ba, .int .i64 (ba + 1), .int .u64 (ba + 1), .slice i.2.2.2.1 4 i.2.2.2.2.1, .pointer (some ⟨B, 2, none⟩), .int .i64 id, .int .u64 id, .slice i.2.2.2.2.2.1 4 i.2.2.2.2.2.2, .pointer (some ⟨B, 3, none⟩), .slice a n c, .int .i64 (n : Int), .int .u64 (n : Int), undef, undef, undef], defers := [] }) (fun i x => Hid (Below W.heap.size W x) ∧ Hid (AllSl x [(.slice i.2.2.2.2.2.1 4 i.2.2.2.2.2.2, putL id 4), (.slice i.2.2.2.1 4 i.2.2.2.2.1, putL (ba + 1) 4), (.slice i.2.1 2 i.2.2.1, putL bl 2)]) ∧ Hid (W.heap.size ≤ i.1 ∧ x.heap[i.1]? = some (.cells (u8s [82, 86, 83, 49]).toArray 5 (0, 0)))) ?_ ?_
  · rintro ⟨L, a1, n1, a2, n2, a3, n3⟩ x ⟨K, S, Z⟩
    try dsimp only
    try dsimp only at S Z
    as_aux_lemma =>
      rw [wpPlan_two]
      refine ⟨?_, ?_⟩
      · skip
        simp only [nth_zero, nth_succ]
        obtain ⟨x1, CV, hbl, hsz, hcs⟩ := conv_mark x L (u8s [82, 86, 83, 49]).toArray 4 4 Z.out.2
        have K1 : Hid (Below W.heap.size W x1) := K.out.trans (hbl.mono Z.out.1)
        have S1 := Lib.hid (S.out.cells hsz hcs)
        have Z1 : Hid (Sl .u8 x1 (.slice (some ⟨L, 0, none⟩) 4 4) [82, 86, 83, 49]) := (sl_new (g := L) (xs := [82, 86, 83, 49]) Z.out.2 (by simp [maxLen])).cells hsz hcs
        clear hbl hsz hcs
        go_wp2_with fail
        refine planPost_mk ⟨⟨x1, K1.out⟩, rfl⟩ ?_
        exact T32 (L, a1, n1, a2, n2, a3, n3) x1 ⟨K1, S1, Z1⟩
      · skip
        simp only [nth_zero, nth_succ]
        go_wp2_with fail
        go_at_call 32
        refine (HP19.out _).mono ?_
        rintro e x1 ⟨a4, n4, rfl, hs, hb⟩
        have K1 : Hid (Below W.heap.size W x1) := K.out.trans (hb.mono K.out.size)
        have S1 := Lib.hid (S.out.put hb hs)
        have Z1 : Hid (W.heap.size ≤ L ∧ x1.heap[L]? = some (.cells (u8s [82, 86, 83, 49]).toArray 5 (0, 0))) := ⟨Z.out.1, (hb.block L (Array.getElem?_eq_some_iff.1 Z.out.2).1).trans Z.out.2⟩
        clear hs hb
        go_wp2_with fail
        refine planPost_mk ⟨⟨x1, K1.out⟩, rfl⟩ ?_
        exact T41 (L, a1, n1, a2, n2, a3, n3, a4, n4) x1 ⟨K1, S1, Z1⟩
  intro T31
  refine plan_have (ι := Nat × Option Addr × Nat × Option Addr × Nat) (.two 1 14 (.one 14 (.one 19 (.one 20 (.one 21 .leaf)))) (.two 1 19 (.one 19 (.one 20 (.one 21 .leaf))) (.one 1 (.one 20 (.one 21 .leaf))))) (fun i => { tmps := #[.agg #[.int .i64 bl, .int .i64 ba, .int .i64 id, .slice a n c], .pointer (some ⟨B, 0, none⟩), .slice none 0 0, .slice (some ⟨i.1, 0, none⟩) 4 4, undef, .pointer (some ⟨B, 0, none⟩), .int .i64 bl, .int .u64 bl, .slice i.2.1 2 i.2.2.1, .pointer (some ⟨B, 1, none⟩), .int .i64 ba, .int .i64 (ba + 1), .int .u64 (ba + 1), .slice i.2.2.2.1 4 i.2.2.2.2, .pointer (some ⟨B, 2, none⟩), .int .i64 id, .int .u64 id, undef, .pointer (some ⟨B, 3, none⟩), .slice a n c, .int .i64 (n : Int), .int .u64 (n : Int), undef, undef, undef], defers := [] }) (fun i x => Hid (Below W.heap.size W x) ∧ Hid (AllSl x [(.slice i.2.2.2.1 4 i.2.2.2.2, putL (ba + 1) 4), (.slice i.2.1 2 i.2.2.1, putL bl 2)]) ∧ Hid (W.heap.size ≤ i.1 ∧ x.heap[i.1]? = some (.cells (u8s [82, 86, 83, 49]).toArray 5 (0, 0)))) ?_ ?_
  · rintro ⟨L, a1, n1, a2, n2⟩ x ⟨K, S, Z⟩
    try dsimp only
    try dsimp only at S Z
    as_aux_lemma =>
      rw [wpPlan_two]
      refine ⟨?_, ?_⟩
      · skip
        simp only [nth_zero, nth_succ]
        obtain ⟨x1, CV, hbl, hsz, hcs⟩ := conv_mark x L (u8s [82, 86, 83, 49]).toArray 4 4 Z.out.2
        have K1 : Hid (Below W.heap.size W x1) := K.out.trans (hbl.mono Z.out.1)
        have S1 := Lib.hid (S.out.cells hsz hcs)
        have Z1 : Hid (Sl .u8 x1 (.slice (some ⟨L, 0, none⟩) 4 4) [82, 86, 83, 49]) := (sl_new (g := L) (xs := [82, 86, 83, 49]) Z.out.2 (by simp [maxLen])).cells hsz hcs
        clear hbl hsz hcs
        go_wp2_with fail
        refine planPost_mk ⟨⟨x1, K1.out⟩, rfl⟩ ?_
        exact T22 (L, a1, n1, a2, n2) x1 ⟨K1, S1, Z1⟩
      · skip
        simp only [nth_zero, nth_succ]
        go_wp2_with fail
        go_at_call 32
        refine (HP14.out _).mono ?_
        rintro e x1 ⟨a3, n3, rfl, hs, hb⟩
        have K1 : Hid (Below W.heap.size W x1) := K.out.trans (hb.mono K.out.size)
        have S1 := Lib.hid (S.out.put hb hs)
        have Z1 : Hid (W.heap.size ≤ L ∧ x1.heap[L]? = some (.cells (u8s [82, 86, 83, 49]).toArray 5 (0, 0))) := ⟨Z.out.1, (hb.block L (Array.getElem?_eq_some_iff.1 Z.out.2).1).trans Z.out.2⟩
        clear hs hb
        go_wp2_with fail
        refine planPost_mk ⟨⟨x1, K1.out⟩, rfl⟩ ?_
        exact T31 (L, a1, n1, a2, n2, a3, n3) x1 ⟨K1, S1, Z1⟩
  intro T21
  refine plan_have (ι := Nat × Option Addr × Nat) (.two 1 10 (.one 10 (.one 14 (.one 19 (.one 20 (.one 21 .leaf))))) (.two 1 14 (.one 14 (.one 19 (.one 20 (.one 21 .leaf)))) (.two 1 19 (.one 19 (.one 20 (.one 21 .leaf))) (.one 1 (.one 20 (.one 21 .leaf)))))) (fun i => { tmps := #[.agg #[.int .i64 bl, .int .i64 ba, .int .i64 id, .slice a n c], .pointer (some ⟨B, 0, none⟩), .slice none 0 0, .slice (some ⟨i.1, 0, none⟩) 4 4, undef, .pointer (some ⟨B, 0, none⟩), .int .i64 bl, .int .u64 bl, .slice i.2.1 2 i.2.2, .pointer (some ⟨B, 1, none⟩), .int .i64 ba, .int .i64 (ba + 1), .int .u64 (ba + 1), undef, .pointer (some ⟨B, 2, none⟩), .int .i64 id, .int .u64 id, undef, .pointer (some ⟨B, 3, none⟩), .slice a n c, .int .i64 (n : Int), .int .u64 (n : Int), undef, undef, undef], defers := [] }) (fun i x => Hid (Below W.heap.size W x) ∧ Hid (AllSl x [(.slice i.2.1 2 i.2.2, putL bl 2)]) ∧ Hid (W.heap.size ≤ i.1 ∧ x.heap[i.1]? = some (.cells (u8s [82, 86, 83, 49]).toArray 5 (0, 0)))) ?_ ?_
  · rintro ⟨L, a1, n1⟩ x ⟨K, S, Z⟩
    try dsimp only
    try dsimp only at S Z
    as_aux_lemma =>
      rw [wpPlan_two]
      refine ⟨?_, ?_⟩
      · skip
        simp only [nth_zero, nth_succ]
        obtain ⟨x1, CV, hbl, hsz, hcs⟩ := conv_mark x L (u8s [82, 86, 83, 49]).toArray 4 4 Z.out.2
        have K1 : Hid (Below W.heap.size W x1) := K.out.trans (hbl.mono Z.out.1)
        have S1 := Lib.hid (S.out.cells hsz hcs)
        have Z1 : Hid (Sl .u8 x1 (.slice (some ⟨L, 0, none⟩) 4 4) [82, 86, 83, 49]) := (sl_new (g := L) (xs := [82, 86, 83, 49]) Z.out.2 (by simp [maxLen])).cells hsz hcs
        clear hbl hsz hcs
        go_wp2_with fail
        refine planPost_mk ⟨⟨x1, K1.out⟩, rfl⟩ ?_
        exact T12 (L, a1, n1) x1 ⟨K1, S1, Z1⟩
      · skip
        simp only [nth_zero, nth_succ]
        go_wp2_with fail
        go_at_call 32
        refine (HP10.out _).mono ?_
        rintro e x1 ⟨a2, n2, rfl, hs, hb⟩
        have K1 : Hid (Below W.heap.size W x1) := K.out.trans (hb.mono K.out.size)
        have S1 := Lib.hid (S.out.put hb hs)
        have Z1 : Hid (W.heap.size ≤ L ∧ x1.heap[L]? = some (.cells (u8s [82, 86, 83, 49]).toArray 5 (0, 0))) := ⟨Z.out.1, (hb.block L (Array.getElem?_eq_some_iff.1 Z.out.2).1).trans Z.out.2⟩
        clear hs hb
        go_wp2_with fail
        refine planPost_mk ⟨⟨x1, K1.out⟩, rfl⟩ ?_
        exact T21 (L, a1, n1, a2, n2) x1 ⟨K1, S1, Z1⟩
  intro T11
  refine plan_have (ι := Nat) (.two 1 5 (.one 5 (.one 10 (.one 14 (.one 19 (.one 20 (.one 21 .leaf)))))) (.two 1 10 (.one 10 (.one 14 (.one 19 (.one 20 (.one 21 .leaf))))) (.two 1 14 (.one 14 (.one 19 (.one 20 (.one 21 .leaf)))) (.two 1 19 (.one 19 (.one 20 (.one 21 .leaf))) (.one 1 (.one 20 (.one 21 .leaf))))))) (fun i => { tmps := #[.agg #[.int .i64 bl, .int .i64 ba, .int .i64 id, .slice a n c], .pointer (some ⟨B, 0, none⟩), .slice none 0 0, .slice (some ⟨i, 0, none⟩) 4 4, undef, .pointer (some ⟨B, 0, none⟩), .int .i64 bl, .int .u64 bl, undef, .pointer (some ⟨B, 1, none⟩), .int .i64 ba, .int .i64 (ba + 1), .int .u64 (ba + 1), undef, .pointer (some ⟨B, 2, none⟩), .int .i64 id, .int .u64 id, undef, .pointer (some ⟨B, 3, none⟩), .slice a n c, .int .i64 (n : Int), .int .u64 (n : Int), undef, undef, undef], defers := [] }) (fun i x => Hid (Below W.heap.size W x) ∧ Hid (AllSl x []) ∧ Hid (W.heap.size ≤ i ∧ x.heap[i]? = some (.cells (u8s [82, 86, 83, 49]).toArray 5 (0, 0)))) ?_ ?_
  · rintro L x ⟨K, S, Z⟩
    try dsimp only
    try dsimp only at S Z
    as_aux_lemma =>
      rw [wpPlan_two]
      refine ⟨?_, ?_⟩
      · skip
        simp only [nth_zero, nth_succ]
        obtain ⟨x1, CV, hbl, hsz, hcs⟩ := conv_mark x L (u8s [82, 86, 83, 49]).toArray 4 4 Z.out.2
        have K1 : Hid (Below W.heap.size W x1) := K.out.trans (hbl.mono Z.out.1)
        have S1 := Lib.hid (S.out.cells hsz hcs)
        have Z1 : Hid (Sl .u8 x1 (.slice (some ⟨L, 0, none⟩) 4 4) [82, 86, 83, 49]) := (sl_new (g := L) (xs := [82, 86, 83, 49]) Z.out.2 (by simp [maxLen])).cells hsz hcs
        clear hbl hsz hcs
        go_wp2_with fail
        refine planPost_mk ⟨⟨x1, K1.out⟩, rfl⟩ ?_
        exact T02 L x1 ⟨K1, S1, Z1⟩
      · skip
        simp only [nth_zero, nth_succ]
        go_wp2_with fail
        go_at_call 32
        refine (HP5.out _).mono ?_
        rintro e x1 ⟨a1, n1, rfl, hs, hb⟩
        have K1 : Hid (Below W.heap.size W x1) := K.out.trans (hb.mono K.out.size)
        have S1 := Lib.hid (S.out.put hb hs)
        have Z1 : Hid (W.heap.size ≤ L ∧ x1.heap[L]? = some (.cells (u8s [82, 86, 83, 49]).toArray 5 (0, 0))) := ⟨Z.out.1, (hb.block L (Array.getElem?_eq_some_iff.1 Z.out.2).1).trans Z.out.2⟩
        clear hs hb
        go_wp2_with fail
        refine planPost_mk ⟨⟨x1, K1.out⟩, rfl⟩ ?_
        exact T11 (L, a1, n1) x1 ⟨K1, S1, Z1⟩
  intro T01
  refine plan_have (ι := Option Addr × Nat × Option Addr × Nat × Option Addr × Nat × Option Addr × Nat) (.one 0 (.one 1 (.one 20 (.one 21 .leaf)))) (fun i => { tmps := #[.agg #[.int .i64 bl, .int .i64 ba, .int .i64 id, .slice a n c], .pointer (some ⟨B, 0, none⟩), .slice none 0 0, undef, undef, .pointer (some ⟨B, 0, none⟩), .int .i64 bl, .int .u64 bl, .slice i.1 2 i.2.1, .pointer (some ⟨B, 1, none⟩), .int .i64 ba, .int .i64 (ba + 1), .int .u64 (ba + 1), .slice i.2.2.1 4 i.2.2.2.1, .pointer (some ⟨B, 2, none⟩), .int .i64 id, .int .u64 id, .slice i.2.2.2.2.1 4 i.2.2.2.2.2.1, .pointer (some ⟨B, 3, none⟩), .slice a n c, .int .i64 (n : Int), .int .u64 (n : Int), .slice i.2.2.2.2.2.2.1 2 i.2.2.2.2.2.2.2, undef, undef], defers := [] }) (fun i x => Hid (Below W.heap.size W x) ∧ Hid (AllSl x [(.slice i.2.2.2.2.2.2.1 2 i.2.2.2.2.2.2.2, putL (n : Int) 2), (.slice i.2.2.2.2.1 4 i.2.2.2.2.2.1, putL id 4), (.slice i.2.2.1 4 i.2.2.2.1, putL (ba + 1) 4), (.slice i.1 2 i.2.1, putL bl 2)])) ?_ ?_
  · rintro ⟨a1, n1, a2, n2, a3, n3, a4, n4⟩ x ⟨K, S⟩
    try dsimp only
    try dsimp only at S Z
    as_aux_lemma =>
      rw [wpPlan_one]
      simp only [nth_zero, nth_succ]
      obtain ⟨x1, hx⟩ : ∃ y, x.alloc (.cells (u8s [82, 86, 83, 49]).toArray 5) = y := ⟨_, rfl⟩
      have SB : (Instr.buildSlice 22 4 #[(0, .int .u8 82), (1, .int .u8 86), (2, .int .u8 83), (3, .int .u8 49)]).run Try.prog x = .ok (.slice (some ⟨x.heap.size, 0, none⟩) 4 4) x1 := by rw [← hx]; exact slice_magic x
      have hb : Below x.heap.size x x1 := by rw [← hx]; exact below_new x _
      have hs : x1.heap[x.heap.size]? = some (.cells (u8s [82, 86, 83, 49]).toArray 5 (0, 0)) := by rw [← hx]; exact heap_alloc_new x _
      have K1 : Hid (Below W.heap.size W x1) := K.out.trans (hb.mono K.out.size)
      obtain ⟨L, hL⟩ : ∃ L, x.heap.size = L := ⟨_, rfl⟩
      have hWL : W.heap.size ≤ L := by rw [← hL]; exact K.out.size
      rw [hL] at SB hs
      have S1 := Lib.hid (S.out.below hb)
      have Z1 : Hid (W.heap.size ≤ L ∧ x1.heap[L]? = some (.cells (u8s [82, 86, 83, 49]).toArray 5 (0, 0))) := ⟨hWL, hs⟩
      clear hs hb hx hL hWL
      refine wpList_build_run _ _ _ rfl rfl _ _ rfl SB ?_
      clear SB
      go_wp2_with fail
      refine planPost_mk ⟨⟨x1, K1.out⟩, rfl⟩ ?_
      exact T41 (L, a1, n1, a2, n2, a3, n3, a4, n4) x1 ⟨K1, S1, Z1⟩
  intro T40
  refine plan_have (ι := Option Addr × Nat × Option Addr × Nat × Option Addr × Nat) (.two 0 19 (.two 1 19 (.one 19 (.one 20 (.one 21 .leaf))) (.one 1 (.one 20 (.one 21 .leaf)))) (.one 0 (.one 1 (.one 20 (.one 21 .leaf))))) (fun i => { tmps := #[.agg #[.int .i64 bl, .int .i64 ba, .int .i64 id, .slice a n c], .pointer (some ⟨B, 0, none⟩), .slice none 0 0, undef, undef, .pointer (some ⟨B, 0, none⟩), .int .i64 bl, .int .u64 bl, .slice i.1 2 i.2.1, .pointer (some ⟨B, 1, none⟩), .int .i64 ba, .int .i64 (ba + 1), .int .u64 (ba + 1), .slice i.2.2.1 4 i.2.2.2.1, .pointer (some ⟨B, 2, none⟩), .int .i64 id, .int .u64 id, .slice i.2.2.2.2.1 4 i.2.2.2.2.2, .pointer (some ⟨B, 3, none⟩), .slice a n c, .int .i64 (n : Int), .int .u64 (n : Int), undef, undef, undef], defers := [] }) (fun i x => Hid (Below W.heap.size W x) ∧ Hid (AllSl x [(.slice i.2.2.2.2.1 4 i.2.2.2.2.2, putL id 4), (.slice i.2.2.1 4 i.2.2.2.1, putL (ba + 1) 4), (.slice i.1 2 i.2.1, putL bl 2)])) ?_ ?_
  · rintro ⟨a1, n1, a2, n2, a3, n3⟩ x ⟨K, S⟩
    try dsimp only
    try dsimp only at S Z
    as_aux_lemma =>
      rw [wpPlan_two]
      refine ⟨?_, ?_⟩
      · skip
        simp only [nth_zero, nth_succ]
        obtain ⟨x1, hx⟩ : ∃ y, x.alloc (.cells (u8s [82, 86, 83, 49]).toArray 5) = y := ⟨_, rfl⟩
        have SB : (Instr.buildSlice 22 4 #[(0, .int .u8 82), (1, .int .u8 86), (2, .int .u8 83), (3, .int .u8 49)]).run Try.prog x = .ok (.slice (some ⟨x.heap.size, 0, none⟩) 4 4) x1 := by rw [← hx]; exact slice_magic x
        have hb : Below x.heap.size x x1 := by rw [← hx]; exact below_new x _
        have hs : x1.heap[x.heap.size]? = some (.cells (u8s [82, 86, 83, 49]).toArray 5 (0, 0)) := by rw [← hx]; exact heap_alloc_new x _
        have K1 : Hid (Below W.heap.size W x1) := K.out.trans (hb.mono K.out.size)
        obtain ⟨L, hL⟩ : ∃ L, x.heap.size = L := ⟨_, rfl⟩
        have hWL : W.heap.size ≤ L := by rw [← hL]; exact K.out.size
        rw [hL] at SB hs
        have S1 := Lib.hid (S.out.below hb)
        have Z1 : Hid (W.heap.size ≤ L ∧ x1.heap[L]? = some (.cells (u8s [82, 86, 83, 49]).toArray 5 (0, 0))) := ⟨hWL, hs⟩
        clear hs hb hx hL hWL
        refine wpList_build_run _ _ _ rfl rfl _ _ rfl SB ?_
        clear SB
        go_wp2_with fail
        refine planPost_mk ⟨⟨x1, K1.out⟩, rfl⟩ ?_
        exact T31 (L, a1, n1, a2, n2, a3, n3) x1 ⟨K1, S1, Z1⟩
      · skip
        simp only [nth_zero, nth_succ]
        go_wp2_with fail
        go_at_call 32
        refine (HP19.out _).mono ?_
        rintro e x1 ⟨a4, n4, rfl, hs, hb⟩
        have K1 : Hid (Below W.heap.size W x1) := K.out.trans (hb.mono K.out.size)
        have S1 := Lib.hid (S.out.put hb hs)
        clear hs hb
        go_wp2_with fail
        refine planPost_mk ⟨⟨x1, K1.out⟩, rfl⟩ ?_
        exact T40 (a1, n1, a2, n2, a3, n3, a4, n4) x1 ⟨K1, S1⟩
  intro T30
  refine plan_have (ι := Option Addr × Nat × Option Addr × Nat) (.two 0 14 (.two 1 14 (.one 14 (.one 19 (.one 20 (.one 21 .leaf)))) (.two 1 19 (.one 19 (.one 20 (.one 21 .leaf))) (.one 1 (.one 20 (.one 21 .leaf))))) (.two 0 19 (.two 1 19 (.one 19 (.one 20 (.one 21 .leaf))) (.one 1 (.one 20 (.one 21 .leaf)))) (.one 0 (.one 1 (.one 20 (.one 21 .leaf)))))) (fun i => { tmps := #[.agg #[.int .i64 bl, .int .i64 ba, .int .i64 id, .slice a n c], .pointer (some ⟨B, 0, none⟩), .slice none 0 0, undef, undef, .pointer (some ⟨B, 0, none⟩), .int .i64 bl, .int .u64 bl, .slice i.1 2 i.2.1, .pointer (some ⟨B, 1, none⟩), .int .i64 ba, .int .i64 (ba + 1), .int .u64 (ba + 1), .slice i.2.2.1 4 i.2.2.2, .pointer (some ⟨B, 2, none⟩), .int .i64 id, .int .u64 id, undef, .pointer (some ⟨B, 3, none⟩), .slice a n c, .int .i64 (n : Int), .int .u64 (n : Int), undef, undef, undef], defers := [] }) (fun i x => Hid (Below W.heap.size W x) ∧ Hid (AllSl x [(.slice i.2.2.1 4 i.2.2.2, putL (ba + 1) 4), (.slice i.1 2 i.2.1, putL bl 2)])) ?_ ?_
  · rintro ⟨a1, n1, a2, n2⟩ x ⟨K, S⟩
    try dsimp only
    try dsimp only at S Z
    as_aux_lemma =>
      rw [wpPlan_two]
      refine ⟨?_, ?_⟩
      · skip
        simp only [nth_zero, nth_succ]
        obtain ⟨x1, hx⟩ : ∃ y, x.alloc (.cells (u8s [82, 86, 83, 49]).toArray 5) = y := ⟨_, rfl⟩
        have SB : (Instr.buildSlice 22 4 #[(0, .int .u8 82), (1, .int .u8 86), (2, .int .u8 83), (3, .int .u8 49)]).run Try.prog x = .ok (.slice (some ⟨x.heap.size, 0, none⟩) 4 4) x1 := by rw [← hx]; exact slice_magic x
        have hb : Below x.heap.size x x1 := by rw [← hx]; exact below_new x _
        have hs : x1.heap[x.heap.size]? = some (.cells (u8s [82, 86, 83, 49]).toArray 5 (0, 0)) := by rw [← hx]; exact heap_alloc_new x _
        have K1 : Hid (Below W.heap.size W x1) := K.out.trans (hb.mono K.out.size)
        obtain ⟨L, hL⟩ : ∃ L, x.heap.size = L := ⟨_, rfl⟩
        have hWL : W.heap.size ≤ L := by rw [← hL]; exact K.out.size
        rw [hL] at SB hs
        have S1 := Lib.hid (S.out.below hb)
        have Z1 : Hid (W.heap.size ≤ L ∧ x1.heap[L]? = some (.cells (u8s [82, 86, 83, 49]).toArray 5 (0, 0))) := ⟨hWL, hs⟩
        clear hs hb hx hL hWL
        refine wpList_build_run _ _ _ rfl rfl _ _ rfl SB ?_
        clear SB
        go_wp2_with fail
        refine planPost_mk ⟨⟨x1, K1.out⟩, rfl⟩ ?_
        exact T21 (L, a1, n1, a2, n2) x1 ⟨K1, S1, Z1⟩
      · skip
        simp only [nth_zero, nth_succ]
        go_wp2_with fail
        go_at_call 32
        refine (HP14.out _).mono ?_
        rintro e x1 ⟨a3, n3, rfl, hs, hb⟩
        have K1 : Hid (Below W.heap.size W x1) := K.out.trans (hb.mono K.out.size)
        have S1 := Lib.hid (S.out.put hb hs)
        clear hs hb
        go_wp2_with fail
        refine planPost_mk ⟨⟨x1, K1.out⟩, rfl⟩ ?_
        exact T30 (a1, n1, a2, n2, a3, n3) x1 ⟨K1, S1⟩
  intro T20
  refine plan_have (ι := Option Addr × Nat) (.two 0 10 (.two 1 10 (.one 10 (.one 14 (.one 19 (.one 20 (.one 21 .leaf))))) (.two 1 14 (.one 14 (.one 19 (.one 20 (.one 21 .leaf)))) (.two 1 19 (.one 19 (.one 20 (.one 21 .leaf))) (.one 1 (.one 20 (.one 21 .leaf)))))) (.two 0 14 (.two 1 14 (.one 14 (.one 19 (.one 20 (.one 21 .leaf)))) (.two 1 19 (.one 19 (.one 20 (.one 21 .leaf))) (.one 1 (.one 20 (.one 21 .leaf))))) (.two 0 19 (.two 1 19 (.one 19 (.one 20 (.one 21 .leaf))) (.one 1 (.one 20 (.one 21 .leaf)))) (.one 0 (.one 1 (.one 20 (.one 21 .leaf))))))) (fun i => { tmps := #[.agg #[.int .i64 bl, .int .i64 ba, .int .i64 id, .slice a n c], .pointer (some ⟨B, 0, none⟩), .slice none 0 0, undef, undef, .pointer (some ⟨B, 0, none⟩), .int .i64 bl, .int .u64 bl, .slice i.1 2 i.2, .pointer (some ⟨B, 1, none⟩), .int .i64 ba, .int .i64 (ba + 1), .int .u64 (ba + 1), undef, .pointer (some ⟨B, 2, none⟩), .int .i64 id, .int .u64 id, undef, .pointer (some ⟨B, 3, none⟩), .slice a n c, .int .i64 (n : Int), .int .u64 (n : Int), undef, undef, undef], defers := [] }) (fun i x => Hid (Below W.heap.size W x) ∧ Hid (AllSl x [(.slice i.1 2 i.2, putL bl 2)])) ?_ ?_
  · rintro ⟨a1, n1⟩ x ⟨K, S⟩
    try dsimp only
    try dsimp only at S Z
    as_aux_lemma =>
      rw [wpPlan_two]
      refine ⟨?_, ?_⟩
      · skip
        simp only [nth_zero, nth_succ]
        obtain ⟨x1, hx⟩ : ∃ y, x.alloc (.cells (u8s [82, 86, 83, 49]).toArray 5) = y := ⟨_, rfl⟩
        have SB : (Instr.buildSlice 22 4 #[(0, .int .u8 82), (1, .int .u8 86), (2, .int .u8 83), (3, .int .u8 49)]).run Try.prog x = .ok (.slice (some ⟨x.heap.size, 0, none⟩) 4 4) x1 := by rw [← hx]; exact slice_magic x
        have hb : Below x.heap.size x x1 := by rw [← hx]; exact below_new x _
        have hs : x1.heap[x.heap.size]? = some (.cells (u8s [82, 86, 83, 49]).toArray 5 (0, 0)) := by rw [← hx]; exact heap_alloc_new x _
        have K1 : Hid (Below W.heap.size W x1) := K.out.trans (hb.mono K.out.size)
        obtain ⟨L, hL⟩ : ∃ L, x.heap.size = L := ⟨_, rfl⟩
        have hWL : W.heap.size ≤ L := by rw [← hL]; exact K.out.size
        rw [hL] at SB hs
        have S1 := Lib.hid (S.out.below hb)
        have Z1 : Hid (W.heap.size ≤ L ∧ x1.heap[L]? = some (.cells (u8s [82, 86, 83, 49]).toArray 5 (0, 0))) := ⟨hWL, hs⟩
        clear hs hb hx hL hWL
        refine wpList_build_run _ _ _ rfl rfl _ _ rfl SB ?_
        clear SB
        go_wp2_with fail
        refine planPost_mk ⟨⟨x1, K1.out⟩, rfl⟩ ?_
        exact T11 (L, a1, n1) x1 ⟨K1, S1, Z1⟩
      · skip
        simp only [nth_zero, nth_succ]
        go_wp2_with fail
        go_at_call 32
        refine (HP10.out _).mono ?_
        rintro e x1 ⟨a2, n2, rfl, hs, hb⟩
        have K1 : Hid (Below W.heap.size W x1) := K.out.trans (hb.mono K.out.size)
        have S1 := Lib.hid (S.out.put hb hs)
        clear hs hb
        go_wp2_with fail
        refine planPost_mk ⟨⟨x1, K1.out⟩, rfl⟩ ?_
        exact T20 (a1, n1, a2, n2) x1 ⟨K1, S1⟩
  intro T10
  have S : Hid (AllSl x0 []) := AllSl.nil _
  obtain ⟨x, hx0⟩ : ∃ x, x0 = x := ⟨_, rfl⟩
  rw [hx0] at S K0
  try rw [hx0]
  clear hx0
  have K := K0
  rw [wpPlan_two]
  refine ⟨?_, ?_⟩
  · skip
    simp only [nth_zero, nth_succ]
    obtain ⟨x1, hx⟩ : ∃ y, x.alloc (.cells (u8s [82, 86, 83, 49]).toArray 5) = y := ⟨_, rfl⟩
    have SB : (Instr.buildSlice 22 4 #[(0, .int .u8 82), (1, .int .u8 86), (2, .int .u8 83), (3, .int .u8 49)]).run Try.prog x = .ok (.slice (some ⟨x.heap.size, 0, none⟩) 4 4) x1 := by rw [← hx]; exact slice_magic x
    have hb : Below x.heap.size x x1 := by rw [← hx]; exact below_new x _
    have hs : x1.heap[x.heap.size]? = some (.cells (u8s [82, 86, 83, 49]).toArray 5 (0, 0)) := by rw [← hx]; exact heap_alloc_new x _
    have K1 : Hid (Below W.heap.size W x1) := K.out.trans (hb.mono K.out.size)
    obtain ⟨L, hL⟩ : ∃ L, x.heap.size = L := ⟨_, rfl⟩
    have hWL : W.heap.size ≤ L := by rw [← hL]; exact K.out.size
    rw [hL] at SB hs
    have S1 := Lib.hid (S.out.below hb)
    have Z1 : Hid (W.heap.size ≤ L ∧ x1.heap[L]? = some (.cells (u8s [82, 86, 83, 49]).toArray 5 (0, 0))) := ⟨hWL, hs⟩
    clear hs hb hx hL hWL
    refine wpList_build_run _ _ _ rfl rfl _ _ rfl SB ?_
    clear SB
    go_wp2_with fail
    refine planPost_mk ⟨⟨x1, K1.out⟩, rfl⟩ ?_
    exact T01 L x1 ⟨K1, S1, Z1⟩
  · skip
    simp only [nth_zero, nth_succ]
    go_wp2_with fail
    go_at_call 32
    refine (HP5.out _).mono ?_
    rintro e x1 ⟨a1, n1, rfl, hs, hb⟩
    have K1 : Hid (Below W.heap.size W x1) := K.out.trans (hb.mono K.out.size)
    have S1 := Lib.hid (S.out.put hb hs)
    clear hs hb
    go_wp2_with fail
    refine planPost_mk ⟨⟨x1, K1.out⟩, rfl⟩ ?_
    exact T10 (a1, n1) x1 ⟨K1, S1⟩
end Go.Proofs.Ytfihpljgbghogaa

/- The developers' Encode of a stream. -/
namespace Go.Proofs.Ytfihpljgbghogaa
open Go.RowKit Go.Shelf
set_option linter.unusedVariables false
set_option linter.unusedSimpArgs false
attribute [-simp] Try.isAgg49 Try.zeroValue49 Try.isAgg26 Try.zeroValue26
attribute [-go_sem] loadVar storeVar
attribute [local go_sem] loadVar_openRS storeVar_openRS zero_rc zero_sm
attribute [local go_sem] Oper.semAt_some

/-- Two blocks are as they were. -/
def KpS (W : World) (B C : Nat) : Type := {x : World // x.heap[B]? = W.heap[B]? ∧ x.heap[C]? = W.heap[C]?}
instance (W : World) (B C : Nat) : Nonempty (KpS W B C) := ⟨⟨W, rfl, rfl⟩⟩
theorem KpS.fst {W : World} {B C : Nat} {t : TypeId} {c : List Value} (z : KpS W B C) (h : RowC W B t c) : RowC z.1 B t c := z.2.1.trans h
theorem KpS.snd {W : World} {B C : Nat} {t : TypeId} {c : List Value} (z : KpS W B C) (h : RowC W C t c) : RowC z.1 C t c := z.2.2.trans h
theorem kpS_of {W x : World} {B C : Nat} {t u : TypeId} {c d : List Value} (h1 : RowC W B t c) (h2 : RowC W C u d) (h3 : RowC x B t c) (h4 : RowC x C u d) : x.heap[B]? = W.heap[B]? ∧ x.heap[C]? = W.heap[C]? := ⟨Eq.trans h3 h1.symm, Eq.trans h4 h2.symm⟩
/-- What is written when k records are through. -/
def toB (s : SM) (k : Nat) : List Int := sld (hdB s) ++ rsB (s.re.take k)
theorem toB_zero (s : SM) : toB s 0 = sld (hdB s) := by simp [toB, rsB_nil]
theorem toB_succ {s : SM} {k : Nat} {x : RC} (h : s.re[k]? = some x) : toB s (k + 1) = toB s k ++ sld (rcB x) := by unfold toB; rw [rsB_snoc h, List.append_assoc]
theorem toB_all (s : SM) : toB s s.re.length = bodyB s := by unfold toB bodyB; rw [List.take_length]
theorem toB_len {s : SM} (h : sGood s) (k : Nat) : (toB s k).length ≤ 300000 := by
  have h1 : rsLen (s.re.take k) ≤ (s.re.take k).length * 4109 := rsLen_le fun x hx => by
    obtain ⟨j, hj⟩ := List.getElem?_of_mem (List.mem_of_mem_take hx)
    exact h.len hj
  have h2 := h.many
  have h3 : (s.re.take k).length ≤ 64 := by rw [List.length_take]; omega
  simp only [toB, List.length_append, sld_length, hdB_length, rsB_length]
  have : (s.re.take k).length * 4109 ≤ 64 * 4109 := Nat.mul_le_mul_right _ h3
  omega

/-- What a round of Encode keeps; the bytes lie below H. -/
structure CoI (B D H : Nat) (bl ba id : Int) (x : SlV) (s : SM) (w : World) (k : Nat) (W : World) : Prop where
  bb : ∃ u : SlV, RowC W D 22 [slV u] ∧ OwnB w W (slV u) (toB s k) ∧ ∀ j, (slV u).ownBlock = some j → j < H
  lb : RowC W (D + 1) 24 [slV x]
  be : Below B w W
theorem CoI.own {B D H N k : Nat} {bl ba id : Int} {v : SlV} {s : SM} {w x y : World} {row : Option Nat} (h : CoI B D H bl ba id v s w k x) (hB : B ≤ w.heap.size) (hN : w.heap.size ≤ N) (hg : x.grownBy y row) (hr : ∀ r, row = some r → N ≤ r ∧ ∃ o : Obj, x.heap[r]? = some o ∧ o.isCells = false) : CoI B D H bl ba id v s w k y := by
  obtain ⟨u, h1, h2, h3⟩ := h.bb
  exact ⟨⟨u, rowC_own h1 hg hr, row_own h2 hg hr, h3⟩, rowC_own h.lb hg hr, below_own h.be hB hg (fun r e => ⟨by have := (hr r e).1; omega, (hr r e).2⟩)⟩
theorem CoI.below {B D H k : Nat} {bl ba id : Int} {v : SlV} {s : SM} {w x y : World} (h : CoI B D H bl ba id v s w k x) (hB : B ≤ x.heap.size) (hb : Below x.heap.size x y) : CoI B D H bl ba id v s w k y := by
  obtain ⟨u, h1, h2, h3⟩ := h.bb
  exact ⟨⟨u, h1.below hb, OwnB.below h2 hb, h3⟩, h.lb.below hb, h.be.trans (hb.mono hB)⟩
theorem own_setS {W x : World} {B : Nat} {t : TypeId} {C : List Value} {v u : Value} {bs : List Int} (h : OwnB W x v bs) (hB : RowC x B t C) (hne : 5 ≠ t) (j : Nat) : OwnB W (x.setCell ⟨B, j, none⟩ u) v bs :=
  h.kept (grownBy_setCellJ x B j u) (.inr (row_ne h hB hne))

set_option maxRecDepth 100000 in
set_option maxHeartbeats 8000000 in
/-- **Encode** of what may not be. -/
theorem sm_encodeN {w : World} {v : Value} {s : SM} (h : Smi w v s) (hn : ¬ sGood s) : Calls Try.prog 12 #[v] w fun e w' => e = .returned (.tuple #[.slice none 0 0, .int .i64 11]) ∧ Below w.heap.size w w' := by
  have HG : Hid (∀ y : World, Below w.heap.size w y → Calls Try.prog 14 #[v] y fun e w' => e = .returned (.bool false) ∧ Below y.heap.size y w') := fun y hy => calls_no (sm_good (h.below hy)) hn
  obtain ⟨r, ⟨⟨⟨xa, xn, xc⟩, rfl, hR⟩, ib, ia, ii⟩⟩ := h
  obtain ⟨bl, hbl⟩ : ∃ b, s.bl = b := ⟨_, rfl⟩
  obtain ⟨ba, hba⟩ : ∃ b, s.ba = b := ⟨_, rfl⟩
  obtain ⟨id, hid⟩ : ∃ b, s.id = b := ⟨_, rfl⟩
  rw [hbl, hba, hid] at HG ⊢
  obtain ⟨X, hX⟩ : ∃ X, w.alloc (.cells #[.int .i64 bl, .int .i64 ba, .int .i64 id, .slice xa xn xc] 26) = X := ⟨_, rfl⟩
  have k1 : RowC X w.heap.size 26 (smL bl ba id (xa, xn, xc)) := by rw [← hX]; exact RowC.new w _ _
  have hXb : Below w.heap.size w X := by rw [← hX]; exact below_new w _
  have HXB := Lib.hid hXb
  have LS := load_smC k1
  have HG2 := Lib.hid (HG.out X hXb)
  simp only [smV, slV] at LS HG2 ⊢
  clear hXb k1 hbl hba hid hR ib ia ii HG hn
  go_enter Try.func12, Try.ntmps12
  go_wp2_with fail
  refine HG2.out.mono ?_
  rintro e y ⟨rfl, hy⟩
  have HY : Hid (Below w.heap.size w y) := HXB.out.trans (hy.mono HXB.out.size)
  clear hy
  go_wp2_with fail
  refine bodyPost_ret (results_tmp2 rfl _ _ _) rfl ?_
  exact ⟨rfl, HY.out⟩

set_option maxRecDepth 100000 in
set_option maxHeartbeats 8000000 in
/-- **Encode** of what may be. -/
theorem sm_encode {w : World} {v : Value} {s : SM} (h : Smi w v s) (hg : sGood s) : Calls Try.prog 12 #[v] w fun e w' => ∃ u, e = .returned (.tuple #[u, .int .i64 0]) ∧ OwnB w w' u (encB s) ∧ Below w.heap.size w w' := by
  have hmx : Try.prog.follows .mixedOrders = true := by kernel_rfl
  have hok := h.ok
  have HG : Hid (∀ y : World, Below w.heap.size w y → Calls Try.prog 14 #[v] y fun e w' => e = .returned (.bool true) ∧ Below y.heap.size y w') := fun y hy => calls_yes (sm_good (h.below hy)) hg
  obtain ⟨r, ⟨⟨⟨xa, xn, xc⟩, rfl, hR⟩, ib, ia, ii⟩⟩ := h
  have HS := Lib.hid hR
  have hxn : xn = s.re.length := by obtain ⟨a', c', e, h1, h2⟩ := hR.len; cases e; rfl
  have HL := Lib.hid hxn
  have HSG := Lib.hid hg
  have HHB : Hid (∀ y : World, Calls Try.prog 29 #[smV s.bl s.ba s.id (xa, xn, xc)] y fun e w' => ∃ u, e = .returned u ∧ OwnB y w' u (hdB s) ∧ Below y.heap.size y w') := fun y => sm_headB hg.1 hxn (by have := hg.many; omega)
  obtain ⟨bl, hbl⟩ : ∃ b, s.bl = b := ⟨_, rfl⟩
  obtain ⟨ba, hba⟩ : ∃ b, s.ba = b := ⟨_, rfl⟩
  obtain ⟨id, hid⟩ : ∃ b, s.id = b := ⟨_, rfl⟩
  rw [hbl, hba, hid] at HG HHB ⊢
  obtain ⟨B, hB⟩ : ∃ B, w.heap.size = B := ⟨_, rfl⟩
  have HSZ := Lib.hid hB
  obtain ⟨X, hX⟩ : ∃ X, w.alloc (.cells #[.int .i64 bl, .int .i64 ba, .int .i64 id, .slice xa xn xc] 26) = X := ⟨_, rfl⟩
  have hXs : X.heap.size = B + 1 := by rw [← hX, ← hB]; simp
  have k1 : RowC X B 26 (smL bl ba id (xa, xn, xc)) := by rw [← hX, ← hB]; exact RowC.new w _ _
  have hXb : Below B w X := by rw [← hX, ← hB]; exact below_new w _
  have LS := load_smC k1
  have HG2 := Lib.hid (HG.out X (by rw [hB]; exact hXb))
  have K1 := Lib.hid k1
  have HXB := Lib.hid hXb
  have HXS := Lib.hid hXs
  simp only [smV, slV] at LS HG2 HHB ⊢
  clear hXb k1 hbl hba hid hR ib ia ii HG hg hxn hXs
  refine (callsIn_wide (n := 3)).1 ?_
  refine callsIn_of_wp_marks Try.func12 rfl trivial ?_ rfl
  simp only [Try.ntmps12, List.size_toArray, List.length_cons, List.length_nil, Nat.reduceAdd, Nat.reduceSub, Array.replicate_succ, Array.replicate_zero, List.push_toArray, List.append_toArray, List.nil_append, List.cons_append]
  gi_wp2_with fail
  refine ⟨trivial, ?_⟩
  gi_at_call 14
  refine (callsIn_wide.2 HG2.out).mono ?_
  rintro e y ⟨rfl, hy⟩
  have LS2 := load_smC (K1.out.below hy)
  have HY := Lib.hid hy
  simp only [smV, slV] at LS2
  clear hy LS
  gi_wp2_with fail
  refine ⟨trivial, ?_⟩
  gi_at_call 29
  refine (callsIn_wide.2 (HHB.out y)).mono ?_
  rintro e z ⟨u0, rfl, ho, hz⟩
  have HZ : Hid (Below X.heap.size X z) := HY.out.trans (hz.mono HY.out.size)
  have HCK := Lib.hid (sm_checked (w := z) (OwnB.sl ho) (isBytes_hdB s) (by rw [hdB_length]; omega))
  clear ho hz LS2
  gi_wp2_with fail
  refine ⟨trivial, ?_⟩
  gi_at_call 28
  refine (callsIn_wide.2 HCK.out).mono ?_
  rintro e q ⟨u1, rfl, ho, hq⟩
  obtain ⟨⟨ux, un, uc⟩, rfl, -⟩ := own_slV ho
  have hQ : Below X.heap.size X q := HZ.out.trans (hq.mono HZ.out.size)
  obtain ⟨D, hD⟩ : ∃ D, q.heap.size = D := ⟨_, rfl⟩
  have hDB : B + 1 ≤ D := by rw [← hD, ← HXS.out]; exact hQ.size
  have own1 : OwnB w q (slV (ux, un, uc)) (sld (hdB s)) := own_weakS ho (by rw [HSZ.out]; have := HZ.out.size; have := HXS.out; omega)
  obtain ⟨W1, hW1⟩ : ∃ W1, q.alloc (.cells #[.slice ux un uc] 22) = W1 := ⟨_, rfl⟩
  have hW1s : W1.heap.size = D + 1 := by rw [← hW1, ← hD]; simp
  have bY : Below q.heap.size q W1 := by rw [← hW1]; exact below_new q _
  have r1 : RowC W1 D 22 [slV (ux, un, uc)] := by rw [← hW1, ← hD]; exact RowC.new q _ _
  have o1 := OwnB.below own1 bY
  have b1 : Below B w W1 := (HXB.out.trans ((hQ.trans (bY.mono hQ.size)).mono (by have := HXS.out; omega)))
  have c3 : W1.cell? ⟨B, 3, none⟩ = some (.slice xa xn xc) := ((K1.out.below hQ).below bY).cell 3 _ rfl
  obtain ⟨W0, hW0⟩ : ∃ W0, W1.alloc (.cells #[.slice xa xn xc] 24) = W0 := ⟨_, rfl⟩
  have bW : Below W1.heap.size W1 W0 := by rw [← hW0]; exact below_new W1 _
  have m3 : RowC W0 (D + 1) 24 [slV (xa, xn, xc)] := by rw [← hW0, ← hW1s]; exact RowC.new W1 _ _
  have hWs : W0.heap.size = D + 2 := by rw [← hW0]; simp [hW1s]
  have I0 : CoI B D W0.heap.size bl ba id (xa, xn, xc) s w 0 W0 := ⟨⟨(ux, un, uc), r1.below bW, by rw [toB_zero]; exact OwnB.below o1 bW, fun j e => by
    have := (World.ownsRow.lt (OwnB.below o1 bW) j e).2
    exact this⟩, m3, b1.trans (bW.mono (by omega))⟩
  have hseq := records1_seq 2 (by omega) (D + 1) (.slice xa xn xc) r s.re W0
  rw [← HL.out] at hseq
  have HDB := Lib.hid hDB
  have HWS := Lib.hid hWs
  simp only [slV]
  clear own1 ho hq hQ bW b1 m3 o1 r1 bY
  gi_wp2_with (first | (refine ⟨trivial, ?_⟩; gi_at_call 30; refine (records_in _ _ trivial rfl _ _ _ _).mono ?_; rintro e w' ⟨rfl, rfl⟩))
  try rw [hW1]
  try rw [hW0]
  try rw [hW1s]
  try rw [hD]
  clear hW1 hW0 hW1s hD c3
  refine wpIn_rangeFunc_numB (n := 3) rfl (by omega) (gf := 46) (lb := #[.pointer (some ⟨D + 1, 0, none⟩)]) rfl trivial (enters_of Try.func46 (by kernel_rfl) rfl)
    hseq (Below.refl _ _) (fun _ => rfl)
    (fun H k W => CoI B D H bl ba id (xa, xn, xc) s w k W)
    (fun c k W => False)
    ?hR ?hI ?hup (fun c k Y Z row h => h.elim) I0
    (fun k a' W => ∃ C q, D + 1 < C ∧ r[k]? = some q ∧ RowC W C 49 (rvL q) ∧ a' = { tmps := #[.agg #[.int .i64 bl, .int .i64 ba, .int .i64 id, .slice xa xn xc], .pointer (some ⟨B, 0, none⟩), .slice none 0 0, .int .i64 0, .pointer (some ⟨D, 0, none⟩), undef, .pointer (some ⟨C, 0, none⟩), undef, .agg #[.int .i64 bl, .int .i64 ba, .int .i64 id, .slice xa xn xc], .bool true, .bool false, .agg #[.int .i64 bl, .int .i64 ba, .int .i64 id, .slice xa xn xc], u0, .slice ux un uc, .pointer (some ⟨B, 3, none⟩), .slice xa xn xc, .func (.func 46) #[] #[.pointer (some ⟨D + 1, 0, none⟩)], .int .i64 (leastAt s.re k), rvV q, undef, undef, undef, undef, undef, undef, undef, undef, undef, undef, undef, undef, undef], defers := [] })
    ?hAx ?assign ?body ?done ?stop
  case hR =>
    intro H k W g
    exact ⟨g.lb.cell 0 _ rfl, g.lb.lt, HS.out.below (by rw [HSZ.out]; exact g.be)⟩
  case hI =>
    intro H k Y Z row g hg hr
    exact g.own (by rw [HSZ.out]; exact Nat.le_refl _) (by have := HWS.out; have := HDB.out; have := HSZ.out; omega) hg hr
  case hup =>
    intro H k W g
    obtain ⟨u, h1, h2, h3⟩ := g.bb
    exact ⟨⟨u, h1, h2, fun j e => (World.ownsRow.lt h2 j e).2⟩, g.lb, g.be⟩
  case hAx =>
    rintro k a' _ Y Z row ⟨C, q, f1, f2, f3, f4⟩ hg hr
    exact ⟨C, q, f1, f2, rowC_own f3 hg hr, f4⟩
  case assign =>
    rintro lp H k W K hH hHW hkm g hK
    obtain ⟨q, s', hq, hs, -⟩ := rcR_at HS.out (k := k) (by rw [← HL.out]; exact hkm)
    have ST := new_rc W q
    have HZ : Hid (D + 1 < W.heap.size) := g.lb.lt
    have bN := below_new W (.cells (rvL q).toArray 49)
    have hK := hK _ _ (keepsFrom_below bN) (stay_below bN (Nat.le_refl _)) (g.below (by have := HZ.out; have := HDB.out; omega) bN) ⟨W.heap.size, q, HZ.out, hq, RowC.new W _ _, rfl⟩
    rw [encR_at hq]
    clear g hq hs bN
    gi_wp2
    exact hK
  case body =>
    rintro lp H G k a' W _ _ hH hHG hGW hkm g ⟨C, q, hC, hq, hx, rfl⟩
    obtain ⟨q', s', hq', hs, hqs⟩ := rcR_at HS.out (k := k) (by rw [← HL.out]; exact hkm)
    obtain rfl : q' = q := by rw [hq] at hq'; cases hq'; rfl
    obtain ⟨q1, q2, q3, ⟨da, dn, dc⟩⟩ := q'
    have eq1 := hqs.fr
    have eq2 := hqs.ct
    have eq3 := hqs.ze
    simp only at eq1 eq2 eq3
    obtain ⟨⟨bx, bn, bc⟩, g1, g2, g3⟩ := g.bb
    have gat := HSG.out.at hs
    have glen := HSG.out.len hs
    have gto := toB_len HSG.out k
    have hts := toB_succ hs
    have hso := hqs.ok
    have KD : Hid (Below W.heap.size W W.drew) := (Below.refl _ W).drew
    have hrec := sm_record (x := s') (d := (da, dn, dc)) (w := W.drew) ⟨by omega, by omega⟩ ⟨by omega, by omega⟩ (((hqs.da.below (by rw [HSZ.out]; exact g.be))).below KD.out) (by omega)
    rw [← eq1, ← eq2, ← eq3] at hrec
    have HRC := Lib.hid hrec
    have HBY : Hid (IsBytes (rcB s')) := isBytes_rcB hso.da
    have HLN : Hid ((rcB s').length ≤ 900000) := by show _ ≤ _; rw [rcB_length]; omega
    have HTS := Lib.hid hts
    have HTO : Hid ((toB s k).length ≤ 300000) := gto
    have HLS : Hid ((sld (rcB s')).length ≤ 5000) := by show _ ≤ _; rw [sld_length, rcB_length]; omega
    have G0 := Lib.hid g
    have G1 := Lib.hid g1
    have G2 := Lib.hid g2
    have G3 := Lib.hid g3
    have HX := Lib.hid hx
    have HHG : Hid (H ≤ G) := hHG
    have HGW : Hid (G ≤ W.heap.size) := hGW
    have HHD : Hid (D + 2 ≤ H) := by have := HWS.out; show _ ≤ _; omega
    have HBH : Hid (B + 1 ≤ D) := HDB.out
    have d1 : ∀ z : KpS W D C, z.1.cell? ⟨D, 0, none⟩ = some (slV (bx, bn, bc)) := fun z => (z.fst g1).cell 0 _ rfl
    have d2 : ∀ z : KpS W D C, (loadVar 49 ⟨C, 0, none⟩).run Try.prog z.1 = .ok (rvV (q1, q2, q3, (da, dn, dc))) z.1 := fun z => load_rcC (z.snd hx)
    clear hrec hso hts gto glen gat eq1 eq2 eq3 g g1 g2 g3 hx hq hq' hs hqs hHG hGW hkm hH hC
    simp only [rvV, slV] at d1 d2 HRC ⊢
    gi_wp2
    refine region_plan_round (fun x => ∃ z : KpS W D C, x = z.1) 5 (.takes [0, 1] (.one 2 (.one 3 (.one 4 .leaf)))) (letsOut_inBlock letsOut_numB) (by kernel_rfl) hmx (by kernel_rfl) (by intro c x v a w h; exact (h : False).elim) ⟨⟨W.drew, kpS_of G1.out HX.out (G1.out.below KD.out) (HX.out.below KD.out)⟩, rfl⟩ ?_
    repeat (rw [wpPlan_takes_cons]; simp only [nth_zero, nth_succ]; go_big_quiet_step (fail); refine wpQuiet_nil ?_)
    clear d1 d2
    rw [wpPlan_takes_nil, wpPlan_one]
    simp only [nth_zero, nth_succ]
    go_wp2_with fail
    go_at_call 31
    refine HRC.out.mono ?_
    rintro e y1 ⟨v1, rfl, o1, hb1⟩
    have K1 : Hid (Below W.heap.size W y1) := KD.out.trans (hb1.mono KD.out.size)
    have HCK := Lib.hid (sm_checked (w := y1) (OwnB.sl o1) HBY.out HLN.out)
    clear o1 hb1 HRC
    go_wp2_with fail
    refine planPost_mk ⟨⟨y1, kpS_of G1.out HX.out (G1.out.below K1.out) (HX.out.below K1.out)⟩, rfl⟩ ?_
    rw [wpPlan_one]
    simp only [nth_zero, nth_succ]
    go_wp2_with fail
    go_at_call 28
    refine HCK.out.mono ?_
    rintro e y2 ⟨v2, rfl, o2, hb2⟩
    have K2 : Hid (Below W.heap.size W y2) := K1.out.trans (hb2.mono K1.out.size)
    have ob := OwnB.below G2.out K2.out
    have hbe := (G0.out.below (by rw [← HSZ.out]; exact G0.out.be.size) K2.out).be
    obtain ⟨v3, y3, r3, o3, g3⟩ := run_append_bytes w.heap.size y2 _ (toB s k) ob v2 (sld (rcB s')) (OwnB.sl o2) (by have := HTO.out; have := HLS.out; omega) (by rw [HSZ.out]; exact (by have := hbe.size; rw [HSZ.out] at this; exact this))
    rw [← HTS.out] at o3
    obtain ⟨⟨vx, vn, vc⟩, rfl, -⟩ := own_slV o3
    have R3 := Lib.hid r3
    have O3 : Hid (OwnB w y3 (slV (vx, vn, vc)) (toB s (k + 1))) := o3
    have hrow : ∀ j, (slV (bx, bn, bc)).ownBlock = some j → j < H := G3.out
    have p1 : RowC y3 D 22 [slV (bx, bn, bc)] := (G1.out.below K2.out).grown g3 (row_ne ob (G1.out.below K2.out) (by decide))
    have p2 : RowC y3 C 49 (rvL (q1, q2, q3, (da, dn, dc))) := (HX.out.below K2.out).grown g3 (row_ne ob (HX.out.below K2.out) (by decide))
    have P1 := Lib.hid p1
    have P2 := Lib.hid p2
    have P3 : Hid (RowC y3 (D + 1) 24 [slV (xa, xn, xc)]) := (G0.out.lb.below K2.out).grown g3 (row_ne ob (G0.out.lb.below K2.out) (by decide))
    have P4 : Hid (Below B w y3) := hbe.grown g3 (by have := hbe.size; rw [HSZ.out] at this; exact this) (fun j e => by have := (World.ownsRow.lt ob j e).1; rw [HSZ.out] at this; exact this)
    have HKF : Hid (KeepsFrom W0.heap.size W y3) := keepsFrom_trans (keepsFrom_below K2.out) (keepsFrom_row ob g3)
    have HST : Hid (StayG H G W y3) := (stay_below K2.out HGW.out).trans (StayG.grown g3 (Nat.le_trans HGW.out K2.out.size) (fun j e => .inl (hrow j e)))
    have f3 := p1.frozen 0
    have e3 := p1.cell 0 _ rfl
    clear o2 hb2 ob hbe r3 o3 g3 hrow p1 p2 HCK
    go_wp2_with fail
    refine planPost_mk ⟨⟨y2, kpS_of G1.out HX.out (G1.out.below K2.out) (HX.out.below K2.out)⟩, rfl⟩ ?_
    rw [wpPlan_one]
    simp only [nth_zero, nth_succ]
    simp only [slV] at R3 e3
    refine wpList_append_run (.tmp 19) (.tmp 22) 22 rfl rfl _ _ _ rfl rfl (R3.out) ?_
    go_wp2_with fail
    refine planPost_mk ⟨⟨y3, kpS_of G1.out HX.out P1.out P2.out⟩, rfl⟩ ?_
    rw [wpPlan_leaf]
    simp only [List.drop_succ_cons, List.drop_zero]
    go_wp2_with fail
    have ofin := own_setS (u := slV (vx, vn, vc)) O3.out P1.out (by decide) 0
    exact ⟨⟨keepsFrom_trans HKF.out (keepsFrom_cells P1.out (grownBy_setCellJ y3 D 0 _)), HST.out.trans (stay_set (by have := HHD.out; omega) (Nat.le_trans HGW.out HST.out.1))⟩, ⟨⟨(vx, vn, vc), P1.out.set 0 _, ofin, fun j e => (World.ownsRow.lt ofin j e).2⟩, set_other P3.out (by omega) 0 _, set_below P4.out (by have := HBH.out; omega) 0 _⟩⟩
  case done =>
    rintro Dd W hD g hK
    obtain ⟨⟨bx, bn, bc⟩, g1, g2, -⟩ := g.bb
    rw [show toB s xn = bodyB s from by rw [HL.out]; exact toB_all s] at g2
    have hlb : (bodyB s).length ≤ 300000 := by have := toB_len HSG.out s.re.length; rwa [toB_all] at this
    have c1 := g1.cell 0 _ rfl
    have hsl := OwnB.sl g2
    have hib := isBytes_bodyB hok
    obtain ⟨ck, hck⟩ : ∃ ck, fnvMore fnvInit (bodyB s) = ck := ⟨_, rfl⟩
    have hu : IsU64 (fnvMore fnvInit (bodyB s)) := isU64_more (bodyB s) isU64_init
    rw [hck] at hu
    have HC := Lib.hid (check_any _ (bodyB s) W hsl hib)
    rw [hck] at HC
    have HP : Hid (∀ x : World, Calls Try.prog 32 #[.int .u64 ck, .int .i64 8] x fun e w' => ∃ a c, e = .returned (.slice a 8 c) ∧ Sl .u8 w' (.slice a 8 c) (putL ck 8) ∧ Below x.heap.size x w') := fun x => put_sl (x := x) ck 8 (by omega) (by omega) hu.1 hu.2
    have HSL := Lib.hid hsl
    have HE : Hid ([bodyB s, [69], putL ck 8].flatten = encB s) := by show _ = _; simp [encB, hck]
    have HLn : Hid ((encB s).length ≤ 1000000) := by show _ ≤ _; simp only [encB, List.length_append, putL_length, List.length_singleton]; omega
    have hbn : bn = (bodyB s).length := by obtain ⟨a', c', e, -⟩ := (show Sl _ _ _ _ from hsl); simp only [slV, Value.slice.injEq] at e; exact e.2.1
    have HBN := Lib.hid hbn
    have G1 := Lib.hid g1
    have HBE := Lib.hid g.be
    have HK := Lib.hid hK
    have HWD : Hid (Dd < W.heap.size) := (Array.getElem?_eq_some_iff.1 hK).1
    simp only [slV] at c1 HC HSL
    clear hlb hsl hib hu hck g1 g2 g hK hbn
    gi_step
    gi_step
    gi_step
    refine wpIn_wide.2 ?_
    go_wp2_with fail
    go_at_call 33
    refine HC.out.mono ?_
    rintro e y ⟨rfl, hy⟩
    have HY := Lib.hid hy
    clear hy HC c1
    go_wp2_with fail
    go_at_call 32
    refine (HP.out y).mono ?_
    rintro e z ⟨pa, pc, rfl, hs, hz⟩
    have HZ : Hid (Below W.heap.size W z) := HY.out.trans (hz.mono HY.out.size)
    have HPS := Lib.hid hs
    have c4 := (G1.out.below HZ.out).cell 0 _ rfl
    clear hs hz HP
    simp only [slV] at c4
    obtain ⟨z1, hz1⟩ : ∃ z1, z.alloc (.cells #[.int .u8 69] 5) = z1 := ⟨_, rfl⟩
    have b1 : Below z.heap.size z z1 := by rw [← hz1]; exact below_new _ _
    have o1 : OwnB w z1 (.slice (some ⟨z.heap.size, 0, none⟩) 1 1) [69] := by rw [← hz1]; exact ownB_one w z (Nat.le_trans (by rw [HSZ.out]; have := HBE.out.size; rw [HSZ.out] at this; exact this) HZ.out.size) 69
    have K1 : Hid (Below W.heap.size W z1) := HZ.out.trans (b1.mono HZ.out.size)
    have SS := Lib.hid (sls3 (HSL.out.below K1.out) (OwnB.sl o1) (HPS.out.below b1))
    obtain ⟨z2, hz2⟩ : ∃ z2, z1.alloc (.cells #[.slice bx bn bc, .slice (some ⟨z.heap.size, 0, none⟩) 1 1, .slice pa 8 pc] 22) = z2 := ⟨_, rfl⟩
    have b2 : Below z1.heap.size z1 z2 := by rw [← hz2]; exact below_new _ _
    have K2 : Hid (Below W.heap.size W z2) := K1.out.trans (b2.mono K1.out.size)
    rw [hz2] at SS
    rw [show z1.heap.size = z.heap.size + 1 from by rw [← hz1]; simp] at SS
    have HZ1 := Lib.hid hz1
    have HZ2 := Lib.hid hz2
    have HWW : Hid (w.heap.size ≤ z2.heap.size) := Nat.le_trans (by rw [HSZ.out]; have := HBE.out.size; rw [HSZ.out] at this; exact this) K2.out.size
    clear hz1 b1 o1 hz2 b2
    go_wp2_with fail
    gi_step
    refine wpIn_wide.2 ?_
    go_wp2_with fail
    go_at_call 34
    try rw [HZ1.out]
    try rw [HZ2.out]
    clear HZ1 HZ2
    refine (concat_own (W := w) SS.out HE.out HLn.out HWW.out).mono ?_
    rintro e u ⟨v, rfl, ho, hb⟩
    have HO := Lib.hid ho
    have HU : Hid (Below W.heap.size W u) := K2.out.trans (hb.mono K2.out.size)
    clear ho hb SS
    go_wp2_with fail
    gi_wp2
    have hK2 : u.heap[Dd]? = some (.deferred (some [])) := (HU.out.block Dd HWD.out).trans HK.out
    refine ⟨by simp, .inl ⟨_, _, rfl, run_takeDeferred hK2, ?_⟩⟩
    have hg2 := grownBy_putObj' u Dd (.deferred none)
    refine ⟨_, results_tmp2 rfl _ _ _, v, rfl, row_own (M := 0) HO.out hg2 (fun r e => by cases e; exact ⟨Nat.zero_le _, _, hK2, rfl⟩), ?_⟩
    rw [HSZ.out]
    exact (HBE.out.trans (HU.out.mono (by have := HBE.out.size; rw [HSZ.out] at this; exact this))).trans (belowK_b (w := w) (by rw [HSZ.out]; exact Nat.le_refl _) u Dd _ _ (by have := HWS.out; have := HDB.out; have := HSZ.out; omega) hK2 rfl rfl)
  case stop =>
    rintro Dd c k W hD _ h hK
    exact h.elim
end Go.Proofs.Ytfihpljgbghogaa

/- The guard that every statement on streams ends with. -/
namespace Go.Proofs.Ytfihpljgbghogaa
open Go.RowKit Go.Shelf
set_option linter.unusedVariables false
set_option linter.unusedSimpArgs false
set_option maxRecDepth 100000 in
theorem zero_smB (w : World) : (zeroValue 26).run Try.prog w = .ok (.agg #[.int .i64 0, .int .i64 0, .int .i64 0, .slice none 0 0]) w := by kernel_rfl
attribute [-simp] Try.isAgg49 Try.zeroValue49 Try.isAgg26 Try.zeroValue26
attribute [-go_sem] loadVar storeVar
attribute [local go_sem] zero_rc zero_smB build_rcZ build_rcD build_sm3 build_sm4

theorem i64_small {n : Int} (h : -1000000000 ≤ n ∧ n ≤ 1000000000) : I64 n := by unfold I64; omega
theorem sl_lit {xs : List Int} (w : World) (h : xs.length ≤ 1000) : Sl .u8 (w.alloc (.cells (u8s xs).toArray 5)) (.slice (some ⟨w.heap.size, 0, none⟩) xs.length xs.length) xs :=
  sl_new (g := w.heap.size) (xs := xs) (heap_alloc_new w _) (by unfold maxLen; omega)

end Go.Proofs.Ytfihpljgbghogaa

