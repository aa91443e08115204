/- The developers' range function over snapshots: each comes, with its number, in order. -/
import Derived.Test.YtiidfffedoekiaaChSn
import Derived.Test.YtiidfffedoekiaaNum
import Derived.Test.YtiidfffedoekiaaValues
import Derived.LoopTactic
namespace Go.Proofs.Ytiidfffedoekiaa
open Go.RowKit Go.Shelf
set_option linter.unusedVariables false
attribute [-simp] Try.isAgg39 Try.zeroValue39
attribute [-go_sem] loadVar storeVar
attribute [local go_sem] loadVar_openS storeVar_openS zero_sn
attribute [local go_sem] Oper.semAt_some

def svz : SV := (0, (none, 0, 0), (none, 0, 0))
/-- The item number k: the number and the snapshot at lo + k. -/
def encS (r : List SV) (lo k : Nat) : Array Value := #[.int .i64 ((lo + k : Nat) : Int), svV (r[lo + k]?.getD svz)]
/-- What the boxes of the range function hold. -/
structure SpB (Bi Bj Bl : Nat) (i j : Int) (v : Value) (r : List SV) (l : List SN) (W : World) : Prop where
  ci : W.cell? ⟨Bi, 0, none⟩ = some (.int .i64 i)
  cj : W.cell? ⟨Bj, 0, none⟩ = some (.int .i64 j)
  cl : W.cell? ⟨Bl, 0, none⟩ = some v
  sn : SnR W v r l
def mnOf (n : Nat) (j : Int) : Int := if j < (n : Int) then j else (n : Int)
theorem mnOf_lt (l : List SN) (j : Int) (a : Nat) : (a : Int) < mnOf l.length j ↔ a < hiOf l j := by
  unfold mnOf hiOf
  split <;> omega

set_option maxRecDepth 100000 in
set_option maxHeartbeats 1000000 in
/-- The list and the bounds are boxed; the function value holds the boxes. -/
theorem span_in (F : Fence) (n : Nat) (hf : F.fn 36) (hro : F.round = none) (a : Option Addr) (len cap : Nat) (i j : Int) (w : World) :
    CallsIn F n Try.prog 36 #[.slice a len cap, .int .i64 i, .int .i64 j] w fun e w' => e = .returned (.func (.func 51) #[] #[.pointer (some ⟨w.heap.size + 1, 0, none⟩), .pointer (some ⟨w.heap.size + 2, 0, none⟩), .pointer (some ⟨w.heap.size, 0, none⟩)]) ∧
      w' = ((w.alloc (.cells #[.slice a len cap] 22)).alloc (.cells #[.int .i64 i] 3)).alloc (.cells #[.int .i64 j] 3) := by
  refine callsIn_of_wp Try.func36 rfl hf ?_ hro
  simp only [Try.ntmps36, List.size_toArray, List.length_cons, List.length_nil, Nat.reduceAdd, Nat.reduceSub, Array.replicate_succ, Array.replicate_zero, List.push_toArray, List.append_toArray, List.nil_append, List.cons_append]
  gi_wp2
  go_ret
  exact ⟨rfl, rfl⟩

set_option maxRecDepth 100000 in
set_option maxHeartbeats 4000000 in
theorem span1_seq (n : Nat) (hn : 1 ≤ n) (Bi Bj Bl : Nat) (i j : Int) (v : Value) (r : List SV) (l : List SN) (w : World) :
    SeqNum Fence.wide n Try.prog 51 #[.pointer (some ⟨Bi, 0, none⟩), .pointer (some ⟨Bj, 0, none⟩), .pointer (some ⟨Bl, 0, none⟩)] (encS r (loOf i)) (SpB Bi Bj Bl i j v r l) (hiOf l j - loOf i) w := by
  intro lp J Jx W hW hJR _ _ hY h0
  have hR0 := hJR 0 W h0
  have HJR := Lib.hid hJR
  have HY := Lib.hid hY
  obtain ⟨lo, hlo⟩ : ∃ lo, loOf i = lo := ⟨_, rfl⟩
  obtain ⟨m, hm⟩ : ∃ m, hiOf l j - loOf i = m := ⟨_, rfl⟩
  have hmax : ∀ (ts : Array TypeId) (t : TypeId) (W : World), (Builtin.max_ ts t #[.int .i64 i, .int .i64 0]).run Try.prog W = .ok (.int .i64 (lo : Int)) W := fun ts t W => by
    rw [run_max_int2, ← hlo]
    unfold loOf
    congr 2
    split <;> omega
  have hci := hR0.ci
  have hll : l.length ≤ maxLen := by obtain ⟨a, c, e, h1, h2, -⟩ := hR0.sn; omega
  have hHI := hiOf_le l j
  rw [hm, hlo] at HY
  rw [hlo] at hm
  obtain ⟨mn, hmn⟩ : ∃ mn, mnOf l.length j = mn := ⟨_, rfl⟩
  have hlt0 := mnOf_lt l j
  rw [hmn] at hlt0
  have hLT : ∀ k : Nat, ((lo + k : Nat) : Int) < mn ↔ k < m := fun k => by rw [hlt0]; omega
  have hIN : ∀ k : Nat, k < m → lo + k < l.length := fun k hk => by omega
  have HLT := Lib.hid hLT
  have HIN := Lib.hid hIN
  have HML := Lib.hid hll
  have hmin : ∀ (ts : Array TypeId) (t : TypeId) (W : World), (Builtin.min_ ts t #[.int .i64 j, .int .i64 (l.length : Int)]).run Try.prog W = .ok (.int .i64 mn) W := fun ts t W => by
    rw [run_min_int2, ← hmn]
    unfold mnOf
    congr 2
    split <;> omega
  rw [show hiOf l j - loOf i = m from by rw [hlo]; exact hm]
  clear hlo hm hmn hlt0 hLT hIN hll hHI hR0 hY hJR hW
  refine callsIn_of_wp Try.func51 rfl trivial ?_ rfl
  simp only [Try.ntmps51, List.size_toArray, List.length_cons, List.length_nil, Nat.reduceAdd, Nat.reduceSub, Array.replicate_succ, Array.replicate_zero, List.push_toArray, List.append_toArray, List.nil_append, List.cons_append]
  gi_wp2
  gi_loopw [5] (fun x wr => ∃ k : Nat, k ≤ m ∧ x = .int .i64 ((lo + k : Nat) : Int) ∧ J k wr) (fun x _ => (lo + m) - (intOf x).toNat)
  case atStart => exact ⟨0, Nat.zero_le _, rfl, h0⟩
  case round =>
    obtain ⟨k, hk, rfl, hJs⟩ := hrel
    have hb := HJR.out k wr hJs
    obtain ⟨a, cap, rfl, h1, h2, h3⟩ : ∃ a cap, v = .slice a l.length cap ∧ l.length ≤ cap ∧ cap ≤ maxLen ∧ True := by obtain ⟨a, c, e, h1, h2, -⟩ := hb.sn; exact ⟨a, c, e, h1, h2, trivial⟩
    have c1 := hb.cj
    have c2 := hb.cl
    obtain ⟨q, hq⟩ : ∃ q : Nat, lo + k = q := ⟨_, rfl⟩
    rw [hq]
    by_cases hkm : k < m
    · have g1 : (q : Int) < mn := by rw [← hq]; exact (HLT.out k).2 hkm
      have g2 : (q : Int) < (l.length : Int) := by have := HIN.out k hkm; omega
      have hml : l.length ≤ maxLen := HML.out
      have hW1 : Hid (wrap64 ((q : Int) + 1) = (q : Int) + 1) := IntWalk.wrap64_in _ (by unfold maxLen at hml; omega)
      obtain ⟨s, hs⟩ : ∃ s, l[q]? = some s := ⟨_, List.getElem?_eq_getElem (by omega)⟩
      obtain ⟨b, off, x, rfl, hbl, hx, -, d1, d2, d3⟩ := hb.sn.at hs
      have LD := load_sn d1 d2 d3
      have hy0 := HY.out k wr hkm hJs
      unfold encS at hy0
      rw [hq, hx] at hy0
      simp only [Option.getD_some] at hy0
      obtain ⟨fn, tmps, assign, body, hy, hRR⟩ := hy0
      have HKM := Lib.hid hkm
      have HQ := Lib.hid hq
      clear hb hs hx d1 d2 d3 hkm hq hml h1 h2 h3
      gi_wp2
      refine hRR.mono ?_
      rintro e W3 (⟨rfl, hJ3⟩ | ⟨rfl, hJx3⟩)
      · have HJ3 := Lib.hid hJ3
        clear hJ3
        gi_wp2
        go_roundw
        case rel => exact ⟨k + 1, HKM.out, by rw [hW1.out]; have := HQ.out; simp only [Value.int.injEq, true_and]; omega, HJ3.out⟩
        case measure => rw [hW1.out]; have := HQ.out; have := HKM.out; simp [intOf]; omega
      · have HJ3 := Lib.hid hJx3
        clear hJx3
        gi_wp2
        refine bodyPost_ret (results_none rfl _ _ _) rfl ?_
        exact ⟨⟨_, rfl⟩, .inr ⟨k + 1, HKM.out, HJ3.out⟩⟩
    · have g1 : ¬ (q : Int) < mn := by rw [← hq]; exact fun h => hkm ((HLT.out k).1 h)
      obtain rfl : k = m := by omega
      have HJ := Lib.hid hJs
      clear hb hJs hq
      gi_wp2
      go_end0
      exact ⟨⟨_, rfl⟩, .inl HJ.out⟩
end Go.Proofs.Ytiidfffedoekiaa
