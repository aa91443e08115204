/- The developers' range function over the parts of a disk: its contract. -/
import Derived.Test.YtnffaekbldcphaaGmDv
import Derived.Test.YtnffaekbldcphaaPgChk
import Derived.RangeFuncNested
namespace Go.Proofs.Ytnffaekbldcphaa
open Go.RowKit Go.Shelf
set_option linter.unusedVariables false
attribute [-go_sem] loadVar storeVar
attribute [local go_sem] loadVar_openG storeVar_openG
attribute [local go_sem] Oper.semAt_some

/-- One of some numbers. -/
def ctAt (cs : List Int) (k : Nat) : Int := cs[k]?.getD 0
/-- Numbers one behind the other. -/
def sumTo (cs : List Int) (k : Nat) : Int := (cs.take k).sum
theorem sumTo_succ (cs : List Int) {k : Nat} (h : k < cs.length) : sumTo cs (k + 1) = sumTo cs k + ctAt cs k := by
  unfold sumTo
  unfold ctAt
  rw [List.take_succ_eq_append_getElem h, List.getElem?_eq_getElem h, List.sum_append]
  simp
theorem sumTo_bd (cs : List Int) (h : ∀ k : Nat, 0 ≤ ctAt cs k ∧ ctAt cs k ≤ 1000) : ∀ k, 0 ≤ sumTo cs k ∧ sumTo cs k ≤ 1000 * k
  | 0 => by simp [sumTo]
  | k + 1 => by
    have := sumTo_bd cs h k
    by_cases hk : k < cs.length
    · rw [sumTo_succ cs hk]
      have := h k
      omega
    · have e : sumTo cs (k + 1) = sumTo cs k := by unfold sumTo; rw [List.take_of_length_le (by omega), List.take_of_length_le (by omega)]
      rw [e]
      omega
/-- A part: its number, its first sector, how many. -/
def encSp (cs : List Int) {m : Nat} (x : Fin m) : Array Value := #[.int .i64 (x.1 : Int), .agg #[.int .i64 (sumTo cs x.1), .int .i64 (ctAt cs x.1)]]
/-- Numbers of sectors that may be. -/
structure Cnts (cs : List Int) : Prop where
  len : cs.length ≤ 4
  bd : ∀ k : Nat, 0 ≤ ctAt cs k ∧ ctAt cs k ≤ 1000
/-- The parts, in memory. -/
structure LaidR (W : World) (Bs : Nat) (cs : List Int) (a : Option Addr) (b : Nat) : Prop where
  box : Boxed W Bs 44 (.slice a cs.length cs.length)
  lt : Bs < W.heap.size
  blt : b < W.heap.size
  row : cs.length = 0 ∨ (a = some ⟨b, 0, none⟩ ∧ ∀ j, j < cs.length → W.cell? ⟨b, 0 + j, none⟩ = some (.int .i64 (ctAt cs j)))
theorem LaidR.below {W W' : World} {Bs b : Nat} {cs : List Int} {a : Option Addr} (h : LaidR W Bs cs a b) (hb : Below W.heap.size W W') : LaidR W' Bs cs a b :=
  ⟨(hb.block Bs h.lt).trans h.box, Nat.lt_of_lt_of_le h.lt hb.size, Nat.lt_of_lt_of_le h.blt hb.size, h.row.imp id fun ⟨e, h2⟩ => ⟨e, fun j hj => (hb.cell (p := ⟨b, 0 + j, none⟩) h.blt).trans (h2 j hj)⟩⟩

section
set_option maxRecDepth 100000
set_option maxHeartbeats 2000000
set_option maxRecDepth 100000 in
theorem build_span (f c : Int) (w : World) : (Instr.build 36 #[(0, .int .i64 f), (1, .int .i64 c)]).run Try.prog w = .ok (.agg #[.int .i64 f, .int .i64 c]) w := by kernel_rfl
set_option maxRecDepth 100000 in
theorem laid_in (F : Fence) (n : Nat) (hf : F.fn 33) (hro : F.round = none) (a : Option Addr) (len cap : Nat) (w : World) :
    CallsIn F n Try.prog 33 #[.slice a len cap] w fun e w' => e = .returned (.func (.func 34) #[] #[.pointer (some ⟨w.heap.size, 0, none⟩)]) ∧ w' = w.alloc (.cells #[.slice a len cap] 44) := by
  refine callsIn_of_wp Try.func33 rfl hf ?_ hro
  simp only [Try.ntmps33, List.size_toArray, List.length_cons, List.length_nil, Nat.reduceAdd, Nat.reduceSub, Array.replicate_succ, Array.replicate_zero, List.push_toArray, List.append_toArray, List.nil_append, List.cons_append]
  gi_wp2
  go_ret
  exact ⟨rfl, rfl⟩
attribute [local go_sem] build_span
set_option maxRecDepth 100000 in
theorem laid1_in (n : Nat) (hn : 1 ≤ n) (l Bs b : Nat) (cs : List Int) (a : Option Addr) (hcs : Cnts cs)
    (J Jx : List (Fin cs.length) → World → Prop)
    (hY : ∀ pre x W, J pre W → pre.length < cs.length → YieldAt Fence.wide (n - 1) Try.prog l (encSp cs x) W fun e W' =>
      (e = .returned (.bool true) ∧ J (pre ++ [x]) W' ∧ KpC (fun k => k = Bs ∨ k = b) W W') ∨ (e = .returned (.bool false) ∧ Jx (pre ++ [x]) W'))
    (W : World) (hL : LaidR W Bs cs a b) (h0 : J [] W) :
    CallsIn Fence.wide n Try.prog 34 #[.func (.yield l) #[] #[], .pointer (some ⟨Bs, 0, none⟩)] W fun e W' => (∃ v, e = .returned v) ∧
      ((∃ ys, ys = List.finRange cs.length ∧ J ys W') ∨ (∃ pre, (∃ k, k ≤ cs.length ∧ pre = upto cs.length k) ∧ Jx pre W')) := by
  refine callsIn_of_wp Try.func34 rfl trivial ?_ rfl
  simp only [Try.ntmps34, List.size_toArray, List.length_cons, List.length_nil, Nat.reduceAdd, Nat.reduceSub, Array.replicate_succ, Array.replicate_zero, List.push_toArray, List.append_toArray, List.nil_append, List.cons_append]
  have c0 := hL.box.cell
  have HL := Lib.hid hL
  have HCS := Lib.hid hcs
  obtain ⟨m, hm⟩ : ∃ m, cs.length = m := ⟨_, rfl⟩
  have HM := Lib.hid hm
  have hmx : m ≤ 4 := by rw [← hm]; exact hcs.len
  rw [hm] at c0
  clear hL hcs hm
  gi_wp2
  gi_loopw [3, 8] (fun f i wr => ∃ k : Nat, k ≤ m ∧ i = .int .i64 k ∧ f = .int .i64 (sumTo cs k) ∧ J (upto cs.length k) wr ∧ Hid (KpC (fun k => k = Bs ∨ k = b) W wr)) (fun f i _ => m - (intOf i).toNat)
  case atStart => exact ⟨0, Nat.zero_le _, rfl, rfl, h0, KpC.refl _ _⟩
  case round =>
    obtain ⟨k, hk, rfl, rfl, hJs, HK⟩ := hrel
    by_cases hlt : k < m
    · have hlt' : k < cs.length := by rw [HM.out]; exact hlt
      obtain ⟨rfl, hc⟩ : a = some ⟨b, 0, none⟩ ∧ ∀ j, j < cs.length → W.cell? ⟨b, 0 + j, none⟩ = some (.int .i64 (ctAt cs j)) := by
        rcases HL.out.row with h | h
        · omega
        · exact h
      have c2 : wr.cell? ⟨b, k, none⟩ = some (.int .i64 (ctAt cs k)) := by have := (HK.out.cell (p := ⟨b, 0 + k, none⟩) (.inr rfl)).trans (hc k hlt'); rwa [Nat.zero_add] at this
      obtain ⟨fn, tmps, assign, body, hy, hR⟩ := hY _ ⟨k, hlt'⟩ wr hJs (by rw [upto_length _ k (by omega)]; exact hlt')
      unfold encSp at hy
      dsimp only at hy
      have HSU := Lib.hid (sumTo_succ cs hlt')
      obtain ⟨s1, s2⟩ := sumTo_bd cs HCS.out.bd k
      obtain ⟨q1, q2⟩ := HCS.out.bd k
      obtain ⟨y, hY'⟩ : ∃ y, ctAt cs k = y := ⟨_, rfl⟩
      obtain ⟨s, hS⟩ : ∃ y, sumTo cs k = y := ⟨_, rfl⟩
      rw [hY'] at c2 hy q1 q2 HSU
      rw [hS] at hy s1 s2 HSU ⊢
      have hkm : (k : Int) < (m : Int) := by omega
      have s3 : s ≤ 4000 := by omega
      clear hc hY' hS
      gi_wp2
      refine hR.mono ?_
      rintro e W3 (⟨rfl, hJ3, hk3⟩ | ⟨rfl, hJx3⟩)
      · have HK3 : Hid (KpC (fun k => k = Bs ∨ k = b) W W3) := kpC_t HK.out hk3
        clear hk3
        gi_wp2
        go_roundw
        case rel => exact ⟨k + 1, by omega, by simp, by rw [HSU.out], by rw [upto_succ cs.length k hlt']; exact hJ3, HK3⟩
        case measure => simp [intOf]; omega
      · gi_wp2
        refine bodyPost_ret (results_none rfl _ _ _) rfl ?_
        exact ⟨⟨_, rfl⟩, .inr ⟨_, ⟨k + 1, by omega, (upto_succ cs.length k hlt').symm⟩, hJx3⟩⟩
    · have hJe : J (upto cs.length cs.length) wr := by
        have e : k = cs.length := by have := HM.out; omega
        rw [e] at hJs
        exact hJs
      obtain rfl : k = m := by omega
      gi_wp2
      go_end0
      exact ⟨⟨_, rfl⟩, .inl ⟨_, rfl, by rw [← upto_all]; exact hJe⟩⟩
set_option maxRecDepth 100000 in
theorem laid_stops (n : Nat) (hn : 1 ≤ n) (Bs b : Nat) (cs : List Int) (a : Option Addr) (hcs : Cnts cs) (w : World) (hL : LaidR w Bs cs a b) :
    SeqStopsK Fence.wide n Try.prog 34 #[.pointer (some ⟨Bs, 0, none⟩)] (encSp cs (m := cs.length)) (KpC fun k => k = Bs ∨ k = b) (fun ys => ys = List.finRange cs.length) (fun _ => True) cs.length w := fun l J Jx W hW hJ _ hY h0 =>
  (laid1_in n hn l Bs b cs a hcs J Jx hY W (hL.below hW) h0).mono fun e W' ⟨he, h⟩ => ⟨he, h.imp id fun ⟨pre, _, hj⟩ => ⟨pre, trivial, hj⟩⟩
end
end Go.Proofs.Ytnffaekbldcphaa
