/- The small functions of the developers' bits: size, holds, bit, New, Has, With, Or; Clone. -/
import Derived.Test.YtiidfffedoekiaaBiMath
import Derived.Test.YtiidfffedoekiaaBytes
import Derived.Test.YtiidfffedoekiaaOrd
import Derived.Test.YtiidfffedoekiaaState
import Derived.Test.YtiidfffedoekiaaQuiet
import Derived.Test.YtiidfffedoekiaaMake
import Derived.Laws.BitsAllLaws
import Derived.Lib.SmallJoins
namespace Go.Proofs.Ytiidfffedoekiaa
open Go.RowKit Go.Shelf
set_option linter.unusedVariables false

/-- The table of trailing zeros. -/
def tzTab : ByteArray := ⟨#[8, 0, 1, 0, 2, 0, 1, 0, 3, 0, 1, 0, 2, 0, 1, 0, 4, 0, 1, 0, 2, 0, 1, 0, 3, 0, 1, 0, 2, 0, 1, 0, 5, 0, 1, 0, 2, 0, 1, 0, 3, 0, 1, 0, 2, 0, 1, 0, 4, 0, 1, 0, 2, 0, 1, 0, 3, 0, 1, 0, 2, 0, 1, 0, 6, 0, 1, 0, 2, 0, 1, 0, 3, 0, 1, 0, 2, 0, 1, 0, 4, 0, 1, 0, 2, 0, 1, 0, 3, 0, 1, 0, 2, 0, 1, 0, 5, 0, 1, 0, 2, 0, 1, 0, 3, 0, 1, 0, 2, 0, 1, 0, 4, 0, 1, 0, 2, 0, 1, 0, 3, 0, 1, 0, 2, 0, 1, 0, 7, 0, 1, 0, 2, 0, 1, 0, 3, 0, 1, 0, 2, 0, 1, 0, 4, 0, 1, 0, 2, 0, 1, 0, 3, 0, 1, 0, 2, 0, 1, 0, 5, 0, 1, 0, 2, 0, 1, 0, 3, 0, 1, 0, 2, 0, 1, 0, 4, 0, 1, 0, 2, 0, 1, 0, 3, 0, 1, 0, 2, 0, 1, 0, 6, 0, 1, 0, 2, 0, 1, 0, 3, 0, 1, 0, 2, 0, 1, 0, 4, 0, 1, 0, 2, 0, 1, 0, 3, 0, 1, 0, 2, 0, 1, 0, 5, 0, 1, 0, 2, 0, 1, 0, 3, 0, 1, 0, 2, 0, 1, 0, 4, 0, 1, 0, 2, 0, 1, 0, 3, 0, 1, 0, 2, 0, 1, 0]⟩
theorem tz_size : tzTab.size = 256 := by decide +kernel
theorem tz_tab : ∀ q : Fin 256, wrap64 ((tzTab[q.1]'(by rw [tz_size]; exact q.2)).toNat : Int) = (ctzN q.1 : Int) := by decide +kernel

set_option maxRecDepth 100000 in
set_option maxHeartbeats 2000000 in
theorem bi_tz (r : Nat) (h : r < 256) (w : World) : Calls Try.prog 63 #[.int .u8 (r : Int)] w fun e w' => e = .returned (.int .i64 (ctzN r : Int)) ∧ w' = w := by
  go_enter Try.func63, Try.ntmps63
  go_wp2
  go_ret
  refine ⟨?_, rfl⟩
  exact congrArg (fun x => Ending.returned (Value.int .i64 x)) (tz_tab ⟨r, h⟩)

theorem bi_lt {n k : Nat} (hk : k < n) : n - (intOf (Value.int .i64 ((k : Int) + 1))).toNat < n - (intOf (Value.int .i64 (k : Int))).toNat := by
  simp only [intOf]
  omega
theorem i64_bd {n : Int} (h : (Lit.int .i64 n).wf = true) : -9223372036854775808 ≤ n ∧ n ≤ 9223372036854775807 := by
  have := range_i64 (zs := [n]) (fun x hx => by rw [List.mem_singleton.1 hx]; exact h) 0
  simpa using this

set_option maxRecDepth 100000 in
set_option maxHeartbeats 2000000 in
theorem bi_size (n : Int) (w : World) : Calls Try.prog 67 #[.int .i64 n] w fun e w' => e = .returned (.int .i64 (sizeB n : Int)) ∧ w' = w := by
  obtain ⟨s, hs⟩ : ∃ s : Int, (sizeB n : Int) = s := ⟨_, rfl⟩
  rw [hs]
  have HS := Lib.hid hs
  clear hs
  by_cases h1 : n < 1
  · have e : s = 0 := by rw [← HS.out, sizeB, if_pos (.inl h1)]; rfl
    subst e
    go_enter Try.func67, Try.ntmps67
    go_wp2
    go_ret
    exact ⟨rfl, rfl⟩
  · by_cases h2 : 4096 < n
    · have e : s = 0 := by rw [← HS.out, sizeB, if_pos (.inr h2)]; rfl
      subst e
      go_enter Try.func67, Try.ntmps67
      go_wp2
      go_ret
      exact ⟨rfl, rfl⟩
    · have e : (n + 8 - 1) / 8 = s := by rw [← HS.out, sizeB, if_neg (by omega)]; omega
      go_enter Try.func67, Try.ntmps67
      go_wp2
      go_ret
      exact ⟨rfl, rfl⟩

set_option maxRecDepth 100000 in
set_option maxHeartbeats 2000000 in
theorem bi_holds (a : Option Addr) (len cap : Nat) (i : Int) (hi : (Lit.int .i64 i).wf = true) (w : World) : Calls Try.prog 68 #[.slice a len cap, .int .i64 i] w fun e w' => e = .returned (.bool (decide (0 ≤ i ∧ i / 8 < len))) ∧ w' = w := by
  obtain ⟨b, hb⟩ : ∃ b, decide (0 ≤ i ∧ i / 8 < len) = b := ⟨_, rfl⟩
  rw [hb]
  have HB := Lib.hid hb
  have hr := i64_bd hi
  clear hb
  by_cases h1 : 0 ≤ i
  · have e : wrap64 (i.tdiv 8) = i / 8 := by
      rw [Int.tdiv_eq_ediv_of_nonneg h1]
      unfold wrap64; omega
    have HE := Lib.hid e
    clear e hr
    go_enter Try.func68, Try.ntmps68
    go_wp2
    go_ret
    refine ⟨congrArg (fun x => Ending.returned (Value.bool x)) ?_, rfl⟩
    rw [HE.out, ← HB.out]
    simp [h1]
  · have e : b = false := by rw [← HB.out]; exact decide_eq_false (by omega)
    subst e
    go_enter Try.func68, Try.ntmps68
    go_wp2
    go_ret
    exact ⟨rfl, rfl⟩

set_option maxRecDepth 100000 in
set_option maxHeartbeats 2000000 in
theorem bi_bit (i : Nat) (hi : i < 9223372036854775808) (w : World) : Calls Try.prog 69 #[.int .i64 (i : Int)] w fun e w' => e = .returned (.int .u8 (2 ^ (i % 8))) ∧ w' = w := by
  have e : (2 : Int) ^ (i % 8) % 256 = 2 ^ (i % 8) := pow_cases (fun k => (2 : Int) ^ k % 256 = 2 ^ k) (by decide) (by decide) (by decide) (by decide) (by decide) (by decide) (by decide) (by decide) (i % 8) (by omega)
  have HE := Lib.hid e
  clear e
  go_enter Try.func69, Try.ntmps69
  go_wp2
  go_ret
  exact ⟨congrArg (fun x => Ending.returned (Value.int .u8 x)) HE.out, rfl⟩

set_option maxRecDepth 100000 in
theorem eql_some (p : Addr) (n c : Nat) (w : World) : (binOp .eql 31 (.slice (some p) n c) (.slice none 0 0)).run Try.prog w = .ok (.bool false) w := by kernel_rfl
set_option maxRecDepth 100000 in
theorem eql_none (w : World) : (binOp .eql 31 (.slice none 0 0) (.slice none 0 0)).run Try.prog w = .ok (.bool true) w := by kernel_rfl
attribute [local go_sem] eql_some eql_none

set_option maxRecDepth 100000 in
set_option maxHeartbeats 2000000 in
/-- The library's Clone of bytes. -/
theorem bi_clone (v : Value) (bs : List Int) (w : World) (hv : Sl .u8 w v bs) (hlen : bs.length ≤ 140737488355328) : Calls Try.prog 52 #[v] w fun e w' => ∃ v', e = .returned v' ∧ w'.ownsRow w.heap.size 5 1 v' bs.length (bs.map (Value.int .u8)) ∧ Below w.heap.size w w' := by
  obtain ⟨v3, w3, HA, HO, HB⟩ := copy_lit w v bs hv hlen
  obtain ⟨a, cap, rfl, hc, hm, hl, hn⟩ := hv
  cases a with
  | none =>
    obtain rfl := hn rfl
    have hz : bs = [] := List.eq_nil_of_length_eq_zero (by omega)
    subst hz
    clear HA HO HB
    go_enter Try.func52, Try.ntmps52
    go_wp2
    go_ret
    exact ⟨_, rfl, World.ownsRow_nil _ _ _ _, Below.refl _ _⟩
  | some x =>
    clear hl hn hc hm
    go_enter Try.func52, Try.ntmps52
    go_wp2_with (at_builtin; refine wpList_append_run (.tmp 5) (.tmp 6) 31 rfl rfl _ _ _ rfl rfl HA.out ?_)
    go_ret
    exact ⟨_, rfl, HO.out, HB.out⟩

theorem own_set {w : World} {base g cap : Nat} {bs : List Int} (h : w.ownsRow base 5 1 (.slice (some ⟨g, 0, none⟩) bs.length cap) bs.length (bs.map (Value.int .u8))) (j : Nat) (x : Int) :
    (w.setCell ⟨g, j, none⟩ (.int .u8 x)).ownsRow base 5 1 (.slice (some ⟨g, 0, none⟩) (bs.set j x).length cap) (bs.set j x).length ((bs.set j x).map (Value.int .u8)) := by
  have := (h.stored j (.int .u8 x)).1
  rw [List.length_set, List.map_set]
  exact this
theorem own_ge {w : World} {base g n cap : Nat} {e : TypeId} {xs : List Value} (h : w.ownsRow base e 1 (.slice (some ⟨g, 0, none⟩) n cap) n xs) : base ≤ g := by
  rcases h.2 with ⟨h', _⟩ | ⟨g', cap', cur, h', hb, _⟩
  · simp at h'
  · simp only [Value.slice.injEq, Option.some.injEq, Addr.mk.injEq, and_true, true_and] at h'
    obtain ⟨rfl, _⟩ := h'
    exact hb

set_option maxRecDepth 100000 in
set_option maxHeartbeats 2000000 in
/-- **Has**. -/
theorem bi_has (v : Value) (bs : List Int) (i : Int) (hi : (Lit.int .i64 i).wf = true) (w : World) (hv : Sl .u8 w v bs) (hb : IsBytes bs) :
    Calls Try.prog 57 #[v, .int .i64 i] w fun e w' => e = .returned (.bool (hasB bs i)) ∧ Below w.heap.size w w' := by
  have hmx : Try.prog.follows .mixedOrders = true := by kernel_rfl
  obtain ⟨a, cap, rfl, hcc, hcm, hl, -⟩ := hv
  obtain ⟨L, hL⟩ : ∃ L, bs.length = L := ⟨_, rfl⟩
  have HL := Lib.hid hL
  have HR := Lib.hid (i64_bd hi)
  have HQ : Hid (∀ x : Ext w, Calls Try.prog 68 #[.slice a L cap, .int .i64 i] x.1 fun e w' => e = .returned (.bool (decide (0 ≤ i ∧ i / 8 < (L : Int)))) ∧ ∃ y : Ext w, w' = y.1) :=
    fun x => (bi_holds a L cap i hi x.1).mono fun e w' ⟨h1, h2⟩ => ⟨h1, x, h2⟩
  rw [hL] at hcc ⊢
  clear hL hi
  by_cases h : 0 ≤ i ∧ i / 8 < (L : Int)
  · rw [decide_eq_true h] at HQ
    obtain ⟨n, rfl⟩ := Int.eq_ofNat_of_zero_le h.1
    obtain ⟨x, hx⟩ : ∃ x, bs[n / 8]?.getD 0 = x := ⟨_, rfl⟩
    obtain ⟨k, hk⟩ : ∃ k, n / 8 = k := ⟨_, rfl⟩
    have hn : k < L := by omega
    obtain ⟨y, rfl, hy8⟩ : ∃ y : Nat, x = (y : Int) ∧ y < 256 := by
      obtain ⟨y, h1, h2⟩ := byte_of bs hb (n / 8)
      exact ⟨y, by rw [← hx, h1], h2⟩
    obtain ⟨b, o, rfl, hbw, hcs⟩ : ∃ b o, a = some ⟨b, o, none⟩ ∧ b < w.heap.size ∧ ∀ j, j < bs.length → w.cell? ⟨b, o + j, none⟩ = some (.int .u8 (bs[j]?.getD 0)) := by
      rcases hl with h | h
      · have := HL.out; rw [h] at this; simp at this; omega
      · exact h
    have c1 : ∀ y' : Ext w, y'.1.cell? ⟨b, o + k, none⟩ = some (.int .u8 (y : Int)) := fun y' => by
      rw [y'.2.cell (p := ⟨b, o + k, none⟩) hbw, hcs k (by rw [HL.out]; exact hn), ← hk, hx]
    have hq : (n : Int) / 8 = (k : Int) := by omega
    have hres : hasB bs (n : Int) = y.testBit (n % 8) := by
      rw [has_nat]; unfold bitAt; rw [hx, Int.toNat_natCast]
    have HBt : Hid (∀ x : Ext w, Calls Try.prog 69 #[.int .i64 (n : Int)] x.1 fun e w' => e = .returned (.int .u8 (2 ^ (n % 8))) ∧ ∃ y : Ext w, w' = y.1) :=
      fun x => (bi_bit n (by have := HR.out; omega) x.1).mono fun e w' ⟨h1, h2⟩ => ⟨h1, x, h2⟩
    obtain ⟨j, hj⟩ : ∃ j, n % 8 = j := ⟨_, rfl⟩
    have hj8 : j < 8 := by omega
    obtain ⟨q, hq2⟩ : ∃ q : Int, (2 : Int) ^ (n % 8) = q := ⟨_, rfl⟩
    have hpq : q = ((2 ^ j : Nat) : Int) := by rw [← hq2, hj]; simp
    have hp8 : 2 ^ j < 256 := Nat.lt_of_lt_of_le (Nat.pow_lt_pow_right (by omega) hj8) (by decide)
    have hand : bits .and .u8 (y : Int) q = ((y &&& 2 ^ j : Nat) : Int) := by rw [hpq, u8_and_nat y _ hy8 hp8]
    obtain ⟨z, hz⟩ : ∃ z : Int, ((y &&& 2 ^ j : Nat) : Int) = z := ⟨_, rfl⟩
    rw [hz] at hand
    have hzz : (z != 0) = hasB bs (n : Int) := by
      rw [hres, hj, ← hz, nat_bit, Nat.testBit_eq_decide_div_mod_eq]
      have hpp : 0 < 2 ^ j := Nat.two_pow_pos j
      by_cases e : y / 2 ^ j % 2 = 1
      · rw [e, decide_eq_true rfl, Nat.one_mul, bne_iff_ne.2 (by omega : ((2 ^ j : Nat) : Int) ≠ 0)]
      · have e0 : y / 2 ^ j % 2 = 0 := by omega
        rw [e0]; simp
    obtain ⟨r, hr⟩ : ∃ r, hasB bs (n : Int) = r := ⟨_, rfl⟩
    rw [hr] at hzz
    rw [hr]
    rw [hq2] at HBt
    have HZ := Lib.hid hzz
    have hkL : (k : Int) < (L : Int) := by omega
    have hk0 : (k : Int) ≤ 1152921504606846975 := by have := HR.out; omega
    clear hx hk hn hcs hl hres hpq hp8 hz hzz hr hq2 hj hj8 h hb
    go_enter Try.func57, Try.ntmps57
    go_wp2_with fail
    refine region_ext (by kernel_rfl) (by kernel_rfl) ?_
    repeat (go_big_quiet_step (with_reducible (first | exact HQ.out _ | exact HBt.out _)))
    refine wpQuiet_nil ?_
    intro x
    go_wp2_with fail
    go_ret
    exact ⟨congrArg (fun b => Ending.returned (Value.bool b)) HZ.out, x.2⟩
  · rw [decide_eq_false h] at HQ
    have hres : hasB bs i = false := by
      unfold hasB
      by_cases h0 : 0 ≤ i
      · have : bitAt bs i.toNat = false := by
          rw [Bool.eq_false_iff]; intro hh
          have := bit_in hh
          rw [HL.out] at this; omega
        rw [this, Bool.and_false]
      · rw [decide_eq_false h0, Bool.false_and]
    rw [hres]
    clear hres hl h HR hb
    go_enter Try.func57, Try.ntmps57
    go_wp2_with fail
    refine region_ext (by kernel_rfl) (by kernel_rfl) ?_
    repeat (go_big_quiet_step (with_reducible (first | exact HQ.out _)))
    refine wpQuiet_nil ?_
    intro x
    go_wp2_with fail
    go_ret
    exact ⟨rfl, x.2⟩

/-- A row while the numbers of another one are put in. -/
def orK (a b : List Int) (m k : Nat) : List Int := (List.range m).map fun j => if j < k then orI (a[j]?.getD 0) (b[j]?.getD 0) else a[j]?.getD 0
theorem orK_length (a b : List Int) (m k : Nat) : (orK a b m k).length = m := by simp [orK]
theorem orK_get (a b : List Int) (m k j : Nat) (h : j < m) : (orK a b m k)[j]?.getD 0 = if j < k then orI (a[j]?.getD 0) (b[j]?.getD 0) else a[j]?.getD 0 := by simp [orK, h]
theorem orK_zero (a b : List Int) (m : Nat) (h : a.length ≤ m) : orK a b m 0 = a ++ List.replicate (m - a.length) 0 := by
  apply List.ext_getElem
  · rw [orK_length]; simp; omega
  · intro j h1 h2
    rw [orK_length] at h1
    simp only [orK, List.getElem_map, List.getElem_range, Nat.not_lt_zero, if_false]
    by_cases e : j < a.length
    · rw [List.getElem_append_left e]; simp [e]
    · rw [List.getElem_append_right (by omega)]; simp [e]
theorem orK_succ (a b : List Int) (m k : Nat) : orK a b m (k + 1) = (orK a b m k).set k (orI (a[k]?.getD 0) (b[k]?.getD 0)) := by
  apply List.ext_getElem
  · simp [orK]
  · intro j h1 h2
    rw [orK_length] at h1
    simp only [orK, List.getElem_map, List.getElem_range, List.getElem_set]
    by_cases e : k = j
    · subst e; rw [if_pos rfl, if_pos (by omega)]
    · rw [if_neg e]
      by_cases e2 : j < k
      · rw [if_pos e2, if_pos (by omega)]
      · rw [if_neg e2, if_neg (by omega)]
theorem orI_zero (n : Nat) : orI (n : Int) 0 = (n : Int) := by unfold orI; simp
theorem orK_all (a b : List Int) (ha : IsBytes a) (m : Nat) (h : m = max a.length b.length) : orK a b m b.length = orB a b := by
  subst h
  unfold orK orB
  apply List.map_congr_left
  intro j _
  by_cases e : j < b.length
  · rw [if_pos e]
  · rw [if_neg e, List.getElem?_eq_none (show b.length ≤ j by omega), Option.getD_none]
    obtain ⟨n, hn, _⟩ := byte_of a ha j
    rw [hn, orI_zero]

/-- What a copy of bytes into a longer new row asks. -/
theorem copy_into {w w1 : World} {a : Option Addr} {p m : Nat} {bs : List Int} (HL : Hid (bs.length = p)) (hpm : p ≤ m) (hA : Hid (Lies w a p bs))
    (hown1 : w1.ownsRow w.heap.size 5 1 (.slice (some ⟨w.heap.size, 0, none⟩) m m) m (madeCells (Value.int .u8 0).cells (m * 1)).toList) (hgrow1 : w.grownBy w1 none) :
    Hid (Below w.heap.size w w1) ∧ Hid (w1.heap[w.heap.size]? = some (.cells (List.replicate m (Value.int .u8 0)).toArray 5 (0, 0))) ∧ Hid ((bs.map (Value.int .u8)).length = Nat.min p m) ∧
    Hid (0 < (bs.map (Value.int .u8)).length → some (⟨w.heap.size, 0, none⟩ : Addr) = some ⟨w.heap.size, 0, none⟩ ∧ ∃ ad, a = some ad ∧ ∀ j v, (bs.map (Value.int .u8))[j]? = some v → w1.cell? (ad.add j) = some v) := by
  have hB1 : Below w.heap.size w w1 := (Below.refl _ w).grown hgrow1 (Nat.le_refl _) (fun k e => by cases e)
  refine ⟨hB1, ?_, ?_, ?_⟩
  · rw [show (Value.int .u8 0).cells = #[.int .u8 0] from rfl, toList_madeCells_one, Nat.mul_one] at hown1
    exact ownsRow_row hown1
  · show _ = _
    rw [List.length_map, HL.out]; exact (Nat.min_eq_left hpm).symm
  · intro h0
    rw [List.length_map, HL.out] at h0
    rcases hA.out with h | ⟨b, off, e, hb, hc⟩
    · omega
    · refine ⟨rfl, _, e, fun j v hj => ?_⟩
      have hjl : j < p := by
        have := (List.getElem?_eq_some_iff.1 hj).1
        rwa [List.length_map, HL.out] at this
      have hplain : (⟨b, off, none⟩ : Addr).add j = ⟨b, off + j, none⟩ := by unfold Addr.add; split <;> simp_all
      rw [hplain, hB1.cell (p := ⟨b, off + j, none⟩) hb, hc j hjl]
      rw [List.getElem?_map, List.getElem?_eq_getElem (by rw [HL.out]; exact hjl)] at hj
      rw [List.getElem?_eq_getElem (by rw [HL.out]; exact hjl)]
      exact hj
/-- A new row of bytes is one's own. -/
theorem row_owns {W : World} {base g : Nat} {xs : List Int} (h : W.heap[g]? = some (.cells (xs.map (Value.int .u8)).toArray 5 (0, 0))) (hb : base ≤ g) (hm : xs.length ≤ maxLen) :
    W.ownsRow base 5 1 (.slice (some ⟨g, 0, none⟩) xs.length xs.length) xs.length (xs.map (Value.int .u8)) :=
  ⟨by simp, .inr ⟨g, xs.length, _, rfl, hb, h, Nat.le_refl _, hm, by simp, by rw [Nat.mul_one]; exact List.take_of_length_le (by simp)⟩⟩
theorem bi_cell {W : World} {base g n cap : Nat} {xs : List Int} (h : W.ownsRow base 5 1 (.slice (some ⟨g, 0, none⟩) n cap) n (xs.map (Value.int .u8))) (j : Nat) (hj : j < n) :
    W.cell? ⟨g, j, none⟩ = some (.int .u8 (xs[j]?.getD 0)) := by
  have hl : xs.length = n := by simpa using h.1
  rw [h.cellAt j (by omega), List.getElem?_map, List.getElem?_eq_getElem (by omega)]
  rfl

set_option maxRecDepth 100000 in
set_option maxHeartbeats 2000000 in
/-- **Or**. -/
theorem bi_orO (u v : Value) (as_ bs : List Int) (w : World) (hu : Sl .u8 w u as_) (hv : Sl .u8 w v bs) (ha : IsBytes as_) (hb : IsBytes bs) (hla : as_.length ≤ 100000) (hlb : bs.length ≤ 100000) :
    Calls Try.prog 16 #[u, v] w fun e w' => ∃ v', e = .returned v' ∧ w'.ownsRow w.heap.size 5 1 v' (orB as_ bs).length ((orB as_ bs).map (Value.int .u8)) ∧ Below w.heap.size w w' := by
  obtain ⟨i0, hi, hz0, hz1, hz2⟩ := info_parts info_u8
  obtain ⟨a, ca, rfl, ha1, ha2, hla1, -⟩ := hu
  obtain ⟨b, cb, rfl, hb1, hb2, hlb1, -⟩ := hv
  obtain ⟨p, hp⟩ : ∃ p, as_.length = p := ⟨_, rfl⟩
  obtain ⟨q, hq⟩ : ∃ q, bs.length = q := ⟨_, rfl⟩
  obtain ⟨m, hm⟩ : ∃ m, max p q = m := ⟨_, rfl⟩
  have HP := Lib.hid hp
  have HQ := Lib.hid hq
  have HM := Lib.hid hm
  have HA : Hid (Lies w a p as_) := by
    rcases hla1 with e | h
    · exact .inl (by rw [← hp, e]; rfl)
    · exact .inr (by obtain ⟨g, o, h1, h2, h3⟩ := h; exact ⟨g, o, h1, h2, fun j hj => h3 j (by omega)⟩)
  have HB : Hid (Lies w b q bs) := by
    rcases hlb1 with e | h
    · exact .inl (by rw [← hq, e]; rfl)
    · exact .inr (by obtain ⟨g, o, h1, h2, h3⟩ := h; exact ⟨g, o, h1, h2, fun j hj => h3 j (by omega)⟩)
  have HAb := Lib.hid ha
  have HBb := Lib.hid hb
  rw [hp] at hla ha1 ⊢
  rw [hq] at hlb hb1 ⊢
  have hmax : ∀ (ts : Array TypeId) (t : TypeId) (W : World), (Builtin.max_ ts t #[.int .i64 (p : Int), .int .i64 (q : Int)]).run Try.prog W = .ok (.int .i64 (m : Int)) W := fun ts t W => by
    rw [run_max_int2, ← hm]
    congr 2
    split <;> omega
  have hmp : p ≤ m := by omega
  have hmq : q ≤ m := by omega
  have hml : m ≤ 100000 := by omega
  clear hla1 hlb1 hp hq hm ha hb ha1 ha2 hb1 hb2
  go_enter Try.func16, Try.ntmps16
  go_wp2_with (first | (at_make; refine wpList_make_full _ rfl _ _ 31 rfl w.heap.size 5 i0 (.int .u8 0) 1 Try.underlying31 hi hz0 hz1 .i64 .i64 _ _ m rfl rfl rfl rfl (by rw [hz2]; omega) (by unfold maxLen; omega) (by simp) ?_; intro w1 hown1 hgrow1; obtain ⟨HB1, HR, HN, HP2⟩ := copy_into HP hmp HA hown1 hgrow1; clear hown1 hgrow1) | (with_reducible refine wpList_copy_splice rfl (.tmp 14) (.tmp 15) 31 31 rfl 5 Try.underlying31 size_u8 _ _ m m p ca rfl rfl w.heap.size 0 (List.replicate m (Value.int .u8 0)) 5 HR.out (as_.map (Value.int .u8)) HN.out HP2.out (by rw [List.length_map, HP.out, List.length_replicate]; omega) copy_one.out w.heap.size w HB1.out (Nat.le_refl _) ?_; intro w2 hg2 hB2))
  have ho2 : Hid (w2.ownsRow w.heap.size 5 1 (.slice (some ⟨w.heap.size, 0, none⟩) m m) m ((orK as_ bs m 0).map (Value.int .u8))) := by
    have e : splice (List.replicate m (Value.int .u8 0)) 0 (as_.map (Value.int .u8)) = (orK as_ bs m 0).map (Value.int .u8) := by
      rw [orK_zero _ _ _ (by rw [HP.out]; omega), HP.out]
      simp [splice, HP.out]
    have h1 := hg2.out
    rw [e] at h1
    have := row_owns h1 (Nat.le_refl _) (by rw [orK_length]; unfold maxLen; omega)
    rwa [orK_length] at this
  clear hg2 HP2 HN HR HB1 hmax
  have HB2 := Lib.hid hB2
  clear hB2
  go_wp2_with fail
  go_loopw [19] (fun i wr => ∃ k : Nat, k ≤ q ∧ i = .int .i64 k ∧ Hid (wr.ownsRow w.heap.size 5 1 (.slice (some ⟨w.heap.size, 0, none⟩) m m) m ((orK as_ bs m k).map (Value.int .u8))) ∧ Hid (Below w.heap.size w wr)) (fun i _ => q - (intOf i).toNat)
  case atStart => exact ⟨0, Nat.zero_le _, rfl, ho2, HB2⟩
  case round =>
    obtain ⟨k, hk, rfl, HO, HW⟩ := hrel
    by_cases hlt : k < q
    · have hkm : k < m := by omega
      obtain ⟨g, o, rfl, hg, hcs⟩ : ∃ g o, b = some ⟨g, o, none⟩ ∧ g < w.heap.size ∧ ∀ j, j < q → w.cell? ⟨g, o + j, none⟩ = some (.int .u8 (bs[j]?.getD 0)) := by
        rcases HB.out with h | h
        · omega
        · exact h
      obtain ⟨x, hx, hx8⟩ := byte_of as_ HAb.out k
      obtain ⟨y, hy, hy8⟩ := byte_of bs HBb.out k
      have c1 : wr.cell? ⟨g, o + k, none⟩ = some (.int .u8 (y : Int)) := by rw [HW.out.cell (p := ⟨g, o + k, none⟩) hg, hcs k hlt, hy]
      have c2 : wr.cell? ⟨w.heap.size, k, none⟩ = some (.int .u8 (x : Int)) := by
        rw [bi_cell HO.out k hkm, orK_get _ _ _ _ _ hkm, if_neg (by omega), hx]
      have f2 : wr.frozen? ⟨w.heap.size, k, none⟩ = false := HO.out.frozenAt _
      have hor : bits .or .u8 (x : Int) (y : Int) = ((x ||| y : Nat) : Int) := u8_or_nat x y hx8 hy8
      obtain ⟨z, hz⟩ : ∃ z : Int, ((x ||| y : Nat) : Int) = z := ⟨_, rfl⟩
      rw [hz] at hor
      have HS : Hid ((wr.setCell ⟨w.heap.size, k, none⟩ (.int .u8 z)).ownsRow w.heap.size 5 1 (.slice (some ⟨w.heap.size, 0, none⟩) m m) m ((orK as_ bs m (k + 1)).map (Value.int .u8))) := by
        have := (HO.out.stored k (.int .u8 z)).1
        rw [orK_succ, hx, hy, orI_nat, hz, List.map_set]
        exact this
      have HLT := Lib.hid hlt
      have g1 : (k : Int) < (q : Int) := by omega
      have g2 : (k : Int) < (m : Int) := by omega
      have HWr : Hid (wrap64 ((k : Int) + 1) = (k : Int) + 1) := IntWalk.wrap64_in _ (by omega)
      clear hz hx hy hcs hlt
      go_wp2_with fail
      exact ⟨⟨k + 1, HLT.out, by simp, HS, HW.out.setCell (p := ⟨w.heap.size, k, none⟩) (Nat.le_refl _) _⟩, bi_lt HLT.out⟩
    · obtain rfl : k = q := by omega
      go_wp2_with fail
      go_ret
      refine ⟨_, rfl, ?_, HW.out⟩
      have e : orK as_ bs m k = orB as_ bs := by rw [← HQ.out]; exact orK_all _ _ HAb.out _ (by rw [HP.out, HQ.out, HM.out])
      have h1 := HO.out
      rw [e] at h1
      have hl : (orB as_ bs).length = m := by rw [or_length, HP.out, HQ.out, HM.out]
      rw [hl]
      exact h1
set_option maxRecDepth 100000 in
theorem bi_or (u v : Value) (as_ bs : List Int) (w : World) (hu : Sl .u8 w u as_) (hv : Sl .u8 w v bs) (ha : IsBytes as_) (hb : IsBytes bs) (hla : as_.length ≤ 100000) (hlb : bs.length ≤ 100000) :
    Calls Try.prog 16 #[u, v] w fun e w' => ∃ v', e = .returned v' ∧ Sl .u8 w' v' (orB as_ bs) ∧ Below w.heap.size w w' :=
  (bi_orO u v as_ bs w hu hv ha hb hla hlb).mono fun _ _ ⟨v', e, h, hB⟩ => ⟨v', e, Sl.of_owns h, hB⟩
end Go.Proofs.Ytiidfffedoekiaa
