/- The developers' range function over a set's numbers has its contract: each number comes, ascending; Count. -/
import Derived.Test.YtiidfffedoekiaaBiFn
import Derived.Test.YtiidfffedoekiaaValues
import Derived.LoopTactic
namespace Go.Proofs.Ytiidfffedoekiaa
open Go.RowKit Go.Shelf
set_option linter.unusedVariables false

attribute [local go_sem] Oper.semAt_some

theorem all_eq_to (bs : List Int) (k : Nat) (h : k ≤ bs.length) : allB (bs.take k) = allTo bs (8 * k) := by
  unfold allB allTo
  rw [List.length_take, Nat.min_eq_left h]
  apply List.filter_congr
  intro i hi
  exact bitAt_take bs k i (List.mem_range.1 hi)
theorem allTo_prefix (bs : List Int) (i m : Nat) : allTo bs i <+: allTo bs (i + m) := by
  unfold allTo
  rw [List.range_add, List.filter_append]
  exact List.prefix_append _ _
theorem all_take_prefix (bs : List Int) (k : Nat) (h : k ≤ bs.length) : allB (bs.take k) <+: allB bs := by
  obtain ⟨m, hm⟩ := Nat.exists_eq_add_of_le h
  rw [all_eq_to bs k h, ← allTo_all, hm, Nat.mul_add]
  exact allTo_prefix _ _ _

set_option maxRecDepth 100000 in
set_option maxHeartbeats 1000000 in
/-- The set is boxed; the function value holds the box. -/
theorem numbers_in (F : Fence) (n : Nat) (hf : F.fn 45) (hro : F.round = none) (a : Option Addr) (len cap : Nat) (w : World) :
    CallsIn F n Try.prog 45 #[.slice a len cap] w fun e w' => e = .returned (.func (.func 62) #[] #[.pointer (some ⟨w.heap.size, 0, none⟩)]) ∧ w' = w.alloc (.cells #[.slice a len cap] 31) := by
  refine callsIn_of_wp Try.func45 rfl hf ?_ hro
  simp only [Try.ntmps45, List.size_toArray, List.length_cons, List.length_nil, Nat.reduceAdd, Nat.reduceSub, Array.replicate_succ, Array.replicate_zero, List.push_toArray, List.append_toArray, List.nil_append, List.cons_append]
  gi_wp2
  go_ret
  exact ⟨rfl, rfl⟩

set_option maxRecDepth 100000 in
set_option maxHeartbeats 4000000 in
theorem numbers1_in (n : Nat) (hn : 1 ≤ n) (l Bs n₀ len cap : Nat) (a : Option Addr) (zs : List Int) (hz : zs.length = len) (hb : IsBytes zs) (hmax : len ≤ 100000)
    (J Jx : List Nat → World → Prop)
    (hY : ∀ (pre : List Nat) (x : Nat) W, J pre W → pre.length < (allB zs).length → YieldAt Fence.wide (n - 1) Try.prog l #[.int .i64 (x : Int)] W fun e W' =>
      (e = .returned (.bool true) ∧ J (pre ++ [x]) W' ∧ Below n₀ W W') ∨ (e = .returned (.bool false) ∧ Jx (pre ++ [x]) W'))
    (W : World) (hBs : W.cell? ⟨Bs, 0, none⟩ = some (.slice a len cap)) (hc : len = 0 ∨ ∃ b off, a = some ⟨b, off, none⟩ ∧ b < n₀ ∧ ∀ j, j < len → W.cell? ⟨b, off + j, none⟩ = some (.int .u8 (zs[j]?.getD 0))) (h0 : J [] W) :
    CallsIn Fence.wide n Try.prog 62 #[.func (.yield l) #[] #[], .pointer (some ⟨Bs, 0, none⟩)] W fun e W' => (∃ v, e = .returned v) ∧
      ((∃ ys, ys = allB zs ∧ J ys W') ∨ (∃ pre, pre <+: allB zs ∧ Jx pre W')) := by
  have HC := Lib.hid hc
  have HM := Lib.hid hmax
  have HZ := Lib.hid hz
  have HBy := Lib.hid hb
  clear hc hmax hz hb
  refine callsIn_of_wp Try.func62 rfl trivial ?_ rfl
  simp only [Try.ntmps62, List.size_toArray, List.length_cons, List.length_nil, Nat.reduceAdd, Nat.reduceSub, Array.replicate_succ, Array.replicate_zero, List.push_toArray, List.append_toArray, List.nil_append, List.cons_append]
  gi_wp2
  gi_loopw [7] (fun i wr => ∃ k : Nat, k ≤ len ∧ i = .int .i64 k ∧ J (allB (zs.take k)) wr ∧ Below n₀ W wr)
    (fun i _ => len - (intOf i).toNat)
  case atStart => exact ⟨0, Nat.zero_le _, rfl, by simpa [allB] using h0, Below.refl _ _⟩
  case round =>
    obtain ⟨k, hk, rfl, hJs, hnx⟩ := hrel
    by_cases hlt : k < len
    · obtain ⟨b, off, rfl, hb, hcs⟩ : ∃ b off, a = some ⟨b, off, none⟩ ∧ b < n₀ ∧ ∀ j, j < len → W.cell? ⟨b, off + j, none⟩ = some (.int .u8 (zs[j]?.getD 0)) := by
        rcases HC.out with h | h
        · omega
        · exact h
      obtain ⟨x, hx, hx8⟩ := byte_of zs HBy.out k
      have hcx : wr.cell? ⟨b, off + k, none⟩ = some (.int .u8 (x : Int)) := by rw [hnx.cell (p := ⟨b, off + k, none⟩) hb, hcs k hlt, hx]
      have hm : len ≤ 100000 := HM.out
      have HT : Hid (allB (zs.take (k + 1)) = allB (zs.take k) ++ (lowB x).map (8 * k + ·)) := by
        show _ = _
        rw [all_take zs k (by rw [HZ.out]; exact hlt), hx, Int.toNat_natCast]
      have HLe : Hid ((allB (zs.take (k + 1))).length ≤ (allB zs).length) := (all_take_prefix zs (k + 1) (by rw [HZ.out]; exact hlt)).length_le
      have HPr : Hid (allB (zs.take (k + 1)) <+: allB zs) := all_take_prefix zs (k + 1) (by rw [HZ.out]; exact hlt)
      have HJ := Lib.hid hJs
      have HX := Lib.hid hnx
      have HLT := Lib.hid hlt
      clear hcs hx hJs hnx
      gi_wp2
      gi_loopw [4] (fun i ws => ∃ r : Nat, ∃ pre, r < 256 ∧ i = .int .u8 (r : Int) ∧ Hid (pre ++ (lowB r).map (8 * k + ·) = allB (zs.take (k + 1))) ∧ Hid (J pre ws) ∧ Hid (Below n₀ W ws)) (fun i _ => (intOf i).toNat)
      case atStart => exact ⟨x, _, hx8, rfl, HT.out.symm, HJ, HX⟩
      case round =>
        obtain ⟨r, pre, hr8, rfl, HP, HJ2, HX2⟩ := hrel
        by_cases hr0 : r = 0
        · subst hr0
          have HJ3 : Hid (J (allB (zs.take (k + 1))) wr) := by
            have := HP.out
            rw [low_zero, List.map_nil, List.append_nil] at this
            rw [← this]; exact HJ2
          gi_wp2
          go_roundw
          case rel => exact ⟨k + 1, HLT.out, by simp, HJ3.out, HX2.out⟩
          case measure => have := HLT.out; simp [intOf]; omega
        · obtain ⟨d, hd⟩ : ∃ d, r &&& (r - 1) = d := ⟨_, rfl⟩
          have hdr : d < r := by rw [← hd]; exact and_pred_lt r hr0
          have hlow := low_next hr8 hr0
          rw [hd] at hlow
          have hc8 := ctz_lt ⟨r, hr8⟩ hr0
          have HTz := Lib.hid (bi_tz r hr8)
          obtain ⟨c, hcz⟩ : ∃ c, ctzN r = c := ⟨_, rfl⟩
          rw [show ctzN r = c from hcz] at hlow
          replace hc8 : c < 8 := by rw [← hcz]; exact hc8
          simp only [hcz] at HTz
          have hp := HP.out
          rw [hlow, List.map_cons] at hp
          have hpl : pre.length < (allB zs).length := by
            have := congrArg List.length hp
            have := HLe.out
            simp at *
            omega
          have HP2 : Hid ((pre ++ [8 * k + c]) ++ (lowB d).map (8 * k + ·) = allB (zs.take (k + 1))) := by
            show _ = _
            rw [← hp]; simp
          obtain ⟨q, hq⟩ : ∃ q : Nat, 8 * k + c = q := ⟨_, rfl⟩
          rw [hq] at HP2
          have hqi : (k : Int) * 8 + (c : Int) = (q : Int) := by omega
          have hand : bits .and .u8 (r : Int) ((r : Int) - 1) = (d : Int) := by
            rw [show (r : Int) - 1 = ((r - 1 : Nat) : Int) from by omega, u8_and_nat r (r - 1) hr8 (by omega), hd]
          obtain ⟨fn, tmps, assign, body, hy, hR⟩ := hY pre q wr HJ2.out hpl
          have hrne : ((r : Int) != 0) = true := by simp; omega
          have hr1 : 1 ≤ (r : Int) := by omega
          clear hlow hp hcz hd hq hpl
          gi_wp2_with (refine ⟨trivial, ?_⟩; gi_at_call 63; refine (callsIn_wide.2 (HTz.out _)).mono ?_; rintro e w' ⟨rfl, rfl⟩)
          refine hR.mono ?_
          rintro e W3 (⟨rfl, hJ3, hk3⟩ | ⟨rfl, hJx3⟩)
          · have HJ3 := Lib.hid hJ3
            have HB3 : Hid (Below n₀ W W3) := HX2.out.trans hk3
            have HD := Lib.hid hdr
            clear hJ3 hk3 hdr
            gi_wp2
            go_roundw
            case rel => exact ⟨d, _, Nat.lt_trans HD.out hr8, rfl, HP2, HJ3, HB3⟩
            case measure => have := HD.out; simp [intOf]; omega
          · have HJ3 := Lib.hid hJx3
            clear hJx3
            gi_wp2
            refine bodyPost_ret (results_none rfl _ _ _) rfl ?_
            refine ⟨⟨_, rfl⟩, .inr ⟨_, ?_, HJ3.out⟩⟩
            exact (List.prefix_append _ _).trans (HP2.out ▸ HPr.out)
    · obtain rfl : k = len := by omega
      gi_wp2
      go_end0
      exact ⟨⟨_, rfl⟩, .inl ⟨_, rfl, by rw [← HZ.out, List.take_length] at hJs; exact hJs⟩⟩

set_option maxRecDepth 100000 in
theorem numbers_stops (n : Nat) (hn : 1 ≤ n) (Bs n₀ len cap : Nat) (a : Option Addr) (zs : List Int) (hz : zs.length = len) (hb : IsBytes zs) (hmax : len ≤ 100000) (w : World) (hBs : Bs < w.heap.size) (hn₀ : n₀ ≤ w.heap.size)
    (hbx : w.cell? ⟨Bs, 0, none⟩ = some (.slice a len cap)) (hc : len = 0 ∨ ∃ b off, a = some ⟨b, off, none⟩ ∧ b < n₀ ∧ ∀ j, j < len → w.cell? ⟨b, off + j, none⟩ = some (.int .u8 (zs[j]?.getD 0))) :
    SeqStopsK Fence.wide n Try.prog 62 #[.pointer (some ⟨Bs, 0, none⟩)] (fun x : Nat => #[Value.int .i64 (x : Int)]) (Below n₀) (fun ys => ys = allB zs) (fun pre => pre <+: allB zs) (allB zs).length w := fun l J Jx W hW _ _ hY h0 =>
  numbers1_in n hn l Bs n₀ len cap a zs hz hb hmax J Jx hY W ((hW.cell (p := ⟨Bs, 0, none⟩) hBs).trans hbx)
    (hc.imp id fun ⟨b, off, e, h1, h2⟩ => ⟨b, off, e, h1, fun j hj => ((hW.mono hn₀).cell (p := ⟨b, off + j, none⟩) h1).trans (h2 j hj)⟩) h0

set_option maxRecDepth 100000 in
set_option maxHeartbeats 2000000 in
/-- **Count**. -/
theorem bi_count (v : Value) (bs : List Int) (w : World) (hv : Sl .u8 w v bs) (hb : IsBytes bs) (hlen : bs.length ≤ 100000) :
    Calls Try.prog 58 #[v] w fun e w' => e = .returned (.int .i64 ((allB bs).length : Int)) ∧ Below w.heap.size w w' := by
  obtain ⟨a, cap, rfl, hL, hm⟩ := Lies.of_sl hv
  obtain ⟨len, hle⟩ : ∃ len, bs.length = len := ⟨_, rfl⟩
  rw [hle] at hL hlen ⊢
  refine (callsIn_wide (n := 3)).1 ?_
  refine callsIn_of_wp_marks Try.func58 rfl trivial ?_ rfl
  simp only [Try.ntmps58, List.size_toArray, List.length_cons, List.length_nil, Nat.reduceAdd, Nat.reduceSub, Array.replicate_succ, Array.replicate_zero, List.push_toArray, List.append_toArray, List.nil_append, List.cons_append]
  have HA := Lib.hid hL
  have HR := Lib.hid hb
  have HL := Lib.hid hle
  have HN : Hid ((allB bs).length ≤ 800000) := by show _ ≤ _; have := all_len bs; omega
  clear hL hm hb hle hv
  gi_wp2_with (refine ⟨trivial, ?_⟩; gi_at_call 45; refine (numbers_in _ _ trivial rfl _ _ _ _).mono ?_; rintro e w' ⟨rfl, rfl⟩)
  have bH := Boxed.new w 3 (.int .i64 0)
  have bV := Boxed.new (w.alloc (.cells #[.int .i64 0] 3)) 31 (.slice a len cap)
  rw [World.size_alloc] at bV
  have hB0 : Below w.heap.size w ((w.alloc (.cells #[.int .i64 0] 3)).alloc (.cells #[.slice a len cap] 31)) := ((Below.refl _ w).alloc (Nat.le_refl _) _).alloc (by simp) _
  refine wpIn_rangeFunc_ownF (n := 3) rfl (by omega) (gf := 62) (lb := #[.pointer (some ⟨w.heap.size + 1, 0, none⟩)]) rfl trivial (enters_of Try.func62 (by kernel_rfl) rfl)
    (numbers_stops 2 (by omega) (w.heap.size + 1) w.heap.size len cap a bs HL.out HR.out hlen _ (by simp) (by simp; omega) bV.cell
      (HA.out.imp id fun ⟨b, off, e, h1, h2⟩ => ⟨b, off, e, h1, fun j hj => (hB0.cell (p := ⟨b, off + j, none⟩) h1).trans (h2 j hj)⟩)) belowK_t (belowK_b (by simp; omega)) (Below.refl _ _) (fun _ => rfl)
    (fun pre W => Boxed W w.heap.size 3 (.int .i64 (pre.length : Int)) ∧ Below w.heap.size w W)
    (fun _ _ _ => False)
    ?hI (fun _ _ _ _ _ h _ _ => h.elim) ⟨bH.alloc _, hB0⟩ ?a1 ?assign ?body ?done ?stop
  case hI =>
    intro s W W' row ⟨hv, hB⟩ hg hrow
    have hr' : ∀ r, row = some r → ∃ o : Obj, W.heap[r]? = some o ∧ o.isCells = false := fun r e => (hrow r e).2
    exact ⟨boxed_own _ _ (fun _ : Unit => _) () W W' row hv hg hr', ownFrom_below (β := Unit) (Nat.le_refl _) (by simp; omega) () W W' row hB hg hrow⟩
  case assign =>
    intro l x W K hK
    gi_wp2
    exact hK
  case body =>
    rintro l pre x W ⟨hv, hB⟩ hlen2
    have c1 := hv.cell
    have f1 := hv.frozen
    have HV := Lib.hid hv
    have HB := Lib.hid hB
    have hpl : pre.length ≤ 800000 := by have := HN.out; omega
    obtain ⟨p, hp⟩ : ∃ p, pre.length = p := ⟨_, rfl⟩
    have HP : Hid ((pre ++ [x]).length = p + 1) := by show _ = _; simp [hp]
    rw [hp] at c1 hpl
    clear hv hB hlen2 hp
    gi_wp2
    refine ⟨KeepsOthers.setCell _ _ _, (Below.refl w.heap.size W).setCell (p := ⟨w.heap.size, 0, none⟩) (Nat.le_refl _) _, ?_, HB.out.setCell (p := ⟨w.heap.size, 0, none⟩) (Nat.le_refl _) _⟩
    rw [HP.out]
    exact HV.out.set _
  case done =>
    rintro D xs W hD rfl ⟨hv, hB⟩ hK
    have c1 := hv.cell
    have HB := Lib.hid hB
    clear hB
    gi_wp2
    refine ⟨by simp, .inl ⟨_, _, rfl, run_takeDeferred hK, ?_⟩⟩
    exact ⟨_, results_tmp rfl _ _ _, rfl, HB.out.trans (belowK_b (w := w) (Nat.le_refl _) W D _ _ (by simp at hD; omega) hK rfl rfl)⟩
  case stop =>
    rintro D c pre W _ _ h _
    exact h.elim
end Go.Proofs.Ytiidfffedoekiaa
