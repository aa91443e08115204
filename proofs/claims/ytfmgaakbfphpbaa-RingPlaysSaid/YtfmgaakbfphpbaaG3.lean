/- The ground of the proofs, part 3: Values Fnv PgRefE PgSame PgEq PgOk Read PgFld PgGrow PgEnc PgRefD PgDec PgChk PgRefC PgCnt PgCut PgAll PgAt RgImg RefLo RefCr RefRig. -/
import Derived.Test.YtfmgaakbfphpbaaG2
import Derived.RangeFuncNested
import Derived.RangeFuncBound
import Derived.RangeFuncCalls
import Derived.RangeFuncLeaves
import Derived.RangeFuncBox
import Derived.Shelf.Abstract
import Derived.Shelf.RegionOpen
import Derived.WalkKit
import Derived.OwnWalkIn
import Derived.TacticsInMore
import Derived.LoopNIn
import Derived.LoopIn
import Derived.Test.YtfmgaakbfphpbaaProg
import Derived.Lib.Hide
import Derived.LoopTactic
import Derived.Laws.StructEq
import Derived.Lib.AppendZerosOnto
/- The library's range function over the bytes of a slice has its contract: each byte comes, in order. -/
namespace Go.Proofs.Ytfmgaakbfphpbaa
open Go.RowKit Go.Shelf
set_option linter.unusedVariables false

attribute [local go_sem] Oper.semAt_some

theorem take_snoc_getD (bs : List Int) {k : Nat} (h : k < bs.length) : bs.take (k + 1) = bs.take k ++ [bs[k]?.getD 0] := by
  rw [List.take_succ_eq_append_getElem h, List.getElem?_eq_getElem h]
  rfl

set_option maxRecDepth 100000 in
set_option maxHeartbeats 2000000 in
theorem values1_in (F : Fence) (n : Nat) (hf : F.fn 87) (hro : F.round = none) (hn : 1 ≤ n) (l Bs n₀ len cap : Nat) (a : Option Addr) (zs : List Int) (hz : zs.length = len) (hmax : len ≤ maxLen)
    (J Jx : List Int → World → Prop)
    (hY : ∀ pre x W, J pre W → pre.length < len → YieldAt F (n - 1) Try.prog l #[.int .u8 x] W fun e W' =>
      (e = .returned (.bool true) ∧ J (pre ++ [x]) W' ∧ Below n₀ W W') ∨ (e = .returned (.bool false) ∧ Jx (pre ++ [x]) W'))
    (W : World) (hBs : W.cell? ⟨Bs, 0, none⟩ = some (.slice a len cap)) (hc : len = 0 ∨ ∃ b off, a = some ⟨b, off, none⟩ ∧ b < n₀ ∧ ∀ j, j < len → W.cell? ⟨b, off + j, none⟩ = some (.int .u8 (zs[j]?.getD 0))) (h0 : J [] W) :
    CallsIn F n Try.prog 87 #[.func (.yield l) #[] #[], .pointer (some ⟨Bs, 0, none⟩)] W fun e W' => (∃ v, e = .returned v) ∧
      ((∃ ys, ys = zs ∧ J ys W') ∨ (∃ pre, pre <+: zs ∧ Jx pre W')) := by
  have HC := Lib.hid hc
  have HM := Lib.hid hmax
  have HZ := Lib.hid hz
  clear hc hmax hz
  refine callsIn_of_wp Try.func87 rfl hf ?_ hro
  simp only [Try.ntmps87, List.size_toArray, List.length_cons, List.length_nil, Nat.reduceAdd, Nat.reduceSub, Array.replicate_succ, Array.replicate_zero, List.push_toArray, List.append_toArray, List.nil_append, List.cons_append]
  gi_wp2
  gi_loopw [7] (fun i wr => ∃ k : Nat, k ≤ len ∧ i = .int .i64 k ∧ J (zs.take k) wr ∧ Below n₀ W wr)
    (fun i _ => len - (intOf i).toNat)
  case atStart => exact ⟨0, Nat.zero_le _, rfl, by simpa using h0, Below.refl _ _⟩
  case round =>
    obtain ⟨k, hk, rfl, hJs, hnx⟩ := hrel
    by_cases hlt : k < len
    · obtain ⟨b, off, rfl, hb, hcs⟩ : ∃ b off, a = some ⟨b, off, none⟩ ∧ b < n₀ ∧ ∀ j, j < len → W.cell? ⟨b, off + j, none⟩ = some (.int .u8 (zs[j]?.getD 0)) := by
        rcases HC.out with h | h
        · omega
        · exact h
      have hcx : wr.cell? ⟨b, off + k, none⟩ = some (.int .u8 (zs[k]?.getD 0)) := (hnx.cell (p := ⟨b, off + k, none⟩) hb).trans (hcs k hlt)
      obtain ⟨fn, tmps, assign, body, hy, hR⟩ := hY _ (zs[k]?.getD 0) wr hJs (by rw [List.length_take, HZ.out]; omega)
      have hm : len ≤ 9223372036854775807 := by have := HM.out; unfold maxLen at this; omega
      clear hcs
      gi_wp2
      refine hR.mono ?_
      rintro e W3 (⟨rfl, hJ3, hk3⟩ | ⟨rfl, hJx3⟩)
      · gi_wp2
        go_roundw
        case rel => exact ⟨k + 1, by omega, by simp, by rw [take_snoc_getD zs (by rw [HZ.out]; exact hlt)]; exact hJ3, hnx.trans hk3⟩
        case measure => simp [intOf]; omega
      · gi_wp2
        refine bodyPost_ret (results_none rfl _ _ _) rfl ?_
        exact ⟨⟨_, rfl⟩, .inr ⟨_, by rw [← take_snoc_getD zs (by rw [HZ.out]; exact hlt)]; exact List.take_prefix _ _, hJx3⟩⟩
    · obtain rfl : k = len := by omega
      gi_wp2
      go_end0
      exact ⟨⟨_, rfl⟩, .inl ⟨_, rfl, by rw [← HZ.out, List.take_length] at hJs; exact hJs⟩⟩

set_option maxRecDepth 100000 in
set_option maxHeartbeats 1000000 in
/-- The slice value is boxed; the function value holds the box. -/
theorem values_in (F : Fence) (n : Nat) (hf : F.fn 86) (hro : F.round = none) (a : Option Addr) (len cap : Nat) (w : World) :
    CallsIn F n Try.prog 86 #[.slice a len cap] w fun e w' => e = .returned (.func (.func 87) #[] #[.pointer (some ⟨w.heap.size, 0, none⟩)]) ∧ w' = w.alloc (.cells #[.slice a len cap] 35) := by
  refine callsIn_of_wp Try.func86 rfl hf ?_ hro
  simp only [Try.ntmps86, List.size_toArray, List.length_cons, List.length_nil, Nat.reduceAdd, Nat.reduceSub, Array.replicate_succ, Array.replicate_zero, List.push_toArray, List.append_toArray, List.nil_append, List.cons_append]
  gi_wp2
  go_ret
  exact ⟨rfl, rfl⟩

set_option maxRecDepth 100000 in
theorem values_stops (F : Fence) (n : Nat) (hf : F.fn 87) (hro : F.round = none) (hn : 1 ≤ n) (Bs n₀ len cap : Nat) (a : Option Addr) (zs : List Int) (hz : zs.length = len) (hmax : len ≤ maxLen) (w : World) (hBs : Bs < w.heap.size) (hn₀ : n₀ ≤ w.heap.size)
    (hb : w.cell? ⟨Bs, 0, none⟩ = some (.slice a len cap)) (hc : len = 0 ∨ ∃ b off, a = some ⟨b, off, none⟩ ∧ b < n₀ ∧ ∀ j, j < len → w.cell? ⟨b, off + j, none⟩ = some (.int .u8 (zs[j]?.getD 0))) :
    SeqStopsK F n Try.prog 87 #[.pointer (some ⟨Bs, 0, none⟩)] (fun x : Int => #[Value.int .u8 x]) (Below n₀) (fun ys => ys = zs) (fun pre => pre <+: zs) len w := fun l J Jx W hW _ _ hY h0 =>
  values1_in F n hf hro hn l Bs n₀ len cap a zs hz hmax J Jx hY W ((hW.cell (p := ⟨Bs, 0, none⟩) hBs).trans hb)
    (hc.imp id fun ⟨b, off, e, h1, h2⟩ => ⟨b, off, e, h1, fun j hj => ((hW.mono hn₀).cell (p := ⟨b, off + j, none⟩) h1).trans (h2 j hj)⟩) h0
end Go.Proofs.Ytfmgaakbfphpbaa

/- The check of bytes, as the package fnv and the document reckon it. -/
namespace Go.Proofs.Ytfmgaakbfphpbaa
open Go.RowKit Go.Shelf
set_option linter.unusedVariables false

attribute [local go_sem] Oper.semAt_some

theorem prefix_byte {pre bs : List Int} {x : Int} (hr : IsBytes bs) (h : pre ++ [x] <+: bs) : 0 ≤ x ∧ x < 256 := by
  obtain ⟨t, rfl⟩ := h
  simpa using hr pre.length

set_option maxRecDepth 100000 in
set_option maxHeartbeats 2000000 in
theorem more_at (h : Int) (hh : IsU64 h) (a : Option Addr) (len cap : Nat) (bs : List Int) (hlen : bs.length = len) (hmax : len ≤ maxLen) (hr : IsBytes bs) (w : World)
    (hA : len = 0 ∨ ∃ b off, a = some ⟨b, off, none⟩ ∧ b < w.heap.size ∧ ∀ j, j < len → w.cell? ⟨b, off + j, none⟩ = some (.int .u8 (bs[j]?.getD 0))) :
    Calls Try.prog 82 #[.int .u64 h, .slice a len cap] w fun e w' => e = .returned (.int .u64 (fnvMore h bs)) ∧ Below w.heap.size w w' := by
  refine (callsIn_wide (n := 3)).1 ?_
  refine callsIn_of_wp_marks Try.func82 rfl trivial ?_ rfl
  simp only [Try.ntmps82, List.size_toArray, List.length_cons, List.length_nil, Nat.reduceAdd, Nat.reduceSub, Array.replicate_succ, Array.replicate_zero, List.push_toArray, List.append_toArray, List.nil_append, List.cons_append]
  have HA := Lib.hid hA
  have HM := Lib.hid hmax
  have HR := Lib.hid hr
  have HH := Lib.hid hh
  have HL := Lib.hid hlen
  clear hA hmax hr hh hlen
  gi_wp2_with (refine ⟨trivial, ?_⟩; gi_at_call 86; refine (values_in _ _ trivial rfl _ _ _ _).mono ?_; rintro e w' ⟨rfl, rfl⟩)
  have bH := Boxed.new w 131 (.int .u64 h)
  have bV := Boxed.new (w.alloc (.cells #[.int .u64 h] 131)) 35 (.slice a len cap)
  rw [World.size_alloc] at bV
  have hB0 : Below w.heap.size w ((w.alloc (.cells #[.int .u64 h] 131)).alloc (.cells #[.slice a len cap] 35)) := ((Below.refl _ w).alloc (Nat.le_refl _) _).alloc (by simp) _
  refine wpIn_rangeFunc_ownF (n := 3) rfl (by omega) (gf := 87) (lb := #[.pointer (some ⟨w.heap.size + 1, 0, none⟩)]) rfl trivial (enters_of Try.func87 (by kernel_rfl) rfl)
    (values_stops Fence.wide 2 trivial rfl (by omega) (w.heap.size + 1) w.heap.size len cap a bs HL.out HM.out _ (by simp) (by simp; omega) bV.cell
      (HA.out.imp id fun ⟨b, off, e, h1, h2⟩ => ⟨b, off, e, h1, fun j hj => (hB0.cell (p := ⟨b, off + j, none⟩) h1).trans (h2 j hj)⟩)) belowK_t (belowK_b (by simp; omega)) (Below.refl _ _) (fun _ => rfl)
    (fun pre W => (∃ v : Int, Boxed W w.heap.size 131 (.int .u64 v) ∧ IsU64 v ∧ (pre <+: bs → v = fnvMore h pre)) ∧ Below w.heap.size w W)
    (fun _ _ _ => False)
    ?hI (fun _ _ _ _ _ h _ _ => h.elim) ?h0 ?a1 ?assign ?body ?done ?stop
  case hI =>
    intro s W W' row ⟨⟨v, hv, h1, h2⟩, hB⟩ hg hrow
    have hr' : ∀ r, row = some r → ∃ o : Obj, W.heap[r]? = some o ∧ o.isCells = false := fun r e => (hrow r e).2
    exact ⟨⟨v, boxed_own _ _ (fun _ : Unit => _) () W W' row hv hg hr', h1, h2⟩, ownFrom_below (β := Unit) (Nat.le_refl _) (by simp; omega) () W W' row hB hg hrow⟩
  case h0 => exact ⟨⟨h, bH.alloc _, HH.out, fun _ => rfl⟩, hB0⟩
  case assign =>
    intro l x W K hK
    gi_wp2
    exact hK
  case body =>
    rintro l pre x W ⟨⟨v, hv, hv0, hvp⟩, hB⟩ hlen
    have c1 := hv.cell
    have f1 := hv.frozen
    have HP := Lib.hid hvp
    have HV := Lib.hid hv0
    clear hvp hv0
    gi_wp2
    refine ⟨(KeepsOthers.setCell _ _ _).trans (KeepsOthers.setCell _ _ _), ((Below.refl w.heap.size W).setCell (p := ⟨w.heap.size, 0, none⟩) (Nat.le_refl _) _).setCell (p := ⟨w.heap.size, 0, none⟩) (Nat.le_refl _) _, ⟨_, (hv.set _).set _, isU64_wrap _, fun hp => ?_⟩, (hB.setCell (p := ⟨w.heap.size, 0, none⟩) (Nat.le_refl _) _).setCell (p := ⟨w.heap.size, 0, none⟩) (Nat.le_refl _) _⟩
    obtain ⟨r1, r2⟩ := prefix_byte HR.out hp
    rw [HP.out ((List.prefix_append _ _).trans hp), fnvMore_snoc, wrap_u64_in x r1 (by omega)]
    rfl
  case done =>
    rintro D xs W hD rfl ⟨⟨v, hv, _, hvp⟩, hB⟩ hK
    have c1 := hv.cell
    have e := hvp (List.prefix_refl _)
    have He := Lib.hid e
    clear e hvp
    gi_wp2
    refine ⟨by simp, .inl ⟨_, _, rfl, run_takeDeferred hK, ?_⟩⟩
    refine ⟨_, results_tmp rfl _ _ _, ?_, hB.trans (belowK_b (w := w) (Nat.le_refl _) W D _ _ (by simp at hD; omega) hK rfl rfl)⟩
    rw [He.out]; rfl
  case stop =>
    rintro D c pre W _ _ h _
    exact h.elim

set_option maxRecDepth 100000 in
/-- **More**: from any check on. -/
theorem more_any (h : Int) (v : Value) (bs : List Int) (w : World) (hh : IsU64 h) (hv : Sl .u8 w v bs) (hr : IsBytes bs) :
    Calls Try.prog 82 #[.int .u64 h, v] w fun e w' => e = .returned (.int .u64 (fnvMore h bs)) ∧ Below w.heap.size w w' := by
  obtain ⟨a, cap, rfl, hl, h2⟩ := Lies.of_sl hv
  exact more_at h hh a _ cap bs rfl h2 hr w hl

set_option maxRecDepth 100000 in
set_option maxHeartbeats 1000000 in
/-- **Check**: of any bytes. -/
theorem check_any (v : Value) (bs : List Int) (w : World) (hv : Sl .u8 w v bs) (hr : IsBytes bs) :
    Calls Try.prog 72 #[v] w fun e w' => e = .returned (.int .u64 (fnvMore fnvInit bs)) ∧ Below w.heap.size w w' := by
  have HM := Lib.hid (more_any fnvInit v bs w isU64_init hv hr)
  clear hv hr
  unfold fnvInit at *
  go_enter Try.func72, Try.ntmps72
  go_wp2_with fail
  refine HM.out.mono ?_
  rintro e w1 ⟨rfl, hB⟩
  have HB := Lib.hid hB
  clear hB
  go_wp2_with fail
  go_ret
  exact ⟨rfl, HB.out⟩

set_option maxRecDepth 100000 in
set_option maxHeartbeats 2000000 in
theorem refMore_at (h : Int) (hh : IsU64 h) (a : Option Addr) (len cap : Nat) (bs : List Int) (hlen : bs.length = len) (hmax : len ≤ 9223372036854775807) (hr : IsBytes bs) (w : World) (hA : Lies w a len bs) :
    Calls Try.prog 74 #[.int .u64 h, .slice a len cap] w fun e w' => e = .returned (.int .u64 (fnvMore h bs)) ∧ w' = w := by
  have HL := Lib.hid hlen
  have HA := Lib.hid hA
  have HR := Lib.hid hr
  clear hlen hA hr hh
  go_enter Try.func74, Try.ntmps74
  go_wp2
  go_loop [0, 5] (fun v i => ∃ k : Nat, k ≤ len ∧ i = .int .i64 k ∧ v = .int .u64 (fnvMore h (bs.take k))) (fun _ i => len - (intOf i).toNat)
  case atStart => exact ⟨0, Nat.zero_le _, rfl, rfl⟩
  case round =>
    obtain ⟨k, hk, rfl, rfl⟩ := hrel
    obtain ⟨v, hv⟩ : ∃ v, fnvMore h (bs.take k) = v := ⟨_, rfl⟩
    rw [hv]
    by_cases hlt : k < len
    · obtain ⟨b, off, rfl, hb, hc⟩ : ∃ b off, a = some ⟨b, off, none⟩ ∧ b < w.heap.size ∧ ∀ j, j < len → w.cell? ⟨b, off + j, none⟩ = some (.int .u8 (bs[j]?.getD 0)) := by
        rcases HA.out with h | h
        · omega
        · exact h
      have c3 := hc k hlt
      obtain ⟨r1, r2⟩ := HR.out k
      have HS : Hid (fnvStep v (bs[k]?.getD 0) = fnvMore h (bs.take (k + 1))) := by
        show _ = _
        rw [take_snoc_getD bs (by rw [HL.out]; exact hlt), fnvMore_snoc, hv]
      obtain ⟨y, hy⟩ : ∃ y, bs[k]?.getD 0 = y := ⟨_, rfl⟩
      rw [hy] at c3 r1 r2 HS
      clear hc hy hv
      go_wp2
      go_round
      case rel =>
        refine ⟨k + 1, by omega, by go_num, ?_⟩
        rw [← HS.out]; rfl
      case measure => simp [intOf]; omega
    · obtain rfl : k = len := by omega
      have HV := Lib.hid hv
      clear hv
      go_wp2
      go_ret
      refine ⟨?_, rfl⟩
      rw [← HV.out, ← HL.out, List.take_length]; rfl

set_option maxRecDepth 100000 in
theorem refMore_any (h : Int) (v : Value) (bs : List Int) (w : World) (hh : IsU64 h) (hv : Sl .u8 w v bs) (hr : IsBytes bs) :
    Calls Try.prog 74 #[.int .u64 h, v] w fun e w' => e = .returned (.int .u64 (fnvMore h bs)) ∧ w' = w := by
  obtain ⟨a, cap, rfl, hl, h2⟩ := Lies.of_sl hv
  unfold maxLen at h2
  exact refMore_at h hh a _ cap bs rfl (by omega) hr w hl

set_option maxRecDepth 100000 in
set_option maxHeartbeats 1000000 in
theorem refCheck_any (v : Value) (bs : List Int) (w : World) (hv : Sl .u8 w v bs) (hr : IsBytes bs) :
    Calls Try.prog 57 #[v] w fun e w' => e = .returned (.int .u64 (fnvMore fnvInit bs)) ∧ w' = w := by
  have HM := Lib.hid (refMore_any fnvInit v bs w isU64_init hv hr)
  clear hv hr
  unfold fnvInit at *
  go_enter Try.func57, Try.ntmps57
  go_wp2_with fail
  refine HM.out.mono ?_
  rintro e w' ⟨rfl, rfl⟩
  go_wp2_with fail
  go_ret
  exact ⟨rfl, rfl⟩
end Go.Proofs.Ytfmgaakbfphpbaa

/- The document's own Encode. -/
namespace Go.Proofs.Ytfmgaakbfphpbaa
open Go.RowKit
set_option linter.unusedVariables false
attribute [-simp] Try.isAgg59 Try.zeroValue59
attribute [-go_sem] loadVar storeVar
attribute [local go_sem] zero_blk build_blk loadVar_open storeVar_open

/-- The bytes that Encode answers. -/
def Sct.code (p : Sct) : List Value := if p.fits = true then u8s p.bytes else fillB 0
def Sct.codeE (p : Sct) : Int := if p.fits = true then 0 else 11

set_option maxRecDepth 100000 in
set_option maxHeartbeats 4000000 in
theorem refEncode (p : Sct) (hp : p.Ok) (w : World) :
    Calls Try.prog 35 #[.agg p.cells.toArray] w fun e w' => e = .returned (.tuple #[.agg p.code.toArray, .int .i64 p.codeE]) ∧ Below w.heap.size w w' := by
  obtain ⟨W1, hW1⟩ : ∃ W1, w.alloc (.cells p.cells.toArray 102) = W1 := ⟨_, rfl⟩
  have hB1 : Below w.heap.size w W1 := by rw [← hW1]; exact (Below.refl _ _).alloc (Nat.le_refl _) _
  have hz1 : W1.heap.size = w.heap.size + 1 := by rw [← hW1]; simp
  have hr1 : W1.heap[w.heap.size]? = some (.cells p.cells.toArray 102 (0, 0)) := by rw [← hW1]; exact heap_alloc_new w _
  obtain ⟨W, hW⟩ : ∃ W, W1.alloc (.cells zarr 59) = W := ⟨_, rfl⟩
  have hB2 : Below W1.heap.size W1 W := by rw [← hW]; exact (Below.refl _ _).alloc (Nat.le_refl _) _
  have HB : Hid (Below w.heap.size w W) := hB1.trans (hB2.mono hB1.size)
  have HR : Hid (W.heap[w.heap.size]? = some (.cells p.cells.toArray 102 (0, 0))) := (hB2.block _ (by omega)).trans hr1
  have HR2 : Hid (W.heap[w.heap.size + 1]? = some (.cells zarr 59 (0, 0))) := by
    have := heap_alloc_new W1 (.cells zarr 59)
    rw [hW, hz1] at this
    exact this
  have HZ : Hid (W.heap.size = w.heap.size + 2) := by show _ = _; rw [← hW, World.size_alloc, hz1]
  have HP := Lib.hid hp
  have c0 : W.cell? ⟨w.heap.size, 0, none⟩ = some (.int .u8 p.mark) := cell_of_row W _ 0 _ _ _ HR.out
  have c1 : W.cell? ⟨w.heap.size, 1, none⟩ = some (.int .u32 p.seq) := cell_of_row W _ 1 _ _ _ HR.out
  have c2 : W.cell? ⟨w.heap.size, 2, none⟩ = some (.int .i64 p.index) := cell_of_row W _ 2 _ _ _ HR.out
  clear hB1 hB2 hr1 hp
  obtain ⟨mk, hmk⟩ : ∃ q, p.mark = q := ⟨_, rfl⟩
  obtain ⟨sq, hsq⟩ : ∃ q, p.seq = q := ⟨_, rfl⟩
  obtain ⟨ix, hix⟩ : ∃ q, p.index = q := ⟨_, rfl⟩
  have EM := Lib.hid hmk
  have ES := Lib.hid hsq
  have EI := Lib.hid hix
  rw [hmk] at c0
  rw [hsq] at c1
  rw [hix] at c2
  clear hmk hsq hix
  by_cases hf : p.fits = true
  · have hfx := of_decide_eq_true hf
    rw [EM.out, EI.out] at hfx
    obtain ⟨m1, m2, m3⟩ := hfx
    have q0 : (mk == 0) = false := by simpa using m1
    have q1 : decide (ix < 0) = false := by simp; omega
    have q2 : decide (65535 < ix) = false := by simp; omega
    have HF := Lib.hid hf
    clear hf
    have hmx : Try.prog.follows .mixedOrders = true := by kernel_rfl
    have HC : Hid (∀ y : World, Below W.heap.size W y → y.cell? ⟨w.heap.size, 2, none⟩ = some (.int .i64 ix)) := fun y hy => (hy.cell (p := ⟨w.heap.size, 2, none⟩) (by have := HZ.out; show w.heap.size < _; omega)).trans (by rw [← EI.out]; exact cell_of_row W _ 2 _ _ _ HR.out)
    have HI0 : Hid (0 ≤ ix) := m2
    have HI1 : Hid (ix ≤ 65535) := m3
    have HSB : Hid (Sl .u8 W (.slice (some ⟨w.heap.size, 3, none⟩) 48 48) p.body) := by
      have := sl_range (bs := p.body) (row_part (a := [.int .u8 p.mark, .int .u32 p.seq, .int .i64 p.index]) (b := u8s p.body) HR.out) (by have := HZ.out; omega) (by rw [HP.out.len]; simp [maxLen])
      rw [HP.out.len] at this
      exact this
    have d0 : ∀ y : Ext W, y.1.cell? ⟨w.heap.size, 0, none⟩ = some (.int .u8 mk) := fun y => (y.2.cell (p := ⟨w.heap.size, 0, none⟩) (by have := HZ.out; show w.heap.size < _; omega)).trans c0
    have d1 : ∀ y : Ext W, y.1.cell? ⟨w.heap.size, 1, none⟩ = some (.int .u32 sq) := fun y => (y.2.cell (p := ⟨w.heap.size, 1, none⟩) (by have := HZ.out; show w.heap.size < _; omega)).trans c1
    have s0 : 0 ≤ sq := by rw [← ES.out]; exact HP.out.seq.1
    have s1 : sq < 4294967296 := by rw [← ES.out]; exact HP.out.seq.2
    have HPut : Hid (∀ x : World, Calls Try.prog 56 #[.int .u64 sq, .int .i64 4] x fun e w' => ∃ v, e = .returned v ∧ w'.ownsRow x.heap.size 5 1 v 4 ((putL sq 4).map (Value.int .u8)) ∧ Below x.heap.size x w') := fun x => refPut_some sq 4 x (by omega) (by omega) s0 (by omega)
    have HPut2 : Hid (∀ x : World, Calls Try.prog 56 #[.int .u64 ix, .int .i64 2] x fun e w' => ∃ v, e = .returned v ∧ w'.ownsRow x.heap.size 5 1 v 2 ((putL ix 2).map (Value.int .u8)) ∧ Below x.heap.size x w') := fun x => refPut_some ix 2 x (by omega) (by omega) m2 (by omega)
    clear m1 m2 m3
    go_enter Try.func35, Try.ntmps35
    go_wp2_with fail
    refine region_plan (fun x => ∃ y : Ext W, x = y.1) 8 (.takes [0, 1, 3, 4, 5] (.two 2 6 (.one 6 (.one 7 .leaf)) (.one 2 (.one 7 .leaf)))) hmx (by kernel_rfl) (by intro c x v a w h; cases x <;> exact h) ⟨⟨W.drew, (Below.refl _ W).drew⟩, rfl⟩ ?_
    repeat (rw [wpPlan_takes_cons]; simp only [nth_zero, nth_succ]; go_big_quiet_step (fail); refine wpQuiet_nil ?_)
    rw [wpPlan_takes_nil]
    clear s0 s1 c0 c1 c2 q0 q1 q2 hW hW1
    refine ⟨?_, ?_⟩
    · obtain ⟨x1, hx1⟩ : ∃ x, W.drew.alloc (.cells #[.int .u8 mk] 5) = x := ⟨_, rfl⟩
      have K1 : Hid (Below W.heap.size W x1) := by rw [← hx1]; exact ((Below.refl _ W).drew).alloc (Nat.le_refl _) _
      have O1 : Hid (OwnB W x1 (.slice (some ⟨W.heap.size, 0, none⟩) 1 1) [mk]) := by rw [← hx1]; exact ownB_one W W.drew (Nat.le_refl _) mk
      simp only [nth_zero, nth_succ]
      go_wp2_with fail
      try rw [hx1]
      refine planPost_mk ⟨⟨x1, K1.out⟩, rfl⟩ ?_
      clear hx1
      rw [wpPlan_one]
      simp only [nth_zero, nth_succ]
      go_wp2_with fail
      go_at_call 56
      refine (HPut.out x1).mono ?_
      rintro e x2 ⟨v4, rfl, hrow, hb⟩
      obtain ⟨v5, x3, R3, O3, K3⟩ := (O1.out.below hb).app (K1.out.trans (hb.mono K1.out.size)) (Sl.of_owns (bs := putL sq 4) (by rw [putL_length]; exact hrow)) (by simp [putL_length])
      have K2 : Hid (Below W.heap.size W x2) := K1.out.trans (hb.mono K1.out.size)
      clear hrow hb O1
      go_wp2_with fail
      refine planPost_mk ⟨⟨x2, K2.out⟩, rfl⟩ ?_
      rw [wpPlan_one]
      simp only [nth_zero, nth_succ]
      refine wpList_append_run (.tmp 22) (.tmp 26) 35 rfl rfl _ _ _ rfl rfl R3.out ?_
      go_wp2_with fail
      refine planPost_mk ⟨⟨x3, K3.out⟩, rfl⟩ ?_
      rw [wpPlan_leaf]
      simp only [List.drop_succ_cons, List.drop_zero]
      go_wp2_with fail
      -- the second number, and the body
      clear d0 d1
      have d2 : ∀ y : Ext W, y.1.cell? ⟨w.heap.size, 2, none⟩ = some (.int .i64 ix) := fun y => HC.out y.1 y.2
      have KD : Hid (Below W.heap.size W x3.drew) := K3.out.trans (((Below.refl _ x3).drew).mono K3.out.size)
      have O3' : Hid (OwnB W x3.drew v5 ([mk] ++ putL sq 4)) := O3.out.below (Below.refl _ x3).drew
      have i0 := HI0.out
      have i1 := HI1.out
      refine region_plan (fun x => ∃ y : Ext W, x = y.1) 9 (.takes [0, 1, 2, 3, 6, 7] (.one 4 (.one 5 (.one 8 .leaf)))) hmx (by kernel_rfl) (by intro c x v a w h; cases x <;> exact h) ⟨⟨x3.drew, KD.out⟩, rfl⟩ ?_
      repeat (rw [wpPlan_takes_cons]; simp only [nth_zero, nth_succ]; go_big_quiet_step (fail); refine wpQuiet_nil ?_)
      clear i0 i1 d2
      rw [wpPlan_takes_nil, wpPlan_one]
      simp only [nth_zero, nth_succ]
      go_wp2_with fail
      go_at_call 56
      refine (HPut2.out x3.drew).mono ?_
      rintro e x4 ⟨v6, rfl, hrow, hb⟩
      obtain ⟨v7, x5, R5, O5, K5⟩ := (O3'.out.below hb).app (KD.out.trans (hb.mono KD.out.size)) (Sl.of_owns (bs := putL ix 2) (by rw [putL_length]; exact hrow)) (by simp [putL_length])
      obtain ⟨v8, x6, R6, O6', K6⟩ := O5.out.app K5.out (HSB.out.below K5.out) (by rw [HP.out.len]; simp [putL_length])
      have O6 : Hid (OwnB W x6 v8 p.head) := by
        have := O6'.out
        rw [show ([mk] ++ putL sq 4) ++ putL ix 2 ++ p.body = p.head by simp [Sct.head, EM.out, ES.out, EI.out]] at this
        exact this
      have K4 : Hid (Below W.heap.size W x4) := KD.out.trans (hb.mono KD.out.size)
      clear hrow hb O6'
      go_wp2_with fail
      refine planPost_mk ⟨⟨x4, K4.out⟩, rfl⟩ ?_
      rw [wpPlan_one]
      simp only [nth_zero, nth_succ]
      refine wpList_append_run (.tmp 28) (.tmp 32) 35 rfl rfl _ _ _ rfl rfl R5.out ?_
      go_wp2_with fail
      refine planPost_mk ⟨⟨x5, K5.out⟩, rfl⟩ ?_
      rw [wpPlan_one]
      simp only [nth_zero, nth_succ]
      refine wpList_append_run (.tmp 33) (.tmp 35) 35 rfl rfl _ _ _ rfl rfl R6.out ?_
      go_wp2_with fail
      refine planPost_mk ⟨⟨x6, K6.out⟩, rfl⟩ ?_
      rw [wpPlan_leaf]
      simp only [List.drop_succ_cons, List.drop_zero]
      clear R3 R5 R6 O3 O3' O5
      go_wp2_with fail
      -- the check
      go_at_call 57
      refine (refCheck_any v8 p.head x6 O6.out.sl (Sct.head_bytes HP.out)).mono ?_
      rintro e w' ⟨rfl, hx⟩
      obtain rfl := hx.symm
      clear hx
      obtain ⟨ck, hck⟩ : ∃ q, fnvMore fnvInit p.head = q := ⟨_, rfl⟩
      have HCK := Lib.hid hck
      have HU := Lib.hid (chk_u64 p.head)
      rw [hck]
      clear hck
      go_wp2_with fail
      go_at_call 56
      refine (refPut_some ck 8 x6 (by omega) (by omega) (by rw [← HCK.out]; exact HU.out.1) (by rw [← HCK.out]; exact HU.out.2)).mono ?_
      rintro e x7 ⟨v9, rfl, hrow, hb⟩
      obtain ⟨v10, x8, R8, O8, K8⟩ := (O6.out.below hb).app (K6.out.trans (hb.mono K6.out.size)) (Sl.of_owns (bs := putL ck 8) (by rw [putL_length]; exact hrow)) (by rw [Sct.head_length HP.out]; simp [putL_length])
      clear hrow hb
      obtain ⟨x9, hx9⟩ : ∃ x, x8.alloc (.cells zarr 59) = x := ⟨_, rfl⟩
      have K9 : Hid (Below W.heap.size W x9) := by rw [← hx9]; exact K8.out.alloc K8.out.size _
      have k9 : Hid (x9.heap[x8.heap.size]? = some (.cells zarr 59 (0, 0))) := by rw [← hx9]; exact heap_alloc_new x8 _
      have O9 : Hid (OwnB W x9 v10 (p.head ++ putL ck 8)) := by rw [← hx9]; exact O8.out.below ((Below.refl _ x8).alloc (Nat.le_refl _) _)
      have hl63 : (p.head ++ putL ck 8).length = 63 := by rw [List.length_append, Sct.head_length HP.out, putL_length]
      have RC := run_copy_bytes (B := x8.heap.size) (o := 0) (dLen := 64) (dCap := 64) 3 O9.out.sl (by rw [hl63]; omega) (row_there k9.out 0 _ (by rw [hl63, zarr_size]; omega))
      obtain ⟨x10, hx10⟩ : ∃ x, x9.setCells x8.heap.size 0 (u8s (p.head ++ putL ck 8)) = x := ⟨_, rfl⟩
      rw [hx10, hl63] at RC
      have K10 : Hid (Below W.heap.size W x10) := by rw [← hx10]; exact K9.out.trans ((below_cells (N := W.heap.size) K8.out.size _ _ _).mono (Nat.le_refl _))
      have rb : x10.rangeAt x8.heap.size 0 (u8s p.bytes) := by
        have e1 : u8s p.bytes = u8s (p.head ++ putL ck 8) ++ [.int .u8 0] := by
          rw [← HCK.out]; simp [u8s, Sct.bytes, chk]
        rw [e1]
        refine rangeAt_app ?_ ?_
        · rw [← hx10]; exact World.rangeAt_setCells_same x9 _ 0 _ (by rw [u8s_length, hl63]; exact row_there k9.out 0 63 (by rw [zarr_size]; omega))
        · rw [u8s_length, hl63, ← hx10]
          refine World.rangeAt_setCells_apart (fun j x hx => ?_) _ 0 _ (by rw [u8s_length, hl63]; simp)
          rw [cell_of_row _ _ _ _ _ _ k9.out]
          match j, hx with
          | 0, hx => simp at hx; subst hx; rfl
          | j + 1, hx => simp at hx
      have L10 : (loadVar 59 ⟨x8.heap.size, 0, none⟩).run Try.prog x10 = .ok (.agg (u8s p.bytes).toArray) x10 := load_blk rb (by rw [u8s_length]; exact Sct.bytes_length HP.out)
      obtain ⟨x11, st, ld, hb11⟩ := blk_cell (w := w) (x := x10) (B := w.heap.size + 1) (u := u8s p.bytes) ((K10.out.block _ (by have := HZ.out; omega)).trans HR2.out) zarr_size (Nat.le_succ _) (HB.out.trans (K10.out.mono HB.out.size)) (isBlk_u8s (Sct.bytes_length HP.out))
      have HB11 := Lib.hid hb11
      have HLD := Lib.hid ld
      clear hx10 rb hl63 hb11 ld
      go_wp2_with (at_builtin; refine wpList_append_run (.tmp 37) (.tmp 40) 35 rfl rfl _ _ _ rfl rfl R8.out ?_)
      have hE : p.code = u8s p.bytes ∧ p.codeE = 0 := by unfold Sct.code Sct.codeE; rw [if_pos HF.out, if_pos HF.out]; exact ⟨rfl, rfl⟩
      rw [hE.1, hE.2]
      exact bodyPost_ret (results_cell2 rfl rfl HLD.out) rfl ⟨rfl, HB11.out⟩
    · simp only [nth_zero, nth_succ]
      go_wp2_with fail
      go_at_call 56
      refine (HPut.out W.drew).mono ?_
      rintro e x1 ⟨v4, rfl, hrow, hb⟩
      have K1 : Hid (Below W.heap.size W x1) := ((Below.refl _ W).drew).trans hb
      have S1 : Hid (Sl .u8 x1 v4 (putL sq 4)) := Sl.of_owns (bs := putL sq 4) (by rw [putL_length]; exact hrow)
      clear hrow hb
      go_wp2_with fail
      refine planPost_mk ⟨⟨x1, K1.out⟩, rfl⟩ ?_
      rw [wpPlan_one]
      obtain ⟨x2, hx2⟩ : ∃ x, x1.alloc (.cells #[.int .u8 mk] 5) = x := ⟨_, rfl⟩
      have K2 : Hid (Below W.heap.size W x2) := by rw [← hx2]; exact K1.out.alloc K1.out.size _
      have O2 : Hid (OwnB W x2 (.slice (some ⟨x1.heap.size, 0, none⟩) 1 1) [mk]) := by rw [← hx2]; exact ownB_one W x1 K1.out.size mk
      have S2 : Hid (Sl .u8 x2 v4 (putL sq 4)) := by rw [← hx2]; exact S1.out.below ((Below.refl _ x1).alloc (Nat.le_refl _) _)
      obtain ⟨v5, x3, R3, O3, K3⟩ := O2.out.app K2.out S2.out (by simp [putL_length])
      simp only [nth_zero, nth_succ]
      go_wp2_with fail
      try rw [hx2]
      refine planPost_mk ⟨⟨x2, K2.out⟩, rfl⟩ ?_
      clear hx2 O2 S1 S2
      rw [wpPlan_one]
      simp only [nth_zero, nth_succ]
      refine wpList_append_run (.tmp 22) (.tmp 26) 35 rfl rfl _ _ _ rfl rfl R3.out ?_
      go_wp2_with fail
      refine planPost_mk ⟨⟨x3, K3.out⟩, rfl⟩ ?_
      rw [wpPlan_leaf]
      simp only [List.drop_succ_cons, List.drop_zero]
      go_wp2_with fail
      -- the second number, and the body
      clear d0 d1
      have d2 : ∀ y : Ext W, y.1.cell? ⟨w.heap.size, 2, none⟩ = some (.int .i64 ix) := fun y => HC.out y.1 y.2
      have KD : Hid (Below W.heap.size W x3.drew) := K3.out.trans (((Below.refl _ x3).drew).mono K3.out.size)
      have O3' : Hid (OwnB W x3.drew v5 ([mk] ++ putL sq 4)) := O3.out.below (Below.refl _ x3).drew
      have i0 := HI0.out
      have i1 := HI1.out
      refine region_plan (fun x => ∃ y : Ext W, x = y.1) 9 (.takes [0, 1, 2, 3, 6, 7] (.one 4 (.one 5 (.one 8 .leaf)))) hmx (by kernel_rfl) (by intro c x v a w h; cases x <;> exact h) ⟨⟨x3.drew, KD.out⟩, rfl⟩ ?_
      repeat (rw [wpPlan_takes_cons]; simp only [nth_zero, nth_succ]; go_big_quiet_step (fail); refine wpQuiet_nil ?_)
      clear i0 i1 d2
      rw [wpPlan_takes_nil, wpPlan_one]
      simp only [nth_zero, nth_succ]
      go_wp2_with fail
      go_at_call 56
      refine (HPut2.out x3.drew).mono ?_
      rintro e x4 ⟨v6, rfl, hrow, hb⟩
      obtain ⟨v7, x5, R5, O5, K5⟩ := (O3'.out.below hb).app (KD.out.trans (hb.mono KD.out.size)) (Sl.of_owns (bs := putL ix 2) (by rw [putL_length]; exact hrow)) (by simp [putL_length])
      obtain ⟨v8, x6, R6, O6', K6⟩ := O5.out.app K5.out (HSB.out.below K5.out) (by rw [HP.out.len]; simp [putL_length])
      have O6 : Hid (OwnB W x6 v8 p.head) := by
        have := O6'.out
        rw [show ([mk] ++ putL sq 4) ++ putL ix 2 ++ p.body = p.head by simp [Sct.head, EM.out, ES.out, EI.out]] at this
        exact this
      have K4 : Hid (Below W.heap.size W x4) := KD.out.trans (hb.mono KD.out.size)
      clear hrow hb O6'
      go_wp2_with fail
      refine planPost_mk ⟨⟨x4, K4.out⟩, rfl⟩ ?_
      rw [wpPlan_one]
      simp only [nth_zero, nth_succ]
      refine wpList_append_run (.tmp 28) (.tmp 32) 35 rfl rfl _ _ _ rfl rfl R5.out ?_
      go_wp2_with fail
      refine planPost_mk ⟨⟨x5, K5.out⟩, rfl⟩ ?_
      rw [wpPlan_one]
      simp only [nth_zero, nth_succ]
      refine wpList_append_run (.tmp 33) (.tmp 35) 35 rfl rfl _ _ _ rfl rfl R6.out ?_
      go_wp2_with fail
      refine planPost_mk ⟨⟨x6, K6.out⟩, rfl⟩ ?_
      rw [wpPlan_leaf]
      simp only [List.drop_succ_cons, List.drop_zero]
      clear R3 R5 R6 O3 O3' O5
      go_wp2_with fail
      -- the check
      go_at_call 57
      refine (refCheck_any v8 p.head x6 O6.out.sl (Sct.head_bytes HP.out)).mono ?_
      rintro e w' ⟨rfl, hx⟩
      obtain rfl := hx.symm
      clear hx
      obtain ⟨ck, hck⟩ : ∃ q, fnvMore fnvInit p.head = q := ⟨_, rfl⟩
      have HCK := Lib.hid hck
      have HU := Lib.hid (chk_u64 p.head)
      rw [hck]
      clear hck
      go_wp2_with fail
      go_at_call 56
      refine (refPut_some ck 8 x6 (by omega) (by omega) (by rw [← HCK.out]; exact HU.out.1) (by rw [← HCK.out]; exact HU.out.2)).mono ?_
      rintro e x7 ⟨v9, rfl, hrow, hb⟩
      obtain ⟨v10, x8, R8, O8, K8⟩ := (O6.out.below hb).app (K6.out.trans (hb.mono K6.out.size)) (Sl.of_owns (bs := putL ck 8) (by rw [putL_length]; exact hrow)) (by rw [Sct.head_length HP.out]; simp [putL_length])
      clear hrow hb
      obtain ⟨x9, hx9⟩ : ∃ x, x8.alloc (.cells zarr 59) = x := ⟨_, rfl⟩
      have K9 : Hid (Below W.heap.size W x9) := by rw [← hx9]; exact K8.out.alloc K8.out.size _
      have k9 : Hid (x9.heap[x8.heap.size]? = some (.cells zarr 59 (0, 0))) := by rw [← hx9]; exact heap_alloc_new x8 _
      have O9 : Hid (OwnB W x9 v10 (p.head ++ putL ck 8)) := by rw [← hx9]; exact O8.out.below ((Below.refl _ x8).alloc (Nat.le_refl _) _)
      have hl63 : (p.head ++ putL ck 8).length = 63 := by rw [List.length_append, Sct.head_length HP.out, putL_length]
      have RC := run_copy_bytes (B := x8.heap.size) (o := 0) (dLen := 64) (dCap := 64) 3 O9.out.sl (by rw [hl63]; omega) (row_there k9.out 0 _ (by rw [hl63, zarr_size]; omega))
      obtain ⟨x10, hx10⟩ : ∃ x, x9.setCells x8.heap.size 0 (u8s (p.head ++ putL ck 8)) = x := ⟨_, rfl⟩
      rw [hx10, hl63] at RC
      have K10 : Hid (Below W.heap.size W x10) := by rw [← hx10]; exact K9.out.trans ((below_cells (N := W.heap.size) K8.out.size _ _ _).mono (Nat.le_refl _))
      have rb : x10.rangeAt x8.heap.size 0 (u8s p.bytes) := by
        have e1 : u8s p.bytes = u8s (p.head ++ putL ck 8) ++ [.int .u8 0] := by
          rw [← HCK.out]; simp [u8s, Sct.bytes, chk]
        rw [e1]
        refine rangeAt_app ?_ ?_
        · rw [← hx10]; exact World.rangeAt_setCells_same x9 _ 0 _ (by rw [u8s_length, hl63]; exact row_there k9.out 0 63 (by rw [zarr_size]; omega))
        · rw [u8s_length, hl63, ← hx10]
          refine World.rangeAt_setCells_apart (fun j x hx => ?_) _ 0 _ (by rw [u8s_length, hl63]; simp)
          rw [cell_of_row _ _ _ _ _ _ k9.out]
          match j, hx with
          | 0, hx => simp at hx; subst hx; rfl
          | j + 1, hx => simp at hx
      have L10 : (loadVar 59 ⟨x8.heap.size, 0, none⟩).run Try.prog x10 = .ok (.agg (u8s p.bytes).toArray) x10 := load_blk rb (by rw [u8s_length]; exact Sct.bytes_length HP.out)
      obtain ⟨x11, st, ld, hb11⟩ := blk_cell (w := w) (x := x10) (B := w.heap.size + 1) (u := u8s p.bytes) ((K10.out.block _ (by have := HZ.out; omega)).trans HR2.out) zarr_size (Nat.le_succ _) (HB.out.trans (K10.out.mono HB.out.size)) (isBlk_u8s (Sct.bytes_length HP.out))
      have HB11 := Lib.hid hb11
      have HLD := Lib.hid ld
      clear hx10 rb hl63 hb11 ld
      go_wp2_with (at_builtin; refine wpList_append_run (.tmp 37) (.tmp 40) 35 rfl rfl _ _ _ rfl rfl R8.out ?_)
      have hE : p.code = u8s p.bytes ∧ p.codeE = 0 := by unfold Sct.code Sct.codeE; rw [if_pos HF.out, if_pos HF.out]; exact ⟨rfl, rfl⟩
      rw [hE.1, hE.2]
      exact bodyPost_ret (results_cell2 rfl rfl HLD.out) rfl ⟨rfl, HB11.out⟩
  · have hE : Hid (p.code = fillB 0 ∧ p.codeE = 11) := by refine (?_ : _ ∧ _); unfold Sct.code Sct.codeE; rw [if_neg hf, if_neg hf]; exact ⟨rfl, rfl⟩
    have hq : (mk == 0) = true ∨ ((mk == 0) = false ∧ decide (ix < 0) = true) ∨ ((mk == 0) = false ∧ decide (ix < 0) = false ∧ decide (65535 < ix) = true) := by
      have hfx : ¬ (p.mark ≠ 0 ∧ 0 ≤ p.index ∧ p.index ≤ 65535) := fun h => hf (decide_eq_true h)
      rw [EM.out, EI.out] at hfx
      by_cases h0 : mk = 0
      · exact .inl (by simpa using h0)
      · by_cases h1 : ix < 0
        · exact .inr (.inl ⟨by simpa using h0, by simpa using h1⟩)
        · exact .inr (.inr ⟨by simpa using h0, by simpa using h1, by simp; omega⟩)
    obtain ⟨x2, st, ld, hb2⟩ := blk_cell HR2.out zarr_size (Nat.le_succ _) HB.out (isBlk_fill 0)
    have st' : (storeVar 59 ⟨w.heap.size + 1, 0, none⟩ (.agg zarr)).run Try.prog W = .ok () x2 := st
    have HB2 := Lib.hid hb2
    clear hf st hb2
    rcases hq with q0 | ⟨q0, q1⟩ | ⟨q0, q1, q2⟩
    all_goals
      go_enter Try.func35, Try.ntmps35
      go_wp2_with fail
      rw [hE.out.1, hE.out.2]
      exact bodyPost_ret (results_cell2 rfl rfl ld) rfl ⟨rfl, HB2.out⟩
end Go.Proofs.Ytfmgaakbfphpbaa

/- The statements' own way of holding a marked sector against the document's. -/
namespace Go.Proofs.Ytfmgaakbfphpbaa
open Go.RowKit
set_option linter.unusedVariables false
attribute [-simp] Try.isAgg59 Try.zeroValue59 Try.isAgg79 Try.zeroValue79
attribute [-go_sem] loadVar storeVar
attribute [local go_sem] zero_blk build_blk zero_bod loadVar_open3 storeVar_open

set_option maxRecDepth 100000 in
/-- Two bodies held against each other. -/
theorem eq_bod_at (d : Nat) {xs ys : List Int} (hx : xs.length = 48) (hy : ys.length = 48) (w : World) : (Op.equalIn (d + 2) 79 (.agg (u8s xs).toArray) (.agg (u8s ys).toArray)).run Try.prog w = .ok (alike (u8s xs) (u8s ys)) w := by
  obtain ⟨i0, hi⟩ : ∃ i, Try.prog.info? 5 = some i := Option.isSome_iff_exists.1 (show (Try.prog.info? 5).isSome = true by kernel_rfl)
  unfold u8s
  rw [run_equalIn_array w (d + 1) (xs.map (Value.int .u8)).toArray (ys.map (Value.int .u8)).toArray under_bod hi, show Try.prog.cellsOf 5 = 1 from by kernel_rfl,
    run_eqItems_ints (d := d) (by kernel_rfl) (by kernel_rfl) xs ys w (List.range 48) (fun i hi => by have := List.mem_range.1 hi; omega)]
  congr 1
  rw [Bool.eq_iff_iff, alike_iff, List.all_eq_true]
  constructor
  · intro h
    congr 1
    apply List.ext_getElem (by omega)
    intro i h1 h2
    have := h i (List.mem_range.2 (by omega))
    simpa [h1, h2] using this
  · intro h i hi
    have hxy : xs = ys := by
      have e := congrArg (List.map intOf) h
      rw [List.map_map, List.map_map, show intOf ∘ Value.int .u8 = id from by funext x; rfl] at e
      simpa using e
    simp [hxy]

set_option maxRecDepth 100000 in
theorem eq_bod {xs ys : List Int} (hx : xs.length = 48) (hy : ys.length = 48) (w : World) : (Op.equalIn 10000 79 (.agg (u8s xs).toArray) (.agg (u8s ys).toArray)).run Try.prog w = .ok (alike (u8s xs) (u8s ys)) w := eq_bod_at 9998 hx hy w

noncomputable def sameS (p q : Sct) : Bool := p.mark == q.mark && (p.seq == q.seq && (p.index == q.index && alike (u8s p.body) (u8s q.body)))
theorem sameS_iff {p q : Sct} : sameS p q = true ↔ p = q := by
  unfold sameS
  rw [Bool.and_eq_true, Bool.and_eq_true, Bool.and_eq_true, alike_iff]
  constructor
  · rintro ⟨a, b, c, d⟩
    have e := congrArg (List.map intOf) d
    unfold u8s at e
    rw [List.map_map, List.map_map, show intOf ∘ Value.int .u8 = id from by funext x; rfl] at e
    cases p; cases q
    simp at a b c e
    simp [a, b, c, e]
  · rintro rfl
    simp

end Go.Proofs.Ytfmgaakbfphpbaa

/- Two marked sectors held against each other, whole. -/
namespace Go.Proofs.Ytfmgaakbfphpbaa
open Go.RowKit
set_option linter.unusedVariables false

set_option maxRecDepth 100000 in
theorem part_int {t : TypeId} {k k' : IntKind} (hu : Try.prog.underlying t = some (.int k)) {xs : Array Value} {off : Nat} {n : Int} (hx : xs[off]? = some (.int k' n)) (w : World) : (part t xs off).run Try.prog w = .ok (.int k' n) w :=
  run_part_plain w (by unfold Program.plainKey; rw [hu]) hx
set_option maxRecDepth 100000 in
theorem part_bod {xs : Array Value} {off : Nat} (w : World) : (part 79 xs off).run Try.prog w = .ok (.agg (xs.extract off (off + 48))) w := by
  obtain ⟨i0, hi⟩ : ∃ i, Try.prog.info? 79 = some i := Option.isSome_iff_exists.1 (show (Try.prog.info? 79).isSome = true by kernel_rfl)
  have hs : Try.prog.cellsOf 79 = 48 := by kernel_rfl
  simp [part, isAgg, run_underlying under_bod, run_sizeOf w hi, hs, Result.andThen]
theorem sct_body (p : Sct) (hp : p.body.length = 48) : p.cells.toArray.extract 3 (3 + 48) = (u8s p.body).toArray := by
  rw [show p.cells = [.int .u8 p.mark, .int .u32 p.seq, .int .i64 p.index] ++ u8s p.body from rfl]
  apply Array.toList_inj.1
  simp only [u8s, List.cons_append, List.nil_append, Array.toList_extract, List.extract_eq_take_drop, List.drop_succ_cons, List.drop_zero]
  exact List.take_of_length_le (by simp [hp])

set_option maxRecDepth 100000 in
/-- **==** on marked sectors. -/
theorem eq_sec {p q : Sct} (hp : p.body.length = 48) (hq : q.body.length = 48) (w : World) : (Op.equalIn 10000 107 (.agg p.cells.toArray) (.agg q.cells.toArray)).run Try.prog w = .ok (sameS p q) w := by
  rw [run_equalIn_struct w 9999 107 _ _ (by kernel_rfl) (by kernel_rfl)]
  have h0 : ∃ f0 f1 f2 f3 : Field, Try.prog.fieldsOf 107 = #[f0, f1, f2, f3] ∧ (f0.name ≠ "_" ∧ f0.type = 5 ∧ f0.offset = 0) ∧ (f1.name ≠ "_" ∧ f1.type = 33 ∧ f1.offset = 1) ∧ (f2.name ≠ "_" ∧ f2.type = 3 ∧ f2.offset = 2) ∧ (f3.name ≠ "_" ∧ f3.type = 79 ∧ f3.offset = 3) :=
    ⟨_, _, _, _, rfl, ⟨by decide, rfl, rfl⟩, ⟨by decide, rfl, rfl⟩, ⟨by decide, rfl, rfl⟩, ⟨by decide, rfl, rfl⟩⟩
  obtain ⟨f0, f1, f2, f3, h0, ⟨n0, t0, o0⟩, ⟨n1, t1, o1⟩, ⟨n2, t2, o2⟩, ⟨n3, t3, o3⟩⟩ := h0
  rw [h0]
  simp only [Op.eqFields, Sem.run_bind, if_pos n0, if_pos n1, if_pos n2, if_pos n3, t0, t1, t2, t3, o0, o1, o2, o3]
  have a0 : p.cells.toArray[0]? = some (.int .u8 p.mark) := rfl
  have b0 : q.cells.toArray[0]? = some (.int .u8 q.mark) := rfl
  have a1 : p.cells.toArray[1]? = some (.int .u32 p.seq) := rfl
  have b1 : q.cells.toArray[1]? = some (.int .u32 q.seq) := rfl
  have a2 : p.cells.toArray[2]? = some (.int .i64 p.index) := rfl
  have b2 : q.cells.toArray[2]? = some (.int .i64 q.index) := rfl
  have s0 : sameS p q = (p.mark == q.mark && (p.seq == q.seq && (p.index == q.index && alike (u8s p.body) (u8s q.body)))) := rfl
  rw [s0, part_int Try.underlying5 a0, Result.andThen_ok, part_int Try.underlying5 b0, Result.andThen_ok, run_equalIn_int w 9998 5 .u8 .u8 _ _ Try.underlying5, Result.andThen_ok]
  cases p.mark == q.mark
  · rfl
  simp only [Bool.not_true, Bool.false_eq_true, if_false, Bool.true_and, Sem.run_bind]
  rw [part_int Try.underlying33 a1, Result.andThen_ok, part_int Try.underlying33 b1, Result.andThen_ok, run_equalIn_int w 9998 33 .u32 .u32 _ _ Try.underlying33, Result.andThen_ok]
  cases p.seq == q.seq
  · rfl
  simp only [Bool.not_true, Bool.false_eq_true, if_false, Bool.true_and, Sem.run_bind]
  rw [part_int Try.underlying3 a2, Result.andThen_ok, part_int Try.underlying3 b2, Result.andThen_ok, run_equalIn_int w 9998 3 .i64 .i64 _ _ Try.underlying3, Result.andThen_ok]
  cases p.index == q.index
  · rfl
  simp only [Bool.not_true, Bool.false_eq_true, if_false, Bool.true_and, Sem.run_bind]
  rw [part_bod, Result.andThen_ok, part_bod, Result.andThen_ok, sct_body p hp, sct_body q hq, eq_bod_at 9997 hp hq, Result.andThen_ok]
  cases alike (u8s p.body) (u8s q.body) <;> rfl
end Go.Proofs.Ytfmgaakbfphpbaa

/- The developers' marked sectors in memory; what their page promises. -/
namespace Go.Proofs.Ytfmgaakbfphpbaa
open Go.RowKit
set_option linter.unusedVariables false

set_option maxRecDepth 100000 in
theorem size_pg : (Try.prog.info? 107).map (·.size) = some 51 := by kernel_rfl
set_option maxRecDepth 100000 in
theorem load_pg {w : World} {b o : Nat} {c : List Value} (hc : w.rangeAt b o c) (h : c.length = 51) : (loadVar 107 ⟨b, o, none⟩).run Try.prog w = .ok (.agg c.toArray) w :=
  run_loadVar_mid w b o _ c _ hc Try.underlying107 rfl (by rw [h]; exact size_pg)
set_option maxRecDepth 100000 in
theorem store_pg {w : World} {b o : Nat} {c : List Value} (ht : w.there b o 51) (h : c.length = 51) (h1 : ∀ v ∈ c, v.oneCell' = true) : (storeVar 107 ⟨b, o, none⟩ (.agg c.toArray)).run Try.prog w = .ok () (w.setCells b o c) := by
  have := run_storeVar_mid (P := Try.prog) w b o 107 c.toArray (by simpa [h] using ht) (by simpa [h] using size_pg) (all_oneCell_toArray h1)
  simpa using this
set_option maxRecDepth 100000 in
theorem store_new_pg {w : World} {c : Array Value} {c' : List Value} (h : c.size = 51) (h' : c'.length = 51) (h1 : ∀ v ∈ c', v.oneCell' = true) : (storeVar 107 ⟨w.heap.size, 0, none⟩ (.agg c'.toArray)).run Try.prog (w.alloc (.cells c 107)) = .ok () (w.alloc (.cells c'.toArray 107)) :=
  run_storeVar_new w _ c c'.toArray (by simpa [h'] using size_pg) (by simpa [h'] using h) (all_oneCell_toArray h1)
set_option maxRecDepth 100000 in
theorem zero_pg (w : World) : (zeroValue 107).run Try.prog w = .ok (.agg zcs.toArray) w := by kernel_rfl
set_option maxRecDepth 100000 in
theorem build_pg (m s i : Int) (w : World) : (Instr.build 107 #[(0, .int .u8 m), (1, .int .u32 s), (2, .int .i64 i)]).run Try.prog w = .ok (.agg (Value.int .u8 m :: .int .u32 s :: .int .i64 i :: u8s (List.replicate 48 0)).toArray) w := by kernel_rfl
set_option maxRecDepth 100000 in
theorem build_pg0 (w : World) : (Instr.build 107 #[]).run Try.prog w = .ok (.agg zcs.toArray) w := by kernel_rfl
theorem zcs_len : zcs.toArray.size = 51 := by simp [zcs, u8s]
/-- Whatever is neither a block nor such a sector is read and written cell by cell. -/
theorem loadVar_open4 (t : TypeId) (h : t ≠ 59 ∧ t ≠ 107 ∧ t ≠ 79) (a : Addr) : loadVar t a = (do if ← isAgg t then pure (.agg (← loadCells a (← sizeOf t))) else load a) := rfl
theorem storeVar_open4 (t : TypeId) (h : t ≠ 59 ∧ t ≠ 107) (a : Addr) (v : Value) : storeVar t a v = (do
    if v.cells.size ≠ (← sizeOf t) then stuck "storeVar: the value has not the size of the variable"
    storeCells a v.cells.toList) := rfl

end Go.Proofs.Ytfmgaakbfphpbaa

/- The reader of the package le: what its methods come to. -/
namespace Go.Proofs.Ytfmgaakbfphpbaa
open Go.RowKit Go.Shelf
set_option linter.unusedVariables false

/-- The reader at block rb has the bytes bs left; it and they lie below block N. -/
def Rdr (w : World) (N rb : Nat) (bs : List Int) : Prop :=
  ∃ b off cap, Boxed w rb 167 (.slice (some ⟨b, off, none⟩) bs.length cap) ∧ bs.length ≤ cap ∧ cap ≤ maxLen ∧ b < N ∧
    (∀ j, j < bs.length → w.cell? ⟨b, off + j, none⟩ = some (.int .u8 (bs[j]?.getD 0))) ∧ rb < N ∧ N ≤ w.heap.size

set_option maxRecDepth 100000 in
set_option maxHeartbeats 1000000 in
theorem next_at (rb b off len cap k : Nat) (w : World) (hb : Boxed w rb 167 (.slice (some ⟨b, off, none⟩) len cap)) (hk : k ≤ len) (hlen : len ≤ cap) (hcap : cap ≤ maxLen) :
    Calls Try.prog 83 #[.pointer (some ⟨rb, 0, none⟩), .int .i64 (k : Int)] w fun e w' =>
      e = .returned (.tuple #[.slice (some ⟨b, off, none⟩) k cap, .bool true]) ∧ w' = w.setCell ⟨rb, 0, none⟩ (.slice (some ⟨b, if k = cap then off else off + k, none⟩) (len - k) (cap - k)) := by
  unfold maxLen at hcap
  have c1 := hb.cell
  have f1 := hb.frozen
  have g1 : decide ((k : Int) < 0) = false := by simp
  have g2 : decide (len < k) = false := by simp; omega
  go_enter Try.func83, Try.ntmps83
  go_wp2
  all_goals
    go_ret2
    exact ⟨rfl, rfl⟩

set_option maxRecDepth 100000 in
set_option maxHeartbeats 1000000 in
theorem next_low (rb b off len cap : Nat) (k : Int) (w : World) (hb : Boxed w rb 167 (.slice (some ⟨b, off, none⟩) len cap)) (hk : k < 0) :
    Calls Try.prog 83 #[.pointer (some ⟨rb, 0, none⟩), .int .i64 k] w fun e w' => e = .returned (.tuple #[.slice none 0 0, .bool false]) ∧ w' = w := by
  have g1 : decide (k < 0) = true := by simpa using hk
  go_enter Try.func83, Try.ntmps83
  go_wp2
  go_ret2
  exact ⟨rfl, rfl⟩

set_option maxRecDepth 100000 in
set_option maxHeartbeats 1000000 in
theorem next_high (rb b off len cap : Nat) (k : Int) (w : World) (hb : Boxed w rb 167 (.slice (some ⟨b, off, none⟩) len cap)) (hk : (len : Int) < k) :
    Calls Try.prog 83 #[.pointer (some ⟨rb, 0, none⟩), .int .i64 k] w fun e w' => e = .returned (.tuple #[.slice none 0 0, .bool false]) ∧ w' = w := by
  have c1 := hb.cell
  have g0 : ¬ k < 0 := by omega
  have g1 : decide (k < 0) = false := by simpa using g0
  have g2 : decide ((len : Int) < k) = true := by simpa using hk
  go_enter Try.func83, Try.ntmps83
  go_wp2
  go_ret2
  exact ⟨rfl, rfl⟩

set_option maxRecDepth 100000 in
set_option maxHeartbeats 1000000 in
theorem next_nil (k : Int) (w : World) :
    Calls Try.prog 83 #[.pointer none, .int .i64 k] w fun e w' => e = .returned (.tuple #[.slice none 0 0, .bool false]) ∧ w' = w := by
  go_enter Try.func83, Try.ntmps83
  go_wp2
  go_ret2
  exact ⟨rfl, rfl⟩

set_option maxRecDepth 100000 in
set_option maxHeartbeats 1000000 in
theorem newReader_at (a : Option Addr) (len cap : Nat) (bs : List Int) (hlen : bs.length = len) (hcap : len ≤ 140737488351232) (w : World) (hA : Lies w a len bs) :
    Calls Try.prog 75 #[.slice a len cap] w fun e w' => ∃ rb, e = .returned (.pointer (some ⟨rb, 0, none⟩)) ∧ w.heap.size < rb ∧ Rdr w' w'.heap.size rb bs ∧ Below w.heap.size w w' := by
  obtain ⟨i0, hi, hz0, hz1, hz2⟩ := info_parts info_u8
  have hA := Lib.hid hA
  have HL := Lib.hid hlen
  clear hlen
  have HN := copy_len HL
  have H1 := copy_one (bs := bs)
  go_enter Try.func75, Try.ntmps75
  go_wp2_with (first | (at_make; refine wpList_make_full _ rfl _ _ 35 rfl w.heap.size 5 i0 (.int .u8 0) 1 Try.underlying35 hi hz0 hz1 .i64 .i64 _ _ len rfl rfl rfl rfl (by rw [hz2]; omega) (by unfold maxLen; omega) (by simp) ?_; intro w1 hown1 hgrow1; obtain ⟨HB, HR, HP⟩ := copy_facts HL hA hown1 hgrow1; clear hown1 hgrow1) | (with_reducible refine wpList_copy_splice rfl (.tmp 7) (.tmp 8) 35 35 rfl 5 Try.underlying35 size_u8 _ _ len len len cap rfl rfl w.heap.size 0 (List.replicate len (Value.int .u8 0)) 5 HR.out (bs.map (Value.int .u8)) HN.out HP.out (by rw [HN.out]; simp) H1.out w.heap.size w HB.out (Nat.le_refl _) ?_; intro w2 hg2 hB2))
  have hsz : w.heap.size < w2.heap.size := (Array.getElem?_eq_some_iff.1 hg2.out).1
  have hcells : ∀ j, j < bs.length → w2.cell? ⟨w.heap.size, 0 + j, none⟩ = some (.int .u8 (bs[j]?.getD 0)) := by
    intro j hj
    rw [cell_of_row _ _ _ _ _ _ hg2.out, splice_all _ _ (by rw [List.length_replicate, List.length_map, HL.out])]
    simp [hj]
  have HZ := Lib.hid hsz
  have HC := Lib.hid hcells
  clear hsz hcells
  go_ret
  refine ⟨_, rfl, HZ.out, ?_, hB2.alloc (Nat.le_of_lt HZ.out) _⟩
  have e := HL.out
  subst e
  exact ⟨w.heap.size, 0, _, Boxed.new _ _ _, Nat.le_refl _, by unfold maxLen; omega, by have := HZ.out; simp; omega, fun j hj => ((World.cell?_of_block (Below.heap_alloc w2 _ _ HZ.out)).trans (HC.out j hj)), by simp, Nat.le_refl _⟩

set_option maxRecDepth 100000 in
/-- **NewReader**: a reader of its own, with all bytes left. -/
theorem newReader_any (v : Value) (bs : List Int) (w : World) (hv : Sl .u8 w v bs) (hcap : bs.length ≤ 140737488351232) :
    Calls Try.prog 75 #[v] w fun e w' => ∃ rb, e = .returned (.pointer (some ⟨rb, 0, none⟩)) ∧ w.heap.size < rb ∧ Rdr w' w'.heap.size rb bs ∧ Below w.heap.size w w' := by
  obtain ⟨a, cap, rfl, hl, _⟩ := Lies.of_sl hv
  exact newReader_at a bs.length cap bs rfl hcap w hl

/-- Behind a read the reader has what was left, but for what was read; what was read lies where it lay. -/
theorem Rdr.next {w : World} {N rb b off cap : Nat} {bs : List Int} {k : Nat} (hb : Boxed w rb 167 (.slice (some ⟨b, off, none⟩) bs.length cap)) (h1 : bs.length ≤ cap) (h2 : cap ≤ maxLen) (h3 : b < N)
    (h4 : ∀ j, j < bs.length → w.cell? ⟨b, off + j, none⟩ = some (.int .u8 (bs[j]?.getD 0))) (hk : k ≤ bs.length) (h5 : rb < N ∧ N ≤ w.heap.size) :
    (Rdr (w.setCell ⟨rb, 0, none⟩ (.slice (some ⟨b, if k = cap then off else off + k, none⟩) (bs.length - k) (cap - k))) N rb (bs.drop k)) ∧
    (∀ j, j < bs.length → (w.setCell ⟨rb, 0, none⟩ (.slice (some ⟨b, if k = cap then off else off + k, none⟩) (bs.length - k) (cap - k))).cell? ⟨b, off + j, none⟩ = some (.int .u8 (bs[j]?.getD 0))) ∧
    w.grownBy (w.setCell ⟨rb, 0, none⟩ (.slice (some ⟨b, if k = cap then off else off + k, none⟩) (bs.length - k) (cap - k))) (some rb) := by
  have hg := grownBy_setCell' w rb (.slice (some ⟨b, if k = cap then off else off + k, none⟩) (bs.length - k) (cap - k))
  have hcells : ∀ j, j < bs.length → (w.setCell ⟨rb, 0, none⟩ (.slice (some ⟨b, if k = cap then off else off + k, none⟩) (bs.length - k) (cap - k))).cell? ⟨b, off + j, none⟩ = some (.int .u8 (bs[j]?.getD 0)) := by
    intro j hj
    have hne : b ≠ rb := by
      rintro rfl
      have h5 := h4 j hj
      rw [cell_of_row _ _ _ _ _ _ hb] at h5
      by_cases e : off + j = 0
      · rw [e] at h5; simp at h5
      · rw [Array.getElem?_eq_none (by simp; omega)] at h5; cases h5
    exact (World.cell?_of_block (hg.block b (Nat.lt_of_lt_of_le h3 h5.2) (fun e => hne (by cases e; rfl)))).trans (h4 j hj)
  refine ⟨⟨b, if k = cap then off else off + k, cap - k, ?_, by rw [List.length_drop]; omega, by omega, h3, ?_, h5.1, Nat.le_trans h5.2 hg.size⟩, hcells, hg⟩
  · rw [List.length_drop]; exact hb.set _
  · intro j hj
    rw [List.length_drop] at hj
    have e : (if k = cap then off else off + k) + j = off + (k + j) := by rw [if_neg (by omega)]; omega
    rw [e, drop_get]
    exact hcells (k + j) (by omega)

theorem Rdr.kept {w w' : World} {N rb : Nat} {bs : List Int} {row : Option Nat} (h : Rdr w N rb bs) (hg : w.grownBy w' row) (hr : ∀ r, row = some r → N ≤ r) : Rdr w' N rb bs := by
  obtain ⟨b, off, cap, h0, h1, h2, h3, h4, h5, h6⟩ := h
  exact ⟨b, off, cap, h0.kept hg (fun e => by have := hr _ e.symm; omega), h1, h2, h3, fun j hj => (World.cell?_of_block (hg.block b (by omega) (fun e => by have := hr _ e.symm; omega))).trans (h4 j hj), h5, Nat.le_trans h6 hg.size⟩

theorem Rdr.below {w w' : World} {N rb : Nat} {bs : List Int} (h : Rdr w N rb bs) (hg : w.grownBy w' none) : Rdr w' N rb bs := h.kept hg (fun r e => by cases e)

set_option maxRecDepth 100000 in
set_option maxHeartbeats 1000000 in
/-- **Num**, of no more than is left. -/
theorem num_yes {N : Nat} (rb : Nat) (bs : List Int) (k : Nat) (w : World) (hr : Rdr w N rb bs) (hB : IsBytes bs) (hk : k ≤ bs.length) :
    Calls Try.prog 76 #[.pointer (some ⟨rb, 0, none⟩), .int .i64 (k : Int)] w fun e w' =>
      e = .returned (.tuple #[.int .u64 (getL (bs.take k)), .bool true]) ∧ Rdr w' N rb (bs.drop k) ∧ w.grownBy w' (some rb) := by
  obtain ⟨b, off, cap, h0, h1, h2, h3, h4, h5⟩ := hr
  obtain ⟨r1, r2, r3⟩ := Rdr.next h0 h1 h2 h3 h4 hk h5
  obtain ⟨W, hW⟩ : ∃ W, w.setCell ⟨rb, 0, none⟩ (.slice (some ⟨b, if k = cap then off else off + k, none⟩) (bs.length - k) (cap - k)) = W := ⟨_, rfl⟩
  have hl : Lies W (some ⟨b, off, none⟩) k (bs.take k) := by
    rw [← hW]
    exact .inr ⟨b, off, rfl, Nat.lt_of_lt_of_le h3 (Nat.le_trans h5.2 r3.size), fun j hj => by rw [take_get bs k j hj]; exact r2 j (by omega)⟩
  have hn : Calls Try.prog 83 #[.pointer (some ⟨rb, 0, none⟩), .int .i64 (k : Int)] w fun e w' => e = .returned (.tuple #[.slice (some ⟨b, off, none⟩) k cap, .bool true]) ∧ w' = W := by
    rw [← hW]; exact next_at rb b off bs.length cap k w h0 hk h1 h2
  rw [hW] at r1 r3
  have hg := get_at (some ⟨b, off, none⟩) k cap (bs.take k) (by rw [List.length_take]; omega) (by unfold maxLen at h2; omega) W hl (hB.take k)
  have HG := Lib.hid hg
  have HC := Lib.hid hn
  have R1 := Lib.hid r1
  have R3 := Lib.hid r3
  clear h0 h1 h2 h3 h4 h5 hk hB hl r1 r2 r3 hW hn hg
  go_enter Try.func76, Try.ntmps76
  go_wp2_with fail
  refine HC.out.mono ?_
  rintro e w' ⟨rfl, rfl⟩
  go_wp2_with fail
  refine HG.out.mono ?_
  rintro e w' ⟨rfl, hb⟩
  have HB := Lib.hid hb
  clear hb
  go_wp2
  go_ret2
  exact ⟨rfl, R1.out.below (grown_below HB.out none), grown_trans R3.out (grown_below HB.out _)⟩

set_option maxRecDepth 100000 in
set_option maxHeartbeats 1000000 in
/-- **Num**, of what is not there. -/
theorem num_no {N : Nat} (rb : Nat) (bs : List Int) (k : Int) (w : World) (hr : Rdr w N rb bs) (hk : k < 0 ∨ (bs.length : Int) < k) :
    Calls Try.prog 76 #[.pointer (some ⟨rb, 0, none⟩), .int .i64 k] w fun e w' =>
      e = .returned (.tuple #[.int .u64 0, .bool false]) ∧ Below w.heap.size w w' := by
  obtain ⟨b, off, cap, h0, h1, h2, h3, h4, h5⟩ := hr
  have hn : Calls Try.prog 83 #[.pointer (some ⟨rb, 0, none⟩), .int .i64 k] w fun e w' => e = .returned (.tuple #[.slice none 0 0, .bool false]) ∧ w' = w := by
    rcases hk with h | h
    · exact next_low rb b off _ cap k w h0 h
    · exact next_high rb b off _ cap k w h0 h
  have HN := Lib.hid hn
  clear h0 h1 h2 h3 h4 h5 hk hn
  go_enter Try.func76, Try.ntmps76
  go_wp2_with fail
  refine HN.out.mono ?_
  rintro e w' ⟨rfl, rfl⟩
  go_wp2_with fail
  refine (get_any _ [] _ (Sl.nil _ _) (fun j => by simp)).mono ?_
  rintro e w' ⟨rfl, hb⟩
  have HB := Lib.hid hb
  clear hb
  go_wp2
  go_ret2
  exact ⟨rfl, HB.out⟩

set_option maxRecDepth 100000 in
set_option maxHeartbeats 1000000 in
theorem num_nil (k : Int) (w : World) :
    Calls Try.prog 76 #[.pointer none, .int .i64 k] w fun e w' =>
      e = .returned (.tuple #[.int .u64 0, .bool false]) ∧ Below w.heap.size w w' := by
  go_enter Try.func76, Try.ntmps76
  go_wp2_with fail
  refine (next_nil k w).mono ?_
  rintro e w' ⟨rfl, rfl⟩
  go_wp2_with fail
  refine (get_any _ [] _ (Sl.nil _ _) (fun j => by simp)).mono ?_
  rintro e w' ⟨rfl, hb⟩
  have HB := Lib.hid hb
  clear hb
  go_wp2
  go_ret2
  exact ⟨rfl, HB.out⟩

set_option maxRecDepth 100000 in
set_option maxHeartbeats 1000000 in
/-- **Take**, of no more than is left: bytes of its own. -/
theorem take_yes {N : Nat} (rb : Nat) (bs : List Int) (k : Nat) (w : World) (hr : Rdr w N rb bs) (hk : k ≤ bs.length) (hcap : bs.length ≤ 140737488351232) :
    Calls Try.prog 77 #[.pointer (some ⟨rb, 0, none⟩), .int .i64 (k : Int)] w fun e w' =>
      ∃ g, e = .returned (.tuple #[.slice (some ⟨g, 0, none⟩) k k, .bool true]) ∧ w.heap.size ≤ g ∧ w'.heap[g]? = some (.cells ((bs.take k).map (Value.int .u8)).toArray 5 (0, 0)) ∧ Rdr w' N rb (bs.drop k) ∧ w.grownBy w' (some rb) := by
  obtain ⟨b, off, cap, h0, h1, h2, h3, h4, h5⟩ := hr
  obtain ⟨r1, r2, r3⟩ := Rdr.next h0 h1 h2 h3 h4 hk h5
  obtain ⟨W, hW⟩ : ∃ W, w.setCell ⟨rb, 0, none⟩ (.slice (some ⟨b, if k = cap then off else off + k, none⟩) (bs.length - k) (cap - k)) = W := ⟨_, rfl⟩
  have hl : Lies W (some ⟨b, off, none⟩) k (bs.take k) := by
    rw [← hW]
    exact .inr ⟨b, off, rfl, Nat.lt_of_lt_of_le h3 (Nat.le_trans h5.2 r3.size), fun j hj => by rw [take_get bs k j hj]; exact r2 j (by omega)⟩
  have hsz : W.heap.size = w.heap.size := by rw [← hW]; simp
  have hn : Calls Try.prog 83 #[.pointer (some ⟨rb, 0, none⟩), .int .i64 (k : Int)] w fun e w' => e = .returned (.tuple #[.slice (some ⟨b, off, none⟩) k cap, .bool true]) ∧ w' = W := by
    rw [← hW]; exact next_at rb b off bs.length cap k w h0 hk h1 h2
  rw [hW] at r1 r3
  obtain ⟨i0, hi, hz0, hz1, hz2⟩ := info_parts info_u8
  have HL0 : Hid ((bs.take k).length = k) := by show _ = _; rw [List.length_take]; omega
  have hA := Lib.hid hl
  have HN := copy_len HL0
  have H1 := copy_one (bs := bs.take k)
  have HC := Lib.hid hn
  have R1 := Lib.hid r1
  have R3 := Lib.hid r3
  have HS := Lib.hid hsz
  have hk1 : k ≤ 140737488351232 := by omega
  clear h0 h1 h2 h3 h4 h5 hk hl r1 r2 r3 hW hn hsz hcap
  go_enter Try.func77, Try.ntmps77
  go_wp2_with fail
  refine HC.out.mono ?_
  rintro e w' ⟨rfl, rfl⟩
  go_wp2_with (first | (at_make; refine wpList_make_full _ rfl _ _ 35 rfl w'.heap.size 5 i0 (.int .u8 0) 1 Try.underlying35 hi hz0 hz1 .i64 .i64 _ _ k rfl rfl rfl rfl (by rw [hz2]; omega) (by unfold maxLen; omega) (by simp) ?_; intro w1 hown1 hgrow1; obtain ⟨HB, HR, HP⟩ := copy_facts HL0 hA hown1 hgrow1; clear hown1 hgrow1) | (with_reducible refine wpList_copy_splice rfl (.tmp 19) (.tmp 20) 35 35 rfl 5 Try.underlying35 size_u8 _ _ k k k cap rfl rfl w'.heap.size 0 (List.replicate k (Value.int .u8 0)) 5 HR.out ((bs.take k).map (Value.int .u8)) HN.out HP.out (by rw [HN.out]; simp) H1.out w'.heap.size w' HB.out (Nat.le_refl _) ?_; intro w2 hg2 hB2))
  go_ret2
  have hB2' := hB2
  have e2 : splice (List.replicate k (Value.int .u8 0)) 0 ((bs.take k).map (Value.int .u8)) = (bs.take k).map (Value.int .u8) := splice_all _ _ (by rw [List.length_replicate, List.length_map, HL0.out])
  have h2 := hg2.out
  rw [e2] at h2
  exact ⟨_, rfl, Nat.le_of_eq HS.out.symm, by rw [← List.map_take]; exact h2, R1.out.below (grown_below hB2 none), grown_trans R3.out (grown_below hB2 _)⟩

set_option maxRecDepth 100000 in
set_option maxHeartbeats 1000000 in
/-- **Take**, of what is not there. -/
theorem take_no {N : Nat} (rb : Nat) (bs : List Int) (k : Int) (w : World) (hr : Rdr w N rb bs) (hk : k < 0 ∨ (bs.length : Int) < k) :
    Calls Try.prog 77 #[.pointer (some ⟨rb, 0, none⟩), .int .i64 k] w fun e w' =>
      e = .returned (.tuple #[.slice none 0 0, .bool false]) ∧ w' = w := by
  obtain ⟨b, off, cap, h0, h1, h2, h3, h4, h5⟩ := hr
  have hn : Calls Try.prog 83 #[.pointer (some ⟨rb, 0, none⟩), .int .i64 k] w fun e w' => e = .returned (.tuple #[.slice none 0 0, .bool false]) ∧ w' = w := by
    rcases hk with h | h
    · exact next_low rb b off _ cap k w h0 h
    · exact next_high rb b off _ cap k w h0 h
  have HN := Lib.hid hn
  clear h0 h1 h2 h3 h4 h5 hk hn
  go_enter Try.func77, Try.ntmps77
  go_wp2_with fail
  refine HN.out.mono ?_
  rintro e w' ⟨rfl, rfl⟩
  go_wp2
  go_ret2
  exact ⟨rfl, rfl⟩

set_option maxRecDepth 100000 in
set_option maxHeartbeats 1000000 in
theorem take_nil (k : Int) (w : World) :
    Calls Try.prog 77 #[.pointer none, .int .i64 k] w fun e w' =>
      e = .returned (.tuple #[.slice none 0 0, .bool false]) ∧ w' = w := by
  go_enter Try.func77, Try.ntmps77
  go_wp2_with fail
  refine (next_nil k w).mono ?_
  rintro e w' ⟨rfl, rfl⟩
  go_wp2
  go_ret2
  exact ⟨rfl, rfl⟩

/-- The reader is not a row of bytes. -/
theorem Rdr.not_row {w : World} {N rb : Nat} {bs : List Int} (h : Rdr w N rb bs) {base n : Nat} {v : Value} {xs : List Value} (hr : w.ownsRow base 5 1 v n xs) : v.ownBlock ≠ some rb := by
  obtain ⟨b, off, cap, h0, _⟩ := h
  exact (h0.not_row (by decide) hr).symm

end Go.Proofs.Ytfmgaakbfphpbaa

/- The developers' fields: what stands in a block where a marked sector has its parts. -/
namespace Go.Proofs.Ytfmgaakbfphpbaa
open Go.RowKit Go.Shelf
set_option linter.unusedVariables false
attribute [-simp] Try.isAgg59 Try.zeroValue59 Try.isAgg79 Try.zeroValue79 Try.isAgg107 Try.zeroValue107
attribute [-go_sem] loadVar storeVar
attribute [local go_sem] zero_blk build_blk zero_bod zero_pg build_pg build_pg0 loadVar_open4 storeVar_open4

set_option maxRecDepth 100000 in
/-- A marked sector that is a result's own cell is written and read. -/
theorem pg_cell {w x : World} {B : Nat} {u : List Value} {z : Array Value} (hw : x.heap[B]? = some (.cells z 107 (0, 0))) (hz : z.size = 51) (hB : w.heap.size ≤ B) (hb : Below w.heap.size w x) (hu : u.length = 51) (h1 : ∀ v ∈ u, v.oneCell' = true) :
    ∃ x', (storeVar 107 ⟨B, 0, none⟩ (.agg u.toArray)).run Try.prog x = .ok () x' ∧ (loadVar 107 ⟨B, 0, none⟩).run Try.prog x' = .ok (.agg u.toArray) x' ∧ Below w.heap.size w x' := by
  have ht : x.there B 0 51 := row_there hw 0 51 (by rw [hz]; exact Nat.le_refl _)
  have hs := store_pg ht hu h1
  exact ⟨_, hs, load_pg (World.rangeAt_setCells_same x _ 0 u (by rw [hu]; exact ht)) hu, hb.trans (below_cells hB _ _ _)⟩
theorem getL_one {y : Int} : getL [y] = y := by
  show getN [y] 1 = y
  simp [getN]

set_option maxRecDepth 100000 in
set_option maxHeartbeats 4000000 in
theorem pgFields (bs : List Int) (hb : IsBytes bs) (hl : bs.length = 64) (w : World) :
    Calls Try.prog 58 #[.agg (u8s bs).toArray] w fun e w' => e = .returned (.agg (Sct.of bs).cells.toArray) ∧ Below w.heap.size w w' := by
  obtain ⟨W1, hW1⟩ : ∃ W1, w.alloc (.cells (u8s bs).toArray 59) = W1 := ⟨_, rfl⟩
  have hB1 : Below w.heap.size w W1 := by rw [← hW1]; exact (Below.refl _ _).alloc (Nat.le_refl _) _
  have hz1 : W1.heap.size = w.heap.size + 1 := by rw [← hW1]; simp
  have hr1 : W1.heap[w.heap.size]? = some (.cells (u8s bs).toArray 59 (0, 0)) := by rw [← hW1]; exact heap_alloc_new w _
  obtain ⟨W, hW⟩ : ∃ W, W1.alloc (.cells zcs.toArray 107) = W := ⟨_, rfl⟩
  have hB2 : Below W1.heap.size W1 W := by rw [← hW]; exact (Below.refl _ _).alloc (Nat.le_refl _) _
  have HB : Hid (Below w.heap.size w W) := hB1.trans (hB2.mono hB1.size)
  have hr := (hB2.block _ (by omega)).trans hr1
  have HR2 : Hid (W.heap[w.heap.size + 1]? = some (.cells zcs.toArray 107 (0, 0))) := by
    have := heap_alloc_new W1 (.cells zcs.toArray 107)
    rw [hW, hz1] at this
    exact this
  have HZ : Hid (W.heap.size = w.heap.size + 2) := by show _ = _; rw [← hW, World.size_alloc, hz1]
  have HS : Hid (Sl .u8 W (.slice (some ⟨w.heap.size, 0, none⟩) 64 64) bs) := by
    have := sl_range (row_range hr) (by have := HZ.out; omega) (by rw [hl]; simp [maxLen])
    rw [hl] at this
    exact this
  have HOK := Lib.hid (of_ok hb hl)
  have HIX := Lib.hid (of_index hb hl)
  have HBS := Lib.hid hb
  have HL := Lib.hid hl
  have e0 : getL (bs.take 1) = (Sct.of bs).mark := by rw [take_one (by omega), getL_one]; rfl
  have e1 : getL ((bs.drop 1).take 4) = (Sct.of bs).seq := rfl
  have e2 : getL ((bs.drop 5).take 2) = (Sct.of bs).index := rfl
  obtain ⟨p, hp⟩ : ∃ p, Sct.of bs = p := ⟨_, rfl⟩
  have e3 : (bs.drop 7).take 48 = p.body := by rw [← hp]; rfl
  rw [hp] at e0 e1 e2 HOK HIX ⊢
  obtain ⟨mk, hmk⟩ : ∃ q, p.mark = q := ⟨_, rfl⟩
  obtain ⟨sq, hsq⟩ : ∃ q, p.seq = q := ⟨_, rfl⟩
  obtain ⟨ix, hix⟩ : ∃ q, p.index = q := ⟨_, rfl⟩
  rw [hmk] at e0
  rw [hsq] at e1
  rw [hix] at e2
  have E0 := Lib.hid e0
  have E1 := Lib.hid e1
  have E2 := Lib.hid e2
  have E3 := Lib.hid e3
  have EC : Hid (p.cells = .int .u8 mk :: .int .u32 sq :: .int .i64 ix :: u8s p.body) := by show _ = _; rw [← hmk, ← hsq, ← hix]; rfl
  have m0 : 0 ≤ mk := by rw [← hmk]; exact HOK.out.mark.1
  have m1 : mk < 256 := by rw [← hmk]; exact HOK.out.mark.2
  have s0 : 0 ≤ sq := by rw [← hsq]; exact HOK.out.seq.1
  have s1 : sq < 4294967296 := by rw [← hsq]; exact HOK.out.seq.2
  have i0 : 0 ≤ ix := by rw [← hix]; exact HIX.out.1
  have i1 : ix ≤ 65535 := by rw [← hix]; exact HIX.out.2
  clear hr hr1 hB1 hB2 hb hl e0 e1 e2 e3 hmk hsq hix hp HIX
  go_enter Try.func58, Try.ntmps58
  go_wp2_with fail
  go_at_call 75
  refine (newReader_any _ bs W HS.out (by rw [HL.out]; omega)).mono ?_
  rintro e x1 ⟨rb, rfl, hrb, hR, hb⟩
  obtain ⟨N, hN⟩ : ∃ N, x1.heap.size = N := ⟨_, rfl⟩
  rw [hN] at hR
  have HRB : Hid (w.heap.size ≤ rb) := Nat.le_trans HB.out.size (Nat.le_of_lt hrb)
  have R1 := Lib.hid hR
  have K1 : Hid (Below W.heap.size W x1) := hb
  have HW : Hid (W.heap.size ≤ rb) := Nat.le_of_lt hrb
  clear hR hb hrb hW hW1 hN HRB
  go_wp2_with fail
  go_at_call 76
  refine (num_yes rb bs 1 x1 R1.out HBS.out (by rw [HL.out]; omega)).mono ?_
  rintro e x2 ⟨rfl, hR, hg⟩
  rw [E0.out]
  have R2 := Lib.hid hR
  have K2 : Hid (Below W.heap.size W x2) := K1.out.grown hg K1.out.size (fun k e => by cases e; exact HW.out)
  clear hR hg
  go_wp2_with fail
  go_at_call 76
  refine (num_yes rb (bs.drop 1) 4 x2 R2.out (HBS.out.drop 1) (by rw [List.length_drop, HL.out]; omega)).mono ?_
  rintro e x3 ⟨rfl, hR, hg⟩
  rw [E1.out]
  rw [List.drop_drop] at hR
  have R3 := Lib.hid hR
  have K3 : Hid (Below W.heap.size W x3) := K2.out.grown hg K2.out.size (fun k e => by cases e; exact HW.out)
  clear hR hg
  go_wp2_with fail
  go_at_call 76
  refine (num_yes rb (bs.drop 5) 2 x3 R3.out (HBS.out.drop 5) (by rw [List.length_drop, HL.out]; omega)).mono ?_
  rintro e x4 ⟨rfl, hR, hg⟩
  rw [E2.out]
  rw [List.drop_drop] at hR
  have R4 := Lib.hid hR
  have K4 : Hid (Below W.heap.size W x4) := K3.out.grown hg K3.out.size (fun k e => by cases e; exact HW.out)
  clear hR hg
  go_wp2_with fail
  go_at_call 77
  refine (take_yes rb (bs.drop 7) 48 x4 R4.out (by rw [List.length_drop, HL.out]; omega) (by rw [List.length_drop, HL.out]; omega)).mono ?_
  rintro e x5 ⟨g, rfl, -, hrow, hR, hg⟩
  rw [E3.out] at hrow
  have K5 : Hid (Below W.heap.size W x5) := K4.out.grown hg K4.out.size (fun k e => by cases e; exact HW.out)
  have S5 : Hid (Sl .u8 x5 (.slice (some ⟨g, 0, none⟩) 48 48) p.body) := by
    have := sl_new hrow (by rw [HOK.out.len]; simp [maxLen])
    rw [HOK.out.len] at this
    exact this
  clear hrow hR hg
  -- the sector, and what goes into it
  obtain ⟨x6, hx6⟩ : ∃ x, x5.alloc (.cells (Value.int .u8 mk :: .int .u32 sq :: .int .i64 ix :: u8s (List.replicate 48 0)).toArray 107) = x := ⟨_, rfl⟩
  have ST1 : (storeVar 107 ⟨x5.heap.size, 0, none⟩ (.agg (Value.int .u8 mk :: .int .u32 sq :: .int .i64 ix :: u8s (List.replicate 48 0)).toArray)).run Try.prog (x5.alloc (.cells zcs.toArray 107)) = .ok () x6 := by
    rw [← hx6]
    exact store_new_pg zcs_len (by simp [u8s]) (Sct.cells_one ⟨mk, sq, ix, List.replicate 48 0⟩)
  have ST : (storeVar 107 ⟨x5.heap.size, 0, none⟩ (.agg (((zcs.set 0 (.int .u8 mk)).set 1 (.int .u32 sq)).set 2 (.int .i64 ix)).toArray)).run Try.prog (x5.alloc (.cells zcs.toArray 107)) = .ok () x6 := ST1
  have r6 : x6.heap[x5.heap.size]? = some (.cells (Value.int .u8 mk :: .int .u32 sq :: .int .i64 ix :: u8s (List.replicate 48 0)).toArray 107 (0, 0)) := by rw [← hx6]; exact heap_alloc_new x5 _
  have b6 : Below x5.heap.size x5 x6 := by rw [← hx6]; exact (Below.refl _ _).alloc (Nat.le_refl _) _
  have K6 : Hid (Below W.heap.size W x6) := K5.out.trans (b6.mono K5.out.size)
  have t6 : x6.there x5.heap.size 3 48 := row_there r6 3 48 (by simp [u8s])
  have RC0 := run_copy_bytes (B := x5.heap.size) (o := 3) (dLen := 48) (dCap := 48) 3 (S5.out.below b6) (by rw [HOK.out.len]; omega) (by rw [HOK.out.len]; exact t6)
  obtain ⟨x7, hx7⟩ : ∃ x, x6.setCells x5.heap.size 3 (u8s p.body) = x := ⟨_, rfl⟩
  rw [hx7, HOK.out.len] at RC0
  have K7 : Hid (Below W.heap.size W x7) := by rw [← hx7]; exact K6.out.trans ((below_cells (N := W.heap.size) K5.out.size _ _ _).mono (Nat.le_refl _))
  have ra7 : x7.rangeAt x5.heap.size 0 p.cells := by
    rw [EC.out, show (Value.int .u8 mk :: .int .u32 sq :: .int .i64 ix :: u8s p.body) = [.int .u8 mk, .int .u32 sq, .int .i64 ix] ++ u8s p.body from rfl, ← hx7]
    refine rangeAt_app ?_ (World.rangeAt_setCells_same x6 _ 3 _ (by rw [u8s_length, HOK.out.len]; exact t6))
    refine World.rangeAt_setCells_apart (fun j x hx => ?_) _ 3 _ (.inr (.inl (by simp)))
    rw [cell_of_row _ _ _ _ _ _ r6]
    match j, hx with
    | 0, hx => simpa using hx
    | 1, hx => simpa using hx
    | 2, hx => simpa using hx
    | j + 3, hx => simp at hx
  have L7 := Lib.hid (load_pg ra7 (Sct.cells_length HOK.out.len))
  obtain ⟨x8, st, ld, hb8⟩ := pg_cell (w := w) (x := x7) (B := w.heap.size + 1) (u := p.cells) ((K7.out.block _ (by have := HZ.out; omega)).trans HR2.out) zcs_len (Nat.le_succ _) (HB.out.trans (K7.out.mono HB.out.size)) (Sct.cells_length HOK.out.len) (Sct.cells_one _)
  have HB8 := Lib.hid hb8
  have HLD := Lib.hid ld
  clear hb8 ld ra7 t6 r6 b6 ST1 hx6 hx7
  go_wp2_with fail
  clear ST RC0
  rw [L7.out]
  go_wp2_with fail
  exact bodyPost_ret (results_cell rfl rfl HLD.out) rfl ⟨rfl, HB8.out⟩
end Go.Proofs.Ytfmgaakbfphpbaa

/- The library's Grow and Concat at bytes. -/
namespace Go.Proofs.Ytfmgaakbfphpbaa
open Go.RowKit Go.Shelf
set_option linter.unusedVariables false

set_option maxRecDepth 100000 in
set_option maxHeartbeats 1600000 in
/-- **Grow** of the nil slice: room, and no bytes. -/
theorem grow_nil (n : Nat) (hn : n ≤ 1000000) (w : World) :
    Calls Try.prog 80 #[.slice none 0 0, .int .i64 (n : Int)] w fun e w' => ∃ v, e = .returned v ∧ w'.ownsRow w.heap.size 5 1 v 0 [] ∧ Below w.heap.size w w' := by
  obtain ⟨i0, hi, hz0, hz1, hz2⟩ := info_parts info_u8
  have g0 : ¬ ((n : Int) < 0) := by omega
  have g1 : decide ((n : Int) < 0) = false := by simp
  by_cases h : 0 < n
  · have g2 : decide ((n : Int) > 0) = true := by simp; omega
    have hr := fun ty => Lib.run_append_grow_zeros (P := Try.prog) w 35 3 ty 5 i0 (.int .u8 0) .i64 .i64 Try.underlying35 Try.underlying3 hi hz0 none 0 0 [] (run_firstCells_none w.drew i0.size 0 0 0) n h (by omega) (by omega) (by omega) (by rw [hz2]; omega)
      (by rw [hz2]; exact growslice_fits (by omega) (by omega))
    have hc1 := grownCap_ge w (0 + n) 0 5
    have hc2 := grownCap_le_maxLen w (0 + n) 0 5 (by unfold maxLen; omega)
    obtain ⟨G, hG⟩ : ∃ G, grownCap w (0 + n) 0 5 = G := ⟨_, rfl⟩
    rw [hG] at hr hc1 hc2
    obtain ⟨W, hW⟩ : ∃ W, w.drew.alloc (.cells (([] : List Value).toArray ++ Builtin.zeroCells (Value.int .u8 0).cells n ++ Builtin.zeroCells (Value.int .u8 0).cells (G - (0 + n))) 5) = W := ⟨_, rfl⟩
    rw [hW] at hr
    have HO : Hid (W.ownsRow w.heap.size 5 1 (.slice (some ⟨w.heap.size, 0, none⟩) 0 G) 0 []) := by
      refine ⟨by simp, .inr ⟨w.heap.size, G, _, rfl, Nat.le_refl _, by rw [← hW]; exact heap_alloc_new w.drew _, Nat.zero_le _, hc2, ?_, by simp⟩⟩
      simp [size_zeroCells, Value.cells]
      omega
    have HB : Hid (Below w.heap.size w W) := by rw [← hW]; exact ((Below.refl _ w).drew).alloc (Nat.le_refl _) _
    have HR := Lib.hid hr
    have g3 : G ≤ 9223372036854775807 := by unfold maxLen at hc2; omega
    clear hr hW hc2 hG hz0 hz1 hz2 hi
    go_enter Try.func80, Try.ntmps80
    go_wp2_with (at_builtin; refine Lib.wpList_append_run _ rfl _ _ _ _ rfl _ _ rfl rfl _ _ (HR.out _) ?_)
    go_ret
    exact ⟨_, rfl, HO.out, HB.out⟩
  · obtain rfl : n = 0 := by omega
    go_enter Try.func80, Try.ntmps80
    go_wp2
    go_ret
    exact ⟨_, rfl, World.ownsRow_nil _ _ _ _, Below.refl _ _⟩

/-- A slice of slices of bytes. -/
def Sls (w : World) (v : Value) (bss : List (List Int)) : Prop :=
  ∃ B cap, v = .slice (some ⟨B, 0, none⟩) bss.length cap ∧ bss.length ≤ cap ∧ cap ≤ maxLen ∧ B < w.heap.size ∧ ∀ k, k < bss.length → ∃ u, w.cell? ⟨B, k, none⟩ = some u ∧ Sl .u8 w u (bss[k]?.getD [])
theorem take_snoc_nil (bss : List (List Int)) {k : Nat} (h : k < bss.length) : bss.take (k + 1) = bss.take k ++ [bss[k]?.getD []] := by
  rw [List.take_succ_eq_append_getElem h, List.getElem?_eq_getElem h]
  rfl
theorem flat_snocB (bss : List (List Int)) {k : Nat} (h : k < bss.length) : (bss.take (k + 1)).flatten = (bss.take k).flatten ++ bss[k]?.getD [] := by
  rw [take_snoc_nil bss h]; simp
theorem flat_le (bss : List (List Int)) (k : Nat) : (bss.take k).flatten.length ≤ bss.flatten.length := by
  conv => rhs; rw [← List.take_append_drop k bss]
  rw [List.flatten_append, List.length_append]
  omega

set_option maxRecDepth 100000 in
set_option maxHeartbeats 1600000 in
/-- **Concat**. -/
theorem concat_any (v : Value) (bss : List (List Int)) (w : World) (hv : Sls w v bss) (hl : bss.flatten.length ≤ 1000000) :
    Calls Try.prog 70 #[v] w fun e w' => ∃ v, e = .returned v ∧ w'.ownsRow w.heap.size 5 1 v bss.flatten.length (u8s bss.flatten) ∧ Below w.heap.size w w' := by
  obtain ⟨B, cap, rfl, h1, h2, h3, h4⟩ := hv
  obtain ⟨n, hn⟩ : ∃ n, bss.length = n := ⟨_, rfl⟩
  have HN := Lib.hid hn
  have HL := Lib.hid hl
  rw [hn] at h1 h4 ⊢
  have H4 := Lib.hid h4
  have hm : (n : Int) ≤ 9223372036854775807 := by unfold maxLen at h2; omega
  clear hn hl h4 h2
  go_enter Try.func70, Try.ntmps70
  go_wp2_with fail
  go_loop [3, 11] (fun s i => ∃ k : Nat, k ≤ n ∧ i = .int .i64 k ∧ s = .int .i64 (((bss.take k).flatten.length : Nat) : Int)) (fun _ i => n - (intOf i).toNat)
  case atStart => exact ⟨0, Nat.zero_le _, rfl, rfl⟩
  case round =>
    obtain ⟨k, hk, rfl, rfl⟩ := hrel
    obtain ⟨m, hm0⟩ : ∃ m, (bss.take k).flatten.length = m := ⟨_, rfl⟩
    rw [hm0]
    by_cases hlt : k < n
    · have hlt' : decide ((k : Int) < (n : Int)) = true := by simp; omega
      obtain ⟨u, c0, ⟨a, cp, rfl, -⟩⟩ := H4.out k hlt
      obtain ⟨q, hq⟩ : ∃ q, (bss[k]?.getD []).length = q := ⟨_, rfl⟩
      rw [hq] at c0
      have hs : (bss.take (k + 1)).flatten.length = m + q := by rw [flat_snocB bss (by rw [HN.out]; exact hlt), List.length_append, hm0, hq]
      have hb := flat_le bss (k + 1)
      have hb2 := HL.out
      have g5 : (m : Int) + (q : Int) ≤ 1000000 := by omega
      have g6 : decide ((m : Int) + (q : Int) < 0) = false := by simp; omega
      have HS := Lib.hid hs
      clear hs hb hb2 hq hm0
      go_wp2_with fail
      go_round
      case rel => exact ⟨k + 1, by omega, by go_num, by rw [HS.out]; simp⟩
      case measure => simp [intOf]; omega
    · have hlt' : decide ((k : Int) < (n : Int)) = false := by simp; omega
      obtain rfl : k = n := by omega
      have hmb : m ≤ 1000000 := by rw [← hm0]; exact Nat.le_trans (flat_le bss k) HL.out
      clear hm0
      go_wp2_with fail
      go_at_call 80
      refine (grow_nil m hmb w).mono ?_
      rintro e w1 ⟨v1, rfl, hO, hB⟩
      have HO := Lib.hid hO
      have HB := Lib.hid hB
      clear hO hB
      go_wp2_with fail
      go_loopw [6, 27] (fun v i wr => ∃ j : Nat, j ≤ k ∧ i = .int .i64 j ∧ Hid (OwnB w wr v (bss.take j).flatten) ∧ Hid (Below w.heap.size w wr)) (fun _ i _ => k - (intOf i).toNat)
      case atStart => exact ⟨0, Nat.zero_le _, rfl, HO, HB⟩
      case round =>
        obtain ⟨j, hj, rfl, HO, HB⟩ := hrel
        by_cases hlt : j < k
        · have hlt' : decide ((j : Int) < (k : Int)) = true := by simp; omega
          obtain ⟨u, c0, hu⟩ := H4.out j hlt
          have c1 : wr.cell? ⟨B, j, none⟩ = some u := (HB.out.cell (p := ⟨B, j, none⟩) h3).trans c0
          obtain ⟨v5, x3, R3, O3, K3⟩ := HO.out.app HB.out (hu.below HB.out) (by
            rw [← List.length_append, ← flat_snocB bss (by rw [HN.out]; exact hlt)]
            exact Nat.le_trans (flat_le bss _) HL.out)
          clear c0 hu
          go_wp2_with (at_builtin; refine wpList_append_run (.tmp 31) (.tmp 32) 35 rfl rfl _ _ _ rfl rfl R3.out ?_)
          go_roundw
          case rel => exact ⟨j + 1, by omega, by go_num, by rw [flat_snocB bss (by rw [HN.out]; exact hlt)]; exact O3, K3⟩
          case measure => simp [intOf]; omega
        · have hlt' : decide ((j : Int) < (k : Int)) = false := by simp; omega
          obtain rfl : j = k := by omega
          have e1 : bss.take j = bss := List.take_of_length_le (by rw [HN.out]; exact Nat.le_refl _)
          rw [e1] at HO
          clear e1
          go_wp2_with fail
          go_ret
          exact ⟨_, rfl, HO.out, HB.out⟩
end Go.Proofs.Ytfmgaakbfphpbaa

/- The developers' Encode. -/
namespace Go.Proofs.Ytfmgaakbfphpbaa
open Go.RowKit Go.Shelf
set_option linter.unusedVariables false
attribute [-simp] Try.isAgg59 Try.zeroValue59
attribute [-go_sem] loadVar storeVar
attribute [local go_sem] zero_blk build_blk loadVar_open storeVar_open

set_option maxRecDepth 100000 in
theorem build_sls (w : World) (a b c d : Option Addr) (la lb lc ld ca cb cc cd : Nat) :
    (Instr.buildSlice 161 4 #[(0, .slice a la ca), (1, .slice b lb cb), (2, .slice c lc cc), (3, .slice d ld cd)]).run Try.prog w = .ok (.slice (some ⟨w.heap.size, 0, none⟩) 4 4) (w.alloc (.cells #[.slice a la ca, .slice b lb cb, .slice c lc cc, .slice d ld cd] 35)) := by
  kernel_rfl
theorem putL_one {n : Int} (h0 : 0 ≤ n) (h1 : n < 256) : putL n 1 = [n] := by
  show [_] = _
  simp
  omega

set_option maxRecDepth 100000 in
set_option maxHeartbeats 4000000 in
theorem pgEncode (p : Sct) (hp : p.Ok) (w : World) :
    Calls Try.prog 53 #[.agg p.cells.toArray] w fun e w' => e = .returned (.tuple #[.agg p.code.toArray, .int .i64 p.codeE]) ∧ Below w.heap.size w w' := by
  obtain ⟨W1, hW1⟩ : ∃ W1, w.alloc (.cells p.cells.toArray 107) = W1 := ⟨_, rfl⟩
  have hB1 : Below w.heap.size w W1 := by rw [← hW1]; exact (Below.refl _ _).alloc (Nat.le_refl _) _
  have hz1 : W1.heap.size = w.heap.size + 1 := by rw [← hW1]; simp
  have hr1 : W1.heap[w.heap.size]? = some (.cells p.cells.toArray 107 (0, 0)) := by rw [← hW1]; exact heap_alloc_new w _
  obtain ⟨W, hW⟩ : ∃ W, W1.alloc (.cells zarr 59) = W := ⟨_, rfl⟩
  have hB2 : Below W1.heap.size W1 W := by rw [← hW]; exact (Below.refl _ _).alloc (Nat.le_refl _) _
  have HB : Hid (Below w.heap.size w W) := hB1.trans (hB2.mono hB1.size)
  have HR : Hid (W.heap[w.heap.size]? = some (.cells p.cells.toArray 107 (0, 0))) := (hB2.block _ (by omega)).trans hr1
  have HR2 : Hid (W.heap[w.heap.size + 1]? = some (.cells zarr 59 (0, 0))) := by
    have := heap_alloc_new W1 (.cells zarr 59)
    rw [hW, hz1] at this
    exact this
  have HZ : Hid (W.heap.size = w.heap.size + 2) := by show _ = _; rw [← hW, World.size_alloc, hz1]
  have HP := Lib.hid hp
  have c0 : W.cell? ⟨w.heap.size, 0, none⟩ = some (.int .u8 p.mark) := cell_of_row W _ 0 _ _ _ HR.out
  have c2 : W.cell? ⟨w.heap.size, 2, none⟩ = some (.int .i64 p.index) := cell_of_row W _ 2 _ _ _ HR.out
  have HC1 : Hid (∀ y : World, Below W.heap.size W y → y.cell? ⟨w.heap.size, 1, none⟩ = some (.int .u32 p.seq)) := fun y hy => (hy.cell (p := ⟨w.heap.size, 1, none⟩) (by have := HZ.out; show w.heap.size < _; omega)).trans (cell_of_row W _ 1 _ _ _ HR.out)
  have HC2 : Hid (∀ y : World, Below W.heap.size W y → y.cell? ⟨w.heap.size, 2, none⟩ = some (.int .i64 p.index)) := fun y hy => (hy.cell (p := ⟨w.heap.size, 2, none⟩) (by have := HZ.out; show w.heap.size < _; omega)).trans (cell_of_row W _ 2 _ _ _ HR.out)
  clear hB1 hB2 hr1 hp
  obtain ⟨mk, hmk⟩ : ∃ q, p.mark = q := ⟨_, rfl⟩
  obtain ⟨sq, hsq⟩ : ∃ q, p.seq = q := ⟨_, rfl⟩
  obtain ⟨ix, hix⟩ : ∃ q, p.index = q := ⟨_, rfl⟩
  have EM := Lib.hid hmk
  have ES := Lib.hid hsq
  have EI := Lib.hid hix
  rw [hmk] at c0
  rw [hix] at c2 HC2
  rw [hsq] at HC1
  clear hmk hsq hix
  by_cases hf : p.fits = true
  · have hfx := of_decide_eq_true hf
    rw [EM.out, EI.out] at hfx
    obtain ⟨m1, m2, m3⟩ := hfx
    have q0 : (mk == 0) = false := by simpa using m1
    have q1 : decide (ix < 0) = false := by simp; omega
    have q2 : decide (65535 < ix) = false := by simp; omega
    have HF := Lib.hid hf
    clear hf
    have hmx : Try.prog.follows .mixedOrders = true := by kernel_rfl
    have HI0 : Hid (0 ≤ ix) := m2
    have HI1 : Hid (ix ≤ 65535) := m3
    have HSB : Hid (Sl .u8 W (.slice (some ⟨w.heap.size, 3, none⟩) 48 48) p.body) := by
      have := sl_range (bs := p.body) (row_part (a := [.int .u8 p.mark, .int .u32 p.seq, .int .i64 p.index]) (b := u8s p.body) HR.out) (by have := HZ.out; omega) (by rw [HP.out.len]; simp [maxLen])
      rw [HP.out.len] at this
      exact this
    have m0 : 0 ≤ mk := by rw [← EM.out]; exact HP.out.mark.1
    have m9 : mk < 256 := by rw [← EM.out]; exact HP.out.mark.2
    have HS0 : Hid (0 ≤ sq) := by show _ ≤ _; rw [← ES.out]; exact HP.out.seq.1
    have HS1 : Hid (sq < 4294967296) := by show _ < _; rw [← ES.out]; exact HP.out.seq.2
    have HM0 := Lib.hid m0
    have HM1 := Lib.hid m9
    clear m1 m2 m3
    go_enter Try.func53, Try.ntmps53
    have d0 : ∀ y : Ext W, y.1.cell? ⟨w.heap.size, 0, none⟩ = some (.int .u8 mk) := fun y => (y.2.cell (p := ⟨w.heap.size, 0, none⟩) (by have := HZ.out; show w.heap.size < _; omega)).trans c0
    have d1 : ∀ y : Ext W, y.1.cell? ⟨w.heap.size, 1, none⟩ = some (.int .u32 sq) := fun y => HC1.out y.1 y.2
    have d2 : ∀ y : Ext W, y.1.cell? ⟨w.heap.size, 2, none⟩ = some (.int .i64 ix) := fun y => HC2.out y.1 y.2
    have s0 := HS0.out
    have s1 := HS1.out
    have i0 := HI0.out
    have i1 := HI1.out
    have HPut0 : Hid (∀ x : World, Calls Try.prog 71 #[.int .u64 mk, .int .i64 1] x fun e w' => ∃ v, e = .returned v ∧ w'.ownsRow x.heap.size 5 1 v 1 ((putL mk 1).map (Value.int .u8)) ∧ Below x.heap.size x w') := fun x => put_some mk 1 x (by omega) (by omega) m0 (by omega)
    have HPut1 : Hid (∀ x : World, Calls Try.prog 71 #[.int .u64 sq, .int .i64 4] x fun e w' => ∃ v, e = .returned v ∧ w'.ownsRow x.heap.size 5 1 v 4 ((putL sq 4).map (Value.int .u8)) ∧ Below x.heap.size x w') := fun x => put_some sq 4 x (by omega) (by omega) s0 (by omega)
    have HPut2 : Hid (∀ x : World, Calls Try.prog 71 #[.int .u64 ix, .int .i64 2] x fun e w' => ∃ v, e = .returned v ∧ w'.ownsRow x.heap.size 5 1 v 2 ((putL ix 2).map (Value.int .u8)) ∧ Below x.heap.size x w') := fun x => put_some ix 2 x (by omega) (by omega) i0 (by omega)
    go_wp2_with fail
    clear q0 q1 q2 c2 c0 hW1 hW
    refine region_plan (fun x => ∃ y : Ext W, x = y.1) 16 (.takes [0, 1, 2, 4, 5, 6, 8, 9, 10, 12, 13] (.one 3 (.one 7 (.one 11 (.one 14 (.one 15 .leaf)))))) hmx (by kernel_rfl) (by intro c x v a w h; cases x <;> exact h) ⟨⟨W.drew, (Below.refl _ W).drew⟩, rfl⟩ ?_
    repeat (rw [wpPlan_takes_cons]; simp only [nth_zero, nth_succ]; go_big_quiet_step (fail); refine wpQuiet_nil ?_)
    rw [wpPlan_takes_nil]
    clear s0 s1 i0 i1 d0 d1 d2 m0 m9
    have KD : Hid (Below W.heap.size W W.drew) := (Below.refl _ W).drew
    rw [wpPlan_one]
    simp only [nth_zero, nth_succ]
    go_wp2_with fail
    go_at_call 71
    refine (HPut0.out W.drew).mono ?_
    rintro e x1 ⟨v1, rfl, hrow, hb⟩
    have K1 : Hid (Below W.heap.size W x1) := KD.out.trans hb
    have hs := Sl.of_owns (bs := putL mk 1) (by rw [putL_length]; exact hrow)
    obtain ⟨a1, n1, hv, -⟩ := id hs
    rw [putL_length] at hv
    subst hv
    have S1 := Lib.hid hs
    clear hrow hb hs
    go_wp2_with fail
    refine planPost_mk ⟨⟨x1, K1.out⟩, rfl⟩ ?_
    rw [wpPlan_one]
    simp only [nth_zero, nth_succ]
    go_wp2_with fail
    go_at_call 71
    refine (HPut1.out x1).mono ?_
    rintro e x2 ⟨v2, rfl, hrow, hb⟩
    have K2 : Hid (Below W.heap.size W x2) := K1.out.trans (hb.mono K1.out.size)
    have T1 := Lib.hid (S1.out.below hb)
    have hs := Sl.of_owns (bs := putL sq 4) (by rw [putL_length]; exact hrow)
    obtain ⟨a2, n2, hv, -⟩ := id hs
    rw [putL_length] at hv
    subst hv
    have S2 := Lib.hid hs
    clear hrow hb hs S1
    go_wp2_with fail
    refine planPost_mk ⟨⟨x2, K2.out⟩, rfl⟩ ?_
    rw [wpPlan_one]
    simp only [nth_zero, nth_succ]
    go_wp2_with fail
    go_at_call 71
    refine (HPut2.out x2).mono ?_
    rintro e x3 ⟨v3, rfl, hrow, hb⟩
    have K3 : Hid (Below W.heap.size W x3) := K2.out.trans (hb.mono K2.out.size)
    have U1 := Lib.hid (T1.out.below hb)
    have U2 := Lib.hid (S2.out.below hb)
    have hs := Sl.of_owns (bs := putL ix 2) (by rw [putL_length]; exact hrow)
    obtain ⟨a3, n3, hv, -⟩ := id hs
    rw [putL_length] at hv
    subst hv
    have U3 := Lib.hid hs
    clear hrow hb hs T1 S2
    go_wp2_with fail
    refine planPost_mk ⟨⟨x3, K3.out⟩, rfl⟩ ?_
    rw [wpPlan_one]
    simp only [nth_zero, nth_succ]
    obtain ⟨x4, hx4⟩ : ∃ x, x3.alloc (.cells #[.slice a1 1 n1, .slice a2 4 n2, .slice a3 2 n3, .slice (some ⟨w.heap.size, 3, none⟩) 48 48] 35) = x := ⟨_, rfl⟩
    have b34 : Below x3.heap.size x3 x4 := by rw [← hx4]; exact (Below.refl _ _).alloc (Nat.le_refl _) _
    have K4 : Hid (Below W.heap.size W x4) := K3.out.trans (b34.mono K3.out.size)
    have r4 : x4.heap[x3.heap.size]? = some (.cells #[.slice a1 1 n1, .slice a2 4 n2, .slice a3 2 n3, .slice (some ⟨w.heap.size, 3, none⟩) 48 48] 35 (0, 0)) := by rw [← hx4]; exact heap_alloc_new x3 _
    have BS : (Instr.buildSlice 161 4 #[(0, .slice a1 1 n1), (1, .slice a2 4 n2), (2, .slice a3 2 n3), (3, .slice (some ⟨w.heap.size, 3, none⟩) 48 48)]).run Try.prog x3 = .ok (.slice (some ⟨x3.heap.size, 0, none⟩) 4 4) x4 := by rw [← hx4]; exact build_sls x3 a1 a2 a3 (some ⟨w.heap.size, 3, none⟩) 1 4 2 48 n1 n2 n3 48
    have SS : Hid (Sls x4 (.slice (some ⟨x3.heap.size, 0, none⟩) 4 4) [putL mk 1, putL sq 4, putL ix 2, p.body]) := by
      refine ⟨x3.heap.size, 4, rfl, Nat.le_refl _, by unfold maxLen; omega, by rw [← hx4]; simp, fun k hk => ?_⟩
      have hk' : k < 4 := hk
      match k, hk' with
      | 0, _ => exact ⟨_, cell_of_row _ _ 0 _ _ _ r4, U1.out.below b34⟩
      | 1, _ => exact ⟨_, cell_of_row _ _ 1 _ _ _ r4, U2.out.below b34⟩
      | 2, _ => exact ⟨_, cell_of_row _ _ 2 _ _ _ r4, U3.out.below b34⟩
      | 3, _ => exact ⟨_, cell_of_row _ _ 3 _ _ _ r4, HSB.out.below K4.out⟩
    clear b34 r4 hx4
    refine wpList_build_run _ _ _ rfl rfl _ _ rfl BS ?_
    clear BS
    go_wp2_with fail
    refine planPost_mk ⟨⟨x4, K4.out⟩, rfl⟩ ?_
    rw [wpPlan_one]
    simp only [nth_zero, nth_succ]
    go_wp2_with fail
    go_at_call 70
    have hfl : [putL mk 1, putL sq 4, putL ix 2, p.body].flatten = p.head := by
      simp [Sct.head, EM.out, ES.out, EI.out, putL_one HM0.out HM1.out]
    have hcc := concat_any _ _ x4 SS.out (by rw [hfl, Sct.head_length HP.out]; omega)
    rw [hfl] at hcc
    refine hcc.mono ?_
    clear hcc hfl
    rintro e x5 ⟨v5, rfl, hrow, hb⟩
    have K5 : Hid (Below W.heap.size W x5) := K4.out.trans (hb.mono K4.out.size)
    have S5 : Hid (Sl .u8 x5 v5 p.head) := Sl.of_owns (bs := p.head) hrow
    clear hrow hb SS U1 U2 U3
    go_wp2_with fail
    refine planPost_mk ⟨⟨x5, K5.out⟩, rfl⟩ ?_
    rw [wpPlan_leaf]
    simp only [List.drop_succ_cons, List.drop_zero]
    -- the block, and what goes into it
    obtain ⟨x6, hx6⟩ : ∃ x, x5.alloc (.cells zarr 59) = x := ⟨_, rfl⟩
    have K6 : Hid (Below W.heap.size W x6) := by rw [← hx6]; exact K5.out.alloc K5.out.size _
    have r6 : x6.heap[x5.heap.size]? = some (.cells zarr 59 (0, 0)) := by rw [← hx6]; exact heap_alloc_new x5 _
    have S6 : Hid (Sl .u8 x6 v5 p.head) := by rw [← hx6]; exact S5.out.below ((Below.refl _ x5).alloc (Nat.le_refl _) _)
    have z6 : x5.heap.size < x6.heap.size := by rw [← hx6]; simp
    have RC0 := run_copy_bytes (B := x5.heap.size) (o := 0) (dLen := 64) (dCap := 64) 3 S6.out (by rw [Sct.head_length HP.out]; omega) (row_there r6 0 _ (by rw [Sct.head_length HP.out, zarr_size]; omega))
    obtain ⟨x7, hx7⟩ : ∃ x, x6.setCells x5.heap.size 0 (u8s p.head) = x := ⟨_, rfl⟩
    have K7 : Hid (Below W.heap.size W x7) := by rw [← hx7]; exact K6.out.trans ((below_cells (N := W.heap.size) K5.out.size _ _ _).mono (Nat.le_refl _))
    have b57 : Below x5.heap.size x5 x7 := by rw [← hx7, ← hx6]; exact ((Below.refl _ x5).alloc (Nat.le_refl _) _).trans ((below_cells (N := x5.heap.size) (Nat.le_refl _) _ _ _).mono (Nat.le_refl _))
    have S7 : Hid (Sl .u8 x7 v5 p.head) := S5.out.below b57
    have z7 : Hid (x5.heap.size < x7.heap.size) := by show _ < _; rw [← hx7]; exact Nat.lt_of_lt_of_le z6 (below_cells (N := 0) (Nat.zero_le _) _ _ _).size
    have h7 : Hid (x7.rangeAt x5.heap.size 0 (u8s p.head)) := by
      show World.rangeAt _ _ _ _
      rw [← hx7]; exact World.rangeAt_setCells_same x6 _ 0 _ (by rw [u8s_length, Sct.head_length HP.out]; exact row_there r6 0 55 (by rw [zarr_size]; omega))
    have l7 : Hid (x7.rangeAt x5.heap.size 63 [.int .u8 0]) := by
      show World.rangeAt _ _ _ _
      rw [← hx7]
      refine World.rangeAt_setCells_apart (fun j x hx => ?_) _ 0 _ (by rw [u8s_length, Sct.head_length HP.out]; simp)
      rw [cell_of_row _ _ _ _ _ _ r6]
      match j, hx with
      | 0, hx => simp at hx; subst hx; rfl
      | j + 1, hx => simp at hx
    have t7 : Hid (x7.there x5.heap.size 55 8) := by
      show World.there _ _ _ _
      rw [← hx7]; exact World.there_setCells (row_there r6 55 8 (by rw [zarr_size]; omega)) _ _ _
    rw [hx7, Sct.head_length HP.out] at RC0
    clear hx7 z6 b57 r6 S6 K6 S5
    go_wp2_with fail
    have KD7 : Below x7.heap.size x7 x7.drew := (Below.refl _ x7).drew
    refine region_plan (fun x => ∃ y : Ext x7, x = y.1) 5 (.takes [0, 1, 2] (.one 3 (.one 4 .leaf))) hmx (by kernel_rfl) (by intro c x v a w h; cases x <;> exact h) ⟨⟨x7.drew, KD7⟩, rfl⟩ ?_
    repeat (rw [wpPlan_takes_cons]; simp only [nth_zero, nth_succ]; go_big_quiet_step (fail); refine wpQuiet_nil ?_)
    rw [wpPlan_takes_nil, wpPlan_one]
    simp only [nth_zero, nth_succ]
    go_wp2_with fail
    go_at_call 72
    refine (check_any v5 p.head x7.drew (S7.out.below KD7) (Sct.head_bytes HP.out)).mono ?_
    rintro e x8 ⟨rfl, hb⟩
    have B8 : Hid (Below x7.heap.size x7 x8) := KD7.trans hb
    obtain ⟨ck, hck⟩ : ∃ q, fnvMore fnvInit p.head = q := ⟨_, rfl⟩
    have HCK := Lib.hid hck
    have HU := Lib.hid (chk_u64 p.head)
    rw [hck]
    clear hck hb KD7
    go_wp2_with fail
    refine planPost_mk ⟨⟨x8, B8.out⟩, rfl⟩ ?_
    rw [wpPlan_one]
    simp only [nth_zero, nth_succ]
    go_wp2_with fail
    go_at_call 71
    refine (put_some ck 8 x8 (by omega) (by omega) (by rw [← HCK.out]; exact HU.out.1) (by rw [← HCK.out]; exact HU.out.2)).mono ?_
    rintro e x9 ⟨v9, rfl, hrow, hb⟩
    have B9 : Hid (Below x7.heap.size x7 x9) := B8.out.trans (hb.mono B8.out.size)
    have K9 : Hid (Below W.heap.size W x9) := K7.out.trans (B9.out.mono K7.out.size)
    have S9 : Hid (Sl .u8 x9 v9 (putL ck 8)) := Sl.of_owns (bs := putL ck 8) (by rw [putL_length]; exact hrow)
    clear hrow hb
    go_wp2_with fail
    refine planPost_mk ⟨⟨x9, B9.out⟩, rfl⟩ ?_
    rw [wpPlan_leaf]
    simp only [List.drop_succ_cons, List.drop_zero]
    have t9 : x9.there x5.heap.size 55 8 := there_below B9.out z7.out t7.out
    have RC1 := run_copy_bytes (B := x5.heap.size) (o := 55) (dLen := 9) (dCap := 9) 3 S9.out (by rw [putL_length]; omega) (by rw [putL_length]; exact t9)
    obtain ⟨x10, hx10⟩ : ∃ x, x9.setCells x5.heap.size 55 (u8s (putL ck 8)) = x := ⟨_, rfl⟩
    have K10 : Hid (Below W.heap.size W x10) := by rw [← hx10]; exact K9.out.trans ((below_cells (N := W.heap.size) K5.out.size _ _ _).mono (Nat.le_refl _))
    have rb : x10.rangeAt x5.heap.size 0 (u8s p.bytes) := by
      have e1 : u8s p.bytes = u8s p.head ++ (u8s (putL ck 8) ++ [.int .u8 0]) := by
        rw [← HCK.out]; simp [u8s, Sct.bytes, chk]
      rw [e1]
      refine rangeAt_app ?_ ?_
      · rw [← hx10]
        exact World.rangeAt_setCells_apart (range_below B9.out z7.out h7.out) _ 55 _ (.inr (.inl (by rw [u8s_length, Sct.head_length HP.out]; omega)))
      · rw [u8s_length, Sct.head_length HP.out]
        intro j x hx
        by_cases hj : j < 8
        · rw [List.getElem?_append_left (by rw [u8s_length, putL_length]; exact hj)] at hx
          rw [← hx10]
          exact World.rangeAt_setCells_same x9 _ 55 _ (by rw [u8s_length, putL_length]; exact t9) j x hx
        · rw [List.getElem?_append_right (by rw [u8s_length, putL_length]; omega), u8s_length, putL_length] at hx
          have := World.rangeAt_setCells_apart (range_below B9.out z7.out l7.out) x5.heap.size 55 (u8s (putL ck 8)) (.inr (.inr (by rw [u8s_length, putL_length]; omega))) (j - 8) x hx
          rw [hx10, show 63 + (j - 8) = 55 + j by omega] at this
          exact this
    rw [hx10, putL_length] at RC1
    have L10 : (loadVar 59 ⟨x5.heap.size, 0, none⟩).run Try.prog x10 = .ok (.agg (u8s p.bytes).toArray) x10 := load_blk rb (by rw [u8s_length]; exact Sct.bytes_length HP.out)
    obtain ⟨x11, st, ld, hb11⟩ := blk_cell (w := w) (x := x10) (B := w.heap.size + 1) (u := u8s p.bytes) ((K10.out.block _ (by have := HZ.out; omega)).trans HR2.out) zarr_size (Nat.le_succ _) (HB.out.trans (K10.out.mono HB.out.size)) (isBlk_u8s (Sct.bytes_length HP.out))
    have HB11 := Lib.hid hb11
    have HLD := Lib.hid ld
    clear hx10 rb hb11 ld t9
    go_wp2_with fail
    have hE : p.code = u8s p.bytes ∧ p.codeE = 0 := by unfold Sct.code Sct.codeE; rw [if_pos HF.out, if_pos HF.out]; exact ⟨rfl, rfl⟩
    rw [hE.1, hE.2]
    exact bodyPost_ret (results_cell2 rfl rfl HLD.out) rfl ⟨rfl, HB11.out⟩
  · have hE : Hid (p.code = fillB 0 ∧ p.codeE = 11) := by refine (?_ : _ ∧ _); unfold Sct.code Sct.codeE; rw [if_neg hf, if_neg hf]; exact ⟨rfl, rfl⟩
    have hq : (mk == 0) = true ∨ ((mk == 0) = false ∧ decide (ix < 0) = true) ∨ ((mk == 0) = false ∧ decide (ix < 0) = false ∧ decide (65535 < ix) = true) := by
      have hfx : ¬ (p.mark ≠ 0 ∧ 0 ≤ p.index ∧ p.index ≤ 65535) := fun h => hf (decide_eq_true h)
      rw [EM.out, EI.out] at hfx
      by_cases h0 : mk = 0
      · exact .inl (by simpa using h0)
      · by_cases h1 : ix < 0
        · exact .inr (.inl ⟨by simpa using h0, by simpa using h1⟩)
        · exact .inr (.inr ⟨by simpa using h0, by simpa using h1, by simp; omega⟩)
    obtain ⟨x2, st, ld, hb2⟩ := blk_cell HR2.out zarr_size (Nat.le_succ _) HB.out (isBlk_fill 0)
    have st' : (storeVar 59 ⟨w.heap.size + 1, 0, none⟩ (.agg zarr)).run Try.prog W = .ok () x2 := st
    have HB2 := Lib.hid hb2
    clear hf st hb2
    rcases hq with q0 | ⟨q0, q1⟩ | ⟨q0, q1, q2⟩
    all_goals
      go_enter Try.func53, Try.ntmps53
      go_wp2_with fail
      rw [hE.out.1, hE.out.2]
      exact bodyPost_ret (results_cell2 rfl rfl ld) rfl ⟨rfl, HB2.out⟩
end Go.Proofs.Ytfmgaakbfphpbaa

/- The document's own Decode. -/
namespace Go.Proofs.Ytfmgaakbfphpbaa
open Go.RowKit
set_option linter.unusedVariables false
attribute [-simp] Try.isAgg59 Try.zeroValue59 Try.isAgg102 Try.zeroValue102
attribute [-go_sem] loadVar storeVar
attribute [local go_sem] zero_blk build_blk zero_sec build_sec build_sec0 loadVar_open2 storeVar_open2

theorem u8s_inj {a b : List Int} (h : u8s a = u8s b) : a = b := by
  have e := congrArg (List.map intOf) h
  unfold u8s at e
  rw [List.map_map, List.map_map, show intOf ∘ Value.int .u8 = id from by funext x; rfl] at e
  simpa using e
theorem zcs_one : ∀ v ∈ zcs, v.oneCell' = true := Sct.cells_one zsct
/-- The three ways that Decode goes. -/
theorem dec_ways {bs : List Int} (hb : IsBytes bs) (hl : bs.length = 64) :
    ((Sct.of bs).code = fillB 0 ∧ (Sct.of bs).codeE = 11 ∧ decS bs = zsct ∧ decE bs = 11) ∨
    (∃ c, (Sct.of bs).code = c ∧ IsBlk c ∧ alike c (u8s bs) = false ∧ (Sct.of bs).codeE = 0 ∧ decS bs = zsct ∧ decE bs = 11) ∨
    (∃ c, (Sct.of bs).code = c ∧ IsBlk c ∧ alike c (u8s bs) = true ∧ (Sct.of bs).codeE = 0 ∧ decS bs = Sct.of bs ∧ decE bs = 0) := by
  unfold Sct.code Sct.codeE decS decE decOk
  by_cases hf : (Sct.of bs).fits = true
  · by_cases hq : (Sct.of bs).bytes = bs
    · refine .inr (.inr ⟨_, rfl, ?_, ?_, ?_⟩)
      · rw [if_pos hf]; exact isBlk_u8s (Sct.bytes_length (of_ok hb hl))
      · rw [if_pos hf, hq]; exact alike_iff.2 rfl
      · simp [hf, hq]
    · refine .inr (.inl ⟨_, rfl, ?_, ?_, ?_⟩)
      · rw [if_pos hf]; exact isBlk_u8s (Sct.bytes_length (of_ok hb hl))
      · rw [if_pos hf]; exact alike_not (fun h => hq (u8s_inj h))
      · simp [hf, hq]
  · exact .inl (by simp [hf])

set_option maxRecDepth 100000 in
set_option maxHeartbeats 16000000 in
theorem refDecode (bs : List Int) (hb : IsBytes bs) (hl : bs.length = 64) (w : World) :
    Calls Try.prog 60 #[.agg (u8s bs).toArray] w fun e w' => e = .returned (.tuple #[.agg (decS bs).cells.toArray, .int .i64 (decE bs)]) ∧ Below w.heap.size w w' := by
  obtain ⟨W1, hW1⟩ : ∃ W1, w.alloc (.cells (u8s bs).toArray 59) = W1 := ⟨_, rfl⟩
  have hB1 : Below w.heap.size w W1 := by rw [← hW1]; exact (Below.refl _ _).alloc (Nat.le_refl _) _
  have hz1 : W1.heap.size = w.heap.size + 1 := by rw [← hW1]; simp
  have hr1 : W1.heap[w.heap.size]? = some (.cells (u8s bs).toArray 59 (0, 0)) := by rw [← hW1]; exact heap_alloc_new w _
  obtain ⟨W, hW⟩ : ∃ W, W1.alloc (.cells zcs.toArray 102) = W := ⟨_, rfl⟩
  have hB2 : Below W1.heap.size W1 W := by rw [← hW]; exact (Below.refl _ _).alloc (Nat.le_refl _) _
  have HB : Hid (Below w.heap.size w W) := hB1.trans (hB2.mono hB1.size)
  have HR : Hid (W.heap[w.heap.size]? = some (.cells (u8s bs).toArray 59 (0, 0))) := (hB2.block _ (by omega)).trans hr1
  have HR2 : Hid (W.heap[w.heap.size + 1]? = some (.cells zcs.toArray 102 (0, 0))) := by
    have := heap_alloc_new W1 (.cells zcs.toArray 102)
    rw [hW, hz1] at this
    exact this
  have HZ : Hid (W.heap.size = w.heap.size + 2) := by show _ = _; rw [← hW, World.size_alloc, hz1]
  have HBB := Lib.hid hb
  have HL := Lib.hid hl
  have HOK := Lib.hid (of_ok hb hl)
  have HIX := Lib.hid (of_index hb hl)
  obtain ⟨mk, hmk⟩ : ∃ q, bs[0]?.getD 0 = q := ⟨_, rfl⟩
  obtain ⟨sq, hsq⟩ : ∃ q, getL ((bs.drop 1).take 4) = q := ⟨_, rfl⟩
  obtain ⟨ix, hix⟩ : ∃ q, getL ((bs.drop 5).take 2) = q := ⟨_, rfl⟩
  have c0 : ∀ y : Ext W, y.1.cell? ⟨w.heap.size, 0, none⟩ = some (.int .u8 mk) := fun y => by
    rw [y.2.cell (p := ⟨w.heap.size, 0, none⟩) (by have := HZ.out; show w.heap.size < _; omega), cell_of_row W _ 0 _ _ _ HR.out, ← hmk]
    simp [u8s, hl]
  have s0 : 0 ≤ sq := by rw [← hsq]; exact HOK.out.seq.1
  have s1 : sq < 4294967296 := by rw [← hsq]; exact HOK.out.seq.2
  have i0 : 0 ≤ ix := by rw [← hix]; exact HIX.out.1
  have i1 : ix ≤ 65535 := by rw [← hix]; exact HIX.out.2
  have hra : W.rangeAt w.heap.size 0 (u8s bs) := row_range HR.out
  have hlt : w.heap.size < W.heap.size := by have := HZ.out; omega
  have HG1 : Hid (∀ x : World, Below W.heap.size W x → Calls Try.prog 78 #[.slice (some ⟨w.heap.size, 1, none⟩) 4 63] x fun e w' => e = .returned (.int .u64 sq) ∧ w' = x) := fun x hx => by
    have := refGet_any _ _ x ((sl_part (k := 1) (n := 4) (cap := 63) hra hlt (by omega) (by omega) (by simp [maxLen])).below hx) (hb.cut 1 4)
    rwa [hsq] at this
  have HG2 : Hid (∀ x : World, Below W.heap.size W x → Calls Try.prog 78 #[.slice (some ⟨w.heap.size, 5, none⟩) 2 59] x fun e w' => e = .returned (.int .u64 ix) ∧ w' = x) := fun x hx => by
    have := refGet_any _ _ x ((sl_part (k := 5) (n := 2) (cap := 59) hra hlt (by omega) (by omega) (by simp [maxLen])).below hx) (hb.cut 5 2)
    rwa [hix] at this
  have HSB : Hid (∀ x : World, Below W.heap.size W x → Sl .u8 x (.slice (some ⟨w.heap.size, 7, none⟩) 48 57) ((bs.drop 7).take 48)) := fun x hx => (sl_part (k := 7) (n := 48) (cap := 57) hra hlt (by omega) (by omega) (by simp [maxLen])).below hx
  -- the variable p
  obtain ⟨x1, hx1⟩ : ∃ x, W.drew.alloc (.cells zcs.toArray 102) = x := ⟨_, rfl⟩
  have K0 : Hid (Below W.heap.size W W.drew) := (Below.refl _ W).drew
  have K1 : Hid (Below W.heap.size W x1) := by rw [← hx1]; exact ((Below.refl _ W).drew).alloc (Nat.le_refl _) _
  have k1 : x1.heap[W.heap.size]? = some (.cells zcs.toArray 102 (0, 0)) := by rw [← hx1]; exact heap_alloc_new W.drew _
  have zz : zcs.toArray.size = 51 := by simp [zcs, u8s]
  have hbl : ((bs.drop 7).take 48).length = 48 := by simp [hl]
  obtain ⟨x2, hx2⟩ : ∃ x, x1.setCells W.heap.size 0 (Value.int .u8 mk :: .int .u32 sq :: .int .i64 ix :: u8s (List.replicate 48 0)) = x := ⟨_, rfl⟩
  have ST0 : Hid ((storeVar 102 ⟨W.heap.size, 0, none⟩ (.agg (Value.int .u8 mk :: .int .u32 sq :: .int .i64 ix :: u8s (List.replicate 48 0)).toArray)).run Try.prog x1 = .ok () x2) := by
    rw [← hx2]
    refine store_sec (row_there k1 0 51 (by rw [zz]; exact Nat.le_refl _)) (by simp [u8s]) (fun v hv => ?_)
    simp only [List.mem_cons] at hv
    rcases hv with rfl | rfl | rfl | hv
    · rfl
    · rfl
    · rfl
    · exact u8s_one _ v hv
  have t2 : x2.there W.heap.size 0 51 := by rw [← hx2]; exact World.there_setCells (row_there k1 0 51 (by rw [zz]; exact Nat.le_refl _)) _ _ _
  have ra2 : x2.rangeAt W.heap.size 0 (Value.int .u8 mk :: .int .u32 sq :: .int .i64 ix :: u8s (List.replicate 48 0)) := by
    rw [← hx2]; exact World.rangeAt_setCells_same x1 _ 0 _ (by simpa [u8s] using row_there k1 0 51 (by rw [zz]; exact Nat.le_refl _))
  have K2 : Hid (Below W.heap.size W x2) := by rw [← hx2]; exact K1.out.trans ((below_cells (Nat.le_refl _) _ _ _).mono (Nat.le_refl _))
  have t2d : x2.drew.there W.heap.size 3 48 := fun j hj => by
    have := t2 (3 + j) (by omega)
    rwa [Nat.zero_add] at this
  have KD : Below W.heap.size W x2.drew := K2.out.trans (((Below.refl _ x2).drew).mono K2.out.size)
  have rc := run_copy_bytes (w := x2.drew) (B := W.heap.size) (o := 3) (dLen := 48) (dCap := 48) 3 (HSB.out x2.drew KD) (by rw [hbl]; exact Nat.le_refl _) (by rw [hbl]; exact t2d)
  obtain ⟨x3, hx3⟩ : ∃ x, x2.drew.setCells W.heap.size 3 (u8s ((bs.drop 7).take 48)) = x := ⟨_, rfl⟩
  rw [hx3, hbl] at rc
  have RC0 := Lib.hid rc
  have K3 : Hid (Below W.heap.size W x3) := by rw [← hx3]; exact KD.trans ((below_cells (Nat.le_refl _) _ _ _).mono (Nat.le_refl _))
  have ra3 : x3.rangeAt W.heap.size 0 (Sct.of bs).cells := by
    rw [show (Sct.of bs).cells = [Value.int .u8 mk, .int .u32 sq, .int .i64 ix] ++ u8s ((bs.drop 7).take 48) by rw [← hmk, ← hsq, ← hix]; rfl]
    refine rangeAt_app ?_ ?_
    · rw [← hx3]
      refine World.rangeAt_setCells_apart (w := x2.drew) (cs := [Value.int .u8 mk, .int .u32 sq, .int .i64 ix]) (fun j x hx => ra2 j x ?_) W.heap.size 3 (u8s ((bs.drop 7).take 48)) (by simp)
      match j, hx with
      | 0, hx => exact hx
      | 1, hx => exact hx
      | 2, hx => exact hx
      | j + 3, hx => simp at hx
    · rw [← hx3]; exact World.rangeAt_setCells_same x2.drew _ 3 _ (by rw [u8s_length, hbl]; exact t2d)
  have L30 : Hid ((loadVar 102 ⟨W.heap.size, 0, none⟩).run Try.prog x3 = .ok (.agg (Sct.of bs).cells.toArray) x3) := load_sec ra3 (Sct.cells_length (by show ((bs.drop 7).take 48).length = 48; exact hbl))
  have RA3 := Lib.hid ra3
  have HWY := Lib.hid (dec_ways hb hl)
  have ZZ : Hid (zcs.length = 51) := by show _ = _; simp [zcs, u8s]
  have CL : Hid ((Sct.of bs).cells.length = 51) := Sct.cells_length (by show ((bs.drop 7).take 48).length = 48; exact hbl)
  have H0 : Hid (w.heap.size < W.heap.size) := hlt
  have H3 : Hid (W.heap.size < x3.heap.size) := by
    have h1 : x1.heap.size = W.heap.size + 1 := by rw [← hx1, World.size_alloc]; rfl
    have h2 : x1.heap.size ≤ x2.heap.size := by rw [← hx2]; exact (below_cells (Nat.le_refl W.heap.size) _ _ x1).size
    have h3 : x2.heap.size ≤ x3.heap.size := by rw [← hx3]; exact (below_cells (Nat.le_refl W.heap.size) _ _ x2.drew).size
    show _ < _
    omega
  have hmx : Try.prog.follows .mixedOrders = true := by kernel_rfl
  clear rc t2 t2d ra2 ra3 k1 zz hra hlt hmk hsq hix hb hl hr1 hB1 hB2 hx2 hx3 KD
  go_enter Try.func60, Try.ntmps60
  go_wp2_with fail
  refine region_plan (fun x => ∃ y : Ext W, x = y.1) 10 (.takes [0, 1, 2, 5] (.two 3 9 (.takes [4] (.two 6 9 (.takes [7] (.two 8 9 (.one 9 .leaf) (.one 8 .leaf))) (.one 6 (.takes [7] (.one 8 .leaf))))) (.one 3 (.takes [4] (.one 6 (.takes [7] (.one 8 .leaf))))))) hmx (by kernel_rfl) (by intro c x v a w h; cases x <;> exact h) ⟨⟨W.drew, K0.out⟩, rfl⟩ ?_
  repeat (rw [wpPlan_takes_cons]; simp only [nth_zero, nth_succ]; go_big_quiet_step (fail); refine wpQuiet_nil ?_)
  rw [wpPlan_takes_nil]
  refine ⟨?_, ?_⟩
  · simp only [nth_zero, nth_succ]
    go_wp2_with fail
    go_at_call 78
    refine (HG1.out W.drew K0.out).mono ?_
    rintro e w' ⟨rfl, hx⟩
    obtain rfl := hx.symm
    clear hx
    go_wp2_with fail
    refine planPost_mk ⟨⟨W.drew, K0.out⟩, rfl⟩ ?_
    repeat (rw [wpPlan_takes_cons]; simp only [nth_zero, nth_succ]; go_big_quiet_step (fail); refine wpQuiet_nil ?_)
    rw [wpPlan_takes_nil]
    refine ⟨?_, ?_⟩
    · simp only [nth_zero, nth_succ]
      go_wp2_with fail
      go_at_call 78
      refine (HG2.out W.drew K0.out).mono ?_
      rintro e w' ⟨rfl, hx⟩
      obtain rfl := hx.symm
      clear hx
      go_wp2_with fail
      refine planPost_mk ⟨⟨W.drew, K0.out⟩, rfl⟩ ?_
      repeat (rw [wpPlan_takes_cons]; simp only [nth_zero, nth_succ]; go_big_quiet_step (fail); refine wpQuiet_nil ?_)
      rw [wpPlan_takes_nil]
      refine ⟨?_, ?_⟩
      · simp only [nth_zero, nth_succ]
        go_wp2_with fail
        refine planPost_mk ⟨⟨W.drew, K0.out⟩, rfl⟩ ?_
        rw [wpPlan_one]
        simp only [nth_zero, nth_succ]
        go_wp2_with fail
        try rw [hx1]
        refine planPost_mk ⟨⟨x1, K1.out⟩, rfl⟩ ?_
        rw [wpPlan_leaf]
        simp only [List.drop_succ_cons, List.drop_zero]
        have ST : (storeVar 102 ⟨W.heap.size, 0, none⟩ (.agg (((zcs.set 0 (.int .u8 mk)).set 1 (.int .u32 sq)).set 2 (.int .i64 ix)).toArray)).run Try.prog x1 = .ok () x2 := ST0.out
        go_wp2_with fail
        clear ST c0
        refine region_plan (fun x => x = x2.drew) 3 (.takes [0, 1, 2] .leaf) hmx (by kernel_rfl) (by intro c x v a w h; cases x <;> exact h) rfl ?_
        repeat (rw [wpPlan_takes_cons]; simp only [nth_zero, nth_succ]; go_big_quiet_step (fail); refine wpQuiet_nil ?_)
        rw [wpPlan_takes_nil, wpPlan_leaf]
        simp only [List.drop_succ_cons, List.drop_zero]
        have RC := RC0.out
        go_wp2_with fail
        clear RC
        have L3 : (loadVar 102 ⟨W.heap.size, 0, none⟩).run Try.prog x3 = .ok (.agg (Sct.of bs).cells.toArray) x3 := L30.out
        go_wp2_with fail
        rw [L3]
        go_wp2_with fail
        go_at_call 35
        clear L3
        refine (refEncode (Sct.of bs) HOK.out x3).mono ?_
        rintro e x4 ⟨rfl, hb⟩
        have K4 : Hid (Below W.heap.size W x4) := K3.out.trans (hb.mono K3.out.size)
        have H4 : Hid (W.heap.size < x4.heap.size) := Nat.lt_of_lt_of_le H3.out hb.size
        have RA4 : Hid (x4.rangeAt W.heap.size 0 (Sct.of bs).cells) := range_below hb H3.out RA3.out
        clear hb
        obtain ⟨x5, hx5⟩ : ∃ x, x4.alloc (.cells zarr 59) = x := ⟨_, rfl⟩
        rcases HWY.out with ⟨hc, he, hS, hE⟩ | ⟨c, hc, hC, hA, he, hS, hE⟩ | ⟨c, hc, hC, hA, he, hS, hE⟩
        · rw [hc, he]
          obtain ⟨x6, hx6⟩ : ∃ x, x4.alloc (.cells (fillB 0).toArray 59) = x := ⟨_, rfl⟩
          have ST5 : (storeVar 59 ⟨x4.heap.size, 0, none⟩ (.agg (fillB 0).toArray)).run Try.prog x5 = .ok () x6 := by rw [← hx5, ← hx6]; exact store_new zarr_size (isBlk_fill 0)
          have K6 : Hid (Below W.heap.size W x6) := by rw [← hx6]; exact K4.out.alloc K4.out.size _
          obtain ⟨x7, ST7, ld, hb7⟩ := sec_cell (w := w) (x := x6) (B := w.heap.size + 1) (u := zcs) ((K6.out.block _ (by have := HZ.out; omega)).trans HR2.out) ZZ.out (Nat.le_succ _) (HB.out.trans (K6.out.mono HB.out.size)) ZZ.out zcs_one
          have HB7 := Lib.hid hb7
          have HS := Lib.hid (And.intro hS hE)
          clear hb7 hc he hS hE hx6
          go_wp2_with fail
          rw [HS.out.1, HS.out.2]
          exact bodyPost_ret (results_cell2 rfl rfl ld) rfl ⟨rfl, HB7.out⟩
        · rw [hc, he]
          obtain ⟨x6, hx6⟩ : ∃ x, x4.alloc (.cells c.toArray 59) = x := ⟨_, rfl⟩
          have ST5 : (storeVar 59 ⟨x4.heap.size, 0, none⟩ (.agg c.toArray)).run Try.prog x5 = .ok () x6 := by rw [← hx5, ← hx6]; exact store_new zarr_size hC
          have K6 : Hid (Below W.heap.size W x6) := by rw [← hx6]; exact K4.out.alloc K4.out.size _
          have L5 : (loadVar 59 ⟨x4.heap.size, 0, none⟩).run Try.prog x6 = .ok (.agg c.toArray) x6 := load_blk (row_range (t := 59) (by rw [← hx6]; exact heap_alloc_new x4 _)) hC.length
          have L1 : (loadVar 59 ⟨w.heap.size, 0, none⟩).run Try.prog x6 = .ok (.agg (u8s bs).toArray) x6 := load_blk (range_below K6.out H0.out (row_range HR.out)) (by rw [u8s_length]; exact HL.out)
          have EQ : (Op.equalIn 10000 59 (.agg c.toArray) (.agg (u8s bs).toArray)).run Try.prog x6 = .ok false x6 := by rw [← hA]; exact eq_blk hC (isBlk_u8s HL.out) x6
          obtain ⟨x7, ST7, ld, hb7⟩ := sec_cell (w := w) (x := x6) (B := w.heap.size + 1) (u := zcs) ((K6.out.block _ (by have := HZ.out; omega)).trans HR2.out) ZZ.out (Nat.le_succ _) (HB.out.trans (K6.out.mono HB.out.size)) ZZ.out zcs_one
          have HB7 := Lib.hid hb7
          have HS := Lib.hid (And.intro hS hE)
          clear hb7 hc he hS hE hA hC hx6
          go_wp2_with fail
          rw [HS.out.1, HS.out.2]
          exact bodyPost_ret (results_cell2 rfl rfl ld) rfl ⟨rfl, HB7.out⟩
        · rw [hc, he]
          obtain ⟨x6, hx6⟩ : ∃ x, x4.alloc (.cells c.toArray 59) = x := ⟨_, rfl⟩
          have ST5 : (storeVar 59 ⟨x4.heap.size, 0, none⟩ (.agg c.toArray)).run Try.prog x5 = .ok () x6 := by rw [← hx5, ← hx6]; exact store_new zarr_size hC
          have B6 : Below x4.heap.size x4 x6 := by rw [← hx6]; exact (Below.refl _ x4).alloc (Nat.le_refl _) _
          have K6 : Hid (Below W.heap.size W x6) := K4.out.trans (B6.mono K4.out.size)
          have L5 : (loadVar 59 ⟨x4.heap.size, 0, none⟩).run Try.prog x6 = .ok (.agg c.toArray) x6 := load_blk (row_range (t := 59) (by rw [← hx6]; exact heap_alloc_new x4 _)) hC.length
          have L1 : (loadVar 59 ⟨w.heap.size, 0, none⟩).run Try.prog x6 = .ok (.agg (u8s bs).toArray) x6 := load_blk (range_below K6.out H0.out (row_range HR.out)) (by rw [u8s_length]; exact HL.out)
          have EQ : (Op.equalIn 10000 59 (.agg c.toArray) (.agg (u8s bs).toArray)).run Try.prog x6 = .ok true x6 := by rw [← hA]; exact eq_blk hC (isBlk_u8s HL.out) x6
          have L4 : (loadVar 102 ⟨W.heap.size, 0, none⟩).run Try.prog x6 = .ok (.agg (Sct.of bs).cells.toArray) x6 := load_sec (range_below B6 H4.out RA4.out) CL.out
          obtain ⟨x7, ST7, ld, hb7⟩ := sec_cell (w := w) (x := x6) (B := w.heap.size + 1) (u := (Sct.of bs).cells) ((K6.out.block _ (by have := HZ.out; omega)).trans HR2.out) ZZ.out (Nat.le_succ _) (HB.out.trans (K6.out.mono HB.out.size)) CL.out (Sct.cells_one _)
          have HB7 := Lib.hid hb7
          have HS := Lib.hid (And.intro hS hE)
          clear hb7 hc he hS hE hA hC hx6 B6
          go_wp2_with fail
          try rw [L4]
          try go_wp2_with fail
          rw [HS.out.1, HS.out.2]
          exact bodyPost_ret (results_cell2 rfl rfl ld) rfl ⟨rfl, HB7.out⟩
      · simp only [nth_zero, nth_succ]
        go_wp2_with fail
        try rw [hx1]
        refine planPost_mk ⟨⟨x1, K1.out⟩, rfl⟩ ?_
        rw [wpPlan_one]
        simp only [nth_zero, nth_succ]
        go_wp2_with fail
        refine planPost_mk ⟨⟨x1, K1.out⟩, rfl⟩ ?_
        rw [wpPlan_leaf]
        simp only [List.drop_succ_cons, List.drop_zero]
        have ST : (storeVar 102 ⟨W.heap.size, 0, none⟩ (.agg (((zcs.set 0 (.int .u8 mk)).set 1 (.int .u32 sq)).set 2 (.int .i64 ix)).toArray)).run Try.prog x1 = .ok () x2 := ST0.out
        go_wp2_with fail
        clear ST c0
        refine region_plan (fun x => x = x2.drew) 3 (.takes [0, 1, 2] .leaf) hmx (by kernel_rfl) (by intro c x v a w h; cases x <;> exact h) rfl ?_
        repeat (rw [wpPlan_takes_cons]; simp only [nth_zero, nth_succ]; go_big_quiet_step (fail); refine wpQuiet_nil ?_)
        rw [wpPlan_takes_nil, wpPlan_leaf]
        simp only [List.drop_succ_cons, List.drop_zero]
        have RC := RC0.out
        go_wp2_with fail
        clear RC
        have L3 : (loadVar 102 ⟨W.heap.size, 0, none⟩).run Try.prog x3 = .ok (.agg (Sct.of bs).cells.toArray) x3 := L30.out
        go_wp2_with fail
        rw [L3]
        go_wp2_with fail
        go_at_call 35
        clear L3
        refine (refEncode (Sct.of bs) HOK.out x3).mono ?_
        rintro e x4 ⟨rfl, hb⟩
        have K4 : Hid (Below W.heap.size W x4) := K3.out.trans (hb.mono K3.out.size)
        have H4 : Hid (W.heap.size < x4.heap.size) := Nat.lt_of_lt_of_le H3.out hb.size
        have RA4 : Hid (x4.rangeAt W.heap.size 0 (Sct.of bs).cells) := range_below hb H3.out RA3.out
        clear hb
        obtain ⟨x5, hx5⟩ : ∃ x, x4.alloc (.cells zarr 59) = x := ⟨_, rfl⟩
        rcases HWY.out with ⟨hc, he, hS, hE⟩ | ⟨c, hc, hC, hA, he, hS, hE⟩ | ⟨c, hc, hC, hA, he, hS, hE⟩
        · rw [hc, he]
          obtain ⟨x6, hx6⟩ : ∃ x, x4.alloc (.cells (fillB 0).toArray 59) = x := ⟨_, rfl⟩
          have ST5 : (storeVar 59 ⟨x4.heap.size, 0, none⟩ (.agg (fillB 0).toArray)).run Try.prog x5 = .ok () x6 := by rw [← hx5, ← hx6]; exact store_new zarr_size (isBlk_fill 0)
          have K6 : Hid (Below W.heap.size W x6) := by rw [← hx6]; exact K4.out.alloc K4.out.size _
          obtain ⟨x7, ST7, ld, hb7⟩ := sec_cell (w := w) (x := x6) (B := w.heap.size + 1) (u := zcs) ((K6.out.block _ (by have := HZ.out; omega)).trans HR2.out) ZZ.out (Nat.le_succ _) (HB.out.trans (K6.out.mono HB.out.size)) ZZ.out zcs_one
          have HB7 := Lib.hid hb7
          have HS := Lib.hid (And.intro hS hE)
          clear hb7 hc he hS hE hx6
          go_wp2_with fail
          rw [HS.out.1, HS.out.2]
          exact bodyPost_ret (results_cell2 rfl rfl ld) rfl ⟨rfl, HB7.out⟩
        · rw [hc, he]
          obtain ⟨x6, hx6⟩ : ∃ x, x4.alloc (.cells c.toArray 59) = x := ⟨_, rfl⟩
          have ST5 : (storeVar 59 ⟨x4.heap.size, 0, none⟩ (.agg c.toArray)).run Try.prog x5 = .ok () x6 := by rw [← hx5, ← hx6]; exact store_new zarr_size hC
          have K6 : Hid (Below W.heap.size W x6) := by rw [← hx6]; exact K4.out.alloc K4.out.size _
          have L5 : (loadVar 59 ⟨x4.heap.size, 0, none⟩).run Try.prog x6 = .ok (.agg c.toArray) x6 := load_blk (row_range (t := 59) (by rw [← hx6]; exact heap_alloc_new x4 _)) hC.length
          have L1 : (loadVar 59 ⟨w.heap.size, 0, none⟩).run Try.prog x6 = .ok (.agg (u8s bs).toArray) x6 := load_blk (range_below K6.out H0.out (row_range HR.out)) (by rw [u8s_length]; exact HL.out)
          have EQ : (Op.equalIn 10000 59 (.agg c.toArray) (.agg (u8s bs).toArray)).run Try.prog x6 = .ok false x6 := by rw [← hA]; exact eq_blk hC (isBlk_u8s HL.out) x6
          obtain ⟨x7, ST7, ld, hb7⟩ := sec_cell (w := w) (x := x6) (B := w.heap.size + 1) (u := zcs) ((K6.out.block _ (by have := HZ.out; omega)).trans HR2.out) ZZ.out (Nat.le_succ _) (HB.out.trans (K6.out.mono HB.out.size)) ZZ.out zcs_one
          have HB7 := Lib.hid hb7
          have HS := Lib.hid (And.intro hS hE)
          clear hb7 hc he hS hE hA hC hx6
          go_wp2_with fail
          rw [HS.out.1, HS.out.2]
          exact bodyPost_ret (results_cell2 rfl rfl ld) rfl ⟨rfl, HB7.out⟩
        · rw [hc, he]
          obtain ⟨x6, hx6⟩ : ∃ x, x4.alloc (.cells c.toArray 59) = x := ⟨_, rfl⟩
          have ST5 : (storeVar 59 ⟨x4.heap.size, 0, none⟩ (.agg c.toArray)).run Try.prog x5 = .ok () x6 := by rw [← hx5, ← hx6]; exact store_new zarr_size hC
          have B6 : Below x4.heap.size x4 x6 := by rw [← hx6]; exact (Below.refl _ x4).alloc (Nat.le_refl _) _
          have K6 : Hid (Below W.heap.size W x6) := K4.out.trans (B6.mono K4.out.size)
          have L5 : (loadVar 59 ⟨x4.heap.size, 0, none⟩).run Try.prog x6 = .ok (.agg c.toArray) x6 := load_blk (row_range (t := 59) (by rw [← hx6]; exact heap_alloc_new x4 _)) hC.length
          have L1 : (loadVar 59 ⟨w.heap.size, 0, none⟩).run Try.prog x6 = .ok (.agg (u8s bs).toArray) x6 := load_blk (range_below K6.out H0.out (row_range HR.out)) (by rw [u8s_length]; exact HL.out)
          have EQ : (Op.equalIn 10000 59 (.agg c.toArray) (.agg (u8s bs).toArray)).run Try.prog x6 = .ok true x6 := by rw [← hA]; exact eq_blk hC (isBlk_u8s HL.out) x6
          have L4 : (loadVar 102 ⟨W.heap.size, 0, none⟩).run Try.prog x6 = .ok (.agg (Sct.of bs).cells.toArray) x6 := load_sec (range_below B6 H4.out RA4.out) CL.out
          obtain ⟨x7, ST7, ld, hb7⟩ := sec_cell (w := w) (x := x6) (B := w.heap.size + 1) (u := (Sct.of bs).cells) ((K6.out.block _ (by have := HZ.out; omega)).trans HR2.out) ZZ.out (Nat.le_succ _) (HB.out.trans (K6.out.mono HB.out.size)) CL.out (Sct.cells_one _)
          have HB7 := Lib.hid hb7
          have HS := Lib.hid (And.intro hS hE)
          clear hb7 hc he hS hE hA hC hx6 B6
          go_wp2_with fail
          try rw [L4]
          try go_wp2_with fail
          rw [HS.out.1, HS.out.2]
          exact bodyPost_ret (results_cell2 rfl rfl ld) rfl ⟨rfl, HB7.out⟩
    · simp only [nth_zero, nth_succ]
      go_wp2_with fail
      try rw [hx1]
      refine planPost_mk ⟨⟨x1, K1.out⟩, rfl⟩ ?_
      rw [wpPlan_one]
      simp only [nth_zero, nth_succ]
      go_wp2_with fail
      go_at_call 78
      refine (HG2.out x1 K1.out).mono ?_
      rintro e w' ⟨rfl, hx⟩
      obtain rfl := hx.symm
      clear hx
      go_wp2_with fail
      refine planPost_mk ⟨⟨x1, K1.out⟩, rfl⟩ ?_
      repeat (rw [wpPlan_takes_cons]; simp only [nth_zero, nth_succ]; go_big_quiet_step (fail); refine wpQuiet_nil ?_)
      rw [wpPlan_takes_nil, wpPlan_one]
      simp only [nth_zero, nth_succ]
      go_wp2_with fail
      refine planPost_mk ⟨⟨x1, K1.out⟩, rfl⟩ ?_
      rw [wpPlan_leaf]
      simp only [List.drop_succ_cons, List.drop_zero]
      have ST : (storeVar 102 ⟨W.heap.size, 0, none⟩ (.agg (((zcs.set 0 (.int .u8 mk)).set 1 (.int .u32 sq)).set 2 (.int .i64 ix)).toArray)).run Try.prog x1 = .ok () x2 := ST0.out
      go_wp2_with fail
      clear ST c0
      refine region_plan (fun x => x = x2.drew) 3 (.takes [0, 1, 2] .leaf) hmx (by kernel_rfl) (by intro c x v a w h; cases x <;> exact h) rfl ?_
      repeat (rw [wpPlan_takes_cons]; simp only [nth_zero, nth_succ]; go_big_quiet_step (fail); refine wpQuiet_nil ?_)
      rw [wpPlan_takes_nil, wpPlan_leaf]
      simp only [List.drop_succ_cons, List.drop_zero]
      have RC := RC0.out
      go_wp2_with fail
      clear RC
      have L3 : (loadVar 102 ⟨W.heap.size, 0, none⟩).run Try.prog x3 = .ok (.agg (Sct.of bs).cells.toArray) x3 := L30.out
      go_wp2_with fail
      rw [L3]
      go_wp2_with fail
      go_at_call 35
      clear L3
      refine (refEncode (Sct.of bs) HOK.out x3).mono ?_
      rintro e x4 ⟨rfl, hb⟩
      have K4 : Hid (Below W.heap.size W x4) := K3.out.trans (hb.mono K3.out.size)
      have H4 : Hid (W.heap.size < x4.heap.size) := Nat.lt_of_lt_of_le H3.out hb.size
      have RA4 : Hid (x4.rangeAt W.heap.size 0 (Sct.of bs).cells) := range_below hb H3.out RA3.out
      clear hb
      obtain ⟨x5, hx5⟩ : ∃ x, x4.alloc (.cells zarr 59) = x := ⟨_, rfl⟩
      rcases HWY.out with ⟨hc, he, hS, hE⟩ | ⟨c, hc, hC, hA, he, hS, hE⟩ | ⟨c, hc, hC, hA, he, hS, hE⟩
      · rw [hc, he]
        obtain ⟨x6, hx6⟩ : ∃ x, x4.alloc (.cells (fillB 0).toArray 59) = x := ⟨_, rfl⟩
        have ST5 : (storeVar 59 ⟨x4.heap.size, 0, none⟩ (.agg (fillB 0).toArray)).run Try.prog x5 = .ok () x6 := by rw [← hx5, ← hx6]; exact store_new zarr_size (isBlk_fill 0)
        have K6 : Hid (Below W.heap.size W x6) := by rw [← hx6]; exact K4.out.alloc K4.out.size _
        obtain ⟨x7, ST7, ld, hb7⟩ := sec_cell (w := w) (x := x6) (B := w.heap.size + 1) (u := zcs) ((K6.out.block _ (by have := HZ.out; omega)).trans HR2.out) ZZ.out (Nat.le_succ _) (HB.out.trans (K6.out.mono HB.out.size)) ZZ.out zcs_one
        have HB7 := Lib.hid hb7
        have HS := Lib.hid (And.intro hS hE)
        clear hb7 hc he hS hE hx6
        go_wp2_with fail
        rw [HS.out.1, HS.out.2]
        exact bodyPost_ret (results_cell2 rfl rfl ld) rfl ⟨rfl, HB7.out⟩
      · rw [hc, he]
        obtain ⟨x6, hx6⟩ : ∃ x, x4.alloc (.cells c.toArray 59) = x := ⟨_, rfl⟩
        have ST5 : (storeVar 59 ⟨x4.heap.size, 0, none⟩ (.agg c.toArray)).run Try.prog x5 = .ok () x6 := by rw [← hx5, ← hx6]; exact store_new zarr_size hC
        have K6 : Hid (Below W.heap.size W x6) := by rw [← hx6]; exact K4.out.alloc K4.out.size _
        have L5 : (loadVar 59 ⟨x4.heap.size, 0, none⟩).run Try.prog x6 = .ok (.agg c.toArray) x6 := load_blk (row_range (t := 59) (by rw [← hx6]; exact heap_alloc_new x4 _)) hC.length
        have L1 : (loadVar 59 ⟨w.heap.size, 0, none⟩).run Try.prog x6 = .ok (.agg (u8s bs).toArray) x6 := load_blk (range_below K6.out H0.out (row_range HR.out)) (by rw [u8s_length]; exact HL.out)
        have EQ : (Op.equalIn 10000 59 (.agg c.toArray) (.agg (u8s bs).toArray)).run Try.prog x6 = .ok false x6 := by rw [← hA]; exact eq_blk hC (isBlk_u8s HL.out) x6
        obtain ⟨x7, ST7, ld, hb7⟩ := sec_cell (w := w) (x := x6) (B := w.heap.size + 1) (u := zcs) ((K6.out.block _ (by have := HZ.out; omega)).trans HR2.out) ZZ.out (Nat.le_succ _) (HB.out.trans (K6.out.mono HB.out.size)) ZZ.out zcs_one
        have HB7 := Lib.hid hb7
        have HS := Lib.hid (And.intro hS hE)
        clear hb7 hc he hS hE hA hC hx6
        go_wp2_with fail
        rw [HS.out.1, HS.out.2]
        exact bodyPost_ret (results_cell2 rfl rfl ld) rfl ⟨rfl, HB7.out⟩
      · rw [hc, he]
        obtain ⟨x6, hx6⟩ : ∃ x, x4.alloc (.cells c.toArray 59) = x := ⟨_, rfl⟩
        have ST5 : (storeVar 59 ⟨x4.heap.size, 0, none⟩ (.agg c.toArray)).run Try.prog x5 = .ok () x6 := by rw [← hx5, ← hx6]; exact store_new zarr_size hC
        have B6 : Below x4.heap.size x4 x6 := by rw [← hx6]; exact (Below.refl _ x4).alloc (Nat.le_refl _) _
        have K6 : Hid (Below W.heap.size W x6) := K4.out.trans (B6.mono K4.out.size)
        have L5 : (loadVar 59 ⟨x4.heap.size, 0, none⟩).run Try.prog x6 = .ok (.agg c.toArray) x6 := load_blk (row_range (t := 59) (by rw [← hx6]; exact heap_alloc_new x4 _)) hC.length
        have L1 : (loadVar 59 ⟨w.heap.size, 0, none⟩).run Try.prog x6 = .ok (.agg (u8s bs).toArray) x6 := load_blk (range_below K6.out H0.out (row_range HR.out)) (by rw [u8s_length]; exact HL.out)
        have EQ : (Op.equalIn 10000 59 (.agg c.toArray) (.agg (u8s bs).toArray)).run Try.prog x6 = .ok true x6 := by rw [← hA]; exact eq_blk hC (isBlk_u8s HL.out) x6
        have L4 : (loadVar 102 ⟨W.heap.size, 0, none⟩).run Try.prog x6 = .ok (.agg (Sct.of bs).cells.toArray) x6 := load_sec (range_below B6 H4.out RA4.out) CL.out
        obtain ⟨x7, ST7, ld, hb7⟩ := sec_cell (w := w) (x := x6) (B := w.heap.size + 1) (u := (Sct.of bs).cells) ((K6.out.block _ (by have := HZ.out; omega)).trans HR2.out) ZZ.out (Nat.le_succ _) (HB.out.trans (K6.out.mono HB.out.size)) CL.out (Sct.cells_one _)
        have HB7 := Lib.hid hb7
        have HS := Lib.hid (And.intro hS hE)
        clear hb7 hc he hS hE hA hC hx6 B6
        go_wp2_with fail
        try rw [L4]
        try go_wp2_with fail
        rw [HS.out.1, HS.out.2]
        exact bodyPost_ret (results_cell2 rfl rfl ld) rfl ⟨rfl, HB7.out⟩
  · simp only [nth_zero, nth_succ]
    go_wp2_with fail
    try rw [hx1]
    refine planPost_mk ⟨⟨x1, K1.out⟩, rfl⟩ ?_
    rw [wpPlan_one]
    simp only [nth_zero, nth_succ]
    go_wp2_with fail
    go_at_call 78
    refine (HG1.out x1 K1.out).mono ?_
    rintro e w' ⟨rfl, hx⟩
    obtain rfl := hx.symm
    clear hx
    go_wp2_with fail
    refine planPost_mk ⟨⟨x1, K1.out⟩, rfl⟩ ?_
    repeat (rw [wpPlan_takes_cons]; simp only [nth_zero, nth_succ]; go_big_quiet_step (fail); refine wpQuiet_nil ?_)
    rw [wpPlan_takes_nil, wpPlan_one]
    simp only [nth_zero, nth_succ]
    go_wp2_with fail
    go_at_call 78
    refine (HG2.out x1 K1.out).mono ?_
    rintro e w' ⟨rfl, hx⟩
    obtain rfl := hx.symm
    clear hx
    go_wp2_with fail
    refine planPost_mk ⟨⟨x1, K1.out⟩, rfl⟩ ?_
    repeat (rw [wpPlan_takes_cons]; simp only [nth_zero, nth_succ]; go_big_quiet_step (fail); refine wpQuiet_nil ?_)
    rw [wpPlan_takes_nil, wpPlan_one]
    simp only [nth_zero, nth_succ]
    go_wp2_with fail
    refine planPost_mk ⟨⟨x1, K1.out⟩, rfl⟩ ?_
    rw [wpPlan_leaf]
    simp only [List.drop_succ_cons, List.drop_zero]
    have ST : (storeVar 102 ⟨W.heap.size, 0, none⟩ (.agg (((zcs.set 0 (.int .u8 mk)).set 1 (.int .u32 sq)).set 2 (.int .i64 ix)).toArray)).run Try.prog x1 = .ok () x2 := ST0.out
    go_wp2_with fail
    clear ST c0
    refine region_plan (fun x => x = x2.drew) 3 (.takes [0, 1, 2] .leaf) hmx (by kernel_rfl) (by intro c x v a w h; cases x <;> exact h) rfl ?_
    repeat (rw [wpPlan_takes_cons]; simp only [nth_zero, nth_succ]; go_big_quiet_step (fail); refine wpQuiet_nil ?_)
    rw [wpPlan_takes_nil, wpPlan_leaf]
    simp only [List.drop_succ_cons, List.drop_zero]
    have RC := RC0.out
    go_wp2_with fail
    clear RC
    have L3 : (loadVar 102 ⟨W.heap.size, 0, none⟩).run Try.prog x3 = .ok (.agg (Sct.of bs).cells.toArray) x3 := L30.out
    go_wp2_with fail
    rw [L3]
    go_wp2_with fail
    go_at_call 35
    clear L3
    refine (refEncode (Sct.of bs) HOK.out x3).mono ?_
    rintro e x4 ⟨rfl, hb⟩
    have K4 : Hid (Below W.heap.size W x4) := K3.out.trans (hb.mono K3.out.size)
    have H4 : Hid (W.heap.size < x4.heap.size) := Nat.lt_of_lt_of_le H3.out hb.size
    have RA4 : Hid (x4.rangeAt W.heap.size 0 (Sct.of bs).cells) := range_below hb H3.out RA3.out
    clear hb
    obtain ⟨x5, hx5⟩ : ∃ x, x4.alloc (.cells zarr 59) = x := ⟨_, rfl⟩
    rcases HWY.out with ⟨hc, he, hS, hE⟩ | ⟨c, hc, hC, hA, he, hS, hE⟩ | ⟨c, hc, hC, hA, he, hS, hE⟩
    · rw [hc, he]
      obtain ⟨x6, hx6⟩ : ∃ x, x4.alloc (.cells (fillB 0).toArray 59) = x := ⟨_, rfl⟩
      have ST5 : (storeVar 59 ⟨x4.heap.size, 0, none⟩ (.agg (fillB 0).toArray)).run Try.prog x5 = .ok () x6 := by rw [← hx5, ← hx6]; exact store_new zarr_size (isBlk_fill 0)
      have K6 : Hid (Below W.heap.size W x6) := by rw [← hx6]; exact K4.out.alloc K4.out.size _
      obtain ⟨x7, ST7, ld, hb7⟩ := sec_cell (w := w) (x := x6) (B := w.heap.size + 1) (u := zcs) ((K6.out.block _ (by have := HZ.out; omega)).trans HR2.out) ZZ.out (Nat.le_succ _) (HB.out.trans (K6.out.mono HB.out.size)) ZZ.out zcs_one
      have HB7 := Lib.hid hb7
      have HS := Lib.hid (And.intro hS hE)
      clear hb7 hc he hS hE hx6
      go_wp2_with fail
      rw [HS.out.1, HS.out.2]
      exact bodyPost_ret (results_cell2 rfl rfl ld) rfl ⟨rfl, HB7.out⟩
    · rw [hc, he]
      obtain ⟨x6, hx6⟩ : ∃ x, x4.alloc (.cells c.toArray 59) = x := ⟨_, rfl⟩
      have ST5 : (storeVar 59 ⟨x4.heap.size, 0, none⟩ (.agg c.toArray)).run Try.prog x5 = .ok () x6 := by rw [← hx5, ← hx6]; exact store_new zarr_size hC
      have K6 : Hid (Below W.heap.size W x6) := by rw [← hx6]; exact K4.out.alloc K4.out.size _
      have L5 : (loadVar 59 ⟨x4.heap.size, 0, none⟩).run Try.prog x6 = .ok (.agg c.toArray) x6 := load_blk (row_range (t := 59) (by rw [← hx6]; exact heap_alloc_new x4 _)) hC.length
      have L1 : (loadVar 59 ⟨w.heap.size, 0, none⟩).run Try.prog x6 = .ok (.agg (u8s bs).toArray) x6 := load_blk (range_below K6.out H0.out (row_range HR.out)) (by rw [u8s_length]; exact HL.out)
      have EQ : (Op.equalIn 10000 59 (.agg c.toArray) (.agg (u8s bs).toArray)).run Try.prog x6 = .ok false x6 := by rw [← hA]; exact eq_blk hC (isBlk_u8s HL.out) x6
      obtain ⟨x7, ST7, ld, hb7⟩ := sec_cell (w := w) (x := x6) (B := w.heap.size + 1) (u := zcs) ((K6.out.block _ (by have := HZ.out; omega)).trans HR2.out) ZZ.out (Nat.le_succ _) (HB.out.trans (K6.out.mono HB.out.size)) ZZ.out zcs_one
      have HB7 := Lib.hid hb7
      have HS := Lib.hid (And.intro hS hE)
      clear hb7 hc he hS hE hA hC hx6
      go_wp2_with fail
      rw [HS.out.1, HS.out.2]
      exact bodyPost_ret (results_cell2 rfl rfl ld) rfl ⟨rfl, HB7.out⟩
    · rw [hc, he]
      obtain ⟨x6, hx6⟩ : ∃ x, x4.alloc (.cells c.toArray 59) = x := ⟨_, rfl⟩
      have ST5 : (storeVar 59 ⟨x4.heap.size, 0, none⟩ (.agg c.toArray)).run Try.prog x5 = .ok () x6 := by rw [← hx5, ← hx6]; exact store_new zarr_size hC
      have B6 : Below x4.heap.size x4 x6 := by rw [← hx6]; exact (Below.refl _ x4).alloc (Nat.le_refl _) _
      have K6 : Hid (Below W.heap.size W x6) := K4.out.trans (B6.mono K4.out.size)
      have L5 : (loadVar 59 ⟨x4.heap.size, 0, none⟩).run Try.prog x6 = .ok (.agg c.toArray) x6 := load_blk (row_range (t := 59) (by rw [← hx6]; exact heap_alloc_new x4 _)) hC.length
      have L1 : (loadVar 59 ⟨w.heap.size, 0, none⟩).run Try.prog x6 = .ok (.agg (u8s bs).toArray) x6 := load_blk (range_below K6.out H0.out (row_range HR.out)) (by rw [u8s_length]; exact HL.out)
      have EQ : (Op.equalIn 10000 59 (.agg c.toArray) (.agg (u8s bs).toArray)).run Try.prog x6 = .ok true x6 := by rw [← hA]; exact eq_blk hC (isBlk_u8s HL.out) x6
      have L4 : (loadVar 102 ⟨W.heap.size, 0, none⟩).run Try.prog x6 = .ok (.agg (Sct.of bs).cells.toArray) x6 := load_sec (range_below B6 H4.out RA4.out) CL.out
      obtain ⟨x7, ST7, ld, hb7⟩ := sec_cell (w := w) (x := x6) (B := w.heap.size + 1) (u := (Sct.of bs).cells) ((K6.out.block _ (by have := HZ.out; omega)).trans HR2.out) ZZ.out (Nat.le_succ _) (HB.out.trans (K6.out.mono HB.out.size)) CL.out (Sct.cells_one _)
      have HB7 := Lib.hid hb7
      have HS := Lib.hid (And.intro hS hE)
      clear hb7 hc he hS hE hA hC hx6 B6
      go_wp2_with fail
      try rw [L4]
      try go_wp2_with fail
      rw [HS.out.1, HS.out.2]
      exact bodyPost_ret (results_cell2 rfl rfl ld) rfl ⟨rfl, HB7.out⟩
end Go.Proofs.Ytfmgaakbfphpbaa

/- The developers' Decode. -/
namespace Go.Proofs.Ytfmgaakbfphpbaa
open Go.RowKit Go.Shelf
set_option linter.unusedVariables false
attribute [-simp] Try.isAgg59 Try.zeroValue59 Try.isAgg79 Try.zeroValue79 Try.isAgg107 Try.zeroValue107
attribute [-go_sem] loadVar storeVar
attribute [local go_sem] zero_blk build_blk zero_bod zero_pg build_pg build_pg0 loadVar_open4 storeVar_open4

set_option maxRecDepth 100000 in
set_option maxHeartbeats 4000000 in
theorem pgDecode (bs : List Int) (hb : IsBytes bs) (hl : bs.length = 64) (w : World) :
    Calls Try.prog 37 #[.agg (u8s bs).toArray] w fun e w' => e = .returned (.tuple #[.agg (decS bs).cells.toArray, .int .i64 (decE bs)]) ∧ Below w.heap.size w w' := by
  obtain ⟨W1, hW1⟩ : ∃ W1, w.alloc (.cells (u8s bs).toArray 59) = W1 := ⟨_, rfl⟩
  have hB1 : Below w.heap.size w W1 := by rw [← hW1]; exact (Below.refl _ _).alloc (Nat.le_refl _) _
  have hz1 : W1.heap.size = w.heap.size + 1 := by rw [← hW1]; simp
  have hr1 : W1.heap[w.heap.size]? = some (.cells (u8s bs).toArray 59 (0, 0)) := by rw [← hW1]; exact heap_alloc_new w _
  obtain ⟨W, hW⟩ : ∃ W, W1.alloc (.cells zcs.toArray 107) = W := ⟨_, rfl⟩
  have hB2 : Below W1.heap.size W1 W := by rw [← hW]; exact (Below.refl _ _).alloc (Nat.le_refl _) _
  have HB : Hid (Below w.heap.size w W) := hB1.trans (hB2.mono hB1.size)
  have HR : Hid (W.heap[w.heap.size]? = some (.cells (u8s bs).toArray 59 (0, 0))) := (hB2.block _ (by omega)).trans hr1
  have HR2 : Hid (W.heap[w.heap.size + 1]? = some (.cells zcs.toArray 107 (0, 0))) := by
    have := heap_alloc_new W1 (.cells zcs.toArray 107)
    rw [hW, hz1] at this
    exact this
  have HZ : Hid (W.heap.size = w.heap.size + 2) := by show _ = _; rw [← hW, World.size_alloc, hz1]
  have HL := Lib.hid hl
  have HOK := Lib.hid (of_ok hb hl)
  have HWY := Lib.hid (dec_ways hb hl)
  have HF := Lib.hid (pgFields bs hb hl W)
  have ZZ : Hid (zcs.length = 51) := rfl
  have CL : Hid ((Sct.of bs).cells.length = 51) := Sct.cells_length HOK.out.len
  have L0 : (loadVar 59 ⟨w.heap.size, 0, none⟩).run Try.prog W = .ok (.agg (u8s bs).toArray) W := load_blk (row_range HR.out) (by rw [u8s_length]; exact hl)
  have H0 : Hid (w.heap.size < W.heap.size) := by show _ < _; have := HZ.out; omega
  clear hr1 hB1 hB2 hb hl
  go_enter Try.func37, Try.ntmps37
  go_wp2_with fail
  clear L0 hW hW1
  go_at_call 58
  refine HF.out.mono ?_
  rintro e x1 ⟨rfl, hb⟩
  have K1 : Hid (Below W.heap.size W x1) := hb
  obtain ⟨x2, hx2⟩ : ∃ x, x1.alloc (.cells (Sct.of bs).cells.toArray 107) = x := ⟨_, rfl⟩
  have ST2 : (storeVar 107 ⟨x1.heap.size, 0, none⟩ (.agg (Sct.of bs).cells.toArray)).run Try.prog (x1.alloc (.cells zcs.toArray 107)) = .ok () x2 := by
    rw [← hx2]; exact store_new_pg zcs_len CL.out (Sct.cells_one _)
  have r2 : x2.heap[x1.heap.size]? = some (.cells (Sct.of bs).cells.toArray 107 (0, 0)) := by rw [← hx2]; exact heap_alloc_new x1 _
  have RA2 := Lib.hid (row_range r2)
  have H2 : Hid (x1.heap.size < x2.heap.size) := by show _ < _; rw [← hx2]; simp
  have K2 : Hid (Below W.heap.size W x2) := by rw [← hx2]; exact K1.out.alloc K1.out.size _
  have L2 : (loadVar 107 ⟨x1.heap.size, 0, none⟩).run Try.prog x2 = .ok (.agg (Sct.of bs).cells.toArray) x2 := load_pg RA2.out CL.out
  clear hb r2 hx2
  go_wp2_with fail
  try rw [L2]
  try go_wp2_with fail
  clear ST2 L2
  go_at_call 53
  refine (pgEncode (Sct.of bs) HOK.out x2).mono ?_
  rintro e x4 ⟨rfl, hb⟩
  have K4 : Hid (Below W.heap.size W x4) := K2.out.trans (hb.mono K2.out.size)
  have H4 : Hid (x1.heap.size < x4.heap.size) := Nat.lt_of_lt_of_le H2.out hb.size
  have RA4 : Hid (x4.rangeAt x1.heap.size 0 (Sct.of bs).cells) := range_below hb H2.out RA2.out
  clear hb
  obtain ⟨x5, hx5⟩ : ∃ x, x4.alloc (.cells zarr 59) = x := ⟨_, rfl⟩
  rcases HWY.out with ⟨hc, he, hS, hE⟩ | ⟨c, hc, hC, hA, he, hS, hE⟩ | ⟨c, hc, hC, hA, he, hS, hE⟩
  · rw [hc, he]
    obtain ⟨x6, hx6⟩ : ∃ x, x4.alloc (.cells (fillB 0).toArray 59) = x := ⟨_, rfl⟩
    have ST5 : (storeVar 59 ⟨x4.heap.size, 0, none⟩ (.agg (fillB 0).toArray)).run Try.prog x5 = .ok () x6 := by rw [← hx5, ← hx6]; exact store_new zarr_size (isBlk_fill 0)
    have K6 : Hid (Below W.heap.size W x6) := by rw [← hx6]; exact K4.out.alloc K4.out.size _
    obtain ⟨x7, ST7, ld, hb7⟩ := pg_cell (w := w) (x := x6) (B := w.heap.size + 1) (u := zcs) ((K6.out.block _ (by have := HZ.out; omega)).trans HR2.out) ZZ.out (Nat.le_succ _) (HB.out.trans (K6.out.mono HB.out.size)) ZZ.out zcs_one
    have HB7 := Lib.hid hb7
    have HS := Lib.hid (And.intro hS hE)
    clear hb7 hc he hS hE hx6
    go_wp2_with fail
    rw [HS.out.1, HS.out.2]
    exact bodyPost_ret (results_cell2 rfl rfl ld) rfl ⟨rfl, HB7.out⟩
  · rw [hc, he]
    obtain ⟨x6, hx6⟩ : ∃ x, x4.alloc (.cells c.toArray 59) = x := ⟨_, rfl⟩
    have ST5 : (storeVar 59 ⟨x4.heap.size, 0, none⟩ (.agg c.toArray)).run Try.prog x5 = .ok () x6 := by rw [← hx5, ← hx6]; exact store_new zarr_size hC
    have K6 : Hid (Below W.heap.size W x6) := by rw [← hx6]; exact K4.out.alloc K4.out.size _
    have L5 : (loadVar 59 ⟨x4.heap.size, 0, none⟩).run Try.prog x6 = .ok (.agg c.toArray) x6 := load_blk (row_range (t := 59) (by rw [← hx6]; exact heap_alloc_new x4 _)) hC.length
    have L1 : (loadVar 59 ⟨w.heap.size, 0, none⟩).run Try.prog x6 = .ok (.agg (u8s bs).toArray) x6 := load_blk (range_below K6.out H0.out (row_range HR.out)) (by rw [u8s_length]; exact HL.out)
    have EQ : (Op.equalIn 10000 59 (.agg c.toArray) (.agg (u8s bs).toArray)).run Try.prog x6 = .ok false x6 := by rw [← hA]; exact eq_blk hC (isBlk_u8s HL.out) x6
    obtain ⟨x7, ST7, ld, hb7⟩ := pg_cell (w := w) (x := x6) (B := w.heap.size + 1) (u := zcs) ((K6.out.block _ (by have := HZ.out; omega)).trans HR2.out) ZZ.out (Nat.le_succ _) (HB.out.trans (K6.out.mono HB.out.size)) ZZ.out zcs_one
    have HB7 := Lib.hid hb7
    have HS := Lib.hid (And.intro hS hE)
    clear hb7 hc he hS hE hA hC hx6
    go_wp2_with fail
    rw [HS.out.1, HS.out.2]
    exact bodyPost_ret (results_cell2 rfl rfl ld) rfl ⟨rfl, HB7.out⟩
  · rw [hc, he]
    obtain ⟨x6, hx6⟩ : ∃ x, x4.alloc (.cells c.toArray 59) = x := ⟨_, rfl⟩
    have ST5 : (storeVar 59 ⟨x4.heap.size, 0, none⟩ (.agg c.toArray)).run Try.prog x5 = .ok () x6 := by rw [← hx5, ← hx6]; exact store_new zarr_size hC
    have B6 : Below x4.heap.size x4 x6 := by rw [← hx6]; exact (Below.refl _ x4).alloc (Nat.le_refl _) _
    have K6 : Hid (Below W.heap.size W x6) := K4.out.trans (B6.mono K4.out.size)
    have L5 : (loadVar 59 ⟨x4.heap.size, 0, none⟩).run Try.prog x6 = .ok (.agg c.toArray) x6 := load_blk (row_range (t := 59) (by rw [← hx6]; exact heap_alloc_new x4 _)) hC.length
    have L1 : (loadVar 59 ⟨w.heap.size, 0, none⟩).run Try.prog x6 = .ok (.agg (u8s bs).toArray) x6 := load_blk (range_below K6.out H0.out (row_range HR.out)) (by rw [u8s_length]; exact HL.out)
    have EQ : (Op.equalIn 10000 59 (.agg c.toArray) (.agg (u8s bs).toArray)).run Try.prog x6 = .ok true x6 := by rw [← hA]; exact eq_blk hC (isBlk_u8s HL.out) x6
    have L4 : (loadVar 107 ⟨x1.heap.size, 0, none⟩).run Try.prog x6 = .ok (.agg (Sct.of bs).cells.toArray) x6 := load_pg (range_below B6 H4.out RA4.out) CL.out
    obtain ⟨x7, ST7, ld, hb7⟩ := pg_cell (w := w) (x := x6) (B := w.heap.size + 1) (u := (Sct.of bs).cells) ((K6.out.block _ (by have := HZ.out; omega)).trans HR2.out) ZZ.out (Nat.le_succ _) (HB.out.trans (K6.out.mono HB.out.size)) CL.out (Sct.cells_one _)
    have HB7 := Lib.hid hb7
    have HS := Lib.hid (And.intro hS hE)
    clear hb7 hc he hS hE hA hC hx6 B6
    go_wp2_with fail
    try rw [L4]
    try go_wp2_with fail
    rw [HS.out.1, HS.out.2]
    exact bodyPost_ret (results_cell2 rfl rfl ld) rfl ⟨rfl, HB7.out⟩
end Go.Proofs.Ytfmgaakbfphpbaa

/- The library's Chunk at bytes: its range function has its contract: each piece comes, in order. -/
namespace Go.Proofs.Ytfmgaakbfphpbaa
open Go.RowKit Go.Shelf
set_option linter.unusedVariables false

attribute [local go_sem] Oper.semAt_some

/-- What the body of a loop over pieces must keep: some blocks. -/
def KpC (S : Nat → Prop) (A B : World) : Prop := A.heap.size ≤ B.heap.size ∧ ∀ k, S k → B.heap[k]? = A.heap[k]?
theorem KpC.refl (S : Nat → Prop) (A : World) : KpC S A A := ⟨Nat.le_refl _, fun _ _ => rfl⟩
theorem kpC_t {S : Nat → Prop} {A B C : World} (h : KpC S A B) (k : KpC S B C) : KpC S A C := ⟨Nat.le_trans h.1 k.1, fun j hj => (k.2 j hj).trans (h.2 j hj)⟩
theorem KpC.cell {S : Nat → Prop} {A B : World} (h : KpC S A B) {p : Addr} (hp : S p.block) : B.cell? p = A.cell? p := World.cell?_of_block (h.2 _ hp)
theorem kpC_b {S : Nat → Prop} {w : World} (hS : ∀ k, S k → k < w.heap.size) (W : World) (l : Nat) (o o' : Obj) (hl : w.heap.size ≤ l) (_ : W.heap[l]? = some o) (_ : o.isCells = false) (_ : o.isWalk = false) : KpC S W (W.putObj l o') := ⟨by simp, fun k hk => by
  refine World.putObj_heap_other ?_
  have := hS k hk
  omega⟩
/-- Piece number k of len bytes that lie at a place. -/
def encC (b off len : Nat) {m : Nat} (x : Fin m) : Array Value := #[.slice (some ⟨b, off + 48 * x.1, none⟩) (min 48 (len - 48 * x.1)) (min 48 (len - 48 * x.1))]

end Go.Proofs.Ytfmgaakbfphpbaa

/- The document's own Cut. -/
namespace Go.Proofs.Ytfmgaakbfphpbaa
open Go.RowKit Go.Shelf
set_option linter.unusedVariables false
attribute [-simp] Try.isAgg59 Try.zeroValue59 Try.isAgg79 Try.zeroValue79
attribute [-go_sem] loadVar storeVar
attribute [local go_sem] zero_blk build_blk zero_bod loadVar_open3 storeVar_open

/-- What a call has made stays, whatever comes behind. -/
theorem own_below {x x' : World} {N e sz n : Nat} {v : Value} {xs : List Value} (h : x.ownsRow N e sz v n xs) (hb : Below x.heap.size x x') : x'.ownsRow N e sz v n xs := by
  refine ⟨h.1, ?_⟩
  rcases h.2 with h' | ⟨g, cap, cur, rfl, a1, a2, a3⟩
  · exact .inl h'
  · exact .inr ⟨g, cap, cur, rfl, a1, (hb.block g (Array.getElem?_eq_some_iff.1 a2).1).trans a2, a3⟩
end Go.Proofs.Ytfmgaakbfphpbaa

/- The developers' Count. -/
namespace Go.Proofs.Ytfmgaakbfphpbaa
open Go.RowKit
set_option linter.unusedVariables false

end Go.Proofs.Ytfmgaakbfphpbaa

/- The developers' Cut. -/
namespace Go.Proofs.Ytfmgaakbfphpbaa
open Go.RowKit Go.Shelf
set_option linter.unusedVariables false

/-- A region in order, in a round of a loop over a function: walked as it stands. -/
theorem list_round {l₀ n : Nat} {P : Program} {ops : Array Oper} {Q : Exit → Act → World → Prop} (hL : ¬ LetsOut Q) : ∀ (l : List Oper) (a : Act) (w : World), (∀ o ∈ l, ∀ c, o.op ≠ .defer c) → wpList P ops Q l a w → wpListIn (Fence.wide.inRound l₀) n P ops Q l a w
  | [], _, _, _, h => h
  | o :: rest, a, w, hd, h => by
    have hd' : ∀ o ∈ rest, ∀ c, o.op ≠ .defer c := fun o ho => hd o (List.mem_cons_of_mem _ ho)
    unfold wpList at h
    unfold wpListIn
    by_cases hw : Region.wanted o (yielded ops a.tmps) = true
    · rw [if_pos hw] at h ⊢
      rcases h with h | h
      · exact op_round (hd o List.mem_cons_self) (Oper.wp_mono (fun a' w' => list_round hL rest a' w' hd') h)
      · exact absurd h.2 hL
    · rw [if_neg hw] at h ⊢
      exact ⟨fun _ _ => trivial, list_round hL rest _ _ hd' h⟩
theorem region_seq_round {l₀ n id : Nat} {P : Program} {l : List Oper} {Q : Exit → Act → World → Prop} {a : Act} {w : World} (hL : ¬ LetsOut Q) (hd : noDefer l.toArray = true) (h : wpList P l.toArray Q l a w) : (Code.region id l.toArray false).wpIn (Fence.wide.inRound l₀) n P Q a w :=
  wpIn_region_lit (list_round hL l a w (fun o ho => by
    obtain ⟨i, hi⟩ := List.getElem?_of_mem ho
    exact noDefer_spec hd (i := i) (by simpa using hi)) h)
theorem letsOut_then {K : Act → World → Prop} {Q : Exit → Act → World → Prop} (h : ¬ LetsOut Q) : ¬ LetsOut (Exit.then K Q) := fun ⟨a, w, e⟩ => h ⟨a, w, e⟩

theorem row_slice {W : World} {base sz n : Nat} {e : TypeId} {v : Value} {xs : List Value} (h : W.ownsRow base e sz v n xs) : ∃ ra n c, v = .slice ra n c := by
  rcases h.2 with ⟨rfl, _⟩ | ⟨g, cap, cur, rfl, _⟩
  · exact ⟨_, _, _, rfl⟩
  · exact ⟨_, _, _, rfl⟩
theorem row_cells {W : World} {base sz n j : Nat} {e : TypeId} {v : Value} {xs : List Value} {o : Obj} (h : W.ownsRow base e sz v n xs) (hj : v.ownBlock = some j) (ho : W.heap[j]? = some o) : o.isCells = true := by
  rcases h.2 with ⟨rfl, _⟩ | ⟨g, cap, cur, rfl, _, hg, _⟩
  · simp [Value.ownBlock] at hj
  · obtain rfl : g = j := by simpa [Value.ownBlock] using hj
    rw [hg] at ho
    cases ho
    rfl

attribute [-simp] Try.isAgg59 Try.zeroValue59 Try.isAgg79 Try.zeroValue79
attribute [-go_sem] loadVar storeVar
attribute [local go_sem] zero_blk build_blk zero_bod loadVar_open3 storeVar_open Oper.semAt_some

end Go.Proofs.Ytfmgaakbfphpbaa

/- The developers' page keeps what is promised. -/
namespace Go.Proofs.Ytfmgaakbfphpbaa
open Go.RowKit
set_option linter.unusedVariables false
end Go.Proofs.Ytfmgaakbfphpbaa

/- Cells of one's own in a walk: boxed arguments, blocks and marked sectors that are stored; a document's sector made of a sector's parts. -/
namespace Go.Proofs.Ytfmgaakbfphpbaa
open Go.RowKit
set_option linter.unusedVariables false

/-- Block B has these cells. -/
def RowC (x : World) (B : Nat) (t : TypeId) (C : List Value) : Prop := x.heap[B]? = some (.cells C.toArray t (0, 0))
section
variable {x y : World} {B : Nat} {t : TypeId} {C : List Value}
theorem RowC.lt (h : RowC x B t C) : B < x.heap.size := (Array.getElem?_eq_some_iff.1 h).1
theorem RowC.below (h : RowC x B t C) (hb : Below x.heap.size x y) : RowC y B t C := (hb.block B h.lt).trans h
theorem RowC.belowN {N : Nat} (h : RowC x B t C) (hb : Below N x y) (hB : B < N) : RowC y B t C := (hb.block B hB).trans h
theorem RowC.range (h : RowC x B t C) : x.rangeAt B 0 C := row_range h
theorem RowC.cell (h : RowC x B t C) (j : Nat) (v : Value) (hj : C[j]? = some v) : x.cell? ⟨B, j, none⟩ = some v := by
  have := h.range j v hj
  rwa [Nat.zero_add] at this
theorem RowC.frozen (h : RowC x B t C) (j : Nat) : x.frozen? ⟨B, j, none⟩ = false := by
  have h' : x.heap[B]? = some (.cells C.toArray t (0, 0)) := h
  simp [World.frozen?, h']
theorem RowC.set (h : RowC x B t C) (j : Nat) (v : Value) : RowC (x.setCell ⟨B, j, none⟩ v) B t (C.set j v) := by
  have h' : x.heap[B]? = some (.cells C.toArray t (0, 0)) := h
  obtain ⟨hlt, hk⟩ := Array.getElem?_eq_some_iff.1 h'
  show (x.heap.modify B _)[B]? = _
  rw [Array.getElem?_eq_getElem (by rw [Array.size_modify]; exact hlt), Array.getElem_modify_self, hk]
  simp
theorem RowC.new (x : World) (t : TypeId) (C : List Value) : RowC (x.alloc (.cells C.toArray t)) x.heap.size t C := heap_alloc_new x _
end
theorem below_new (x : World) (o : Obj) : Below x.heap.size x (x.alloc o) := (Below.refl _ x).alloc (Nat.le_refl _) _
set_option maxRecDepth 100000 in
theorem new_blk (x : World) {C : List Value} (hC : IsBlk C) : ∃ y, (storeVar 59 ⟨x.heap.size, 0, none⟩ (.agg C.toArray)).run Try.prog (x.alloc (.cells zarr 59)) = .ok () y ∧ RowC y x.heap.size 59 C ∧ Below x.heap.size x y :=
  ⟨_, store_new zarr_size hC, RowC.new x _ C, below_new x _⟩
set_option maxRecDepth 100000 in
theorem new_pg (x : World) (p : Sct) (hp : p.body.length = 48) : ∃ y, (storeVar 107 ⟨x.heap.size, 0, none⟩ (.agg p.cells.toArray)).run Try.prog (x.alloc (.cells zcs.toArray 107)) = .ok () y ∧ RowC y x.heap.size 107 p.cells ∧ Below x.heap.size x y :=
  ⟨_, store_new_pg zcs_len (Sct.cells_length hp) (Sct.cells_one p), RowC.new x _ _, below_new x _⟩
set_option maxRecDepth 100000 in
theorem store_new_sec {w : World} {c : Array Value} {c' : List Value} (h : c.size = 51) (h' : c'.length = 51) (h1 : ∀ v ∈ c', v.oneCell' = true) : (storeVar 102 ⟨w.heap.size, 0, none⟩ (.agg c'.toArray)).run Try.prog (w.alloc (.cells c 102)) = .ok () (w.alloc (.cells c'.toArray 102)) :=
  run_storeVar_new w _ c c'.toArray (by simpa [h'] using size_sec) (by simpa [h'] using h) (all_oneCell_toArray h1)
set_option maxRecDepth 100000 in
theorem new_sec (x : World) (p : Sct) (hp : p.body.length = 48) : ∃ y, (storeVar 102 ⟨x.heap.size, 0, none⟩ (.agg p.cells.toArray)).run Try.prog (x.alloc (.cells zcs.toArray 102)) = .ok () y ∧ RowC y x.heap.size 102 p.cells ∧ Below x.heap.size x y :=
  ⟨_, store_new_sec zcs_len (Sct.cells_length hp) (Sct.cells_one p), RowC.new x _ _, below_new x _⟩
set_option maxRecDepth 100000 in
theorem RowC.blk {x : World} {B : Nat} {C : List Value} {t : TypeId} (h : RowC x B t C) (hC : C.length = 64) : (loadVar 59 ⟨B, 0, none⟩).run Try.prog x = .ok (.agg C.toArray) x := load_blk h.range hC
set_option maxRecDepth 100000 in
theorem RowC.pg {x : World} {B : Nat} {p : Sct} {t : TypeId} (h : RowC x B t p.cells) (hp : p.body.length = 48) : (loadVar 107 ⟨B, 0, none⟩).run Try.prog x = .ok (.agg p.cells.toArray) x := load_pg h.range (Sct.cells_length hp)
set_option maxRecDepth 100000 in
theorem RowC.sec {x : World} {B : Nat} {p : Sct} {t : TypeId} (h : RowC x B t p.cells) (hp : p.body.length = 48) : (loadVar 102 ⟨B, 0, none⟩).run Try.prog x = .ok (.agg p.cells.toArray) x := load_sec h.range (Sct.cells_length hp)
set_option maxRecDepth 100000 in
theorem RowC.bod {x : World} {B : Nat} {p : Sct} {t : TypeId} (h : RowC x B t p.cells) (hp : p.body.length = 48) : (loadVar 79 ⟨B, 3, none⟩).run Try.prog x = .ok (.agg (u8s p.body).toArray) x :=
  load_bod (row_part (a := [.int .u8 p.mark, .int .u32 p.seq, .int .i64 p.index]) (b := u8s p.body) h) (by rw [u8s_length, hp])

/-- Cells laid from a place on. -/
theorem laid_from (l : List Value) (k : Nat) (A : Array Value) : l.zipIdx.foldl (fun cs (x : Value × Nat) => cs.setIfInBounds (k + x.2) x.1) A = (l.zipIdx k).foldl (fun cs (x : Value × Nat) => cs.setIfInBounds (0 + x.2) x.1) A := by
  rw [List.zipIdx_eq_map_add (l := l) (i := k), List.foldl_map]
  congr 1
  funext cs x
  obtain ⟨a, j⟩ := x
  show cs.setIfInBounds (k + j) a = cs.setIfInBounds (0 + (k + j)) a
  rw [Nat.zero_add]
def places4 : Nat → Option (Nat × Nat) := fun i => (#[(0, 1), (1, 1), (2, 1), (3, 48)] : Array (Nat × Nat))[i]?
set_option maxRecDepth 100000 in
/-- The document's sector, of a sector's four parts. -/
theorem build_sec4 (m s i : Int) (c : List Value) (hc : c.length = 48) (w : World) :
    (Instr.build 102 #[(0, .int .u8 m), (1, .int .u32 s), (2, .int .i64 i), (3, .agg c.toArray)]).run Try.prog w = .ok (.agg (Value.int .u8 m :: .int .u32 s :: .int .i64 i :: c).toArray) w := by
  refine run_build w _ _ _ ?_
  have e : Instr.fill places4 zcs.toArray [(0, .int .u8 m), (1, .int .u32 s), (2, .int .i64 i), (3, .agg c.toArray)] = some (Value.int .u8 m :: .int .u32 s :: .int .i64 i :: c).toArray := by
    have h3 : Instr.fill places4 zcs.toArray [(0, .int .u8 m), (1, .int .u32 s), (2, .int .i64 i), (3, .agg c.toArray)] = Instr.fill places4 (((zcs.set 0 (.int .u8 m)).set 1 (.int .u32 s)).set 2 (.int .i64 i)).toArray [(3, .agg c.toArray)] := rfl
    have hz : (((zcs.set 0 (.int .u8 m)).set 1 (.int .u32 s)).set 2 (.int .i64 i)).toArray.size = 51 := by simp [zcs, u8s]
    rw [h3]
    have p3 : places4 3 = some (3, 48) := rfl
    simp only [Instr.fill, p3, Value.cells]
    refine (if_neg ?_).trans ?_
    · intro h
      rcases Bool.or_eq_true_iff.1 h with h | h
      · exact (of_decide_eq_true h) (by simpa using hc)
      · have h' : 3 + c.toArray.size > (((zcs.set 0 (.int .u8 m)).set 1 (.int .u32 s)).set 2 (.int .i64 i)).toArray.size := of_decide_eq_true h
        rw [hz, List.size_toArray, hc] at h'
        omega
    congr 1
    rw [← Array.foldl_toList, Array.toList_zipIdx, laid_from]
    apply Array.ext_getElem?
    intro j
    rw [laid_get c 3 _ j (by rw [hz, hc]; omega)]
    match j with
    | 0 => rfl
    | 1 => rfl
    | 2 => rfl
    | j + 3 =>
      by_cases hj : j < 48
      · rw [if_pos (by omega)]; simp
      · rw [if_neg (by omega), Array.getElem?_eq_none (by omega)]; simp; omega
  exact e
/-- Whatever is no block, no body and neither sector is read and written cell by cell. -/
theorem loadVar_open5 (t : TypeId) (h : t ≠ 59 ∧ t ≠ 107 ∧ t ≠ 79 ∧ t ≠ 102) (a : Addr) : loadVar t a = (do if ← isAgg t then pure (.agg (← loadCells a (← sizeOf t))) else load a) := rfl
theorem storeVar_open5 (t : TypeId) (h : t ≠ 59 ∧ t ≠ 107 ∧ t ≠ 102) (a : Addr) (v : Value) : storeVar t a v = (do
    if v.cells.size ≠ (← sizeOf t) then stuck "storeVar: the value has not the size of the variable"
    storeCells a v.cells.toList) := rfl
/-- A block's bytes, a sector's code. -/
theorem isBlk_code {p : Sct} (hp : p.Ok) : IsBlk p.code := by
  unfold Sct.code
  split
  · exact isBlk_u8s (Sct.bytes_length hp)
  · exact isBlk_fill 0
theorem decS_ok {bs : List Int} (hb : IsBytes bs) (hl : bs.length = 64) : (decS bs).Ok := by
  unfold decS
  split
  · exact of_ok hb hl
  · exact ⟨by decide, by decide, by simp [zsct], fun j => by
      show 0 ≤ ((List.replicate 48 (0 : Int))[j]?).getD 0 ∧ ((List.replicate 48 (0 : Int))[j]?).getD 0 < 256
      rw [List.getElem?_replicate]
      split <;> decide⟩
end Go.Proofs.Ytfmgaakbfphpbaa

/- Images in memory, of both packages: made, read, appended. -/
namespace Go.Proofs.Ytfmgaakbfphpbaa
open Go.RowKit
set_option linter.unusedVariables false

def zim : List Value := .int .i64 0 :: z48
theorem zim_size : zim.toArray.size = 49 := by simp [zim, z48, u8s]
def imgR (l : List Img) : List (List Value) := l.map Img.cells
theorem imgR_length (l : List Img) : (imgR l).length = l.length := by simp [imgR]
set_option maxRecDepth 100000 in
theorem build_bod (w : World) : (Instr.build 79 #[]).run Try.prog w = .ok (.agg z48.toArray) w := by kernel_rfl
def placesI : Nat → Option (Nat × Nat) := fun i => (#[(0, 1), (1, 48)] : Array (Nat × Nat))[i]?
theorem fill_img (i : Int) (c : List Value) (hc : c.length = 48) : Instr.fill placesI zim.toArray [(0, .int .i64 i), (1, .agg c.toArray)] = some (Value.int .i64 i :: c).toArray := by
  have h3 : Instr.fill placesI zim.toArray [(0, .int .i64 i), (1, .agg c.toArray)] = Instr.fill placesI (zim.set 0 (.int .i64 i)).toArray [(1, .agg c.toArray)] := rfl
  have hz : (zim.set 0 (.int .i64 i)).toArray.size = 49 := by simp [zim, z48, u8s]
  rw [h3]
  have p3 : placesI 1 = some (1, 48) := rfl
  simp only [Instr.fill, p3, Value.cells]
  refine (if_neg ?_).trans ?_
  · intro h
    rcases Bool.or_eq_true_iff.1 h with h | h
    · exact (of_decide_eq_true h) (by simpa using hc)
    · have h' : 1 + c.toArray.size > (zim.set 0 (.int .i64 i)).toArray.size := of_decide_eq_true h
      rw [hz, List.size_toArray, hc] at h'
      omega
  congr 1
  rw [← Array.foldl_toList, Array.toList_zipIdx, laid_from]
  apply Array.ext_getElem?
  intro j
  rw [laid_get c 1 _ j (by rw [hz, hc]; omega)]
  match j with
  | 0 => rfl
  | j + 1 =>
    by_cases hj : j < 48
    · rw [if_pos (by omega)]; simp
    · rw [if_neg (by omega), Array.getElem?_eq_none (by omega)]; simp; omega

-- revetmentref06.Image
set_option maxRecDepth 100000 in
theorem under_imgR : Try.prog.underlying 95 = some (.struct (Try.prog.fieldsOf 95)) := by kernel_rfl
set_option maxRecDepth 100000 in
theorem size_imgR : (Try.prog.info? 95).map (·.size) = some 49 := by kernel_rfl
set_option maxRecDepth 100000 in
theorem info_imgR : (Try.prog.info? 95).map (fun i => (i.zero, i.size, i.bytes)) = some (some (.agg zim.toArray), 49, 56) := by kernel_rfl
set_option maxRecDepth 100000 in
theorem zero_imgR (w : World) : (zeroValue 95).run Try.prog w = .ok (.agg zim.toArray) w := by kernel_rfl
set_option maxRecDepth 100000 in
theorem load_imgR {w : World} {b o : Nat} {c : List Value} (hc : w.rangeAt b o c) (h : c.length = 49) : (loadVar 95 ⟨b, o, none⟩).run Try.prog w = .ok (.agg c.toArray) w :=
  run_loadVar_mid w b o _ c _ hc Try.underlying95 rfl (by rw [h]; exact size_imgR)
set_option maxRecDepth 100000 in
theorem store_new_imgR {w : World} {c : Array Value} {c' : List Value} (h : c.size = 49) (h' : c'.length = 49) (h1 : ∀ v ∈ c', v.oneCell' = true) : (storeVar 95 ⟨w.heap.size, 0, none⟩ (.agg c'.toArray)).run Try.prog (w.alloc (.cells c 95)) = .ok () (w.alloc (.cells c'.toArray 95)) :=
  run_storeVar_new w _ c c'.toArray (by simpa [h'] using size_imgR) (by simpa [h'] using h) (all_oneCell_toArray h1)
set_option maxRecDepth 100000 in
theorem build_imgR (i : Int) (c : List Value) (hc : c.length = 48) (w : World) :
    (Instr.build 95 #[(0, .int .i64 i), (1, .agg c.toArray)]).run Try.prog w = .ok (.agg (Value.int .i64 i :: c).toArray) w :=
  run_build w _ _ _ (fill_img i c hc)
set_option maxRecDepth 100000 in
theorem build_img1R (i : Int) (w : World) : (Instr.build 95 #[(0, .int .i64 i)]).run Try.prog w = .ok (.agg (Value.int .i64 i :: z48).toArray) w := by kernel_rfl
set_option maxRecDepth 100000 in
/-- A slice of one image. -/
theorem slice_imgR (w : World) (b : List Value) (h : b.length = 49) : (Instr.buildSlice 39 1 #[(0, .agg b.toArray)]).run Try.prog w = .ok (.slice (some ⟨w.heap.size, 0, none⟩) 1 1) (w.alloc (.cells b.toArray 95)) := by
  have e : (b.zipIdx.foldl (fun cs (x : Value × Nat) => cs.setIfInBounds (0 + x.2) x.1) ((Array.range 49).map (zim.toArray[· % zim.toArray.size]!))) = b.toArray := laid_all b _ (by simp [h])
  have e2 : b.toArray.zipIdx.foldl (fun cs (x : Value × Nat) => cs.setIfInBounds (0 + x.2) x.1) ((Array.range 49).map (zim.toArray[· % zim.toArray.size]!)) = b.toArray := by
    rw [← Array.foldl_toList, Array.toList_zipIdx]
    exact e
  obtain ⟨i0, hi, hz0, hz1, hz2⟩ := info_parts info_imgR
  refine run_buildSlice (P := Try.prog) w 39 95 1 _ b.toArray i0 (.agg zim.toArray) (by kernel_rfl) hi hz0 (by rw [hz1]; decide) (by rw [hz1]; decide) ?_
  rw [hz1]
  show Instr.fill _ _ [(0, Value.agg b.toArray)] = _
  simp only [Instr.fill]
  rw [if_neg (by simp [Value.cells, h])]
  congr 1
set_option maxRecDepth 100000 in
/-- An image appended to images. -/
theorem append_imgR (N : Nat) (w : World) (v : Value) (vs : List (List Value)) (b : List Value) (B : Nat) (hown : w.ownsRow N 95 49 v vs.length vs.flatten) (hb : b.length = 49) (h1 : ∀ u ∈ b, u.oneCell' = true) (hB : w.rangeAt B 0 b) (hlen : vs.length ≤ 1000000) (hN : N ≤ w.heap.size) :
    ∃ v' w', (Builtin.append_ #[39, 39] 39 #[v, .slice (some ⟨B, 0, none⟩) 1 1]).run Try.prog w = .ok v' w' ∧ w'.ownsRow N 95 49 v' (vs ++ [b]).length (vs ++ [b]).flatten ∧ w.grownBy w' v.ownBlock ∧ (v'.ownBlock = v.ownBlock ∨ v'.ownBlock = some w.heap.size) := by
  obtain ⟨i0, hi, hz0, hz1, hz2⟩ := info_parts info_imgR
  obtain ⟨v', w', hr, h1, h2, _, h3⟩ := run_append_own_at (P := Try.prog) w N 39 39 95 i0 (.agg zim.toArray) 49 56 Try.underlying39 hi hz0 hz1 hz2 zim_size (by omega) v vs.length vs.flatten hown
    ⟨B, 0, none⟩ 1 1 b (by rw [hb]) (fun j u hj => by have := hB j u hj; rwa [Addr.add_mid]) h1 (by unfold maxLen; omega) (by omega) hN
  exact ⟨v', w', hr, by simpa using h1, h2, h3⟩

-- ring.Image
set_option maxRecDepth 100000 in
theorem under_imgD : Try.prog.underlying 81 = some (.struct (Try.prog.fieldsOf 81)) := by kernel_rfl
set_option maxRecDepth 100000 in
theorem size_imgD : (Try.prog.info? 81).map (·.size) = some 49 := by kernel_rfl
set_option maxRecDepth 100000 in
theorem info_imgD : (Try.prog.info? 81).map (fun i => (i.zero, i.size, i.bytes)) = some (some (.agg zim.toArray), 49, 56) := by kernel_rfl
set_option maxRecDepth 100000 in
theorem zero_imgD (w : World) : (zeroValue 81).run Try.prog w = .ok (.agg zim.toArray) w := by kernel_rfl
set_option maxRecDepth 100000 in
theorem load_imgD {w : World} {b o : Nat} {c : List Value} (hc : w.rangeAt b o c) (h : c.length = 49) : (loadVar 81 ⟨b, o, none⟩).run Try.prog w = .ok (.agg c.toArray) w :=
  run_loadVar_mid w b o _ c _ hc Try.underlying81 rfl (by rw [h]; exact size_imgD)
set_option maxRecDepth 100000 in
theorem store_new_imgD {w : World} {c : Array Value} {c' : List Value} (h : c.size = 49) (h' : c'.length = 49) (h1 : ∀ v ∈ c', v.oneCell' = true) : (storeVar 81 ⟨w.heap.size, 0, none⟩ (.agg c'.toArray)).run Try.prog (w.alloc (.cells c 81)) = .ok () (w.alloc (.cells c'.toArray 81)) :=
  run_storeVar_new w _ c c'.toArray (by simpa [h'] using size_imgD) (by simpa [h'] using h) (all_oneCell_toArray h1)
set_option maxRecDepth 100000 in
theorem build_imgD (i : Int) (c : List Value) (hc : c.length = 48) (w : World) :
    (Instr.build 81 #[(0, .int .i64 i), (1, .agg c.toArray)]).run Try.prog w = .ok (.agg (Value.int .i64 i :: c).toArray) w :=
  run_build w _ _ _ (fill_img i c hc)
set_option maxRecDepth 100000 in
theorem build_img1D (i : Int) (w : World) : (Instr.build 81 #[(0, .int .i64 i)]).run Try.prog w = .ok (.agg (Value.int .i64 i :: z48).toArray) w := by kernel_rfl
set_option maxRecDepth 100000 in
/-- A slice of one image. -/
theorem slice_imgD (w : World) (b : List Value) (h : b.length = 49) : (Instr.buildSlice 38 1 #[(0, .agg b.toArray)]).run Try.prog w = .ok (.slice (some ⟨w.heap.size, 0, none⟩) 1 1) (w.alloc (.cells b.toArray 81)) := by
  have e : (b.zipIdx.foldl (fun cs (x : Value × Nat) => cs.setIfInBounds (0 + x.2) x.1) ((Array.range 49).map (zim.toArray[· % zim.toArray.size]!))) = b.toArray := laid_all b _ (by simp [h])
  have e2 : b.toArray.zipIdx.foldl (fun cs (x : Value × Nat) => cs.setIfInBounds (0 + x.2) x.1) ((Array.range 49).map (zim.toArray[· % zim.toArray.size]!)) = b.toArray := by
    rw [← Array.foldl_toList, Array.toList_zipIdx]
    exact e
  obtain ⟨i0, hi, hz0, hz1, hz2⟩ := info_parts info_imgD
  refine run_buildSlice (P := Try.prog) w 38 81 1 _ b.toArray i0 (.agg zim.toArray) (by kernel_rfl) hi hz0 (by rw [hz1]; decide) (by rw [hz1]; decide) ?_
  rw [hz1]
  show Instr.fill _ _ [(0, Value.agg b.toArray)] = _
  simp only [Instr.fill]
  rw [if_neg (by simp [Value.cells, h])]
  congr 1
set_option maxRecDepth 100000 in
/-- An image appended to images. -/
theorem append_imgD (N : Nat) (w : World) (v : Value) (vs : List (List Value)) (b : List Value) (B : Nat) (hown : w.ownsRow N 81 49 v vs.length vs.flatten) (hb : b.length = 49) (h1 : ∀ u ∈ b, u.oneCell' = true) (hB : w.rangeAt B 0 b) (hlen : vs.length ≤ 1000000) (hN : N ≤ w.heap.size) :
    ∃ v' w', (Builtin.append_ #[38, 38] 38 #[v, .slice (some ⟨B, 0, none⟩) 1 1]).run Try.prog w = .ok v' w' ∧ w'.ownsRow N 81 49 v' (vs ++ [b]).length (vs ++ [b]).flatten ∧ w.grownBy w' v.ownBlock ∧ (v'.ownBlock = v.ownBlock ∨ v'.ownBlock = some w.heap.size) := by
  obtain ⟨i0, hi, hz0, hz1, hz2⟩ := info_parts info_imgD
  obtain ⟨v', w', hr, h1, h2, _, h3⟩ := run_append_own_at (P := Try.prog) w N 38 38 81 i0 (.agg zim.toArray) 49 56 Try.underlying38 hi hz0 hz1 hz2 zim_size (by omega) v vs.length vs.flatten hown
    ⟨B, 0, none⟩ 1 1 b (by rw [hb]) (fun j u hj => by have := hB j u hj; rwa [Addr.add_mid]) h1 (by unfold maxLen; omega) (by omega) hN
  exact ⟨v', w', hr, by simpa using h1, h2, h3⟩
end Go.Proofs.Ytfmgaakbfphpbaa

/- The document's own disk: Loose. -/
namespace Go.Proofs.Ytfmgaakbfphpbaa
open Go.RowKit
set_option linter.unusedVariables false
attribute [-simp] Try.isAgg59 Try.zeroValue59
attribute [-go_sem] loadVar storeVar
attribute [local go_sem] zero_blk build_blk loadVar_open storeVar_open

/-- The list so far. -/
def LPart (w : World) (D : Nat → Sec) (k : Nat) (v : Value) (W : World) : Prop := W.ownsRow w.heap.size 3 1 v (looseTo D k).length (ints (looseTo D k)) ∧ Below w.heap.size w W ∧ (looseTo D k = [] → v = .slice none 0 0)

set_option maxRecDepth 100000 in
set_option maxHeartbeats 4000000 in
/-- **Loose**. -/
theorem refLoose (rq n : Nat) (f : Nat → Prop) (D : Nat → Sec) (w : World) (h : Ref w rq n f D) :
    Calls Try.prog 64 #[.pointer (some ⟨rq, 0, none⟩)] w fun e w' => ∃ v, e = .returned v ∧ w'.ownsRow w.heap.size 3 1 v (looseTo D n).length (ints (looseTo D n)) ∧ Below w.heap.size w w' ∧ (looseTo D n = [] → v = .slice none 0 0) := by
  obtain ⟨i0, hi, hz0, hz1, hz2⟩ := info_parts info_int
  obtain ⟨ss, vb, sv, h, rfl⟩ := h
  have HM : Hid (n ≤ 4096) := h.max
  have HH := Lib.hid h
  have HI : Hid (∃ i : TypeInfo, Try.prog.info? 3 = some i ∧ i.zero = some (.int .i64 0) ∧ i.size = 1 ∧ i.bytes = 8) := ⟨i0, hi, hz0, hz1, hz2⟩
  clear h hi hz0 hz1 hz2
  go_enter Try.func64, Try.ntmps64
  go_wp2
  go_loopw [3, 4] (fun v i wr => ∃ k : Nat, k ≤ n ∧ i = .int .i64 k ∧ LPart w D k v wr) (fun _ i _ => n - (intOf i).toNat)
  case atStart => exact ⟨0, Nat.zero_le _, rfl, World.ownsRow_nil _ _ _ _, Below.refl _ _, fun _ => rfl⟩
  case round =>
    obtain ⟨k, hk, rfl, hR, hB, hN⟩ := hrel
    by_cases hlt : k < n
    · have hn : 0 < n := by omega
      have hD : RefAt _ rq ss vb n sv D := HH.out.kept fun q hq => hB.block q (HH.out.lt hn hq)
      have c0 := cell_of_row _ _ 0 _ _ _ hD.head
      have c1 := cell_of_row _ _ 1 _ _ _ hD.head
      have c2 := hD.ver k hlt
      obtain ⟨a, cap, hf, -, -, -, -⟩ := row_form (hD.ok k hlt).2 (hD.row k hlt)
      rw [hf] at c2
      simp only [List.getElem?_toArray, List.getElem?_cons_zero, List.getElem?_cons_succ] at c0 c1
      have g1 : (k : Int) < (n : Int) := by omega
      have HLT := Lib.hid hlt
      have HW : Hid (wrap64 ((k : Int) + 1) = (k : Int) + 1) := IntWalk.wrap64_in _ (by have := HM.out; omega)
      obtain ⟨m, hm⟩ : ∃ m, (D k).vs.length = m := ⟨_, rfl⟩
      rw [hm] at c2
      by_cases h0 : 0 < m
      · have hv0 : (D k).vs ≠ [] := fun e => by rw [e] at hm; simp at hm; omega
        obtain ⟨i0, hi, hz0, hz1, hz2⟩ := HI.out
        have hle := looseTo_length D k
        have hb2 := HM.out
        obtain ⟨v', w1, hrun, ho, hg, _⟩ := run_append_own (P := Try.prog) (w := wr.alloc (.cells #[.int .i64 (k : Int)] 3)) w.heap.size 144 144 3 i0 (.int .i64 0) 1 8 Try.underlying144 hi hz0 hz1 hz2 rfl (by decide) _ _ _ (hR.alloc _) ⟨wr.heap.size, 0, none⟩ 1 1 [.int .i64 (k : Int)] rfl (cell_one_new _ _ _) (by simp [Value.oneCell']) (by unfold maxLen; omega) (by omega) (by have := hB.size; simp; omega)
        have HP : Hid (LPart w D (k + 1) v' w1) := by
          show LPart _ _ _ _ _
          unfold LPart
          rw [looseTo_yes hv0]
          exact ⟨by rw [ints_snoc, List.length_append]; exact ho, (hB.alloc hB.size _).grown hg (by have := hB.size; simp; omega) (fun q hq => (hR.lt q hq).1), fun e => by simp at e⟩
        have HA := Lib.hid hrun
        clear hR hB hN hD hlt hk hv0 hm hf hn ho hg hrun hi hz0 hz1 hz2 hle hb2
        go_wp2_with (at_builtin; refine wpList_append_run (.tmp 23) (.tmp 25) 144 rfl rfl _ _ _ rfl rfl HA.out ?_)
        exact ⟨next_rel (C := fun k => LPart w D k _ _) HW.out HLT.out HP.out, next_lt HW.out HLT.out⟩
      · obtain rfl : m = 0 := by omega
        have hv0 : (D k).vs = [] := List.eq_nil_of_length_eq_zero hm
        have HP : Hid (LPart w D (k + 1) u3 wr) := by show LPart _ _ _ _ _; unfold LPart; rw [looseTo_no hv0]; exact ⟨hR, hB, hN⟩
        clear hR hB hN hD hlt hk hv0 hm h0 hf hn
        go_wp2_with fail
        exact ⟨next_rel (C := fun k => LPart w D k _ _) HW.out HLT.out HP.out, next_lt HW.out HLT.out⟩
    · obtain rfl : k = n := by omega
      have HP : Hid (LPart w D k u3 wr) := ⟨hR, hB, hN⟩
      have c0 : wr.cell? ⟨rq, 0, none⟩ = some (.slice (some ⟨ss, 0, none⟩) k k) := by
        rw [World.cell?_of_block (a := ⟨rq, 0, none⟩) (hB.block rq (Array.getElem?_eq_some_iff.1 HH.out.head).1), cell_of_row _ _ _ _ _ _ HH.out.head]; rfl
      clear hR hB hN hk hlt
      go_wp2_with fail
      go_ret
      exact ⟨_, rfl, HP.out⟩
end Go.Proofs.Ytfmgaakbfphpbaa

/- The document's own disk: Crash. -/
namespace Go.Proofs.Ytfmgaakbfphpbaa
open Go.RowKit
set_option linter.unusedVariables false
attribute [-simp] Try.isAgg59 Try.zeroValue59
attribute [-go_sem] loadVar storeVar
attribute [local go_sem] zero_blk build_blk loadVar_open storeVar_open

theorem looseTo_nodup (D : Nat → Sec) (n : Nat) : (looseTo D n).Nodup := List.nodup_range.filter _
/-- What stands at place k, and what ahead of it. -/
theorem looseTo_place {D : Nat → Sec} {n k x : Nat} (h : (looseTo D n)[k]? = some x) : x < n ∧ (D x).vs ≠ [] ∧ (looseTo D n).take k = looseTo D x ∧ (looseTo D x).length = k ∧ x ∉ looseTo D x ∧ (looseTo D n).take (k + 1) = looseTo D x ++ [x] := by
  have hm := List.mem_of_getElem? h
  have hx := looseTo_lt hm
  have hv := looseTo_loose hm
  have hp : looseTo D x ++ [x] <+: looseTo D n := by
    rw [← looseTo_yes hv]
    have := looseTo_prefix D (x + 1) (n - (x + 1))
    rwa [show x + 1 + (n - (x + 1)) = n by omega] at this
  obtain ⟨t, ht⟩ := hp
  have h2 : (looseTo D n)[(looseTo D x).length]? = some x := by rw [← ht]; simp
  have hk : k = (looseTo D x).length := (List.getElem?_inj (List.getElem?_eq_some_iff.1 h).1 (looseTo_nodup D n)).1 (h.trans h2.symm)
  refine ⟨hx, hv, ?_, hk.symm, not_mem_self D x, ?_⟩
  · rw [hk, ← ht]; simp
  · rw [hk, ← ht, List.take_append_of_le_length (by simp), List.take_of_length_le (by simp)]

theorem list_form {w w1 : World} {l : List Nat} {v : Value} (h : w1.ownsRow w.heap.size 3 1 v l.length (ints l)) : ∃ a cap, v = .slice a l.length cap ∧ ∀ (k x : Nat), l[k]? = some x → ∃ g, a = some ⟨g, 0, none⟩ ∧ w.heap.size ≤ g ∧ g < w1.heap.size ∧ w1.cell? ⟨g, k, none⟩ = some (.int .i64 (x : Int)) := by
  have hc := h
  rcases h.2 with ⟨rfl, h0⟩ | ⟨g, cap, cur, rfl, h1, h2, _⟩
  · exact ⟨none, 0, by rw [h0], fun k x hk => by have := (List.getElem?_eq_some_iff.1 hk).1; omega⟩
  · refine ⟨_, cap, rfl, fun k x hk => ⟨g, rfl, h1, (Array.getElem?_eq_some_iff.1 h2).1, ?_⟩⟩
    have := hc.cells rfl k (.int .i64 (x : Int)) (by simp [ints, hk])
    rwa [show (⟨g, 0, none⟩ : Addr).add k = ⟨g, k, none⟩ by simp [Addr.add]; omega] at this

set_option maxRecDepth 100000 in
set_option maxHeartbeats 8000000 in
/-- **Crash**. -/
theorem refCrash (rq n : Nat) (f : Nat → Prop) (D : Nat → Sec) (v : Value) (bs : List Int) (w : World) (h : Ref w rq n f D) (hn : 0 < n) (hv : Sl .u8 w v bs) (hB : IsBytes bs) (hc : bs ≠ [] → Clear f v) (hl : ∀ i, i < n → (D i).vs.length ≤ 1000000) :
    Calls Try.prog 43 #[.pointer (some ⟨rq, 0, none⟩), v] w fun e w' => e = .returned (.tuple #[]) ∧ ∃ f', Ref w' rq n f' (settled D (crashG D bs) (looseTo D n)) ∧ Turn f f' w w' := by
  obtain ⟨g, hg⟩ : ∃ g : Nat → Nat, crashG D bs = g := ⟨_, rfl⟩
  rw [hg]
  have HLo := Lib.hid (refLoose rq n f D w h)
  obtain ⟨ss, vb, sv0, h, rfl⟩ := h
  obtain ⟨ad, cap, rfl, hcap, hmaxc, hlies, -⟩ := hv
  have HMX : Hid (n ≤ 4096) := h.max
  have HH := Lib.hid h
  have HG := Lib.hid hg
  have HC := Lib.hid hc
  have HLI := Lib.hid hlies
  have HBY := Lib.hid hB
  have HMC := Lib.hid hmaxc
  have HCAP := Lib.hid hcap
  obtain ⟨L, hL⟩ : ∃ L, bs.length = L := ⟨_, rfl⟩
  have HL := Lib.hid hL
  rw [hL] at hcap ⊢
  have HLV := Lib.hid hl
  clear h hg hc hlies hB hmaxc hcap hL hl
  have hmx : Try.prog.follows .mixedOrders = true := by kernel_rfl
  go_enter Try.func43, Try.ntmps43
  go_wp2_with fail
  refine HLo.out.mono ?_
  rintro e w1 ⟨lv, rfl, hrow, hb, -⟩
  obtain ⟨la, lcap, hlv, hlist⟩ := list_form hrow
  have BL := Lib.hid hb
  have hR1 : RefAt w1 rq ss vb n sv0 D := HH.out.kept fun k hk => hb.block k (HH.out.lt hn hk)
  have HP : Hid (RPart w1 rq ss vb n (rfoot rq ss vb n sv0) (settled D g ((looseTo D n).take 0)) w1) := by rw [List.take_zero, settled_nil]; exact ⟨sv0, hR1, Turn.refl _ _⟩
  have HLs := Lib.hid hlist
  obtain ⟨M, hM⟩ : ∃ M, (looseTo D n).length = M := ⟨_, rfl⟩
  rw [hM] at hlv
  subst hlv
  have HMl := Lib.hid hM
  have hMn : M ≤ n := by rw [← hM]; exact looseTo_length D n
  have HMn := Lib.hid hMn
  clear hrow hb hlist hR1 hM hMn
  go_wp2
  go_loopw [5] (fun i wr => ∃ k : Nat, k ≤ M ∧ i = .int .i64 k ∧ RPart w1 rq ss vb n (rfoot rq ss vb n sv0) (settled D g ((looseTo D n).take k)) wr) (fun i _ => M - (intOf i).toNat)
  case atStart => exact ⟨0, Nat.zero_le _, rfl, HP.out⟩
  case round =>
    obtain ⟨k, hk, rfl, sv, hR, hT⟩ := hrel
    by_cases hlt : k < M
    · obtain ⟨x, hx⟩ : ∃ x, (looseTo D n)[k]? = some x := ⟨_, List.getElem?_eq_getElem (by rw [HMl.out]; exact hlt)⟩
      obtain ⟨p1, p2, p3, p4, p5, p6⟩ := looseTo_place hx
      obtain ⟨lg, rfl, q1, q2, q3⟩ := HLs.out k x hx
      have hlcell : wr.cell? ⟨lg, k, none⟩ = some (.int .i64 (x : Int)) := (World.cell?_of_block (a := ⟨lg, k, none⟩) (hT.out lg q2 (fun hf => by have := HH.out.lt hn hf; omega))).trans q3
      have hDx : settled D g ((looseTo D n).take k) x = D x := by rw [p3]; exact settled_not p5
      obtain ⟨m, hm⟩ : ∃ m, (D x).vs.length = m := ⟨_, rfl⟩
      have hgx : g x = crashK bs k m := by rw [← HG.out, crashG, p4, hm]
      have hgm : g x ≤ m := by rw [hgx]; exact crashK_le _ _ _
      have key : ∀ y : Ext wr, RefAt y.1 rq ss vb n sv (settled D g ((looseTo D n).take k)) := fun y => hR.kept fun q hq => y.2.block q (hR.lt hn hq)
      have hC0 : ∀ y : Ext wr, y.1.cell? ⟨rq, 0, none⟩ = some (.slice (some ⟨ss, 0, none⟩) n n) := fun y => by rw [cell_of_row _ _ _ _ _ _ (key y).head]; rfl
      have hC1 : ∀ y : Ext wr, y.1.cell? ⟨rq, 1, none⟩ = some (.slice (some ⟨vb, 0, none⟩) n n) := fun y => by rw [cell_of_row _ _ _ _ _ _ (key y).head]; rfl
      obtain ⟨a, vcap, hf, hvc, hvm, hvn, hvs⟩ := row_form (hR.ok x p1).2 (hR.row x p1)
      rw [hDx] at hf hvc hvn hvs
      have hC2 : ∀ y : Ext wr, y.1.cell? ⟨vb, x, none⟩ = some (.slice a m vcap) := fun y => by rw [(key y).ver x p1, hf, hm]
      have hF2 : ∀ y : Ext wr, y.1.frozen? ⟨vb, x, none⟩ = false := fun y => by have := ((key y).thereV x p1).2; rwa [Nat.zero_add] at this
      -- where nothing is taken
      have HF0 : Hid (g x = 0 → ∀ y : Ext wr, RPart w1 rq ss vb n (rfoot rq ss vb n sv0) (settled D g ((looseTo D n).take (k + 1))) (y.1.setCell ⟨vb, x, none⟩ (.slice none 0 0))) := by
        intro h0 y
        obtain ⟨z1, z2⟩ := hR.setV (v' := .slice none 0 0) (vs' := []) p1 y.2 (by simp) (World.ownsRow_nil _ _ _ _)
        refine ⟨_, ?_, hT.trans z2⟩
        rw [p6, settled_snoc, ← p3, h0]
        rw [hDx] at z1
        exact z1
      -- where the version r is taken
      have HF1 : Hid (∀ (r : Nat) (u : List Value), g x = r + 1 → (D x).vs[r]? = some u → ∀ y : Ext wr, ∃ y2, (storeVar 59 ⟨ss, x * 64, none⟩ (.agg u.toArray)).run Try.prog y.1 = .ok () y2 ∧ y2.cell? ⟨rq, 1, none⟩ = some (.slice (some ⟨vb, 0, none⟩) n n) ∧ (∃ v, y2.cell? ⟨vb, x, none⟩ = some v) ∧ y2.frozen? ⟨vb, x, none⟩ = false ∧ RPart w1 rq ss vb n (rfoot rq ss vb n sv0) (settled D g ((looseTo D n).take (k + 1))) (y2.setCell ⟨vb, x, none⟩ (.slice none 0 0))) := by
        intro r u h0 hu y
        have hok : IsBlk u := by have := (hR.ok x p1).2 u; rw [hDx] at this; exact this (List.mem_of_getElem? hu)
        have hx := key y
        obtain ⟨z1, z2⟩ := hR.setS p1 y.2 hok
        refine ⟨_, store_blk (fun j hj => ?_) hok, ?_, ⟨_, z1.ver x p1⟩, ?_, ?_⟩
        · have := hx.thereS (x * 64 + j) (by omega)
          rwa [Nat.zero_add] at this
        · rw [cell_of_row _ _ _ _ _ _ z1.head]; rfl
        · have := (z1.thereV x p1).2; rwa [Nat.zero_add] at this
        · obtain ⟨z3, z4⟩ := z1.setV (v' := .slice none 0 0) (vs' := []) p1 (Below.refl _ _) (by simp) (World.ownsRow_nil _ _ _ _)
          refine ⟨_, ?_, (hT.trans z2).trans z4⟩
          rw [p6, settled_snoc, ← p3, h0]
          have e : (D x).settle (r + 1) = ⟨u, []⟩ := by simp [Sec.settle, hu]
          rw [e]
          rw [upd_same] at z3
          have e2 : ∀ (E : Nat → Sec) (s t : Sec), upd (upd E x s) x t = upd E x t := fun E s t => by
            funext j
            by_cases ej : j = x
            · subst ej; rw [upd_same, upd_same]
            · rw [upd_other _ _ ej, upd_other _ _ ej, upd_other _ _ ej]
          rw [e2] at z3
          exact z3
      have c1 := hC1 ⟨wr, Below.refl _ _⟩
      have c2 := hC2 ⟨wr, Below.refl _ _⟩
      have f2 := hF2 ⟨wr, Below.refl _ _⟩
      have g1 : (x : Int) < (n : Int) := by omega
      have g2 : (k : Int) < (M : Int) := by omega
      have HLT := Lib.hid hlt
      have HMm : Hid ((m : Int) ≤ 1000000) := by have := HLV.out x p1; show _ ≤ _; omega
      have HW : Hid (wrap64 ((k : Int) + 1) = (k : Int) + 1) := IntWalk.wrap64_in _ (by have := HMn.out; have := HMX.out; omega)
      by_cases hKL : k < L
      · obtain ⟨b, off, rfl, hbw, hby⟩ : ∃ b off, ad = some ⟨b, off, none⟩ ∧ b < w.heap.size ∧ ∀ j, j < bs.length → w.cell? ⟨b, off + j, none⟩ = some (.int .u8 (bs[j]?.getD 0)) := by
          rcases HLI.out with e | e
          · have := HL.out; rw [e] at this; simp at this; omega
          · exact e
        obtain ⟨y, hy⟩ : ∃ y, bs[k]?.getD 0 = y := ⟨_, rfl⟩
        obtain ⟨y0, y1⟩ := HBY.out k
        rw [hy] at y0 y1
        have hbw1 := Nat.lt_of_lt_of_le hbw BL.out.size
        have hD3 : ∀ z : Ext wr, z.1.cell? ⟨b, off + k, none⟩ = some (.int .u8 y) := fun z => by
          rw [← hy, ← hby k (by rw [HL.out]; exact hKL)]
          exact World.cell?_of_block (a := ⟨b, off + k, none⟩) ((z.2.block b (Nat.lt_of_lt_of_le hbw1 hT.size)).trans ((hT.out b hbw1 (HC.out (fun e => by have := HL.out; rw [e] at this; simp at this; omega) b off _ _ rfl)).trans (BL.out.block b hbw)))
        obtain ⟨q, hq⟩ : ∃ q, g x = q := ⟨_, rfl⟩
        have hqy : q = y.toNat % (m + 1) := by rw [← hq, hgx, crashK, if_pos (by rw [HL.out]; exact hKL), hy]
        have HQY : Hid (y % ((m : Int) + 1) = (q : Int)) := by
          show _ = _
          obtain ⟨z, rfl⟩ := Int.eq_ofNat_of_zero_le y0
          rw [hqy, Int.toNat_natCast, Int.natCast_emod, Int.natCast_add]
          rfl
        have g3 : (k : Int) < (L : Int) := by omega
        have d3 := hD3 ⟨wr, Below.refl _ _⟩
        have hm1 := HMm.out
        have k0 : Hid (∃ z : Ext wr, wr.drew = z.1) := ⟨⟨wr.drew, (Below.refl _ wr).drew⟩, rfl⟩
        cases q with
        | zero =>
          have HFin := Lib.hid (HF0.out hq ⟨wr.drew, (Below.refl _ wr).drew⟩)
          clear hR hT hk hlt hx p1 p2 p3 p4 p5 p6 q1 q2 q3 hDx hgx hgm key hf hvc hvm hvn hvs hm hKL hq hqy hby hbw hbw1 hy HF1 HF0
          go_wp2_with fail
          refine region_plan (fun z => ∃ y : Ext wr, z = y.1) 15 (.takes [0, 1, 2, 3, 4, 5, 6, 7, 8, 9, 10, 11, 12, 13, 14] .leaf) hmx (by kernel_rfl) (by intro c x v a w h; cases x <;> exact h) k0.out ?_
          repeat (rw [wpPlan_takes_cons]; simp only [nth_zero, nth_succ]; go_big_quiet_step (fail); refine wpQuiet_nil ?_)
          rw [wpPlan_takes_nil, wpPlan_leaf]
          simp only [List.drop_succ_cons, List.drop_zero]
          rw [HQY.out]
          clear hm1 y0 y1 HQY
          go_wp2_with fail
          exact ⟨next_rel (C := fun k => RPart w1 rq ss vb n (rfoot rq ss vb n sv0) (settled D g ((looseTo D n).take k)) _) HW.out HLT.out HFin.out, next_lt HW.out HLT.out⟩
        | succ r =>
          have hrm : r < m := by omega
          obtain ⟨u, hu⟩ : ∃ u, (D x).vs[r]? = some u := ⟨_, List.getElem?_eq_getElem (by rw [hm]; exact hrm)⟩
          have hok : IsBlk u := by have := (hR.ok x p1).2 u; rw [hDx] at this; exact this (List.mem_of_getElem? hu)
          obtain ⟨gv, rfl, hvg⟩ : ∃ gv, a = some ⟨gv, 0, none⟩ ∧ ∀ z : Ext wr, (loadVar 59 ⟨gv, r * 64, none⟩).run Try.prog z.1 = .ok (.agg u.toArray) z.1 := by
            cases a with
            | none => have := (hvn rfl).2; rw [this] at hu; simp at hu
            | some ad' =>
              obtain ⟨gv, rfl, h1, h2, h3⟩ := hvs ad' rfl
              exact ⟨gv, rfl, fun z => load_blk (rangeAt_same (h3 r u hu) (z.2.block gv h2)) hok.length⟩
          obtain ⟨y2, s1, s2, ⟨sv2, s3⟩, s4, s5⟩ := HF1.out r u hq hu ⟨wr.drew.drew, (Below.refl _ wr).drew.drew⟩
          have HFin := Lib.hid s5
          have HS1 := Lib.hid s1
          have k1 : Hid (∃ z : Ext wr, wr.drew.drew = z.1) := ⟨⟨wr.drew.drew, (Below.refl _ wr).drew.drew⟩, rfl⟩
          have g4 : decide ((0 : Int) < (r : Int) + 1) = true := by simp
          have g5 : (r : Int) < (m : Int) := by omega
          have hw2 : wrap64 (r : Int) = (r : Int) := IntWalk.wrap64_in _ (by omega)
          clear hR hT hk hlt hx p1 p2 p3 p4 p5 p6 q1 q2 q3 hDx hgx hgm key hf hvc hvm hvn hvs hm hKL hq hqy hby hbw hbw1 hy HF1 HF0 hrm hu hok s5
          go_wp2_with fail
          refine region_plan (fun z => ∃ y : Ext wr, z = y.1) 15 (.takes [0, 1, 2, 3, 4, 5, 6, 7, 8, 9, 10, 11, 12, 13, 14] .leaf) hmx (by kernel_rfl) (by intro c x v a w h; cases x <;> exact h) k0.out ?_
          repeat (rw [wpPlan_takes_cons]; simp only [nth_zero, nth_succ]; go_big_quiet_step (fail); refine wpQuiet_nil ?_)
          rw [wpPlan_takes_nil, wpPlan_leaf]
          simp only [List.drop_succ_cons, List.drop_zero]
          rw [HQY.out]
          clear hm1 y0 y1 HQY
          go_wp2_with fail
          refine region_plan (fun z => ∃ y : Ext wr, z = y.1) 16 (.takes [0, 1, 2, 3, 4, 5, 6, 7, 8, 9, 10, 11, 12, 13, 14, 15] .leaf) hmx (by kernel_rfl) (by intro c x v a w h; cases x <;> exact h) k1.out ?_
          repeat (rw [wpPlan_takes_cons]; simp only [nth_zero, nth_succ]; go_big_quiet_step (fail); refine wpQuiet_nil ?_)
          rw [wpPlan_takes_nil, wpPlan_leaf]
          simp only [List.drop_succ_cons, List.drop_zero]
          go_wp2_with fail
          exact ⟨next_rel (C := fun k => RPart w1 rq ss vb n (rfoot rq ss vb n sv0) (settled D g ((looseTo D n).take k)) _) HW.out HLT.out HFin.out, next_lt HW.out HLT.out⟩
      · have hq0 : g x = 0 := by rw [hgx]; unfold crashK; rw [if_neg (by rw [HL.out]; exact hKL)]
        have HFin := Lib.hid (HF0.out hq0 ⟨wr, Below.refl _ _⟩)
        have g3 : ¬ ((k : Int) < (L : Int)) := by omega
        clear hR hT hk hlt hx p1 p2 p3 p4 p5 p6 q1 q2 q3 hDx hgx hgm key hf hvc hvm hvn hvs hm hKL hq0 hC0 hC1 hC2 hF2
        go_wp2_with fail
        exact ⟨next_rel (C := fun k => RPart w1 rq ss vb n (rfoot rq ss vb n sv0) (settled D g ((looseTo D n).take k)) _) HW.out HLT.out HFin.out, next_lt HW.out HLT.out⟩
    · obtain rfl : k = M := by omega
      have HE : Hid (∃ f', Ref wr rq n f' (settled D g (looseTo D n)) ∧ Turn (rfoot rq ss vb n sv0) f' w wr) := by
        rw [List.take_of_length_le (by rw [HMl.out]; exact Nat.le_refl _)] at hR
        exact ⟨_, ⟨ss, vb, sv, hR, rfl⟩, (Turn.of_below BL.out).trans hT⟩
      clear hR hT hk hlt
      go_wp2_with fail
      go_end0
      exact ⟨rfl, HE.out⟩
end Go.Proofs.Ytfmgaakbfphpbaa

/- The document's own rig. -/
namespace Go.Proofs.Ytfmgaakbfphpbaa
open Go.RowKit
set_option linter.unusedVariables false
attribute [-simp] Try.isAgg59 Try.zeroValue59
attribute [-go_sem] loadVar storeVar
attribute [local go_sem] zero_blk build_blk loadVar_open storeVar_open

/-- The document's own disk. -/
def RefD (q n : Nat) (D : Nat → Sec) : Res := fun w f => Ref w q n f D ∧ 0 < n
theorem RefD.isRes (q n : Nat) (D : Nat → Sec) : IsRes (RefD q n D) where
  out := fun h hk => ⟨h.1.out hk, h.2⟩
  lt := fun h => h.1.lt h.2
  cells := by
    rintro w f ⟨⟨ss, vb, sv, h, rfl⟩, hn⟩ k hk ob ho
    rcases hk with rfl | rfl | rfl | ⟨i, hi, hk⟩
    · rw [h.head] at ho; cases ho; rfl
    · obtain ⟨u, hu⟩ := Option.isSome_iff_exists.1 (h.thereS 0 (by omega)).1
      obtain ⟨o, h1, h2⟩ := cells_of_cell hu
      rw [h1] at ho; cases ho; exact h2
    · obtain ⟨o, h1, h2⟩ := cells_of_cell (h.ver 0 hn)
      rw [h1] at ho; cases ho; exact h2
    · exact ownBlock_cells (h.row i hi) k ob hk ho

def RS.disks2 (q0 q1 : Nat) (S : RS) : Res := Sep (RefD q0 S.n0 S.D0) (RefD q1 S.n1 S.D1)
theorem RS.disks2_isRes (q0 q1 : Nat) (S : RS) : IsRes (S.disks2 q0 q1) := (RefD.isRes _ _ _).sep (RefD.isRes _ _ _)
/-- The document's own rig at block rq. -/
def RigQ (rq q0 q1 : Nat) (S : RS) : Res := Sep (RowR rq (S.head q0 q1) 69) (S.disks2 q0 q1)
theorem RigQ.isRes (rq q0 q1 : Nat) (S : RS) : IsRes (RigQ rq q0 q1 S) := (RowR.isRes _ _ _).sep (S.disks2_isRes q0 q1)

section
variable {rq q0 q1 : Nat} {S : RS} {w : World} {f : Nat → Prop}
theorem RigQ.d0 (h : RigQ rq q0 q1 S w f) : ∃ g, Ref w q0 S.n0 g S.D0 ∧ 0 < S.n0 := by
  obtain ⟨f1, f2, _, ⟨f3, f4, h1, h2, _⟩, _⟩ := h
  exact ⟨f3, h1⟩
theorem RigQ.d1 (h : RigQ rq q0 q1 S w f) : ∃ g, Ref w q1 S.n1 g S.D1 ∧ 0 < S.n1 := by
  obtain ⟨f1, f2, _, ⟨f3, f4, h1, h2, _⟩, _⟩ := h
  exact ⟨f4, h2⟩
theorem RigQ.beside {w' : World} (h : RigQ rq q0 q1 S w f) (hb : Below w.heap.size w w') : RigQ rq q0 q1 S w' f := (RigQ.isRes rq q0 q1 S).below h hb

set_option maxRecDepth 100000 in
set_option maxHeartbeats 1000000 in
/-- **has**. -/
theorem RigQ.has (h : RigQ rq q0 q1 S w f) (dev i : Int) :
    Calls Try.prog 48 #[.pointer (some ⟨rq, 0, none⟩), .int .i64 dev, .int .i64 i] w fun e w' => e = .returned (.bool (S.has dev i)) ∧ w' = w := by
  have c0 : w.cell? ⟨rq, 0, none⟩ = some (.pointer (some ⟨q0, 0, none⟩)) := h.cell 0
  have c1 : w.cell? ⟨rq, 1, none⟩ = some (.pointer (some ⟨q1, 0, none⟩)) := h.cell 1
  by_cases h0 : dev = 0
  · subst h0
    obtain ⟨g, hd, _⟩ := h.d0
    have H := Lib.hid (refHas q0 S.n0 g S.D0 i w hd)
    have HE : Hid (decide (0 ≤ i ∧ i < (S.n0 : Int)) = S.has 0 i) := rfl
    rw [HE.out] at H
    clear h hd
    go_enter Try.func48, Try.ntmps48
    go_wp2_with fail
    refine H.out.mono ?_
    rintro e w' ⟨rfl, rfl⟩
    go_wp2_with fail
    go_ret
    exact ⟨rfl, rfl⟩
  · by_cases h1 : dev = 1
    · subst h1
      obtain ⟨g, hd, _⟩ := h.d1
      have H := Lib.hid (refHas q1 S.n1 g S.D1 i w hd)
      have HE : Hid (decide (0 ≤ i ∧ i < (S.n1 : Int)) = S.has 1 i) := rfl
      rw [HE.out] at H
      clear h hd h0
      go_enter Try.func48, Try.ntmps48
      go_wp2_with fail
      refine H.out.mono ?_
      rintro e w' ⟨rfl, rfl⟩
      go_wp2_with fail
      go_ret
      exact ⟨rfl, rfl⟩
    · have HE : Hid (S.has dev i = false) := by
        show _ = _
        unfold RS.has RS.len
        rw [if_neg h0, if_neg h1]
        simp
      by_cases h2 : 0 ≤ dev
      · have g1 : decide (0 ≤ dev) = true := by simpa using h2
        have g2 : decide (dev ≤ 1) = false := by simp; omega
        have g3 : ¬ dev ≤ 1 := by omega
        clear h0 h1 c0 c1
        go_enter Try.func48, Try.ntmps48
        go_wp2
        go_ret
        exact ⟨by rw [HE.out]; rfl, rfl⟩
      · have g1 : decide (0 ≤ dev) = false := by simpa using h2
        clear h0 h1 c0 c1
        go_enter Try.func48, Try.ntmps48
        go_wp2
        go_ret
        exact ⟨by rw [HE.out]; rfl, rfl⟩

set_option maxRecDepth 100000 in
set_option maxHeartbeats 2000000 in
/-- **through**. -/
theorem RigQ.through (h : RigQ rq q0 q1 S w f) (hS : S.Fit) :
    Calls Try.prog 49 #[.pointer (some ⟨rq, 0, none⟩)] w fun e w' => e = .returned (.bool S.ok) ∧ ∃ f', RigQ rq q0 q1 S.after w' f' ∧ Turn f f' w w' := by
  have hR := S.disks2_isRes q0 q1
  have c2 : w.cell? ⟨rq, 2, none⟩ = some (.int .i64 S.fuse) := h.cell 2
  have c3 : w.cell? ⟨rq, 3, none⟩ = some (.bool S.down) := h.cell 3
  have c4 : w.cell? ⟨rq, 4, none⟩ = some (.int .i64 S.done) := h.cell 4
  have r2 := h.frozen 2
  have r3 := h.frozen 3
  have r4 := h.frozen 4
  have HF := Lib.hid hS.fuse
  have HD := hS.done
  have H := Lib.hid h
  obtain ⟨fu, hfu⟩ : ∃ x, S.fuse = x := ⟨_, rfl⟩
  obtain ⟨dn, hdn⟩ : ∃ x, S.done = x := ⟨_, rfl⟩
  obtain ⟨dw, hdw⟩ : ∃ x, S.down = x := ⟨_, rfl⟩
  have EF := Lib.hid hfu
  have ED := Lib.hid hdn
  have EW := Lib.hid hdw
  rw [hfu] at c2 HF
  rw [hdn] at c4 HD
  rw [hdw] at c3
  clear h hS hfu hdn hdw
  cases dw with
  | true =>
    have HE : Hid (S.ok = false) := by show _ = _; simp [RS.ok, EW.out]
    have HA : Hid (S = S.after) := by show _ = _; unfold RS.after; rw [if_neg (by rw [HE.out]; simp)]; cases S; simp at *; exact EW.out
    go_enter Try.func49, Try.ntmps49
    go_wp2
    go_ret
    rw [HE.out, ← HA.out]
    exact ⟨rfl, f, H.out, Turn.refl _ _⟩
  | false =>
    by_cases h0 : fu = 0
    · subst h0
      have HE : Hid (S.ok = false) := by show _ = _; simp [RS.ok, EF.out]
      have HA : Hid ({ S with down := true } = S.after) := by show _ = _; unfold RS.after; rw [if_neg (by rw [HE.out]; simp)]
      go_enter Try.func49, Try.ntmps49
      go_wp2
      go_ret
      obtain ⟨g1, g2⟩ := H.out.set hR 3 (.bool true)
      rw [HE.out, ← HA.out]
      exact ⟨rfl, f, g1, g2⟩
    · have q0 : (fu == 0) = false := by simpa using h0
      have HE : Hid (S.ok = true) := by show _ = _; simp [RS.ok, EW.out, EF.out, h0]
      by_cases h1 : 0 < fu
      · have HA : Hid ({ S with fuse := fu - 1, done := dn + 1 } = S.after) := by show _ = _; unfold RS.after; rw [if_pos HE.out, EF.out, ED.out, if_pos h1]
        have HF1 := HF.out h1
        have r2' : (w.setCell ⟨rq, 2, none⟩ (.int .i64 (fu - 1))).frozen? ⟨rq, 4, none⟩ = false := by rw [World.frozen?_setCell]; exact r4
        clear HF
        go_enter Try.func49, Try.ntmps49
        go_wp2
        go_ret
        obtain ⟨g1, g2⟩ := H.out.set hR 2 (.int .i64 (fu - 1))
        obtain ⟨g3, g4⟩ := g1.set hR 4 (.int .i64 (dn + 1))
        rw [HE.out, ← HA.out]
        exact ⟨rfl, f, g3, g2.trans g4⟩
      · have HA : Hid ({ S with done := dn + 1 } = S.after) := by show _ = _; unfold RS.after; rw [if_pos HE.out, EF.out, ED.out, if_neg h1]
        clear HF
        go_enter Try.func49, Try.ntmps49
        go_wp2
        go_ret
        obtain ⟨g1, g2⟩ := H.out.set hR 4 (.int .i64 (dn + 1))
        rw [HE.out, ← HA.out]
        exact ⟨rfl, f, g1, g2⟩

/-- Which disk. -/
theorem RS.has_dev {dev i : Int} (h : S.has dev i = true) : (dev = 0 ∨ dev = 1) ∧ ∃ k : Nat, i = (k : Int) ∧ k < S.len dev := RS.has_lt h
set_option maxRecDepth 100000 in
theorem RigQ.putOf (h : RigQ rq q0 q1 S w f) {dev i : Int} {b : List Value} (hi : S.has dev i = true) (hb : IsBlk b) (hm : S.Few 255) :
    Calls Try.prog 50 #[.pointer (some ⟨dsk q0 q1 dev.toNat, 0, none⟩), .int .i64 i, .agg b.toArray] w fun e w' => e = .returned (.tuple #[]) ∧ ∃ f', RigQ rq q0 q1 (S.put dev i.toNat b) w' f' ∧ Turn f f' w w' := by
  obtain ⟨hd, k, rfl, hk⟩ := RS.has_lt hi
  have hadd : ∀ s : Sec, s.vs.length ≤ 255 → (⟨s.c, s.vs ++ [b]⟩ : Sec) = s.add b := fun s hs => by unfold Sec.add; rw [if_neg (by omega)]
  rcases hd with rfl | rfl
  · have hk' : k < S.n0 := hk
    refine Sep.second (R := fun e _ => e = .returned (.tuple #[])) (RowR.isRes _ _ _) (S.disks2_isRes q0 q1) h (Q' := (S.put 0 k b).disks2 q0 q1) fun f2 h2 => ?_
    refine Sep.first (R := fun e _ => e = .returned (.tuple #[])) (RefD.isRes _ _ _) (RefD.isRes _ _ _) h2 fun f3 h3 => ?_
    refine (refWrite q0 S.n0 k f3 S.D0 b w h3.1 hk' hb (by have := hm.1 k hk'; omega)).mono ?_
    rintro e w' ⟨rfl, f', g1, g2⟩
    rw [hadd _ (hm.1 k hk')] at g1
    exact ⟨rfl, f', ⟨g1, h3.2⟩, g2⟩
  · have hk' : k < S.n1 := hk
    refine Sep.second (R := fun e _ => e = .returned (.tuple #[])) (RowR.isRes _ _ _) (S.disks2_isRes q0 q1) h (Q' := (S.put 1 k b).disks2 q0 q1) fun f2 h2 => ?_
    refine Sep.second (R := fun e _ => e = .returned (.tuple #[])) (RefD.isRes _ _ _) (RefD.isRes _ _ _) h2 fun f3 h3 => ?_
    refine (refWrite q1 S.n1 k f3 S.D1 b w h3.1 hk' hb (by have := hm.2 k hk'; omega)).mono ?_
    rintro e w' ⟨rfl, f', g1, g2⟩
    rw [hadd _ (hm.2 k hk')] at g1
    exact ⟨rfl, f', ⟨g1, h3.2⟩, g2⟩
set_option maxRecDepth 100000 in
theorem RigQ.flOf (h : RigQ rq q0 q1 S w f) {dev : Int} (hd : dev = 0 ∨ dev = 1) :
    Calls Try.prog 55 #[.pointer (some ⟨dsk q0 q1 dev.toNat, 0, none⟩)] w fun e w' => e = .returned (.tuple #[]) ∧ ∃ f', RigQ rq q0 q1 (S.fl dev) w' f' ∧ Turn f f' w w' := by
  rcases hd with rfl | rfl
  · refine Sep.second (R := fun e _ => e = .returned (.tuple #[])) (RowR.isRes _ _ _) (S.disks2_isRes q0 q1) h (Q' := (S.fl 0).disks2 q0 q1) fun f2 h2 => ?_
    refine Sep.first (R := fun e _ => e = .returned (.tuple #[])) (RefD.isRes _ _ _) (RefD.isRes _ _ _) h2 fun f3 h3 => ?_
    refine (refFlush q0 S.n0 f3 S.D0 w h3.1).mono ?_
    rintro e w' ⟨rfl, f', g1, g2⟩
    exact ⟨rfl, f', ⟨g1, h3.2⟩, g2⟩
  · refine Sep.second (R := fun e _ => e = .returned (.tuple #[])) (RowR.isRes _ _ _) (S.disks2_isRes q0 q1) h (Q' := (S.fl 1).disks2 q0 q1) fun f2 h2 => ?_
    refine Sep.second (R := fun e _ => e = .returned (.tuple #[])) (RefD.isRes _ _ _) (RefD.isRes _ _ _) h2 fun f3 h3 => ?_
    refine (refFlush q1 S.n1 f3 S.D1 w h3.1).mono ?_
    rintro e w' ⟨rfl, f', g1, g2⟩
    exact ⟨rfl, f', ⟨g1, h3.2⟩, g2⟩
set_option maxRecDepth 100000 in
theorem RigQ.readOf (h : RigQ rq q0 q1 S w f) {dev i : Int} (hi : S.has dev i = true) :
    Calls Try.prog 24 #[.pointer (some ⟨dsk q0 q1 dev.toNat, 0, none⟩), .int .i64 i] w fun e w' => e = .returned (.agg (S.look dev i.toNat).toArray) ∧ Below w.heap.size w w' := by
  obtain ⟨hd, k, rfl, hk⟩ := RS.has_lt hi
  rcases hd with rfl | rfl
  · obtain ⟨g, h1, _⟩ := h.d0; exact refRead q0 S.n0 k g S.D0 w h1 hk
  · obtain ⟨g, h1, _⟩ := h.d1; exact refRead q1 S.n1 k g S.D1 w h1 hk
theorem RigQ.okLook (h : RigQ rq q0 q1 S w f) {dev i : Int} (hi : S.has dev i = true) : IsBlk (S.look dev i.toNat) := by
  obtain ⟨hd, k, rfl, hk⟩ := RS.has_lt hi
  rcases hd with rfl | rfl
  · obtain ⟨g, ⟨ss, vb, sv, h1, rfl⟩, _⟩ := h.d0; exact (h1.ok k hk).look
  · obtain ⟨g, ⟨ss, vb, sv, h1, rfl⟩, _⟩ := h.d1; exact (h1.ok k hk).look
end
end Go.Proofs.Ytfmgaakbfphpbaa

