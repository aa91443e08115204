/- The check of bytes, as the package fnv and the document reckon it. -/
import Derived.Test.YtnngebnnehokdaaValues
import Derived.Test.YtnngebnnehokdaaBytes
import Derived.Test.YtnngebnnehokdaaFnvMath
import Derived.LoopTactic
namespace Go.Proofs.Ytnngebnnehokdaa
open Go.RowKit Go.Shelf
set_option linter.unusedVariables false

attribute [local go_sem] Oper.semAt_some

theorem prefix_byte {pre bs : List Int} {x : Int} (hr : IsBytes bs) (h : pre ++ [x] <+: bs) : 0 ≤ x ∧ x < 256 := by
  obtain ⟨t, rfl⟩ := h
  simpa using hr pre.length

set_option maxRecDepth 100000 in
set_option maxHeartbeats 2000000 in
theorem more_at (h : Int) (hh : IsU64 h) (a : Option Addr) (len cap : Nat) (bs : List Int) (hlen : bs.length = len) (hmax : len ≤ maxLen) (hr : IsBytes bs) (w : World)
    (hA : len = 0 ∨ ∃ b off, a = some ⟨b, off, none⟩ ∧ b < w.heap.size ∧ ∀ j, j < len → w.cell? ⟨b, off + j, none⟩ = some (.int .u8 (bs[j]?.getD 0))) :
    Calls Try.prog 30 #[.int .u64 h, .slice a len cap] w fun e w' => e = .returned (.int .u64 (fnvMore h bs)) ∧ Below w.heap.size w w' := by
  refine (callsIn_wide (n := 3)).1 ?_
  refine callsIn_of_wp_marks Try.func30 rfl trivial ?_ rfl
  simp only [Try.ntmps30, List.size_toArray, List.length_cons, List.length_nil, Nat.reduceAdd, Nat.reduceSub, Array.replicate_succ, Array.replicate_zero, List.push_toArray, List.append_toArray, List.nil_append, List.cons_append]
  have HA := Lib.hid hA
  have HM := Lib.hid hmax
  have HR := Lib.hid hr
  have HH := Lib.hid hh
  have HL := Lib.hid hlen
  clear hA hmax hr hh hlen
  gi_wp2_with (refine ⟨trivial, ?_⟩; gi_at_call 37; refine (values_in _ _ trivial rfl _ _ _ _).mono ?_; rintro e w' ⟨rfl, rfl⟩)
  have bH := Boxed.new w 55 (.int .u64 h)
  have bV := Boxed.new (w.alloc (.cells #[.int .u64 h] 55)) 41 (.slice a len cap)
  rw [World.size_alloc] at bV
  have hB0 : Below w.heap.size w ((w.alloc (.cells #[.int .u64 h] 55)).alloc (.cells #[.slice a len cap] 41)) := ((Below.refl _ w).alloc (Nat.le_refl _) _).alloc (by simp) _
  refine wpIn_rangeFunc_ownF (n := 3) rfl (by omega) (gf := 40) (lb := #[.pointer (some ⟨w.heap.size + 1, 0, none⟩)]) rfl trivial (enters_of Try.func40 (by kernel_rfl) rfl)
    (values_stops Fence.wide 2 trivial rfl (by omega) (w.heap.size + 1) w.heap.size len cap a bs HL.out HM.out _ (by simp) (by simp; omega) bV.cell
      (HA.out.imp id fun ⟨b, off, e, h1, h2⟩ => ⟨b, off, e, h1, fun j hj => (hB0.cell (p := ⟨b, off + j, none⟩) h1).trans (h2 j hj)⟩)) belowK_t (belowK_b (by simp; omega)) (Below.refl _ _) (fun _ => rfl)
    (fun pre W => (∃ v : Int, Boxed W w.heap.size 55 (.int .u64 v) ∧ IsU64 v ∧ (pre <+: bs → v = fnvMore h pre)) ∧ Below w.heap.size w W)
    (fun _ _ _ => False)
    ?hI (fun _ _ _ _ _ h _ _ => h.elim) ?h0 ?a1 ?assign ?body ?done ?stop
  case hI =>
    intro s W W' row ⟨⟨v, hv, h1, h2⟩, hB⟩ hg hrow
    have hr' : ∀ r, row = some r → ∃ o : Obj, W.heap[r]? = some o ∧ o.isCells = false := fun r e => (hrow r e).2
    exact ⟨⟨v, boxed_own _ _ (fun _ : Unit => _) () W W' row hv hg hr', h1, h2⟩, ownFrom_below (β := Unit) (Nat.le_refl _) (by simp; omega) () W W' row hB hg hrow⟩
  case h0 => exact ⟨⟨h, bH.alloc _, HH.out, fun _ => rfl⟩, hB0⟩
  case assign =>
    intro l x W K hK
    gi_wp2
    exact hK
  case body =>
    rintro l pre x W ⟨⟨v, hv, hv0, hvp⟩, hB⟩ hlen
    have c1 := hv.cell
    have f1 := hv.frozen
    have HP := Lib.hid hvp
    have HV := Lib.hid hv0
    clear hvp hv0
    gi_wp2
    refine ⟨(KeepsOthers.setCell _ _ _).trans (KeepsOthers.setCell _ _ _), ((Below.refl w.heap.size W).setCell (p := ⟨w.heap.size, 0, none⟩) (Nat.le_refl _) _).setCell (p := ⟨w.heap.size, 0, none⟩) (Nat.le_refl _) _, ⟨_, (hv.set _).set _, isU64_wrap _, fun hp => ?_⟩, (hB.setCell (p := ⟨w.heap.size, 0, none⟩) (Nat.le_refl _) _).setCell (p := ⟨w.heap.size, 0, none⟩) (Nat.le_refl _) _⟩
    obtain ⟨r1, r2⟩ := prefix_byte HR.out hp
    rw [HP.out ((List.prefix_append _ _).trans hp), fnvMore_snoc, wrap_u64_in x r1 (by omega)]
    rfl
  case done =>
    rintro D xs W hD rfl ⟨⟨v, hv, _, hvp⟩, hB⟩ hK
    have c1 := hv.cell
    have e := hvp (List.prefix_refl _)
    have He := Lib.hid e
    clear e hvp
    gi_wp2
    refine ⟨by simp, .inl ⟨_, _, rfl, run_takeDeferred hK, ?_⟩⟩
    refine ⟨_, results_tmp rfl _ _ _, ?_, hB.trans (belowK_b (w := w) (Nat.le_refl _) W D _ _ (by simp at hD; omega) hK rfl rfl)⟩
    rw [He.out]; rfl
  case stop =>
    rintro D c pre W _ _ h _
    exact h.elim

/-- **More**: from any check on. -/
theorem more_any (h : Int) (v : Value) (bs : List Int) (w : World) (hh : IsU64 h) (hv : Sl .u8 w v bs) (hr : IsBytes bs) :
    Calls Try.prog 30 #[.int .u64 h, v] w fun e w' => e = .returned (.int .u64 (fnvMore h bs)) ∧ Below w.heap.size w w' := by
  obtain ⟨a, cap, rfl, hl, h2⟩ := Lies.of_sl hv
  exact more_at h hh a _ cap bs rfl h2 hr w hl

set_option maxRecDepth 100000 in
set_option maxHeartbeats 1000000 in
/-- **Check**: of any bytes. -/
theorem check_any (v : Value) (bs : List Int) (w : World) (hv : Sl .u8 w v bs) (hr : IsBytes bs) :
    Calls Try.prog 22 #[v] w fun e w' => e = .returned (.int .u64 (fnvMore fnvInit bs)) ∧ Below w.heap.size w w' := by
  have HM := Lib.hid (more_any fnvInit v bs w isU64_init hv hr)
  clear hv hr
  unfold fnvInit at *
  go_enter Try.func22, Try.ntmps22
  go_wp2_with fail
  refine HM.out.mono ?_
  rintro e w1 ⟨rfl, hB⟩
  have HB := Lib.hid hB
  clear hB
  go_wp2_with fail
  go_ret
  exact ⟨rfl, HB.out⟩

set_option maxRecDepth 100000 in
set_option maxHeartbeats 2000000 in
theorem refMore_at (h : Int) (hh : IsU64 h) (a : Option Addr) (len cap : Nat) (bs : List Int) (hlen : bs.length = len) (hmax : len ≤ 9223372036854775807) (hr : IsBytes bs) (w : World) (hA : Lies w a len bs) :
    Calls Try.prog 31 #[.int .u64 h, .slice a len cap] w fun e w' => e = .returned (.int .u64 (fnvMore h bs)) ∧ w' = w := by
  have HL := Lib.hid hlen
  have HA := Lib.hid hA
  have HR := Lib.hid hr
  clear hlen hA hr hh
  go_enter Try.func31, Try.ntmps31
  go_wp2
  go_loop [0, 5] (fun v i => ∃ k : Nat, k ≤ len ∧ i = .int .i64 k ∧ v = .int .u64 (fnvMore h (bs.take k))) (fun _ i => len - (intOf i).toNat)
  case atStart => exact ⟨0, Nat.zero_le _, rfl, rfl⟩
  case round =>
    obtain ⟨k, hk, rfl, rfl⟩ := hrel
    obtain ⟨v, hv⟩ : ∃ v, fnvMore h (bs.take k) = v := ⟨_, rfl⟩
    rw [hv]
    by_cases hlt : k < len
    · obtain ⟨b, off, rfl, hb, hc⟩ : ∃ b off, a = some ⟨b, off, none⟩ ∧ b < w.heap.size ∧ ∀ j, j < len → w.cell? ⟨b, off + j, none⟩ = some (.int .u8 (bs[j]?.getD 0)) := by
        rcases HA.out with h | h
        · omega
        · exact h
      have c3 := hc k hlt
      obtain ⟨r1, r2⟩ := HR.out k
      have HS : Hid (fnvStep v (bs[k]?.getD 0) = fnvMore h (bs.take (k + 1))) := by
        show _ = _
        rw [take_snoc_getD bs (by rw [HL.out]; exact hlt), fnvMore_snoc, hv]
      obtain ⟨y, hy⟩ : ∃ y, bs[k]?.getD 0 = y := ⟨_, rfl⟩
      rw [hy] at c3 r1 r2 HS
      clear hc hy hv
      go_wp2
      go_round
      case rel =>
        refine ⟨k + 1, by omega, by go_num, ?_⟩
        rw [← HS.out]; rfl
      case measure => simp [intOf]; omega
    · obtain rfl : k = len := by omega
      have HV := Lib.hid hv
      clear hv
      go_wp2
      go_ret
      refine ⟨?_, rfl⟩
      rw [← HV.out, ← HL.out, List.take_length]; rfl

theorem refMore_any (h : Int) (v : Value) (bs : List Int) (w : World) (hh : IsU64 h) (hv : Sl .u8 w v bs) (hr : IsBytes bs) :
    Calls Try.prog 31 #[.int .u64 h, v] w fun e w' => e = .returned (.int .u64 (fnvMore h bs)) ∧ w' = w := by
  obtain ⟨a, cap, rfl, hl, h2⟩ := Lies.of_sl hv
  unfold maxLen at h2
  exact refMore_at h hh a _ cap bs rfl (by omega) hr w hl

set_option maxRecDepth 100000 in
set_option maxHeartbeats 1000000 in
theorem refCheck_any (v : Value) (bs : List Int) (w : World) (hv : Sl .u8 w v bs) (hr : IsBytes bs) :
    Calls Try.prog 24 #[v] w fun e w' => e = .returned (.int .u64 (fnvMore fnvInit bs)) ∧ w' = w := by
  have HM := Lib.hid (refMore_any fnvInit v bs w isU64_init hv hr)
  clear hv hr
  unfold fnvInit at *
  go_enter Try.func24, Try.ntmps24
  go_wp2_with fail
  refine HM.out.mono ?_
  rintro e w' ⟨rfl, rfl⟩
  go_wp2_with fail
  go_ret
  exact ⟨rfl, rfl⟩
end Go.Proofs.Ytnngebnnehokdaa
