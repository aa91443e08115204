/- The ground of the proofs, part 2. -/
import Derived.Test.YtlnljanhnodhkaaK1
import Derived.LoopTactic
import Derived.RangeFuncCalls
import Derived.RangeFuncWrites
import Derived.Deep.Upon
import Derived.Maps.AppendAt
import Derived.Lib.Bytes
/- The check of bytes, as the package fnv and the document reckon it. -/
namespace Go.Proofs.Ytlnljanhnodhkaa
open Go.RowKit Go.Shelf
set_option linter.unusedVariables false

attribute [local go_sem] Oper.semAt_some

theorem prefix_byte {pre bs : List Int} {x : Int} (hr : IsBytes bs) (h : pre ++ [x] <+: bs) : 0 ≤ x ∧ x < 256 := by
  obtain ⟨t, rfl⟩ := h
  simpa using hr pre.length

set_option maxRecDepth 100000 in
set_option maxHeartbeats 2000000 in
theorem more_at (h : Int) (hh : IsU64 h) (a : Option Addr) (len cap : Nat) (bs : List Int) (hlen : bs.length = len) (hmax : len ≤ maxLen) (hr : IsBytes bs) (w : World)
    (hA : len = 0 ∨ ∃ b off, a = some ⟨b, off, none⟩ ∧ b < w.heap.size ∧ ∀ j, j < len → w.cell? ⟨b, off + j, none⟩ = some (.int .u8 (bs[j]?.getD 0))) :
    Calls Try.prog 36 #[.int .u64 h, .slice a len cap] w fun e w' => e = .returned (.int .u64 (fnvMore h bs)) ∧ Below w.heap.size w w' := by
  refine (callsIn_wide (n := 3)).1 ?_
  refine callsIn_of_wp_marks Try.func36 rfl trivial ?_ rfl
  simp only [Try.ntmps36, List.size_toArray, List.length_cons, List.length_nil, Nat.reduceAdd, Nat.reduceSub, Array.replicate_succ, Array.replicate_zero, List.push_toArray, List.append_toArray, List.nil_append, List.cons_append]
  have HA := Lib.hid hA
  have HM := Lib.hid hmax
  have HR := Lib.hid hr
  have HH := Lib.hid hh
  have HL := Lib.hid hlen
  clear hA hmax hr hh hlen
  gi_wp2_with (refine ⟨trivial, ?_⟩; gi_at_call 42; refine (values_in _ _ trivial rfl _ _ _ _).mono ?_; rintro e w' ⟨rfl, rfl⟩)
  have bH := Boxed.new w 53 (.int .u64 h)
  have bV := Boxed.new (w.alloc (.cells #[.int .u64 h] 53)) 25 (.slice a len cap)
  rw [World.size_alloc] at bV
  have hB0 : Below w.heap.size w ((w.alloc (.cells #[.int .u64 h] 53)).alloc (.cells #[.slice a len cap] 25)) := ((Below.refl _ w).alloc (Nat.le_refl _) _).alloc (by simp) _
  refine wpIn_rangeFunc_ownF (n := 3) rfl (by omega) (gf := 44) (lb := #[.pointer (some ⟨w.heap.size + 1, 0, none⟩)]) rfl trivial (enters_of Try.func44 (by kernel_rfl) rfl)
    (values_stops Fence.wide 2 trivial rfl (by omega) (w.heap.size + 1) w.heap.size len cap a bs HL.out HM.out _ (by simp) (by simp; omega) bV.cell
      (HA.out.imp id fun ⟨b, off, e, h1, h2⟩ => ⟨b, off, e, h1, fun j hj => (hB0.cell (p := ⟨b, off + j, none⟩) h1).trans (h2 j hj)⟩)) belowK_t (belowK_b (by simp; omega)) (Below.refl _ _) (fun _ => rfl)
    (fun pre W => (∃ v : Int, Boxed W w.heap.size 53 (.int .u64 v) ∧ IsU64 v ∧ (pre <+: bs → v = fnvMore h pre)) ∧ Below w.heap.size w W)
    (fun _ _ _ => False)
    ?hI (fun _ _ _ _ _ h _ _ => h.elim) ?h0 ?a1 ?assign ?body ?done ?stop
  case hI =>
    intro s W W' row ⟨⟨v, hv, h1, h2⟩, hB⟩ hg hrow
    have hr' : ∀ r, row = some r → ∃ o : Obj, W.heap[r]? = some o ∧ o.isCells = false := fun r e => (hrow r e).2
    exact ⟨⟨v, boxed_own _ _ (fun _ : Unit => _) () W W' row hv hg hr', h1, h2⟩, ownFrom_below (β := Unit) (Nat.le_refl _) (by simp; omega) () W W' row hB hg hrow⟩
  case h0 => exact ⟨⟨h, bH.alloc _, HH.out, fun _ => rfl⟩, hB0⟩
  case assign =>
    intro l x W K hK
    gi_wp2
    exact hK
  case body =>
    rintro l pre x W ⟨⟨v, hv, hv0, hvp⟩, hB⟩ hlen
    have c1 := hv.cell
    have f1 := hv.frozen
    have HP := Lib.hid hvp
    have HV := Lib.hid hv0
    clear hvp hv0
    gi_wp2
    refine ⟨(KeepsOthers.setCell _ _ _).trans (KeepsOthers.setCell _ _ _), ((Below.refl w.heap.size W).setCell (p := ⟨w.heap.size, 0, none⟩) (Nat.le_refl _) _).setCell (p := ⟨w.heap.size, 0, none⟩) (Nat.le_refl _) _, ⟨_, (hv.set _).set _, isU64_wrap _, fun hp => ?_⟩, (hB.setCell (p := ⟨w.heap.size, 0, none⟩) (Nat.le_refl _) _).setCell (p := ⟨w.heap.size, 0, none⟩) (Nat.le_refl _) _⟩
    obtain ⟨r1, r2⟩ := prefix_byte HR.out hp
    rw [HP.out ((List.prefix_append _ _).trans hp), fnvMore_snoc, wrap_u64_in x r1 (by omega)]
    rfl
  case done =>
    rintro D xs W hD rfl ⟨⟨v, hv, _, hvp⟩, hB⟩ hK
    have c1 := hv.cell
    have e := hvp (List.prefix_refl _)
    have He := Lib.hid e
    clear e hvp
    gi_wp2
    refine ⟨by simp, .inl ⟨_, _, rfl, run_takeDeferred hK, ?_⟩⟩
    refine ⟨_, results_tmp rfl _ _ _, ?_, hB.trans (belowK_b (w := w) (Nat.le_refl _) W D _ _ (by simp at hD; omega) hK rfl rfl)⟩
    rw [He.out]; rfl
  case stop =>
    rintro D c pre W _ _ h _
    exact h.elim

set_option maxRecDepth 100000 in
/-- **More**: from any check on. -/
theorem more_any (h : Int) (v : Value) (bs : List Int) (w : World) (hh : IsU64 h) (hv : Sl .u8 w v bs) (hr : IsBytes bs) :
    Calls Try.prog 36 #[.int .u64 h, v] w fun e w' => e = .returned (.int .u64 (fnvMore h bs)) ∧ Below w.heap.size w w' := by
  obtain ⟨a, cap, rfl, hl, h2⟩ := Lies.of_sl hv
  exact more_at h hh a _ cap bs rfl h2 hr w hl

set_option maxRecDepth 100000 in
set_option maxHeartbeats 1000000 in
/-- **Check**: of any bytes. -/
theorem check_any (v : Value) (bs : List Int) (w : World) (hv : Sl .u8 w v bs) (hr : IsBytes bs) :
    Calls Try.prog 24 #[v] w fun e w' => e = .returned (.int .u64 (fnvMore fnvInit bs)) ∧ Below w.heap.size w w' := by
  have HM := Lib.hid (more_any fnvInit v bs w isU64_init hv hr)
  clear hv hr
  unfold fnvInit at *
  go_enter Try.func24, Try.ntmps24
  go_wp2_with fail
  refine HM.out.mono ?_
  rintro e w1 ⟨rfl, hB⟩
  have HB := Lib.hid hB
  clear hB
  go_wp2_with fail
  go_ret
  exact ⟨rfl, HB.out⟩

set_option maxRecDepth 100000 in
set_option maxHeartbeats 2000000 in
theorem refMore_at (h : Int) (hh : IsU64 h) (a : Option Addr) (len cap : Nat) (bs : List Int) (hlen : bs.length = len) (hmax : len ≤ 9223372036854775807) (hr : IsBytes bs) (w : World) (hA : Lies w a len bs) :
    Calls Try.prog 38 #[.int .u64 h, .slice a len cap] w fun e w' => e = .returned (.int .u64 (fnvMore h bs)) ∧ w' = w := by
  have HL := Lib.hid hlen
  have HA := Lib.hid hA
  have HR := Lib.hid hr
  clear hlen hA hr hh
  go_enter Try.func38, Try.ntmps38
  go_wp2
  go_loop [0, 5] (fun v i => ∃ k : Nat, k ≤ len ∧ i = .int .i64 k ∧ v = .int .u64 (fnvMore h (bs.take k))) (fun _ i => len - (intOf i).toNat)
  case atStart => exact ⟨0, Nat.zero_le _, rfl, rfl⟩
  case round =>
    obtain ⟨k, hk, rfl, rfl⟩ := hrel
    obtain ⟨v, hv⟩ : ∃ v, fnvMore h (bs.take k) = v := ⟨_, rfl⟩
    rw [hv]
    by_cases hlt : k < len
    · obtain ⟨b, off, rfl, hb, hc⟩ : ∃ b off, a = some ⟨b, off, none⟩ ∧ b < w.heap.size ∧ ∀ j, j < len → w.cell? ⟨b, off + j, none⟩ = some (.int .u8 (bs[j]?.getD 0)) := by
        rcases HA.out with h | h
        · omega
        · exact h
      have c3 := hc k hlt
      obtain ⟨r1, r2⟩ := HR.out k
      have HS : Hid (fnvStep v (bs[k]?.getD 0) = fnvMore h (bs.take (k + 1))) := by
        show _ = _
        rw [take_snoc_getD bs (by rw [HL.out]; exact hlt), fnvMore_snoc, hv]
      obtain ⟨y, hy⟩ : ∃ y, bs[k]?.getD 0 = y := ⟨_, rfl⟩
      rw [hy] at c3 r1 r2 HS
      clear hc hy hv
      go_wp2
      go_round
      case rel =>
        refine ⟨k + 1, by omega, by go_num, ?_⟩
        rw [← HS.out]; rfl
      case measure => simp [intOf]; omega
    · obtain rfl : k = len := by omega
      have HV := Lib.hid hv
      clear hv
      go_wp2
      go_ret
      refine ⟨?_, rfl⟩
      rw [← HV.out, ← HL.out, List.take_length]; rfl

set_option maxRecDepth 100000 in
theorem refMore_any (h : Int) (v : Value) (bs : List Int) (w : World) (hh : IsU64 h) (hv : Sl .u8 w v bs) (hr : IsBytes bs) :
    Calls Try.prog 38 #[.int .u64 h, v] w fun e w' => e = .returned (.int .u64 (fnvMore h bs)) ∧ w' = w := by
  obtain ⟨a, cap, rfl, hl, h2⟩ := Lies.of_sl hv
  unfold maxLen at h2
  exact refMore_at h hh a _ cap bs rfl (by omega) hr w hl

set_option maxRecDepth 100000 in
set_option maxHeartbeats 1000000 in
theorem refCheck_any (v : Value) (bs : List Int) (w : World) (hv : Sl .u8 w v bs) (hr : IsBytes bs) :
    Calls Try.prog 28 #[v] w fun e w' => e = .returned (.int .u64 (fnvMore fnvInit bs)) ∧ w' = w := by
  have HM := Lib.hid (refMore_any fnvInit v bs w isU64_init hv hr)
  clear hv hr
  unfold fnvInit at *
  go_enter Try.func28, Try.ntmps28
  go_wp2_with fail
  refine HM.out.mono ?_
  rintro e w' ⟨rfl, rfl⟩
  go_wp2_with fail
  go_ret
  exact ⟨rfl, rfl⟩
end Go.Proofs.Ytlnljanhnodhkaa

/- The developers' stream: checked, record, head. -/
namespace Go.Proofs.Ytlnljanhnodhkaa
open Go.RowKit Go.Shelf
set_option linter.unusedVariables false
set_option linter.unusedSimpArgs false
attribute [-simp] Try.isAgg39 Try.zeroValue39 Try.isAgg24 Try.zeroValue24
attribute [-go_sem] loadVar storeVar
attribute [local go_sem] loadVar_openRS storeVar_openRS zero_rc zero_sm

theorem own_weakS {W x : World} {v : Value} {bs : List Int} {N : Nat} (h : x.ownsRow N 5 1 v bs.length (u8s bs)) (hN : W.heap.size ≤ N) : OwnB W x v bs := by
  refine ⟨h.1, ?_⟩
  rcases h.2 with h' | ⟨g, cap, cur, e, h1, h2⟩
  · exact .inl h'
  · exact .inr ⟨g, cap, cur, e, Nat.le_trans hN h1, h2⟩
set_option maxRecDepth 100000 in
theorem slice_magic (w : World) : (Instr.buildSlice 25 4 #[(0, .int .u8 82), (1, .int .u8 86), (2, .int .u8 83), (3, .int .u8 49)]).run Try.prog w = .ok (.slice (some ⟨w.heap.size, 0, none⟩) 4 4) (w.alloc (.cells #[.int .u8 82, .int .u8 86, .int .u8 83, .int .u8 49] 5)) := by kernel_rfl
theorem own_magic (W x : World) (hb : W.heap.size ≤ x.heap.size) : OwnB W (x.alloc (.cells #[.int .u8 82, .int .u8 86, .int .u8 83, .int .u8 49] 5)) (.slice (some ⟨x.heap.size, 0, none⟩) 4 4) [82, 86, 83, 49] :=
  World.ownsRow_lit (base := W.heap.size) x #[.int .u8 82, .int .u8 86, .int .u8 83, .int .u8 49] 4 hb (by simp [maxLen]) rfl
set_option maxRecDepth 100000 in
theorem slice_mark (w : World) (y : Int) : (Instr.buildSlice 25 1 #[(0, .int .u8 y)]).run Try.prog w = .ok (.slice (some ⟨w.heap.size, 0, none⟩) 1 1) (w.alloc (.cells #[.int .u8 y] 5)) := by kernel_rfl
set_option maxRecDepth 100000 in
theorem bss2 (w : World) (a b : Option Addr) (la lb ca cb : Nat) : (Instr.buildSlice 65 2 #[(0, .slice a la ca), (1, .slice b lb cb)]).run Try.prog w = .ok (.slice (some ⟨w.heap.size, 0, none⟩) 2 2) (w.alloc (.cells #[.slice a la ca, .slice b lb cb] 25)) := by kernel_rfl
set_option maxRecDepth 100000 in
theorem bss4 (w : World) (a b c d : Option Addr) (la lb lc ld ca cb cc cd : Nat) : (Instr.buildSlice 65 4 #[(0, .slice a la ca), (1, .slice b lb cb), (2, .slice c lc cc), (3, .slice d ld cd)]).run Try.prog w = .ok (.slice (some ⟨w.heap.size, 0, none⟩) 4 4) (w.alloc (.cells #[.slice a la ca, .slice b lb cb, .slice c lc cc, .slice d ld cd] 25)) := by kernel_rfl
set_option maxRecDepth 100000 in
theorem bss5 (w : World) (a b c d e : Option Addr) (la lb lc ld le ca cb cc cd ce : Nat) : (Instr.buildSlice 65 5 #[(0, .slice a la ca), (1, .slice b lb cb), (2, .slice c lc cc), (3, .slice d ld cd), (4, .slice e le ce)]).run Try.prog w = .ok (.slice (some ⟨w.heap.size, 0, none⟩) 5 5) (w.alloc (.cells #[.slice a la ca, .slice b lb cb, .slice c lc cc, .slice d ld cd, .slice e le ce] 25)) := by kernel_rfl
/-- A row of slices, new. -/
theorem sls_new {x : World} {vs : List Value} {bss : List (List Int)} (hl : vs.length = bss.length) (hm : vs.length ≤ 1000) (h : ∀ (k : Nat) (v : Value) (bs : List Int), vs[k]? = some v → bss[k]? = some bs → Sl .u8 x v bs) :
    Sls (x.alloc (.cells vs.toArray 25)) (.slice (some ⟨x.heap.size, 0, none⟩) vs.length vs.length) bss := by
  have r4 := RowC.new x 25 vs
  have b := below_new x (.cells vs.toArray 25)
  refine ⟨x.heap.size, vs.length, by rw [hl], by omega, by unfold maxLen; omega, by simp, fun k hk => ?_⟩
  have e1 := List.getElem?_eq_getElem (l := vs) (i := k) (by omega)
  have e2 := List.getElem?_eq_getElem (l := bss) (i := k) hk
  refine ⟨_, r4.cell k _ e1, ?_⟩
  rw [e2]
  exact (h k _ _ e1 e2).below b
theorem sls2 {x : World} {a b : Value} {p q : List Int} (h1 : Sl .u8 x a p) (h2 : Sl .u8 x b q) : Sls (x.alloc (.cells #[a, b] 25)) (.slice (some ⟨x.heap.size, 0, none⟩) 2 2) [p, q] :=
  sls_new (vs := [a, b]) rfl (by simp) fun k v bs e1 e2 => by
    match k with
    | 0 => cases e1; cases e2; exact h1
    | 1 => cases e1; cases e2; exact h2
    | k + 2 => cases e1
theorem sls3 {x : World} {a b c : Value} {p q r : List Int} (h1 : Sl .u8 x a p) (h2 : Sl .u8 x b q) (h3 : Sl .u8 x c r) : Sls (x.alloc (.cells #[a, b, c] 25)) (.slice (some ⟨x.heap.size, 0, none⟩) 3 3) [p, q, r] :=
  sls_new (vs := [a, b, c]) rfl (by simp) fun k v bs e1 e2 => by
    match k with
    | 0 => cases e1; cases e2; exact h1
    | 1 => cases e1; cases e2; exact h2
    | 2 => cases e1; cases e2; exact h3
    | k + 3 => cases e1
theorem slsD {x : World} {a b c d : Value} {p q r s : List Int} (h1 : Sl .u8 x a p) (h2 : Sl .u8 x b q) (h3 : Sl .u8 x c r) (h4 : Sl .u8 x d s) : Sls (x.alloc (.cells #[a, b, c, d] 25)) (.slice (some ⟨x.heap.size, 0, none⟩) 4 4) [p, q, r, s] :=
  sls_new (vs := [a, b, c, d]) rfl (by simp) fun k v bs e1 e2 => by
    match k with
    | 0 => cases e1; cases e2; exact h1
    | 1 => cases e1; cases e2; exact h2
    | 2 => cases e1; cases e2; exact h3
    | 3 => cases e1; cases e2; exact h4
    | k + 4 => cases e1
theorem sls5 {x : World} {a b c d f : Value} {p q r s t : List Int} (h1 : Sl .u8 x a p) (h2 : Sl .u8 x b q) (h3 : Sl .u8 x c r) (h4 : Sl .u8 x d s) (h5 : Sl .u8 x f t) : Sls (x.alloc (.cells #[a, b, c, d, f] 25)) (.slice (some ⟨x.heap.size, 0, none⟩) 5 5) [p, q, r, s, t] :=
  sls_new (vs := [a, b, c, d, f]) rfl (by simp) fun k v bs e1 e2 => by
    match k with
    | 0 => cases e1; cases e2; exact h1
    | 1 => cases e1; cases e2; exact h2
    | 2 => cases e1; cases e2; exact h3
    | 3 => cases e1; cases e2; exact h4
    | 4 => cases e1; cases e2; exact h5
    | k + 5 => cases e1
set_option maxRecDepth 100000 in
/-- **Concat** of a row of slices. -/
theorem concat_own {W x : World} {v : Value} {bss : List (List Int)} {bs : List Int} (hv : Sls x v bss) (e : bss.flatten = bs) (hl : bs.length ≤ 1000000) (hW : W.heap.size ≤ x.heap.size) :
    Calls Try.prog 25 #[v] x fun e w' => ∃ v, e = .returned v ∧ OwnB W w' v bs ∧ Below x.heap.size x w' := by
  subst e
  exact (concat_any v bss x hv hl).mono fun e w' ⟨v, h1, h2, h3⟩ => ⟨v, h1, own_weakS h2 hW, h3⟩

set_option maxRecDepth 100000 in
set_option maxHeartbeats 4000000 in
/-- **checked**. -/
theorem sm_checked {w : World} {v : Value} {bs : List Int} (hv : Sl .u8 w v bs) (hr : IsBytes bs) (hl : bs.length ≤ 900000) :
    Calls Try.prog 19 #[v] w fun e w' => ∃ u, e = .returned u ∧ OwnB w w' u (sld bs) ∧ Below w.heap.size w w' := by
  have HV := Lib.hid hv
  obtain ⟨a, c, rfl, -⟩ := (show Sl _ _ _ _ from hv)
  have HC := Lib.hid (check_any _ bs w hv hr)
  obtain ⟨K, hK⟩ : ∃ K, fnvMore fnvInit bs = K := ⟨_, rfl⟩
  have hu : IsU64 (fnvMore fnvInit bs) := isU64_more bs isU64_init
  rw [hK] at HC hu
  have hk0 : 0 ≤ K := hu.1
  have hk1 : K < 18446744073709551616 := hu.2
  have HP : Hid (∀ x : World, Calls Try.prog 23 #[.int .u64 K, .int .i64 8] x fun e w' => ∃ a c, e = .returned (.slice a 8 c) ∧ Sl .u8 w' (.slice a 8 c) (putL K 8) ∧ Below x.heap.size x w') := fun x => put_sl (x := x) K 8 (by omega) (by omega) hk0 hk1
  have HE : Hid ([bs, putL K 8].flatten = sld bs) := by show _ = _; simp [sld, hK]
  have HLn : Hid ((sld bs).length ≤ 1000000) := by show _ ≤ _; rw [sld_length]; omega
  clear hu hk0 hk1 hr hv hl hK
  go_enter Try.func19, Try.ntmps19
  go_wp2_with fail
  refine HC.out.mono ?_
  rintro e x ⟨rfl, hx⟩
  have HX := Lib.hid hx
  clear hx
  go_wp2_with fail
  refine (HP.out x).mono ?_
  rintro e y ⟨a1, c1, rfl, hs, hb⟩
  have HY : Hid (Below w.heap.size w y) := HX.out.trans (hb.mono HX.out.size)
  have HS := Lib.hid hs
  clear hs hb
  have BS := bss2 y a a1 bs.length 8 c c1
  have SS := Lib.hid (sls2 (HV.out.below HY.out) HS.out)
  obtain ⟨z, hz⟩ : ∃ z, y.alloc (.cells #[.slice a bs.length c, .slice a1 8 c1] 25) = z := ⟨_, rfl⟩
  have HZ : Hid (Below w.heap.size w z) := by show Below _ _ _; rw [← hz]; exact HY.out.trans ((below_new y _).mono HY.out.size)
  rw [hz] at BS SS
  clear hz
  go_wp2_with ((with_reducible refine gate_build ?_); refine wpList_build_run _ _ _ rfl rfl _ _ rfl BS ?_)
  go_at_call 25
  refine (concat_own (W := w) SS.out HE.out HLn.out HZ.out.size).mono ?_
  rintro e u ⟨v, rfl, ho, hb⟩
  have HO := Lib.hid ho
  have HU : Hid (Below w.heap.size w u) := HZ.out.trans (hb.mono HZ.out.size)
  clear ho hb BS
  go_wp2_with fail
  go_ret
  exact ⟨_, rfl, HO.out, HU.out⟩

set_option maxRecDepth 100000 in
set_option maxHeartbeats 8000000 in
/-- **record**. -/
theorem sm_record {x : RC} {d : SlV} {w : World} (hf : 0 ≤ x.fr ∧ x.fr ≤ 1000) (hc : 0 ≤ x.ct ∧ x.ct ≤ 1000) (hd : Sl .u8 w (slV d) x.da) (hl : x.da.length ≤ 800000) :
    Calls Try.prog 22 #[rvV (x.fr, x.ct, x.ze, d)] w fun e w' => ∃ u, e = .returned u ∧ OwnB w w' u (rcB x) ∧ Below w.heap.size w w' := by
  have hmx : Try.prog.follows .mixedOrders = true := by kernel_rfl
  obtain ⟨a, n, c⟩ := d
  obtain ⟨rfl, -, -⟩ := Sl.cellW hd
  have HE0 : Hid ([[mkB x], putL x.fr 2, putL x.ct 2, x.da].flatten = rcB x) := by show _ = _; simp [rcB]
  have HLn : Hid ((rcB x).length ≤ 1000000) := by show _ ≤ _; rw [rcB_length]; omega
  obtain ⟨R, hR⟩ : ∃ R, rcB x = R := ⟨_, rfl⟩
  rw [hR] at HE0 HLn ⊢
  clear hR
  obtain ⟨fr, ct, ze, da⟩ := x
  simp only at hf hc hd HE0
  have HP5 : Hid (∀ x : World, Calls Try.prog 23 #[.int .u64 fr, .int .i64 2] x fun e w' => ∃ a c, e = .returned (.slice a 2 c) ∧ Sl .u8 w' (.slice a 2 c) (putL fr 2) ∧ Below x.heap.size x w') := fun x => put_sl (x := x) fr 2 (by omega) (by omega) (by omega) (by omega)
  have HP9 : Hid (∀ x : World, Calls Try.prog 23 #[.int .u64 ct, .int .i64 2] x fun e w' => ∃ a c, e = .returned (.slice a 2 c) ∧ Sl .u8 w' (.slice a 2 c) (putL ct 2) ∧ Below x.heap.size x w') := fun x => put_sl (x := x) ct 2 (by omega) (by omega) (by omega) (by omega)
  obtain ⟨hf0, hf1⟩ := hf
  obtain ⟨hc0, hc1⟩ := hc
  obtain ⟨W, hW⟩ : ∃ W, w.alloc (.cells #[.int .i64 fr, .int .i64 ct, .bool ze, .slice a da.length c] 39) = W := ⟨_, rfl⟩
  have r : RowC W w.heap.size 39 [.int .i64 fr, .int .i64 ct, .bool ze, .slice a da.length c] := by rw [← hW]; exact RowC.new w _ _
  have hB : Below w.heap.size w W := by rw [← hW]; exact below_new w _
  have HBW := Lib.hid hB
  have HDA : Hid (Sl .u8 W (.slice a da.length c) da) := hd.below hB
  obtain ⟨n, hn⟩ : ∃ n, da.length = n := ⟨_, rfl⟩
  rw [hn] at hW r HDA hl ⊢
  obtain ⟨B, hBB⟩ : ∃ B, w.heap.size = B := ⟨_, rfl⟩
  rw [hBB] at r
  have e0 : ∀ z : Ext W, z.1.cell? ⟨B, 0, none⟩ = some (.int .i64 fr) := fun z => (r.below z.2).cell 0 _ rfl
  have e1 : ∀ z : Ext W, z.1.cell? ⟨B, 1, none⟩ = some (.int .i64 ct) := fun z => (r.below z.2).cell 1 _ rfl
  have e3 : ∀ z : Ext W, z.1.cell? ⟨B, 3, none⟩ = some (.slice a n c) := fun z => (r.below z.2).cell 3 _ rfl
  have d2 := r.cell 2 _ rfl
  have KD : Hid (Below W.heap.size W W.drew) := (Below.refl _ W).drew
  simp only [rvV, slV]
  clear r hB hd hn
  cases ze with
  | true =>
    have HE : Hid ([[2], putL fr 2, putL ct 2, da].flatten = R) := HE0.out
    clear HE0
    go_enter Try.func22, Try.ntmps22
    go_wp2_with fail
    try rw [hW]
    try rw [hBB]
    clear d2 hW
    refine region_plan (fun x => ∃ y : Ext W, x = y.1) 14 (.takes [0, 2, 3, 4, 6, 7, 8, 10, 11] (.two 1 5 (.one 5 (.one 9 (.one 12 (.one 13 .leaf)))) (.two 1 9 (.one 9 (.one 12 (.one 13 .leaf))) (.one 1 (.one 12 (.one 13 .leaf)))))) hmx (by kernel_rfl) (by intro c x v a w h; cases x <;> exact h) ⟨⟨W.drew, KD.out⟩, rfl⟩ ?_
    rw [wpPlan_takes_cons]; simp only [nth_zero, nth_succ]; go_big_quiet_step (fail); refine wpQuiet_nil ?_
    rw [wpPlan_takes_cons]; simp only [nth_zero, nth_succ]; go_big_quiet_step (fail); refine wpQuiet_nil ?_
    rw [wpPlan_takes_cons]; simp only [nth_zero, nth_succ]; go_big_quiet_step (fail); refine wpQuiet_nil ?_
    rw [wpPlan_takes_cons]; simp only [nth_zero, nth_succ]; go_big_quiet_step (fail); refine wpQuiet_nil ?_
    rw [wpPlan_takes_cons]; simp only [nth_zero, nth_succ]; go_big_quiet_step (fail); refine wpQuiet_nil ?_
    rw [wpPlan_takes_cons]; simp only [nth_zero, nth_succ]; go_big_quiet_step (fail); refine wpQuiet_nil ?_
    rw [wpPlan_takes_cons]; simp only [nth_zero, nth_succ]; go_big_quiet_step (fail); refine wpQuiet_nil ?_
    rw [wpPlan_takes_cons]; simp only [nth_zero, nth_succ]; go_big_quiet_step (fail); refine wpQuiet_nil ?_
    rw [wpPlan_takes_cons]; simp only [nth_zero, nth_succ]; go_big_quiet_step (fail); refine wpQuiet_nil ?_
    rw [wpPlan_takes_nil]
    clear e0 e1 e3
    obtain ⟨x0, hx0⟩ : ∃ X, W.drew = X := ⟨_, rfl⟩
    rw [hx0] at KD
    try rw [hx0]
    have Kx0 := KD
    clear hx0 KD
    rw [wpPlan_two]
    refine ⟨?_, ?_⟩
    · simp only [nth_zero, nth_succ]
      have BS := slice_mark x0 2
      have OS := ownB_one W x0 Kx0.out.size 2
      obtain ⟨x1, hx1⟩ : ∃ Y, x0.alloc (.cells #[.int .u8 2] 5) = Y := ⟨_, rfl⟩
      have hb : Below x0.heap.size x0 x1 := by rw [← hx1]; exact below_new _ _
      rw [hx1] at BS OS
      have Kx1 : Hid (Below W.heap.size W x1) := Kx0.out.trans (hb.mono Kx0.out.size)
      have S0 := Lib.hid OS.sl
      have BS := Lib.hid BS
      clear OS hx1 hb
      go_wp2_with ((with_reducible refine gate_build ?_); refine wpList_build_run _ _ _ rfl rfl _ _ rfl BS.out ?_)
      clear BS
      refine planPost_mk ⟨⟨x1, Kx1.out⟩, rfl⟩ ?_
      rw [wpPlan_one]
      simp only [nth_zero, nth_succ]
      go_wp2_with fail
      go_at_call 23
      refine (HP5.out x1).mono ?_
      rintro e x3 ⟨a1, n1, rfl, hs, hb⟩
      have Kx3 : Hid (Below W.heap.size W x3) := Kx1.out.trans (hb.mono Kx1.out.size)
      have S0 := Lib.hid (S0.out.below hb)
      have S1 := Lib.hid hs
      clear hs hb
      go_wp2_with fail
      refine planPost_mk ⟨⟨x3, Kx3.out⟩, rfl⟩ ?_
      rw [wpPlan_one]
      simp only [nth_zero, nth_succ]
      go_wp2_with fail
      go_at_call 23
      refine (HP9.out x3).mono ?_
      rintro e x4 ⟨a2, n2, rfl, hs, hb⟩
      have Kx4 : Hid (Below W.heap.size W x4) := Kx3.out.trans (hb.mono Kx3.out.size)
      have S0 := Lib.hid (S0.out.below hb)
      have S1 := Lib.hid (S1.out.below hb)
      have S2 := Lib.hid hs
      clear hs hb
      go_wp2_with fail
      refine planPost_mk ⟨⟨x4, Kx4.out⟩, rfl⟩ ?_
      rw [wpPlan_one]
      simp only [nth_zero, nth_succ]
      have BS := bss4 x4 (some ⟨x0.heap.size, 0, none⟩) a1 a2 a 1 2 2 n 1 n1 n2 c
      have SS := Lib.hid (slsD S0.out S1.out S2.out (HDA.out.below Kx4.out))
      obtain ⟨x5, hx5⟩ : ∃ Y, x4.alloc (.cells #[.slice (some ⟨x0.heap.size, 0, none⟩) 1 1, .slice a1 2 n1, .slice a2 2 n2, .slice a n c] 25) = Y := ⟨_, rfl⟩
      have Kx5 : Hid (Below W.heap.size W x5) := by show Below _ _ _; rw [← hx5]; exact Kx4.out.trans ((below_new _ _).mono Kx4.out.size)
      rw [hx5] at BS SS
      have BS := Lib.hid BS
      clear hx5
      go_wp2_with ((with_reducible refine gate_build ?_); refine wpList_build_run _ _ _ rfl rfl _ _ rfl BS.out ?_)
      clear BS
      refine planPost_mk ⟨⟨x5, Kx5.out⟩, rfl⟩ ?_
      rw [wpPlan_one]
      simp only [nth_zero, nth_succ]
      go_wp2_with fail
      go_at_call 25
      refine (concat_own (W := w) SS.out HE.out HLn.out (Nat.le_trans HBW.out.size Kx5.out.size)).mono ?_
      rintro e x6 ⟨v, rfl, ho, hb⟩
      have HO := Lib.hid ho
      have Kx6 : Hid (Below W.heap.size W x6) := Kx5.out.trans (hb.mono Kx5.out.size)
      clear ho hb SS
      go_wp2_with fail
      refine planPost_mk ⟨⟨x6, Kx6.out⟩, rfl⟩ ?_
      rw [wpPlan_leaf]
      simp only [List.drop_succ_cons, List.drop_zero]
      go_wp2_with fail
      go_ret
      exact ⟨_, rfl, HO.out, HBW.out.trans (Kx6.out.mono HBW.out.size)⟩
    · simp only [nth_zero, nth_succ]
      go_wp2_with fail
      go_at_call 23
      refine (HP5.out x0).mono ?_
      rintro e x2 ⟨a1, n1, rfl, hs, hb⟩
      have Kx2 : Hid (Below W.heap.size W x2) := Kx0.out.trans (hb.mono Kx0.out.size)
      have S1 := Lib.hid hs
      clear hs hb
      go_wp2_with fail
      refine planPost_mk ⟨⟨x2, Kx2.out⟩, rfl⟩ ?_
      rw [wpPlan_two]
      refine ⟨?_, ?_⟩
      · simp only [nth_zero, nth_succ]
        have BS := slice_mark x2 2
        have OS := ownB_one W x2 Kx2.out.size 2
        obtain ⟨x7, hx7⟩ : ∃ Y, x2.alloc (.cells #[.int .u8 2] 5) = Y := ⟨_, rfl⟩
        have hb : Below x2.heap.size x2 x7 := by rw [← hx7]; exact below_new _ _
        rw [hx7] at BS OS
        have Kx7 : Hid (Below W.heap.size W x7) := Kx2.out.trans (hb.mono Kx2.out.size)
        have S1 := Lib.hid (S1.out.below hb)
        have S0 := Lib.hid OS.sl
        have BS := Lib.hid BS
        clear OS hx7 hb
        go_wp2_with ((with_reducible refine gate_build ?_); refine wpList_build_run _ _ _ rfl rfl _ _ rfl BS.out ?_)
        clear BS
        refine planPost_mk ⟨⟨x7, Kx7.out⟩, rfl⟩ ?_
        rw [wpPlan_one]
        simp only [nth_zero, nth_succ]
        go_wp2_with fail
        go_at_call 23
        refine (HP9.out x7).mono ?_
        rintro e x9 ⟨a2, n2, rfl, hs, hb⟩
        have Kx9 : Hid (Below W.heap.size W x9) := Kx7.out.trans (hb.mono Kx7.out.size)
        have S1 := Lib.hid (S1.out.below hb)
        have S0 := Lib.hid (S0.out.below hb)
        have S2 := Lib.hid hs
        clear hs hb
        go_wp2_with fail
        refine planPost_mk ⟨⟨x9, Kx9.out⟩, rfl⟩ ?_
        rw [wpPlan_one]
        simp only [nth_zero, nth_succ]
        have BS := bss4 x9 (some ⟨x2.heap.size, 0, none⟩) a1 a2 a 1 2 2 n 1 n1 n2 c
        have SS := Lib.hid (slsD S0.out S1.out S2.out (HDA.out.below Kx9.out))
        obtain ⟨x10, hx10⟩ : ∃ Y, x9.alloc (.cells #[.slice (some ⟨x2.heap.size, 0, none⟩) 1 1, .slice a1 2 n1, .slice a2 2 n2, .slice a n c] 25) = Y := ⟨_, rfl⟩
        have Kx10 : Hid (Below W.heap.size W x10) := by show Below _ _ _; rw [← hx10]; exact Kx9.out.trans ((below_new _ _).mono Kx9.out.size)
        rw [hx10] at BS SS
        have BS := Lib.hid BS
        clear hx10
        go_wp2_with ((with_reducible refine gate_build ?_); refine wpList_build_run _ _ _ rfl rfl _ _ rfl BS.out ?_)
        clear BS
        refine planPost_mk ⟨⟨x10, Kx10.out⟩, rfl⟩ ?_
        rw [wpPlan_one]
        simp only [nth_zero, nth_succ]
        go_wp2_with fail
        go_at_call 25
        refine (concat_own (W := w) SS.out HE.out HLn.out (Nat.le_trans HBW.out.size Kx10.out.size)).mono ?_
        rintro e x11 ⟨v, rfl, ho, hb⟩
        have HO := Lib.hid ho
        have Kx11 : Hid (Below W.heap.size W x11) := Kx10.out.trans (hb.mono Kx10.out.size)
        clear ho hb SS
        go_wp2_with fail
        refine planPost_mk ⟨⟨x11, Kx11.out⟩, rfl⟩ ?_
        rw [wpPlan_leaf]
        simp only [List.drop_succ_cons, List.drop_zero]
        go_wp2_with fail
        go_ret
        exact ⟨_, rfl, HO.out, HBW.out.trans (Kx11.out.mono HBW.out.size)⟩
      · simp only [nth_zero, nth_succ]
        go_wp2_with fail
        go_at_call 23
        refine (HP9.out x2).mono ?_
        rintro e x8 ⟨a2, n2, rfl, hs, hb⟩
        have Kx8 : Hid (Below W.heap.size W x8) := Kx2.out.trans (hb.mono Kx2.out.size)
        have S1 := Lib.hid (S1.out.below hb)
        have S2 := Lib.hid hs
        clear hs hb
        go_wp2_with fail
        refine planPost_mk ⟨⟨x8, Kx8.out⟩, rfl⟩ ?_
        rw [wpPlan_one]
        simp only [nth_zero, nth_succ]
        have BS := slice_mark x8 2
        have OS := ownB_one W x8 Kx8.out.size 2
        obtain ⟨x12, hx12⟩ : ∃ Y, x8.alloc (.cells #[.int .u8 2] 5) = Y := ⟨_, rfl⟩
        have hb : Below x8.heap.size x8 x12 := by rw [← hx12]; exact below_new _ _
        rw [hx12] at BS OS
        have Kx12 : Hid (Below W.heap.size W x12) := Kx8.out.trans (hb.mono Kx8.out.size)
        have S1 := Lib.hid (S1.out.below hb)
        have S2 := Lib.hid (S2.out.below hb)
        have S0 := Lib.hid OS.sl
        have BS := Lib.hid BS
        clear OS hx12 hb
        go_wp2_with ((with_reducible refine gate_build ?_); refine wpList_build_run _ _ _ rfl rfl _ _ rfl BS.out ?_)
        clear BS
        refine planPost_mk ⟨⟨x12, Kx12.out⟩, rfl⟩ ?_
        rw [wpPlan_one]
        simp only [nth_zero, nth_succ]
        have BS := bss4 x12 (some ⟨x8.heap.size, 0, none⟩) a1 a2 a 1 2 2 n 1 n1 n2 c
        have SS := Lib.hid (slsD S0.out S1.out S2.out (HDA.out.below Kx12.out))
        obtain ⟨x13, hx13⟩ : ∃ Y, x12.alloc (.cells #[.slice (some ⟨x8.heap.size, 0, none⟩) 1 1, .slice a1 2 n1, .slice a2 2 n2, .slice a n c] 25) = Y := ⟨_, rfl⟩
        have Kx13 : Hid (Below W.heap.size W x13) := by show Below _ _ _; rw [← hx13]; exact Kx12.out.trans ((below_new _ _).mono Kx12.out.size)
        rw [hx13] at BS SS
        have BS := Lib.hid BS
        clear hx13
        go_wp2_with ((with_reducible refine gate_build ?_); refine wpList_build_run _ _ _ rfl rfl _ _ rfl BS.out ?_)
        clear BS
        refine planPost_mk ⟨⟨x13, Kx13.out⟩, rfl⟩ ?_
        rw [wpPlan_one]
        simp only [nth_zero, nth_succ]
        go_wp2_with fail
        go_at_call 25
        refine (concat_own (W := w) SS.out HE.out HLn.out (Nat.le_trans HBW.out.size Kx13.out.size)).mono ?_
        rintro e x14 ⟨v, rfl, ho, hb⟩
        have HO := Lib.hid ho
        have Kx14 : Hid (Below W.heap.size W x14) := Kx13.out.trans (hb.mono Kx13.out.size)
        clear ho hb SS
        go_wp2_with fail
        refine planPost_mk ⟨⟨x14, Kx14.out⟩, rfl⟩ ?_
        rw [wpPlan_leaf]
        simp only [List.drop_succ_cons, List.drop_zero]
        go_wp2_with fail
        go_ret
        exact ⟨_, rfl, HO.out, HBW.out.trans (Kx14.out.mono HBW.out.size)⟩
  | false =>
    have HE : Hid ([[1], putL fr 2, putL ct 2, da].flatten = R) := HE0.out
    clear HE0
    go_enter Try.func22, Try.ntmps22
    go_wp2_with fail
    try rw [hW]
    try rw [hBB]
    clear d2 hW
    refine region_plan (fun x => ∃ y : Ext W, x = y.1) 14 (.takes [0, 2, 3, 4, 6, 7, 8, 10, 11] (.two 1 5 (.one 5 (.one 9 (.one 12 (.one 13 .leaf)))) (.two 1 9 (.one 9 (.one 12 (.one 13 .leaf))) (.one 1 (.one 12 (.one 13 .leaf)))))) hmx (by kernel_rfl) (by intro c x v a w h; cases x <;> exact h) ⟨⟨W.drew, KD.out⟩, rfl⟩ ?_
    rw [wpPlan_takes_cons]; simp only [nth_zero, nth_succ]; go_big_quiet_step (fail); refine wpQuiet_nil ?_
    rw [wpPlan_takes_cons]; simp only [nth_zero, nth_succ]; go_big_quiet_step (fail); refine wpQuiet_nil ?_
    rw [wpPlan_takes_cons]; simp only [nth_zero, nth_succ]; go_big_quiet_step (fail); refine wpQuiet_nil ?_
    rw [wpPlan_takes_cons]; simp only [nth_zero, nth_succ]; go_big_quiet_step (fail); refine wpQuiet_nil ?_
    rw [wpPlan_takes_cons]; simp only [nth_zero, nth_succ]; go_big_quiet_step (fail); refine wpQuiet_nil ?_
    rw [wpPlan_takes_cons]; simp only [nth_zero, nth_succ]; go_big_quiet_step (fail); refine wpQuiet_nil ?_
    rw [wpPlan_takes_cons]; simp only [nth_zero, nth_succ]; go_big_quiet_step (fail); refine wpQuiet_nil ?_
    rw [wpPlan_takes_cons]; simp only [nth_zero, nth_succ]; go_big_quiet_step (fail); refine wpQuiet_nil ?_
    rw [wpPlan_takes_cons]; simp only [nth_zero, nth_succ]; go_big_quiet_step (fail); refine wpQuiet_nil ?_
    rw [wpPlan_takes_nil]
    clear e0 e1 e3
    obtain ⟨x0, hx0⟩ : ∃ X, W.drew = X := ⟨_, rfl⟩
    rw [hx0] at KD
    try rw [hx0]
    have Kx0 := KD
    clear hx0 KD
    rw [wpPlan_two]
    refine ⟨?_, ?_⟩
    · simp only [nth_zero, nth_succ]
      have BS := slice_mark x0 1
      have OS := ownB_one W x0 Kx0.out.size 1
      obtain ⟨x1, hx1⟩ : ∃ Y, x0.alloc (.cells #[.int .u8 1] 5) = Y := ⟨_, rfl⟩
      have hb : Below x0.heap.size x0 x1 := by rw [← hx1]; exact below_new _ _
      rw [hx1] at BS OS
      have Kx1 : Hid (Below W.heap.size W x1) := Kx0.out.trans (hb.mono Kx0.out.size)
      have S0 := Lib.hid OS.sl
      have BS := Lib.hid BS
      clear OS hx1 hb
      go_wp2_with ((with_reducible refine gate_build ?_); refine wpList_build_run _ _ _ rfl rfl _ _ rfl BS.out ?_)
      clear BS
      refine planPost_mk ⟨⟨x1, Kx1.out⟩, rfl⟩ ?_
      rw [wpPlan_one]
      simp only [nth_zero, nth_succ]
      go_wp2_with fail
      go_at_call 23
      refine (HP5.out x1).mono ?_
      rintro e x3 ⟨a1, n1, rfl, hs, hb⟩
      have Kx3 : Hid (Below W.heap.size W x3) := Kx1.out.trans (hb.mono Kx1.out.size)
      have S0 := Lib.hid (S0.out.below hb)
      have S1 := Lib.hid hs
      clear hs hb
      go_wp2_with fail
      refine planPost_mk ⟨⟨x3, Kx3.out⟩, rfl⟩ ?_
      rw [wpPlan_one]
      simp only [nth_zero, nth_succ]
      go_wp2_with fail
      go_at_call 23
      refine (HP9.out x3).mono ?_
      rintro e x4 ⟨a2, n2, rfl, hs, hb⟩
      have Kx4 : Hid (Below W.heap.size W x4) := Kx3.out.trans (hb.mono Kx3.out.size)
      have S0 := Lib.hid (S0.out.below hb)
      have S1 := Lib.hid (S1.out.below hb)
      have S2 := Lib.hid hs
      clear hs hb
      go_wp2_with fail
      refine planPost_mk ⟨⟨x4, Kx4.out⟩, rfl⟩ ?_
      rw [wpPlan_one]
      simp only [nth_zero, nth_succ]
      have BS := bss4 x4 (some ⟨x0.heap.size, 0, none⟩) a1 a2 a 1 2 2 n 1 n1 n2 c
      have SS := Lib.hid (slsD S0.out S1.out S2.out (HDA.out.below Kx4.out))
      obtain ⟨x5, hx5⟩ : ∃ Y, x4.alloc (.cells #[.slice (some ⟨x0.heap.size, 0, none⟩) 1 1, .slice a1 2 n1, .slice a2 2 n2, .slice a n c] 25) = Y := ⟨_, rfl⟩
      have Kx5 : Hid (Below W.heap.size W x5) := by show Below _ _ _; rw [← hx5]; exact Kx4.out.trans ((below_new _ _).mono Kx4.out.size)
      rw [hx5] at BS SS
      have BS := Lib.hid BS
      clear hx5
      go_wp2_with ((with_reducible refine gate_build ?_); refine wpList_build_run _ _ _ rfl rfl _ _ rfl BS.out ?_)
      clear BS
      refine planPost_mk ⟨⟨x5, Kx5.out⟩, rfl⟩ ?_
      rw [wpPlan_one]
      simp only [nth_zero, nth_succ]
      go_wp2_with fail
      go_at_call 25
      refine (concat_own (W := w) SS.out HE.out HLn.out (Nat.le_trans HBW.out.size Kx5.out.size)).mono ?_
      rintro e x6 ⟨v, rfl, ho, hb⟩
      have HO := Lib.hid ho
      have Kx6 : Hid (Below W.heap.size W x6) := Kx5.out.trans (hb.mono Kx5.out.size)
      clear ho hb SS
      go_wp2_with fail
      refine planPost_mk ⟨⟨x6, Kx6.out⟩, rfl⟩ ?_
      rw [wpPlan_leaf]
      simp only [List.drop_succ_cons, List.drop_zero]
      go_wp2_with fail
      go_ret
      exact ⟨_, rfl, HO.out, HBW.out.trans (Kx6.out.mono HBW.out.size)⟩
    · simp only [nth_zero, nth_succ]
      go_wp2_with fail
      go_at_call 23
      refine (HP5.out x0).mono ?_
      rintro e x2 ⟨a1, n1, rfl, hs, hb⟩
      have Kx2 : Hid (Below W.heap.size W x2) := Kx0.out.trans (hb.mono Kx0.out.size)
      have S1 := Lib.hid hs
      clear hs hb
      go_wp2_with fail
      refine planPost_mk ⟨⟨x2, Kx2.out⟩, rfl⟩ ?_
      rw [wpPlan_two]
      refine ⟨?_, ?_⟩
      · simp only [nth_zero, nth_succ]
        have BS := slice_mark x2 1
        have OS := ownB_one W x2 Kx2.out.size 1
        obtain ⟨x7, hx7⟩ : ∃ Y, x2.alloc (.cells #[.int .u8 1] 5) = Y := ⟨_, rfl⟩
        have hb : Below x2.heap.size x2 x7 := by rw [← hx7]; exact below_new _ _
        rw [hx7] at BS OS
        have Kx7 : Hid (Below W.heap.size W x7) := Kx2.out.trans (hb.mono Kx2.out.size)
        have S1 := Lib.hid (S1.out.below hb)
        have S0 := Lib.hid OS.sl
        have BS := Lib.hid BS
        clear OS hx7 hb
        go_wp2_with ((with_reducible refine gate_build ?_); refine wpList_build_run _ _ _ rfl rfl _ _ rfl BS.out ?_)
        clear BS
        refine planPost_mk ⟨⟨x7, Kx7.out⟩, rfl⟩ ?_
        rw [wpPlan_one]
        simp only [nth_zero, nth_succ]
        go_wp2_with fail
        go_at_call 23
        refine (HP9.out x7).mono ?_
        rintro e x9 ⟨a2, n2, rfl, hs, hb⟩
        have Kx9 : Hid (Below W.heap.size W x9) := Kx7.out.trans (hb.mono Kx7.out.size)
        have S1 := Lib.hid (S1.out.below hb)
        have S0 := Lib.hid (S0.out.below hb)
        have S2 := Lib.hid hs
        clear hs hb
        go_wp2_with fail
        refine planPost_mk ⟨⟨x9, Kx9.out⟩, rfl⟩ ?_
        rw [wpPlan_one]
        simp only [nth_zero, nth_succ]
        have BS := bss4 x9 (some ⟨x2.heap.size, 0, none⟩) a1 a2 a 1 2 2 n 1 n1 n2 c
        have SS := Lib.hid (slsD S0.out S1.out S2.out (HDA.out.below Kx9.out))
        obtain ⟨x10, hx10⟩ : ∃ Y, x9.alloc (.cells #[.slice (some ⟨x2.heap.size, 0, none⟩) 1 1, .slice a1 2 n1, .slice a2 2 n2, .slice a n c] 25) = Y := ⟨_, rfl⟩
        have Kx10 : Hid (Below W.heap.size W x10) := by show Below _ _ _; rw [← hx10]; exact Kx9.out.trans ((below_new _ _).mono Kx9.out.size)
        rw [hx10] at BS SS
        have BS := Lib.hid BS
        clear hx10
        go_wp2_with ((with_reducible refine gate_build ?_); refine wpList_build_run _ _ _ rfl rfl _ _ rfl BS.out ?_)
        clear BS
        refine planPost_mk ⟨⟨x10, Kx10.out⟩, rfl⟩ ?_
        rw [wpPlan_one]
        simp only [nth_zero, nth_succ]
        go_wp2_with fail
        go_at_call 25
        refine (concat_own (W := w) SS.out HE.out HLn.out (Nat.le_trans HBW.out.size Kx10.out.size)).mono ?_
        rintro e x11 ⟨v, rfl, ho, hb⟩
        have HO := Lib.hid ho
        have Kx11 : Hid (Below W.heap.size W x11) := Kx10.out.trans (hb.mono Kx10.out.size)
        clear ho hb SS
        go_wp2_with fail
        refine planPost_mk ⟨⟨x11, Kx11.out⟩, rfl⟩ ?_
        rw [wpPlan_leaf]
        simp only [List.drop_succ_cons, List.drop_zero]
        go_wp2_with fail
        go_ret
        exact ⟨_, rfl, HO.out, HBW.out.trans (Kx11.out.mono HBW.out.size)⟩
      · simp only [nth_zero, nth_succ]
        go_wp2_with fail
        go_at_call 23
        refine (HP9.out x2).mono ?_
        rintro e x8 ⟨a2, n2, rfl, hs, hb⟩
        have Kx8 : Hid (Below W.heap.size W x8) := Kx2.out.trans (hb.mono Kx2.out.size)
        have S1 := Lib.hid (S1.out.below hb)
        have S2 := Lib.hid hs
        clear hs hb
        go_wp2_with fail
        refine planPost_mk ⟨⟨x8, Kx8.out⟩, rfl⟩ ?_
        rw [wpPlan_one]
        simp only [nth_zero, nth_succ]
        have BS := slice_mark x8 1
        have OS := ownB_one W x8 Kx8.out.size 1
        obtain ⟨x12, hx12⟩ : ∃ Y, x8.alloc (.cells #[.int .u8 1] 5) = Y := ⟨_, rfl⟩
        have hb : Below x8.heap.size x8 x12 := by rw [← hx12]; exact below_new _ _
        rw [hx12] at BS OS
        have Kx12 : Hid (Below W.heap.size W x12) := Kx8.out.trans (hb.mono Kx8.out.size)
        have S1 := Lib.hid (S1.out.below hb)
        have S2 := Lib.hid (S2.out.below hb)
        have S0 := Lib.hid OS.sl
        have BS := Lib.hid BS
        clear OS hx12 hb
        go_wp2_with ((with_reducible refine gate_build ?_); refine wpList_build_run _ _ _ rfl rfl _ _ rfl BS.out ?_)
        clear BS
        refine planPost_mk ⟨⟨x12, Kx12.out⟩, rfl⟩ ?_
        rw [wpPlan_one]
        simp only [nth_zero, nth_succ]
        have BS := bss4 x12 (some ⟨x8.heap.size, 0, none⟩) a1 a2 a 1 2 2 n 1 n1 n2 c
        have SS := Lib.hid (slsD S0.out S1.out S2.out (HDA.out.below Kx12.out))
        obtain ⟨x13, hx13⟩ : ∃ Y, x12.alloc (.cells #[.slice (some ⟨x8.heap.size, 0, none⟩) 1 1, .slice a1 2 n1, .slice a2 2 n2, .slice a n c] 25) = Y := ⟨_, rfl⟩
        have Kx13 : Hid (Below W.heap.size W x13) := by show Below _ _ _; rw [← hx13]; exact Kx12.out.trans ((below_new _ _).mono Kx12.out.size)
        rw [hx13] at BS SS
        have BS := Lib.hid BS
        clear hx13
        go_wp2_with ((with_reducible refine gate_build ?_); refine wpList_build_run _ _ _ rfl rfl _ _ rfl BS.out ?_)
        clear BS
        refine planPost_mk ⟨⟨x13, Kx13.out⟩, rfl⟩ ?_
        rw [wpPlan_one]
        simp only [nth_zero, nth_succ]
        go_wp2_with fail
        go_at_call 25
        refine (concat_own (W := w) SS.out HE.out HLn.out (Nat.le_trans HBW.out.size Kx13.out.size)).mono ?_
        rintro e x14 ⟨v, rfl, ho, hb⟩
        have HO := Lib.hid ho
        have Kx14 : Hid (Below W.heap.size W x14) := Kx13.out.trans (hb.mono Kx13.out.size)
        clear ho hb SS
        go_wp2_with fail
        refine planPost_mk ⟨⟨x14, Kx14.out⟩, rfl⟩ ?_
        rw [wpPlan_leaf]
        simp only [List.drop_succ_cons, List.drop_zero]
        go_wp2_with fail
        go_ret
        exact ⟨_, rfl, HO.out, HBW.out.trans (Kx14.out.mono HBW.out.size)⟩
end Go.Proofs.Ytlnljanhnodhkaa

/- The developers' stream: head. -/
namespace Go.Proofs.Ytlnljanhnodhkaa
open Go.RowKit Go.Shelf
set_option linter.unusedVariables false
set_option linter.unusedSimpArgs false
attribute [-simp] Try.isAgg39 Try.zeroValue39 Try.isAgg24 Try.zeroValue24
attribute [-go_sem] loadVar storeVar
attribute [local go_sem] loadVar_openRS storeVar_openRS zero_rc zero_sm

set_option maxRecDepth 100000 in
set_option maxHeartbeats 20000000 in
/-- **head**. -/
theorem sm_headB {s : SM} {v : SlV} {w : World} (hh : hdOk s.bl s.ba s.id) (hn : v.2.1 = s.re.length) (hl : s.re.length ≤ 1000) :
    Calls Try.prog 20 #[smV s.bl s.ba s.id v] w fun e w' => ∃ u, e = .returned u ∧ OwnB w w' u (hdB s) ∧ Below w.heap.size w w' := by
  have hmx : Try.prog.follows .mixedOrders = true := by kernel_rfl
  obtain ⟨a, n, c⟩ := v
  simp only at hn
  have HE0 : Hid ([[82, 86, 83, 49], putL s.bl 2, putL (s.ba + 1) 4, putL s.id 4, putL (s.re.length : Int) 2].flatten = hdB s) := by show _ = _; simp [hdB]
  have HLn : Hid ((hdB s).length ≤ 1000000) := by show _ ≤ _; rw [hdB_length]; omega
  obtain ⟨R, hR⟩ : ∃ R, hdB s = R := ⟨_, rfl⟩
  rw [hR] at HE0 HLn ⊢
  clear hR
  rw [← hn] at HE0 hl
  obtain ⟨bl, ba, id, re⟩ := s
  simp only at hh hn HE0 hl
  obtain ⟨h1, h2, h3, h4, h5⟩ := hh
  have hb0 : -1 ≤ ba := by omega
  have hb1 : ba ≤ 1000000 := by omega
  have w1 : wrap64 (ba + 1) = ba + 1 := IntWalk.wrap64_in _ (by omega)
  have hb2 : 0 ≤ ba + 1 := by omega
  have hb3 : ba + 1 ≤ 1000001 := by omega
  have HE : Hid _ := HE0
  have HP5 : Hid (∀ x : World, Calls Try.prog 23 #[.int .u64 bl, .int .i64 2] x fun e w' => ∃ a c, e = .returned (.slice a 2 c) ∧ Sl .u8 w' (.slice a 2 c) (putL bl 2) ∧ Below x.heap.size x w') := fun x => put_sl (x := x) bl 2 (by omega) (by omega) (by omega) (by omega)
  have HP10 : Hid (∀ x : World, Calls Try.prog 23 #[.int .u64 (ba + 1), .int .i64 4] x fun e w' => ∃ a c, e = .returned (.slice a 4 c) ∧ Sl .u8 w' (.slice a 4 c) (putL (ba + 1) 4) ∧ Below x.heap.size x w') := fun x => put_sl (x := x) (ba + 1) 4 (by omega) (by omega) (by omega) (by omega)
  have HP14 : Hid (∀ x : World, Calls Try.prog 23 #[.int .u64 id, .int .i64 4] x fun e w' => ∃ a c, e = .returned (.slice a 4 c) ∧ Sl .u8 w' (.slice a 4 c) (putL id 4) ∧ Below x.heap.size x w') := fun x => put_sl (x := x) id 4 (by omega) (by omega) (by omega) (by omega)
  have HP19 : Hid (∀ x : World, Calls Try.prog 23 #[.int .u64 (n : Int), .int .i64 2] x fun e w' => ∃ a c, e = .returned (.slice a 2 c) ∧ Sl .u8 w' (.slice a 2 c) (putL (n : Int) 2) ∧ Below x.heap.size x w') := fun x => put_sl (x := x) (n : Int) 2 (by omega) (by omega) (by omega) (by omega)
  obtain ⟨W, hW⟩ : ∃ W, w.alloc (.cells #[.int .i64 bl, .int .i64 ba, .int .i64 id, .slice a n c] 24) = W := ⟨_, rfl⟩
  have r : RowC W w.heap.size 24 [.int .i64 bl, .int .i64 ba, .int .i64 id, .slice a n c] := by rw [← hW]; exact RowC.new w _ _
  have HBW : Hid (Below w.heap.size w W) := by show Below _ _ _; rw [← hW]; exact below_new w _
  obtain ⟨B, hBB⟩ : ∃ B, w.heap.size = B := ⟨_, rfl⟩
  rw [hBB] at r
  have e0 : ∀ z : Ext W, z.1.cell? ⟨B, 0, none⟩ = some (.int .i64 bl) := fun z => (r.below z.2).cell 0 _ rfl
  have e1 : ∀ z : Ext W, z.1.cell? ⟨B, 1, none⟩ = some (.int .i64 ba) := fun z => (r.below z.2).cell 1 _ rfl
  have e2 : ∀ z : Ext W, z.1.cell? ⟨B, 2, none⟩ = some (.int .i64 id) := fun z => (r.below z.2).cell 2 _ rfl
  have e3 : ∀ z : Ext W, z.1.cell? ⟨B, 3, none⟩ = some (.slice a n c) := fun z => (r.below z.2).cell 3 _ rfl
  have KD : Hid (Below W.heap.size W W.drew) := (Below.refl _ W).drew
  simp only [smV, slV]
  clear r HE0 hn h5
  go_enter Try.func20, Try.ntmps20
  go_wp2_with fail
  try rw [hW]
  try rw [hBB]
  clear hW
  refine region_plan (fun x => ∃ y : Ext W, x = y.1) 22 (.takes [2, 3, 4, 6, 7, 8, 9, 11, 12, 13, 15, 16, 17, 18] (.two 0 5 (.two 1 5 (.one 5 (.one 10 (.one 14 (.one 19 (.one 20 (.one 21 .leaf)))))) (.two 1 10 (.one 10 (.one 14 (.one 19 (.one 20 (.one 21 .leaf))))) (.two 1 14 (.one 14 (.one 19 (.one 20 (.one 21 .leaf)))) (.two 1 19 (.one 19 (.one 20 (.one 21 .leaf))) (.one 1 (.one 20 (.one 21 .leaf))))))) (.two 0 10 (.two 1 10 (.one 10 (.one 14 (.one 19 (.one 20 (.one 21 .leaf))))) (.two 1 14 (.one 14 (.one 19 (.one 20 (.one 21 .leaf)))) (.two 1 19 (.one 19 (.one 20 (.one 21 .leaf))) (.one 1 (.one 20 (.one 21 .leaf)))))) (.two 0 14 (.two 1 14 (.one 14 (.one 19 (.one 20 (.one 21 .leaf)))) (.two 1 19 (.one 19 (.one 20 (.one 21 .leaf))) (.one 1 (.one 20 (.one 21 .leaf))))) (.two 0 19 (.two 1 19 (.one 19 (.one 20 (.one 21 .leaf))) (.one 1 (.one 20 (.one 21 .leaf)))) (.one 0 (.one 1 (.one 20 (.one 21 .leaf))))))))) hmx (by kernel_rfl) (by intro c x v a w h; cases x <;> exact h) ⟨⟨W.drew, KD.out⟩, rfl⟩ ?_
  repeat (rw [wpPlan_takes_cons]; simp only [nth_zero, nth_succ]; go_big_quiet_step (fail); refine wpQuiet_nil ?_)
  rw [wpPlan_takes_nil]
  clear e0 e1 e2 e3 w1
  obtain ⟨x0, hx0⟩ : ∃ x, W.drew = x := ⟨_, rfl⟩
  rw [hx0] at KD
  try rw [hx0]
  have K0 := KD
  clear hx0 KD h1 h2 h3 h4 hb0 hb1 hb2 hb3 hl
  refine plan_have (ι := Nat × Option Addr × Nat × Option Addr × Nat × Option Addr × Nat × Option Addr × Nat) (.one 20 (.one 21 .leaf)) (fun i => { tmps := #[.agg #[.int .i64 bl, .int .i64 ba, .int .i64 id, .slice a n c], .pointer (some ⟨B, 0, none⟩), .slice none 0 0, .slice (some ⟨i.1, 0, none⟩) 4 4, .slice (some ⟨i.1, 0, none⟩) 4 4, .pointer (some ⟨B, 0, none⟩), .int .i64 bl, .int .u64 bl, .slice i.2.1 2 i.2.2.1, .pointer (some ⟨B, 1, none⟩), .int .i64 ba, .int .i64 (ba + 1), .int .u64 (ba + 1), .slice i.2.2.2.1 4 i.2.2.2.2.1, .pointer (some ⟨B, 2, none⟩), .int .i64 id, .int .u64 id, .slice i.2.2.2.2.2.1 4 i.2.2.2.2.2.2.1, .pointer (some ⟨B, 3, none⟩), .slice a n c, .int .i64 (n : Int), .int .u64 (n : Int), .slice i.2.2.2.2.2.2.2.1 2 i.2.2.2.2.2.2.2.2, undef, undef], defers := [] }) (fun i x => Hid (Below W.heap.size W x) ∧ Hid (AllSl x [(.slice i.2.2.2.2.2.2.2.1 2 i.2.2.2.2.2.2.2.2, putL (n : Int) 2), (.slice i.2.2.2.2.2.1 4 i.2.2.2.2.2.2.1, putL id 4), (.slice i.2.2.2.1 4 i.2.2.2.2.1, putL (ba + 1) 4), (.slice i.2.1 2 i.2.2.1, putL bl 2)]) ∧ Hid (Sl .u8 x (.slice (some ⟨i.1, 0, none⟩) 4 4) [82, 86, 83, 49])) ?_ ?_
  · rintro ⟨L, a1, n1, a2, n2, a3, n3, a4, n4⟩ x ⟨K, S, Z⟩
    try dsimp only
    try dsimp only at S Z
    as_aux_lemma =>
      rw [wpPlan_one]
      simp only [nth_zero, nth_succ]
      have BS := bss5 x (some ⟨L, 0, none⟩) a1 a2 a3 a4 4 2 4 4 2 4 n1 n2 n3 n4
      have SS := Lib.hid (sls5 Z.out (S.out (.slice a1 2 n1, putL bl 2) (by simp)) (S.out (.slice a2 4 n2, putL (ba + 1) 4) (by simp)) (S.out (.slice a3 4 n3, putL id 4) (by simp)) (S.out (.slice a4 2 n4, putL (n : Int) 2) (by simp)))
      obtain ⟨x1, hx⟩ : ∃ y, x.alloc (.cells #[.slice (some ⟨L, 0, none⟩) 4 4, .slice a1 2 n1, .slice a2 4 n2, .slice a3 4 n3, .slice a4 2 n4] 25) = y := ⟨_, rfl⟩
      have K1 : Hid (Below W.heap.size W x1) := by show Below _ _ _; rw [← hx]; exact K.out.trans ((below_new _ _).mono K.out.size)
      rw [hx] at BS SS
      clear hx S Z
      refine wpList_build_run _ _ _ rfl rfl _ _ rfl BS ?_
      clear BS
      go_wp2_with fail
      refine planPost_mk ⟨⟨x1, K1.out⟩, rfl⟩ ?_
      rw [wpPlan_one]
      simp only [nth_zero, nth_succ]
      go_wp2_with fail
      go_at_call 25
      refine (concat_own (W := w) SS.out HE.out HLn.out (Nat.le_trans HBW.out.size K1.out.size)).mono ?_
      rintro e y ⟨v, rfl, ho, hb⟩
      have HO := Lib.hid ho
      have K2 : Hid (Below W.heap.size W y) := K1.out.trans (hb.mono K1.out.size)
      clear ho hb SS
      go_wp2_with fail
      refine planPost_mk ⟨⟨y, K2.out⟩, rfl⟩ ?_
      rw [wpPlan_leaf]
      simp only [List.drop_succ_cons, List.drop_zero]
      go_wp2_with fail
      go_ret
      exact ⟨_, rfl, HO.out, HBW.out.trans (K2.out.mono HBW.out.size)⟩
  intro T42
  refine plan_have (ι := Nat × Option Addr × Nat × Option Addr × Nat × Option Addr × Nat) (.one 19 (.one 20 (.one 21 .leaf))) (fun i => { tmps := #[.agg #[.int .i64 bl, .int .i64 ba, .int .i64 id, .slice a n c], .pointer (some ⟨B, 0, none⟩), .slice none 0 0, .slice (some ⟨i.1, 0, none⟩) 4 4, .slice (some ⟨i.1, 0, none⟩) 4 4, .pointer (some ⟨B, 0, none⟩), .int .i64 bl, .int .u64 bl, .slice i.2.1 2 i.2.2.1, .pointer (some ⟨B, 1, none⟩), .int .i64 ba, .int .i64 (ba + 1), .int .u64 (ba + 1), .slice i.2.2.2.1 4 i.2.2.2.2.1, .pointer (some ⟨B, 2, none⟩), .int .i64 id, .int .u64 id, .slice i.2.2.2.2.2.1 4 i.2.2.2.2.2.2, .pointer (some ⟨B, 3, none⟩), .slice a n c, .int .i64 (n : Int), .int .u64 (n : Int), undef, undef, undef], defers := [] }) (fun i x => Hid (Below W.heap.size W x) ∧ Hid (AllSl x [(.slice i.2.2.2.2.2.1 4 i.2.2.2.2.2.2, putL id 4), (.slice i.2.2.2.1 4 i.2.2.2.2.1, putL (ba + 1) 4), (.slice i.2.1 2 i.2.2.1, putL bl 2)]) ∧ Hid (Sl .u8 x (.slice (some ⟨i.1, 0, none⟩) 4 4) [82, 86, 83, 49])) ?_ ?_
  · rintro ⟨L, a1, n1, a2, n2, a3, n3⟩ x ⟨K, S, Z⟩
    try dsimp only
    try dsimp only at S Z
    as_aux_lemma =>
      rw [wpPlan_one]
      simp only [nth_zero, nth_succ]
      go_wp2_with fail
      go_at_call 23
      refine (HP19.out _).mono ?_
      rintro e x1 ⟨a4, n4, rfl, hs, hb⟩
      have K1 : Hid (Below W.heap.size W x1) := K.out.trans (hb.mono K.out.size)
      have S1 := Lib.hid (S.out.put hb hs)
      have Z1 := Lib.hid (Z.out.below hb)
      clear hs hb
      go_wp2_with fail
      refine planPost_mk ⟨⟨x1, K1.out⟩, rfl⟩ ?_
      exact T42 (L, a1, n1, a2, n2, a3, n3, a4, n4) x1 ⟨K1, S1, Z1⟩
  intro T32
  refine plan_have (ι := Nat × Option Addr × Nat × Option Addr × Nat) (.one 14 (.one 19 (.one 20 (.one 21 .leaf)))) (fun i => { tmps := #[.agg #[.int .i64 bl, .int .i64 ba, .int .i64 id, .slice a n c], .pointer (some ⟨B, 0, none⟩), .slice none 0 0, .slice (some ⟨i.1, 0, none⟩) 4 4, .slice (some ⟨i.1, 0, none⟩) 4 4, .pointer (some ⟨B, 0, none⟩), .int .i64 bl, .int .u64 bl, .slice i.2.1 2 i.2.2.1, .pointer (some ⟨B, 1, none⟩), .int .i64 ba, .int .i64 (ba + 1), .int .u64 (ba + 1), .slice i.2.2.2.1 4 i.2.2.2.2, .pointer (some ⟨B, 2, none⟩), .int .i64 id, .int .u64 id, undef, .pointer (some ⟨B, 3, none⟩), .slice a n c, .int .i64 (n : Int), .int .u64 (n : Int), undef, undef, undef], defers := [] }) (fun i x => Hid (Below W.heap.size W x) ∧ Hid (AllSl x [(.slice i.2.2.2.1 4 i.2.2.2.2, putL (ba + 1) 4), (.slice i.2.1 2 i.2.2.1, putL bl 2)]) ∧ Hid (Sl .u8 x (.slice (some ⟨i.1, 0, none⟩) 4 4) [82, 86, 83, 49])) ?_ ?_
  · rintro ⟨L, a1, n1, a2, n2⟩ x ⟨K, S, Z⟩
    try dsimp only
    try dsimp only at S Z
    as_aux_lemma =>
      rw [wpPlan_one]
      simp only [nth_zero, nth_succ]
      go_wp2_with fail
      go_at_call 23
      refine (HP14.out _).mono ?_
      rintro e x1 ⟨a3, n3, rfl, hs, hb⟩
      have K1 : Hid (Below W.heap.size W x1) := K.out.trans (hb.mono K.out.size)
      have S1 := Lib.hid (S.out.put hb hs)
      have Z1 := Lib.hid (Z.out.below hb)
      clear hs hb
      go_wp2_with fail
      refine planPost_mk ⟨⟨x1, K1.out⟩, rfl⟩ ?_
      exact T32 (L, a1, n1, a2, n2, a3, n3) x1 ⟨K1, S1, Z1⟩
  intro T22
  refine plan_have (ι := Nat × Option Addr × Nat) (.one 10 (.one 14 (.one 19 (.one 20 (.one 21 .leaf))))) (fun i => { tmps := #[.agg #[.int .i64 bl, .int .i64 ba, .int .i64 id, .slice a n c], .pointer (some ⟨B, 0, none⟩), .slice none 0 0, .slice (some ⟨i.1, 0, none⟩) 4 4, .slice (some ⟨i.1, 0, none⟩) 4 4, .pointer (some ⟨B, 0, none⟩), .int .i64 bl, .int .u64 bl, .slice i.2.1 2 i.2.2, .pointer (some ⟨B, 1, none⟩), .int .i64 ba, .int .i64 (ba + 1), .int .u64 (ba + 1), undef, .pointer (some ⟨B, 2, none⟩), .int .i64 id, .int .u64 id, undef, .pointer (some ⟨B, 3, none⟩), .slice a n c, .int .i64 (n : Int), .int .u64 (n : Int), undef, undef, undef], defers := [] }) (fun i x => Hid (Below W.heap.size W x) ∧ Hid (AllSl x [(.slice i.2.1 2 i.2.2, putL bl 2)]) ∧ Hid (Sl .u8 x (.slice (some ⟨i.1, 0, none⟩) 4 4) [82, 86, 83, 49])) ?_ ?_
  · rintro ⟨L, a1, n1⟩ x ⟨K, S, Z⟩
    try dsimp only
    try dsimp only at S Z
    as_aux_lemma =>
      rw [wpPlan_one]
      simp only [nth_zero, nth_succ]
      go_wp2_with fail
      go_at_call 23
      refine (HP10.out _).mono ?_
      rintro e x1 ⟨a2, n2, rfl, hs, hb⟩
      have K1 : Hid (Below W.heap.size W x1) := K.out.trans (hb.mono K.out.size)
      have S1 := Lib.hid (S.out.put hb hs)
      have Z1 := Lib.hid (Z.out.below hb)
      clear hs hb
      go_wp2_with fail
      refine planPost_mk ⟨⟨x1, K1.out⟩, rfl⟩ ?_
      exact T22 (L, a1, n1, a2, n2) x1 ⟨K1, S1, Z1⟩
  intro T12
  refine plan_have (ι := Nat) (.one 5 (.one 10 (.one 14 (.one 19 (.one 20 (.one 21 .leaf)))))) (fun i => { tmps := #[.agg #[.int .i64 bl, .int .i64 ba, .int .i64 id, .slice a n c], .pointer (some ⟨B, 0, none⟩), .slice none 0 0, .slice (some ⟨i, 0, none⟩) 4 4, .slice (some ⟨i, 0, none⟩) 4 4, .pointer (some ⟨B, 0, none⟩), .int .i64 bl, .int .u64 bl, undef, .pointer (some ⟨B, 1, none⟩), .int .i64 ba, .int .i64 (ba + 1), .int .u64 (ba + 1), undef, .pointer (some ⟨B, 2, none⟩), .int .i64 id, .int .u64 id, undef, .pointer (some ⟨B, 3, none⟩), .slice a n c, .int .i64 (n : Int), .int .u64 (n : Int), undef, undef, undef], defers := [] }) (fun i x => Hid (Below W.heap.size W x) ∧ Hid (AllSl x []) ∧ Hid (Sl .u8 x (.slice (some ⟨i, 0, none⟩) 4 4) [82, 86, 83, 49])) ?_ ?_
  · rintro L x ⟨K, S, Z⟩
    try dsimp only
    try dsimp only at S Z
    as_aux_lemma =>
      rw [wpPlan_one]
      simp only [nth_zero, nth_succ]
      go_wp2_with fail
      go_at_call 23
      refine (HP5.out _).mono ?_
      rintro e x1 ⟨a1, n1, rfl, hs, hb⟩
      have K1 : Hid (Below W.heap.size W x1) := K.out.trans (hb.mono K.out.size)
      have S1 := Lib.hid (S.out.put hb hs)
      have Z1 := Lib.hid (Z.out.below hb)
      clear hs hb
      go_wp2_with fail
      refine planPost_mk ⟨⟨x1, K1.out⟩, rfl⟩ ?_
      exact T12 (L, a1, n1) x1 ⟨K1, S1, Z1⟩
  intro T02
  refine plan_have (ι := Nat × Option Addr × Nat × Option Addr × Nat × Option Addr × Nat × Option Addr × Nat) (.one 1 (.one 20 (.one 21 .leaf))) (fun i => { tmps := #[.agg #[.int .i64 bl, .int .i64 ba, .int .i64 id, .slice a n c], .pointer (some ⟨B, 0, none⟩), .slice none 0 0, .slice (some ⟨i.1, 0, none⟩) 4 4, undef, .pointer (some ⟨B, 0, none⟩), .int .i64 bl, .int .u64 bl, .slice i.2.1 2 i.2.2.1, .pointer (some ⟨B, 1, none⟩), .int .i64 ba, .int .i64 (ba + 1), .int .u64 (ba + 1), .slice i.2.2.2.1 4 i.2.2.2.2.1, .pointer (some ⟨B, 2, none⟩), .int .i64 id, .int .u64 id, .slice i.2.2.2.2.2.1 4 i.2.2.2.2.2.2.1, .pointer (some ⟨B, 3, none⟩), .slice a n c, .int .i64 (n : Int), .int .u64 (n : Int), .slice i.2.2.2.2.2.2.2.1 2 i.2.2.2.2.2.2.2.2, undef, undef], defers := [] }) (fun i x => Hid (Below W.heap.size W x) ∧ Hid (AllSl x [(.slice i.2.2.2.2.2.2.2.1 2 i.2.2.2.2.2.2.2.2, putL (n : Int) 2), (.slice i.2.2.2.2.2.1 4 i.2.2.2.2.2.2.1, putL id 4), (.slice i.2.2.2.1 4 i.2.2.2.2.1, putL (ba + 1) 4), (.slice i.2.1 2 i.2.2.1, putL bl 2)]) ∧ Hid (W.heap.size ≤ i.1 ∧ x.heap[i.1]? = some (.cells (u8s [82, 86, 83, 49]).toArray 5 (0, 0)))) ?_ ?_
  · rintro ⟨L, a1, n1, a2, n2, a3, n3, a4, n4⟩ x ⟨K, S, Z⟩
    try dsimp only
    try dsimp only at S Z
    as_aux_lemma =>
      rw [wpPlan_one]
      simp only [nth_zero, nth_succ]
      obtain ⟨x1, CV, hbl, hsz, hcs⟩ := conv_mark x L (u8s [82, 86, 83, 49]).toArray 4 4 Z.out.2
      have K1 : Hid (Below W.heap.size W x1) := K.out.trans (hbl.mono Z.out.1)
      have S1 := Lib.hid (S.out.cells hsz hcs)
      have Z1 : Hid (Sl .u8 x1 (.slice (some ⟨L, 0, none⟩) 4 4) [82, 86, 83, 49]) := (sl_new (g := L) (xs := [82, 86, 83, 49]) Z.out.2 (by simp [maxLen])).cells hsz hcs
      clear hbl hsz hcs
      go_wp2_with fail
      refine planPost_mk ⟨⟨x1, K1.out⟩, rfl⟩ ?_
      exact T42 (L, a1, n1, a2, n2, a3, n3, a4, n4) x1 ⟨K1, S1, Z1⟩
  intro T41
  refine plan_have (ι := Nat × Option Addr × Nat × Option Addr × Nat × Option Addr × Nat) (.two 1 19 (.one 19 (.one 20 (.one 21 .leaf))) (.one 1 (.one 20 (.one 21 .leaf)))) (fun i => { tmps := #[.agg #[.int .i64 bl, .int .i64 ba, .int .i64 id, .slice a n c], .pointer (some ⟨B, 0, none⟩), .slice none 0 0, .slice (some ⟨i.1, 0, none⟩) 4 4, undef, .pointer (some ⟨B, 0, none⟩), .int .i64 bl, .int .u64 bl, .slice i.2.1 2 i.2.2.1, .pointer (some ⟨B, 1, none⟩), .int .i64 ba, .int .i64 (ba + 1), .int .u64 (ba + 1), .slice i.2.2.2.1 4 i.2.2.2.2.1, .pointer (some ⟨B, 2, none⟩), .int .i64 id, .int .u64 id, .slice i.2.2.2.2.2.1 4 i.2.2.2.2.2.2, .pointer (some ⟨B, 3, none⟩), .slice a n c, .int .i64 (n : Int), .int .u64 (n : Int), undef, undef, undef], defers := [] }) (fun i x => Hid (Below W.heap.size W x) ∧ Hid (AllSl x [(.slice i.2.2.2.2.2.1 4 i.2.2.2.2.2.2, putL id 4), (.slice i.2.2.2.1 4 i.2.2.2.2.1, putL (ba + 1) 4), (.slice i.2.1 2 i.2.2.1, putL bl 2)]) ∧ Hid (W.heap.size ≤ i.1 ∧ x.heap[i.1]? = some (.cells (u8s [82, 86, 83, 49]).toArray 5 (0, 0)))) ?_ ?_
  · rintro ⟨L, a1, n1, a2, n2, a3, n3⟩ x ⟨K, S, Z⟩
    try dsimp only
    try dsimp only at S Z
    as_aux_lemma =>
      rw [wpPlan_two]
      refine ⟨?_, ?_⟩
      · skip
        simp only [nth_zero, nth_succ]
        obtain ⟨x1, CV, hbl, hsz, hcs⟩ := conv_mark x L (u8s [82, 86, 83, 49]).toArray 4 4 Z.out.2
        have K1 : Hid (Below W.heap.size W x1) := K.out.trans (hbl.mono Z.out.1)
        have S1 := Lib.hid (S.out.cells hsz hcs)
        have Z1 : Hid (Sl .u8 x1 (.slice (some ⟨L, 0, none⟩) 4 4) [82, 86, 83, 49]) := (sl_new (g := L) (xs := [82, 86, 83, 49]) Z.out.2 (by simp [maxLen])).cells hsz hcs
        clear hbl hsz hcs
        go_wp2_with fail
        refine planPost_mk ⟨⟨x1, K1.out⟩, rfl⟩ ?_
        exact T32 (L, a1, n1, a2, n2, a3, n3) x1 ⟨K1, S1, Z1⟩
      · skip
        simp only [nth_zero, nth_succ]
        go_wp2_with fail
        go_at_call 23
        refine (HP19.out _).mono ?_
        rintro e x1 ⟨a4, n4, rfl, hs, hb⟩
        have K1 : Hid (Below W.heap.size W x1) := K.out.trans (hb.mono K.out.size)
        have S1 := Lib.hid (S.out.put hb hs)
        have Z1 : Hid (W.heap.size ≤ L ∧ x1.heap[L]? = some (.cells (u8s [82, 86, 83, 49]).toArray 5 (0, 0))) := ⟨Z.out.1, (hb.block L (Array.getElem?_eq_some_iff.1 Z.out.2).1).trans Z.out.2⟩
        clear hs hb
        go_wp2_with fail
        refine planPost_mk ⟨⟨x1, K1.out⟩, rfl⟩ ?_
        exact T41 (L, a1, n1, a2, n2, a3, n3, a4, n4) x1 ⟨K1, S1, Z1⟩
  intro T31
  refine plan_have (ι := Nat × Option Addr × Nat × Option Addr × Nat) (.two 1 14 (.one 14 (.one 19 (.one 20 (.one 21 .leaf)))) (.two 1 19 (.one 19 (.one 20 (.one 21 .leaf))) (.one 1 (.one 20 (.one 21 .leaf))))) (fun i => { tmps := #[.agg #[.int .i64 bl, .int .i64 ba, .int .i64 id, .slice a n c], .pointer (some ⟨B, 0, none⟩), .slice none 0 0, .slice (some ⟨i.1, 0, none⟩) 4 4, undef, .pointer (some ⟨B, 0, none⟩), .int .i64 bl, .int .u64 bl, .slice i.2.1 2 i.2.2.1, .pointer (some ⟨B, 1, none⟩), .int .i64 ba, .int .i64 (ba + 1), .int .u64 (ba + 1), .slice i.2.2.2.1 4 i.2.2.2.2, .pointer (some ⟨B, 2, none⟩), .int .i64 id, .int .u64 id, undef, .pointer (some ⟨B, 3, none⟩), .slice a n c, .int .i64 (n : Int), .int .u64 (n : Int), undef, undef, undef], defers := [] }) (fun i x => Hid (Below W.heap.size W x) ∧ Hid (AllSl x [(.slice i.2.2.2.1 4 i.2.2.2.2, putL (ba + 1) 4), (.slice i.2.1 2 i.2.2.1, putL bl 2)]) ∧ Hid (W.heap.size ≤ i.1 ∧ x.heap[i.1]? = some (.cells (u8s [82, 86, 83, 49]).toArray 5 (0, 0)))) ?_ ?_
  · rintro ⟨L, a1, n1, a2, n2⟩ x ⟨K, S, Z⟩
    try dsimp only
    try dsimp only at S Z
    as_aux_lemma =>
      rw [wpPlan_two]
      refine ⟨?_, ?_⟩
      · skip
        simp only [nth_zero, nth_succ]
        obtain ⟨x1, CV, hbl, hsz, hcs⟩ := conv_mark x L (u8s [82, 86, 83, 49]).toArray 4 4 Z.out.2
        have K1 : Hid (Below W.heap.size W x1) := K.out.trans (hbl.mono Z.out.1)
        have S1 := Lib.hid (S.out.cells hsz hcs)
        have Z1 : Hid (Sl .u8 x1 (.slice (some ⟨L, 0, none⟩) 4 4) [82, 86, 83, 49]) := (sl_new (g := L) (xs := [82, 86, 83, 49]) Z.out.2 (by simp [maxLen])).cells hsz hcs
        clear hbl hsz hcs
        go_wp2_with fail
        refine planPost_mk ⟨⟨x1, K1.out⟩, rfl⟩ ?_
        exact T22 (L, a1, n1, a2, n2) x1 ⟨K1, S1, Z1⟩
      · skip
        simp only [nth_zero, nth_succ]
        go_wp2_with fail
        go_at_call 23
        refine (HP14.out _).mono ?_
        rintro e x1 ⟨a3, n3, rfl, hs, hb⟩
        have K1 : Hid (Below W.heap.size W x1) := K.out.trans (hb.mono K.out.size)
        have S1 := Lib.hid (S.out.put hb hs)
        have Z1 : Hid (W.heap.size ≤ L ∧ x1.heap[L]? = some (.cells (u8s [82, 86, 83, 49]).toArray 5 (0, 0))) := ⟨Z.out.1, (hb.block L (Array.getElem?_eq_some_iff.1 Z.out.2).1).trans Z.out.2⟩
        clear hs hb
        go_wp2_with fail
        refine planPost_mk ⟨⟨x1, K1.out⟩, rfl⟩ ?_
        exact T31 (L, a1, n1, a2, n2, a3, n3) x1 ⟨K1, S1, Z1⟩
  intro T21
  refine plan_have (ι := Nat × Option Addr × Nat) (.two 1 10 (.one 10 (.one 14 (.one 19 (.one 20 (.one 21 .leaf))))) (.two 1 14 (.one 14 (.one 19 (.one 20 (.one 21 .leaf)))) (.two 1 19 (.one 19 (.one 20 (.one 21 .leaf))) (.one 1 (.one 20 (.one 21 .leaf)))))) (fun i => { tmps := #[.agg #[.int .i64 bl, .int .i64 ba, .int .i64 id, .slice a n c], .pointer (some ⟨B, 0, none⟩), .slice none 0 0, .slice (some ⟨i.1, 0, none⟩) 4 4, undef, .pointer (some ⟨B, 0, none⟩), .int .i64 bl, .int .u64 bl, .slice i.2.1 2 i.2.2, .pointer (some ⟨B, 1, none⟩), .int .i64 ba, .int .i64 (ba + 1), .int .u64 (ba + 1), undef, .pointer (some ⟨B, 2, none⟩), .int .i64 id, .int .u64 id, undef, .pointer (some ⟨B, 3, none⟩), .slice a n c, .int .i64 (n : Int), .int .u64 (n : Int), undef, undef, undef], defers := [] }) (fun i x => Hid (Below W.heap.size W x) ∧ Hid (AllSl x [(.slice i.2.1 2 i.2.2, putL bl 2)]) ∧ Hid (W.heap.size ≤ i.1 ∧ x.heap[i.1]? = some (.cells (u8s [82, 86, 83, 49]).toArray 5 (0, 0)))) ?_ ?_
  · rintro ⟨L, a1, n1⟩ x ⟨K, S, Z⟩
    try dsimp only
    try dsimp only at S Z
    as_aux_lemma =>
      rw [wpPlan_two]
      refine ⟨?_, ?_⟩
      · skip
        simp only [nth_zero, nth_succ]
        obtain ⟨x1, CV, hbl, hsz, hcs⟩ := conv_mark x L (u8s [82, 86, 83, 49]).toArray 4 4 Z.out.2
        have K1 : Hid (Below W.heap.size W x1) := K.out.trans (hbl.mono Z.out.1)
        have S1 := Lib.hid (S.out.cells hsz hcs)
        have Z1 : Hid (Sl .u8 x1 (.slice (some ⟨L, 0, none⟩) 4 4) [82, 86, 83, 49]) := (sl_new (g := L) (xs := [82, 86, 83, 49]) Z.out.2 (by simp [maxLen])).cells hsz hcs
        clear hbl hsz hcs
        go_wp2_with fail
        refine planPost_mk ⟨⟨x1, K1.out⟩, rfl⟩ ?_
        exact T12 (L, a1, n1) x1 ⟨K1, S1, Z1⟩
      · skip
        simp only [nth_zero, nth_succ]
        go_wp2_with fail
        go_at_call 23
        refine (HP10.out _).mono ?_
        rintro e x1 ⟨a2, n2, rfl, hs, hb⟩
        have K1 : Hid (Below W.heap.size W x1) := K.out.trans (hb.mono K.out.size)
        have S1 := Lib.hid (S.out.put hb hs)
        have Z1 : Hid (W.heap.size ≤ L ∧ x1.heap[L]? = some (.cells (u8s [82, 86, 83, 49]).toArray 5 (0, 0))) := ⟨Z.out.1, (hb.block L (Array.getElem?_eq_some_iff.1 Z.out.2).1).trans Z.out.2⟩
        clear hs hb
        go_wp2_with fail
        refine planPost_mk ⟨⟨x1, K1.out⟩, rfl⟩ ?_
        exact T21 (L, a1, n1, a2, n2) x1 ⟨K1, S1, Z1⟩
  intro T11
  refine plan_have (ι := Nat) (.two 1 5 (.one 5 (.one 10 (.one 14 (.one 19 (.one 20 (.one 21 .leaf)))))) (.two 1 10 (.one 10 (.one 14 (.one 19 (.one 20 (.one 21 .leaf))))) (.two 1 14 (.one 14 (.one 19 (.one 20 (.one 21 .leaf)))) (.two 1 19 (.one 19 (.one 20 (.one 21 .leaf))) (.one 1 (.one 20 (.one 21 .leaf))))))) (fun i => { tmps := #[.agg #[.int .i64 bl, .int .i64 ba, .int .i64 id, .slice a n c], .pointer (some ⟨B, 0, none⟩), .slice none 0 0, .slice (some ⟨i, 0, none⟩) 4 4, undef, .pointer (some ⟨B, 0, none⟩), .int .i64 bl, .int .u64 bl, undef, .pointer (some ⟨B, 1, none⟩), .int .i64 ba, .int .i64 (ba + 1), .int .u64 (ba + 1), undef, .pointer (some ⟨B, 2, none⟩), .int .i64 id, .int .u64 id, undef, .pointer (some ⟨B, 3, none⟩), .slice a n c, .int .i64 (n : Int), .int .u64 (n : Int), undef, undef, undef], defers := [] }) (fun i x => Hid (Below W.heap.size W x) ∧ Hid (AllSl x []) ∧ Hid (W.heap.size ≤ i ∧ x.heap[i]? = some (.cells (u8s [82, 86, 83, 49]).toArray 5 (0, 0)))) ?_ ?_
  · rintro L x ⟨K, S, Z⟩
    try dsimp only
    try dsimp only at S Z
    as_aux_lemma =>
      rw [wpPlan_two]
      refine ⟨?_, ?_⟩
      · skip
        simp only [nth_zero, nth_succ]
        obtain ⟨x1, CV, hbl, hsz, hcs⟩ := conv_mark x L (u8s [82, 86, 83, 49]).toArray 4 4 Z.out.2
        have K1 : Hid (Below W.heap.size W x1) := K.out.trans (hbl.mono Z.out.1)
        have S1 := Lib.hid (S.out.cells hsz hcs)
        have Z1 : Hid (Sl .u8 x1 (.slice (some ⟨L, 0, none⟩) 4 4) [82, 86, 83, 49]) := (sl_new (g := L) (xs := [82, 86, 83, 49]) Z.out.2 (by simp [maxLen])).cells hsz hcs
        clear hbl hsz hcs
        go_wp2_with fail
        refine planPost_mk ⟨⟨x1, K1.out⟩, rfl⟩ ?_
        exact T02 L x1 ⟨K1, S1, Z1⟩
      · skip
        simp only [nth_zero, nth_succ]
        go_wp2_with fail
        go_at_call 23
        refine (HP5.out _).mono ?_
        rintro e x1 ⟨a1, n1, rfl, hs, hb⟩
        have K1 : Hid (Below W.heap.size W x1) := K.out.trans (hb.mono K.out.size)
        have S1 := Lib.hid (S.out.put hb hs)
        have Z1 : Hid (W.heap.size ≤ L ∧ x1.heap[L]? = some (.cells (u8s [82, 86, 83, 49]).toArray 5 (0, 0))) := ⟨Z.out.1, (hb.block L (Array.getElem?_eq_some_iff.1 Z.out.2).1).trans Z.out.2⟩
        clear hs hb
        go_wp2_with fail
        refine planPost_mk ⟨⟨x1, K1.out⟩, rfl⟩ ?_
        exact T11 (L, a1, n1) x1 ⟨K1, S1, Z1⟩
  intro T01
  refine plan_have (ι := Option Addr × Nat × Option Addr × Nat × Option Addr × Nat × Option Addr × Nat) (.one 0 (.one 1 (.one 20 (.one 21 .leaf)))) (fun i => { tmps := #[.agg #[.int .i64 bl, .int .i64 ba, .int .i64 id, .slice a n c], .pointer (some ⟨B, 0, none⟩), .slice none 0 0, undef, undef, .pointer (some ⟨B, 0, none⟩), .int .i64 bl, .int .u64 bl, .slice i.1 2 i.2.1, .pointer (some ⟨B, 1, none⟩), .int .i64 ba, .int .i64 (ba + 1), .int .u64 (ba + 1), .slice i.2.2.1 4 i.2.2.2.1, .pointer (some ⟨B, 2, none⟩), .int .i64 id, .int .u64 id, .slice i.2.2.2.2.1 4 i.2.2.2.2.2.1, .pointer (some ⟨B, 3, none⟩), .slice a n c, .int .i64 (n : Int), .int .u64 (n : Int), .slice i.2.2.2.2.2.2.1 2 i.2.2.2.2.2.2.2, undef, undef], defers := [] }) (fun i x => Hid (Below W.heap.size W x) ∧ Hid (AllSl x [(.slice i.2.2.2.2.2.2.1 2 i.2.2.2.2.2.2.2, putL (n : Int) 2), (.slice i.2.2.2.2.1 4 i.2.2.2.2.2.1, putL id 4), (.slice i.2.2.1 4 i.2.2.2.1, putL (ba + 1) 4), (.slice i.1 2 i.2.1, putL bl 2)])) ?_ ?_
  · rintro ⟨a1, n1, a2, n2, a3, n3, a4, n4⟩ x ⟨K, S⟩
    try dsimp only
    try dsimp only at S Z
    as_aux_lemma =>
      rw [wpPlan_one]
      simp only [nth_zero, nth_succ]
      obtain ⟨x1, hx⟩ : ∃ y, x.alloc (.cells (u8s [82, 86, 83, 49]).toArray 5) = y := ⟨_, rfl⟩
      have SB : (Instr.buildSlice 25 4 #[(0, .int .u8 82), (1, .int .u8 86), (2, .int .u8 83), (3, .int .u8 49)]).run Try.prog x = .ok (.slice (some ⟨x.heap.size, 0, none⟩) 4 4) x1 := by rw [← hx]; exact slice_magic x
      have hb : Below x.heap.size x x1 := by rw [← hx]; exact below_new x _
      have hs : x1.heap[x.heap.size]? = some (.cells (u8s [82, 86, 83, 49]).toArray 5 (0, 0)) := by rw [← hx]; exact heap_alloc_new x _
      have K1 : Hid (Below W.heap.size W x1) := K.out.trans (hb.mono K.out.size)
      obtain ⟨L, hL⟩ : ∃ L, x.heap.size = L := ⟨_, rfl⟩
      have hWL : W.heap.size ≤ L := by rw [← hL]; exact K.out.size
      rw [hL] at SB hs
      have S1 := Lib.hid (S.out.below hb)
      have Z1 : Hid (W.heap.size ≤ L ∧ x1.heap[L]? = some (.cells (u8s [82, 86, 83, 49]).toArray 5 (0, 0))) := ⟨hWL, hs⟩
      clear hs hb hx hL hWL
      refine wpList_build_run _ _ _ rfl rfl _ _ rfl SB ?_
      clear SB
      go_wp2_with fail
      refine planPost_mk ⟨⟨x1, K1.out⟩, rfl⟩ ?_
      exact T41 (L, a1, n1, a2, n2, a3, n3, a4, n4) x1 ⟨K1, S1, Z1⟩
  intro T40
  refine plan_have (ι := Option Addr × Nat × Option Addr × Nat × Option Addr × Nat) (.two 0 19 (.two 1 19 (.one 19 (.one 20 (.one 21 .leaf))) (.one 1 (.one 20 (.one 21 .leaf)))) (.one 0 (.one 1 (.one 20 (.one 21 .leaf))))) (fun i => { tmps := #[.agg #[.int .i64 bl, .int .i64 ba, .int .i64 id, .slice a n c], .pointer (some ⟨B, 0, none⟩), .slice none 0 0, undef, undef, .pointer (some ⟨B, 0, none⟩), .int .i64 bl, .int .u64 bl, .slice i.1 2 i.2.1, .pointer (some ⟨B, 1, none⟩), .int .i64 ba, .int .i64 (ba + 1), .int .u64 (ba + 1), .slice i.2.2.1 4 i.2.2.2.1, .pointer (some ⟨B, 2, none⟩), .int .i64 id, .int .u64 id, .slice i.2.2.2.2.1 4 i.2.2.2.2.2, .pointer (some ⟨B, 3, none⟩), .slice a n c, .int .i64 (n : Int), .int .u64 (n : Int), undef, undef, undef], defers := [] }) (fun i x => Hid (Below W.heap.size W x) ∧ Hid (AllSl x [(.slice i.2.2.2.2.1 4 i.2.2.2.2.2, putL id 4), (.slice i.2.2.1 4 i.2.2.2.1, putL (ba + 1) 4), (.slice i.1 2 i.2.1, putL bl 2)])) ?_ ?_
  · rintro ⟨a1, n1, a2, n2, a3, n3⟩ x ⟨K, S⟩
    try dsimp only
    try dsimp only at S Z
    as_aux_lemma =>
      rw [wpPlan_two]
      refine ⟨?_, ?_⟩
      · skip
        simp only [nth_zero, nth_succ]
        obtain ⟨x1, hx⟩ : ∃ y, x.alloc (.cells (u8s [82, 86, 83, 49]).toArray 5) = y := ⟨_, rfl⟩
        have SB : (Instr.buildSlice 25 4 #[(0, .int .u8 82), (1, .int .u8 86), (2, .int .u8 83), (3, .int .u8 49)]).run Try.prog x = .ok (.slice (some ⟨x.heap.size, 0, none⟩) 4 4) x1 := by rw [← hx]; exact slice_magic x
        have hb : Below x.heap.size x x1 := by rw [← hx]; exact below_new x _
        have hs : x1.heap[x.heap.size]? = some (.cells (u8s [82, 86, 83, 49]).toArray 5 (0, 0)) := by rw [← hx]; exact heap_alloc_new x _
        have K1 : Hid (Below W.heap.size W x1) := K.out.trans (hb.mono K.out.size)
        obtain ⟨L, hL⟩ : ∃ L, x.heap.size = L := ⟨_, rfl⟩
        have hWL : W.heap.size ≤ L := by rw [← hL]; exact K.out.size
        rw [hL] at SB hs
        have S1 := Lib.hid (S.out.below hb)
        have Z1 : Hid (W.heap.size ≤ L ∧ x1.heap[L]? = some (.cells (u8s [82, 86, 83, 49]).toArray 5 (0, 0))) := ⟨hWL, hs⟩
        clear hs hb hx hL hWL
        refine wpList_build_run _ _ _ rfl rfl _ _ rfl SB ?_
        clear SB
        go_wp2_with fail
        refine planPost_mk ⟨⟨x1, K1.out⟩, rfl⟩ ?_
        exact T31 (L, a1, n1, a2, n2, a3, n3) x1 ⟨K1, S1, Z1⟩
      · skip
        simp only [nth_zero, nth_succ]
        go_wp2_with fail
        go_at_call 23
        refine (HP19.out _).mono ?_
        rintro e x1 ⟨a4, n4, rfl, hs, hb⟩
        have K1 : Hid (Below W.heap.size W x1) := K.out.trans (hb.mono K.out.size)
        have S1 := Lib.hid (S.out.put hb hs)
        clear hs hb
        go_wp2_with fail
        refine planPost_mk ⟨⟨x1, K1.out⟩, rfl⟩ ?_
        exact T40 (a1, n1, a2, n2, a3, n3, a4, n4) x1 ⟨K1, S1⟩
  intro T30
  refine plan_have (ι := Option Addr × Nat × Option Addr × Nat) (.two 0 14 (.two 1 14 (.one 14 (.one 19 (.one 20 (.one 21 .leaf)))) (.two 1 19 (.one 19 (.one 20 (.one 21 .leaf))) (.one 1 (.one 20 (.one 21 .leaf))))) (.two 0 19 (.two 1 19 (.one 19 (.one 20 (.one 21 .leaf))) (.one 1 (.one 20 (.one 21 .leaf)))) (.one 0 (.one 1 (.one 20 (.one 21 .leaf)))))) (fun i => { tmps := #[.agg #[.int .i64 bl, .int .i64 ba, .int .i64 id, .slice a n c], .pointer (some ⟨B, 0, none⟩), .slice none 0 0, undef, undef, .pointer (some ⟨B, 0, none⟩), .int .i64 bl, .int .u64 bl, .slice i.1 2 i.2.1, .pointer (some ⟨B, 1, none⟩), .int .i64 ba, .int .i64 (ba + 1), .int .u64 (ba + 1), .slice i.2.2.1 4 i.2.2.2, .pointer (some ⟨B, 2, none⟩), .int .i64 id, .int .u64 id, undef, .pointer (some ⟨B, 3, none⟩), .slice a n c, .int .i64 (n : Int), .int .u64 (n : Int), undef, undef, undef], defers := [] }) (fun i x => Hid (Below W.heap.size W x) ∧ Hid (AllSl x [(.slice i.2.2.1 4 i.2.2.2, putL (ba + 1) 4), (.slice i.1 2 i.2.1, putL bl 2)])) ?_ ?_
  · rintro ⟨a1, n1, a2, n2⟩ x ⟨K, S⟩
    try dsimp only
    try dsimp only at S Z
    as_aux_lemma =>
      rw [wpPlan_two]
      refine ⟨?_, ?_⟩
      · skip
        simp only [nth_zero, nth_succ]
        obtain ⟨x1, hx⟩ : ∃ y, x.alloc (.cells (u8s [82, 86, 83, 49]).toArray 5) = y := ⟨_, rfl⟩
        have SB : (Instr.buildSlice 25 4 #[(0, .int .u8 82), (1, .int .u8 86), (2, .int .u8 83), (3, .int .u8 49)]).run Try.prog x = .ok (.slice (some ⟨x.heap.size, 0, none⟩) 4 4) x1 := by rw [← hx]; exact slice_magic x
        have hb : Below x.heap.size x x1 := by rw [← hx]; exact below_new x _
        have hs : x1.heap[x.heap.size]? = some (.cells (u8s [82, 86, 83, 49]).toArray 5 (0, 0)) := by rw [← hx]; exact heap_alloc_new x _
        have K1 : Hid (Below W.heap.size W x1) := K.out.trans (hb.mono K.out.size)
        obtain ⟨L, hL⟩ : ∃ L, x.heap.size = L := ⟨_, rfl⟩
        have hWL : W.heap.size ≤ L := by rw [← hL]; exact K.out.size
        rw [hL] at SB hs
        have S1 := Lib.hid (S.out.below hb)
        have Z1 : Hid (W.heap.size ≤ L ∧ x1.heap[L]? = some (.cells (u8s [82, 86, 83, 49]).toArray 5 (0, 0))) := ⟨hWL, hs⟩
        clear hs hb hx hL hWL
        refine wpList_build_run _ _ _ rfl rfl _ _ rfl SB ?_
        clear SB
        go_wp2_with fail
        refine planPost_mk ⟨⟨x1, K1.out⟩, rfl⟩ ?_
        exact T21 (L, a1, n1, a2, n2) x1 ⟨K1, S1, Z1⟩
      · skip
        simp only [nth_zero, nth_succ]
        go_wp2_with fail
        go_at_call 23
        refine (HP14.out _).mono ?_
        rintro e x1 ⟨a3, n3, rfl, hs, hb⟩
        have K1 : Hid (Below W.heap.size W x1) := K.out.trans (hb.mono K.out.size)
        have S1 := Lib.hid (S.out.put hb hs)
        clear hs hb
        go_wp2_with fail
        refine planPost_mk ⟨⟨x1, K1.out⟩, rfl⟩ ?_
        exact T30 (a1, n1, a2, n2, a3, n3) x1 ⟨K1, S1⟩
  intro T20
  refine plan_have (ι := Option Addr × Nat) (.two 0 10 (.two 1 10 (.one 10 (.one 14 (.one 19 (.one 20 (.one 21 .leaf))))) (.two 1 14 (.one 14 (.one 19 (.one 20 (.one 21 .leaf)))) (.two 1 19 (.one 19 (.one 20 (.one 21 .leaf))) (.one 1 (.one 20 (.one 21 .leaf)))))) (.two 0 14 (.two 1 14 (.one 14 (.one 19 (.one 20 (.one 21 .leaf)))) (.two 1 19 (.one 19 (.one 20 (.one 21 .leaf))) (.one 1 (.one 20 (.one 21 .leaf))))) (.two 0 19 (.two 1 19 (.one 19 (.one 20 (.one 21 .leaf))) (.one 1 (.one 20 (.one 21 .leaf)))) (.one 0 (.one 1 (.one 20 (.one 21 .leaf))))))) (fun i => { tmps := #[.agg #[.int .i64 bl, .int .i64 ba, .int .i64 id, .slice a n c], .pointer (some ⟨B, 0, none⟩), .slice none 0 0, undef, undef, .pointer (some ⟨B, 0, none⟩), .int .i64 bl, .int .u64 bl, .slice i.1 2 i.2, .pointer (some ⟨B, 1, none⟩), .int .i64 ba, .int .i64 (ba + 1), .int .u64 (ba + 1), undef, .pointer (some ⟨B, 2, none⟩), .int .i64 id, .int .u64 id, undef, .pointer (some ⟨B, 3, none⟩), .slice a n c, .int .i64 (n : Int), .int .u64 (n : Int), undef, undef, undef], defers := [] }) (fun i x => Hid (Below W.heap.size W x) ∧ Hid (AllSl x [(.slice i.1 2 i.2, putL bl 2)])) ?_ ?_
  · rintro ⟨a1, n1⟩ x ⟨K, S⟩
    try dsimp only
    try dsimp only at S Z
    as_aux_lemma =>
      rw [wpPlan_two]
      refine ⟨?_, ?_⟩
      · skip
        simp only [nth_zero, nth_succ]
        obtain ⟨x1, hx⟩ : ∃ y, x.alloc (.cells (u8s [82, 86, 83, 49]).toArray 5) = y := ⟨_, rfl⟩
        have SB : (Instr.buildSlice 25 4 #[(0, .int .u8 82), (1, .int .u8 86), (2, .int .u8 83), (3, .int .u8 49)]).run Try.prog x = .ok (.slice (some ⟨x.heap.size, 0, none⟩) 4 4) x1 := by rw [← hx]; exact slice_magic x
        have hb : Below x.heap.size x x1 := by rw [← hx]; exact below_new x _
        have hs : x1.heap[x.heap.size]? = some (.cells (u8s [82, 86, 83, 49]).toArray 5 (0, 0)) := by rw [← hx]; exact heap_alloc_new x _
        have K1 : Hid (Below W.heap.size W x1) := K.out.trans (hb.mono K.out.size)
        obtain ⟨L, hL⟩ : ∃ L, x.heap.size = L := ⟨_, rfl⟩
        have hWL : W.heap.size ≤ L := by rw [← hL]; exact K.out.size
        rw [hL] at SB hs
        have S1 := Lib.hid (S.out.below hb)
        have Z1 : Hid (W.heap.size ≤ L ∧ x1.heap[L]? = some (.cells (u8s [82, 86, 83, 49]).toArray 5 (0, 0))) := ⟨hWL, hs⟩
        clear hs hb hx hL hWL
        refine wpList_build_run _ _ _ rfl rfl _ _ rfl SB ?_
        clear SB
        go_wp2_with fail
        refine planPost_mk ⟨⟨x1, K1.out⟩, rfl⟩ ?_
        exact T11 (L, a1, n1) x1 ⟨K1, S1, Z1⟩
      · skip
        simp only [nth_zero, nth_succ]
        go_wp2_with fail
        go_at_call 23
        refine (HP10.out _).mono ?_
        rintro e x1 ⟨a2, n2, rfl, hs, hb⟩
        have K1 : Hid (Below W.heap.size W x1) := K.out.trans (hb.mono K.out.size)
        have S1 := Lib.hid (S.out.put hb hs)
        clear hs hb
        go_wp2_with fail
        refine planPost_mk ⟨⟨x1, K1.out⟩, rfl⟩ ?_
        exact T20 (a1, n1, a2, n2) x1 ⟨K1, S1⟩
  intro T10
  have S : Hid (AllSl x0 []) := AllSl.nil _
  obtain ⟨x, hx0⟩ : ∃ x, x0 = x := ⟨_, rfl⟩
  rw [hx0] at S K0
  try rw [hx0]
  clear hx0
  have K := K0
  rw [wpPlan_two]
  refine ⟨?_, ?_⟩
  · skip
    simp only [nth_zero, nth_succ]
    obtain ⟨x1, hx⟩ : ∃ y, x.alloc (.cells (u8s [82, 86, 83, 49]).toArray 5) = y := ⟨_, rfl⟩
    have SB : (Instr.buildSlice 25 4 #[(0, .int .u8 82), (1, .int .u8 86), (2, .int .u8 83), (3, .int .u8 49)]).run Try.prog x = .ok (.slice (some ⟨x.heap.size, 0, none⟩) 4 4) x1 := by rw [← hx]; exact slice_magic x
    have hb : Below x.heap.size x x1 := by rw [← hx]; exact below_new x _
    have hs : x1.heap[x.heap.size]? = some (.cells (u8s [82, 86, 83, 49]).toArray 5 (0, 0)) := by rw [← hx]; exact heap_alloc_new x _
    have K1 : Hid (Below W.heap.size W x1) := K.out.trans (hb.mono K.out.size)
    obtain ⟨L, hL⟩ : ∃ L, x.heap.size = L := ⟨_, rfl⟩
    have hWL : W.heap.size ≤ L := by rw [← hL]; exact K.out.size
    rw [hL] at SB hs
    have S1 := Lib.hid (S.out.below hb)
    have Z1 : Hid (W.heap.size ≤ L ∧ x1.heap[L]? = some (.cells (u8s [82, 86, 83, 49]).toArray 5 (0, 0))) := ⟨hWL, hs⟩
    clear hs hb hx hL hWL
    refine wpList_build_run _ _ _ rfl rfl _ _ rfl SB ?_
    clear SB
    go_wp2_with fail
    refine planPost_mk ⟨⟨x1, K1.out⟩, rfl⟩ ?_
    exact T01 L x1 ⟨K1, S1, Z1⟩
  · skip
    simp only [nth_zero, nth_succ]
    go_wp2_with fail
    go_at_call 23
    refine (HP5.out _).mono ?_
    rintro e x1 ⟨a1, n1, rfl, hs, hb⟩
    have K1 : Hid (Below W.heap.size W x1) := K.out.trans (hb.mono K.out.size)
    have S1 := Lib.hid (S.out.put hb hs)
    clear hs hb
    go_wp2_with fail
    refine planPost_mk ⟨⟨x1, K1.out⟩, rfl⟩ ?_
    exact T10 (a1, n1) x1 ⟨K1, S1⟩
end Go.Proofs.Ytlnljanhnodhkaa

/- The developers' Encode of a stream. -/
namespace Go.Proofs.Ytlnljanhnodhkaa
open Go.RowKit Go.Shelf
set_option linter.unusedVariables false
set_option linter.unusedSimpArgs false
attribute [-simp] Try.isAgg39 Try.zeroValue39 Try.isAgg24 Try.zeroValue24
attribute [-go_sem] loadVar storeVar
attribute [local go_sem] loadVar_openRS storeVar_openRS zero_rc zero_sm
attribute [local go_sem] Oper.semAt_some

/-- Two blocks are as they were. -/
def KpS (W : World) (B C : Nat) : Type := {x : World // x.heap[B]? = W.heap[B]? ∧ x.heap[C]? = W.heap[C]?}
instance (W : World) (B C : Nat) : Nonempty (KpS W B C) := ⟨⟨W, rfl, rfl⟩⟩
theorem KpS.fst {W : World} {B C : Nat} {t : TypeId} {c : List Value} (z : KpS W B C) (h : RowC W B t c) : RowC z.1 B t c := z.2.1.trans h
theorem KpS.snd {W : World} {B C : Nat} {t : TypeId} {c : List Value} (z : KpS W B C) (h : RowC W C t c) : RowC z.1 C t c := z.2.2.trans h
theorem kpS_of {W x : World} {B C : Nat} {t u : TypeId} {c d : List Value} (h1 : RowC W B t c) (h2 : RowC W C u d) (h3 : RowC x B t c) (h4 : RowC x C u d) : x.heap[B]? = W.heap[B]? ∧ x.heap[C]? = W.heap[C]? := ⟨Eq.trans h3 h1.symm, Eq.trans h4 h2.symm⟩
/-- What is written when k records are through. -/
def toB (s : SM) (k : Nat) : List Int := sld (hdB s) ++ rsB (s.re.take k)
theorem toB_zero (s : SM) : toB s 0 = sld (hdB s) := by simp [toB, rsB_nil]
theorem toB_succ {s : SM} {k : Nat} {x : RC} (h : s.re[k]? = some x) : toB s (k + 1) = toB s k ++ sld (rcB x) := by unfold toB; rw [rsB_snoc h, List.append_assoc]
theorem toB_all (s : SM) : toB s s.re.length = bodyB s := by unfold toB bodyB; rw [List.take_length]
theorem toB_len {s : SM} (h : sGood s) (k : Nat) : (toB s k).length ≤ 300000 := by
  have h1 : rsLen (s.re.take k) ≤ (s.re.take k).length * 4109 := rsLen_le fun x hx => by
    obtain ⟨j, hj⟩ := List.getElem?_of_mem (List.mem_of_mem_take hx)
    exact h.len hj
  have h2 := h.many
  have h3 : (s.re.take k).length ≤ 64 := by rw [List.length_take]; omega
  simp only [toB, List.length_append, sld_length, hdB_length, rsB_length]
  have : (s.re.take k).length * 4109 ≤ 64 * 4109 := Nat.mul_le_mul_right _ h3
  omega

/-- What a round of Encode keeps; the bytes lie below H. -/
structure CoI (B D H : Nat) (bl ba id : Int) (x : SlV) (s : SM) (w : World) (k : Nat) (W : World) : Prop where
  bb : ∃ u : SlV, RowC W D 25 [slV u] ∧ OwnB w W (slV u) (toB s k) ∧ ∀ j, (slV u).ownBlock = some j → j < H
  lb : RowC W (D + 1) 22 [slV x]
  be : Below B w W
theorem CoI.own {B D H N k : Nat} {bl ba id : Int} {v : SlV} {s : SM} {w x y : World} {row : Option Nat} (h : CoI B D H bl ba id v s w k x) (hB : B ≤ w.heap.size) (hN : w.heap.size ≤ N) (hg : x.grownBy y row) (hr : ∀ r, row = some r → N ≤ r ∧ ∃ o : Obj, x.heap[r]? = some o ∧ o.isCells = false) : CoI B D H bl ba id v s w k y := by
  obtain ⟨u, h1, h2, h3⟩ := h.bb
  exact ⟨⟨u, rowC_own h1 hg hr, row_own h2 hg hr, h3⟩, rowC_own h.lb hg hr, below_own h.be hB hg (fun r e => ⟨by have := (hr r e).1; omega, (hr r e).2⟩)⟩
theorem CoI.below {B D H k : Nat} {bl ba id : Int} {v : SlV} {s : SM} {w x y : World} (h : CoI B D H bl ba id v s w k x) (hB : B ≤ x.heap.size) (hb : Below x.heap.size x y) : CoI B D H bl ba id v s w k y := by
  obtain ⟨u, h1, h2, h3⟩ := h.bb
  exact ⟨⟨u, h1.below hb, OwnB.below h2 hb, h3⟩, h.lb.below hb, h.be.trans (hb.mono hB)⟩
theorem own_setS {W x : World} {B : Nat} {t : TypeId} {C : List Value} {v u : Value} {bs : List Int} (h : OwnB W x v bs) (hB : RowC x B t C) (hne : 5 ≠ t) (j : Nat) : OwnB W (x.setCell ⟨B, j, none⟩ u) v bs :=
  h.kept (grownBy_setCellJ x B j u) (.inr (row_ne h hB hne))

set_option maxRecDepth 100000 in
set_option maxHeartbeats 8000000 in
/-- **Encode** of what may not be. -/
theorem sm_encodeN {w : World} {v : Value} {s : SM} (h : Smi w v s) (hn : ¬ sGood s) : Calls Try.prog 10 #[v] w fun e w' => e = .returned (.tuple #[.slice none 0 0, .int .i64 11]) ∧ Below w.heap.size w w' := by
  have HG : Hid (∀ y : World, Below w.heap.size w y → Calls Try.prog 12 #[v] y fun e w' => e = .returned (.bool false) ∧ Below y.heap.size y w') := fun y hy => calls_no (sm_good (h.below hy)) hn
  obtain ⟨r, ⟨⟨⟨xa, xn, xc⟩, rfl, hR⟩, ib, ia, ii⟩⟩ := h
  obtain ⟨bl, hbl⟩ : ∃ b, s.bl = b := ⟨_, rfl⟩
  obtain ⟨ba, hba⟩ : ∃ b, s.ba = b := ⟨_, rfl⟩
  obtain ⟨id, hid⟩ : ∃ b, s.id = b := ⟨_, rfl⟩
  rw [hbl, hba, hid] at HG ⊢
  obtain ⟨X, hX⟩ : ∃ X, w.alloc (.cells #[.int .i64 bl, .int .i64 ba, .int .i64 id, .slice xa xn xc] 24) = X := ⟨_, rfl⟩
  have k1 : RowC X w.heap.size 24 (smL bl ba id (xa, xn, xc)) := by rw [← hX]; exact RowC.new w _ _
  have hXb : Below w.heap.size w X := by rw [← hX]; exact below_new w _
  have HXB := Lib.hid hXb
  have LS := load_smC k1
  have HG2 := Lib.hid (HG.out X hXb)
  simp only [smV, slV] at LS HG2 ⊢
  clear hXb k1 hbl hba hid hR ib ia ii HG hn
  go_enter Try.func10, Try.ntmps10
  go_wp2_with fail
  refine HG2.out.mono ?_
  rintro e y ⟨rfl, hy⟩
  have HY : Hid (Below w.heap.size w y) := HXB.out.trans (hy.mono HXB.out.size)
  clear hy
  go_wp2_with fail
  refine bodyPost_ret (results_tmp2 rfl _ _ _) rfl ?_
  exact ⟨rfl, HY.out⟩

set_option maxRecDepth 100000 in
set_option maxHeartbeats 8000000 in
/-- **Encode** of what may be. -/
theorem sm_encode {w : World} {v : Value} {s : SM} (h : Smi w v s) (hg : sGood s) : Calls Try.prog 10 #[v] w fun e w' => ∃ u, e = .returned (.tuple #[u, .int .i64 0]) ∧ OwnB w w' u (encB s) ∧ Below w.heap.size w w' := by
  have hmx : Try.prog.follows .mixedOrders = true := by kernel_rfl
  have hok := h.ok
  have HG : Hid (∀ y : World, Below w.heap.size w y → Calls Try.prog 12 #[v] y fun e w' => e = .returned (.bool true) ∧ Below y.heap.size y w') := fun y hy => calls_yes (sm_good (h.below hy)) hg
  obtain ⟨r, ⟨⟨⟨xa, xn, xc⟩, rfl, hR⟩, ib, ia, ii⟩⟩ := h
  have HS := Lib.hid hR
  have hxn : xn = s.re.length := by obtain ⟨a', c', e, h1, h2⟩ := hR.len; cases e; rfl
  have HL := Lib.hid hxn
  have HSG := Lib.hid hg
  have HHB : Hid (∀ y : World, Calls Try.prog 20 #[smV s.bl s.ba s.id (xa, xn, xc)] y fun e w' => ∃ u, e = .returned u ∧ OwnB y w' u (hdB s) ∧ Below y.heap.size y w') := fun y => sm_headB hg.1 hxn (by have := hg.many; omega)
  obtain ⟨bl, hbl⟩ : ∃ b, s.bl = b := ⟨_, rfl⟩
  obtain ⟨ba, hba⟩ : ∃ b, s.ba = b := ⟨_, rfl⟩
  obtain ⟨id, hid⟩ : ∃ b, s.id = b := ⟨_, rfl⟩
  rw [hbl, hba, hid] at HG HHB ⊢
  obtain ⟨B, hB⟩ : ∃ B, w.heap.size = B := ⟨_, rfl⟩
  have HSZ := Lib.hid hB
  obtain ⟨X, hX⟩ : ∃ X, w.alloc (.cells #[.int .i64 bl, .int .i64 ba, .int .i64 id, .slice xa xn xc] 24) = X := ⟨_, rfl⟩
  have hXs : X.heap.size = B + 1 := by rw [← hX, ← hB]; simp
  have k1 : RowC X B 24 (smL bl ba id (xa, xn, xc)) := by rw [← hX, ← hB]; exact RowC.new w _ _
  have hXb : Below B w X := by rw [← hX, ← hB]; exact below_new w _
  have LS := load_smC k1
  have HG2 := Lib.hid (HG.out X (by rw [hB]; exact hXb))
  have K1 := Lib.hid k1
  have HXB := Lib.hid hXb
  have HXS := Lib.hid hXs
  simp only [smV, slV] at LS HG2 HHB ⊢
  clear hXb k1 hbl hba hid hR ib ia ii HG hg hxn hXs
  refine (callsIn_wide (n := 3)).1 ?_
  refine callsIn_of_wp_marks Try.func10 rfl trivial ?_ rfl
  simp only [Try.ntmps10, List.size_toArray, List.length_cons, List.length_nil, Nat.reduceAdd, Nat.reduceSub, Array.replicate_succ, Array.replicate_zero, List.push_toArray, List.append_toArray, List.nil_append, List.cons_append]
  gi_wp2_with fail
  refine ⟨trivial, ?_⟩
  gi_at_call 12
  refine (callsIn_wide.2 HG2.out).mono ?_
  rintro e y ⟨rfl, hy⟩
  have LS2 := load_smC (K1.out.below hy)
  have HY := Lib.hid hy
  simp only [smV, slV] at LS2
  clear hy LS
  gi_wp2_with fail
  refine ⟨trivial, ?_⟩
  gi_at_call 20
  refine (callsIn_wide.2 (HHB.out y)).mono ?_
  rintro e z ⟨u0, rfl, ho, hz⟩
  have HZ : Hid (Below X.heap.size X z) := HY.out.trans (hz.mono HY.out.size)
  have HCK := Lib.hid (sm_checked (w := z) (OwnB.sl ho) (isBytes_hdB s) (by rw [hdB_length]; omega))
  clear ho hz LS2
  gi_wp2_with fail
  refine ⟨trivial, ?_⟩
  gi_at_call 19
  refine (callsIn_wide.2 HCK.out).mono ?_
  rintro e q ⟨u1, rfl, ho, hq⟩
  obtain ⟨⟨ux, un, uc⟩, rfl, -⟩ := own_slV ho
  have hQ : Below X.heap.size X q := HZ.out.trans (hq.mono HZ.out.size)
  obtain ⟨D, hD⟩ : ∃ D, q.heap.size = D := ⟨_, rfl⟩
  have hDB : B + 1 ≤ D := by rw [← hD, ← HXS.out]; exact hQ.size
  have own1 : OwnB w q (slV (ux, un, uc)) (sld (hdB s)) := own_weakS ho (by rw [HSZ.out]; have := HZ.out.size; have := HXS.out; omega)
  obtain ⟨W1, hW1⟩ : ∃ W1, q.alloc (.cells #[.slice ux un uc] 25) = W1 := ⟨_, rfl⟩
  have hW1s : W1.heap.size = D + 1 := by rw [← hW1, ← hD]; simp
  have bY : Below q.heap.size q W1 := by rw [← hW1]; exact below_new q _
  have r1 : RowC W1 D 25 [slV (ux, un, uc)] := by rw [← hW1, ← hD]; exact RowC.new q _ _
  have o1 := OwnB.below own1 bY
  have b1 : Below B w W1 := (HXB.out.trans ((hQ.trans (bY.mono hQ.size)).mono (by have := HXS.out; omega)))
  have c3 : W1.cell? ⟨B, 3, none⟩ = some (.slice xa xn xc) := ((K1.out.below hQ).below bY).cell 3 _ rfl
  obtain ⟨W0, hW0⟩ : ∃ W0, W1.alloc (.cells #[.slice xa xn xc] 22) = W0 := ⟨_, rfl⟩
  have bW : Below W1.heap.size W1 W0 := by rw [← hW0]; exact below_new W1 _
  have m3 : RowC W0 (D + 1) 22 [slV (xa, xn, xc)] := by rw [← hW0, ← hW1s]; exact RowC.new W1 _ _
  have hWs : W0.heap.size = D + 2 := by rw [← hW0]; simp [hW1s]
  have I0 : CoI B D W0.heap.size bl ba id (xa, xn, xc) s w 0 W0 := ⟨⟨(ux, un, uc), r1.below bW, by rw [toB_zero]; exact OwnB.below o1 bW, fun j e => by
    have := (World.ownsRow.lt (OwnB.below o1 bW) j e).2
    exact this⟩, m3, b1.trans (bW.mono (by omega))⟩
  have hseq := records1_seq 2 (by omega) (D + 1) (.slice xa xn xc) r s.re W0
  rw [← HL.out] at hseq
  have HDB := Lib.hid hDB
  have HWS := Lib.hid hWs
  simp only [slV]
  clear own1 ho hq hQ bW b1 m3 o1 r1 bY
  gi_wp2_with (first | (refine ⟨trivial, ?_⟩; gi_at_call 21; refine (records_in _ _ trivial rfl _ _ _ _).mono ?_; rintro e w' ⟨rfl, rfl⟩))
  try rw [hW1]
  try rw [hW0]
  try rw [hW1s]
  try rw [hD]
  clear hW1 hW0 hW1s hD c3
  refine wpIn_rangeFunc_numB (n := 3) rfl (by omega) (gf := 34) (lb := #[.pointer (some ⟨D + 1, 0, none⟩)]) rfl trivial (enters_of Try.func34 (by kernel_rfl) rfl)
    hseq (Below.refl _ _) (fun _ => rfl)
    (fun H k W => CoI B D H bl ba id (xa, xn, xc) s w k W)
    (fun c k W => False)
    ?hR ?hI ?hup (fun c k Y Z row h => h.elim) I0
    (fun k a' W => ∃ C q, D + 1 < C ∧ r[k]? = some q ∧ RowC W C 39 (rvL q) ∧ a' = { tmps := #[.agg #[.int .i64 bl, .int .i64 ba, .int .i64 id, .slice xa xn xc], .pointer (some ⟨B, 0, none⟩), .slice none 0 0, .int .i64 0, .pointer (some ⟨D, 0, none⟩), undef, .pointer (some ⟨C, 0, none⟩), undef, .agg #[.int .i64 bl, .int .i64 ba, .int .i64 id, .slice xa xn xc], .bool true, .bool false, .agg #[.int .i64 bl, .int .i64 ba, .int .i64 id, .slice xa xn xc], u0, .slice ux un uc, .pointer (some ⟨B, 3, none⟩), .slice xa xn xc, .func (.func 34) #[] #[.pointer (some ⟨D + 1, 0, none⟩)], .int .i64 (leastAt s.re k), rvV q, undef, undef, undef, undef, undef, undef, undef, undef, undef, undef, undef, undef, undef], defers := [] })
    ?hAx ?assign ?body ?done ?stop
  case hR =>
    intro H k W g
    exact ⟨g.lb.cell 0 _ rfl, g.lb.lt, HS.out.below (by rw [HSZ.out]; exact g.be)⟩
  case hI =>
    intro H k Y Z row g hg hr
    exact g.own (by rw [HSZ.out]; exact Nat.le_refl _) (by have := HWS.out; have := HDB.out; have := HSZ.out; omega) hg hr
  case hup =>
    intro H k W g
    obtain ⟨u, h1, h2, h3⟩ := g.bb
    exact ⟨⟨u, h1, h2, fun j e => (World.ownsRow.lt h2 j e).2⟩, g.lb, g.be⟩
  case hAx =>
    rintro k a' _ Y Z row ⟨C, q, f1, f2, f3, f4⟩ hg hr
    exact ⟨C, q, f1, f2, rowC_own f3 hg hr, f4⟩
  case assign =>
    rintro lp H k W K hH hHW hkm g hK
    obtain ⟨q, s', hq, hs, -⟩ := rcR_at HS.out (k := k) (by rw [← HL.out]; exact hkm)
    have ST := new_rc W q
    have HZ : Hid (D + 1 < W.heap.size) := g.lb.lt
    have bN := below_new W (.cells (rvL q).toArray 39)
    have hK := hK _ _ (keepsFrom_below bN) (stay_below bN (Nat.le_refl _)) (g.below (by have := HZ.out; have := HDB.out; omega) bN) ⟨W.heap.size, q, HZ.out, hq, RowC.new W _ _, rfl⟩
    rw [encR_at hq]
    clear g hq hs bN
    gi_wp2
    exact hK
  case body =>
    rintro lp H G k a' W _ _ hH hHG hGW hkm g ⟨C, q, hC, hq, hx, rfl⟩
    obtain ⟨q', s', hq', hs, hqs⟩ := rcR_at HS.out (k := k) (by rw [← HL.out]; exact hkm)
    obtain rfl : q' = q := by rw [hq] at hq'; cases hq'; rfl
    obtain ⟨q1, q2, q3, ⟨da, dn, dc⟩⟩ := q'
    have eq1 := hqs.fr
    have eq2 := hqs.ct
    have eq3 := hqs.ze
    simp only at eq1 eq2 eq3
    obtain ⟨⟨bx, bn, bc⟩, g1, g2, g3⟩ := g.bb
    have gat := HSG.out.at hs
    have glen := HSG.out.len hs
    have gto := toB_len HSG.out k
    have hts := toB_succ hs
    have hso := hqs.ok
    have KD : Hid (Below W.heap.size W W.drew) := (Below.refl _ W).drew
    have hrec := sm_record (x := s') (d := (da, dn, dc)) (w := W.drew) ⟨by omega, by omega⟩ ⟨by omega, by omega⟩ (((hqs.da.below (by rw [HSZ.out]; exact g.be))).below KD.out) (by omega)
    rw [← eq1, ← eq2, ← eq3] at hrec
    have HRC := Lib.hid hrec
    have HBY : Hid (IsBytes (rcB s')) := isBytes_rcB hso.da
    have HLN : Hid ((rcB s').length ≤ 900000) := by show _ ≤ _; rw [rcB_length]; omega
    have HTS := Lib.hid hts
    have HTO : Hid ((toB s k).length ≤ 300000) := gto
    have HLS : Hid ((sld (rcB s')).length ≤ 5000) := by show _ ≤ _; rw [sld_length, rcB_length]; omega
    have G0 := Lib.hid g
    have G1 := Lib.hid g1
    have G2 := Lib.hid g2
    have G3 := Lib.hid g3
    have HX := Lib.hid hx
    have HHG : Hid (H ≤ G) := hHG
    have HGW : Hid (G ≤ W.heap.size) := hGW
    have HHD : Hid (D + 2 ≤ H) := by have := HWS.out; show _ ≤ _; omega
    have HBH : Hid (B + 1 ≤ D) := HDB.out
    have d1 : ∀ z : KpS W D C, z.1.cell? ⟨D, 0, none⟩ = some (slV (bx, bn, bc)) := fun z => (z.fst g1).cell 0 _ rfl
    have d2 : ∀ z : KpS W D C, (loadVar 39 ⟨C, 0, none⟩).run Try.prog z.1 = .ok (rvV (q1, q2, q3, (da, dn, dc))) z.1 := fun z => load_rcC (z.snd hx)
    clear hrec hso hts gto glen gat eq1 eq2 eq3 g g1 g2 g3 hx hq hq' hs hqs hHG hGW hkm hH hC
    simp only [rvV, slV] at d1 d2 HRC ⊢
    gi_wp2
    refine region_plan_round (fun x => ∃ z : KpS W D C, x = z.1) 5 (.takes [0, 1] (.one 2 (.one 3 (.one 4 .leaf)))) (letsOut_inBlock letsOut_numB) (by kernel_rfl) hmx (by kernel_rfl) (by intro c x v a w h; exact (h : False).elim) ⟨⟨W.drew, kpS_of G1.out HX.out (G1.out.below KD.out) (HX.out.below KD.out)⟩, rfl⟩ ?_
    repeat (rw [wpPlan_takes_cons]; simp only [nth_zero, nth_succ]; go_big_quiet_step (fail); refine wpQuiet_nil ?_)
    clear d1 d2
    rw [wpPlan_takes_nil, wpPlan_one]
    simp only [nth_zero, nth_succ]
    go_wp2_with fail
    go_at_call 22
    refine HRC.out.mono ?_
    rintro e y1 ⟨v1, rfl, o1, hb1⟩
    have K1 : Hid (Below W.heap.size W y1) := KD.out.trans (hb1.mono KD.out.size)
    have HCK := Lib.hid (sm_checked (w := y1) (OwnB.sl o1) HBY.out HLN.out)
    clear o1 hb1 HRC
    go_wp2_with fail
    refine planPost_mk ⟨⟨y1, kpS_of G1.out HX.out (G1.out.below K1.out) (HX.out.below K1.out)⟩, rfl⟩ ?_
    rw [wpPlan_one]
    simp only [nth_zero, nth_succ]
    go_wp2_with fail
    go_at_call 19
    refine HCK.out.mono ?_
    rintro e y2 ⟨v2, rfl, o2, hb2⟩
    have K2 : Hid (Below W.heap.size W y2) := K1.out.trans (hb2.mono K1.out.size)
    have ob := OwnB.below G2.out K2.out
    have hbe := (G0.out.below (by rw [← HSZ.out]; exact G0.out.be.size) K2.out).be
    obtain ⟨v3, y3, r3, o3, g3⟩ := run_append_bytes w.heap.size y2 _ (toB s k) ob v2 (sld (rcB s')) (OwnB.sl o2) (by have := HTO.out; have := HLS.out; omega) (by rw [HSZ.out]; exact (by have := hbe.size; rw [HSZ.out] at this; exact this))
    rw [← HTS.out] at o3
    obtain ⟨⟨vx, vn, vc⟩, rfl, -⟩ := own_slV o3
    have R3 := Lib.hid r3
    have O3 : Hid (OwnB w y3 (slV (vx, vn, vc)) (toB s (k + 1))) := o3
    have hrow : ∀ j, (slV (bx, bn, bc)).ownBlock = some j → j < H := G3.out
    have p1 : RowC y3 D 25 [slV (bx, bn, bc)] := (G1.out.below K2.out).grown g3 (row_ne ob (G1.out.below K2.out) (by decide))
    have p2 : RowC y3 C 39 (rvL (q1, q2, q3, (da, dn, dc))) := (HX.out.below K2.out).grown g3 (row_ne ob (HX.out.below K2.out) (by decide))
    have P1 := Lib.hid p1
    have P2 := Lib.hid p2
    have P3 : Hid (RowC y3 (D + 1) 22 [slV (xa, xn, xc)]) := (G0.out.lb.below K2.out).grown g3 (row_ne ob (G0.out.lb.below K2.out) (by decide))
    have P4 : Hid (Below B w y3) := hbe.grown g3 (by have := hbe.size; rw [HSZ.out] at this; exact this) (fun j e => by have := (World.ownsRow.lt ob j e).1; rw [HSZ.out] at this; exact this)
    have HKF : Hid (KeepsFrom W0.heap.size W y3) := keepsFrom_trans (keepsFrom_below K2.out) (keepsFrom_row ob g3)
    have HST : Hid (StayG H G W y3) := (stay_below K2.out HGW.out).trans (StayG.grown g3 (Nat.le_trans HGW.out K2.out.size) (fun j e => .inl (hrow j e)))
    have f3 := p1.frozen 0
    have e3 := p1.cell 0 _ rfl
    clear o2 hb2 ob hbe r3 o3 g3 hrow p1 p2 HCK
    go_wp2_with fail
    refine planPost_mk ⟨⟨y2, kpS_of G1.out HX.out (G1.out.below K2.out) (HX.out.below K2.out)⟩, rfl⟩ ?_
    rw [wpPlan_one]
    simp only [nth_zero, nth_succ]
    simp only [slV] at R3 e3
    refine wpList_append_run (.tmp 19) (.tmp 22) 25 rfl rfl _ _ _ rfl rfl (R3.out) ?_
    go_wp2_with fail
    refine planPost_mk ⟨⟨y3, kpS_of G1.out HX.out P1.out P2.out⟩, rfl⟩ ?_
    rw [wpPlan_leaf]
    simp only [List.drop_succ_cons, List.drop_zero]
    go_wp2_with fail
    have ofin := own_setS (u := slV (vx, vn, vc)) O3.out P1.out (by decide) 0
    exact ⟨⟨keepsFrom_trans HKF.out (keepsFrom_cells P1.out (grownBy_setCellJ y3 D 0 _)), HST.out.trans (stay_set (by have := HHD.out; omega) (Nat.le_trans HGW.out HST.out.1))⟩, ⟨⟨(vx, vn, vc), P1.out.set 0 _, ofin, fun j e => (World.ownsRow.lt ofin j e).2⟩, set_other P3.out (by omega) 0 _, set_below P4.out (by have := HBH.out; omega) 0 _⟩⟩
  case done =>
    rintro Dd W hD g hK
    obtain ⟨⟨bx, bn, bc⟩, g1, g2, -⟩ := g.bb
    rw [show toB s xn = bodyB s from by rw [HL.out]; exact toB_all s] at g2
    have hlb : (bodyB s).length ≤ 300000 := by have := toB_len HSG.out s.re.length; rwa [toB_all] at this
    have c1 := g1.cell 0 _ rfl
    have hsl := OwnB.sl g2
    have hib := isBytes_bodyB hok
    obtain ⟨ck, hck⟩ : ∃ ck, fnvMore fnvInit (bodyB s) = ck := ⟨_, rfl⟩
    have hu : IsU64 (fnvMore fnvInit (bodyB s)) := isU64_more (bodyB s) isU64_init
    rw [hck] at hu
    have HC := Lib.hid (check_any _ (bodyB s) W hsl hib)
    rw [hck] at HC
    have HP : Hid (∀ x : World, Calls Try.prog 23 #[.int .u64 ck, .int .i64 8] x fun e w' => ∃ a c, e = .returned (.slice a 8 c) ∧ Sl .u8 w' (.slice a 8 c) (putL ck 8) ∧ Below x.heap.size x w') := fun x => put_sl (x := x) ck 8 (by omega) (by omega) hu.1 hu.2
    have HSL := Lib.hid hsl
    have HE : Hid ([bodyB s, [69], putL ck 8].flatten = encB s) := by show _ = _; simp [encB, hck]
    have HLn : Hid ((encB s).length ≤ 1000000) := by show _ ≤ _; simp only [encB, List.length_append, putL_length, List.length_singleton]; omega
    have hbn : bn = (bodyB s).length := by obtain ⟨a', c', e, -⟩ := (show Sl _ _ _ _ from hsl); simp only [slV, Value.slice.injEq] at e; exact e.2.1
    have HBN := Lib.hid hbn
    have G1 := Lib.hid g1
    have HBE := Lib.hid g.be
    have HK := Lib.hid hK
    have HWD : Hid (Dd < W.heap.size) := (Array.getElem?_eq_some_iff.1 hK).1
    simp only [slV] at c1 HC HSL
    clear hlb hsl hib hu hck g1 g2 g hK hbn
    gi_step
    gi_step
    gi_step
    refine wpIn_wide.2 ?_
    go_wp2_with fail
    go_at_call 24
    refine HC.out.mono ?_
    rintro e y ⟨rfl, hy⟩
    have HY := Lib.hid hy
    clear hy HC c1
    go_wp2_with fail
    go_at_call 23
    refine (HP.out y).mono ?_
    rintro e z ⟨pa, pc, rfl, hs, hz⟩
    have HZ : Hid (Below W.heap.size W z) := HY.out.trans (hz.mono HY.out.size)
    have HPS := Lib.hid hs
    have c4 := (G1.out.below HZ.out).cell 0 _ rfl
    clear hs hz HP
    simp only [slV] at c4
    obtain ⟨z1, hz1⟩ : ∃ z1, z.alloc (.cells #[.int .u8 69] 5) = z1 := ⟨_, rfl⟩
    have b1 : Below z.heap.size z z1 := by rw [← hz1]; exact below_new _ _
    have o1 : OwnB w z1 (.slice (some ⟨z.heap.size, 0, none⟩) 1 1) [69] := by rw [← hz1]; exact ownB_one w z (Nat.le_trans (by rw [HSZ.out]; have := HBE.out.size; rw [HSZ.out] at this; exact this) HZ.out.size) 69
    have K1 : Hid (Below W.heap.size W z1) := HZ.out.trans (b1.mono HZ.out.size)
    have SS := Lib.hid (sls3 (HSL.out.below K1.out) (OwnB.sl o1) (HPS.out.below b1))
    obtain ⟨z2, hz2⟩ : ∃ z2, z1.alloc (.cells #[.slice bx bn bc, .slice (some ⟨z.heap.size, 0, none⟩) 1 1, .slice pa 8 pc] 25) = z2 := ⟨_, rfl⟩
    have b2 : Below z1.heap.size z1 z2 := by rw [← hz2]; exact below_new _ _
    have K2 : Hid (Below W.heap.size W z2) := K1.out.trans (b2.mono K1.out.size)
    rw [hz2] at SS
    rw [show z1.heap.size = z.heap.size + 1 from by rw [← hz1]; simp] at SS
    have HZ1 := Lib.hid hz1
    have HZ2 := Lib.hid hz2
    have HWW : Hid (w.heap.size ≤ z2.heap.size) := Nat.le_trans (by rw [HSZ.out]; have := HBE.out.size; rw [HSZ.out] at this; exact this) K2.out.size
    clear hz1 b1 o1 hz2 b2
    go_wp2_with fail
    gi_step
    refine wpIn_wide.2 ?_
    go_wp2_with fail
    go_at_call 25
    try rw [HZ1.out]
    try rw [HZ2.out]
    clear HZ1 HZ2
    refine (concat_own (W := w) SS.out HE.out HLn.out HWW.out).mono ?_
    rintro e u ⟨v, rfl, ho, hb⟩
    have HO := Lib.hid ho
    have HU : Hid (Below W.heap.size W u) := K2.out.trans (hb.mono K2.out.size)
    clear ho hb SS
    go_wp2_with fail
    gi_wp2
    have hK2 : u.heap[Dd]? = some (.deferred (some [])) := (HU.out.block Dd HWD.out).trans HK.out
    refine ⟨by simp, .inl ⟨_, _, rfl, run_takeDeferred hK2, ?_⟩⟩
    have hg2 := grownBy_putObj' u Dd (.deferred none)
    refine ⟨_, results_tmp2 rfl _ _ _, v, rfl, row_own (M := 0) HO.out hg2 (fun r e => by cases e; exact ⟨Nat.zero_le _, _, hK2, rfl⟩), ?_⟩
    rw [HSZ.out]
    exact (HBE.out.trans (HU.out.mono (by have := HBE.out.size; rw [HSZ.out] at this; exact this))).trans (belowK_b (w := w) (by rw [HSZ.out]; exact Nat.le_refl _) u Dd _ _ (by have := HWS.out; have := HDB.out; have := HSZ.out; omega) hK2 rfl rfl)
  case stop =>
    rintro Dd c k W hD _ h hK
    exact h.elim
end Go.Proofs.Ytlnljanhnodhkaa

/- What a method of a sector may turn: the sector's own cells, its versions' own block, and what is new. -/
namespace Go.Proofs.Ytlnljanhnodhkaa
open Go.RowKit
set_option linter.unusedVariables false

theorem keepsOthers_setCells (b : Nat) : ∀ (vs : List Value) (o : Nat) (w : World), KeepsOthers w (w.setCells b o vs)
  | [], _, w => KeepsOthers.refl w
  | v :: r, o, w => (KeepsOthers.setCell w _ v).trans (keepsOthers_setCells b r (o + 1) _)
theorem below_setCells {N b : Nat} (h : N ≤ b) : ∀ (vs : List Value) (o : Nat) (w : World), Below N w (w.setCells b o vs)
  | [], _, w => Below.refl N w
  | v :: r, o, w => ((Below.refl N w).setCell (p := ⟨b, o, none⟩) h v).trans (below_setCells h r (o + 1) _)
attribute [-simp] Try.isAgg41 Try.zeroValue41
attribute [-go_sem] loadVar storeVar
attribute [local go_sem] zero_blk build_blk loadVar_open storeVar_open

end Go.Proofs.Ytlnljanhnodhkaa

/- revetmentkeep.Fill, revetmentkeep.Ints. -/
namespace Go.Proofs.Ytlnljanhnodhkaa
open Go.RowKit
set_option linter.unusedVariables false
attribute [-simp] Try.isAgg41 Try.zeroValue41
attribute [-go_sem] loadVar storeVar
attribute [local go_sem] zero_blk build_blk loadVar_open storeVar_open

/-- The first k bytes are laid. -/
def fillTo (v : Int) (k : Nat) : List Value := List.replicate k (.int .u8 v) ++ List.replicate (64 - k) (.int .u8 0)
theorem fillTo_zero (v : Int) : (fillTo v 0).toArray = zarr := by simp [fillTo, zarr, fillB]
theorem fillTo_all (v : Int) : fillTo v 64 = fillB v := by simp [fillTo, fillB]
theorem fillTo_get (v : Int) (k : Nat) (h : k < 64) : (fillTo v k)[k]? = some (.int .u8 0) := by
  unfold fillTo
  rw [List.getElem?_append_right (by simp), List.length_replicate, Nat.sub_self]
  rw [List.getElem?_replicate, if_pos (by omega)]
theorem fillTo_next (v : Int) (k : Nat) (h : k < 64) : (fillTo v k).set k (.int .u8 v) = fillTo v (k + 1) := by
  unfold fillTo
  rw [List.set_append_right _ _ (by simp), show 64 - k = (64 - (k + 1)) + 1 by omega, List.replicate_succ (n := 64 - (k + 1))]
  simp [List.replicate_succ']

set_option maxRecDepth 100000 in
set_option maxHeartbeats 2000000 in
/-- **Fill**. -/
theorem fill_any (v : Int) (w : World) : Calls Try.prog 18 #[.int .u8 v] w fun e w' => e = .returned (.agg (fillB v).toArray) ∧ Below w.heap.size w w' := by
  obtain ⟨W, hW⟩ : ∃ W, w.alloc (.cells zarr 41) = W := ⟨_, rfl⟩
  have hsz : W.heap.size = w.heap.size + 1 := by rw [← hW]; simp
  have HB : Hid (Below w.heap.size w W) := by rw [← hW]; exact (Below.refl _ w).alloc (Nat.le_refl _) _
  have HSZ := Lib.hid hsz
  have hblk : W.heap[w.heap.size]? = some (.cells zarr 41 (0, 0)) := by rw [← hW]; exact heap_alloc_new w _
  have HBK := Lib.hid hblk
  clear hsz hblk
  go_enter Try.func18, Try.ntmps18
  go_wp2_with fail
  clear hW
  go_loopw [4] (fun i wr => ∃ k : Nat, k ≤ 64 ∧ i = .int .i64 k ∧ wr = W.alloc (.cells (fillTo v k).toArray 41)) (fun i _ => 64 - (intOf i).toNat)
  case atStart => exact ⟨0, Nat.zero_le _, rfl, by rw [fillTo_zero]⟩
  case round =>
    obtain ⟨k, hk, rfl, rfl⟩ := hrel
    by_cases hlt : k < 64
    · have c1 : (W.alloc (.cells (fillTo v k).toArray 41)).cell? ⟨W.heap.size, k, none⟩ = some (.int .u8 0) := by
        rw [cell_of_row _ _ _ _ _ _ (heap_alloc_new W _)]; simpa using fillTo_get v k hlt
      have f1 : (W.alloc (.cells (fillTo v k).toArray 41)).frozen? ⟨W.heap.size, k, none⟩ = false := by
        unfold World.frozen?
        rw [heap_alloc_new W _]
        simp
      have g1 : (k : Int) < 64 := by omega
      have HN := Lib.hid (fillTo_next v k hlt)
      have HLT := Lib.hid hlt
      clear hlt hk
      go_wp2
      exact ⟨⟨k + 1, HLT.out, by simp, by rw [HN.out]⟩, by have := HLT.out; simp [intOf]; omega⟩
    · obtain rfl : k = 64 := by omega
      rw [fillTo_all]
      obtain ⟨W2, hW2⟩ : ∃ W2, W.alloc (.cells (fillB v).toArray 41) = W2 := ⟨_, rfl⟩
      have L : (loadVar 41 ⟨W.heap.size, 0, none⟩).run Try.prog W2 = .ok (.agg (fillB v).toArray) W2 := by rw [← hW2]; exact load_new (by simp [(isBlk_fill v).length])
      have hblk : W2.heap[w.heap.size]? = some (.cells zarr 41 (0, 0)) := by rw [← hW2, Below.heap_alloc _ _ _ (by have := HSZ.out; omega)]; exact HBK.out
      have ht : W2.there w.heap.size 0 64 := fun j hj => by
        have hcell := cell_of_row W2 w.heap.size (0 + j) zarr _ _ hblk
        refine ⟨?_, ?_⟩
        · rw [hcell]; simp [zarr_size]; omega
        · simp [World.frozen?, hblk]
      obtain ⟨W3, hW3⟩ : ∃ W3, W2.setCells w.heap.size 0 (fillB v) = W3 := ⟨_, rfl⟩
      have S : (storeVar 41 ⟨w.heap.size, 0, none⟩ (.agg (fillB v).toArray)).run Try.prog W2 = .ok () W3 := by rw [← hW3]; exact store_blk ht (isBlk_fill v)
      have R : (loadVar 41 ⟨w.heap.size, 0, none⟩).run Try.prog W3 = .ok (.agg (fillB v).toArray) W3 := by
        rw [← hW3]; exact load_blk (World.rangeAt_setCells_same W2 _ 0 (fillB v) (by rw [(isBlk_fill v).length]; exact ht)) (isBlk_fill v).length
      have HB3 : Hid (Below w.heap.size w W3) := by
        have h2 : Below w.heap.size w W2 := by rw [← hW2]; exact HB.out.alloc HB.out.size _
        have h3 : Below w.heap.size W2 W3 := by
          rw [← hW3]
          exact below_setCells (Nat.le_refl _) _ _ _
        exact h2.trans h3
      have g1 : ¬ ((64 : Int) < 64) := by omega
      clear hblk ht hW3 hk hlt
      go_wp2_with fail
      exact bodyPost_ret (results_cell rfl rfl R) rfl ⟨rfl, HB3.out⟩
end Go.Proofs.Ytlnljanhnodhkaa

/- The guard that every statement on streams ends with. -/
namespace Go.Proofs.Ytlnljanhnodhkaa
open Go.RowKit Go.Shelf
set_option linter.unusedVariables false
set_option linter.unusedSimpArgs false
theorem loadVar_openRSB (t : TypeId) (h : t ≠ 39) (h' : t ≠ 24) (h'' : t ≠ 41) (a : Addr) : loadVar t a = (do if ← isAgg t then pure (.agg (← loadCells a (← sizeOf t))) else load a) := rfl
theorem storeVar_openRSB (t : TypeId) (h : t ≠ 39) (h' : t ≠ 24) (h'' : t ≠ 41) (a : Addr) (v : Value) : storeVar t a v = (do
    if v.cells.size ≠ (← sizeOf t) then stuck "storeVar: the value has not the size of the variable"
    storeCells a v.cells.toList) := rfl
set_option maxRecDepth 100000 in
theorem zero_smB (w : World) : (zeroValue 24).run Try.prog w = .ok (.agg #[.int .i64 0, .int .i64 0, .int .i64 0, .slice none 0 0]) w := by kernel_rfl
attribute [-simp] Try.isAgg39 Try.zeroValue39 Try.isAgg24 Try.zeroValue24 Try.isAgg41 Try.zeroValue41
attribute [-go_sem] loadVar storeVar
attribute [local go_sem] loadVar_openRSB storeVar_openRSB zero_rc zero_smB zero_blk build_rcZ build_rcD build_sm3 build_sm4

/-- A block filled with one byte, as a slice. -/
theorem sl_fill {W : World} {B : Nat} {v : Int} (h : RowC W B 41 (fillB v)) : Sl .u8 W (.slice (some ⟨B, 0, none⟩) 64 64) (List.replicate 64 v) := by
  have := Sl.at (k := .u8) (w := W) (b := B) (off := 0) (cap := 64) (bs := List.replicate 64 v) (by simp) (by unfold maxLen; omega) h.lt (fun j hj => by
    rw [Nat.zero_add]
    have hj' : j < 64 := by simpa using hj
    have := h.cell j (.int .u8 v) (by unfold fillB; rw [List.getElem?_replicate, if_pos hj'])
    rw [this, List.getElem?_replicate, if_pos hj']; rfl)
  simpa using this
theorem isBytes_rep {n : Nat} {v : Int} (h : 0 ≤ v ∧ v < 256) : IsBytes (List.replicate n v) := by
  intro j
  rw [List.getElem?_replicate]
  split
  · exact h
  · exact ⟨by decide, by decide⟩
theorem chunk_rep {v : Int} (h : v ≠ 0) (m : Nat) : ∀ j : Nat, j < m → chunkZ (List.replicate (64 * m) v) j = false := fun j hj => by
  unfold chunkZ
  have : ((List.replicate (64 * m) v).drop (64 * j)).take 64 = List.replicate 64 v := by
    rw [List.drop_replicate, List.take_replicate]; congr 1; omega
  rw [this]
  simp [allZ, h]
theorem i64_small {n : Int} (h : -1000000000 ≤ n ∧ n ≤ 1000000000) : I64 n := by unfold I64; omega
def wkA : RC := ⟨0, 1, true, []⟩
def wkB : RC := ⟨1, 1, false, List.replicate 64 7⟩
def wkS : SM := ⟨8, 1, 2, [wkA, wkB]⟩
def wkN : SM := ⟨8, -1, 1, [wkA, wkB]⟩
def wkF : SM := ⟨8, -1, 1, []⟩
theorem wkS_good : sGood wkS := by
  refine ⟨⟨by decide, by decide, by decide, by decide, .inr ⟨by decide, by decide⟩⟩, fun k x hk => ?_⟩
  match k with
  | 0 =>
    cases hk
    exact ⟨⟨by decide, by decide, by decide, by decide⟩, fun _ => ⟨by decide, rfl⟩, fun h => by cases h⟩
  | 1 =>
    cases hk
    have hl : leastAt wkS.re 1 = 1 := by show leastAt [wkA, wkB] 1 = 1; rw [leastAt_succ (p := wkA) (x := wkB) rfl rfl, least_ok (by decide) (by decide)]; rfl
    refine ⟨⟨by rw [hl]; decide, by decide, by decide, by decide⟩, (fun h => by cases h), fun _ => ⟨by simp [wkB], fun j hj => ?_⟩⟩
    have hj1 : j = 0 := by simp only [wkB] at hj; omega
    subst hj1
    exact chunk_rep (v := 7) (by decide) 1 0 (by decide)
  | k + 2 => cases hk
theorem wkN_bad : ¬ sGood wkN := fun h => ((h.2 0 wkA rfl).2.1 rfl).1 rfl
theorem wkF_good : sGood wkF := ⟨⟨by decide, by decide, by decide, by decide, .inl rfl⟩, fun k x hk => by cases hk⟩
theorem enc_at0 (s : SM) : (encB s)[0]? = some 82 := by simp [encB, bodyB, sld, hdB]
theorem enc_split (s : SM) : ∃ l, encB s = ([82, 86, 83, 49] ++ putL s.bl 2) ++ (putL (s.ba + 1) 4 ++ l) := ⟨_, by simp only [encB, bodyB, sld, hdB, List.append_assoc]; rfl⟩
theorem enc_at6 (s : SM) : (encB s)[6]? = some ((s.ba + 1) % 256) := by
  obtain ⟨l, e⟩ := enc_split s
  rw [e, List.getElem?_append_right (by simp [putL_length]), List.getElem?_append_left (by simp [putL_length])]
  simp [putL_length, putL]
set_option maxRecDepth 100000 in
theorem make5 (w : World) : (Instr.makeSlice 25 (.int .i64 5) (.int .i64 5)).run Try.prog w = .ok (.slice (some ⟨w.heap.size, 0, none⟩) 5 5) (w.alloc (.cells #[.int .u8 0, .int .u8 0, .int .u8 0, .int .u8 0, .int .u8 0] 5)) := by kernel_rfl
set_option maxRecDepth 100000 in
theorem slice_01 (w : World) : (Instr.buildSlice 25 2 #[(0, .int .u8 0), (1, .int .u8 1)]).run Try.prog w = .ok (.slice (some ⟨w.heap.size, 0, none⟩) 2 2) (w.alloc (.cells #[.int .u8 0, .int .u8 1] 5)) := by kernel_rfl
theorem sl_lit {xs : List Int} (w : World) (h : xs.length ≤ 1000) : Sl .u8 (w.alloc (.cells (u8s xs).toArray 5)) (.slice (some ⟨w.heap.size, 0, none⟩) xs.length xs.length) xs :=
  sl_new (g := w.heap.size) (xs := xs) (heap_alloc_new w _) (by unfold maxLen; omega)

set_option maxRecDepth 100000 in
set_option maxHeartbeats 8000000 in
/-- **The guard.** -/
theorem sm_wakes (w : World) : Calls Try.prog 8 #[] w fun e w' => e = .returned (.bool true) ∧ Below w.heap.size w w' := by
  have HF := Lib.hid (fill_any 7 w)
  go_enter Try.func8, Try.ntmps8
  go_wp2_with fail
  refine HF.out.mono ?_
  rintro e y ⟨rfl, hy⟩
  obtain ⟨D, hD⟩ : ∃ D, y.heap.size = D := ⟨_, rfl⟩
  have SF := store_fill y 7
  obtain ⟨Y, hY⟩ : ∃ Y, y.alloc (.cells (fillB 7).toArray 41) = Y := ⟨_, rfl⟩
  rw [hY, hD] at SF
  have hYs : Y.heap.size = D + 1 := by rw [← hY, ← hD]; simp
  have rY : RowC Y D 41 (fillB 7) := by rw [← hY, ← hD]; exact RowC.new y _ _
  have hYb : Below w.heap.size w Y := hy.trans (by rw [← hY]; exact (below_new y _).mono hy.size)
  -- the two records
  have S2 := slice_rc2 Y (0, 1, true, (none, 0, 0)) (1, 1, false, (some ⟨D, 0, none⟩, 64, 64))
  rw [hYs] at S2
  obtain ⟨Z, hZ⟩ : ∃ Z, Y.alloc (.cells (rvs [((0, 1, true, (none, 0, 0)) : RV), (1, 1, false, (some ⟨D, 0, none⟩, 64, 64))]).toArray 39) = Z := ⟨_, rfl⟩
  rw [hZ] at S2
  have hZs : Z.heap.size = D + 2 := by rw [← hZ]; simp [hYs]
  have bZ : Below Y.heap.size Y Z := by rw [← hZ]; exact below_new Y _
  have oZ : Z.ownsRow 0 39 4 (.slice (some ⟨D + 1, 0, none⟩) 2 2) 2 (rvs [((0, 1, true, (none, 0, 0)) : RV), (1, 1, false, (some ⟨D, 0, none⟩, 64, 64))]) := by
    rw [← hZ, ← hYs]
    exact World.ownsRow_lit Y (rvs [((0, 1, true, (none, 0, 0)) : RV), (1, 1, false, (some ⟨D, 0, none⟩, 64, 64))]).toArray 2 (Nat.zero_le _) (by simp [maxLen]) rfl
  have hR : RcR Z (.slice (some ⟨D + 1, 0, none⟩) 2 2) [((0, 1, true, (none, 0, 0)) : RV), (1, 1, false, (some ⟨D, 0, none⟩, 64, 64))] [wkA, wkB] := rcs_row rfl oZ fun j q s h1 h2 => by
    match j with
    | 0 => cases h1; cases h2; exact ⟨rfl, rfl, rfl, Sl.nil _ _, ⟨i64_small (by decide), i64_small (by decide), isBytes_nil⟩⟩
    | 1 => cases h1; cases h2; exact ⟨rfl, rfl, rfl, sl_fill (rY.below bZ), ⟨i64_small (by decide), i64_small (by decide), isBytes_rep (by decide)⟩⟩
    | j + 2 => cases h1
  have hZw : Below w.heap.size w Z := hYb.trans (bZ.mono hYb.size)
  have ST := new_sm Z 8 1 2 (some ⟨D + 1, 0, none⟩, 2, 2)
  obtain ⟨Q, hQ⟩ : ∃ Q, Z.alloc (.cells (smL 8 1 2 (some ⟨D + 1, 0, none⟩, 2, 2)).toArray 24) = Q := ⟨_, rfl⟩
  rw [hQ, hZs] at ST
  have bQ : Below Z.heap.size Z Q := by rw [← hQ]; exact below_new Z _
  have rQ : RowC Q (D + 2) 24 (smL 8 1 2 (some ⟨D + 1, 0, none⟩, 2, 2)) := by rw [← hQ, ← hZs]; exact RowC.new Z _ _
  have HQ : Hid (Below w.heap.size w Q) := hZw.trans (bQ.mono hZw.size)
  have HRQ : Hid (RcR Q (.slice (some ⟨D + 1, 0, none⟩) 2 2) [((0, 1, true, (none, 0, 0)) : RV), (1, 1, false, (some ⟨D, 0, none⟩, 64, 64))] [wkA, wkB]) := hR.below bQ
  have HSM : Hid (∀ x : World, Below Q.heap.size Q x → Smi x (smV 8 1 2 (some ⟨D + 1, 0, none⟩, 2, 2)) wkS) := fun x hx => ⟨_, ⟨⟨_, rfl, HRQ.out.below hx⟩, i64_small (by decide), i64_small (by decide), i64_small (by decide)⟩⟩
  have HSN : Hid (∀ x : World, Below Q.heap.size Q x → Smi x (smV 8 (-1) 1 (some ⟨D + 1, 0, none⟩, 2, 2)) wkN) := fun x hx => ⟨_, ⟨⟨_, rfl, HRQ.out.below hx⟩, i64_small (by decide), i64_small (by decide), i64_small (by decide)⟩⟩
  have HSF : Hid (∀ x : World, Smi x (smV 8 (-1) 1 (none, 0, 0)) wkF) := fun x => ⟨[], ⟨⟨_, rfl, RcR.nil _⟩, i64_small (by decide), i64_small (by decide), i64_small (by decide)⟩⟩
  have LQ := load_smC rQ
  have HE := Lib.hid (sm_encode (HSM.out Q (Below.refl _ _)) wkS_good)
  have RQ := Lib.hid rQ
  have S2 := Lib.hid S2
  clear hy rY hYb oZ hR hZw bZ bQ rQ HRQ
  simp only [smV, rvV, slV] at ST LQ HE S2
  go_wp2_with ((with_reducible refine gate_build ?_); refine wpList_build_run 22 2 _ rfl rfl [(0, _), (1, _)] _ rfl S2.out ?_)
  refine HE.out.mono ?_
  rintro e x ⟨u, rfl, ho, hx⟩
  obtain ⟨⟨ux, un, uc⟩, rfl, hun⟩ := own_slV ho
  have hl1 : (encB wkS).length = 123 := by rw [encB_length]; decide
  rw [hl1] at hun
  simp only at hun
  subst hun
  obtain ⟨g, hg1, hg2, hg3⟩ : ∃ g, ux = some ⟨g, 0, none⟩ ∧ g < x.heap.size ∧ x.rangeAt g 0 (u8s (encB wkS)) := by
    obtain ⟨ra, c', e', h'⟩ := row_lenT ho
    cases e'
    exact h' (by rw [hl1]; omega)
  subst hg1
  have hc0 : x.cell? ⟨g, 0, none⟩ = some (.int .u8 82) := by have := hg3 0 (.int .u8 82) (by simp [u8s, enc_at0]); rwa [Nat.zero_add] at this
  have hc6 : x.cell? ⟨g, 6, none⟩ = some (.int .u8 2) := by have := hg3 6 (.int .u8 2) (by simp [u8s, enc_at6, wkS]); rwa [Nat.zero_add] at this
  have HE2 := Lib.hid (sm_encode (HSF.out x) wkF_good)
  have HX := Lib.hid hx
  have HGL := Lib.hid hg2
  have LX := load_smC (RQ.out.below hx)
  have HC0 := Lib.hid hc0
  have HC6 := Lib.hid hc6
  simp only [smV, slV] at HE2 LX ⊢
  clear ho hl1 hg2 hg3 hx hc0 hc6 HE ST LQ S2
  go_wp2_with fail
  refine HE2.out.mono ?_
  rintro e y1 ⟨u2, rfl, ho, hx⟩
  obtain ⟨⟨fx, fn, fc⟩, rfl, hun⟩ := own_slV ho
  have hl2 : (encB wkF).length = 33 := by rw [encB_length]; decide
  rw [hl2] at hun
  simp only at hun
  subst hun
  have HY : Hid (Below Q.heap.size Q y1) := HX.out.trans (hx.mono HX.out.size)
  have hc0 : y1.cell? ⟨g, 0, none⟩ = some (.int .u8 82) := (hx.cell (p := ⟨g, 0, none⟩) HGL.out).trans HC0.out
  have hc6 : y1.cell? ⟨g, 6, none⟩ = some (.int .u8 2) := (hx.cell (p := ⟨g, 6, none⟩) HGL.out).trans HC6.out
  have LY := load_smC (RQ.out.below HY.out)
  have HG1 := Lib.hid (calls_yes (sm_good (HSM.out y1 HY.out)) wkS_good)
  simp only [smV, slV] at LY HG1 ⊢
  clear ho hl2 hx HE2 LX
  go_wp2_with fail
  refine HG1.out.mono ?_
  rintro e y2 ⟨rfl, hx⟩
  have HY2 : Hid (Below Q.heap.size Q y2) := HY.out.trans (hx.mono HY.out.size)
  have d3 := (RQ.out.below HY2.out).cell 3 _ rfl
  have HG2 := Lib.hid (calls_no (sm_good (HSN.out y2 HY2.out)) wkN_bad)
  simp only [smV, slV] at d3 HG2
  clear hx HG1 LY hc0 hc6
  go_wp2_with fail
  refine HG2.out.mono ?_
  rintro e y3 ⟨rfl, hx⟩
  have HY3 : Hid (Below Q.heap.size Q y3) := HY2.out.trans (hx.mono HY2.out.size)
  have MK := make5 y3
  have Z1 := Lib.hid (sm_zero (sl_lit (xs := [0, 0, 0, 0, 0]) y3 (by decide)))
  obtain ⟨y4, hy4⟩ : ∃ Y, y3.alloc (.cells #[.int .u8 0, .int .u8 0, .int .u8 0, .int .u8 0, .int .u8 0] 5) = Y := ⟨_, rfl⟩
  have e4 : y3.alloc (.cells (u8s [0, 0, 0, 0, 0]).toArray 5) = y4 := hy4
  rw [e4] at Z1
  rw [hy4] at MK
  have b4 : Below y3.heap.size y3 y4 := by rw [← hy4]; exact below_new y3 _
  have HY4 : Hid (Below Q.heap.size Q y4) := HY3.out.trans (b4.mono HY3.out.size)
  have S01 := slice_01 y4
  have Z2 := Lib.hid (sm_zero (sl_lit (xs := [0, 1]) y4 (by decide)))
  obtain ⟨y5, hy5⟩ : ∃ Y, y4.alloc (.cells #[.int .u8 0, .int .u8 1] 5) = Y := ⟨_, rfl⟩
  have e5 : y4.alloc (.cells (u8s [0, 1]).toArray 5) = y5 := hy5
  rw [e5] at Z2
  rw [hy5] at S01
  have b5 : Below y4.heap.size y4 y5 := by rw [← hy5]; exact below_new y4 _
  have HY5 : Hid (Below w.heap.size w y5) := HQ.out.trans ((HY4.out.trans (b5.mono HY4.out.size)).mono HQ.out.size)
  have MK := Lib.hid MK
  have S01 := Lib.hid S01
  clear hx HG2 d3 hy4 hy5 e4 e5 b4 b5
  go_wp2_with (first | ((with_reducible refine gate_make ?_); refine wpList_make_run _ _ _ rfl rfl _ _ _ rfl rfl MK.out ?_) | ((with_reducible refine gate_build ?_); refine wpList_build_run 25 2 _ rfl rfl [(0, _), (1, _)] _ rfl S01.out ?_))
  refine Z1.out.mono ?_
  rintro e y6 ⟨rfl, rfl⟩
  go_wp2_with ((with_reducible refine gate_build ?_); refine wpList_build_run 25 2 _ rfl rfl [(0, _), (1, _)] _ rfl S01.out ?_)
  refine Z2.out.mono ?_
  rintro e y7 ⟨rfl, rfl⟩
  go_wp2_with fail
  go_ret
  exact ⟨rfl, HY5.out⟩
end Go.Proofs.Ytlnljanhnodhkaa

/- revetmentkeep's Bytes: two rows of bytes held against each other. -/
namespace Go.Proofs.Ytlnljanhnodhkaa
open Go.RowKit Go.Shelf Go.Lib
set_option linter.unusedVariables false
set_option linter.unusedSimpArgs false
theorem strQ_inj {xs ys : List Int} (hx : IsBytes xs) (hy : IsBytes ys) (h : strOfNums xs = strOfNums ys) : xs = ys := by
  have h1 : (strOfNums xs).data.toList = (strOfNums ys).data.toList := by rw [h]
  rw [strOfNums_data, strOfNums_data] at h1
  have hl : xs.length = ys.length := by have := congrArg List.length h1; simpa using this
  refine List.ext_getElem hl fun i h2 h3 => ?_
  have h4 := congrArg (fun l : List UInt8 => l[i]?) h1
  simp only [List.getElem?_map, List.getElem?_eq_getElem h2, List.getElem?_eq_getElem h3, Option.map_some, Option.some.injEq] at h4
  have bx := hx i
  have by_ := hy i
  rw [List.getElem?_eq_getElem h2, Option.getD_some] at bx
  rw [List.getElem?_eq_getElem h3, Option.getD_some] at by_
  have h5 := congrArg UInt8.toNat h4
  have e : ∀ n : Int, 0 ≤ n → n < 256 → (UInt8.ofNat n.toNat).toNat = n.toNat := fun n h0 h1 => by
    rw [UInt8.toNat_ofNat']
    omega
  rw [e _ bx.1 bx.2, e _ by_.1 by_.2] at h5
  have := bx.1
  have := by_.1
  omega
set_option maxRecDepth 100000 in
set_option maxHeartbeats 2000000 in
/-- **Bytes**: two rows of bytes held against each other. -/
theorem eqk_bytes (va vb : Value) (xs ys : List Int) (w : World) (ha : Sl .u8 w va xs) (hb : Sl .u8 w vb ys) (hx : IsBytes xs) (hy : IsBytes ys) :
    Calls Try.prog 14 #[va, vb] w fun e w' => e = .returned (.bool (decide (xs = ys))) ∧ w' = w := by
  have k1 := conv_sl ha
  have k2 := conv_sl hb
  have heq : ((strOfNums xs).toList == (strOfNums ys).toList) = decide (xs = ys) := by
    by_cases h : xs = ys
    · subst h; simp
    · rw [decide_eq_false h]
      refine beq_eq_false_iff_ne.2 fun e => h (strQ_inj hx hy ?_)
      rw [Lib.strOfNums_toList, Lib.strOfNums_toList] at e
      unfold strOfNums
      rw [show (xs.map fun n => UInt8.ofNat n.toNat) = ys.map fun n => UInt8.ofNat n.toNat from e]
  have HE := Lib.hid heq
  clear ha hb hx hy heq
  go_enter Try.func14, Try.ntmps14
  go_wp2
  go_ret
  exact ⟨by rw [← HE.out]; rfl, rfl⟩
end Go.Proofs.Ytlnljanhnodhkaa

/- The helpers of the statements on streams: Fair, Copy; revetmentkeep's Streams. -/
namespace Go.Proofs.Ytlnljanhnodhkaa
open Go.RowKit Go.Shelf
set_option linter.unusedVariables false
set_option linter.unusedSimpArgs false
attribute [-simp] Try.isAgg39 Try.zeroValue39 Try.isAgg24 Try.zeroValue24
attribute [-go_sem] loadVar storeVar
attribute [local go_sem] loadVar_openRS storeVar_openRS zero_rc zero_smB

/-- No more than that is asked. -/
def smFair (s : SM) : Prop := s.re.length ≤ 70 ∧ ∀ x ∈ s.re, x.da.length ≤ 8000

set_option maxRecDepth 100000 in
set_option maxHeartbeats 8000000 in
/-- **Fair**. -/
theorem sm_fair {w : World} {v : Value} {s : SM} (h : Smi w v s) : Calls Try.prog 7 #[v] w fun e w' => ∃ t, e = .returned (.bool t) ∧ (t = true → smFair s) ∧ Below w.heap.size w w' := by
  obtain ⟨r, ⟨⟨⟨xa, xn, xc⟩, rfl, hR⟩, ib, ia, ii⟩⟩ := h
  have HS := Lib.hid hR
  have hxn : xn = s.re.length := by obtain ⟨a', c', e, h1, h2⟩ := hR.len; cases e; rfl
  obtain ⟨hlc, hcm⟩ : xn ≤ xc ∧ xc ≤ maxLen := by obtain ⟨a', c', e, h1, h2⟩ := hR.len; cases e; exact ⟨h1, h2⟩
  have HL := Lib.hid hxn
  have hmx : (xn : Int) ≤ 9223372036854775807 := by unfold maxLen at hcm; omega
  obtain ⟨bl, hbl⟩ : ∃ b, s.bl = b := ⟨_, rfl⟩
  obtain ⟨ba, hba⟩ : ∃ b, s.ba = b := ⟨_, rfl⟩
  obtain ⟨id, hid⟩ : ∃ b, s.id = b := ⟨_, rfl⟩
  obtain ⟨B, hB⟩ : ∃ B, w.heap.size = B := ⟨_, rfl⟩
  have HSZ := Lib.hid hB
  obtain ⟨X, hX⟩ : ∃ X, w.alloc (.cells #[.int .i64 bl, .int .i64 ba, .int .i64 id, .slice xa xn xc] 24) = X := ⟨_, rfl⟩
  have k1 : RowC X B 24 (smL bl ba id (xa, xn, xc)) := by rw [← hX, ← hB]; exact RowC.new w _ _
  have hXb : Below B w X := by rw [← hX, ← hB]; exact below_new w _
  have c3 := k1.cell 3 _ rfl
  have HXB := Lib.hid hXb
  have HRX : Hid (RcR X (.slice xa xn xc) r s.re) := hR.below (by rw [hB]; exact hXb)
  rw [hbl, hba, hid]
  simp only [smV, slV] at c3 ⊢
  clear k1 hXb hlc hcm ib ia ii hR hbl hba hid hxn
  go_enter Try.func7, Try.ntmps7
  go_wp2_with fail
  go_loop [3, 4] (fun nv iv => ∃ (k n : Nat), k ≤ xn ∧ iv = .int .i64 (k : Int) ∧ nv = .int .i64 (n : Int) ∧ Hid (n ≤ 8000) ∧ Hid (∀ x ∈ s.re.take k, x.da.length ≤ 8000)) (fun _ iv => xn - (intOf iv).toNat)
  case atStart => exact ⟨0, 0, Nat.zero_le _, rfl, rfl, Nat.zero_le _, fun x hx => by simp at hx⟩
  case round =>
    obtain ⟨k, n, hk, rfl, rfl, HN, HA⟩ := hrel
    by_cases hlt : k < xn
    · have g1 : (k : Int) < (xn : Int) := by omega
      have HLT := Lib.hid hlt
      have HW1 : Hid (wrap64 ((k : Int) + 1) = (k : Int) + 1) := IntWalk.wrap64_in _ (by omega)
      obtain ⟨x, hx⟩ : ∃ x, s.re[k]? = some x := ⟨_, List.getElem?_eq_getElem (by rw [← HL.out]; exact hlt)⟩
      obtain ⟨b, off, q, rfl, hbl, hrq, hqi, d1, d2, d3, d4⟩ := HRX.out.at hx
      obtain ⟨q1, q2, q3, ⟨da, dn, dc⟩⟩ := q
      have hdn : dn = x.da.length := (Sl.cellW hqi.da).1
      have HDN := Lib.hid hdn
      have hn8 := HN.out
      obtain ⟨m, hm⟩ : ∃ m, min dn 10000 = m := ⟨_, rfl⟩
      have hmin : ∀ (ts : Array TypeId) (t : TypeId) (W : World), (Builtin.min_ ts t #[.int .i64 (dn : Int), .int .i64 10000]).run Try.prog W = .ok (.int .i64 (m : Int)) W := fun ts t W => by
        rw [run_min_int2, ← hm]
        congr 2
        split <;> omega
      have HW2 : Hid (wrap64 ((n : Int) + (m : Int)) = ((n + m : Nat) : Int)) := by show _ = _; rw [show (n : Int) + (m : Int) = ((n + m : Nat) : Int) by omega]; exact IntWalk.wrap64_in _ (by omega)
      have HMM := Lib.hid hm
      have HTK : Hid (s.re.take (k + 1) = s.re.take k ++ [x]) := by show _ = _; rw [List.take_add_one, hx]; rfl
      simp only [slV] at d4
      clear hbl hrq hqi d1 d2 d3 hx hlt hdn hm
      by_cases h8 : 8000 < n + m
      · have q8 : decide (((n + m : Nat) : Int) > 8000) = true := by simp; omega
        have q8b : decide ((n : Int) + (m : Int) > 8000) = true := by simp; omega
        have w2 := HW2.out
        go_wp2_with fail
        go_ret
        first | exact ⟨false, rfl, (fun h => by cases h), by rw [HSZ.out]; exact HXB.out⟩ | exact .inl ⟨rfl, HXB.out⟩
      · have q8 : decide (((n + m : Nat) : Int) > 8000) = false := by simp; omega
        have q8b : decide ((n : Int) + (m : Int) > 8000) = false := by simp; omega
        have w2 := HW2.out
        have HN8 : Hid (n + m ≤ 8000) := by show _ ≤ _; omega
        clear h8
        go_wp2_with fail
        go_round
        case rel => exact ⟨k + 1, n + m, HLT.out, by first | (simp; done) | (rw [HW1.out]; simp), by first | (simp; done) | (rw [HW2.out]), HN8, fun y hy => by
          rw [HTK.out] at hy
          rcases List.mem_append.1 hy with hy | hy
          · exact HA.out y hy
          · obtain rfl : y = x := by simpa using hy
            have := HMM.out; have := HDN.out; have := HN8.out; omega⟩
        case measure => have := HLT.out; first | (simp [intOf]; omega) | (rw [HW1.out]; simp [intOf]; omega)
    · have g1 : ¬ (k : Int) < (xn : Int) := by omega
      obtain rfl : k = xn := by omega
      have HALL : Hid (∀ x ∈ s.re, x.da.length ≤ 8000) := fun x hx => HA.out x (by rw [HL.out, List.take_length]; exact hx)
      by_cases h70 : k ≤ 70
      · have q70 : decide ((k : Int) ≤ 70) = true := by simp; omega
        have H70 := Lib.hid h70
        clear h70
        go_wp2_with fail
        go_ret
        have hf : smFair s := ⟨by rw [← HL.out]; exact H70.out, HALL.out⟩
        first | exact ⟨true, rfl, fun _ => hf, by rw [HSZ.out]; exact HXB.out⟩ | exact .inr ⟨rfl, hf, HXB.out⟩
      · have q70 : decide ((k : Int) ≤ 70) = false := by simp; omega
        clear h70
        go_wp2_with fail
        go_ret
        first | exact ⟨false, rfl, (fun h => by cases h), by rw [HSZ.out]; exact HXB.out⟩ | exact .inl ⟨rfl, HXB.out⟩
theorem own_u80S (N : Nat) (w : World) (hN : N ≤ w.heap.size) : (w.alloc (.cells #[] 5)).ownsRow N 5 1 (.slice (some ⟨w.heap.size, 0, none⟩) 0 0) ([] : List Int).length (([] : List Int).map (Value.int .u8)) := World.ownsRow_lit w #[] 0 hN (by simp [maxLen]) rfl
theorem rc_slV {N : Nat} {W : World} {v : Value} {l : List RC} (h : RcO N W v l) : ∃ q : SlV, v = slV q ∧ q.2.1 = l.length := by
  obtain ⟨r, h1, h2, h3⟩ := h
  exact own_slV h2

theorem RcO.keptC {N B : Nat} {W W' : World} {v : Value} {l : List RC} {t : TypeId} {C : List Value} (h : RcO N W v l) (hB : RowC W B t C) (h1 : 39 ≠ t) (h2 : 5 ≠ t) (hg : W.grownBy W' (some B)) : RcO N W' v l := by
  obtain ⟨r, e1, e2, e3⟩ := h
  exact ⟨r, e1, e2.kept hg (.inr (row_ne e2 hB h1)), fun j q s a b => by
    obtain ⟨f1, f2, f3, f4, f5⟩ := e3 j q s a b
    exact ⟨f1, f2, f3, f4.kept hg (.inr (row_ne f4 hB h2)), f5⟩⟩
set_option maxRecDepth 100000 in
theorem store_smC {x : World} {B : Nat} {old : List Value} (bl ba id : Int) (v : SlV) (hr : RowC x B 24 old) (ho : old.length = 4) :
    ∃ y, (storeVar 24 ⟨B, 0, none⟩ (smV bl ba id v)).run Try.prog x = .ok () y ∧ RowC y B 24 (smL bl ba id v) ∧ x.grownBy y (some B) := by
  refine ⟨_, run_storeVar_row x B _ _ old.toArray (smL bl ba id v).toArray hr size_sm (by simpa [smL] using ho) (by kernel_rfl), setRow_heap x B _ _ _ _ hr, ?_⟩
  exact ⟨rfl, rfl, rfl, by rw [setRow_size]; exact Nat.le_refl _, fun k _ hk => setRow_other x B k _ (fun e => hk (by rw [e]))⟩
set_option maxRecDepth 100000 in
set_option maxHeartbeats 8000000 in
/-- **Copy**. -/
theorem sm_copy {w : World} {v : Value} {s : SM} (h : Smi w v s) (hf : smFair s) : Calls Try.prog 9 #[v] w fun e w' => ∃ u : SlV, e = .returned (smV s.bl s.ba s.id u) ∧ Smi w' (smV s.bl s.ba s.id u) s ∧ Below w.heap.size w w' := by
  obtain ⟨r, ⟨⟨⟨xa, xn, xc⟩, rfl, hR⟩, ib, ia, ii⟩⟩ := h
  have HS := Lib.hid hR
  have HIB := Lib.hid ib
  have HIA := Lib.hid ia
  have HII := Lib.hid ii
  have hxn : xn = s.re.length := by obtain ⟨a', c', e, h1, h2⟩ := hR.len; cases e; rfl
  have HL := Lib.hid hxn
  have HFR := Lib.hid hf
  have h70 : xn ≤ 70 := by rw [hxn]; exact hf.1
  obtain ⟨bl, hbl⟩ : ∃ b, s.bl = b := ⟨_, rfl⟩
  obtain ⟨ba, hba⟩ : ∃ b, s.ba = b := ⟨_, rfl⟩
  obtain ⟨id, hid⟩ : ∃ b, s.id = b := ⟨_, rfl⟩
  have HBL := Lib.hid hbl
  have HBA := Lib.hid hba
  have HID := Lib.hid hid
  obtain ⟨B, hB⟩ : ∃ B, w.heap.size = B := ⟨_, rfl⟩
  have HSZ := Lib.hid hB
  obtain ⟨X, hX⟩ : ∃ X, (w.alloc (.cells #[.int .i64 bl, .int .i64 ba, .int .i64 id, .slice xa xn xc] 24)).alloc (.cells #[.int .i64 0, .int .i64 0, .int .i64 0, .slice none 0 0] 24) = X := ⟨_, rfl⟩
  have k1 : RowC X B 24 (smL bl ba id (xa, xn, xc)) := by rw [← hX, ← hB]; exact (RowC.new w _ _).below (below_new _ _)
  have k2 : RowC X (B + 1) 24 (smL 0 0 0 (none, 0, 0)) := by
    rw [← hX, ← hB]
    have := RowC.new (w.alloc (.cells #[.int .i64 bl, .int .i64 ba, .int .i64 id, .slice xa xn xc] 24)) 24 (smL 0 0 0 (none, 0, 0))
    rwa [World.size_alloc] at this
  have hXb : Below B w X := by rw [← hX, ← hB]; exact ((Below.refl _ w).alloc (Nat.le_refl _) _).alloc (by simp) _
  have K1 := Lib.hid k1
  have K2 := Lib.hid k2
  have HXB := Lib.hid hXb
  rw [hbl, hba, hid]
  simp only [smV, slV]
  clear k1 k2 hXb ib ia ii hR hbl hba hid hxn hf
  go_enter Try.func9, Try.ntmps9
  go_wp2_with fail
  try rw [hX]
  clear hX hB
  go_loopw [3, 4] (fun lv iv wr => ∃ (k : Nat) (u : SlV), k ≤ xn ∧ iv = .int .i64 (k : Int) ∧ lv = slV u ∧ Hid (RcO B wr (slV u) (s.re.take k)) ∧ Hid (RowC wr B 24 (smL bl ba id (xa, xn, xc))) ∧ Hid (RowC wr (B + 1) 24 (smL 0 0 0 (none, 0, 0))) ∧ Hid (Below B w wr)) (fun _ iv _ => xn - (intOf iv).toNat)
  case atStart => exact ⟨0, (none, 0, 0), Nat.zero_le _, rfl, rfl, by show RcO _ _ _ _; rw [List.take_zero]; exact RcO.nil _ _, K1, K2, HXB⟩
  case round =>
    obtain ⟨k, ⟨ux, un, uc⟩, hk, rfl, rfl, HO, H1, H2, HB⟩ := hrel
    have c3 := H1.out.cell 3 _ rfl
    have f3 := H1.out.frozen 3
    simp only [slV] at c3 ⊢
    by_cases hlt : k < xn
    · have g1 : (k : Int) < (xn : Int) := by omega
      have HLT := Lib.hid hlt
      have HW1 : Hid (wrap64 ((k : Int) + 1) = (k : Int) + 1) := IntWalk.wrap64_in _ (by omega)
      obtain ⟨x, hx⟩ : ∃ x, s.re[k]? = some x := ⟨_, List.getElem?_eq_getElem (by rw [← HL.out]; exact hlt)⟩
      obtain ⟨b, off, q, rfl, hbl, hrq, hqi, d1, d2, d3, d4⟩ := (HS.out.below (by rw [HSZ.out]; exact HB.out)).at hx
      obtain ⟨q1, q2, q3, ⟨da, dn, dc⟩⟩ := q
      have LR := load_rc d1 d2 d3 d4
      have ST := new_rc wr (q1, q2, q3, (da, dn, dc))
      obtain ⟨C, hC⟩ : ∃ C, wr.heap.size = C := ⟨_, rfl⟩
      have hBC : B + 1 < C := by rw [← hC]; exact H2.out.lt
      obtain ⟨W2, hW2⟩ : ∃ W2, wr.alloc (.cells (rvL (q1, q2, q3, (da, dn, dc))).toArray 39) = W2 := ⟨_, rfl⟩
      rw [hW2, hC] at ST
      have b2 : Below wr.heap.size wr W2 := by rw [← hW2]; exact below_new wr _
      have hW2s : W2.heap.size = C + 1 := by rw [← hW2, ← hC]; simp
      have rC : RowC W2 C 39 (rvL (q1, q2, q3, (da, dn, dc))) := by rw [← hW2, ← hC]; exact RowC.new wr _ _
      obtain ⟨W3, hW3⟩ : ∃ W3, W2.alloc (.cells #[] 5) = W3 := ⟨_, rfl⟩
      have b3 : Below W2.heap.size W2 W3 := by rw [← hW3]; exact below_new W2 _
      have o3 := own_u80S B W2 (by omega)
      rw [hW3, hW2s] at o3
      have b23 : Below wr.heap.size wr W3 := b2.trans (b3.mono b2.size)
      have hda : Sl .u8 W3 (.slice da dn dc) x.da := hqi.da.below b23
      have hle : x.da.length ≤ 8000 := HFR.out.2 x (List.mem_of_getElem? hx)
      obtain ⟨v4, y1, r4, o4, g4⟩ := run_append_bytes B W3 _ [] o3 _ x.da hda (by simp; omega) (by have := b3.size; omega)
      rw [List.nil_append] at o4
      obtain ⟨⟨nx, nn, nc⟩, rfl, -⟩ := own_slV o4
      have rC1 : RowC y1 C 39 (rvL (q1, q2, q3, (da, dn, dc))) := (rC.below b3).grown g4 (row_ne o3 (rC.below b3) (by decide))
      have cC1 := rC1.cell 3 _ rfl
      have fC1 := rC1.frozen 3
      obtain ⟨y2, hy2⟩ : ∃ Y, y1.setCell ⟨C, 3, none⟩ (.slice nx nn nc) = Y := ⟨_, rfl⟩
      have rC2 : RowC y2 C 39 (rvL (q1, q2, q3, (nx, nn, nc))) := by rw [← hy2]; exact rC1.set 3 _
      have o5 : y2.ownsRow B 5 1 (slV (nx, nn, nc)) x.da.length (x.da.map (Value.int .u8)) := by rw [← hy2]; exact o4.kept (grownBy_setCellJ y1 C 3 _) (.inr (row_ne o4 rC1 (by decide)))
      have b4 : Below wr.heap.size wr y1 := b23.grown g4 b23.size (fun j e => by have := (World.ownsRow.lt o3 j e); simp only [Value.ownBlock] at e; cases e; omega)
      have b5 : Below wr.heap.size wr y2 := by rw [← hy2]; exact set_below b4 (by omega) 3 _
      have L2 := load_rcC rC2
      have HFx : RcF B y2 (q1, q2, q3, (nx, nn, nc)) x := ⟨hqi.fr, hqi.ct, hqi.ze, o5, hqi.ok⟩
      have S1 := slice_rc1 y2 (q1, q2, q3, (nx, nn, nc))
      obtain ⟨v6, y4, hA, O6, g6⟩ := rc_append (HO.out.below b5) (by have := b5.size; omega) HFx (by rw [List.length_take]; omega)
      obtain ⟨y3, hy3⟩ : ∃ Y, y2.alloc (.cells (rvL (q1, q2, q3, (nx, nn, nc))).toArray 39) = Y := ⟨_, rfl⟩
      rw [hy3] at S1 hA
      have HO6 : Hid (RcO B y4 v6 (s.re.take (k + 1))) := by show RcO _ _ _ _; rw [List.take_add_one, hx]; exact O6
      obtain ⟨⟨px, pn, pc⟩, rfl, -⟩ := rc_slV O6
      have hob := (HO.out.below b5)
      have J1 : Hid (RowC y4 B 24 (smL bl ba id (some ⟨b, off, none⟩, xn, xc))) := (H1.out.below b5).grown g6 (by obtain ⟨rr, e1, e2, e3⟩ := hob; exact row_ne e2 (H1.out.below b5) (by decide))
      have J2 : Hid (RowC y4 (B + 1) 24 (smL 0 0 0 (none, 0, 0))) := (H2.out.below b5).grown g6 (by obtain ⟨rr, e1, e2, e3⟩ := hob; exact row_ne e2 (H2.out.below b5) (by decide))
      have J3 : Hid (Below B w y4) := (HB.out.trans (b5.mono (by omega))).grown g6 (by have := b5.size; omega) (fun j e => (hob.base j e).1)
      have R4 := Lib.hid r4
      have S1 := Lib.hid S1
      have HA := Lib.hid hA
      have e3c : W3.cell? ⟨C, 3, none⟩ = some (.slice da dn dc) := (rC.below b3).cell 3 _ rfl
      simp only [rvV, slV] at LR ST L2 S1 R4 HA cC1
      simp only [rvL, slV] at hW2
      clear hbl hrq hqi d1 d2 d3 d4 hx hlt b2 rC b3 o3 b23 hda hle r4 o4 g4 rC1 rC2 o5 b4 b5 HFx hA O6 g6 hob hBC
      go_wp2_with (first | (at_builtin; first | refine wpList_append_run (.tmp 18) (.tmp 20) 25 rfl rfl _ _ _ rfl rfl R4.out ?_ | refine wpList_append_run (.tmp 23) (.tmp 25) 22 rfl rfl _ _ _ rfl rfl (HA.out _) ?_) | ((with_reducible refine gate_build ?_); refine wpList_build_run 22 1 _ rfl rfl [(0, _)] _ rfl S1.out ?_))
      exact ⟨⟨k + 1, (px, pn, pc), HLT.out, by first | (simp; done) | (rw [HW1.out]; simp), rfl, HO6, J1, J2, J3⟩, by have := HLT.out; first | (simp [intOf]; omega) | (rw [HW1.out]; simp [intOf]; omega)⟩
    · have g1 : ¬ (k : Int) < (xn : Int) := by omega
      obtain rfl : k = xn := by omega
      have hO : RcO B wr (slV (ux, un, uc)) s.re := by have := HO.out; rw [HL.out, List.take_length] at this; exact this
      obtain ⟨z1, hz1⟩ : ∃ Y, wr.setCell ⟨B, 3, none⟩ (.slice ux un uc) = Y := ⟨_, rfl⟩
      have r1 : RowC z1 B 24 (smL bl ba id (ux, un, uc)) := by rw [← hz1]; exact H1.out.set 3 _
      have r2 : RowC z1 (B + 1) 24 (smL 0 0 0 (none, 0, 0)) := by rw [← hz1]; exact set_other H2.out (by omega) 3 _
      have o1 : RcO B z1 (slV (ux, un, uc)) s.re := by rw [← hz1]; exact hO.keptC H1.out (by decide) (by decide) (grownBy_setCellJ wr B 3 _)
      have b1 : Below B w z1 := by rw [← hz1]; exact set_below HB.out (Nat.le_refl _) 3 _
      have L1 := load_smC r1
      obtain ⟨z2, S2, r3, g3⟩ := store_smC bl ba id (ux, un, uc) r2 rfl
      have o2 : RcO B z2 (slV (ux, un, uc)) s.re := o1.keptC r2 (by decide) (by decide) g3
      have b2 : Below B w z2 := b1.grown g3 (by have := r1.lt; omega) (fun j e => by cases e; omega)
      have RL := Lib.hid (load_smC r3)
      have hsm : Smi z2 (smV bl ba id (ux, un, uc)) s := by
        obtain ⟨rr, hrr⟩ := o2.rcs
        exact ⟨rr, ⟨⟨(ux, un, uc), by rw [HBL.out, HBA.out, HID.out], hrr⟩, HIB.out, HIA.out, HII.out⟩⟩
      have HSM := Lib.hid hsm
      have HB2 := Lib.hid b2
      simp only [smV, slV] at L1 S2
      clear hO r1 r2 o1 b1 r3 g3 o2 b2 hsm
      go_wp2_with fail
      refine bodyPost_ret (results_cell rfl rfl RL.out) rfl ?_
      exact ⟨ux, un, uc, rfl, HSM.out, by rw [HSZ.out]; exact HB2.out⟩
theorem sm_ext {s t : SM} (h1 : s.bl = t.bl) (h2 : s.ba = t.ba) (h3 : s.id = t.id) (h4 : s.re = t.re) : s = t := by cases s; cases t; simp_all
theorem rc_ext {s t : RC} (h1 : s.fr = t.fr) (h2 : s.ct = t.ct) (h3 : s.ze = t.ze) (h4 : s.da = t.da) : s = t := by cases s; cases t; simp_all
noncomputable instance : DecidableEq SM := fun a b => Classical.propDecidable _

set_option maxRecDepth 100000 in
set_option maxHeartbeats 8000000 in
/-- **Streams**: two held against each other. -/
theorem sm_same {w : World} {v u : Value} {s t : SM} (h : Smi w v s) (k : Smi w u t) : Calls Try.prog 17 #[v, u] w fun e w' => e = .returned (.bool (decide (s = t))) ∧ Below w.heap.size w w' := by
  have hmx : Try.prog.follows .mixedOrders = true := by kernel_rfl
  obtain ⟨Z, hZ⟩ : ∃ b, decide (s = t) = b := ⟨_, rfl⟩
  have hno : s ≠ t → Z = false := fun h => by rw [← hZ]; exact decide_eq_false h
  have hyes : s = t → Z = true := fun h => by rw [← hZ]; exact decide_eq_true h
  have HNO := Lib.hid hno
  have HYES := Lib.hid hyes
  rw [hZ]
  clear hZ hno hyes
  have hokS := h.ok
  have hokT := k.ok
  obtain ⟨r, ⟨⟨⟨xa, xn, xc⟩, rfl, hR⟩, -, -, -⟩⟩ := h
  obtain ⟨r', ⟨⟨⟨ya, yn, yc⟩, rfl, hR'⟩, -, -, -⟩⟩ := k
  have HS := Lib.hid hR
  have HT := Lib.hid hR'
  have hxn : xn = s.re.length ∧ xn ≤ maxLen := by obtain ⟨a', c', e, h1, h2⟩ := hR.len; cases e; exact ⟨rfl, by omega⟩
  have hyn : yn = t.re.length ∧ yn ≤ maxLen := by obtain ⟨a', c', e, h1, h2⟩ := hR'.len; cases e; exact ⟨rfl, by omega⟩
  obtain ⟨hxn, hxm⟩ := hxn
  obtain ⟨hyn, hym⟩ := hyn
  have HL := Lib.hid hxn
  have HL' := Lib.hid hyn
  have hmx1 : (xn : Int) ≤ 9223372036854775807 := by unfold maxLen at hxm; omega
  have hmx2 : (yn : Int) ≤ 9223372036854775807 := by unfold maxLen at hym; omega
  obtain ⟨bl, hbl⟩ : ∃ b, s.bl = b := ⟨_, rfl⟩
  obtain ⟨ba, hba⟩ : ∃ b, s.ba = b := ⟨_, rfl⟩
  obtain ⟨id, hid⟩ : ∃ b, s.id = b := ⟨_, rfl⟩
  obtain ⟨bl', hbl'⟩ : ∃ b, t.bl = b := ⟨_, rfl⟩
  obtain ⟨ba', hba'⟩ : ∃ b, t.ba = b := ⟨_, rfl⟩
  obtain ⟨id', hid'⟩ : ∃ b, t.id = b := ⟨_, rfl⟩
  have H1 := Lib.hid hbl
  have H2 := Lib.hid hba
  have H3 := Lib.hid hid
  have H1' := Lib.hid hbl'
  have H2' := Lib.hid hba'
  have H3' := Lib.hid hid'
  have HOS := Lib.hid hokS
  have HOT := Lib.hid hokT
  obtain ⟨B, hB⟩ : ∃ B, w.heap.size = B := ⟨_, rfl⟩
  have HSZ := Lib.hid hB
  obtain ⟨X, hX⟩ : ∃ X, (w.alloc (.cells #[.int .i64 bl, .int .i64 ba, .int .i64 id, .slice xa xn xc] 24)).alloc (.cells #[.int .i64 bl', .int .i64 ba', .int .i64 id', .slice ya yn yc] 24) = X := ⟨_, rfl⟩
  have k1 : RowC X B 24 (smL bl ba id (xa, xn, xc)) := by rw [← hX, ← hB]; exact (RowC.new w _ _).below (below_new _ _)
  have k2 : RowC X (B + 1) 24 (smL bl' ba' id' (ya, yn, yc)) := by
    rw [← hX, ← hB]
    have := RowC.new (w.alloc (.cells #[.int .i64 bl, .int .i64 ba, .int .i64 id, .slice xa xn xc] 24)) 24 (smL bl' ba' id' (ya, yn, yc))
    rwa [World.size_alloc] at this
  have hXb : Below B w X := by rw [← hX, ← hB]; exact ((Below.refl _ w).alloc (Nat.le_refl _) _).alloc (by simp) _
  have K1 := Lib.hid k1
  have K2 := Lib.hid k2
  have HXB := Lib.hid hXb
  have c0 := k1.cell 0 _ rfl
  have c1 := k1.cell 1 _ rfl
  have c2 := k1.cell 2 _ rfl
  have c3 := k1.cell 3 _ rfl
  have d0 := k2.cell 0 _ rfl
  have d1 := k2.cell 1 _ rfl
  have d2 := k2.cell 2 _ rfl
  have d3 := k2.cell 3 _ rfl
  have hst : ∀ {a b : SM}, a = b → a.bl = b.bl ∧ a.ba = b.ba ∧ a.id = b.id ∧ a.re = b.re := fun h => by subst h; exact ⟨rfl, rfl, rfl, rfl⟩
  have HST := Lib.hid (fun h => hst (a := s) (b := t) h)
  rw [hbl, hba, hid, hbl', hba', hid']
  simp only [smV, slV] at c3 d3 ⊢
  clear k1 k2 hXb hR hR' hbl hba hid hbl' hba' hid' hxn hyn hxm hym hst hokS hokT
  by_cases p1 : bl = bl'
  · have q1 : (bl != bl') = false := by simp [p1]
    have P1 := Lib.hid p1
    clear p1
    by_cases p2 : ba = ba'
    · have q2 : (ba != ba') = false := by simp [p2]
      have P2 := Lib.hid p2
      clear p2
      by_cases p3 : id = id'
      · have q3 : (id != id') = false := by simp [p3]
        have P3 := Lib.hid p3
        clear p3
        by_cases p4 : xn = yn
        · have q4 : ((xn : Int) != (yn : Int)) = false := by simp; omega
          have P4 := Lib.hid p4
          clear p4
          go_enter Try.func17, Try.ntmps17
          go_wp2_with fail
          go_loopw [5] (fun iv wr => ∃ k : Nat, k ≤ xn ∧ iv = .int .i64 (k : Int) ∧ Hid (Below X.heap.size X wr) ∧ Hid (s.re.take k = t.re.take k)) (fun iv _ => xn - (intOf iv).toNat)
          case atStart => exact ⟨0, Nat.zero_le _, rfl, Below.refl _ _, rfl⟩
          case round =>
            obtain ⟨k, hk, rfl, HB, HE⟩ := hrel
            have e3 := (K1.out.below HB.out).cell 3 _ rfl
            have f3 := (K2.out.below HB.out).cell 3 _ rfl
            simp only [slV] at e3 f3
            by_cases hlt : k < xn
            · skip
              have g1 : (k : Int) < (xn : Int) := by omega
              have HLT := Lib.hid hlt
              have HP4 := P4.out
              have HW1 : Hid (wrap64 ((k : Int) + 1) = (k : Int) + 1) := IntWalk.wrap64_in _ (by omega)
              obtain ⟨x, hx⟩ : ∃ x, s.re[k]? = some x := ⟨_, List.getElem?_eq_getElem (by rw [← HL.out]; exact hlt)⟩
              obtain ⟨y, hy⟩ : ∃ y, t.re[k]? = some y := ⟨_, List.getElem?_eq_getElem (by rw [← HL'.out]; omega)⟩
              have hBw : Below w.heap.size w wr := by rw [HSZ.out]; exact HXB.out.trans (HB.out.mono (by have := K1.out.lt; omega))
              obtain ⟨b, off, q, rfl, hbl, hrq, hqi, m1, m2, m3, m4⟩ := (HS.out.below hBw).at hx
              obtain ⟨b', off', q', rfl, hbl', hrq', hqi', n1, n2, n3, n4⟩ := (HT.out.below hBw).at hy
              obtain ⟨q1, q2, q3, ⟨xa1, xn1, xc1⟩⟩ := q
              obtain ⟨r1, r2, r3, ⟨ya1, yn1, yc1⟩⟩ := q'
              have LX : ∀ z : Ext wr, (loadVar 39 ⟨b, off + k * 4, none⟩).run Try.prog z.1 = .ok (rvV (q1, q2, q3, (xa1, xn1, xc1))) z.1 := fun z => load_rc ((z.2.cell (p := ⟨b, off + k * 4, none⟩) hbl).trans m1) ((z.2.cell (p := ⟨b, off + k * 4 + 1, none⟩) hbl).trans m2) ((z.2.cell (p := ⟨b, off + k * 4 + 2, none⟩) hbl).trans m3) ((z.2.cell (p := ⟨b, off + k * 4 + 3, none⟩) hbl).trans m4)
              have LY : ∀ z : Ext wr, (loadVar 39 ⟨b', off' + k * 4, none⟩).run Try.prog z.1 = .ok (rvV (r1, r2, r3, (ya1, yn1, yc1))) z.1 := fun z => load_rc ((z.2.cell (p := ⟨b', off' + k * 4, none⟩) hbl').trans n1) ((z.2.cell (p := ⟨b', off' + k * 4 + 1, none⟩) hbl').trans n2) ((z.2.cell (p := ⟨b', off' + k * 4 + 2, none⟩) hbl').trans n3) ((z.2.cell (p := ⟨b', off' + k * 4 + 3, none⟩) hbl').trans n4)
              have e3y : ∀ z : Ext wr, z.1.cell? ⟨B, 3, none⟩ = some (.slice (some ⟨b, off, none⟩) xn xc) := fun z => ((K1.out.below HB.out).below z.2).cell 3 _ rfl
              have f3y : ∀ z : Ext wr, z.1.cell? ⟨B + 1, 3, none⟩ = some (.slice (some ⟨b', off', none⟩) yn yc) := fun z => ((K2.out.below HB.out).below z.2).cell 3 _ rfl
              have HEX := Lib.hid hqi
              have HEY := Lib.hid hqi'
              have HX := Lib.hid hx
              have HY := Lib.hid hy
              have g2 : (k : Int) < (yn : Int) := by omega
              obtain ⟨C, hC⟩ : ∃ C, wr.heap.size = C := ⟨_, rfl⟩
              have HC := Lib.hid hC
              have hXs : X.heap.size ≤ C := by rw [← hC]; exact HB.out.size
              have HXS2 := Lib.hid hXs
              have HSZX : Hid (B ≤ X.heap.size) := by show _ ≤ _; have := K1.out.lt; omega
              have HBY : Hid (∀ z : World, Below wr.heap.size wr z → Calls Try.prog 14 #[.slice xa1 xn1 xc1, .slice ya1 yn1 yc1] z fun e w' => e = .returned (.bool (decide (x.da = y.da))) ∧ w' = z) := fun z hz => eqk_bytes _ _ _ _ z (HEX.out.da.below hz) (HEY.out.da.below hz) HEX.out.ok.da HEY.out.ok.da
              simp only [rvV, slV] at LX LY
              clear hbl hbl' hrq hrq' hqi hqi' m1 m2 m3 m4 n1 n2 n3 n4 hBw hx hy hlt hX hXs HP4
              by_cases z1 : q1 = r1
              · have w1 : (q1 != r1) = false := by simp [z1]
                have ZZ1 := Lib.hid z1
                clear z1
                by_cases z2 : q2 = r2
                · have w2 : (q2 != r2) = false := by simp [z2]
                  have ZZ2 := Lib.hid z2
                  clear z2
                  by_cases z3 : q3 = r3
                  · have w3 : (q3 != r3) = false := by simp [z3]
                    have w3x : (r3 != r3) = false := by simp
                    have ZZ3 := Lib.hid z3
                    clear z3
                    by_cases z4 : x.da = y.da
                    · have w4 : decide (x.da = y.da) = true := decide_eq_true z4
                      have HXY : Hid (x = y) := rc_ext (HEX.out.fr.symm.trans (ZZ1.out.trans HEY.out.fr)) (HEX.out.ct.symm.trans (ZZ2.out.trans HEY.out.ct)) (HEX.out.ze.symm.trans (ZZ3.out.trans HEY.out.ze)) z4
                      have HE2 : Hid (s.re.take (k + 1) = t.re.take (k + 1)) := by show _ = _; rw [List.take_add_one, List.take_add_one, HX.out, HY.out, HE.out, HXY.out]
                      rw [w4] at HBY
                      clear z4 w4
                      go_wp2_with fail
                      refine region_plan (fun x => ∃ z : Ext wr, x = z.1) 13 (.takes [0, 1, 2, 3, 4, 5, 6, 7, 8, 9] (.two 10 11 (.one 11 (.one 12 .leaf)) (.one 10 (.one 12 .leaf)))) hmx (by kernel_rfl) (by intro c x v a w h; cases x <;> exact h) ⟨⟨wr.drew, (Below.refl _ wr).drew⟩, rfl⟩ ?_
                      repeat (rw [wpPlan_takes_cons]; simp only [nth_zero, nth_succ]; go_big_quiet_step (fail); refine wpQuiet_nil ?_)
                      rw [wpPlan_takes_nil]
                      clear LX LY e3y f3y e3 f3
                      obtain ⟨y0, hy0⟩ : ∃ Y, wr.drew = Y := ⟨_, rfl⟩
                      have Ky0 : Below wr.heap.size wr y0 := by rw [← hy0]; exact (Below.refl _ wr).drew
                      have hy0s : y0.heap.size = C := by rw [← hy0, ← HC.out]; rfl
                      try rw [hy0]
                      clear hy0
                      obtain ⟨y1, hy1⟩ : ∃ Y, y0.alloc (.cells #[.int .i64 0, .int .i64 0, .bool false, .slice none 0 0] 39) = Y := ⟨_, rfl⟩
                      have b1 : Below y0.heap.size y0 y1 := by rw [← hy1]; exact below_new y0 _
                      have hy1s : y1.heap.size = C + 1 := by rw [← hy1, ← hy0s]; simp
                      have rc1 : RowC y1 C 39 [.int .i64 0, .int .i64 0, .bool false, .slice none 0 0] := by rw [← hy1, ← hy0s]; exact RowC.new y0 _ _
                      obtain ⟨y2, hy2⟩ : ∃ Y, y1.alloc (.cells #[.int .i64 0, .int .i64 0, .bool false, .slice none 0 0] 39) = Y := ⟨_, rfl⟩
                      have b2 : Below y1.heap.size y1 y2 := by rw [← hy2]; exact below_new y1 _
                      have rc2 : RowC y2 (C + 1) 39 [.int .i64 0, .int .i64 0, .bool false, .slice none 0 0] := by rw [← hy2, ← hy1s]; exact RowC.new y1 _ _
                      have rc1b := rc1.below b2
                      have Ky1 : Below wr.heap.size wr y1 := Ky0.trans (b1.mono Ky0.size)
                      have Ky2 : Below wr.heap.size wr y2 := Ky1.trans (b2.mono Ky1.size)
                      rw [wpPlan_two]
                      refine ⟨?_, ?_⟩
                      · simp only [nth_zero, nth_succ]
                        go_wp2_with fail
                        try rw [hy1]
                        try rw [hy0s]
                        refine planPost_mk ⟨⟨y1, Ky1⟩, rfl⟩ ?_
                        rw [wpPlan_one]
                        simp only [nth_zero, nth_succ]
                        go_wp2_with fail
                        try rw [hy2]
                        try rw [hy1s]
                        refine planPost_mk ⟨⟨y2, Ky2⟩, rfl⟩ ?_
                        obtain ⟨y3, S3, r63, g3⟩ := store_rcC (q1, q2, q3, (xa1, xn1, xc1)) rc1b rfl
                        have r73 := rc2.grown g3 (by simp)
                        have Ky3 : Below wr.heap.size wr y3 := Ky2.grown g3 Ky2.size (fun j e => by cases e; have := HC.out; omega)
                        obtain ⟨y4, S4, r74, g4⟩ := store_rcC (r1, r2, r3, (ya1, yn1, yc1)) r73 rfl
                        have r64 := r63.grown g4 (by simp)
                        have Ky4 : Below wr.heap.size wr y4 := Ky3.grown g4 Ky3.size (fun j e => by cases e; have := HC.out; omega)
                        have HK4 := Lib.hid Ky4
                        have a0 := r64.cell 0 _ rfl
                        have a1 := r64.cell 1 _ rfl
                        have a2 := r64.cell 2 _ rfl
                        have a3 := r64.cell 3 _ rfl
                        have b0 := r74.cell 0 _ rfl
                        have bb1 := r74.cell 1 _ rfl
                        have bb2 := r74.cell 2 _ rfl
                        have b3 := r74.cell 3 _ rfl
                        have HBX := Lib.hid (HBY.out y4 Ky4)
                        have HKX : Hid (Below X.heap.size X y4) := HB.out.trans (Ky4.mono (by rw [HC.out]; exact HXS2.out))
                        simp only [rvV, slV] at S3 S4 a3 b3
                        clear r63 r73 r74 r64 g3 g4 b1 b2 rc1 rc2 rc1b hy1 hy2 hy0s hy1s
                        rw [wpPlan_one]
                        simp only [nth_zero, nth_succ]
                        go_wp2_with fail
                        refine planPost_mk ⟨⟨y3, Ky3⟩, rfl⟩ ?_
                        rw [wpPlan_leaf]
                        simp only [List.drop_succ_cons, List.drop_zero]
                        clear Ky0 Ky1 Ky2 Ky3 Ky4
                        go_wp2_with fail
                        refine HBX.out.mono ?_
                        rintro e z ⟨rfl, rfl⟩
                        go_wp2_with fail
                        go_roundw
                        case rel => exact ⟨k + 1, HLT.out, by first | (simp; done) | (rw [HW1.out]; simp), HKX, HE2⟩
                        case measure => have := HLT.out; first | (simp [intOf]; omega) | (rw [HW1.out]; simp [intOf]; omega)
                      · simp only [nth_zero, nth_succ]
                        go_wp2_with fail
                        try rw [hy1]
                        try rw [hy0s]
                        refine planPost_mk ⟨⟨y1, Ky1⟩, rfl⟩ ?_
                        rw [wpPlan_one]
                        simp only [nth_zero, nth_succ]
                        go_wp2_with fail
                        try rw [hy2]
                        try rw [hy1s]
                        refine planPost_mk ⟨⟨y2, Ky2⟩, rfl⟩ ?_
                        obtain ⟨y3, S3, r63, g3⟩ := store_rcC (q1, q2, q3, (xa1, xn1, xc1)) rc2 rfl
                        have r73 := rc1b.grown g3 (by simp)
                        have Ky3 : Below wr.heap.size wr y3 := Ky2.grown g3 Ky2.size (fun j e => by cases e; have := HC.out; omega)
                        obtain ⟨y4, S4, r74, g4⟩ := store_rcC (r1, r2, r3, (ya1, yn1, yc1)) r73 rfl
                        have r64 := r63.grown g4 (by simp)
                        have Ky4 : Below wr.heap.size wr y4 := Ky3.grown g4 Ky3.size (fun j e => by cases e; have := HC.out; omega)
                        have HK4 := Lib.hid Ky4
                        have a0 := r64.cell 0 _ rfl
                        have a1 := r64.cell 1 _ rfl
                        have a2 := r64.cell 2 _ rfl
                        have a3 := r64.cell 3 _ rfl
                        have b0 := r74.cell 0 _ rfl
                        have bb1 := r74.cell 1 _ rfl
                        have bb2 := r74.cell 2 _ rfl
                        have b3 := r74.cell 3 _ rfl
                        have HBX := Lib.hid (HBY.out y4 Ky4)
                        have HKX : Hid (Below X.heap.size X y4) := HB.out.trans (Ky4.mono (by rw [HC.out]; exact HXS2.out))
                        simp only [rvV, slV] at S3 S4 a3 b3
                        clear r63 r73 r74 r64 g3 g4 b1 b2 rc1 rc2 rc1b hy1 hy2 hy0s hy1s
                        rw [wpPlan_one]
                        simp only [nth_zero, nth_succ]
                        go_wp2_with fail
                        refine planPost_mk ⟨⟨y3, Ky3⟩, rfl⟩ ?_
                        rw [wpPlan_leaf]
                        simp only [List.drop_succ_cons, List.drop_zero]
                        clear Ky0 Ky1 Ky2 Ky3 Ky4
                        go_wp2_with fail
                        refine HBX.out.mono ?_
                        rintro e z ⟨rfl, rfl⟩
                        go_wp2_with fail
                        go_roundw
                        case rel => exact ⟨k + 1, HLT.out, by first | (simp; done) | (rw [HW1.out]; simp), HKX, HE2⟩
                        case measure => have := HLT.out; first | (simp [intOf]; omega) | (rw [HW1.out]; simp [intOf]; omega)
                    · have w4 : decide (x.da = y.da) = false := decide_eq_false z4
                      have HZN : Hid (Z = false) := HNO.out (fun h => by have h1 := (HST.out h).2.2.2; have h2 : x = y := (by have h3 := HX.out; rw [h1, HY.out] at h3; cases h3; rfl); exact z4 (congrArg RC.da h2))
                      rw [w4] at HBY
                      clear z4 w4
                      go_wp2_with fail
                      refine region_plan (fun x => ∃ z : Ext wr, x = z.1) 13 (.takes [0, 1, 2, 3, 4, 5, 6, 7, 8, 9] (.two 10 11 (.one 11 (.one 12 .leaf)) (.one 10 (.one 12 .leaf)))) hmx (by kernel_rfl) (by intro c x v a w h; cases x <;> exact h) ⟨⟨wr.drew, (Below.refl _ wr).drew⟩, rfl⟩ ?_
                      repeat (rw [wpPlan_takes_cons]; simp only [nth_zero, nth_succ]; go_big_quiet_step (fail); refine wpQuiet_nil ?_)
                      rw [wpPlan_takes_nil]
                      clear LX LY e3y f3y e3 f3
                      obtain ⟨y0, hy0⟩ : ∃ Y, wr.drew = Y := ⟨_, rfl⟩
                      have Ky0 : Below wr.heap.size wr y0 := by rw [← hy0]; exact (Below.refl _ wr).drew
                      have hy0s : y0.heap.size = C := by rw [← hy0, ← HC.out]; rfl
                      try rw [hy0]
                      clear hy0
                      obtain ⟨y1, hy1⟩ : ∃ Y, y0.alloc (.cells #[.int .i64 0, .int .i64 0, .bool false, .slice none 0 0] 39) = Y := ⟨_, rfl⟩
                      have b1 : Below y0.heap.size y0 y1 := by rw [← hy1]; exact below_new y0 _
                      have hy1s : y1.heap.size = C + 1 := by rw [← hy1, ← hy0s]; simp
                      have rc1 : RowC y1 C 39 [.int .i64 0, .int .i64 0, .bool false, .slice none 0 0] := by rw [← hy1, ← hy0s]; exact RowC.new y0 _ _
                      obtain ⟨y2, hy2⟩ : ∃ Y, y1.alloc (.cells #[.int .i64 0, .int .i64 0, .bool false, .slice none 0 0] 39) = Y := ⟨_, rfl⟩
                      have b2 : Below y1.heap.size y1 y2 := by rw [← hy2]; exact below_new y1 _
                      have rc2 : RowC y2 (C + 1) 39 [.int .i64 0, .int .i64 0, .bool false, .slice none 0 0] := by rw [← hy2, ← hy1s]; exact RowC.new y1 _ _
                      have rc1b := rc1.below b2
                      have Ky1 : Below wr.heap.size wr y1 := Ky0.trans (b1.mono Ky0.size)
                      have Ky2 : Below wr.heap.size wr y2 := Ky1.trans (b2.mono Ky1.size)
                      rw [wpPlan_two]
                      refine ⟨?_, ?_⟩
                      · simp only [nth_zero, nth_succ]
                        go_wp2_with fail
                        try rw [hy1]
                        try rw [hy0s]
                        refine planPost_mk ⟨⟨y1, Ky1⟩, rfl⟩ ?_
                        rw [wpPlan_one]
                        simp only [nth_zero, nth_succ]
                        go_wp2_with fail
                        try rw [hy2]
                        try rw [hy1s]
                        refine planPost_mk ⟨⟨y2, Ky2⟩, rfl⟩ ?_
                        obtain ⟨y3, S3, r63, g3⟩ := store_rcC (q1, q2, q3, (xa1, xn1, xc1)) rc1b rfl
                        have r73 := rc2.grown g3 (by simp)
                        have Ky3 : Below wr.heap.size wr y3 := Ky2.grown g3 Ky2.size (fun j e => by cases e; have := HC.out; omega)
                        obtain ⟨y4, S4, r74, g4⟩ := store_rcC (r1, r2, r3, (ya1, yn1, yc1)) r73 rfl
                        have r64 := r63.grown g4 (by simp)
                        have Ky4 : Below wr.heap.size wr y4 := Ky3.grown g4 Ky3.size (fun j e => by cases e; have := HC.out; omega)
                        have HK4 := Lib.hid Ky4
                        have a0 := r64.cell 0 _ rfl
                        have a1 := r64.cell 1 _ rfl
                        have a2 := r64.cell 2 _ rfl
                        have a3 := r64.cell 3 _ rfl
                        have b0 := r74.cell 0 _ rfl
                        have bb1 := r74.cell 1 _ rfl
                        have bb2 := r74.cell 2 _ rfl
                        have b3 := r74.cell 3 _ rfl
                        have HBX := Lib.hid (HBY.out y4 Ky4)
                        have HKX : Hid (Below X.heap.size X y4) := HB.out.trans (Ky4.mono (by rw [HC.out]; exact HXS2.out))
                        simp only [rvV, slV] at S3 S4 a3 b3
                        clear r63 r73 r74 r64 g3 g4 b1 b2 rc1 rc2 rc1b hy1 hy2 hy0s hy1s
                        rw [wpPlan_one]
                        simp only [nth_zero, nth_succ]
                        go_wp2_with fail
                        refine planPost_mk ⟨⟨y3, Ky3⟩, rfl⟩ ?_
                        rw [wpPlan_leaf]
                        simp only [List.drop_succ_cons, List.drop_zero]
                        clear Ky0 Ky1 Ky2 Ky3 Ky4
                        go_wp2_with fail
                        refine HBX.out.mono ?_
                        rintro e z ⟨rfl, rfl⟩
                        go_wp2_with fail
                        go_ret
                        rw [HZN.out]
                        exact ⟨rfl, by rw [HSZ.out]; exact HXB.out.trans (HKX.out.mono HSZX.out)⟩
                      · simp only [nth_zero, nth_succ]
                        go_wp2_with fail
                        try rw [hy1]
                        try rw [hy0s]
                        refine planPost_mk ⟨⟨y1, Ky1⟩, rfl⟩ ?_
                        rw [wpPlan_one]
                        simp only [nth_zero, nth_succ]
                        go_wp2_with fail
                        try rw [hy2]
                        try rw [hy1s]
                        refine planPost_mk ⟨⟨y2, Ky2⟩, rfl⟩ ?_
                        obtain ⟨y3, S3, r63, g3⟩ := store_rcC (q1, q2, q3, (xa1, xn1, xc1)) rc2 rfl
                        have r73 := rc1b.grown g3 (by simp)
                        have Ky3 : Below wr.heap.size wr y3 := Ky2.grown g3 Ky2.size (fun j e => by cases e; have := HC.out; omega)
                        obtain ⟨y4, S4, r74, g4⟩ := store_rcC (r1, r2, r3, (ya1, yn1, yc1)) r73 rfl
                        have r64 := r63.grown g4 (by simp)
                        have Ky4 : Below wr.heap.size wr y4 := Ky3.grown g4 Ky3.size (fun j e => by cases e; have := HC.out; omega)
                        have HK4 := Lib.hid Ky4
                        have a0 := r64.cell 0 _ rfl
                        have a1 := r64.cell 1 _ rfl
                        have a2 := r64.cell 2 _ rfl
                        have a3 := r64.cell 3 _ rfl
                        have b0 := r74.cell 0 _ rfl
                        have bb1 := r74.cell 1 _ rfl
                        have bb2 := r74.cell 2 _ rfl
                        have b3 := r74.cell 3 _ rfl
                        have HBX := Lib.hid (HBY.out y4 Ky4)
                        have HKX : Hid (Below X.heap.size X y4) := HB.out.trans (Ky4.mono (by rw [HC.out]; exact HXS2.out))
                        simp only [rvV, slV] at S3 S4 a3 b3
                        clear r63 r73 r74 r64 g3 g4 b1 b2 rc1 rc2 rc1b hy1 hy2 hy0s hy1s
                        rw [wpPlan_one]
                        simp only [nth_zero, nth_succ]
                        go_wp2_with fail
                        refine planPost_mk ⟨⟨y3, Ky3⟩, rfl⟩ ?_
                        rw [wpPlan_leaf]
                        simp only [List.drop_succ_cons, List.drop_zero]
                        clear Ky0 Ky1 Ky2 Ky3 Ky4
                        go_wp2_with fail
                        refine HBX.out.mono ?_
                        rintro e z ⟨rfl, rfl⟩
                        go_wp2_with fail
                        go_ret
                        rw [HZN.out]
                        exact ⟨rfl, by rw [HSZ.out]; exact HXB.out.trans (HKX.out.mono HSZX.out)⟩
                  · have w3 : (q3 != r3) = true := by simp; exact z3
                    have ZZ3 := Lib.hid z3
                    clear z3
                    have HZN : Hid (Z = false) := HNO.out (fun h => by have h1 := (HST.out h).2.2.2; have h2 : x = y := (by have h3 := HX.out; rw [h1, HY.out] at h3; cases h3; rfl); exact ZZ3.out (HEX.out.ze.trans ((congrArg RC.ze h2).trans HEY.out.ze.symm)))
                    go_wp2_with fail
                    refine region_plan (fun x => ∃ z : Ext wr, x = z.1) 13 (.takes [0, 1, 2, 3, 4, 5, 6, 7, 8, 9] (.two 10 11 (.one 11 (.one 12 .leaf)) (.one 10 (.one 12 .leaf)))) hmx (by kernel_rfl) (by intro c x v a w h; cases x <;> exact h) ⟨⟨wr.drew, (Below.refl _ wr).drew⟩, rfl⟩ ?_
                    repeat (rw [wpPlan_takes_cons]; simp only [nth_zero, nth_succ]; go_big_quiet_step (fail); refine wpQuiet_nil ?_)
                    rw [wpPlan_takes_nil]
                    clear LX LY e3y f3y e3 f3
                    obtain ⟨y0, hy0⟩ : ∃ Y, wr.drew = Y := ⟨_, rfl⟩
                    have Ky0 : Below wr.heap.size wr y0 := by rw [← hy0]; exact (Below.refl _ wr).drew
                    have hy0s : y0.heap.size = C := by rw [← hy0, ← HC.out]; rfl
                    try rw [hy0]
                    clear hy0
                    obtain ⟨y1, hy1⟩ : ∃ Y, y0.alloc (.cells #[.int .i64 0, .int .i64 0, .bool false, .slice none 0 0] 39) = Y := ⟨_, rfl⟩
                    have b1 : Below y0.heap.size y0 y1 := by rw [← hy1]; exact below_new y0 _
                    have hy1s : y1.heap.size = C + 1 := by rw [← hy1, ← hy0s]; simp
                    have rc1 : RowC y1 C 39 [.int .i64 0, .int .i64 0, .bool false, .slice none 0 0] := by rw [← hy1, ← hy0s]; exact RowC.new y0 _ _
                    obtain ⟨y2, hy2⟩ : ∃ Y, y1.alloc (.cells #[.int .i64 0, .int .i64 0, .bool false, .slice none 0 0] 39) = Y := ⟨_, rfl⟩
                    have b2 : Below y1.heap.size y1 y2 := by rw [← hy2]; exact below_new y1 _
                    have rc2 : RowC y2 (C + 1) 39 [.int .i64 0, .int .i64 0, .bool false, .slice none 0 0] := by rw [← hy2, ← hy1s]; exact RowC.new y1 _ _
                    have rc1b := rc1.below b2
                    have Ky1 : Below wr.heap.size wr y1 := Ky0.trans (b1.mono Ky0.size)
                    have Ky2 : Below wr.heap.size wr y2 := Ky1.trans (b2.mono Ky1.size)
                    rw [wpPlan_two]
                    refine ⟨?_, ?_⟩
                    · simp only [nth_zero, nth_succ]
                      go_wp2_with fail
                      try rw [hy1]
                      try rw [hy0s]
                      refine planPost_mk ⟨⟨y1, Ky1⟩, rfl⟩ ?_
                      rw [wpPlan_one]
                      simp only [nth_zero, nth_succ]
                      go_wp2_with fail
                      try rw [hy2]
                      try rw [hy1s]
                      refine planPost_mk ⟨⟨y2, Ky2⟩, rfl⟩ ?_
                      obtain ⟨y3, S3, r63, g3⟩ := store_rcC (q1, q2, q3, (xa1, xn1, xc1)) rc1b rfl
                      have r73 := rc2.grown g3 (by simp)
                      have Ky3 : Below wr.heap.size wr y3 := Ky2.grown g3 Ky2.size (fun j e => by cases e; have := HC.out; omega)
                      obtain ⟨y4, S4, r74, g4⟩ := store_rcC (r1, r2, r3, (ya1, yn1, yc1)) r73 rfl
                      have r64 := r63.grown g4 (by simp)
                      have Ky4 : Below wr.heap.size wr y4 := Ky3.grown g4 Ky3.size (fun j e => by cases e; have := HC.out; omega)
                      have HK4 := Lib.hid Ky4
                      have a0 := r64.cell 0 _ rfl
                      have a1 := r64.cell 1 _ rfl
                      have a2 := r64.cell 2 _ rfl
                      have a3 := r64.cell 3 _ rfl
                      have b0 := r74.cell 0 _ rfl
                      have bb1 := r74.cell 1 _ rfl
                      have bb2 := r74.cell 2 _ rfl
                      have b3 := r74.cell 3 _ rfl
                      have HBX := Lib.hid (HBY.out y4 Ky4)
                      have HKX : Hid (Below X.heap.size X y4) := HB.out.trans (Ky4.mono (by rw [HC.out]; exact HXS2.out))
                      simp only [rvV, slV] at S3 S4 a3 b3
                      clear r63 r73 r74 r64 g3 g4 b1 b2 rc1 rc2 rc1b hy1 hy2 hy0s hy1s
                      rw [wpPlan_one]
                      simp only [nth_zero, nth_succ]
                      go_wp2_with fail
                      refine planPost_mk ⟨⟨y3, Ky3⟩, rfl⟩ ?_
                      rw [wpPlan_leaf]
                      simp only [List.drop_succ_cons, List.drop_zero]
                      clear Ky0 Ky1 Ky2 Ky3 Ky4
                      go_wp2_with fail
                      go_ret
                      rw [HZN.out]
                      exact ⟨rfl, by rw [HSZ.out]; exact HXB.out.trans (HKX.out.mono HSZX.out)⟩
                    · simp only [nth_zero, nth_succ]
                      go_wp2_with fail
                      try rw [hy1]
                      try rw [hy0s]
                      refine planPost_mk ⟨⟨y1, Ky1⟩, rfl⟩ ?_
                      rw [wpPlan_one]
                      simp only [nth_zero, nth_succ]
                      go_wp2_with fail
                      try rw [hy2]
                      try rw [hy1s]
                      refine planPost_mk ⟨⟨y2, Ky2⟩, rfl⟩ ?_
                      obtain ⟨y3, S3, r63, g3⟩ := store_rcC (q1, q2, q3, (xa1, xn1, xc1)) rc2 rfl
                      have r73 := rc1b.grown g3 (by simp)
                      have Ky3 : Below wr.heap.size wr y3 := Ky2.grown g3 Ky2.size (fun j e => by cases e; have := HC.out; omega)
                      obtain ⟨y4, S4, r74, g4⟩ := store_rcC (r1, r2, r3, (ya1, yn1, yc1)) r73 rfl
                      have r64 := r63.grown g4 (by simp)
                      have Ky4 : Below wr.heap.size wr y4 := Ky3.grown g4 Ky3.size (fun j e => by cases e; have := HC.out; omega)
                      have HK4 := Lib.hid Ky4
                      have a0 := r64.cell 0 _ rfl
                      have a1 := r64.cell 1 _ rfl
                      have a2 := r64.cell 2 _ rfl
                      have a3 := r64.cell 3 _ rfl
                      have b0 := r74.cell 0 _ rfl
                      have bb1 := r74.cell 1 _ rfl
                      have bb2 := r74.cell 2 _ rfl
                      have b3 := r74.cell 3 _ rfl
                      have HBX := Lib.hid (HBY.out y4 Ky4)
                      have HKX : Hid (Below X.heap.size X y4) := HB.out.trans (Ky4.mono (by rw [HC.out]; exact HXS2.out))
                      simp only [rvV, slV] at S3 S4 a3 b3
                      clear r63 r73 r74 r64 g3 g4 b1 b2 rc1 rc2 rc1b hy1 hy2 hy0s hy1s
                      rw [wpPlan_one]
                      simp only [nth_zero, nth_succ]
                      go_wp2_with fail
                      refine planPost_mk ⟨⟨y3, Ky3⟩, rfl⟩ ?_
                      rw [wpPlan_leaf]
                      simp only [List.drop_succ_cons, List.drop_zero]
                      clear Ky0 Ky1 Ky2 Ky3 Ky4
                      go_wp2_with fail
                      go_ret
                      rw [HZN.out]
                      exact ⟨rfl, by rw [HSZ.out]; exact HXB.out.trans (HKX.out.mono HSZX.out)⟩
                · have w2 : (q2 != r2) = true := by simp; exact z2
                  have ZZ2 := Lib.hid z2
                  clear z2
                  have HZN : Hid (Z = false) := HNO.out (fun h => by have h1 := (HST.out h).2.2.2; have h2 : x = y := (by have h3 := HX.out; rw [h1, HY.out] at h3; cases h3; rfl); exact ZZ2.out (HEX.out.ct.trans ((congrArg RC.ct h2).trans HEY.out.ct.symm)))
                  go_wp2_with fail
                  refine region_plan (fun x => ∃ z : Ext wr, x = z.1) 13 (.takes [0, 1, 2, 3, 4, 5, 6, 7, 8, 9] (.two 10 11 (.one 11 (.one 12 .leaf)) (.one 10 (.one 12 .leaf)))) hmx (by kernel_rfl) (by intro c x v a w h; cases x <;> exact h) ⟨⟨wr.drew, (Below.refl _ wr).drew⟩, rfl⟩ ?_
                  repeat (rw [wpPlan_takes_cons]; simp only [nth_zero, nth_succ]; go_big_quiet_step (fail); refine wpQuiet_nil ?_)
                  rw [wpPlan_takes_nil]
                  clear LX LY e3y f3y e3 f3
                  obtain ⟨y0, hy0⟩ : ∃ Y, wr.drew = Y := ⟨_, rfl⟩
                  have Ky0 : Below wr.heap.size wr y0 := by rw [← hy0]; exact (Below.refl _ wr).drew
                  have hy0s : y0.heap.size = C := by rw [← hy0, ← HC.out]; rfl
                  try rw [hy0]
                  clear hy0
                  obtain ⟨y1, hy1⟩ : ∃ Y, y0.alloc (.cells #[.int .i64 0, .int .i64 0, .bool false, .slice none 0 0] 39) = Y := ⟨_, rfl⟩
                  have b1 : Below y0.heap.size y0 y1 := by rw [← hy1]; exact below_new y0 _
                  have hy1s : y1.heap.size = C + 1 := by rw [← hy1, ← hy0s]; simp
                  have rc1 : RowC y1 C 39 [.int .i64 0, .int .i64 0, .bool false, .slice none 0 0] := by rw [← hy1, ← hy0s]; exact RowC.new y0 _ _
                  obtain ⟨y2, hy2⟩ : ∃ Y, y1.alloc (.cells #[.int .i64 0, .int .i64 0, .bool false, .slice none 0 0] 39) = Y := ⟨_, rfl⟩
                  have b2 : Below y1.heap.size y1 y2 := by rw [← hy2]; exact below_new y1 _
                  have rc2 : RowC y2 (C + 1) 39 [.int .i64 0, .int .i64 0, .bool false, .slice none 0 0] := by rw [← hy2, ← hy1s]; exact RowC.new y1 _ _
                  have rc1b := rc1.below b2
                  have Ky1 : Below wr.heap.size wr y1 := Ky0.trans (b1.mono Ky0.size)
                  have Ky2 : Below wr.heap.size wr y2 := Ky1.trans (b2.mono Ky1.size)
                  rw [wpPlan_two]
                  refine ⟨?_, ?_⟩
                  · simp only [nth_zero, nth_succ]
                    go_wp2_with fail
                    try rw [hy1]
                    try rw [hy0s]
                    refine planPost_mk ⟨⟨y1, Ky1⟩, rfl⟩ ?_
                    rw [wpPlan_one]
                    simp only [nth_zero, nth_succ]
                    go_wp2_with fail
                    try rw [hy2]
                    try rw [hy1s]
                    refine planPost_mk ⟨⟨y2, Ky2⟩, rfl⟩ ?_
                    obtain ⟨y3, S3, r63, g3⟩ := store_rcC (q1, q2, q3, (xa1, xn1, xc1)) rc1b rfl
                    have r73 := rc2.grown g3 (by simp)
                    have Ky3 : Below wr.heap.size wr y3 := Ky2.grown g3 Ky2.size (fun j e => by cases e; have := HC.out; omega)
                    obtain ⟨y4, S4, r74, g4⟩ := store_rcC (r1, r2, r3, (ya1, yn1, yc1)) r73 rfl
                    have r64 := r63.grown g4 (by simp)
                    have Ky4 : Below wr.heap.size wr y4 := Ky3.grown g4 Ky3.size (fun j e => by cases e; have := HC.out; omega)
                    have HK4 := Lib.hid Ky4
                    have a0 := r64.cell 0 _ rfl
                    have a1 := r64.cell 1 _ rfl
                    have a2 := r64.cell 2 _ rfl
                    have a3 := r64.cell 3 _ rfl
                    have b0 := r74.cell 0 _ rfl
                    have bb1 := r74.cell 1 _ rfl
                    have bb2 := r74.cell 2 _ rfl
                    have b3 := r74.cell 3 _ rfl
                    have HBX := Lib.hid (HBY.out y4 Ky4)
                    have HKX : Hid (Below X.heap.size X y4) := HB.out.trans (Ky4.mono (by rw [HC.out]; exact HXS2.out))
                    simp only [rvV, slV] at S3 S4 a3 b3
                    clear r63 r73 r74 r64 g3 g4 b1 b2 rc1 rc2 rc1b hy1 hy2 hy0s hy1s
                    rw [wpPlan_one]
                    simp only [nth_zero, nth_succ]
                    go_wp2_with fail
                    refine planPost_mk ⟨⟨y3, Ky3⟩, rfl⟩ ?_
                    rw [wpPlan_leaf]
                    simp only [List.drop_succ_cons, List.drop_zero]
                    clear Ky0 Ky1 Ky2 Ky3 Ky4
                    go_wp2_with fail
                    go_ret
                    rw [HZN.out]
                    exact ⟨rfl, by rw [HSZ.out]; exact HXB.out.trans (HKX.out.mono HSZX.out)⟩
                  · simp only [nth_zero, nth_succ]
                    go_wp2_with fail
                    try rw [hy1]
                    try rw [hy0s]
                    refine planPost_mk ⟨⟨y1, Ky1⟩, rfl⟩ ?_
                    rw [wpPlan_one]
                    simp only [nth_zero, nth_succ]
                    go_wp2_with fail
                    try rw [hy2]
                    try rw [hy1s]
                    refine planPost_mk ⟨⟨y2, Ky2⟩, rfl⟩ ?_
                    obtain ⟨y3, S3, r63, g3⟩ := store_rcC (q1, q2, q3, (xa1, xn1, xc1)) rc2 rfl
                    have r73 := rc1b.grown g3 (by simp)
                    have Ky3 : Below wr.heap.size wr y3 := Ky2.grown g3 Ky2.size (fun j e => by cases e; have := HC.out; omega)
                    obtain ⟨y4, S4, r74, g4⟩ := store_rcC (r1, r2, r3, (ya1, yn1, yc1)) r73 rfl
                    have r64 := r63.grown g4 (by simp)
                    have Ky4 : Below wr.heap.size wr y4 := Ky3.grown g4 Ky3.size (fun j e => by cases e; have := HC.out; omega)
                    have HK4 := Lib.hid Ky4
                    have a0 := r64.cell 0 _ rfl
                    have a1 := r64.cell 1 _ rfl
                    have a2 := r64.cell 2 _ rfl
                    have a3 := r64.cell 3 _ rfl
                    have b0 := r74.cell 0 _ rfl
                    have bb1 := r74.cell 1 _ rfl
                    have bb2 := r74.cell 2 _ rfl
                    have b3 := r74.cell 3 _ rfl
                    have HBX := Lib.hid (HBY.out y4 Ky4)
                    have HKX : Hid (Below X.heap.size X y4) := HB.out.trans (Ky4.mono (by rw [HC.out]; exact HXS2.out))
                    simp only [rvV, slV] at S3 S4 a3 b3
                    clear r63 r73 r74 r64 g3 g4 b1 b2 rc1 rc2 rc1b hy1 hy2 hy0s hy1s
                    rw [wpPlan_one]
                    simp only [nth_zero, nth_succ]
                    go_wp2_with fail
                    refine planPost_mk ⟨⟨y3, Ky3⟩, rfl⟩ ?_
                    rw [wpPlan_leaf]
                    simp only [List.drop_succ_cons, List.drop_zero]
                    clear Ky0 Ky1 Ky2 Ky3 Ky4
                    go_wp2_with fail
                    go_ret
                    rw [HZN.out]
                    exact ⟨rfl, by rw [HSZ.out]; exact HXB.out.trans (HKX.out.mono HSZX.out)⟩
              · have w1 : (q1 != r1) = true := by simp; exact z1
                have ZZ1 := Lib.hid z1
                clear z1
                have HZN : Hid (Z = false) := HNO.out (fun h => by have h1 := (HST.out h).2.2.2; have h2 : x = y := (by have h3 := HX.out; rw [h1, HY.out] at h3; cases h3; rfl); exact ZZ1.out (HEX.out.fr.trans ((congrArg RC.fr h2).trans HEY.out.fr.symm)))
                go_wp2_with fail
                refine region_plan (fun x => ∃ z : Ext wr, x = z.1) 13 (.takes [0, 1, 2, 3, 4, 5, 6, 7, 8, 9] (.two 10 11 (.one 11 (.one 12 .leaf)) (.one 10 (.one 12 .leaf)))) hmx (by kernel_rfl) (by intro c x v a w h; cases x <;> exact h) ⟨⟨wr.drew, (Below.refl _ wr).drew⟩, rfl⟩ ?_
                repeat (rw [wpPlan_takes_cons]; simp only [nth_zero, nth_succ]; go_big_quiet_step (fail); refine wpQuiet_nil ?_)
                rw [wpPlan_takes_nil]
                clear LX LY e3y f3y e3 f3
                obtain ⟨y0, hy0⟩ : ∃ Y, wr.drew = Y := ⟨_, rfl⟩
                have Ky0 : Below wr.heap.size wr y0 := by rw [← hy0]; exact (Below.refl _ wr).drew
                have hy0s : y0.heap.size = C := by rw [← hy0, ← HC.out]; rfl
                try rw [hy0]
                clear hy0
                obtain ⟨y1, hy1⟩ : ∃ Y, y0.alloc (.cells #[.int .i64 0, .int .i64 0, .bool false, .slice none 0 0] 39) = Y := ⟨_, rfl⟩
                have b1 : Below y0.heap.size y0 y1 := by rw [← hy1]; exact below_new y0 _
                have hy1s : y1.heap.size = C + 1 := by rw [← hy1, ← hy0s]; simp
                have rc1 : RowC y1 C 39 [.int .i64 0, .int .i64 0, .bool false, .slice none 0 0] := by rw [← hy1, ← hy0s]; exact RowC.new y0 _ _
                obtain ⟨y2, hy2⟩ : ∃ Y, y1.alloc (.cells #[.int .i64 0, .int .i64 0, .bool false, .slice none 0 0] 39) = Y := ⟨_, rfl⟩
                have b2 : Below y1.heap.size y1 y2 := by rw [← hy2]; exact below_new y1 _
                have rc2 : RowC y2 (C + 1) 39 [.int .i64 0, .int .i64 0, .bool false, .slice none 0 0] := by rw [← hy2, ← hy1s]; exact RowC.new y1 _ _
                have rc1b := rc1.below b2
                have Ky1 : Below wr.heap.size wr y1 := Ky0.trans (b1.mono Ky0.size)
                have Ky2 : Below wr.heap.size wr y2 := Ky1.trans (b2.mono Ky1.size)
                rw [wpPlan_two]
                refine ⟨?_, ?_⟩
                · simp only [nth_zero, nth_succ]
                  go_wp2_with fail
                  try rw [hy1]
                  try rw [hy0s]
                  refine planPost_mk ⟨⟨y1, Ky1⟩, rfl⟩ ?_
                  rw [wpPlan_one]
                  simp only [nth_zero, nth_succ]
                  go_wp2_with fail
                  try rw [hy2]
                  try rw [hy1s]
                  refine planPost_mk ⟨⟨y2, Ky2⟩, rfl⟩ ?_
                  obtain ⟨y3, S3, r63, g3⟩ := store_rcC (q1, q2, q3, (xa1, xn1, xc1)) rc1b rfl
                  have r73 := rc2.grown g3 (by simp)
                  have Ky3 : Below wr.heap.size wr y3 := Ky2.grown g3 Ky2.size (fun j e => by cases e; have := HC.out; omega)
                  obtain ⟨y4, S4, r74, g4⟩ := store_rcC (r1, r2, r3, (ya1, yn1, yc1)) r73 rfl
                  have r64 := r63.grown g4 (by simp)
                  have Ky4 : Below wr.heap.size wr y4 := Ky3.grown g4 Ky3.size (fun j e => by cases e; have := HC.out; omega)
                  have HK4 := Lib.hid Ky4
                  have a0 := r64.cell 0 _ rfl
                  have a1 := r64.cell 1 _ rfl
                  have a2 := r64.cell 2 _ rfl
                  have a3 := r64.cell 3 _ rfl
                  have b0 := r74.cell 0 _ rfl
                  have bb1 := r74.cell 1 _ rfl
                  have bb2 := r74.cell 2 _ rfl
                  have b3 := r74.cell 3 _ rfl
                  have HBX := Lib.hid (HBY.out y4 Ky4)
                  have HKX : Hid (Below X.heap.size X y4) := HB.out.trans (Ky4.mono (by rw [HC.out]; exact HXS2.out))
                  simp only [rvV, slV] at S3 S4 a3 b3
                  clear r63 r73 r74 r64 g3 g4 b1 b2 rc1 rc2 rc1b hy1 hy2 hy0s hy1s
                  rw [wpPlan_one]
                  simp only [nth_zero, nth_succ]
                  go_wp2_with fail
                  refine planPost_mk ⟨⟨y3, Ky3⟩, rfl⟩ ?_
                  rw [wpPlan_leaf]
                  simp only [List.drop_succ_cons, List.drop_zero]
                  clear Ky0 Ky1 Ky2 Ky3 Ky4
                  go_wp2_with fail
                  go_ret
                  rw [HZN.out]
                  exact ⟨rfl, by rw [HSZ.out]; exact HXB.out.trans (HKX.out.mono HSZX.out)⟩
                · simp only [nth_zero, nth_succ]
                  go_wp2_with fail
                  try rw [hy1]
                  try rw [hy0s]
                  refine planPost_mk ⟨⟨y1, Ky1⟩, rfl⟩ ?_
                  rw [wpPlan_one]
                  simp only [nth_zero, nth_succ]
                  go_wp2_with fail
                  try rw [hy2]
                  try rw [hy1s]
                  refine planPost_mk ⟨⟨y2, Ky2⟩, rfl⟩ ?_
                  obtain ⟨y3, S3, r63, g3⟩ := store_rcC (q1, q2, q3, (xa1, xn1, xc1)) rc2 rfl
                  have r73 := rc1b.grown g3 (by simp)
                  have Ky3 : Below wr.heap.size wr y3 := Ky2.grown g3 Ky2.size (fun j e => by cases e; have := HC.out; omega)
                  obtain ⟨y4, S4, r74, g4⟩ := store_rcC (r1, r2, r3, (ya1, yn1, yc1)) r73 rfl
                  have r64 := r63.grown g4 (by simp)
                  have Ky4 : Below wr.heap.size wr y4 := Ky3.grown g4 Ky3.size (fun j e => by cases e; have := HC.out; omega)
                  have HK4 := Lib.hid Ky4
                  have a0 := r64.cell 0 _ rfl
                  have a1 := r64.cell 1 _ rfl
                  have a2 := r64.cell 2 _ rfl
                  have a3 := r64.cell 3 _ rfl
                  have b0 := r74.cell 0 _ rfl
                  have bb1 := r74.cell 1 _ rfl
                  have bb2 := r74.cell 2 _ rfl
                  have b3 := r74.cell 3 _ rfl
                  have HBX := Lib.hid (HBY.out y4 Ky4)
                  have HKX : Hid (Below X.heap.size X y4) := HB.out.trans (Ky4.mono (by rw [HC.out]; exact HXS2.out))
                  simp only [rvV, slV] at S3 S4 a3 b3
                  clear r63 r73 r74 r64 g3 g4 b1 b2 rc1 rc2 rc1b hy1 hy2 hy0s hy1s
                  rw [wpPlan_one]
                  simp only [nth_zero, nth_succ]
                  go_wp2_with fail
                  refine planPost_mk ⟨⟨y3, Ky3⟩, rfl⟩ ?_
                  rw [wpPlan_leaf]
                  simp only [List.drop_succ_cons, List.drop_zero]
                  clear Ky0 Ky1 Ky2 Ky3 Ky4
                  go_wp2_with fail
                  go_ret
                  rw [HZN.out]
                  exact ⟨rfl, by rw [HSZ.out]; exact HXB.out.trans (HKX.out.mono HSZX.out)⟩
            · have g1 : ¬ (k : Int) < (xn : Int) := by omega
              obtain rfl : k = xn := by omega
              have hz : Z = true := HYES.out (sm_ext (H1.out.trans (P1.out.trans H1'.out.symm)) (H2.out.trans (P2.out.trans H2'.out.symm)) (H3.out.trans (P3.out.trans H3'.out.symm)) (by have := HE.out; rw [HL.out, List.take_length] at this; rw [this, ← HL.out, P4.out, HL'.out, List.take_length]))
              have HZ := Lib.hid hz
              clear hz
              go_wp2_with fail
              go_ret
              rw [HZ.out]
              exact ⟨rfl, by first | exact HXB.out.trans (HB.out.mono (by have := K1.out.lt; omega)) | (rw [HSZ.out]; exact HXB.out.trans (HB.out.mono (by have := K1.out.lt; omega)))⟩
        · have q4 : ((xn : Int) != (yn : Int)) = true := by simp; omega
          have P4 := Lib.hid p4
          clear p4
          go_enter Try.func17, Try.ntmps17
          go_wp2_with fail
          go_ret
          have hz : Z = false := HNO.out (fun h => by have h := HST.out h; exact P4.out (by rw [HL.out, HL'.out, h.2.2.2]))
          rw [hz]
          exact ⟨rfl, by rw [HSZ.out]; exact HXB.out⟩
      · have q3 : (id != id') = true := by simp; exact p3
        have P3 := Lib.hid p3
        clear p3
        go_enter Try.func17, Try.ntmps17
        go_wp2_with fail
        go_ret
        have hz : Z = false := HNO.out (fun h => by have h := HST.out h; exact P3.out (H3.out.symm.trans (h.2.2.1.trans H3'.out)))
        rw [hz]
        exact ⟨rfl, by rw [HSZ.out]; exact HXB.out⟩
    · have q2 : (ba != ba') = true := by simp; exact p2
      have P2 := Lib.hid p2
      clear p2
      go_enter Try.func17, Try.ntmps17
      go_wp2_with fail
      go_ret
      have hz : Z = false := HNO.out (fun h => by have h := HST.out h; exact P2.out (H2.out.symm.trans (h.2.1.trans H2'.out)))
      rw [hz]
      exact ⟨rfl, by rw [HSZ.out]; exact HXB.out⟩
  · have q1 : (bl != bl') = true := by simp; exact p1
    have P1 := Lib.hid p1
    clear p1
    go_enter Try.func17, Try.ntmps17
    go_wp2_with fail
    go_ret
    have hz : Z = false := HNO.out (fun h => by have h := HST.out h; exact P1.out (H1.out.symm.trans (h.1.trans H1'.out)))
    rw [hz]
    exact ⟨rfl, by rw [HSZ.out]; exact HXB.out⟩
end Go.Proofs.Ytlnljanhnodhkaa

/- For the statements on streams: plain facts. -/
namespace Go.Proofs.Ytlnljanhnodhkaa
open Go.RowKit Go.Shelf
set_option linter.unusedVariables false
/-- Where the record ahead ends, no wraps. -/
def endS (l : List RC) : Nat → Int
  | 0 => 0
  | k + 1 => (l[k]?.getD rcz).fr + (l[k]?.getD rcz).ct
theorem endS_succ {l : List RC} {k : Nat} {p : RC} (h : l[k]? = some p) : endS l (k + 1) = p.fr + p.ct := by simp [endS, h]
theorem endS_le {s : SM} (h : sGood s) {k : Nat} {x : RC} (hx : s.re[k]? = some x) : endS s.re k ≤ x.fr := by
  match k with
  | 0 => have := (h.at hx).1; simpa [endS] using this
  | k + 1 =>
    have hk := (List.getElem?_eq_some_iff.1 hx).1
    have hp := List.getElem?_eq_getElem (l := s.re) (i := k) (by omega)
    rw [endS_succ hp]
    exact (h.next hp hx).1
theorem endS_bl {s : SM} (h : sGood s) {k : Nat} (hk : k ≤ s.re.length) : 0 ≤ endS s.re k ∧ endS s.re k ≤ s.bl := by
  match k with
  | 0 => have := h.1.1; simp only [endS]; omega
  | k + 1 =>
    have hp := List.getElem?_eq_getElem (l := s.re) (i := k) (by omega)
    rw [endS_succ hp]
    have := h.at hp
    omega
theorem isBytes_encB {s : SM} (h : s.Ok) : IsBytes (encB s) := isBytes_app (isBytes_app (isBytes_bodyB h) (bytes_one (by decide))) (putL_bytes _ _)
theorem enc_iff {s t : SM} (hs : sGood s) (ht : sGood t) : decide (encB s = encB t) = decide (s = t) := by
  by_cases h : s = t
  · subst h; simp
  · rw [decide_eq_false h, decide_eq_false (fun e => h (enc_inj hs ht e))]
theorem rsLen_small {s : SM} (h : sGood s) (k : Nat) : rsLen (s.re.take k) ≤ 270000 := by
  have h1 : rsLen (s.re.take k) ≤ (s.re.take k).length * 4109 := rsLen_le fun x hx => by
    obtain ⟨j, hj⟩ := List.getElem?_of_mem (List.mem_of_mem_take hx)
    exact h.len hj
  have h2 := h.many
  have h3 : (s.re.take k).length ≤ 64 := by rw [List.length_take]; omega
  have : (s.re.take k).length * 4109 ≤ 64 * 4109 := Nat.mul_le_mul_right _ h3
  omega
end Go.Proofs.Ytlnljanhnodhkaa

/- Two records that write nothing: which streams of them may be. -/
namespace Go.Proofs.Ytlnljanhnodhkaa
open Go.RowKit Go.Shelf
set_option linter.unusedVariables false
def orZ (f c : Int) : RC := ⟨f, c, true, []⟩
def orR (f c : Int) : RV := (f, c, true, (none, 0, 0))
theorem orIs {W : World} {f c : Int} (hf : 0 ≤ f ∧ f ≤ 64) (hc : 1 ≤ c ∧ c ≤ 64) : RcIs W (orR f c) (orZ f c) :=
  ⟨rfl, rfl, rfl, Sl.nil _ _, ⟨i64_small (by show _ ∧ _; simp only [orZ]; omega), i64_small (by show _ ∧ _; simp only [orZ]; omega), isBytes_nil⟩⟩
theorem or_pl {b lo f c : Int} : plOk b lo (orZ f c) ↔ lo ≤ f ∧ f ≤ b - 1 ∧ 1 ≤ c ∧ c ≤ b - f := Iff.rfl
theorem or_da {f c : Int} : daOk 1 (orZ f c) := ⟨fun _ => ⟨by decide, rfl⟩, fun h => by cases h⟩
theorem or_one {b f c : Int} (hb : 1 ≤ b ∧ b ≤ 64) (hf : 0 ≤ f) (hc : 1 ≤ c) : sGood ⟨b, 1, 2, [orZ f c]⟩ ↔ f + c ≤ b := by
  constructor
  · intro h
    have := h.at (k := 0) (x := orZ f c) rfl
    simpa [orZ] using this.2.2.1
  · intro h
    refine ⟨(⟨hb.1, hb.2, by omega, by omega, .inr ⟨by omega, by omega⟩⟩ : hdOk b 1 2), fun k x hk => ?_⟩
    match k with
    | 0 => cases hk; exact ⟨or_pl.2 ⟨hf, by show f ≤ b - 1; omega, hc, by show c ≤ b - f; omega⟩, or_da⟩
    | k + 1 => cases hk
theorem or_two {f c g d : Int} (hf : 0 ≤ f ∧ f + c ≤ 64) (hc : 1 ≤ c) (hg : 0 ≤ g ∧ g + d ≤ 64) (hd : 1 ≤ d) : sGood ⟨64, 1, 2, [orZ f c, orZ g d]⟩ ↔ f + c < g := by
  constructor
  · intro h
    exact (h.next (k := 0) (p := orZ f c) (x := orZ g d) rfl rfl).2 rfl
  · intro h
    refine ⟨(⟨by omega, by omega, by omega, by omega, .inr ⟨by omega, by omega⟩⟩ : hdOk 64 1 2), fun k x hk => ?_⟩
    match k with
    | 0 => cases hk; exact ⟨or_pl.2 ⟨hf.1, by show f ≤ 64 - 1; omega, hc, by show c ≤ 64 - f; omega⟩, or_da⟩
    | 1 =>
      cases hk
      refine ⟨or_pl.2 ⟨?_, by show g ≤ 64 - 1; omega, hd, by show d ≤ 64 - g; omega⟩, or_da⟩
      show leastAt [orZ f c, orZ g d] 1 ≤ g
      rw [leastAt_succ (p := orZ f c) (x := orZ g d) rfl rfl, least_ok (by show 0 ≤ f + c; omega) (by show f + c ≤ 64; omega)]
      simp only [orZ, beq_self_eq_true, if_true]
      omega
    | k + 2 => cases hk
/-- A stream of such a row. -/
theorem or_sm {W : World} {b : Int} {B n : Nat} {r : List RV} {l : List RC} (hb : 1 ≤ b ∧ b ≤ 64) (h : RcR W (.slice (some ⟨B, 0, none⟩) n n) r l) : Smi W (smV b 1 2 (some ⟨B, 0, none⟩, n, n)) ⟨b, 1, 2, l⟩ :=
  ⟨r, ⟨⟨_, rfl, h⟩, i64_small (n := b) (by omega), i64_small (n := 1) (by decide), i64_small (n := 2) (by decide)⟩⟩
theorem or_row1 {W : World} {B : Nat} {q : RV} {s : RC} (h : RowC W B 39 (rvs [q])) (hq : RcIs W q s) : RcR W (.slice (some ⟨B, 0, none⟩) 1 1) [q] [s] := by
  refine ⟨_, _, rfl, Nat.le_refl _, by simp [maxLen], (fun e => by cases e), rfl, fun j p x h1 h2 => ?_, .inr ⟨B, 0, rfl, h.lt, fun j p hj => ?_⟩⟩
  · match j with
    | 0 => cases h1; cases h2; exact hq
    | j + 1 => cases h1
  · match j with
    | 0 => cases hj; exact ⟨h.cell 0 _ rfl, h.cell 1 _ rfl, h.cell 2 _ rfl, h.cell 3 _ rfl⟩
    | j + 1 => cases hj
theorem or_row2 {W : World} {B : Nat} {q p : RV} {s t : RC} (h : RowC W B 39 (rvs [q, p])) (hq : RcIs W q s) (hp : RcIs W p t) : RcR W (.slice (some ⟨B, 0, none⟩) 2 2) [q, p] [s, t] := by
  refine ⟨_, _, rfl, Nat.le_refl _, by simp [maxLen], (fun e => by cases e), rfl, fun j p x h1 h2 => ?_, .inr ⟨B, 0, rfl, h.lt, fun j p hj => ?_⟩⟩
  · match j with
    | 0 => cases h1; cases h2; exact hq
    | 1 => cases h1; cases h2; exact hp
    | j + 2 => cases h1
  · match j with
    | 0 => cases hj; exact ⟨h.cell 0 _ rfl, h.cell 1 _ rfl, h.cell 2 _ rfl, h.cell 3 _ rfl⟩
    | 1 => cases hj; exact ⟨h.cell 4 _ rfl, h.cell 5 _ rfl, h.cell 6 _ rfl, h.cell 7 _ rfl⟩
    | j + 2 => cases hj
end Go.Proofs.Ytlnljanhnodhkaa

/- The document's stream: Head, Next. -/
namespace Go.Proofs.Ytlnljanhnodhkaa
open Go.RowKit Go.Shelf
set_option linter.unusedVariables false
set_option linter.unusedSimpArgs false
attribute [-simp] Try.isAgg39 Try.zeroValue39 Try.isAgg24 Try.zeroValue24
attribute [-go_sem] loadVar storeVar
attribute [local go_sem] loadVar_openRS storeVar_openRS zero_rc zero_sm

set_option maxRecDepth 100000 in
set_option maxHeartbeats 4000000 in
/-- **Head**, the document's. -/
theorem rf16_head (bl ba id : Int) (x : SlV) (w : World) : Calls Try.prog 32 #[smV bl ba id x] w fun e w' => ∃ t, e = .returned (.bool t) ∧ (t = true ↔ hdOk bl ba id) ∧ Below w.heap.size w w' := by
  obtain ⟨a, n, c⟩ := x
  obtain ⟨W, hW⟩ : ∃ W, w.alloc (.cells #[.int .i64 bl, .int .i64 ba, .int .i64 id, .slice a n c] 24) = W := ⟨_, rfl⟩
  have r : RowC W w.heap.size 24 [.int .i64 bl, .int .i64 ba, .int .i64 id, .slice a n c] := by rw [← hW]; exact RowC.new w _ _
  have HB : Hid (Below w.heap.size w W) := by show Below _ _ _; rw [← hW]; exact below_new w _
  have c0 := r.cell 0 _ rfl
  have c1 := r.cell 1 _ rfl
  have c2 := r.cell 2 _ rfl
  simp only [smV, slV]
  clear r
  by_cases p0 : 1 ≤ bl
  · have q0 : decide (bl ≥ 1) = true := by simpa using p0
    have P0 := Lib.hid p0
    clear p0
    by_cases p1 : bl ≤ 64
    · have q1 : decide (bl ≤ 64) = true := by simpa using p1
      have P1 := Lib.hid p1
      clear p1
      by_cases p2 : 1 ≤ id
      · have q2 : decide (id ≥ 1) = true := by simpa using p2
        have P2 := Lib.hid p2
        clear p2
        by_cases p3 : id ≤ 1000000
        · have q3 : decide (id ≤ 1000000) = true := by simpa using p3
          have P3 := Lib.hid p3
          clear p3
          by_cases p4 : ba = -1
          · have q4 : (ba == -1) = true := by simpa using p4
            have P4 := Lib.hid p4
            clear p4
            go_enter Try.func32, Try.ntmps32
            go_wp2_with fail
            go_ret
            have := P0.out
            have := P1.out
            have := P2.out
            have := P3.out
            have := P4.out
            first | exact ⟨true, rfl, by unfold hdOk; simp; omega, HB.out⟩ | exact .inr ⟨rfl, by unfold hdOk; omega, HB.out⟩
          · have q4 : (ba == -1) = false := by simpa using p4
            have P4 := Lib.hid p4
            clear p4
            by_cases p5 : 1 ≤ ba
            · have q5 : decide (ba ≥ 1) = true := by simpa using p5
              have P5 := Lib.hid p5
              clear p5
              by_cases p6 : ba < id
              · have q6 : decide (ba < id) = true := by simpa using p6
                have P6 := Lib.hid p6
                clear p6
                go_enter Try.func32, Try.ntmps32
                go_wp2_with fail
                go_ret
                have := P0.out
                have := P1.out
                have := P2.out
                have := P3.out
                have := P4.out
                have := P5.out
                have := P6.out
                first | exact ⟨true, rfl, by unfold hdOk; simp; omega, HB.out⟩ | exact .inr ⟨rfl, by unfold hdOk; omega, HB.out⟩
              · have q6 : decide (ba < id) = false := by simpa using p6
                have P6 := Lib.hid p6
                clear p6
                go_enter Try.func32, Try.ntmps32
                go_wp2_with fail
                go_ret
                have := P0.out
                have := P1.out
                have := P2.out
                have := P3.out
                have := P4.out
                have := P5.out
                have := P6.out
                first | exact ⟨false, rfl, by unfold hdOk; simp; omega, HB.out⟩ | exact .inl ⟨rfl, by unfold hdOk; omega, HB.out⟩
            · have q5 : decide (ba ≥ 1) = false := by simpa using p5
              have P5 := Lib.hid p5
              clear p5
              go_enter Try.func32, Try.ntmps32
              go_wp2_with fail
              go_ret
              have := P0.out
              have := P1.out
              have := P2.out
              have := P3.out
              have := P4.out
              have := P5.out
              first | exact ⟨false, rfl, by unfold hdOk; simp; omega, HB.out⟩ | exact .inl ⟨rfl, by unfold hdOk; omega, HB.out⟩
        · have q3 : decide (id ≤ 1000000) = false := by simpa using p3
          have P3 := Lib.hid p3
          clear p3
          go_enter Try.func32, Try.ntmps32
          go_wp2_with fail
          go_ret
          have := P0.out
          have := P1.out
          have := P2.out
          have := P3.out
          first | exact ⟨false, rfl, by unfold hdOk; simp; omega, HB.out⟩ | exact .inl ⟨rfl, by unfold hdOk; omega, HB.out⟩
      · have q2 : decide (id ≥ 1) = false := by simpa using p2
        have P2 := Lib.hid p2
        clear p2
        go_enter Try.func32, Try.ntmps32
        go_wp2_with fail
        go_ret
        have := P0.out
        have := P1.out
        have := P2.out
        first | exact ⟨false, rfl, by unfold hdOk; simp; omega, HB.out⟩ | exact .inl ⟨rfl, by unfold hdOk; omega, HB.out⟩
    · have q1 : decide (bl ≤ 64) = false := by simpa using p1
      have P1 := Lib.hid p1
      clear p1
      go_enter Try.func32, Try.ntmps32
      go_wp2_with fail
      go_ret
      have := P0.out
      have := P1.out
      first | exact ⟨false, rfl, by unfold hdOk; simp; omega, HB.out⟩ | exact .inl ⟨rfl, by unfold hdOk; omega, HB.out⟩
  · have q0 : decide (bl ≥ 1) = false := by simpa using p0
    have P0 := Lib.hid p0
    clear p0
    go_enter Try.func32, Try.ntmps32
    go_wp2_with fail
    go_ret
    have := P0.out
    first | exact ⟨false, rfl, by unfold hdOk; simp; omega, HB.out⟩ | exact .inl ⟨rfl, by unfold hdOk; omega, HB.out⟩
end Go.Proofs.Ytlnljanhnodhkaa

/- The document's stream: Next. -/
namespace Go.Proofs.Ytlnljanhnodhkaa
open Go.RowKit Go.Shelf
set_option linter.unusedVariables false
set_option linter.unusedSimpArgs false
attribute [-simp] Try.isAgg39 Try.zeroValue39 Try.isAgg24 Try.zeroValue24
attribute [-go_sem] loadVar storeVar
attribute [local go_sem] loadVar_openRS storeVar_openRS zero_rc zero_sm

/-- A bool that tells whether p, and new memory. -/
def RetB (p : Prop) (w : World) (e : Ending) (w' : World) : Prop := ∃ t, e = .returned (.bool t) ∧ (t = true ↔ p) ∧ Below w.heap.size w w'
theorem RetB.yes {p : Prop} {w w' : World} (hp : p) (hb : Below w.heap.size w w') : RetB p w (.returned (.bool true)) w' := ⟨true, rfl, ⟨fun _ => hp, fun _ => rfl⟩, hb⟩
theorem RetB.no {p : Prop} {w w' : World} (hp : ¬ p) (hb : Below w.heap.size w w') : RetB p w (.returned (.bool false)) w' := ⟨false, rfl, ⟨fun h => (by cases h), fun h => absurd h hp⟩, hb⟩

theorem sl_pieceC {w : World} {b off cap m : Nat} {bs : List Int} {len : Nat} (h : Sl .u8 w (.slice (some ⟨b, off, none⟩) len cap) bs) (hlen0 : 64 * m = len) (hl : bs.length = 64 * m) {k : Nat} (hk : k < m) :
    Sl .u8 w (.slice (some ⟨b, off + k * 64, none⟩) ((k + 1) * 64 - k * 64) (cap - k * 64)) ((bs.drop (64 * k)).take 64) := by
  obtain ⟨a', c', e, h1, h2, h3, -⟩ := h
  obtain ⟨rfl, -, rfl⟩ := Value.slice.inj e
  have hlen : ((bs.drop (64 * k)).take 64).length = 64 := by simp; omega
  rcases h3 with h3 | ⟨b', o', e', h4, h5⟩
  · rw [h3] at hl; simp at hl; omega
  · cases e'
    have := Sl.at (k := .u8) (w := w) (b := b) (off := off + k * 64) (cap := cap - k * 64) (bs := (bs.drop (64 * k)).take 64) (by omega) (by omega) h4 (fun j hj => by
      rw [hlen] at hj
      rw [List.getElem?_take, if_pos hj, List.getElem?_drop, show off + k * 64 + j = off + (64 * k + j) by omega]
      exact h5 _ (by omega))
    rw [hlen] at this
    rw [show (k + 1) * 64 - k * 64 = 64 by omega]
    exact this
set_option maxRecDepth 100000 in
set_option maxHeartbeats 8000000 in
/-- **Next**, the document's. -/
theorem rf16_next {w : World} {bl ba id : Int} (hb : 1 ≤ bl ∧ bl ≤ 64) {pv : SlV} {rr : List RV} {pl : List RC} (hp : RcR w (slV pv) rr pl) {x : RC} {d : SlV} (hd : Sl .u8 w (slV d) x.da) (lo : Int)
    (hlo : (pl = [] ∧ lo = 0) ∨ ∃ k p, pl.length = k + 1 ∧ pl[k]? = some p ∧ 0 ≤ p.fr + p.ct ∧ p.fr + p.ct ≤ 64 ∧ lo = if x.ze == p.ze then p.fr + p.ct + 1 else p.fr + p.ct) :
    Calls Try.prog 33 #[smV bl ba id pv, rvV (x.fr, x.ct, x.ze, d)] w (RetB (plOk bl lo x ∧ daOk ba x) w) := by
  have HLO : Hid (0 ≤ lo) := by
    rcases hlo with ⟨-, rfl⟩ | ⟨k, p, -, -, h1, h2, rfl⟩
    · exact Int.le_refl 0
    · show 0 ≤ _; split <;> omega
  have HHL := Lib.hid hlo
  have HP := Lib.hid hp
  obtain ⟨pa, pn, pc⟩ := pv
  obtain ⟨a, n, c⟩ := d
  obtain ⟨fr, ct, ze, da⟩ := x
  obtain ⟨hn, hmx, hca⟩ := Sl.cellW hd
  simp only at hn hmx hca
  obtain ⟨B, hBB⟩ : ∃ B, w.heap.size = B := ⟨_, rfl⟩
  have HSZ := Lib.hid hBB
  obtain ⟨hpn, hpm⟩ : pn = pl.length ∧ pn ≤ maxLen := by obtain ⟨a', c', e, h1, h2⟩ := hp.len; cases e; exact ⟨rfl, by omega⟩
  have HPN := Lib.hid hpn
  have hpm' : (pn : Int) ≤ 9223372036854775807 := by unfold maxLen at hpm; omega
  have hmx' : (n : Int) ≤ 9223372036854775807 := by unfold maxLen at hmx; omega
  have hcap : n ≤ c ∧ (c : Int) ≤ 9223372036854775807 := by obtain ⟨a', c', e, h1, h2, -⟩ := hd; simp only [slV, Value.slice.injEq] at e; obtain ⟨-, e2, e3⟩ := e; unfold maxLen at h2; simp only at *; omega
  obtain ⟨hc1, hc2⟩ := hcap
  have HN := Lib.hid hn
  have HCA := Lib.hid hca
  have HD := Lib.hid hd
  obtain ⟨hb1, hb2⟩ := hb
  obtain ⟨W, hW⟩ : ∃ W, (w.alloc (.cells #[.int .i64 bl, .int .i64 ba, .int .i64 id, .slice pa pn pc] 24)).alloc (.cells #[.int .i64 fr, .int .i64 ct, .bool ze, .slice a n c] 39) = W := ⟨_, rfl⟩
  have r0 : RowC W B 24 [.int .i64 bl, .int .i64 ba, .int .i64 id, .slice pa pn pc] := by rw [← hW, ← hBB]; exact (RowC.new w _ _).below (below_new _ _)
  have r1 : RowC W (B + 1) 39 [.int .i64 fr, .int .i64 ct, .bool ze, .slice a n c] := by
    rw [← hW, ← hBB]
    have := RowC.new (w.alloc (.cells #[.int .i64 bl, .int .i64 ba, .int .i64 id, .slice pa pn pc] 24)) 39 [.int .i64 fr, .int .i64 ct, .bool ze, .slice a n c]
    rwa [World.size_alloc] at this
  have hWB : Below B w W := by rw [← hW, ← hBB]; exact ((Below.refl _ w).alloc (Nat.le_refl _) _).alloc (by simp) _
  have HWB := Lib.hid hWB
  have hWs : W.heap.size = B + 2 := by rw [← hW, ← hBB]; simp
  have HWS := Lib.hid hWs
  have s0 := r0.cell 0 _ rfl
  have s1 := r0.cell 1 _ rfl
  have s3 := r0.cell 3 _ rfl
  have x0 := r1.cell 0 _ rfl
  have x1 := r1.cell 1 _ rfl
  have x2 := r1.cell 2 _ rfl
  have x3 := r1.cell 3 _ rfl
  have R1 := Lib.hid r1
  obtain ⟨Q, hQ⟩ : ∃ Q, (plOk bl lo ⟨fr, ct, ze, da⟩ ∧ daOk ba ⟨fr, ct, ze, da⟩) = Q := ⟨_, rfl⟩
  have HQ := Lib.hid hQ
  rw [hQ]
  simp only [smV, rvV, slV]
  clear r0 r1 hWB hWs hQ hn hca hd hp hlo hpn hmx hpm
  by_cases p1 : ct < 1
  · have q1 : decide (ct < 1) = true := by simp; omega
    have P1 := Lib.hid p1
    clear p1
    try have w1 := HW1.out
    try have hw := HW2.out
    try have hpk1 := HW3.out
    try have w64 := HW4.out
    go_enter Try.func33, Try.ntmps33
    go_wp2_with fail
    go_ret
    refine RetB.no (fun h => ?_) (by rw [HSZ.out]; exact HWB.out)
    rw [← HQ.out] at h
    obtain ⟨⟨h1, h2, h3, h4⟩, h5, h6⟩ := h
    have := HLO.out; have := P1.out; simp only at *; omega
  · have q1 : decide (ct < 1) = false := by simp; omega
    have P1 := Lib.hid p1
    clear p1
    by_cases p2 : fr < 0
    · have q2 : decide (fr < 0) = true := by simp; omega
      have P2 := Lib.hid p2
      clear p2
      try have w1 := HW1.out
      try have hw := HW2.out
      try have hpk1 := HW3.out
      try have w64 := HW4.out
      go_enter Try.func33, Try.ntmps33
      go_wp2_with fail
      go_ret
      refine RetB.no (fun h => ?_) (by rw [HSZ.out]; exact HWB.out)
      rw [← HQ.out] at h
      obtain ⟨⟨h1, h2, h3, h4⟩, h5, h6⟩ := h
      have := HLO.out; have := P2.out; simp only at *; omega
    · have q2 : decide (fr < 0) = false := by simp; omega
      have P2 := Lib.hid p2
      clear p2
      by_cases p3 : bl ≤ fr
      · have q3 : decide (fr ≥ bl) = true := by simp; omega
        have P3 := Lib.hid p3
        clear p3
        try have w1 := HW1.out
        try have hw := HW2.out
        try have hpk1 := HW3.out
        try have w64 := HW4.out
        go_enter Try.func33, Try.ntmps33
        go_wp2_with fail
        go_ret
        refine RetB.no (fun h => ?_) (by rw [HSZ.out]; exact HWB.out)
        rw [← HQ.out] at h
        obtain ⟨⟨h1, h2, h3, h4⟩, h5, h6⟩ := h
        have := HLO.out; have := P3.out; simp only at *; omega
      · have q3 : decide (fr ≥ bl) = false := by simp; omega
        have P3 := Lib.hid p3
        clear p3
        have HW1 : Hid (wrap64 (bl - fr) = bl - fr) := IntWalk.wrap64_in _ (by have := P2.out; have := P3.out; omega)
        by_cases p4 : bl - fr < ct
        · have q4 : decide (ct > bl - fr) = true := by simp; omega
          have P4 := Lib.hid p4
          clear p4
          try have w1 := HW1.out
          try have hw := HW2.out
          try have hpk1 := HW3.out
          try have w64 := HW4.out
          go_enter Try.func33, Try.ntmps33
          go_wp2_with fail
          go_ret
          refine RetB.no (fun h => ?_) (by rw [HSZ.out]; exact HWB.out)
          rw [← HQ.out] at h
          obtain ⟨⟨h1, h2, h3, h4⟩, h5, h6⟩ := h
          have := HLO.out; have := P4.out; simp only at *; omega
        · have q4 : decide (ct > bl - fr) = false := by simp; omega
          have P4 := Lib.hid p4
          clear p4
          cases ze with
          | true =>
            by_cases p5 : ba = -1
            · have q5 : (ba == -1) = true := by simpa using p5
              have P5 := Lib.hid p5
              clear p5
              try have w1 := HW1.out
              try have hw := HW2.out
              try have hpk1 := HW3.out
              try have w64 := HW4.out
              go_enter Try.func33, Try.ntmps33
              go_wp2_with fail
              go_ret
              refine RetB.no (fun h => ?_) (by rw [HSZ.out]; exact HWB.out)
              rw [← HQ.out] at h
              obtain ⟨⟨h1, h2, h3, h4⟩, h5, h6⟩ := h
              exact (h5 rfl).1 P5.out
            · have q5 : (ba == -1) = false := by simpa using p5
              have P5 := Lib.hid p5
              clear p5
              by_cases p6 : n = 0
              · have q6 : ((n : Int) != 0) = false := by simpa using p6
                have P6 := Lib.hid p6
                have HDO : Hid (daOk ba ⟨fr, ct, true, da⟩) := ⟨fun _ => ⟨P5.out, List.eq_nil_of_length_eq_zero (HN.out.symm.trans P6.out)⟩, fun h => (by cases h)⟩
                clear p6
                rcases HHL.out with ⟨hpl, hl0⟩ | ⟨k, p, hpl, hpk, h01, h02, hlo2⟩
                · obtain ⟨rfl, hpl⟩ : pn = 0 ∧ lo = 0 := ⟨by rw [HPN.out, hpl]; rfl, hl0⟩
                  subst hpl
                  have HPK : Hid (plOk bl 0 ⟨fr, ct, true, da⟩) := by have a1 := P1.out; have a2 := P2.out; have a3 := P3.out; have a4 := P4.out; exact ⟨by simp only; omega, by simp only; omega, by simp only; omega, by simp only; omega⟩
                  try have w1 := HW1.out
                  try have hw := HW2.out
                  try have hpk1 := HW3.out
                  try have w64 := HW4.out
                  go_enter Try.func33, Try.ntmps33
                  go_wp2_with fail
                  go_ret
                  exact RetB.yes (by rw [← HQ.out]; exact ⟨HPK.out, HDO.out⟩) (by rw [HSZ.out]; exact HWB.out)
                · obtain ⟨b, o, q, rfl, hbl, hrq, hqi, k1, k2, k3, k4⟩ := (HP.out.below (by rw [HSZ.out]; exact HWB.out)).at hpk
                  obtain ⟨y1, y2, y3, ⟨ya, yn, yc⟩⟩ := q
                  have LD := load_rc k1 k2 k3 k4
                  have ST := new_rc W (y1, y2, y3, (ya, yn, yc))
                  obtain ⟨W2, hW2⟩ : ∃ W2, W.alloc (.cells (rvL (y1, y2, y3, (ya, yn, yc))).toArray 39) = W2 := ⟨_, rfl⟩
                  rw [hW2] at ST
                  rw [HWS.out] at ST
                  have b2 : Below W.heap.size W W2 := by rw [← hW2]; exact below_new W _
                  have hWs := HWS.out
                  have HWB2 : Hid (Below B w W2) := HWB.out.trans (b2.mono (by have := HWS.out; omega))
                  have R2 : RowC W2 (B + 2) 39 (rvL (y1, y2, y3, (ya, yn, yc))) := by rw [← hW2, ← HWS.out]; exact RowC.new W _ _
                  have z0 := R2.cell 0 _ rfl
                  have z1 := R2.cell 1 _ rfl
                  have z2 := R2.cell 2 _ rfl
                  have R1b := R1.out.below b2
                  have x0' := R1b.cell 0 _ rfl
                  have x1' := R1b.cell 1 _ rfl
                  have x2' := R1b.cell 2 _ rfl
                  have x3' := R1b.cell 3 _ rfl
                  have HE1 := Lib.hid hqi.fr
                  have HE2 := Lib.hid hqi.ct
                  have HE3 := Lib.hid hqi.ze
                  obtain ⟨e, he⟩ : ∃ e, y1 + y2 = e := ⟨_, rfl⟩
                  have HEE : Hid (p.fr + p.ct = e) := by show _ = _; rw [← HE1.out, ← HE2.out]; exact he
                  rw [HEE.out] at h01 h02 hlo2
                  rw [← HE3.out] at hlo2
                  simp only at hlo2
                  have HW2 : Hid (wrap64 (y1 + y2) = e) := by show _ = _; rw [he]; exact IntWalk.wrap64_in _ (by omega)
                  have HPN2 : Hid (pn = k + 1) := by show _ = _; rw [HPN.out, hpl]
                  have HW3 : Hid (wrap64 (((k + 1 : Nat) : Int) - 1) = (k : Int)) := by show _ = _; rw [show ((k + 1 : Nat) : Int) - 1 = (k : Int) by omega]; exact IntWalk.wrap64_in _ (by have := HPN2.out; omega)
                  obtain rfl : pn = k + 1 := HPN2.out
                  have HLO2 := Lib.hid hlo2
                  have HHE : Hid (0 ≤ e ∧ e ≤ 64) := ⟨h01, h02⟩
                  simp only [rvV, slV] at LD ST
                  simp only [rvL, slV] at hW2
                  clear hbl hrq hqi k1 k2 k3 k4 b2 R2 R1b he h01 h02 hlo2 hpl hpk
                  by_cases p7 : fr < e
                  · have q7 : decide (fr < e) = true := by simpa using p7
                    have P7 := Lib.hid p7
                    clear p7
                    try have w1 := HW1.out
                    try have hw := HW2.out
                    try have hpk1 := HW3.out
                    try have w64 := HW4.out
                    go_enter Try.func33, Try.ntmps33
                    go_wp2_with fail
                    try rw [hW2]
                    go_ret
                    refine RetB.no (fun h => ?_) (by rw [HSZ.out]; exact HWB2.out)
                    rw [← HQ.out] at h
                    obtain ⟨⟨h1, h2, h3, h4⟩, h5, h6⟩ := h
                    have h8 := HLO2.out; have := P7.out; simp only at *; split at h8 <;> omega
                  · have q7 : decide (fr < e) = false := by simpa using p7
                    have P7 := Lib.hid p7
                    clear p7
                    by_cases p8 : fr = e
                    · have q8 : (fr == e) = true := by simpa using p8
                      have P8 := Lib.hid p8
                      by_cases p9 : true = y3
                      · subst p9
                        have q9 : (true == true) = true := rfl
                        clear p8
                        try have w1 := HW1.out
                        try have hw := HW2.out
                        try have hpk1 := HW3.out
                        try have w64 := HW4.out
                        go_enter Try.func33, Try.ntmps33
                        go_wp2_with fail
                        try rw [hW2]
                        go_ret
                        refine RetB.no (fun h => ?_) (by rw [HSZ.out]; exact HWB2.out)
                        rw [← HQ.out] at h
                        obtain ⟨⟨h1, h2, h3, h4⟩, h5, h6⟩ := h
                        have h8 := HLO2.out; have := P8.out; simp only [q9, if_true] at *; omega
                      · have q9 : (true == y3) = false := by simpa using p9
                        have P9 := Lib.hid p9
                        clear p8 p9
                        have HPK : Hid (plOk bl lo ⟨fr, ct, true, da⟩) := by have a1 := P1.out; have a2 := P2.out; have a3 := P3.out; have a4 := P4.out; have a7 := P7.out; have a8 := HLO2.out; have a9 := P8.out; rw [q9, if_neg (by decide)] at a8 <;> exact ⟨by simp only; omega, by simp only; omega, by simp only; omega, by simp only; omega⟩
                        try have w1 := HW1.out
                        try have hw := HW2.out
                        try have hpk1 := HW3.out
                        try have w64 := HW4.out
                        go_enter Try.func33, Try.ntmps33
                        go_wp2_with fail
                        go_ret
                        exact RetB.yes (by rw [← HQ.out]; exact ⟨HPK.out, HDO.out⟩) (by rw [HSZ.out]; exact HWB2.out)
                    · have q8 : (fr == e) = false := by simpa using p8
                      have P8 := Lib.hid p8
                      clear p8
                      have HPK : Hid (plOk bl lo ⟨fr, ct, true, da⟩) := by have a1 := P1.out; have a2 := P2.out; have a3 := P3.out; have a4 := P4.out; have a7 := P7.out; have a8 := HLO2.out; have a9 := P8.out; split at a8 <;> exact ⟨by simp only; omega, by simp only; omega, by simp only; omega, by simp only; omega⟩
                      try have w1 := HW1.out
                      try have hw := HW2.out
                      try have hpk1 := HW3.out
                      try have w64 := HW4.out
                      go_enter Try.func33, Try.ntmps33
                      go_wp2_with fail
                      go_ret
                      exact RetB.yes (by rw [← HQ.out]; exact ⟨HPK.out, HDO.out⟩) (by rw [HSZ.out]; exact HWB2.out)
              · have q6 : ((n : Int) != 0) = true := by simpa using p6
                have P6 := Lib.hid p6
                clear p6
                try have w1 := HW1.out
                try have hw := HW2.out
                try have hpk1 := HW3.out
                try have w64 := HW4.out
                go_enter Try.func33, Try.ntmps33
                go_wp2_with fail
                go_ret
                refine RetB.no (fun h => ?_) (by rw [HSZ.out]; exact HWB.out)
                rw [← HQ.out] at h
                obtain ⟨⟨h1, h2, h3, h4⟩, h5, h6⟩ := h
                have h7 := (h5 rfl).2
                simp only at h7
                exact P6.out (by rw [HN.out, h7]; rfl)
          | false =>
            rcases HHL.out with ⟨hpl, hl0⟩ | ⟨k, p, hpl, hpk, h01, h02, hlo2⟩
            · obtain ⟨rfl, hpl⟩ : pn = 0 ∧ lo = 0 := ⟨by rw [HPN.out, hpl]; rfl, hl0⟩
              subst hpl
              have HPK : Hid (plOk bl 0 ⟨fr, ct, false, da⟩) := by have a1 := P1.out; have a2 := P2.out; have a3 := P3.out; have a4 := P4.out; exact ⟨by simp only; omega, by simp only; omega, by simp only; omega, by simp only; omega⟩
              obtain ⟨m, rfl⟩ : ∃ m : Nat, ct = (m : Int) := ⟨ct.toNat, by have := P1.out; omega⟩
              have hm64 : m ≤ 64 ∧ 1 ≤ m := by have := P1.out; have := P2.out; have := P4.out; omega
              have HW4 : Hid (wrap64 ((m : Int) * 64) = (m : Int) * 64) := IntWalk.wrap64_in _ (by omega)
              by_cases p10 : n = 64 * m
              · have q10 : ((n : Int) != (m : Int) * 64) = false := by simp; omega
                have P10 := Lib.hid p10
                have HM := Lib.hid hm64
                obtain ⟨b', o', rfl, -⟩ := HCA.out (by omega)
                have HSL : Hid (Sl .u8 W (.slice (some ⟨b', o', none⟩) n c) da) := HD.out.below (by rw [HSZ.out]; exact HWB.out)
                clear p10
                try have w1 := HW1.out
                try have hw := HW2.out
                try have hpk1 := HW3.out
                try have w64 := HW4.out
                go_enter Try.func33, Try.ntmps33
                go_wp2_with fail
                try clear w1
                try clear w64
                try clear hw
                try clear hpk1
                clear q1 q2 q3 q4 hb1 hb2
                go_loop [7] (fun iv => ∃ k : Nat, k ≤ m ∧ iv = .int .i64 (k : Int) ∧ Hid (∀ j, j < k → chunkZ da j = false)) (fun iv => m - (intOf iv).toNat)
                case atStart => exact ⟨0, Nat.zero_le _, rfl, fun j hj => by omega⟩
                case round =>
                  obtain ⟨k, hk, rfl, HZ⟩ := hrel
                  by_cases hlt : k < m
                  · have g1 : (k : Int) < (m : Int) := by omega
                    have HF := Lib.hid (rf16_zero (sl_pieceC HSL.out P10.out.symm (HN.out.symm.trans P10.out) hlt))
                    have HC : Hid (allZ ((da.drop (64 * k)).take 64) = chunkZ da k) := rfl
                    rw [HC.out] at HF
                    have W1a : Hid (wrap64 ((k : Int) * 64) = (k : Int) * 64) := IntWalk.wrap64_in _ (by omega)
                    have W1b : Hid (wrap64 ((k : Int) + 1) = (k : Int) + 1) := IntWalk.wrap64_in _ (by omega)
                    have W1c : Hid (wrap64 (((k : Int) + 1) * 64) = ((k : Int) + 1) * 64) := IntWalk.wrap64_in _ (by omega)
                    have g2 : ((k : Int) + 1) * 64 ≤ (c : Int) := by have := P10.out; omega
                    have g3 : (0 : Int) ≤ (k : Int) * 64 := by omega
                    have g4 : (0 : Int) ≤ ((k : Int) + 1) * 64 := by omega
                    have g5 : (k : Int) * 64 ≤ ((k : Int) + 1) * 64 := by omega
                    have g6 : ¬ c = k * 64 := by have := P10.out; omega
                    have HLT := Lib.hid hlt
                    have w1a := W1a.out
                    have w1b := W1b.out
                    have w1c := W1c.out
                    clear hlt
                    cases hc : chunkZ da k with
                    | true =>
                      rw [hc] at HF
                      have HN2 : Hid (¬ daOk ba ⟨fr, (m : Int), false, da⟩) := fun h => by have := (h.2 rfl).2 k (by have := HLT.out; simp only; omega); rw [hc] at this; cases this
                      clear hc
                      go_wp2_with fail
                      refine HF.out.mono ?_
                      rintro e y ⟨rfl, rfl⟩
                      go_wp2_with fail
                      go_ret
                      exact RetB.no (fun h => by rw [← HQ.out] at h; exact HN2.out h.2) (by rw [HSZ.out]; exact HWB.out)
                    | false =>
                      rw [hc] at HF
                      have HZ2 : Hid (∀ j, j < k + 1 → chunkZ da j = false) := fun j hj => by
                        by_cases e : j = k
                        · subst e; exact hc
                        · exact HZ.out j (by omega)
                      clear hc
                      go_wp2_with fail
                      refine HF.out.mono ?_
                      rintro e y ⟨rfl, rfl⟩
                      go_wp2_with fail
                      go_round
                      case rel => exact ⟨k + 1, HLT.out, by first | (simp; done) | (rw [W1b.out]; simp), HZ2⟩
                      case measure => have := HLT.out; first | (simp [intOf]; omega) | (rw [W1b.out]; simp [intOf]; omega)
                  · have g1 : ¬ (k : Int) < (m : Int) := by omega
                    obtain rfl : k = m := by omega
                    have HDO : Hid (daOk ba ⟨fr, (k : Int), false, da⟩) := ⟨fun h => (by cases h), fun _ => ⟨by have h1 := P10.out; have h2 := HN.out; simp only; omega, fun j hj => HZ.out j (by simp only at hj; omega)⟩⟩
                    go_wp2_with fail
                    go_ret
                    exact RetB.yes (by rw [← HQ.out]; exact ⟨HPK.out, HDO.out⟩) (by rw [HSZ.out]; exact HWB.out)
              · have q10 : ((n : Int) != (m : Int) * 64) = true := by simp; omega
                have P10 := Lib.hid p10
                clear p10
                try have w1 := HW1.out
                try have hw := HW2.out
                try have hpk1 := HW3.out
                try have w64 := HW4.out
                go_enter Try.func33, Try.ntmps33
                go_wp2_with fail
                go_ret
                refine RetB.no (fun h => ?_) (by rw [HSZ.out]; exact HWB.out)
                rw [← HQ.out] at h
                obtain ⟨⟨h1, h2, h3, h4⟩, h5, h6⟩ := h
                have h7 := (h6 rfl).1
                simp only at h7
                rw [← HN.out] at h7
                exact P10.out (by omega)
            · obtain ⟨b, o, q, rfl, hbl, hrq, hqi, k1, k2, k3, k4⟩ := (HP.out.below (by rw [HSZ.out]; exact HWB.out)).at hpk
              obtain ⟨y1, y2, y3, ⟨ya, yn, yc⟩⟩ := q
              have LD := load_rc k1 k2 k3 k4
              have ST := new_rc W (y1, y2, y3, (ya, yn, yc))
              obtain ⟨W2, hW2⟩ : ∃ W2, W.alloc (.cells (rvL (y1, y2, y3, (ya, yn, yc))).toArray 39) = W2 := ⟨_, rfl⟩
              rw [hW2] at ST
              rw [HWS.out] at ST
              have b2 : Below W.heap.size W W2 := by rw [← hW2]; exact below_new W _
              have hWs := HWS.out
              have HWB2 : Hid (Below B w W2) := HWB.out.trans (b2.mono (by have := HWS.out; omega))
              have R2 : RowC W2 (B + 2) 39 (rvL (y1, y2, y3, (ya, yn, yc))) := by rw [← hW2, ← HWS.out]; exact RowC.new W _ _
              have z0 := R2.cell 0 _ rfl
              have z1 := R2.cell 1 _ rfl
              have z2 := R2.cell 2 _ rfl
              have R1b := R1.out.below b2
              have x0' := R1b.cell 0 _ rfl
              have x1' := R1b.cell 1 _ rfl
              have x2' := R1b.cell 2 _ rfl
              have x3' := R1b.cell 3 _ rfl
              have HE1 := Lib.hid hqi.fr
              have HE2 := Lib.hid hqi.ct
              have HE3 := Lib.hid hqi.ze
              obtain ⟨e, he⟩ : ∃ e, y1 + y2 = e := ⟨_, rfl⟩
              have HEE : Hid (p.fr + p.ct = e) := by show _ = _; rw [← HE1.out, ← HE2.out]; exact he
              rw [HEE.out] at h01 h02 hlo2
              rw [← HE3.out] at hlo2
              simp only at hlo2
              have HW2 : Hid (wrap64 (y1 + y2) = e) := by show _ = _; rw [he]; exact IntWalk.wrap64_in _ (by omega)
              have HPN2 : Hid (pn = k + 1) := by show _ = _; rw [HPN.out, hpl]
              have HW3 : Hid (wrap64 (((k + 1 : Nat) : Int) - 1) = (k : Int)) := by show _ = _; rw [show ((k + 1 : Nat) : Int) - 1 = (k : Int) by omega]; exact IntWalk.wrap64_in _ (by have := HPN2.out; omega)
              obtain rfl : pn = k + 1 := HPN2.out
              have HLO2 := Lib.hid hlo2
              have HHE : Hid (0 ≤ e ∧ e ≤ 64) := ⟨h01, h02⟩
              simp only [rvV, slV] at LD ST
              simp only [rvL, slV] at hW2
              clear hbl hrq hqi k1 k2 k3 k4 b2 R2 R1b he h01 h02 hlo2 hpl hpk
              by_cases p7 : fr < e
              · have q7 : decide (fr < e) = true := by simpa using p7
                have P7 := Lib.hid p7
                clear p7
                try have w1 := HW1.out
                try have hw := HW2.out
                try have hpk1 := HW3.out
                try have w64 := HW4.out
                go_enter Try.func33, Try.ntmps33
                go_wp2_with fail
                try rw [hW2]
                go_ret
                refine RetB.no (fun h => ?_) (by rw [HSZ.out]; exact HWB2.out)
                rw [← HQ.out] at h
                obtain ⟨⟨h1, h2, h3, h4⟩, h5, h6⟩ := h
                have h8 := HLO2.out; have := P7.out; simp only at *; split at h8 <;> omega
              · have q7 : decide (fr < e) = false := by simpa using p7
                have P7 := Lib.hid p7
                clear p7
                by_cases p8 : fr = e
                · have q8 : (fr == e) = true := by simpa using p8
                  have P8 := Lib.hid p8
                  by_cases p9 : false = y3
                  · subst p9
                    have q9 : (false == false) = true := rfl
                    clear p8
                    try have w1 := HW1.out
                    try have hw := HW2.out
                    try have hpk1 := HW3.out
                    try have w64 := HW4.out
                    go_enter Try.func33, Try.ntmps33
                    go_wp2_with fail
                    try rw [hW2]
                    go_ret
                    refine RetB.no (fun h => ?_) (by rw [HSZ.out]; exact HWB2.out)
                    rw [← HQ.out] at h
                    obtain ⟨⟨h1, h2, h3, h4⟩, h5, h6⟩ := h
                    have h8 := HLO2.out; have := P8.out; simp only [q9, if_true] at *; omega
                  · have q9 : (false == y3) = false := by simpa using p9
                    have P9 := Lib.hid p9
                    clear p8 p9
                    have HPK : Hid (plOk bl lo ⟨fr, ct, false, da⟩) := by have a1 := P1.out; have a2 := P2.out; have a3 := P3.out; have a4 := P4.out; have a7 := P7.out; have a8 := HLO2.out; have a9 := P8.out; rw [q9, if_neg (by decide)] at a8 <;> exact ⟨by simp only; omega, by simp only; omega, by simp only; omega, by simp only; omega⟩
                    obtain ⟨m, rfl⟩ : ∃ m : Nat, ct = (m : Int) := ⟨ct.toNat, by have := P1.out; omega⟩
                    have hm64 : m ≤ 64 ∧ 1 ≤ m := by have := P1.out; have := P2.out; have := P4.out; omega
                    have HW4 : Hid (wrap64 ((m : Int) * 64) = (m : Int) * 64) := IntWalk.wrap64_in _ (by omega)
                    by_cases p10 : n = 64 * m
                    · have q10 : ((n : Int) != (m : Int) * 64) = false := by simp; omega
                      have P10 := Lib.hid p10
                      have HM := Lib.hid hm64
                      obtain ⟨b', o', rfl, -⟩ := HCA.out (by omega)
                      have HSL : Hid (Sl .u8 W2 (.slice (some ⟨b', o', none⟩) n c) da) := HD.out.below (by rw [HSZ.out]; exact HWB2.out)
                      clear p10
                      try have w1 := HW1.out
                      try have hw := HW2.out
                      try have hpk1 := HW3.out
                      try have w64 := HW4.out
                      go_enter Try.func33, Try.ntmps33
                      go_wp2_with fail
                      try rw [hW2]
                      try clear w1
                      try clear w64
                      try clear hw
                      try clear hpk1
                      clear q1 q2 q3 q4 hb1 hb2
                      go_loop [7] (fun iv => ∃ k : Nat, k ≤ m ∧ iv = .int .i64 (k : Int) ∧ Hid (∀ j, j < k → chunkZ da j = false)) (fun iv => m - (intOf iv).toNat)
                      case atStart => exact ⟨0, Nat.zero_le _, rfl, fun j hj => by omega⟩
                      case round =>
                        obtain ⟨k, hk, rfl, HZ⟩ := hrel
                        by_cases hlt : k < m
                        · have g1 : (k : Int) < (m : Int) := by omega
                          have HF := Lib.hid (rf16_zero (sl_pieceC HSL.out P10.out.symm (HN.out.symm.trans P10.out) hlt))
                          have HC : Hid (allZ ((da.drop (64 * k)).take 64) = chunkZ da k) := rfl
                          rw [HC.out] at HF
                          have W1a : Hid (wrap64 ((k : Int) * 64) = (k : Int) * 64) := IntWalk.wrap64_in _ (by omega)
                          have W1b : Hid (wrap64 ((k : Int) + 1) = (k : Int) + 1) := IntWalk.wrap64_in _ (by omega)
                          have W1c : Hid (wrap64 (((k : Int) + 1) * 64) = ((k : Int) + 1) * 64) := IntWalk.wrap64_in _ (by omega)
                          have g2 : ((k : Int) + 1) * 64 ≤ (c : Int) := by have := P10.out; omega
                          have g3 : (0 : Int) ≤ (k : Int) * 64 := by omega
                          have g4 : (0 : Int) ≤ ((k : Int) + 1) * 64 := by omega
                          have g5 : (k : Int) * 64 ≤ ((k : Int) + 1) * 64 := by omega
                          have g6 : ¬ c = k * 64 := by have := P10.out; omega
                          have HLT := Lib.hid hlt
                          have w1a := W1a.out
                          have w1b := W1b.out
                          have w1c := W1c.out
                          clear hlt
                          cases hc : chunkZ da k with
                          | true =>
                            rw [hc] at HF
                            have HN2 : Hid (¬ daOk ba ⟨fr, (m : Int), false, da⟩) := fun h => by have := (h.2 rfl).2 k (by have := HLT.out; simp only; omega); rw [hc] at this; cases this
                            clear hc
                            go_wp2_with fail
                            refine HF.out.mono ?_
                            rintro e y ⟨rfl, rfl⟩
                            go_wp2_with fail
                            go_ret
                            exact RetB.no (fun h => by rw [← HQ.out] at h; exact HN2.out h.2) (by rw [HSZ.out]; exact HWB2.out)
                          | false =>
                            rw [hc] at HF
                            have HZ2 : Hid (∀ j, j < k + 1 → chunkZ da j = false) := fun j hj => by
                              by_cases e : j = k
                              · subst e; exact hc
                              · exact HZ.out j (by omega)
                            clear hc
                            go_wp2_with fail
                            refine HF.out.mono ?_
                            rintro e y ⟨rfl, rfl⟩
                            go_wp2_with fail
                            go_round
                            case rel => exact ⟨k + 1, HLT.out, by first | (simp; done) | (rw [W1b.out]; simp), HZ2⟩
                            case measure => have := HLT.out; first | (simp [intOf]; omega) | (rw [W1b.out]; simp [intOf]; omega)
                        · have g1 : ¬ (k : Int) < (m : Int) := by omega
                          obtain rfl : k = m := by omega
                          have HDO : Hid (daOk ba ⟨fr, (k : Int), false, da⟩) := ⟨fun h => (by cases h), fun _ => ⟨by have h1 := P10.out; have h2 := HN.out; simp only; omega, fun j hj => HZ.out j (by simp only at hj; omega)⟩⟩
                          go_wp2_with fail
                          go_ret
                          exact RetB.yes (by rw [← HQ.out]; exact ⟨HPK.out, HDO.out⟩) (by rw [HSZ.out]; exact HWB2.out)
                    · have q10 : ((n : Int) != (m : Int) * 64) = true := by simp; omega
                      have P10 := Lib.hid p10
                      clear p10
                      try have w1 := HW1.out
                      try have hw := HW2.out
                      try have hpk1 := HW3.out
                      try have w64 := HW4.out
                      go_enter Try.func33, Try.ntmps33
                      go_wp2_with fail
                      try rw [hW2]
                      go_ret
                      refine RetB.no (fun h => ?_) (by rw [HSZ.out]; exact HWB2.out)
                      rw [← HQ.out] at h
                      obtain ⟨⟨h1, h2, h3, h4⟩, h5, h6⟩ := h
                      have h7 := (h6 rfl).1
                      simp only at h7
                      rw [← HN.out] at h7
                      exact P10.out (by omega)
                · have q8 : (fr == e) = false := by simpa using p8
                  have P8 := Lib.hid p8
                  clear p8
                  have HPK : Hid (plOk bl lo ⟨fr, ct, false, da⟩) := by have a1 := P1.out; have a2 := P2.out; have a3 := P3.out; have a4 := P4.out; have a7 := P7.out; have a8 := HLO2.out; have a9 := P8.out; split at a8 <;> exact ⟨by simp only; omega, by simp only; omega, by simp only; omega, by simp only; omega⟩
                  obtain ⟨m, rfl⟩ : ∃ m : Nat, ct = (m : Int) := ⟨ct.toNat, by have := P1.out; omega⟩
                  have hm64 : m ≤ 64 ∧ 1 ≤ m := by have := P1.out; have := P2.out; have := P4.out; omega
                  have HW4 : Hid (wrap64 ((m : Int) * 64) = (m : Int) * 64) := IntWalk.wrap64_in _ (by omega)
                  by_cases p10 : n = 64 * m
                  · have q10 : ((n : Int) != (m : Int) * 64) = false := by simp; omega
                    have P10 := Lib.hid p10
                    have HM := Lib.hid hm64
                    obtain ⟨b', o', rfl, -⟩ := HCA.out (by omega)
                    have HSL : Hid (Sl .u8 W2 (.slice (some ⟨b', o', none⟩) n c) da) := HD.out.below (by rw [HSZ.out]; exact HWB2.out)
                    clear p10
                    try have w1 := HW1.out
                    try have hw := HW2.out
                    try have hpk1 := HW3.out
                    try have w64 := HW4.out
                    go_enter Try.func33, Try.ntmps33
                    go_wp2_with fail
                    try rw [hW2]
                    try clear w1
                    try clear w64
                    try clear hw
                    try clear hpk1
                    clear q1 q2 q3 q4 hb1 hb2
                    go_loop [7] (fun iv => ∃ k : Nat, k ≤ m ∧ iv = .int .i64 (k : Int) ∧ Hid (∀ j, j < k → chunkZ da j = false)) (fun iv => m - (intOf iv).toNat)
                    case atStart => exact ⟨0, Nat.zero_le _, rfl, fun j hj => by omega⟩
                    case round =>
                      obtain ⟨k, hk, rfl, HZ⟩ := hrel
                      by_cases hlt : k < m
                      · have g1 : (k : Int) < (m : Int) := by omega
                        have HF := Lib.hid (rf16_zero (sl_pieceC HSL.out P10.out.symm (HN.out.symm.trans P10.out) hlt))
                        have HC : Hid (allZ ((da.drop (64 * k)).take 64) = chunkZ da k) := rfl
                        rw [HC.out] at HF
                        have W1a : Hid (wrap64 ((k : Int) * 64) = (k : Int) * 64) := IntWalk.wrap64_in _ (by omega)
                        have W1b : Hid (wrap64 ((k : Int) + 1) = (k : Int) + 1) := IntWalk.wrap64_in _ (by omega)
                        have W1c : Hid (wrap64 (((k : Int) + 1) * 64) = ((k : Int) + 1) * 64) := IntWalk.wrap64_in _ (by omega)
                        have g2 : ((k : Int) + 1) * 64 ≤ (c : Int) := by have := P10.out; omega
                        have g3 : (0 : Int) ≤ (k : Int) * 64 := by omega
                        have g4 : (0 : Int) ≤ ((k : Int) + 1) * 64 := by omega
                        have g5 : (k : Int) * 64 ≤ ((k : Int) + 1) * 64 := by omega
                        have g6 : ¬ c = k * 64 := by have := P10.out; omega
                        have HLT := Lib.hid hlt
                        have w1a := W1a.out
                        have w1b := W1b.out
                        have w1c := W1c.out
                        clear hlt
                        cases hc : chunkZ da k with
                        | true =>
                          rw [hc] at HF
                          have HN2 : Hid (¬ daOk ba ⟨fr, (m : Int), false, da⟩) := fun h => by have := (h.2 rfl).2 k (by have := HLT.out; simp only; omega); rw [hc] at this; cases this
                          clear hc
                          go_wp2_with fail
                          refine HF.out.mono ?_
                          rintro e y ⟨rfl, rfl⟩
                          go_wp2_with fail
                          go_ret
                          exact RetB.no (fun h => by rw [← HQ.out] at h; exact HN2.out h.2) (by rw [HSZ.out]; exact HWB2.out)
                        | false =>
                          rw [hc] at HF
                          have HZ2 : Hid (∀ j, j < k + 1 → chunkZ da j = false) := fun j hj => by
                            by_cases e : j = k
                            · subst e; exact hc
                            · exact HZ.out j (by omega)
                          clear hc
                          go_wp2_with fail
                          refine HF.out.mono ?_
                          rintro e y ⟨rfl, rfl⟩
                          go_wp2_with fail
                          go_round
                          case rel => exact ⟨k + 1, HLT.out, by first | (simp; done) | (rw [W1b.out]; simp), HZ2⟩
                          case measure => have := HLT.out; first | (simp [intOf]; omega) | (rw [W1b.out]; simp [intOf]; omega)
                      · have g1 : ¬ (k : Int) < (m : Int) := by omega
                        obtain rfl : k = m := by omega
                        have HDO : Hid (daOk ba ⟨fr, (k : Int), false, da⟩) := ⟨fun h => (by cases h), fun _ => ⟨by have h1 := P10.out; have h2 := HN.out; simp only; omega, fun j hj => HZ.out j (by simp only at hj; omega)⟩⟩
                        go_wp2_with fail
                        go_ret
                        exact RetB.yes (by rw [← HQ.out]; exact ⟨HPK.out, HDO.out⟩) (by rw [HSZ.out]; exact HWB2.out)
                  · have q10 : ((n : Int) != (m : Int) * 64) = true := by simp; omega
                    have P10 := Lib.hid p10
                    clear p10
                    try have w1 := HW1.out
                    try have hw := HW2.out
                    try have hpk1 := HW3.out
                    try have w64 := HW4.out
                    go_enter Try.func33, Try.ntmps33
                    go_wp2_with fail
                    try rw [hW2]
                    go_ret
                    refine RetB.no (fun h => ?_) (by rw [HSZ.out]; exact HWB2.out)
                    rw [← HQ.out] at h
                    obtain ⟨⟨h1, h2, h3, h4⟩, h5, h6⟩ := h
                    have h7 := (h6 rfl).1
                    simp only at h7
                    rw [← HN.out] at h7
                    exact P10.out (by omega)
end Go.Proofs.Ytlnljanhnodhkaa

