/- The developers' find and used: loops over the parts of a disk. -/
import Derived.Test.YtnffaekbldcphaaGmLd
namespace Go.Proofs.Ytnffaekbldcphaa
open Go.RowKit Go.Shelf
set_option linter.unusedVariables false
attribute [-simp] Try.isAgg36 Try.zeroValue36
attribute [-go_sem] loadVar storeVar
attribute [local go_sem] Oper.semAt_some

def spL (f c : Int) : List Value := [.int .i64 f, .int .i64 c]
theorem loadVar_openS (t : TypeId) (h : t ≠ 36) (a : Addr) : loadVar t a = (do if ← isAgg t then pure (.agg (← loadCells a (← sizeOf t))) else load a) := rfl
theorem storeVar_openS (t : TypeId) (h : t ≠ 36) (a : Addr) (v : Value) : storeVar t a v = (do
    if v.cells.size ≠ (← sizeOf t) then stuck "storeVar: the value has not the size of the variable"
    storeCells a v.cells.toList) := rfl
set_option maxRecDepth 100000 in
theorem zero_span (w : World) : (zeroValue 36).run Try.prog w = .ok (.agg #[.int .i64 0, .int .i64 0]) w := by kernel_rfl
set_option maxRecDepth 100000 in
theorem build_span0 (w : World) : (Instr.build 36 #[]).run Try.prog w = .ok (.agg #[.int .i64 0, .int .i64 0]) w := by kernel_rfl
set_option maxRecDepth 100000 in
theorem size_span : (Try.prog.info? 36).map (·.size) = some 2 := by kernel_rfl
set_option maxRecDepth 100000 in
theorem load_span {x : World} {B : Nat} {t : TypeId} {f c : Int} (hr : RowC x B t (spL f c)) : (loadVar 36 ⟨B, 0, none⟩).run Try.prog x = .ok (.agg #[.int .i64 f, .int .i64 c]) x :=
  run_loadVar_mid x B 0 _ (spL f c) _ hr.range Try.underlying36 rfl (by kernel_rfl)
set_option maxRecDepth 100000 in
theorem store_span {x : World} {B : Nat} {old : List Value} {f c : Int} (hr : RowC x B 36 old) (ho : old.length = 2) :
    ∃ y, (storeVar 36 ⟨B, 0, none⟩ (.agg #[.int .i64 f, .int .i64 c])).run Try.prog x = .ok () y ∧ RowC y B 36 (spL f c) ∧ x.grownBy y (some B) := by
  refine ⟨_, run_storeVar_row x B _ _ old.toArray (spL f c).toArray hr size_span (by simpa [spL] using ho) (by kernel_rfl), setRow_heap x B _ _ _ _ hr, ?_⟩
  exact ⟨rfl, rfl, rfl, by rw [setRow_size]; exact Nat.le_refl _, fun k _ hk => setRow_other x B k _ (fun e => hk (by rw [e]))⟩
set_option maxRecDepth 100000 in
theorem new_span (x : World) (f c : Int) : (storeVar 36 ⟨x.heap.size, 0, none⟩ (.agg #[.int .i64 f, .int .i64 c])).run Try.prog (x.alloc (.cells #[.int .i64 0, .int .i64 0] 36)) = .ok () (x.alloc (.cells #[.int .i64 f, .int .i64 c] 36)) :=
  run_storeVar_new x _ _ (spL f c).toArray size_span rfl (by kernel_rfl)
theorem rowC_from {x y : World} {B N : Nat} {t : TypeId} {C : List Value} {row : Option Nat} (h : RowC x B t C) (hg : x.grownBy y row) (hr : ∀ r, row = some r → N ≤ r ∧ ∃ o : Obj, x.heap[r]? = some o ∧ o.isCells = false) : RowC y B t C :=
  (hg.block B h.lt (fun e => by
    obtain ⟨-, o, ho, hc⟩ := hr B e.symm
    rw [show x.heap[B]? = _ from h] at ho
    cases ho
    cases hc)).trans h
/-- A part that is looked for: its first sector, how many there are. -/
def spF (cs : List Int) (p : Nat) : Int := if p < cs.length then sumTo cs p else 0
def spC (cs : List Int) (p : Nat) : Int := if p < cs.length then ctAt cs p else 0

attribute [local go_sem] loadVar_openS storeVar_openS zero_span build_span0
theorem keepsFrom_grown {B : Nat} {x y : World} {b : Nat} {C : List Value} {t : TypeId} (h : RowC x b t C) (hg : x.grownBy y (some b)) : KeepsFrom B x y := ⟨hg.size, fun k o hk ho hc => by
  refine (hg.block k (Array.getElem?_eq_some_iff.1 ho).1 (fun e => ?_)).trans ho
  obtain rfl : b = k := by cases e; rfl
  rw [show x.heap[b]? = _ from h] at ho
  cases ho
  cases hc⟩

section
set_option maxRecDepth 100000
set_option maxHeartbeats 4000000
set_option maxRecDepth 100000 in
theorem gmFind (cs : List Int) (hcs : Cnts cs) (Bs b p : Nat) (a : Option Addr) (w : World) (hL : LaidR w Bs cs a b) :
    Calls Try.prog 26 #[.func (.func 34) #[] #[.pointer (some ⟨Bs, 0, none⟩)], .int .i64 (p : Int)] w fun e w' => e = .returned (.agg #[.int .i64 (spF cs p), .int .i64 (spC cs p)]) ∧ Below w.heap.size w w' := by
  refine (callsIn_wide (n := 3)).1 ?_
  refine callsIn_of_wp_marks Try.func26 rfl trivial ?_ rfl
  simp only [Try.ntmps26, List.size_toArray, List.length_cons, List.length_nil, Nat.reduceAdd, Nat.reduceSub, Array.replicate_succ, Array.replicate_zero, List.push_toArray, List.append_toArray, List.nil_append, List.cons_append]
  have HL := Lib.hid hL
  have HCS := Lib.hid hcs
  obtain ⟨B, hB⟩ : ∃ B, w.heap.size = B := ⟨_, rfl⟩
  have HSZ := Lib.hid hB
  have hltB : Hid (Bs < B) := by show _ < _; rw [← hB]; exact hL.lt
  have hbB : Hid (b < B) := by show _ < _; rw [← hB]; exact hL.blt
  clear hL hcs
  gi_wp2
  obtain ⟨W0, hW0⟩ : ∃ W0, (w.alloc (.cells #[.int .i64 (p : Int)] 3)).alloc (.cells #[.int .i64 0, .int .i64 0] 36) = W0 := ⟨_, rfl⟩
  have bv : Boxed W0 B 3 (.int .i64 (p : Int)) := by rw [← hW0, ← hB]; exact (Boxed.new w _ _).alloc _
  have br : RowC W0 (B + 1) 36 (spL 0 0) := by
    rw [← hW0, ← hB]
    have := RowC.new (w.alloc (.cells #[.int .i64 (p : Int)] 3)) 36 (spL 0 0)
    rwa [World.size_alloc] at this
  have hB0 : Below B w W0 := by rw [← hW0, ← hB]; exact ((Below.refl _ w).alloc (Nat.le_refl _) _).alloc (by simp) _
  have hsz0 : W0.heap.size = B + 2 := by rw [← hW0, ← hB]; simp
  have hL0 : LaidR W0 Bs cs a b := HL.out.below (by rw [hB]; exact hB0)
  try rw [hW0]
  clear hW0
  have hS : ∀ k, (k = Bs ∨ k = b) → k < B := by rintro k (rfl | rfl); exact hltB.out; exact hbB.out
  have HS := Lib.hid hS
  have HL0 := Lib.hid hL0
  have HB : Hid (∀ W, Below B w W → w.heap.size ≤ W.heap.size) := fun W h => h.size
  have HKA : Hid (∀ (W : World) (o : Obj), Below B w W → KpC (fun k => k = Bs ∨ k = b) W (W.alloc o)) := fun W o h => ⟨by simp, fun k hk => Below.heap_alloc _ _ _ (by have := hS k hk; have := h.size; omega)⟩
  clear hS hL0
  refine wpIn_rangeFunc_ownH (n := 3) rfl (by omega) (gf := 34) (lb := #[.pointer (some ⟨Bs, 0, none⟩)]) rfl trivial (enters_of Try.func34 (by kernel_rfl) rfl)
    (laid_stops 2 (by omega) Bs b cs a HCS.out W0 HL0.out) kpC_t (kpC_b (fun k hk => by have := HS.out k hk; omega)) (Below.refl _ _) (fun _ => rfl)
    (fun pre W => Boxed W B 3 (.int .i64 (p : Int)) ∧ RowC W (B + 1) 36 (spL 0 0) ∧ Below B w W ∧ ∀ y ∈ pre, y.1 ≠ p)
    (fun c pre W => c = .ret ∧ RowC W (B + 1) 36 (spL (spF cs p) (spC cs p)) ∧ Below B w W)
    ?hI ?hIx ⟨bv, br, hB0, fun y hy => by cases hy⟩
    (fun x a' W => ∃ C, B + 1 < C ∧ RowC W C 36 (spL (sumTo cs x.1) (ctAt cs x.1)) ∧ a' = { tmps := #[.func (.func 34) #[] #[.pointer (some ⟨Bs, 0, none⟩)], .int .i64 (p : Int), undef, .pointer (some ⟨B, 0, none⟩), .pointer (some ⟨B + 1, 0, none⟩), .int .i64 (x.1 : Int), .pointer (some ⟨C, 0, none⟩), .func (.func 34) #[] #[.pointer (some ⟨Bs, 0, none⟩)], .int .i64 (x.1 : Int), .agg #[.int .i64 (sumTo cs x.1), .int .i64 (ctAt cs x.1)], undef, undef, undef, undef, undef], defers := [] })
    ?hAx ?assign ?body ?done ?stop
  case hI =>
    intro s X Y row ⟨h1, h2, h3, h4⟩ hg hr
    exact ⟨boxed_own _ _ (fun _ : Unit => _) () X Y row h1 hg (fun r e => (hr r e).2), rowC_from h2 hg hr, ownFrom_below (β := Unit) (by omega) (by omega) () X Y row h3 hg hr, h4⟩
  case hIx =>
    intro c s X Y row ⟨h1, h2, h3⟩ hg hr
    exact ⟨h1, rowC_from h2 hg hr, ownFrom_below (β := Unit) (by omega) (by omega) () X Y row h3 hg hr⟩
  case hAx =>
    rintro x a' _ X Y row ⟨C, h1, h2, h3⟩ hg hr
    exact ⟨C, h1, rowC_from h2 hg hr, h3⟩
  case assign =>
    rintro l pre x W K ⟨h1, h2, h3, h4⟩ hK
    have ST := new_span W (sumTo cs x.1) (ctAt cs x.1)
    have HZ : Hid (B + 1 < W.heap.size) := h2.lt
    have H3 := Lib.hid h3
    have hK := hK _ _ ((KeepsOthers.alloc W (.cells #[.int .i64 (sumTo cs x.1), .int .i64 (ctAt cs x.1)] 36)).from _) (HKA.out W _ h3) ⟨h1.alloc _, h2.belowN (below_new W _) HZ.out, h3.alloc (by have := HZ.out; omega) _, h4⟩ ⟨W.heap.size, HZ.out, RowC.new W _ _, rfl⟩
    clear h1 h2 h3 h4
    dsimp only [encSp]
    gi_wp2
    exact hK
  case body =>
    rintro l pre x a' W _ _ ⟨h1, h2, h3, h4⟩ ⟨C, hC, hx, rfl⟩ hlen
    have d1 := h1.cell
    have d2 := load_span hx
    have hxl := x.2
    obtain ⟨y, ST, hy, hgy⟩ := store_span (f := sumTo cs x.1) (c := ctAt cs x.1) h2 rfl
    have HKF : Hid (KeepsFrom W0.heap.size W y) := keepsFrom_grown h2 hgy
    have H1 := Lib.hid h1
    have H2 := Lib.hid h2
    have H3 := Lib.hid h3
    have H4 := Lib.hid h4
    have HY := Lib.hid hy
    have HGY : Hid (Below B w y) := h3.grown hgy (by have := h3.size; omega) (fun j e => by cases e; omega)
    clear h1 h2 h3 h4 hx hy hgy
    by_cases q : (x.1 : Int) = (p : Int)
    · have q1 : ((x.1 : Int) == (p : Int)) = true := by simpa using q
      have HQ : Hid (x.1 = p) := by show _ = _; omega
      have HXL := Lib.hid hxl
      clear q hxl
      gi_wp2
      refine ⟨HKF.out, rfl, ?_, HGY.out⟩
      have e1 : spF cs p = sumTo cs x.1 := by unfold spF; rw [← HQ.out, if_pos HXL.out]
      have e2 : spC cs p = ctAt cs x.1 := by unfold spC; rw [← HQ.out, if_pos HXL.out]
      rw [e1, e2]
      exact HY.out
    · have q1 : ((x.1 : Int) == (p : Int)) = false := by simpa using q
      have HQ : Hid (x.1 ≠ p) := by show _ ≠ _; omega
      clear q hxl
      gi_wp2
      refine ⟨KeepsFrom.refl _ _, KpC.refl _ _, H1.out, H2.out, H3.out, fun y hy => ?_⟩
      rcases List.mem_append.1 hy with hy | hy
      · exact H4.out y hy
      · rw [List.mem_singleton.1 hy]; exact HQ.out
  case done =>
    rintro D xs W hD rfl ⟨h1, h2, h3, h4⟩ hK
    have hp : ¬ p < cs.length := fun h => h4 ⟨p, h⟩ (List.mem_finRange _) rfl
    have HE : Hid (spF cs p = 0 ∧ spC cs p = 0) := ⟨if_neg hp, if_neg hp⟩
    obtain ⟨y, ST, hy, hgy⟩ := store_span (f := 0) (c := 0) h2 rfl
    have hKy := (keepsFrom_grown (B := 0) h2 hgy).same D _ (Nat.zero_le _) hK rfl
    have HKY := Lib.hid hKy
    have HY := Lib.hid hy
    have HGY : Hid (Below B w y) := h3.grown hgy (by have := h3.size; omega) (fun j e => by cases e; omega)
    clear h1 h2 h3 h4 hp hy hgy hKy hK
    gi_wp2
    refine ⟨by simp, .inl ⟨_, _, rfl, run_takeDeferred HKY.out, ?_⟩⟩
    have hg2 := grownBy_putObj' y D (.deferred none)
    have hy2 : RowC _ (B + 1) 36 (spL 0 0) := rowC_from (N := 0) HY.out hg2 (fun r e => by cases e; exact ⟨Nat.zero_le _, _, HKY.out, rfl⟩)
    refine ⟨_, results_cell rfl rfl (load_span hy2), by rw [HE.out.1, HE.out.2], ?_⟩
    rw [HSZ.out]
    exact HGY.out.trans (belowK_b (w := w) (by omega) y D _ _ (by omega) HKY.out rfl rfl)
  case stop =>
    rintro D c pre W hD _ ⟨rfl, h2, h3⟩ hK
    have HR := Lib.hid h2
    have H3 := Lib.hid h3
    have HK := Lib.hid hK
    clear h2 h3 hK
    gi_wp2
    refine ⟨by simp, .inl ⟨_, _, rfl, run_takeDeferred HK.out, ?_⟩⟩
    have hg2 := grownBy_putObj' W D (.deferred none)
    have hy2 : RowC _ (B + 1) 36 (spL (spF cs p) (spC cs p)) := rowC_from (N := 0) HR.out hg2 (fun r e => by cases e; exact ⟨Nat.zero_le _, _, HK.out, rfl⟩)
    refine ⟨_, results_cell rfl rfl (load_span hy2), rfl, ?_⟩
    rw [HSZ.out]
    exact H3.out.trans (belowK_b (w := w) (by omega) W D _ _ (by omega) HK.out rfl rfl)
/-- Where the last part that has come ends. -/
def endOf (cs : List Int) {m : Nat} (xs : List (Fin m)) : Int := (xs.getLast?.map fun y => sumTo cs y.1 + ctAt cs y.1).getD 0
theorem endOf_snoc (cs : List Int) {m : Nat} (xs : List (Fin m)) (x : Fin m) : endOf cs (xs ++ [x]) = sumTo cs x.1 + ctAt cs x.1 := by
  unfold endOf
  rw [List.getLast?_concat]
  rfl
theorem endOf_all (cs : List Int) : endOf cs (List.finRange cs.length) = sumTo cs cs.length := by
  have key : ∀ (n : Nat) (h : n ≤ cs.length), endOf cs (upto cs.length n) = sumTo cs n := by
    intro n h
    cases n with
    | zero => rfl
    | succ n => rw [upto_succ cs.length n h, endOf_snoc, sumTo_succ cs h]
  rw [← upto_all]
  exact key _ (Nat.le_refl _)
set_option maxRecDepth 100000 in
theorem gmUsed (cs : List Int) (hcs : Cnts cs) (Bs b : Nat) (a : Option Addr) (w : World) (hL : LaidR w Bs cs a b) :
    Calls Try.prog 28 #[.func (.func 34) #[] #[.pointer (some ⟨Bs, 0, none⟩)]] w fun e w' => e = .returned (.int .i64 (sumTo cs cs.length)) ∧ Below w.heap.size w w' := by
  refine (callsIn_wide (n := 3)).1 ?_
  refine callsIn_of_wp_marks Try.func28 rfl trivial ?_ rfl
  simp only [Try.ntmps28, List.size_toArray, List.length_cons, List.length_nil, Nat.reduceAdd, Nat.reduceSub, Array.replicate_succ, Array.replicate_zero, List.push_toArray, List.append_toArray, List.nil_append, List.cons_append]
  have HL := Lib.hid hL
  have HCS := Lib.hid hcs
  obtain ⟨B, hB⟩ : ∃ B, w.heap.size = B := ⟨_, rfl⟩
  have HSZ := Lib.hid hB
  have hltB : Hid (Bs < B) := by show _ < _; rw [← hB]; exact hL.lt
  have hbB : Hid (b < B) := by show _ < _; rw [← hB]; exact hL.blt
  clear hL hcs
  gi_wp2
  obtain ⟨W0, hW0⟩ : ∃ W0, w.alloc (.cells #[.int .i64 0] 3) = W0 := ⟨_, rfl⟩
  have bv : Boxed W0 B 3 (.int .i64 0) := by rw [← hW0, ← hB]; exact Boxed.new w _ _
  have hB0 : Below B w W0 := by rw [← hW0, ← hB]; exact (Below.refl _ w).alloc (Nat.le_refl _) _
  have hsz0 : W0.heap.size = B + 1 := by rw [← hW0, ← hB]; simp
  have hL0 : LaidR W0 Bs cs a b := HL.out.below (by rw [hB]; exact hB0)
  try rw [hW0]
  clear hW0
  have hS : ∀ k, (k = Bs ∨ k = b) → k < B := by rintro k (rfl | rfl); exact hltB.out; exact hbB.out
  have HS := Lib.hid hS
  have HL0 := Lib.hid hL0
  have HKA : Hid (∀ (W : World) (o : Obj), Below B w W → KpC (fun k => k = Bs ∨ k = b) W (W.alloc o)) := fun W o h => ⟨by simp, fun k hk => Below.heap_alloc _ _ _ (by have := hS k hk; have := h.size; omega)⟩
  clear hS hL0
  refine wpIn_rangeFunc_ownH (n := 3) rfl (by omega) (gf := 34) (lb := #[.pointer (some ⟨Bs, 0, none⟩)]) rfl trivial (enters_of Try.func34 (by kernel_rfl) rfl)
    (laid_stops 2 (by omega) Bs b cs a HCS.out W0 HL0.out) kpC_t (kpC_b (fun k hk => by have := HS.out k hk; omega)) (Below.refl _ _) (fun _ => rfl)
    (fun pre W => Boxed W B 3 (.int .i64 (endOf cs pre)) ∧ Below B w W)
    (fun _ _ _ => False)
    ?hI (fun _ _ _ _ _ h _ _ => h.elim) ⟨bv, hB0⟩
    (fun x a' W => ∃ C, B < C ∧ RowC W C 36 (spL (sumTo cs x.1) (ctAt cs x.1)) ∧ a' = { tmps := #[.func (.func 34) #[] #[.pointer (some ⟨Bs, 0, none⟩)], undef, .int .i64 0, .pointer (some ⟨B, 0, none⟩), undef, .pointer (some ⟨C, 0, none⟩), .func (.func 34) #[] #[.pointer (some ⟨Bs, 0, none⟩)], .int .i64 (x.1 : Int), .agg #[.int .i64 (sumTo cs x.1), .int .i64 (ctAt cs x.1)], undef, undef, undef, undef, undef, undef], defers := [] })
    ?hAx ?assign ?body ?done ?stop
  case hI =>
    intro s X Y row ⟨h1, h3⟩ hg hr
    exact ⟨boxed_own _ _ (fun _ : Unit => _) () X Y row h1 hg (fun r e => (hr r e).2), ownFrom_below (β := Unit) (by omega) (by omega) () X Y row h3 hg hr⟩
  case hAx =>
    rintro x a' _ X Y row ⟨C, h1, h2, h3⟩ hg hr
    exact ⟨C, h1, rowC_from h2 hg hr, h3⟩
  case assign =>
    rintro l pre x W K ⟨h1, h3⟩ hK
    have ST := new_span W (sumTo cs x.1) (ctAt cs x.1)
    have HZ : Hid (B < W.heap.size) := h1.lt
    have hK := hK _ _ ((KeepsOthers.alloc W (.cells #[.int .i64 (sumTo cs x.1), .int .i64 (ctAt cs x.1)] 36)).from _) (HKA.out W _ h3) ⟨h1.alloc _, h3.alloc (by have := HZ.out; omega) _⟩ ⟨W.heap.size, HZ.out, RowC.new W _ _, rfl⟩
    clear h1 h3
    dsimp only [encSp]
    gi_wp2
    exact hK
  case body =>
    rintro l pre x a' W _ _ ⟨h1, h3⟩ ⟨C, hC, hx, rfl⟩ hlen
    have d1 := h1.cell
    have d2 := h1.frozen
    have k0 : W.cell? ⟨C, 0, none⟩ = some (.int .i64 (sumTo cs x.1)) := hx.cell 0 _ rfl
    have k1 : W.cell? ⟨C, 1, none⟩ = some (.int .i64 (ctAt cs x.1)) := hx.cell 1 _ rfl
    have hxl := x.2
    have hc4 := HCS.out.len
    obtain ⟨s1, s2⟩ := sumTo_bd cs HCS.out.bd x.1
    obtain ⟨q1, q2⟩ := HCS.out.bd x.1
    have HV := Lib.hid (endOf_snoc cs pre x)
    obtain ⟨s, hs⟩ : ∃ k, sumTo cs x.1 = k := ⟨_, rfl⟩
    obtain ⟨c, hcc⟩ : ∃ k, ctAt cs x.1 = k := ⟨_, rfl⟩
    obtain ⟨e, he⟩ : ∃ k, endOf cs pre = k := ⟨_, rfl⟩
    rw [hs] at k0 s1 s2 HV ⊢
    rw [hcc] at k1 q1 q2 HV ⊢
    rw [he] at h1 d1
    have s3 : s ≤ 4000 := by omega
    have H1 := Lib.hid h1
    have H3 := Lib.hid h3
    have HBL : Hid (∀ k, (k = Bs ∨ k = b) → k ≠ B) := fun k hk => by have := HS.out k hk; omega
    clear h1 h3 hx hs hcc he hxl hc4 s2
    gi_wp2
    refine ⟨(KeepsOthers.setCell _ _ _).from _, ⟨(KeepsWalks.setCell W _ _).size, fun k hk => Below.heap_setCell _ _ _ k (HBL.out k hk)⟩, ?_, H3.out.setCell (p := ⟨B, 0, none⟩) (Nat.le_refl _) _⟩
    rw [HV.out]
    exact H1.out.set _
  case done =>
    rintro D xs W hD rfl ⟨h1, h3⟩ hK
    have d1 := h1.cell
    have HV := Lib.hid (endOf_all cs)
    have H3 := Lib.hid h3
    have HK := Lib.hid hK
    clear h1 h3 hK
    gi_wp2
    refine ⟨by simp, .inl ⟨_, _, rfl, run_takeDeferred HK.out, ?_⟩⟩
    refine ⟨_, results_tmp rfl _ _ _, by rw [← HV.out]; rfl, ?_⟩
    rw [HSZ.out]
    exact H3.out.trans (belowK_b (w := w) (by omega) W D _ _ (by omega) HK.out rfl rfl)
  case stop =>
    rintro D c pre W hD _ h _
    exact h.elim
end
end Go.Proofs.Ytnffaekbldcphaa
