/- Loose. -/
import Derived.RangeFuncBox
import Derived.Maps.AppendAt
import Derived.Test.YtagieoomekmjcaaLoose
namespace Go.Proofs.Ytagieoomekmjcaa
open Go.RowKit Go.Shelf
set_option linter.unusedVariables false
attribute [-simp] Try.isAgg37 Try.zeroValue37
attribute [-go_sem] loadVar storeVar
attribute [local go_sem] zero_blk build_blk loadVar_open storeVar_open
attribute [local go_sem] Oper.semAt_some

theorem SeqBy.mono {α : Type} {F : Fence} {n : Nat} {P : Program} {g : Nat} {lb : Array Value} {encs : α → Array Value} {R R' : List α → World → Prop} {Ok : List α → α → Prop} {S : List α → Prop} {w : World}
    (h : SeqBy F n P g lb encs R Ok S w) (hR : ∀ pre W, R' pre W → R pre W) : SeqBy F n P g lb encs R' Ok S w :=
  fun l J Jx W hW hJ hA hAx hY h0 => h l J Jx W hW (fun pre W' hj => hR pre W' (hJ pre W' hj)) hA hAx hY h0

theorem loose_by (Bd rb sb n : Nat) (D0 : Nat → Sec) (w : World) : SeqBy Fence.wide 2 Try.prog 32 #[.pointer (some ⟨Bd, 0, none⟩)] (encL sb) (LooseR Bd rb sb n D0) (LooseOk n D0) (fun xs => xs = looseTo D0 n) w :=
  fun l J Jx W _ hR _ _ hY h0 => loose1_in Bd rb sb n D0 l J Jx hR hY W h0

set_option maxRecDepth 100000 in
set_option maxHeartbeats 2000000 in
/-- Of a nil disk none comes. -/
theorem loose_nil_by (Bd : Nat) (encs : Nat → Array Value) (w : World) : SeqBy Fence.wide 2 Try.prog 32 #[.pointer (some ⟨Bd, 0, none⟩)] encs (fun _ W => Boxed W Bd 25 (.pointer none)) (fun _ _ => False) (fun xs => xs = []) w := by
  intro l J Jx W _ hR _ _ _ h0
  refine callsIn_of_wp Try.func32 rfl trivial ?_ rfl
  simp only [Try.ntmps32, List.size_toArray, List.length_cons, List.length_nil, Nat.reduceAdd, Nat.reduceSub, Array.replicate_succ, Array.replicate_zero, List.push_toArray, List.append_toArray, List.nil_append, List.cons_append]
  have hbc := (hR _ _ h0).cell
  gi_wp2_with (refine ⟨trivial, ?_⟩; gi_at_call 25; refine (callsIn_wide.2 (len_nil _)).mono ?_; rintro e w' ⟨rfl, rfl⟩)
  gi_loopw [7] (fun i wr => i = .int .i64 0 ∧ J [] wr) (fun i _ => 0)
  case atStart => exact ⟨rfl, h0⟩
  case round =>
    obtain ⟨rfl, hJs⟩ := hrel
    gi_wp2
    go_end0
    exact ⟨⟨_, rfl⟩, .inl ⟨_, rfl, hJs⟩⟩

set_option maxHeartbeats 1000000 in
theorem loose_in (F : Fence) (n : Nat) (hf : F.fn 30) (hro : F.round = none) (p : Option Addr) (w : World) :
    CallsIn F n Try.prog 30 #[.pointer p] w fun e w' => e = .returned (.func (.func 32) #[] #[.pointer (some ⟨w.heap.size, 0, none⟩)]) ∧ w' = w.alloc (.cells #[.pointer p] 25) := by
  refine callsIn_of_wp Try.func30 rfl hf ?_ hro
  simp only [Try.ntmps30, List.size_toArray, List.length_cons, List.length_nil, Nat.reduceAdd, Nat.reduceSub, Array.replicate_succ, Array.replicate_zero, List.push_toArray, List.append_toArray, List.nil_append, List.cons_append]
  gi_wp2
  go_ret
  exact ⟨rfl, rfl⟩
theorem info_int : (Try.prog.info? 3).map (fun i => (i.zero, i.size, i.bytes)) = some (some (.int .i64 0), 1, 8) := by kernel_rfl

/-- Numbers as cells. -/
def ints (l : List Nat) : List Value := l.map fun i : Nat => Value.int .i64 (i : Int)
theorem ints_snoc (l : List Nat) (x : Nat) : ints (l ++ [x]) = ints l ++ [.int .i64 (x : Int)] := by simp [ints]

theorem boxed_from {β : Type} (B : Nat) (t : TypeId) (f : β → Value) (N : Nat) : OwnFrom N (fun s W => Boxed W B t (f s)) := (boxed_own B t f).from N

set_option maxRecDepth 100000 in
set_option maxHeartbeats 2000000 in
/-- **Loose**. -/
theorem loose_list (rb n : Nat) (f : Nat → Prop) (D : Nat → Sec) (w : World) (h : Disk w rb n f D) (hn : 0 < n) :
    Calls Try.prog 23 #[.pointer (some ⟨rb, 0, none⟩)] w fun e w' => ∃ v, e = .returned v ∧ w'.ownsRow w.heap.size 3 1 v (looseTo D n).length (ints (looseTo D n)) ∧ Below w.heap.size w w' ∧ (looseTo D n = [] → v = .slice none 0 0) := by
  obtain ⟨i0, hi, hz0, hz1, hz2⟩ := info_parts info_int
  refine (callsIn_wide (n := 3)).1 ?_
  refine callsIn_of_wp_marks Try.func23 rfl trivial ?_ rfl
  simp only [Try.ntmps23, List.size_toArray, List.length_cons, List.length_nil, Nat.reduceAdd, Nat.reduceSub, Array.replicate_succ, Array.replicate_zero, List.push_toArray, List.append_toArray, List.nil_append, List.cons_append]
  obtain ⟨sb, sv, hd, rfl⟩ := h
  have hmax := hd.max
  have HD := Lib.hid hd
  clear hd
  gi_wp2_with (refine ⟨trivial, ?_⟩; gi_at_call 30; refine (loose_in _ _ trivial rfl _ _).mono ?_; rintro e w' ⟨rfl, rfl⟩)
  obtain ⟨W0, hW0⟩ : ∃ W0, (w.alloc (.cells #[.slice none 0 0] 47)).alloc (.cells #[.pointer (some ⟨rb, 0, none⟩)] 25) = W0 := ⟨_, rfl⟩
  have bl0 : Boxed W0 w.heap.size 47 (.slice none 0 0) := by rw [← hW0]; exact (Boxed.new w _ _).alloc _
  have bd0 : Boxed W0 (w.heap.size + 1) 25 (.pointer (some ⟨rb, 0, none⟩)) := by
    rw [← hW0]
    have := Boxed.new (w.alloc (.cells #[.slice none 0 0] 47)) 25 (.pointer (some ⟨rb, 0, none⟩))
    rwa [World.size_alloc] at this
  have hB0 : Below w.heap.size w W0 := by rw [← hW0]; exact ((Below.refl _ w).alloc (Nat.le_refl _) _).alloc (by simp) _
  have hsz0 : W0.heap.size = w.heap.size + 2 := by rw [← hW0]; simp
  rw [hW0]
  clear hW0
  refine wpIn_rangeFunc_by (n := 3) rfl (by omega) (gf := 32) (lb := #[.pointer (some ⟨w.heap.size + 1, 0, none⟩)]) rfl trivial (enters_of Try.func32 (by kernel_rfl) rfl)
    (fun pre W => (∃ v, Boxed W w.heap.size 47 v ∧ W.ownsRow w.heap.size 3 1 v pre.length (ints pre) ∧ (pre = [] → v = .slice none 0 0)) ∧ Boxed W (w.heap.size + 1) 25 (.pointer (some ⟨rb, 0, none⟩)) ∧ Below w.heap.size w W)
    (fun _ _ _ => False)
    ((loose_by (w.heap.size + 1) rb sb n D W0).mono fun pre W hI => ⟨hI.2.1, sv, D, HD.out.kept (fun k hk => hI.2.2.block k (HD.out.lt hn hk)), fun _ _ _ => rfl⟩)
    (Below.refl _ _) (fun _ => rfl)
    (((holdsRow_own w.heap.size w.heap.size 47 3 1 (fun pre : List Nat => pre.length) ints (fun pre v => pre = [] → v = .slice none 0 0)).from _).and ((boxed_from _ _ (fun _ => .pointer (some ⟨rb, 0, none⟩)) _).and (ownFrom_below (Nat.le_refl _) (by omega))))
    (fun _ _ _ _ _ h _ _ => h.elim) ⟨⟨_, bl0, World.ownsRow_nil _ _ _ _, fun _ => rfl⟩, bd0, hB0⟩ ?a1 ?assign ?body ?done ?stop
  case assign =>
    intro l x W K hK
    dsimp only [encL]
    gi_wp2
    exact hK
  case body =>
    rintro l pre x W ⟨⟨v, hv, hrow, -⟩, hbd, hB⟩ ⟨k, hk, rfl, rfl, hvs⟩
    have c1 := hv.cell
    have f1 := hv.frozen
    have hle := looseTo_length D x
    have HV := Lib.hid hvs
    have HK := Lib.hid hk
    have hpl : (looseTo D x).length + 1 ≤ 4097 := by omega
    clear hvs hk
    gi_wp2_with (gi_at_builtin; refine wpListIn_append_own _ rfl _ _ 47 rfl w.heap.size 3 i0 (.int .i64 0) 1 8 Try.underlying47 hi hz0 hz1 hz2 rfl (by decide) _ _ _ rfl (hrow.alloc _) ⟨W.heap.size, 0, none⟩ 1 1 [.int .i64 (x : Int)] rfl rfl (cell_one_new _ _ _) (by simp [Value.oneCell']) (by unfold maxLen; omega) (by omega) (by have := hB.size; simp; omega) ?_; intro v' w1 hown' hgrow _; obtain ⟨g', cap', rfl⟩ := ownsRow_succ hown'; obtain ⟨hv1, hv2, hr2, hk2, hb2⟩ := hv.appended (by decide) hrow hB.size (Nat.le_refl _) hown' hgrow; have hc1 := hv1.cell; have hf1 := hv1.frozen)
    have hbd' := ((hbd.alloc _).kept hgrow (hbd.not_row (by decide) hrow)).kept (grownBy_setCell' w1 w.heap.size (.slice (some ⟨g', 0, none⟩) ((looseTo D x).length + 1) cap')) (by simp)
    exact ⟨hk2.from _, trivial, ⟨⟨_, hv2, by rw [ints_snoc, List.length_append]; exact hr2, fun h => by simp at h⟩, hbd', hB.trans hb2⟩⟩
  case done =>
    rintro Dd xs W hDd rfl ⟨⟨v, hv, hrow, hnil⟩, hbd, hB⟩ hK
    have c1 := hv.cell
    gi_wp2
    refine ⟨by simp, .inl ⟨_, _, rfl, run_takeDeferred hK, ?_⟩⟩
    exact ⟨_, results_tmp rfl _ _ _, v, rfl, ownsRow_putObj hrow _ hK rfl, hB.trans (belowK_b (w := w) (Nat.le_refl _) W Dd _ _ (by omega) hK rfl rfl), hnil⟩
  case stop =>
    rintro D c pre W _ h _
    exact h.elim

set_option maxRecDepth 100000 in
set_option maxHeartbeats 2000000 in
/-- **Loose**, of a nil disk. -/
theorem loose_list_nil (w : World) :
    Calls Try.prog 23 #[.pointer none] w fun e w' => e = .returned (.slice none 0 0) ∧ Below w.heap.size w w' := by
  refine (callsIn_wide (n := 3)).1 ?_
  refine callsIn_of_wp_marks Try.func23 rfl trivial ?_ rfl
  simp only [Try.ntmps23, List.size_toArray, List.length_cons, List.length_nil, Nat.reduceAdd, Nat.reduceSub, Array.replicate_succ, Array.replicate_zero, List.push_toArray, List.append_toArray, List.nil_append, List.cons_append]
  gi_wp2_with (refine ⟨trivial, ?_⟩; gi_at_call 30; refine (loose_in _ _ trivial rfl _ _).mono ?_; rintro e w' ⟨rfl, rfl⟩)
  obtain ⟨W0, hW0⟩ : ∃ W0, (w.alloc (.cells #[.slice none 0 0] 47)).alloc (.cells #[.pointer none] 25) = W0 := ⟨_, rfl⟩
  have bl0 : Boxed W0 w.heap.size 47 (.slice none 0 0) := by rw [← hW0]; exact (Boxed.new w _ _).alloc _
  have bd0 : Boxed W0 (w.heap.size + 1) 25 (.pointer none) := by
    rw [← hW0]
    have := Boxed.new (w.alloc (.cells #[.slice none 0 0] 47)) 25 (.pointer none)
    rwa [World.size_alloc] at this
  have hB0 : Below w.heap.size w W0 := by rw [← hW0]; exact ((Below.refl _ w).alloc (Nat.le_refl _) _).alloc (by simp) _
  have hsz0 : W0.heap.size = w.heap.size + 2 := by rw [← hW0]; simp
  rw [hW0]
  clear hW0
  refine wpIn_rangeFunc_by (n := 3) rfl (by omega) (gf := 32) (lb := #[.pointer (some ⟨w.heap.size + 1, 0, none⟩)]) rfl trivial (enters_of Try.func32 (by kernel_rfl) rfl)
    (fun pre W => Boxed W w.heap.size 47 (.slice none 0 0) ∧ Boxed W (w.heap.size + 1) 25 (.pointer none) ∧ Below w.heap.size w W)
    (fun _ _ _ => False)
    ((loose_nil_by (w.heap.size + 1) (encL 0) W0).mono fun pre W hI => hI.2.1)
    (Below.refl _ _) (fun _ => rfl)
    ((boxed_from _ _ (fun _ => .slice none 0 0) _).and ((boxed_from _ _ (fun _ => .pointer none) _).and (ownFrom_below (Nat.le_refl _) (by omega))))
    (fun _ _ _ _ _ h _ _ => h.elim) ⟨bl0, bd0, hB0⟩ ?a1 ?assign ?body ?done ?stop
  case assign =>
    intro l x W K hK
    dsimp only [encL]
    gi_wp2
    exact hK
  case body =>
    rintro l pre x W _ h
    exact h.elim
  case done =>
    rintro Dd xs W hDd rfl ⟨hv, hbd, hB⟩ hK
    have c1 := hv.cell
    gi_wp2
    refine ⟨by simp, .inl ⟨_, _, rfl, run_takeDeferred hK, ?_⟩⟩
    exact ⟨_, results_tmp rfl _ _ _, rfl, hB.trans (belowK_b (w := w) (Nat.le_refl _) W Dd _ _ (by omega) hK rfl rfl)⟩
  case stop =>
    rintro D c pre W _ h _
    exact h.elim
end Go.Proofs.Ytagieoomekmjcaa
