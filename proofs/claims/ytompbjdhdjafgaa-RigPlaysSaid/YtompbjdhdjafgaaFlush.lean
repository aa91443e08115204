/- Flush. -/
import Derived.Test.YtompbjdhdjafgaaLooseBy
namespace Go.Proofs.Ytompbjdhdjafgaa
open Go.RowKit Go.Shelf
set_option linter.unusedVariables false
attribute [-simp] Try.isAgg38 Try.zeroValue38
attribute [-go_sem] loadVar storeVar
attribute [local go_sem] zero_blk build_blk loadVar_open storeVar_open
attribute [local go_sem] Oper.semAt_some

open Classical in
/-- Those of pre are settled. -/
noncomputable def settled (D : Nat → Sec) (g : Nat → Nat) (pre : List Nat) : Nat → Sec := fun j => if j ∈ pre then (D j).settle (g j) else D j
theorem settled_nil (D : Nat → Sec) (g : Nat → Nat) : settled D g [] = D := by funext j; simp [settled]
theorem settled_not {D : Nat → Sec} {g : Nat → Nat} {pre : List Nat} {j : Nat} (h : j ∉ pre) : settled D g pre j = D j := if_neg h
theorem settled_yes {D : Nat → Sec} {g : Nat → Nat} {pre : List Nat} {j : Nat} (h : j ∈ pre) : settled D g pre j = (D j).settle (g j) := if_pos h
theorem settled_snoc (D : Nat → Sec) (g : Nat → Nat) (pre : List Nat) (x : Nat) : settled D g (pre ++ [x]) = upd (settled D g pre) x ((D x).settle (g x)) := by
  funext j
  by_cases e : j = x
  · subst e; rw [upd_same, settled_yes (by simp)]
  · rw [upd_other _ _ e]
    by_cases h : j ∈ pre
    · rw [settled_yes h, settled_yes (by simp [h])]
    · rw [settled_not h, settled_not (by simp [h, e])]
theorem not_mem_self (D : Nat → Sec) (x : Nat) : x ∉ looseTo D x := fun h => by have := looseTo_lt h; omega

/-- The disk, some of whose sectors are settled, since w. -/
def Part (w : World) (rb sb n : Nat) (f : Nat → Prop) (D : Nat → Sec) (g : Nat → Nat) (pre : List Nat) (W : World) : Prop := ∃ sv, DskAt W rb sb n sv (settled D g pre) ∧ Turn f (foot rb sb n sv) w W

theorem Turn.kept {f f' : Nat → Prop} {w W W' : World} {row : Option Nat} (h : Turn f f' w W) (hg : W.grownBy W' row) (hr : ∀ r, row = some r → w.heap.size ≤ r) : Turn f f' w W' := by
  have hb : ∀ k, k < w.heap.size → W'.heap[k]? = W.heap[k]? := fun k hk => hg.block k (Nat.lt_of_lt_of_le hk h.size) (fun e => by have := hr k e.symm; omega)
  exact ⟨still_trans h.still ⟨hg.os, hg.tape, hg.output⟩, ⟨Nat.le_trans h.size hg.size, fun k o hk ho => (hb k (Array.getElem?_eq_some_iff.1 hk).1).trans (h.others.same k o hk ho)⟩,
    fun k hk hn => (hb k hk).trans (h.out k hk hn), h.new⟩

theorem DskAt.grown {W W' : World} {rb sb n : Nat} {sv : Nat → Value} {D : Nat → Sec} {row : Option Nat} (h : DskAt W rb sb n sv D) (hn : 0 < n) (hg : W.grownBy W' row) (hr : ∀ r, row = some r → ∃ o : Obj, W.heap[r]? = some o ∧ o.isCells = false) : DskAt W' rb sb n sv D :=
  h.kept fun k hk => hg.block k (h.lt hn hk) fun e => by
    obtain ⟨o, ho, hc⟩ := hr k e.symm
    rw [h.isCells hn hk ho] at hc
    cases hc

theorem part_own (w : World) (rb sb n : Nat) (f : Nat → Prop) (D : Nat → Sec) (g : Nat → Nat) (hn : 0 < n) (N : Nat) (hN : w.heap.size ≤ N) : OwnFrom N (Part w rb sb n f D g) := by
  rintro pre W W' row ⟨sv, h1, h2⟩ hg hr
  exact ⟨sv, h1.grown hn hg (fun r e => (hr r e).2), h2.kept hg (fun r e => Nat.le_trans hN (hr r e).1)⟩

/-- One more is settled. -/
theorem Part.next {w W W' : World} {rb sb n x : Nat} {f : Nat → Prop} {D : Nat → Sec} {g : Nat → Nat} {sv : Nat → Value} {pre : List Nat} (h1 : DskAt W rb sb n sv (settled D g pre)) (h2 : Turn f (foot rb sb n sv) w W) (hx : x < n) (hp : x ∉ pre)
    (hs' : SecAt W' 0 sb (x * 65) ((settled D g pre x).settle (g x)) (.slice none 0 0)) (hs : Step W W' sb (x * 65) (sv x)) : Part w rb sb n f D g (pre ++ [x]) W' := by
  rw [settled_not hp] at hs'
  refine ⟨upd sv x (.slice none 0 0), ?_, h2.trans (h1.turn hx hs (.inl rfl))⟩
  rw [settled_snoc]
  exact h1.step hx hs hs' (.inl rfl)

theorem Boxed.step {W W' : World} {B t sb o N n : Nat} {u v : Value} {xs : List Value} (h : Boxed W B t u) (hs : Step W W' sb o v) (hr : W.ownsRow N 38 64 v n xs) (ht : t ≠ 38) (hne : B ≠ sb) : Boxed W' B t u :=
  (hs.blocks B h.lt hne (h.not_row ht hr)).trans h

set_option maxRecDepth 100000 in
set_option maxHeartbeats 2000000 in
/-- **Flush**. -/
theorem flush_at (rb n : Nat) (f : Nat → Prop) (D : Nat → Sec) (w : World) (h : Disk w rb n f D) (hn : 0 < n) :
    Calls Try.prog 37 #[.pointer (some ⟨rb, 0, none⟩)] w fun e w' => e = .returned (.int .i64 0) ∧ ∃ f', Disk w' rb n f' (settled D (fun j => (D j).vs.length) (looseTo D n)) ∧ Turn f f' w w' := by
  obtain ⟨g, hg⟩ : ∃ g : Nat → Nat, (fun j => (D j).vs.length) = g := ⟨_, rfl⟩
  rw [hg]
  refine (callsIn_wide (n := 3)).1 ?_
  refine callsIn_of_wp_marks Try.func37 rfl trivial ?_ rfl
  simp only [Try.ntmps37, List.size_toArray, List.length_cons, List.length_nil, Nat.reduceAdd, Nat.reduceSub, Array.replicate_succ, Array.replicate_zero, List.push_toArray, List.append_toArray, List.nil_append, List.cons_append]
  obtain ⟨sb, sv, hd, rfl⟩ := h
  have hmax := hd.max
  have HD := Lib.hid hd
  have HG := Lib.hid hg
  clear hd hg
  gi_wp2_with (refine ⟨trivial, ?_⟩; gi_at_call 47; refine (loose_in _ _ trivial rfl _ _).mono ?_; rintro e w' ⟨rfl, rfl⟩)
  obtain ⟨W0, hW0⟩ : ∃ W0, w.alloc (.cells #[.pointer (some ⟨rb, 0, none⟩)] 62) = W0 := ⟨_, rfl⟩
  have bd0 : Boxed W0 w.heap.size 62 (.pointer (some ⟨rb, 0, none⟩)) := by rw [← hW0]; exact Boxed.new w _ _
  have hB0 : Below w.heap.size w W0 := by rw [← hW0]; exact (Below.refl _ w).alloc (Nat.le_refl _) _
  have hsz0 : W0.heap.size = w.heap.size + 1 := by rw [← hW0]; simp
  rw [hW0]
  clear hW0
  have P0 : Part w rb sb n (foot rb sb n sv) D g [] W0 := ⟨sv, by rw [settled_nil]; exact HD.out.kept (fun k hk => hB0.block k (HD.out.lt hn hk)), Turn.of_below hB0⟩
  refine wpIn_rangeFunc_by (n := 3) rfl (by omega) (gf := 51) (lb := #[.pointer (some ⟨w.heap.size, 0, none⟩)]) rfl trivial (enters_of Try.func51 (by kernel_rfl) rfl)
    (fun pre W => Boxed W w.heap.size 62 (.pointer (some ⟨rb, 0, none⟩)) ∧ Part w rb sb n (foot rb sb n sv) D g pre W)
    (fun _ _ _ => False)
    ((loose_by w.heap.size rb sb n D W0).mono fun pre W hI => ⟨hI.1, by obtain ⟨sv', h1, _⟩ := hI.2; exact ⟨sv', _, h1, fun i _ hi => by rw [settled_not hi]⟩⟩)
    (Below.refl _ _) (fun _ => rfl)
    ((boxed_from _ _ (fun _ => .pointer (some ⟨rb, 0, none⟩)) _).and (part_own w rb sb n _ D g hn _ (by omega)))
    (fun _ _ _ _ _ h _ _ => h.elim) ⟨bd0, P0⟩ ?a1 ?assign ?body ?done ?stop
  case assign =>
    intro l x W K hK
    dsimp only [encL]
    gi_wp2
    exact hK
  case body =>
    rintro l pre x W ⟨hbd, sv', h1, h2⟩ ⟨k, hk, rfl, rfl, hvs⟩
    have hs := h1.secs x hk
    have hsv := hs.ver
    have hsx : settled D g (looseTo D x) x = D x := settled_not (not_mem_self D x)
    obtain ⟨a, cap, hf, -⟩ := hs.form
    have hS := settle_at 0 sb (x * 65) (g x) _ _ W hs (by rw [hsx, ← HG.out]; exact Nat.le_refl _)
    have hlen : (settled D g (looseTo D x) x).vs.length = g x := by rw [hsx, ← HG.out]
    rw [hlen] at hf
    rw [hf] at hsv
    have HS := Lib.hid hS
    have H1 := Lib.hid h1
    have H2 := Lib.hid h2
    have HK := Lib.hid hk
    have hsb := hs.lt
    have HB := Lib.hid hbd
    have HSB : Hid (sb < w.heap.size) := (HD.out.secs x hk).lt
    obtain ⟨m, hm⟩ : ∃ m, g x = m := ⟨_, rfl⟩
    have HM := Lib.hid hm
    rw [hm] at hsv HS
    clear hs hf hS hlen hsx h1 h2 hk hsb hvs hbd hm
    gi_wp2_with (refine ⟨trivial, ?_⟩; gi_at_call 48; refine (CallsIn.inRound l (callsIn_wide.2 HS.out)).mono ?_; rintro e w' ⟨rfl, hsa, hst⟩)
    refine ⟨hst.others.from _, trivial, Boxed.step HB.out hst (H1.out.secs x HK.out).row (by decide) (by have := HSB.out; omega), Part.next H1.out H2.out HK.out (not_mem_self D x) (by rw [HM.out]; exact hsa) hst⟩
  case done =>
    rintro Dd xs W hDd rfl ⟨hbd, sv', h1, h2⟩ hK
    gi_wp2
    refine ⟨by simp, .inl ⟨_, _, rfl, run_takeDeferred hK, ?_⟩⟩
    have hgr := grownBy_putObj' W Dd (.deferred none)
    exact ⟨_, results_tmp rfl _ _ _, rfl, _, ⟨sb, sv', h1.grown hn hgr (fun r e => by cases e; exact ⟨_, hK, rfl⟩), rfl⟩, h2.kept hgr (fun r e => by cases e; omega)⟩
  case stop =>
    rintro D c pre W _ h _
    exact h.elim

set_option maxRecDepth 100000 in
set_option maxHeartbeats 1000000 in
theorem flush_nil (w : World) :
    Calls Try.prog 37 #[.pointer none] w fun e w' => e = .returned (.int .i64 1) ∧ w' = w := by
  go_enter Try.func37, Try.ntmps37
  go_wp2
  go_ret
  exact ⟨rfl, rfl⟩
end Go.Proofs.Ytompbjdhdjafgaa
