/- The document's own disk: Write. -/
import Derived.Test.YtompbjdhdjafgaaRefSt
import Derived.Test.YtompbjdhdjafgaaQuiet
namespace Go.Proofs.Ytompbjdhdjafgaa
open Go.RowKit
set_option linter.unusedVariables false
attribute [-simp] Try.isAgg38 Try.zeroValue38
attribute [-go_sem] loadVar storeVar
attribute [local go_sem] zero_blk build_blk loadVar_open storeVar_open

/-- A row of its own, made since W. -/
def Own (W x : World) (v : Value) (vs : List (List Value)) : Prop := x.ownsRow W.heap.size 38 64 v vs.length vs.flatten
/-- A block of its own, made since W. -/
def One (W x : World) (B : Nat) (b : List Value) : Prop := W.heap.size ≤ B ∧ B < x.heap.size ∧ x.rangeAt B 0 b

theorem One.alloc {W x : World} {B : Nat} {b : List Value} (h : One W x B b) (o : Obj) : One W (x.alloc o) B b := ⟨h.1, by have := h.2.1; simp; omega, World.rangeAt_alloc h.2.2 o⟩
theorem one_new {W x : World} (hb : Below W.heap.size W x) {b : List Value} (hB : IsBlk b) : One W (x.alloc (.cells b.toArray 38)) x.heap.size b :=
  ⟨hb.size, by simp, fun j u hj => by rw [cell_of_row _ _ _ _ _ _ (heap_alloc_new x _)]; simpa using hj⟩
theorem own_new {W x : World} (hb : Below W.heap.size W x) : Own W (x.alloc (.cells #[] 38)) (.slice (some ⟨x.heap.size, 0, none⟩) 0 0) [] :=
  World.ownsRow_lit x #[] 0 hb.size (by unfold maxLen; omega) rfl

theorem Own.append {W x : World} {v u : Value} {vs us : List (List Value)} (h : Own W x v vs) (hb : Below W.heap.size W x) (hu : x.ownsRow 0 38 64 u us.length us.flatten) (hok : ∀ x ∈ us, IsBlk x) (hlen : vs.length + us.length ≤ 1000000) :
    ∃ v' x', (Builtin.append_ #[54, 54] 54 #[v, u]).run Try.prog x = .ok v' x' ∧ Own W x' v' (vs ++ us) ∧ Below W.heap.size W x' ∧ ∀ B b, One W x B b → v.ownBlock ≠ some B → One W x' B b := by
  obtain ⟨v', x', h1, h2, h3, h4⟩ := append_vs W.heap.size x v u vs us h hu hok hlen hb.size
  refine ⟨v', x', h1, h2, hb.grown h3 hb.size (fun k hk => (h.lt k hk).1), fun B b hB hne => ⟨hB.1, Nat.lt_of_lt_of_le hB.2.1 h3.size, fun j x hx => h3.cell (hB.2.2 j x hx) (fun e => hne e.symm)⟩⟩
theorem Own.push {W x : World} {v : Value} {vs : List (List Value)} {B : Nat} {b : List Value} (h : Own W x v vs) (hb : Below W.heap.size W x) (hB : One W x B b) (hok : IsBlk b) (hlen : vs.length ≤ 1000000) :
    ∃ v' x', (Builtin.append_ #[54, 54] 54 #[v, .slice (some ⟨B, 0, none⟩) 1 1]).run Try.prog x = .ok v' x' ∧ Own W x' v' (vs ++ [b]) ∧ Below W.heap.size W x' := by
  obtain ⟨v', x', h1, h2, h3, h4⟩ := append_blk W.heap.size x v vs b B h hok hB.2.2 hlen hb.size
  exact ⟨v', x', h1, h2, hb.grown h3 hb.size (fun k hk => (h.lt k hk).1)⟩
theorem Own.form {W x : World} {v : Value} {vs : List (List Value)} (h : Own W x v vs) : ∃ a cap, v = .slice a vs.length cap := by
  rcases h.2 with ⟨rfl, h0⟩ | ⟨g, cap, cur, rfl, _⟩
  · exact ⟨none, 0, by rw [h0]⟩
  · exact ⟨_, _, rfl⟩

set_option maxRecDepth 100000 in
set_option maxHeartbeats 2000000 in
/-- **Write**. -/
theorem refWrite (rq n i : Nat) (f : Nat → Prop) (D : Nat → Sec) (b : List Value) (w : World) (h : Ref w rq n f D) (hi : i < n) (hb : IsBlk b) (hlen : (D i).vs.length ≤ 500000) :
    Calls Try.prog 34 #[.pointer (some ⟨rq, 0, none⟩), .int .i64 (i : Int), .agg b.toArray] w fun e w' => e = .returned (.tuple #[]) ∧ ∃ f', Ref w' rq n f' (upd D i ⟨(D i).c, (D i).vs ++ [b]⟩) ∧ Turn f f' w w' := by
  obtain ⟨ss, vb, sv, h, rfl⟩ := h
  have hn : 0 < n := by omega
  obtain ⟨W, hW⟩ : ∃ W, w.alloc (.cells b.toArray 38) = W := ⟨_, rfl⟩
  have hsz : W.heap.size = w.heap.size + 1 := by rw [← hW]; simp
  have hB0 : Below w.heap.size w W := by rw [← hW]; exact (Below.refl _ w).alloc (Nat.le_refl _) _
  have h' : RefAt W rq ss vb n sv D := h.kept fun k hk => hB0.block k (h.lt hn hk)
  have r1 : W.rangeAt w.heap.size 0 b := by
    rw [← hW]; intro j x hx
    rw [cell_of_row _ _ _ _ _ _ (heap_alloc_new w _)]; simpa using hx
  -- whatever is made since
  have key : ∀ x : Ext W, RefAt x.1 rq ss vb n sv D := fun x => h'.kept fun k hk => x.2.block k (h'.lt hn hk)
  have hC0 : ∀ x : Ext W, x.1.cell? ⟨rq, 1, none⟩ = some (.slice (some ⟨vb, 0, none⟩) n n) := fun x => by rw [cell_of_row _ _ _ _ _ _ (key x).head]; rfl
  have hC1 : ∀ x : Ext W, x.1.cell? ⟨vb, i, none⟩ = some (sv i) := fun x => (key x).ver i hi
  have hL : ∀ x : Ext W, (loadVar 38 ⟨w.heap.size, 0, none⟩).run Try.prog x.1 = .ok (.agg b.toArray) x.1 := fun x => load_blk (rangeAt_same r1 (x.2.block _ (by omega))) hb.length
  have hF : ∀ x : Ext W, x.1.frozen? ⟨vb, i, none⟩ = false := fun x => by have := ((key x).thereV i hi).2; rwa [Nat.zero_add] at this
  have K0 : Hid (∃ y : Ext W, W.drew = y.1) := ⟨⟨W.drew, (Below.refl _ W).drew⟩, rfl⟩
  have HE : Hid (∀ x : World, (Instr.buildSlice 54 0 #[]).run Try.prog x = .ok (.slice (some ⟨x.heap.size, 0, none⟩) 0 0) (x.alloc (.cells #[] 38))) := slice_zero
  have HO : Hid (∀ x : World, (Instr.buildSlice 54 1 #[(0, .agg b.toArray)]).run Try.prog x = .ok (.slice (some ⟨x.heap.size, 0, none⟩) 1 1) (x.alloc (.cells b.toArray 38))) := fun x => slice_one x b hb.length
  have HAl : Hid (∀ (x : World) (o : Obj), (∃ y : Ext W, x = y.1) → ∃ y : Ext W, x.alloc o = y.1) := by
    rintro x o ⟨y, rfl⟩
    exact ⟨⟨y.1.alloc o, y.2.alloc y.2.size o⟩, rfl⟩
  have HEn : Hid (∀ x : World, (∃ y : Ext W, x = y.1) → Own W (x.alloc (.cells #[] 38)) (.slice (some ⟨x.heap.size, 0, none⟩) 0 0) []) := by rintro x ⟨y, rfl⟩; exact own_new y.2
  have HOn : Hid (∀ x : World, (∃ y : Ext W, x = y.1) → One W (x.alloc (.cells b.toArray 38)) x.heap.size b) := by rintro x ⟨y, rfl⟩; exact one_new y.2 hb
  have HCp : Hid (∀ (x : World) (B0 : Nat), (∃ y : Ext W, x = y.1) → Own W x (.slice (some ⟨B0, 0, none⟩) 0 0) [] →
      ∃ v' x', (Builtin.append_ #[54, 54] 54 #[.slice (some ⟨B0, 0, none⟩) 0 0, sv i]).run Try.prog x = .ok v' x' ∧ Own W x' v' (D i).vs ∧ (∃ y : Ext W, x' = y.1) ∧ ∀ B b, One W x B b → B0 ≠ B → One W x' B b) := by
    rintro x B0 ⟨y, rfl⟩ ho
    obtain ⟨v', x', h1, h2, h3, h4⟩ := ho.append y.2 ((key y).row i hi) (h.ok i hi).2 (by simp; omega)
    exact ⟨v', x', h1, by simpa using h2, ⟨⟨x', h3⟩, rfl⟩, fun B b hB hne => h4 B b hB (by simp [Value.ownBlock]; exact hne)⟩
  have HPu : Hid (∀ (x : World) (v : Value) (B : Nat), (∃ y : Ext W, x = y.1) → Own W x v (D i).vs → One W x B b →
      ∃ a cap x', (Builtin.append_ #[54, 54] 54 #[v, .slice (some ⟨B, 0, none⟩) 1 1]).run Try.prog x = .ok (.slice a ((D i).vs.length + 1) cap) x' ∧ Own W x' (.slice a ((D i).vs.length + 1) cap) ((D i).vs ++ [b]) ∧ ∃ y : Ext W, x' = y.1) := by
    rintro x v B ⟨y, rfl⟩ ho hB
    obtain ⟨v', x', h1, h2, h3⟩ := ho.push y.2 hB hb (by omega)
    obtain ⟨a, cap, hv⟩ := h2.form
    rw [List.length_append, List.length_singleton] at hv
    subst hv
    exact ⟨a, cap, x', h1, h2, ⟨x', h3⟩, rfl⟩
  have HEnd : Hid (∀ (x : World) (v : Value), (∃ y : Ext W, x = y.1) → Own W x v ((D i).vs ++ [b]) → ∃ f', Ref (x.setCell ⟨vb, i, none⟩ v) rq n f' (upd D i ⟨(D i).c, (D i).vs ++ [b]⟩) ∧ Turn (rfoot rq ss vb n sv) f' w (x.setCell ⟨vb, i, none⟩ v)) := by
    rintro x v ⟨y, rfl⟩ ho
    obtain ⟨g1, g2⟩ := h'.setV hi y.2 (fun u hu => by rcases List.mem_append.1 hu with hu | hu; exact (h.ok i hi).2 u hu; simp at hu; exact hu ▸ hb) ho
    exact ⟨_, ⟨ss, vb, _, g1, rfl⟩, (Turn.of_below hB0).trans g2⟩
  have g1 : (i : Int) < (n : Int) := by omega
  have hmx : Try.prog.follows .mixedOrders = true := by kernel_rfl
  obtain ⟨u, hu⟩ : ∃ u, sv i = u := ⟨_, rfl⟩
  rw [hu] at hC1 HCp
  have hCu := hC1
  clear h h' hB0 r1 key hu hlen hsz
  go_enter Try.func34, Try.ntmps34
  go_wp2_with (with_reducible (rw [hW]; clear hW))
  refine region_plan (fun x => ∃ y : Ext W, x = y.1) 17 (.takes [0, 1, 2, 3, 4, 6, 7, 8, 9, 10, 11, 12, 14] (.two 5 15 (.two 13 15 (.one 15 (.one 16 .leaf)) (.one 13 (.one 16 .leaf))) (.one 5 (.one 13 (.one 16 .leaf))))) hmx (by kernel_rfl) (by intro c x v a w h; cases x <;> exact h) K0.out ?_
  repeat (rw [wpPlan_takes_cons]; simp only [nth_zero, nth_succ]; go_big_quiet_step (fail); refine wpQuiet_nil ?_)
  rw [wpPlan_takes_nil]
  refine ⟨?_, ?_⟩
  · obtain ⟨x1, hx1⟩ : ∃ x, W.drew.alloc (.cells #[] 38) = x := ⟨_, rfl⟩
    have k1 : Hid (∃ y : Ext W, x1 = y.1) := by rw [← hx1]; exact HAl.out _ _ K0.out
    have o1 : Hid (Own W x1 (.slice (some ⟨W.heap.size, 0, none⟩) 0 0) []) := by rw [← hx1]; exact HEn.out _ K0.out
    have s1 : Hid (W.heap.size < x1.heap.size) := by rw [← hx1]; show _ < _; simp
    simp only [nth_zero, nth_succ]
    (with_reducible refine gate_build ?_)
    refine wpList_build_run _ _ _ rfl rfl [] _ rfl (HE.out _) ?_
    rw [hx1]
    go_wp2_with fail
    refine planPost_mk k1.out ?_
    clear hx1
    refine ⟨?_, ?_⟩
    · obtain ⟨v1, x2, r2, o2, k2, t2⟩ := HCp.out x1 _ k1.out o1.out
      have R2 := Lib.hid r2
      have K2 := Lib.hid k2
      obtain ⟨x3, hx3⟩ : ∃ x, x2.alloc (.cells b.toArray 38) = x := ⟨_, rfl⟩
      have k3 : Hid (∃ y : Ext W, x3 = y.1) := by rw [← hx3]; exact HAl.out _ _ k2
      have o3 : Hid (Own W x3 v1 (D i).vs) := by rw [← hx3]; exact World.ownsRow.alloc o2 _
      have n3 : Hid (One W x3 x2.heap.size b) := by rw [← hx3]; exact HOn.out _ k2
      obtain ⟨a4, cap4, x4, r4, q4, k4⟩ := HPu.out x3 v1 _ k3.out o3.out n3.out
      have R4 := Lib.hid r4
      have o4 := Lib.hid q4
      replace k4 := Lib.hid k4
      clear r2 k2 o2 t2 r4 q4
      simp only [nth_zero, nth_succ]
      refine wpList_append_run (.tmp 11) (.tmp 18) 54 rfl rfl _ _ _ rfl rfl R2.out ?_
      go_wp2_with fail
      refine planPost_mk K2.out ?_
      rw [wpPlan_one]
      simp only [nth_zero, nth_succ]
      (with_reducible refine gate_build ?_)
      refine wpList_build_run _ _ _ rfl rfl [(0, .agg b.toArray)] _ rfl (HO.out _) ?_
      rw [hx3]
      go_wp2_with fail
      refine planPost_mk k3.out ?_
      clear hx3
      rw [wpPlan_one]
      simp only [nth_zero, nth_succ]
      refine wpList_append_run (.tmp 19) (.tmp 21) 54 rfl rfl _ _ _ rfl rfl R4.out ?_
      go_wp2_with fail
      refine planPost_mk k4.out ?_
      rw [wpPlan_leaf]
      simp only [List.drop_succ_cons, List.drop_zero]
      have c4 : x4.cell? ⟨vb, i, none⟩ = some u := by obtain ⟨y, rfl⟩ := k4.out; exact hC1 y
      have f4 : x4.frozen? ⟨vb, i, none⟩ = false := by obtain ⟨y, rfl⟩ := k4.out; exact hF y
      go_wp2_with fail
      go_end0
      exact ⟨rfl, HEnd.out _ _ k4.out o4.out⟩
    · obtain ⟨x2, hx2⟩ : ∃ x, x1.alloc (.cells b.toArray 38) = x := ⟨_, rfl⟩
      have k2 : Hid (∃ y : Ext W, x2 = y.1) := by rw [← hx2]; exact HAl.out _ _ k1.out
      have o2 : Hid (Own W x2 (.slice (some ⟨W.heap.size, 0, none⟩) 0 0) []) := by rw [← hx2]; exact World.ownsRow.alloc o1.out _
      have n2 : Hid (One W x2 x1.heap.size b) := by rw [← hx2]; exact HOn.out _ k1.out
      obtain ⟨v1, x3, r3, o3, k3, t3⟩ := HCp.out x2 _ k2.out o2.out
      have n3 := t3 _ _ n2.out (Nat.ne_of_lt s1.out)
      obtain ⟨a4, cap4, x4, r4, q4, k4⟩ := HPu.out x3 v1 _ k3 o3 n3
      have R3 := Lib.hid r3
      have K3 := Lib.hid k3
      have R4 := Lib.hid r4
      have o4 := Lib.hid q4
      replace k4 := Lib.hid k4
      clear r3 k3 o3 t3 n3 r4 q4
      simp only [nth_zero, nth_succ]
      (with_reducible refine gate_build ?_)
      refine wpList_build_run _ _ _ rfl rfl [(0, .agg b.toArray)] _ rfl (HO.out _) ?_
      rw [hx2]
      go_wp2_with fail
      refine planPost_mk k2.out ?_
      clear hx2
      rw [wpPlan_one]
      simp only [nth_zero, nth_succ]
      refine wpList_append_run (.tmp 11) (.tmp 18) 54 rfl rfl _ _ _ rfl rfl R3.out ?_
      go_wp2_with fail
      refine planPost_mk K3.out ?_
      rw [wpPlan_one]
      simp only [nth_zero, nth_succ]
      refine wpList_append_run (.tmp 19) (.tmp 21) 54 rfl rfl _ _ _ rfl rfl R4.out ?_
      go_wp2_with fail
      refine planPost_mk k4.out ?_
      rw [wpPlan_leaf]
      simp only [List.drop_succ_cons, List.drop_zero]
      have c4 : x4.cell? ⟨vb, i, none⟩ = some u := by obtain ⟨y, rfl⟩ := k4.out; exact hC1 y
      have f4 : x4.frozen? ⟨vb, i, none⟩ = false := by obtain ⟨y, rfl⟩ := k4.out; exact hF y
      go_wp2_with fail
      go_end0
      exact ⟨rfl, HEnd.out _ _ k4.out o4.out⟩
  · obtain ⟨x1, hx1⟩ : ∃ x, W.drew.alloc (.cells b.toArray 38) = x := ⟨_, rfl⟩
    have k1 : Hid (∃ y : Ext W, x1 = y.1) := by rw [← hx1]; exact HAl.out _ _ K0.out
    have n1 : Hid (One W x1 W.heap.size b) := by rw [← hx1]; exact HOn.out _ K0.out
    obtain ⟨x2, hx2⟩ : ∃ x, x1.alloc (.cells #[] 38) = x := ⟨_, rfl⟩
    have k2 : Hid (∃ y : Ext W, x2 = y.1) := by rw [← hx2]; exact HAl.out _ _ k1.out
    have o2 : Hid (Own W x2 (.slice (some ⟨x1.heap.size, 0, none⟩) 0 0) []) := by rw [← hx2]; exact HEn.out _ k1.out
    have n2 : Hid (One W x2 W.heap.size b) := by rw [← hx2]; exact n1.out.alloc _
    obtain ⟨v1, x3, r3, o3, k3, t3⟩ := HCp.out x2 _ k2.out o2.out
    have n3 := t3 _ _ n2.out (Nat.ne_of_gt n1.out.2.1)
    obtain ⟨a4, cap4, x4, r4, q4, k4⟩ := HPu.out x3 v1 _ k3 o3 n3
    have R3 := Lib.hid r3
    have K3 := Lib.hid k3
    have R4 := Lib.hid r4
    have o4 := Lib.hid q4
    replace k4 := Lib.hid k4
    clear r3 k3 o3 t3 n3 r4 q4
    simp only [nth_zero, nth_succ]
    (with_reducible refine gate_build ?_)
    refine wpList_build_run _ _ _ rfl rfl [(0, .agg b.toArray)] _ rfl (HO.out _) ?_
    rw [hx1]
    go_wp2_with fail
    refine planPost_mk k1.out ?_
    clear hx1
    rw [wpPlan_one]
    simp only [nth_zero, nth_succ]
    (with_reducible refine gate_build ?_)
    refine wpList_build_run _ _ _ rfl rfl [] _ rfl (HE.out _) ?_
    rw [hx2]
    go_wp2_with fail
    refine planPost_mk k2.out ?_
    clear hx2
    rw [wpPlan_one]
    simp only [nth_zero, nth_succ]
    refine wpList_append_run (.tmp 11) (.tmp 18) 54 rfl rfl _ _ _ rfl rfl R3.out ?_
    go_wp2_with fail
    refine planPost_mk K3.out ?_
    rw [wpPlan_one]
    simp only [nth_zero, nth_succ]
    refine wpList_append_run (.tmp 19) (.tmp 21) 54 rfl rfl _ _ _ rfl rfl R4.out ?_
    go_wp2_with fail
    refine planPost_mk k4.out ?_
    rw [wpPlan_leaf]
    simp only [List.drop_succ_cons, List.drop_zero]
    have c4 : x4.cell? ⟨vb, i, none⟩ = some u := by obtain ⟨y, rfl⟩ := k4.out; exact hC1 y
    have f4 : x4.frozen? ⟨vb, i, none⟩ = false := by obtain ⟨y, rfl⟩ := k4.out; exact hF y
    go_wp2_with fail
    go_end0
    exact ⟨rfl, HEnd.out _ _ k4.out o4.out⟩
end Go.Proofs.Ytompbjdhdjafgaa
