/- A version is added. -/
import Derived.Test.YtompbjdhdjafgaaStep
namespace Go.Proofs.Ytompbjdhdjafgaa
open Go.RowKit
set_option linter.unusedVariables false
attribute [-simp] Try.isAgg38 Try.zeroValue38
attribute [-go_sem] loadVar storeVar
attribute [local go_sem] zero_blk build_blk loadVar_open storeVar_open

theorem info_blk3 : (Try.prog.info? 38).map (fun i => (i.zero, i.size, i.bytes)) = some (some (.agg zarr), 64, 64) := info_blk

/-- A block appended to versions. -/
theorem append_blk (N : Nat) (w : World) (v : Value) (vs : List (List Value)) (b : List Value) (B : Nat) (hown : w.ownsRow N 38 64 v vs.length vs.flatten) (hb : IsBlk b) (hB : w.rangeAt B 0 b) (hlen : vs.length ≤ 1000000) (hN : N ≤ w.heap.size) :
    ∃ v' w', (Builtin.append_ #[54, 54] 54 #[v, .slice (some ⟨B, 0, none⟩) 1 1]).run Try.prog w = .ok v' w' ∧ w'.ownsRow N 38 64 v' (vs ++ [b]).length (vs ++ [b]).flatten ∧ w.grownBy w' v.ownBlock ∧ (v'.ownBlock = v.ownBlock ∨ v'.ownBlock = some w.heap.size) := by
  obtain ⟨i0, hi, hz0, hz1, hz2⟩ := info_parts info_blk3
  obtain ⟨v', w', hr, h1, h2, _, h3⟩ := run_append_own_at (P := Try.prog) w N 54 54 38 i0 (.agg zarr) 64 64 Try.underlying54 hi hz0 hz1 hz2 zarr_size (by omega) v vs.length vs.flatten hown
    ⟨B, 0, none⟩ 1 1 b (by rw [hb.length]) (fun j u hj => by have := hB j u hj; rwa [Addr.add_mid]) hb.one (by unfold maxLen; omega) (by omega) hN
  exact ⟨v', w', hr, by simpa using h1, h2, h3⟩

/-- What the statement reads: the versions' slice, and the block that was handed in. -/
def AddC (sb o B : Nat) (v : Value) (b : List Value) : Type := {x : World // x.cell? ⟨sb, o + 64, none⟩ = some v ∧ x.rangeAt B 0 b}

set_option maxRecDepth 100000 in
set_option maxHeartbeats 1000000 in
theorem add_few (N sb o : Nat) (s : Sec) (v : Value) (b : List Value) (w : World) (h : SecAt w N sb o s v) (hb : IsBlk b) (hN : N ≤ w.heap.size) (hk : ¬ 255 < s.vs.length) :
    Calls Try.prog 44 #[.pointer (some ⟨sb, o, none⟩), .agg b.toArray] w fun e w' => e = .returned (.tuple #[]) ∧ ∃ v', SecAt w' N sb o (s.add b) v' ∧ Step w w' sb o v ∧ (v'.ownBlock = v.ownBlock ∨ ∃ k, v'.ownBlock = some k ∧ w.heap.size ≤ k) := by
  have hsb := h.lt
  have hf := h.form
  have hown := h.row
  obtain ⟨W, hW⟩ : ∃ W, w.alloc (.cells b.toArray 38) = W := ⟨_, rfl⟩
  have hsz : W.heap.size = w.heap.size + 1 := by rw [← hW]; simp
  have hst : Step w W sb o v := by rw [← hW]; exact (Step.refl w sb o v).alloc hsb _
  have c1 : W.cell? ⟨sb, o + 64, none⟩ = some v := by rw [← hW, World.cell?_alloc_lt _ _ _ hsb]; exact h.ver
  have r1 : W.rangeAt w.heap.size 0 b := by
    rw [← hW]; intro j x hx
    rw [cell_of_row _ _ _ _ _ _ (heap_alloc_new w _)]; simpa using hx
  have hown1 : W.ownsRow N 38 64 v s.vs.length s.vs.flatten := by rw [← hW]; exact hown.alloc _
  -- behind the slice of one
  obtain ⟨W2, hW2⟩ : ∃ W2, W.drew.alloc (.cells b.toArray 38) = W2 := ⟨_, rfl⟩
  have hsb1 : sb < W.heap.size := by omega
  have hsz2 : W2.heap.size = W.heap.size + 1 := by rw [← hW2]; simp
  have hst2 : Step w W2 sb o v := by rw [← hW2]; exact hst.drew.alloc hsb1 _
  have c2 : W2.cell? ⟨sb, o + 64, none⟩ = some v := by rw [← hW2, World.cell?_alloc_lt _ _ _ hsb1]; exact c1
  have r2 : W2.rangeAt w.heap.size 0 b := by rw [← hW2]; exact World.rangeAt_alloc (by simpa using r1) _
  have r3 : W2.rangeAt W.heap.size 0 b := by
    rw [← hW2]; intro j x hx
    have := cell_of_row _ _ (0 + j) _ _ _ (heap_alloc_new W.drew (.cells b.toArray 38))
    exact this.trans (by simpa using hx)
  have hown2 : W2.ownsRow N 38 64 v s.vs.length s.vs.flatten := by rw [← hW2]; exact hown1.drew.alloc _
  obtain ⟨v', w3, hrun, ho3, hg3, hb3⟩ := append_blk N W2 v s.vs b W.heap.size hown2 hb r3 (by omega) (by omega)
  have hap : v.ownBlock ≠ some sb := h.apart
  have hst3 : Step w w3 sb o v := hst2.grown hg3 (by omega) hap (ownBlock_cells hown2)
  have c3 : w3.cell? ⟨sb, o + 64, none⟩ = some v := hg3.cell c2 (fun e => hap e.symm)
  have f3 : w3.frozen? ⟨sb, o + 64, none⟩ = false := (hst3.there _ _ h.there 64 (by omega)).2
  have r4 : w3.rangeAt w.heap.size 0 b := fun j x hx => hg3.cell (r2 j x hx) (fun e => by have := (hown.lt _ e.symm).2; simp at this)
  have hv'sb : v'.ownBlock ≠ some sb := by rcases hb3 with e | e <;> rw [e]; exact hap; simp; omega
  -- behind the store
  have hst4 : Step w (w3.setCell ⟨sb, o + 64, none⟩ v') sb o v := hst3.setCell (by omega) (by omega) (by rw [c3]; rfl) v'
  have hc4 : w3.rangeAt sb o s.c := fun j x hx => by
    have hj : j < 64 := by have := (List.getElem?_eq_some_iff.1 hx).1; rw [h.ok.1.length] at this; exact this
    have e1 : W.cell? ⟨sb, o + j, none⟩ = some x := by rw [← hW, World.cell?_alloc_lt _ _ _ hsb]; exact h.cont j x hx
    have e2 : W2.cell? ⟨sb, o + j, none⟩ = some x := by rw [← hW2, World.cell?_alloc_lt _ _ _ hsb1]; exact e1
    exact hg3.cell e2 (fun e => hap e.symm)
  have hadd : s.add b = ⟨s.c, s.vs ++ [b]⟩ := by unfold Sec.add; rw [if_neg hk]
  have hfin : SecAt (w3.setCell ⟨sb, o + 64, none⟩ v') N sb o (s.add b) v' := by
    refine ⟨h.ok.add hb, ?_, World.cell?_setCell_same' _ _ _ (by rw [c3]; rfl), hst4.there _ _ h.there, ?_, hv'sb⟩
    · rw [hadd]; exact World.rangeAt_setCells_apart hc4 sb (o + 64) [v'] (by rw [h.ok.1.length]; omega)
    · rw [hadd]
      exact ho3.kept (grown_setCell w3 ⟨sb, o + 64, none⟩ v') (.inr hv'sb)
  have HF := Lib.hid hfin
  have HV : Hid (∃ a' cap', v' = .slice a' (s.add b).vs.length cap') := by obtain ⟨a', cap', e, _⟩ := hfin.form; exact ⟨a', cap', e⟩
  have HB : Hid ((Instr.buildSlice 54 1 #[(0, .agg b.toArray)]).run Try.prog W.drew = .ok (.slice (some ⟨W.heap.size, 0, none⟩) 1 1) W2) := by rw [← hW2]; exact slice_one W.drew b hb.length
  have HS := Lib.hid hst4
  have HN : Hid (v'.ownBlock = v.ownBlock ∨ ∃ k, v'.ownBlock = some k ∧ w.heap.size ≤ k) := hb3.imp id fun e => ⟨_, e, by omega⟩
  have HA := Lib.hid hrun
  have hC : ∀ x : AddC sb o w.heap.size v b, x.1.cell? ⟨sb, o + 64, none⟩ = some v := fun x => x.2.1
  have hL : ∀ x : AddC sb o w.heap.size v b, (loadVar 38 ⟨w.heap.size, 0, none⟩).run Try.prog x.1 = .ok (.agg b.toArray) x.1 := fun x => load_blk x.2.2 hb.length
  haveI hne : Nonempty (AddC sb o w.heap.size v b) := ⟨⟨W, c1, r1⟩⟩
  have K1 : Hid (∃ y : AddC sb o w.heap.size v b, W.drew = y.1) := ⟨⟨W.drew, c1, by simpa using r1⟩, rfl⟩
  have K2 : Hid (∃ y : AddC sb o w.heap.size v b, W2 = y.1) := ⟨⟨W2, c2, r2⟩, rfl⟩
  have K3 : Hid (∃ y : AddC sb o w.heap.size v b, w3 = y.1) := ⟨⟨w3, c3, r4⟩, rfl⟩
  obtain ⟨a, cap, hva, -, -, -⟩ := hf
  obtain ⟨n, hn⟩ : ∃ n, s.vs.length = n := ⟨_, rfl⟩
  rw [hn] at hva hk
  have g1 : decide ((255 : Int) < (n : Int)) = false := by simp; omega
  subst hva
  have hmx : Try.prog.follows .mixedOrders = true := by kernel_rfl
  have HSZ := Lib.hid hsz
  clear h hown hst hown1 hsz2 hst2 hown2 ho3 hg3 hb3 hap hst3 hv'sb hst4 hc4 hadd hfin hrun hn hk c2 r1 r2 r3 r4 hsb hsb1 hsz
  go_enter Try.func44, Try.ntmps44
  go_wp2_with (with_reducible (rw [hW]; clear hW))
  refine region_plan (fun x => ∃ y : AddC sb o w.heap.size (.slice a n cap) b, x = y.1) 8 (.takes [0, 1, 2, 3, 4, 5] (.one 6 (.one 7 .leaf))) hmx (by kernel_rfl) (by intro c x v a w h; cases x <;> exact h) K1.out ?_
  repeat (rw [wpPlan_takes_cons]; simp only [nth_zero, nth_succ]; go_big_quiet_step (fail); refine wpQuiet_nil ?_)
  rw [wpPlan_takes_nil, wpPlan_one]
  simp only [nth_zero, nth_succ]
  (with_reducible refine gate_build ?_)
  refine wpList_build_run _ _ _ rfl rfl [(0, .agg b.toArray)] _ rfl HB.out ?_
  go_wp2_with fail
  refine planPost_mk K2.out ?_
  rw [wpPlan_one]
  simp only [nth_zero, nth_succ]
  refine wpList_append_run (.tmp 20) (.tmp 22) 54 rfl rfl _ _ _ rfl rfl HA.out ?_
  go_wp2_with fail
  refine planPost_mk K3.out ?_
  rw [wpPlan_leaf]
  simp only [List.drop_succ_cons, List.drop_zero]
  obtain ⟨a', cap', rfl⟩ := HV.out
  go_wp2_with fail
  go_end0
  exact ⟨rfl, _, HF.out, HS.out, HN.out⟩
end Go.Proofs.Ytompbjdhdjafgaa
