/- The document's Merge. -/
import Derived.Test.YtmhpjglmnfllfaaTbRf2
namespace Go.Proofs.Ytmhpjglmnfllfaa
open Go.RowKit
set_option linter.unusedVariables false
set_option linter.unusedSimpArgs false
attribute [-simp] Try.isAgg52 Try.zeroValue52 Try.isAgg71 Try.zeroValue71
attribute [-go_sem] loadVar storeVar

/-- What is kept, what becomes free, in a block. -/
def boL (u f : Value) : List Value := [u, f]
theorem loadVar_openB (t : TypeId) (h : t ≠ 52 ∧ t ≠ 71) (a : Addr) : loadVar t a = (do if ← isAgg t then pure (.agg (← loadCells a (← sizeOf t))) else load a) := rfl
theorem storeVar_openB (t : TypeId) (h : t ≠ 52 ∧ t ≠ 71) (a : Addr) (v : Value) : storeVar t a v = (do
    if v.cells.size ≠ (← sizeOf t) then stuck "storeVar: the value has not the size of the variable"
    storeCells a v.cells.toList) := rfl
set_option maxRecDepth 100000 in
theorem zero_both (w : World) : (zeroValue 71).run Try.prog w = .ok (.agg #[.slice none 0 0, .slice none 0 0]) w := by kernel_rfl
set_option maxRecDepth 100000 in
theorem build_both (a : Option Addr) (n c : Nat) (w : World) : (Instr.build 71 #[(0, .slice a n c)]).run Try.prog w = .ok (.agg #[.slice a n c, .slice none 0 0]) w := by kernel_rfl
set_option maxRecDepth 100000 in
theorem size_both : (Try.prog.info? 71).map (·.size) = some 2 := by kernel_rfl
set_option maxRecDepth 100000 in
theorem load_both {x : World} {B : Nat} {t : TypeId} {u f : Value} (h : RowC x B t (boL u f)) : (loadVar 71 ⟨B, 0, none⟩).run Try.prog x = .ok (.agg #[u, f]) x :=
  run_loadVar_mid x B 0 _ (boL u f) _ h.range Try.underlying71 rfl (by kernel_rfl)
set_option maxRecDepth 100000 in
theorem store_both {x : World} {B n m c d : Nat} {u v : Option Addr} {old : List Value} (h : RowC x B 71 old) (ho : old.length = 2) :
    ∃ y, (storeVar 71 ⟨B, 0, none⟩ (.agg #[.slice u n c, .slice v m d])).run Try.prog x = .ok () y ∧ RowC y B 71 (boL (.slice u n c) (.slice v m d)) ∧ x.grownBy y (some B) := by
  refine ⟨_, run_storeVar_row x B _ _ old.toArray (boL (.slice u n c) (.slice v m d)).toArray h size_both (by simpa [boL] using ho) (by kernel_rfl), setRow_heap x B _ _ _ _ h, ?_⟩
  exact ⟨rfl, rfl, rfl, by rw [setRow_size]; exact Nat.le_refl _, fun k _ hk => setRow_other x B k _ (fun e => hk (by rw [e]))⟩
set_option maxRecDepth 100000 in
theorem new_both (x : World) (a : Option Addr) (n c : Nat) : (storeVar 71 ⟨x.heap.size, 0, none⟩ (.agg #[.slice a n c, .slice none 0 0])).run Try.prog (x.alloc (.cells #[.slice none 0 0, .slice none 0 0] 71)) = .ok () (x.alloc (.cells #[.slice a n c, .slice none 0 0] 71)) :=
  run_storeVar_new x _ _ (boL (.slice a n c) (.slice none 0 0)).toArray size_both rfl (by kernel_rfl)
theorem PrO.setB {N B j : Nat} {x : World} {v u : Value} {l : List (Int × Int)} {C : List Value} (h : PrO N x v l) (hB : RowC x B 71 C) : PrO N (x.setCell ⟨B, j, none⟩ u) v l := ⟨h.1.kept (grownBy_setCellJ x B j u) (.inr (row_ne h.1 hB (by decide))), h.2⟩
theorem InO.setB {N B j : Nat} {x : World} {v u : Value} {zs : List Int} {C : List Value} (h : InO N x v zs) (hB : RowC x B 71 C) : InO N (x.setCell ⟨B, j, none⟩ u) v zs := h.kept (grownBy_setCellJ x B j u) (.inr (row_ne h hB (by decide)))
theorem RowC.grownI {N B : Nat} {x y : World} {v : Value} {zs : List Int} {C : List Value} (h : RowC x B 71 C) (hv : InO N x v zs) (hg : x.grownBy y v.ownBlock) : RowC y B 71 C := h.grown hg (row_ne hv h (by decide))
theorem InO.sl {N : Nat} {x : World} {v : Value} {zs : List Int} (h : InO N x v zs) : Sl .i64 x v zs := sl_own h
theorem PrO.form {N : Nat} {x : World} {v : Value} {l : List (Int × Int)} (h : PrO N x v l) : ∃ a c, v = .slice a l.length c := by
  obtain ⟨a, c, e, -⟩ := h.prt; exact ⟨a, c, e⟩
theorem InO.form {N : Nat} {x : World} {v : Value} {zs : List Int} (h : InO N x v zs) : ∃ a c, v = .slice a zs.length c := by
  obtain ⟨a, c, e, -⟩ := h.sl; exact ⟨a, c, e⟩
attribute [local go_sem] loadVar_openB storeVar_openB zero_prs build_prs0 build_prs zero_both build_both

set_option maxRecDepth 100000 in
set_option maxHeartbeats 8000000 in
/-- The document's **Merge**. -/
theorem rf_merge {w : World} {va vb : Value} {a b : List (Int × Int)} (ha : Prt w va a) (hb : Prt w vb b) (hla : a.length ≤ 100000) (hlb : b.length ≤ 100000) :
    Calls Try.prog 46 #[va, vb] w fun e w' => ∃ u f, e = .returned (.agg #[u, f]) ∧ PrO w.heap.size w' u (tKeep a a b) ∧ InO w.heap.size w' f (tFree a b) ∧ Below w.heap.size w w' := by
  have hmx : Try.prog.follows .mixedOrders = true := by kernel_rfl
  have HPA := Lib.hid ha
  have HPB := Lib.hid hb
  -- the result's block, the literal, the copy, the block of both
  obtain ⟨V0, hV0⟩ : ∃ V, w.alloc (.cells #[.slice none 0 0, .slice none 0 0] 71) = V := ⟨_, rfl⟩
  have bV := below_new w (.cells #[.slice none 0 0, .slice none 0 0] 71)
  have rV := RowC.new w 71 (boL (.slice none 0 0) (.slice none 0 0))
  rw [show (boL (.slice none 0 0) (.slice none 0 0)).toArray = #[.slice none 0 0, .slice none 0 0] from rfl] at rV
  rw [hV0] at bV rV
  obtain ⟨W0, hW0⟩ : ∃ W, V0.alloc (.cells #[] 52) = W := ⟨_, rfl⟩
  have SB0 := slice_prs0 V0
  have b0 := below_new V0 (.cells #[] 52)
  have s0 := lit_none w.heap.size V0 bV.size
  rw [hW0] at SB0 b0 s0
  have bW0 : Below w.heap.size w W0 := bV.trans (b0.mono bV.size)
  obtain ⟨u0, W1, hr0, hu0, g0, -⟩ := pr_append s0 (ha.below bW0) bW0.size (by simp; omega)
  rw [List.nil_append] at hu0
  have r1 : RowC W1 w.heap.size 71 (boL (.slice none 0 0) (.slice none 0 0)) := (rV.below b0).grown g0 (row_ne s0.1 (rV.below b0) (by decide))
  have b1 : Below w.heap.size w W1 := bW0.grown g0 bW0.size (fun j e => (s0.base j e).1)
  obtain ⟨au, cu, hau⟩ := hu0.form
  subst hau
  have ST := new_both W1 au a.length cu
  obtain ⟨W2, hW2⟩ : ∃ W, W1.alloc (.cells #[.slice au a.length cu, .slice none 0 0] 71) = W := ⟨_, rfl⟩
  have b2 := below_new W1 (.cells #[.slice au a.length cu, .slice none 0 0] 71)
  have r2 := RowC.new W1 71 (boL (.slice au a.length cu) (.slice none 0 0))
  rw [show (boL (.slice au a.length cu) (.slice none 0 0)).toArray = #[.slice au a.length cu, .slice none 0 0] from rfl] at r2
  rw [hW2] at ST b2 r2
  have HA := Lib.hid hr0
  have HK0 := Lib.hid (hu0.below b2)
  have HR4 := Lib.hid (r1.below b2)
  have HR5 := Lib.hid r2
  have HB0 : Hid (Below w.heap.size w W2) := b1.trans (b2.mono b1.size)
  have hne : W1.heap.size ≠ w.heap.size := by have := r1.lt; omega
  obtain ⟨B5, hB5⟩ : ∃ B, W1.heap.size = B := ⟨_, rfl⟩
  have HNE : Hid (B5 ≠ w.heap.size) := by rw [← hB5]; exact hne
  have HB5 : Hid (w.heap.size ≤ B5) := by rw [← hB5]; exact b1.size
  rw [hB5] at ST HR5
  obtain ⟨pa, ca, rfl, -⟩ := ha
  obtain ⟨pb, cb, rfl, -⟩ := hb
  obtain ⟨n, hn⟩ : ∃ n, b.length = n := ⟨_, rfl⟩
  rw [hn] at HPB hlb ⊢
  have HN := Lib.hid hn
  clear hn hr0 hu0 g0 s0 b0 bW0 bV rV r1 b1 b2 r2 hW0 hW2 hne
  go_enter Try.func46, Try.ntmps46
  go_wp2_with (first | (refine gate_build ?_; refine wpList_build_run 47 0 #[] rfl rfl [] _ rfl SB0 ?_) | (at_builtin; refine wpList_append_run (.tmp 7) (.tmp 8) 47 rfl rfl _ _ _ rfl rfl (HA.out _) ?_))
  try rw [hV0]
  clear SB0 HA ST hV0 hB5
  go_loopw [6] (fun iv wr => ∃ (k : Nat) (kv fv : Value), k ≤ n ∧ iv = .int .i64 (k : Int) ∧ Hid (RowC wr B5 71 (boL kv fv)) ∧ Hid (RowC wr w.heap.size 71 (boL (.slice none 0 0) (.slice none 0 0))) ∧ Hid (PrO w.heap.size wr kv (tKeep a a (b.take k))) ∧ Hid (InO w.heap.size wr fv (tFree a (b.take k))) ∧ Hid (Below w.heap.size w wr)) (fun iv _ => n - (intOf iv).toNat)
  case atStart => exact ⟨0, _, _, Nat.zero_le _, rfl, HR5, HR4, HK0, InO.nil _ _, HB0⟩
  case round =>
    obtain ⟨k, kv, fv, hk, rfl, HR5, HR4, HK, HF, HB⟩ := hrel
    by_cases hlt : k < n
    · obtain ⟨p, hp⟩ : ∃ p, b[k]? = some p := ⟨_, List.getElem?_eq_getElem (by rw [HN.out]; exact hlt)⟩
      have hp64 : Is64 p.1 ∧ Is64 p.2 := HPB.out.is p (List.mem_of_getElem? hp)
      have hsn : b.take (k + 1) = b.take k ++ [p] := by rw [List.take_add_one, hp]; rfl
      obtain ⟨bb, off, rfl, hbb, c1, c2⟩ := (HPB.out.below HB.out).at hp
      obtain ⟨x0, y0⟩ := p
      simp only at c1 c2 hp64
      have HP64 := Lib.hid hp64
      have htl : (b.take k).length = k := by rw [List.length_take, Nat.min_eq_left (by rw [HN.out]; omega)]
      have hkl : (tKeep a a (b.take k)).length ≤ 200000 := by have := tKeep_len a (b.take k) a; omega
      have hfl : (tFree a (b.take k)).length ≤ 200000 := by have := tFree_len a (b.take k); omega
      have HKN : Hid (tKeep a a (b.take (k + 1)) = if (tFind a x0).isSome then tKeep a a (b.take k) else tPut (tKeep a a (b.take k)) x0 y0) := by show _ = _; rw [hsn]; exact tKeep_snoc a _ a (x0, y0)
      have HFN : Hid (tFree a (b.take (k + 1)) = if (tFind a x0).isSome then tFree a (b.take k) ++ [y0] else tFree a (b.take k)) := by show _ = _; rw [hsn]; exact tFree_snoc a _ (x0, y0)
      have g1 : (k : Int) < (n : Int) := by omega
      have HW : Hid (wrap64 ((k : Int) + 1) = (k : Int) + 1) := IntWalk.wrap64_in _ (by omega)
      have HLT := Lib.hid hlt
      have HC := Lib.hid (rf_find (HPA.out.below HB.out) x0 (by omega))
      obtain ⟨ak, ck, hkv⟩ := HK.out.form
      obtain ⟨af, cf, hfv⟩ := HF.out.form
      subst hkv
      subst hfv
      have HKL := Lib.hid hkl
      have HFL := Lib.hid hfl
      obtain ⟨W, hW⟩ : ∃ W, wr.drew = W := ⟨_, rfl⟩
      have bd : Below wr.heap.size wr W := by rw [← hW]; exact (Below.refl _ wr).drew
      have HR5 := Lib.hid (HR5.out.below bd)
      have HR4 := Lib.hid (HR4.out.below bd)
      have HK := Lib.hid (HK.out.below bd)
      have HF := Lib.hid (HF.out.below bd)
      have HB2 : Hid (Below w.heap.size w W) := HB.out.trans (bd.mono HB.out.size)
      have e1 : W.cell? ⟨bb, off + k * 2, none⟩ = some (.int .i64 x0) := by rw [← hW]; exact c1
      have e2 : W.cell? ⟨bb, off + k * 2 + 1, none⟩ = some (.int .i64 y0) := by rw [← hW]; exact c2
      have d0 := HR5.out.cell 0 _ rfl
      have d1 := HR5.out.cell 1 _ rfl
      have KW : Hid (Below W.heap.size W W) := Below.refl _ _
      have hbw : bb < W.heap.size := Nat.lt_of_lt_of_le hbb bd.size
      have E0 : ∀ y : Ext W, y.1.cell? ⟨B5, 0, none⟩ = some (.slice ak (tKeep a a (b.take k)).length ck) := fun y => (y.2.cell (p := ⟨B5, 0, none⟩) HR5.out.lt).trans d0
      have E1 : ∀ y : Ext W, y.1.cell? ⟨B5, 1, none⟩ = some (.slice af (tFree a (b.take k)).length cf) := fun y => (y.2.cell (p := ⟨B5, 1, none⟩) HR5.out.lt).trans d1
      have E2 : ∀ y : Ext W, y.1.cell? ⟨bb, off + k * 2, none⟩ = some (.int .i64 x0) := fun y => (y.2.cell (p := ⟨bb, off + k * 2, none⟩) hbw).trans e1
      have E3 : ∀ y : Ext W, y.1.cell? ⟨bb, off + k * 2 + 1, none⟩ = some (.int .i64 y0) := fun y => (y.2.cell (p := ⟨bb, off + k * 2 + 1, none⟩) hbw).trans e2
      clear hp hbb c2 hp64 hsn htl hkl hfl hlt hk bd hbw d0 d1 e1 e2
      cases hf : tFind a x0 with
      | some i =>
        have e0 : tIx a x0 = i := by unfold tIx; rw [hf]
        have q0 : decide ((i : Int) ≥ 0) = true := by simp
        rw [hf] at HKN HFN
        simp only [Option.isSome_some, if_true] at HKN HFN
        rw [e0] at HC
        obtain ⟨f2, W4, hr, h1, h2, -⟩ := in_append HF.out HB2.out.size y0 (by have := HFL.out; omega)
        have HAP := Lib.hid hr
        obtain ⟨W3, hW3⟩ : ∃ W3, W.alloc (.cells #[.int .i64 y0] 3) = W3 := ⟨_, rfl⟩
        have SB : Hid ((Instr.buildSlice 45 1 #[(0, .int .i64 y0)]).run Try.prog W = .ok (.slice (some ⟨W.heap.size, 0, none⟩) 1 1) W3) := by show _ = _; rw [← hW3]; exact slice_int1 W y0
        rw [hW3] at HAP
        have KW3 : Hid (Below W.heap.size W W3) := by show Below _ _ _; rw [← hW3]; exact below_new W _
        obtain ⟨a2, c2, hf2⟩ := InO.form h1
        subst hf2
        have r5 := HR5.out.grownI HF.out h2
        have r4 := HR4.out.grownI HF.out h2
        have k4 := HK.out.grownI HF.out h2
        have b4 : Below w.heap.size w W4 := HB2.out.grown h2 HB2.out.size (fun j e => (HF.out.base j e).1)
        obtain ⟨W5, hW5⟩ : ∃ W5, W4.setCell ⟨B5, 1, none⟩ (.slice a2 (tFree a (b.take k) ++ [y0]).length c2) = W5 := ⟨_, rfl⟩
        have s5 : (W4.cell? ⟨B5, 1, none⟩).isSome = true := by rw [r5.cell 1 _ rfl]; rfl
        have fz := r5.frozen 1
        have R5 : Hid (RowC W5 B5 71 (boL (.slice ak (tKeep a a (b.take k)).length ck) (.slice a2 (tFree a (b.take k) ++ [y0]).length c2))) := by show RowC _ _ _ _; rw [← hW5]; exact r5.set 1 _
        have R4 : Hid (RowC W5 w.heap.size 71 (boL (.slice none 0 0) (.slice none 0 0))) := by show RowC _ _ _ _; rw [← hW5]; exact r4.grown (grownBy_setCellJ W4 B5 1 _) (fun e => by cases e; exact HNE.out rfl)
        have K5 : Hid (PrO w.heap.size W5 (.slice ak (tKeep a a (b.take k)).length ck) (tKeep a a (b.take k))) := by show PrO _ _ _ _; rw [← hW5]; exact k4.setB r5
        have F5 : Hid (InO w.heap.size W5 (.slice a2 (tFree a (b.take k) ++ [y0]).length c2) (tFree a (b.take k) ++ [y0])) := by show InO _ _ _ _; rw [← hW5]; exact InO.setB h1 r5
        have BL5 : Hid (Below w.heap.size w W5) := by show Below _ _ _; rw [← hW5]; exact b4.grown (grownBy_setCellJ W4 B5 1 _) b4.size (fun j e => by cases e; exact HB5.out)
        have d5 := r5.cell 1 _ rfl
        obtain ⟨fl, hfl⟩ : ∃ fl, (tFree a (b.take k) ++ [y0]).length = fl := ⟨_, rfl⟩
        rw [hfl] at hW5 R5 F5
        clear hr h1 h2 hW3 hf e0 r5 r4 k4 b4 HKL HFL
        go_wp2_with fail
        go_at_call 33
        refine HC.out.mono ?_
        rintro e x ⟨rfl, hx⟩
        obtain rfl := hx.symm
        clear HC
        go_wp2_with fail
        refine region_plan (fun x => ∃ y : Ext W, x = y.1) 8 (.takes [0, 1, 2, 3, 4, 5, 6] (.one 7 .leaf)) hmx (by kernel_rfl) (by intro c x v a w h; cases x <;> exact h) ⟨⟨W, KW.out⟩, hW⟩ ?_
        rw [hW]
        clear hW
        repeat (rw [wpPlan_takes_cons]; simp only [nth_zero, nth_succ]; go_big_quiet_step (fail); refine wpQuiet_nil ?_)
        rw [wpPlan_takes_nil, wpPlan_one]
        simp only [nth_zero, nth_succ]
        go_wp2_with (refine gate_build ?_; refine wpList_build_run 45 1 #[(0, .tmp 31)] rfl rfl [(0, .int .i64 y0)] _ rfl SB.out ?_)
        refine planPost_mk ⟨⟨W3, KW3.out⟩, rfl⟩ ?_
        rw [wpPlan_leaf]
        simp only [List.drop_succ_cons, List.drop_zero]
        go_wp2_with (at_builtin; refine wpList_append_run (.tmp 26) (.tmp 32) 45 rfl rfl _ _ _ rfl rfl (HAP.out _) ?_)
        try rw [hW5]
        exact ⟨⟨k + 1, _, _, HLT.out, by simp, R5, R4, by rw [HKN.out]; exact K5, by rw [HFN.out]; exact F5, BL5⟩, by simp [intOf]; omega⟩
      | none =>
        have e0 : tIx a x0 = -1 := by unfold tIx; rw [hf]
        rw [hf] at HKN HFN
        simp only [Option.isSome_none, Bool.false_eq_true, if_false] at HKN HFN
        rw [e0] at HC
        have HPU := Lib.hid (rf_put HK.out.prt x0 y0 HP64.out.1 HP64.out.2 (by have := HKL.out; omega))
        have d0 := E0 ⟨W, KW.out⟩
        have d2 := E2 ⟨W, KW.out⟩
        have d3 := E3 ⟨W, KW.out⟩
        simp only at d0 d2 d3
        clear hf e0 HKL HFL E0 E1 E2 E3
        go_wp2_with fail
        go_at_call 33
        refine HC.out.mono ?_
        rintro e x ⟨rfl, hx⟩
        obtain rfl := hx.symm
        clear HC
        go_wp2_with fail
        refine region_plan (fun x => x = W) 12 (.takes [0, 1, 2, 3, 4, 5, 6, 7, 8, 9, 10, 11] .leaf) hmx (by kernel_rfl) (by intro c x v a w h; cases x <;> exact h) hW ?_
        rw [hW]
        clear hW
        repeat (rw [wpPlan_takes_cons]; simp only [nth_zero, nth_succ]; go_big_quiet_step (fail); refine wpQuiet_nil ?_)
        rw [wpPlan_takes_nil, wpPlan_leaf]
        simp only [List.drop_succ_cons, List.drop_zero]
        clear d0 d2 d3
        go_wp2_with fail
        go_at_call 62
        refine HPU.out.mono ?_
        rintro e W4 ⟨u2, rfl, hO, hb4⟩
        obtain ⟨a2, c2, hu2⟩ := hO.form
        subst hu2
        obtain ⟨pl, hpl⟩ : ∃ pl, tPut (tKeep a a (b.take k)) x0 y0 = pl := ⟨_, rfl⟩
        rw [hpl] at hO HKN ⊢
        have r5 := HR5.out.below hb4
        have r4 := HR4.out.below hb4
        have f4 := HF.out.below hb4
        have k4 := hO.weak HB2.out.size
        have b4 : Below w.heap.size w W4 := HB2.out.trans (hb4.mono HB2.out.size)
        obtain ⟨W5, hW5⟩ : ∃ W5, W4.setCell ⟨B5, 0, none⟩ (.slice a2 pl.length c2) = W5 := ⟨_, rfl⟩
        have fz := r5.frozen 0
        have R5 : Hid (RowC W5 B5 71 (boL (.slice a2 pl.length c2) (.slice af (tFree a (b.take k)).length cf))) := by show RowC _ _ _ _; rw [← hW5]; exact r5.set 0 _
        have R4 : Hid (RowC W5 w.heap.size 71 (boL (.slice none 0 0) (.slice none 0 0))) := by show RowC _ _ _ _; rw [← hW5]; exact r4.grown (grownBy_setCellJ W4 B5 0 _) (fun e => by cases e; exact HNE.out rfl)
        have K5 : Hid (PrO w.heap.size W5 (.slice a2 pl.length c2) pl) := by show PrO _ _ _ _; rw [← hW5]; exact k4.setB r5
        have F5 : Hid (InO w.heap.size W5 (.slice af (tFree a (b.take k)).length cf) (tFree a (b.take k))) := by show InO _ _ _ _; rw [← hW5]; exact InO.setB f4 r5
        have BL5 : Hid (Below w.heap.size w W5) := by show Below _ _ _; rw [← hW5]; exact b4.grown (grownBy_setCellJ W4 B5 0 _) b4.size (fun j e => by cases e; exact HB5.out)
        have d5 := r5.cell 0 _ rfl
        clear hO hb4 r5 r4 f4 k4 b4 hpl HPU
        go_wp2_with fail
        try rw [hW5]
        exact ⟨⟨k + 1, _, _, HLT.out, by simp, R5, R4, by rw [HKN.out]; exact K5, by rw [HFN.out]; exact F5, BL5⟩, by simp [intOf]; omega⟩
    · obtain rfl : k = n := by omega
      rw [List.take_of_length_le (by rw [HN.out]; exact Nat.le_refl _)] at HK HF
      obtain ⟨ak, ck, hkv⟩ := HK.out.form
      obtain ⟨af, cf, hfv⟩ := HF.out.form
      subst hkv
      subst hfv
      have LD := load_both HR5.out
      obtain ⟨W2', ST, hr, hg⟩ := store_both (u := ak) (n := (tKeep a a b).length) (c := ck) (v := af) (m := (tFree a b).length) (d := cf) HR4.out rfl
      have LD2 := load_both hr
      have K5 : Hid (PrO w.heap.size W2' (.slice ak (tKeep a a b).length ck) (tKeep a a b)) := ⟨HK.out.1.kept hg (.inr (row_ne HK.out.1 HR4.out (by decide))), HK.out.2⟩
      have F5 : Hid (InO w.heap.size W2' (.slice af (tFree a b).length cf) (tFree a b)) := World.ownsRow.kept HF.out hg (.inr (row_ne HF.out HR4.out (by decide)))
      have BL5 : Hid (Below w.heap.size w W2') := HB.out.grown hg HB.out.size (fun j e => by cases e; exact Nat.le_refl _)
      clear hr hg HK HF hlt
      go_wp2_with fail
      refine bodyPost_ret (results_cell rfl rfl LD2) rfl ?_
      exact ⟨_, _, rfl, K5.out, F5.out, BL5.out⟩
end Go.Proofs.Ytmhpjglmnfllfaa
