/- The document's Put. -/
import Derived.Test.YtmhpjglmnfllfaaTbRf1
namespace Go.Proofs.Ytmhpjglmnfllfaa
open Go.RowKit
set_option linter.unusedVariables false
set_option linter.unusedSimpArgs false
attribute [-simp] Try.isAgg52 Try.zeroValue52
attribute [-go_sem] loadVar storeVar
attribute [local go_sem] loadVar_openP storeVar_openP zero_prs build_prs0 build_prs

/-- A cut that is read alone. -/
theorem wpQuiet_slice_run {P : Program} {C : World → Prop} {ops : Array Oper} {rest : List Oper} {o : Oper} {a : Act} {Q : Act → Prop} (s : Operand) (t : TypeId) (lo hi : Option Operand)
    (ho : o.op = .slice t s lo hi none) (hw : Region.wanted o (yielded ops a.tmps) = true) (vs v' : Value) (l h : Option Value) (hs : a.eval s = vs) (hl : lo.map a.eval = l) (hh : hi.map a.eval = h)
    (hrun : ∀ x, C x → (Instr.sliceAt t vs l h none).run P x = .ok v' x) (hK : wpQuiet P ops C Q rest (a.put o.dst v')) : wpQuiet P ops C Q (o :: rest) a := by
  unfold wpQuiet
  rw [if_pos hw]
  refine ⟨v', fun x hx => ?_, hK⟩
  unfold Oper.quietAt
  simp [execOp, ho, hs, hl, hh, hrun x hx, Result.andThen]
  exact ⟨rfl, rfl⟩
theorem wpPlan_twoT {P : Program} {l : List Oper} {Q : Exit → Act → World → Prop} {S : World → Prop} {n i j : Nat} {p q : Plan} {a : Act} {w : World} : wpPlan P l Q S n (.two i j p q) a w = (wpList P l.toArray (planPost S Q (wpPlan P l Q S n p)) [nth l i] a w ∧ wpList P l.toArray (planPost S Q (wpPlan P l Q S n q)) [nth l j] a w) := rfl
theorem pr_setAt {N : Nat} {w : World} {g cap : Nat} {l : List (Int × Int)} {k : Nat} {x y z : Int} (h : PrO N w (.slice (some ⟨g, 0, none⟩) l.length cap) l) (hk : l[k]? = some (x, y)) (hz : Is64 z) :
    PrO N (w.setCell ⟨g, k * 2 + 1, none⟩ (.int .i64 z)) (.slice (some ⟨g, 0, none⟩) l.length cap) (l.set k (x, z)) ∧ w.grownBy (w.setCell ⟨g, k * 2 + 1, none⟩ (.int .i64 z)) (some g) := by
  have hlt := (List.getElem?_eq_some_iff.1 hk).1
  have hh := (h.1.stored (k * 2 + 1) (.int .i64 z)).1
  have e1 : (pcs l).set (k * 2 + 1) (.int .i64 z) = pcs (l.set k (x, z)) := by
    rw [← pcs_set (x, z) hlt]
    congr 1
    refine (List.ext_getElem? fun j => ?_)
    by_cases e : k * 2 = j
    · subst e
      rw [(pcs_get hk).1, List.getElem?_set_self (by rw [pcs_length]; omega)]
    · rw [List.getElem?_set_ne e]
  refine ⟨⟨?_, ?_⟩, grownBy_setCellJ w g _ _⟩
  · rw [e1] at hh
    rw [List.length_set]
    exact hh
  · intro q hq
    rcases List.mem_or_eq_of_mem_set hq with hq | rfl
    · exact h.2 q hq
    · exact ⟨(h.2 _ (List.mem_of_getElem? hk)).1, hz⟩

/-- An empty literal. -/
theorem lit_none (N : Nat) (x : World) (hN : N ≤ x.heap.size) : PrO N (x.alloc (.cells #[] 52)) (.slice (some ⟨x.heap.size, 0, none⟩) 0 0) [] := ⟨World.ownsRow_lit x #[] 0 hN (by simp [maxLen]) rfl, fun p hp => by cases hp⟩
theorem lit_one (N : Nat) (x : World) (hN : N ≤ x.heap.size) (b a : Int) (hb : Is64 b) (ha : Is64 a) : PrO N (x.alloc (.cells #[.int .i64 b, .int .i64 a] 52)) (.slice (some ⟨x.heap.size, 0, none⟩) 1 1) [(b, a)] := (PrO.one x (b, a) ⟨hb, ha⟩).weak hN

set_option maxRecDepth 100000 in
set_option maxHeartbeats 8000000 in
/-- The document's **Put**. -/
theorem rf_put {w : World} {v : Value} {l : List (Int × Int)} (h : Prt w v l) (b a : Int) (hb : Is64 b) (ha : Is64 a) (hlen : l.length ≤ 400000) :
    Calls Try.prog 62 #[v, .int .i64 b, .int .i64 a] w fun e w' => ∃ u, e = .returned u ∧ PrO w.heap.size w' u (tPut l b a) ∧ Below w.heap.size w w' := by
  have hmx : Try.prog.follows .mixedOrders = true := by kernel_rfl
  have HP := Lib.hid h
  obtain ⟨W0, hW0⟩ : ∃ W, w.alloc (.cells #[] 52) = W := ⟨_, rfl⟩
  have SB0 := slice_prs0 w
  have b0 := below_new w (.cells #[] 52)
  have s0 := lit_none w.heap.size w (Nat.le_refl _)
  rw [hW0] at SB0 b0 s0
  obtain ⟨u0, W1, hr0, hu0, g0, -⟩ := pr_append s0 (h.below b0) b0.size (by simp; omega)
  rw [List.nil_append] at hu0
  have HB : Hid (Below w.heap.size w W1) := b0.grown g0 b0.size (fun j e => (s0.base j e).1)
  have HU := Lib.hid hu0
  have HA := Lib.hid hr0
  have HC := Lib.hid (rf_find (h.below HB.out) b (by omega))
  obtain ⟨pa, ca, rfl, hc1, hc2, -⟩ := h
  obtain ⟨n, hn⟩ : ∃ n, l.length = n := ⟨_, rfl⟩
  have HN := Lib.hid hn
  rw [hn] at hlen hc1 HP HA HC ⊢
  have h63 : ca ≤ 9223372036854775807 := by unfold maxLen at hc2; omega
  clear hr0 hu0 g0 b0 s0 hW0 hc2 hn
  go_enter Try.func62, Try.ntmps62
  go_wp2_with (first | (refine gate_build ?_; refine wpList_build_run 47 0 #[] rfl rfl [] _ rfl SB0 ?_) | (at_builtin; refine wpList_append_run (.tmp 10) (.tmp 11) 47 rfl rfl _ _ _ rfl rfl (HA.out _) ?_))
  clear SB0 HA
  go_at_call 33
  refine HC.out.mono ?_
  rintro e x ⟨rfl, hx⟩
  obtain rfl := hx.symm
  clear HC
  cases hf : tFind l b with
  | some i =>
    have e1 : tIx l b = i := by unfold tIx; rw [hf]
    have e2 : tPut l b a = l.set i (b, a) := by unfold tPut; rw [hf]
    obtain ⟨⟨p, hp, hpb⟩, -⟩ := tFind_some.1 hf
    obtain ⟨x0, y0⟩ := p
    simp only at hpb
    subst hpb
    have hi := tFind_lt hf
    have hin : (i : Int) < (n : Int) := by rw [HN.out] at hi; omega
    obtain ⟨g, cap, cur, hgv, -⟩ : ∃ g cap cur, u0 = .slice (some ⟨g, 0, none⟩) l.length cap ∧ W1.heap[g]? = some (.cells cur 52 (0, 0)) := by
      rcases HU.out.1.2 with ⟨_, h0⟩ | ⟨g, cap, cur, e, _, hg, -⟩
      · omega
      · exact ⟨g, cap, cur, e, hg⟩
    subst hgv
    obtain ⟨hS, hG⟩ := pr_setAt HU.out hp ha
    obtain ⟨W2, hW2⟩ : ∃ W2, W1.setCell ⟨g, i * 2 + 1, none⟩ (.int .i64 a) = W2 := ⟨_, rfl⟩
    rw [hW2] at hS hG
    have HO : Hid (PrO w.heap.size W2 (.slice (some ⟨g, 0, none⟩) l.length cap) (tPut l x0 a)) := by
      show PrO _ _ _ _
      rw [e2]
      have hh := hS
      exact hh
    have HB2 : Hid (Below w.heap.size w W2) := HB.out.grown hG HB.out.size (fun j e => by cases e; exact (HU.out.base g rfl).1)
    have c1 : (W1.cell? ⟨g, i * 2 + 1, none⟩).isSome = true := by
      have := HU.out.1.cells (g := g) rfl _ _ (pcs_get hp).2
      rw [Addr.add_mid, Nat.zero_add] at this
      rw [this]; rfl
    have c2 : W1.frozen? ⟨g, i * 2 + 1, none⟩ = false := by
      rcases HU.out.1.2 with ⟨e, _⟩ | ⟨g', cap', cur, e, _, hg, -⟩
      · cases e
      · cases e
        simp [World.frozen?, hg]
    obtain ⟨cv, hcv⟩ := Option.isSome_iff_exists.1 c1
    have g2 : (0 : Int) ≤ (i : Int) := by omega
    rw [e1]
    rw [HN.out] at HO ⊢
    clear hS hG c1 e1 e2 hf hp hi HB
    go_wp2_with fail
    go_ret
    exact ⟨_, rfl, HO.out, HB2.out⟩
  | none =>
    have e1 : tIx l b = -1 := by unfold tIx; rw [hf]
    obtain ⟨kk, hkk⟩ : ∃ kk, tGt l b = kk := ⟨_, rfl⟩
    have HTP : Hid (tPut l b a = tIns l kk (b, a)) := by show _ = _; unfold tPut; rw [hf, hkk]
    have HKK := Lib.hid hkk
    have HKN : Hid (kk ≤ n) := by show _ ≤ _; rw [← hkk, ← HN.out]; exact tGt_le l b
    rw [e1]
    clear hf e1 hkk HU
    go_wp2_with fail
    go_loopw [9] (fun iv wr => ∃ k : Nat, k ≤ kk ∧ iv = .int .i64 (k : Int) ∧ wr = W1) (fun iv _ => n - (intOf iv).toNat)
    case atStart => exact ⟨0, Nat.zero_le _, rfl, rfl⟩
    case round =>
      obtain ⟨k, hk, rfl, hwr⟩ := hrel
      subst hwr
      have hkn := HKN.out
      by_cases hgo : k < kk
      · obtain ⟨p, hp⟩ : ∃ p, l[k]? = some p := ⟨_, List.getElem?_eq_getElem (by rw [HN.out]; omega)⟩
        obtain ⟨bb, off, rfl, hbb, c1, c2⟩ := (HP.out.below HB.out).at hp
        obtain ⟨x0, y0⟩ := p
        simp only at c1 c2
        have hle : x0 ≤ b := tGt_lt hp (by rw [HKK.out]; exact hgo)
        have q1 : decide ((k : Int) < (n : Int)) = true := by simp; omega
        have q2 : decide (x0 ≤ b) = true := by simpa using hle
        have g1 : (k : Int) < (n : Int) := by omega
        have HW : Hid (wrap64 ((k : Int) + 1) = (k : Int) + 1) := IntWalk.wrap64_in _ (by omega)
        have HGO := Lib.hid hgo
        clear hp hbb c2 hgo hkn
        go_wp2_with fail
        exact ⟨⟨k + 1, HGO.out, by simp, trivial⟩, by have := HGO.out; have := HKN.out; simp [intOf]; omega⟩
      · obtain rfl : k = kk := by omega
        have hv0 := HP.out.below HB.out
        obtain ⟨r1, v1⟩ := pr_hi hv0 hkn
        obtain ⟨ra, r3, v3⟩ := pr_lo hv0 hkn
        have HR1 := Lib.hid r1
        have HR3 := Lib.hid r3
        obtain ⟨W, hW⟩ : ∃ W, wr.drew = W := ⟨_, rfl⟩
        have hwW : Below w.heap.size w W := by rw [← hW]; exact HB.out.drew
        have HV1 := Lib.hid (v1 W (HP.out.below hwW))
        have HV3 := Lib.hid (v3 W (HP.out.below hwW))
        have KW : Hid (Below W.heap.size W W) := Below.refl _ _
        have HBW := Lib.hid hwW
        clear r1 v1 r3 v3 hv0 hgo hk HB
        have HB := HBW
        clear HBW hwW
        by_cases hlt : k < n
        · obtain ⟨p, hp⟩ : ∃ p, l[k]? = some p := ⟨_, List.getElem?_eq_getElem (by rw [HN.out]; omega)⟩
          obtain ⟨bb, off, hpa, hbb, c1, c2⟩ := (HP.out.below HB.out).at hp
          subst hpa
          obtain ⟨x0, y0⟩ := p
          simp only at c1 c2
          have c3 : wr.cell? ⟨bb, off + k * 2, none⟩ = some (.int .i64 x0) := by rw [← hW] at c1; exact c1
          have hgt : ¬ (x0 ≤ b) := by have := tGt_at (l := l) (b := b) (p := (x0, y0)) (by rw [HKK.out]; exact hp); simp only at this; omega
          have q1 : decide ((k : Int) < (n : Int)) = true := by simp; omega
          have q2 : decide (x0 ≤ b) = false := by simpa using hgt
          have g1 : (k : Int) < (n : Int) := by omega
          clear hp hbb c1 c2 hgt hlt
          go_wp2_with fail
          skip
          have HWE := Lib.hid hW
          refine region_plan (fun x => ∃ y : Ext W, x = y.1) 13 (.takes [1,2,3,5,6,7,10,11,12] (.two 0 8 (.two 4 8 (.one 8 (.one 9 .leaf)) (.one 4 (.one 9 .leaf))) (.one 0 (.one 4 (.one 9 .leaf))))) hmx (by kernel_rfl) (by intro c x v a w h; cases x <;> exact h) ⟨⟨W, KW.out⟩, hW⟩ ?_
          rw [hW]
          clear hW HWE
          rw [wpPlan_takes_cons]; simp only [nth_zero, nth_succ]; go_big_quiet_step (fail); refine wpQuiet_nil ?_
          rw [wpPlan_takes_cons]; simp only [nth_zero, nth_succ]; go_big_quiet_step (fail); refine wpQuiet_nil ?_
          rw [wpPlan_takes_cons]; simp only [nth_zero, nth_succ]; refine wpQuiet_slice_run (.tmp 40) 47 none (some (.tmp 41)) rfl rfl _ _ _ _ rfl rfl rfl (fun x _ => HR1.out x) ?_; refine wpQuiet_nil ?_; simp only [Act.put, List.setIfInBounds_toArray, List.set_cons_succ, List.set_cons_zero]
          rw [wpPlan_takes_cons]; simp only [nth_zero, nth_succ]; go_big_quiet_step (fail); refine wpQuiet_nil ?_
          rw [wpPlan_takes_cons]; simp only [nth_zero, nth_succ]; go_big_quiet_step (fail); refine wpQuiet_nil ?_
          rw [wpPlan_takes_cons]; simp only [nth_zero, nth_succ]; go_big_quiet_step (fail); refine wpQuiet_nil ?_
          rw [wpPlan_takes_cons]; simp only [nth_zero, nth_succ]; go_big_quiet_step (fail); refine wpQuiet_nil ?_
          rw [wpPlan_takes_cons]; simp only [nth_zero, nth_succ]; go_big_quiet_step (fail); refine wpQuiet_nil ?_
          rw [wpPlan_takes_cons]; simp only [nth_zero, nth_succ]; refine wpQuiet_slice_run (.tmp 49) 47 (some (.tmp 50)) none rfl rfl _ _ _ _ rfl rfl rfl (fun x _ => HR3.out x) ?_; refine wpQuiet_nil ?_; simp only [Act.put, List.setIfInBounds_toArray, List.set_cons_succ, List.set_cons_zero]
          rw [wpPlan_takes_nil, wpPlan_twoT]
          refine ⟨?_, ?_⟩
          · simp only [nth_zero, nth_succ]
            obtain ⟨X1, hX1⟩ : ∃ X, W.alloc (.cells #[] 52) = X := ⟨_, rfl⟩
            have SBX1 := slice_prs0 W
            have bX1 := below_new W (.cells #[] 52)
            have sX1 := lit_none W.heap.size W KW.out.size
            rw [hX1] at SBX1 bX1 sX1
            have KX1 : Hid (Below W.heap.size W X1) := KW.out.trans (bX1.mono KW.out.size)
            have SX1 := Lib.hid sX1
            clear hX1 bX1 sX1
            go_wp2_with (refine gate_build ?_; refine wpList_build_run 47 0 #[] rfl rfl [] _ rfl SBX1 ?_)
            refine planPost_mk ⟨⟨X1, KX1.out⟩, rfl⟩ ?_
            clear SBX1
            rw [wpPlan_twoT]
            refine ⟨?_, ?_⟩
            · simp only [nth_zero, nth_succ]
              obtain ⟨uX2, X2, hrX2, u1X2, gX2, -⟩ := pr_append SX1.out (HV1.out.below KX1.out) KX1.out.size (by have := HN.out; simp; omega)
              rw [List.nil_append] at u1X2
              have KX2 : Hid (Below W.heap.size W X2) := KX1.out.grown gX2 KX1.out.size (fun j e => (SX1.out.base j e).1)
              have UX2 := Lib.hid u1X2
              have HAX2 := Lib.hid hrX2
              clear hrX2 u1X2 gX2
              go_wp2_with (at_builtin; refine wpList_append_run (.tmp 39) (.tmp 42) 47 rfl rfl _ _ _ rfl rfl (HAX2.out _) ?_)
              refine planPost_mk ⟨⟨X2, KX2.out⟩, rfl⟩ ?_
              clear HAX2
              rw [wpPlan_one]
              simp only [nth_zero, nth_succ]
              obtain ⟨X3, hX3⟩ : ∃ X, X2.alloc (.cells #[.int .i64 b, .int .i64 a] 52) = X := ⟨_, rfl⟩
              have SBX3 := slice_prs X2 b a
              have bX3 := below_new X2 (.cells #[.int .i64 b, .int .i64 a] 52)
              have qX3 := lit_one W.heap.size X2 KX2.out.size b a hb ha
              rw [hX3] at SBX3 bX3 qX3
              have KX3 : Hid (Below W.heap.size W X3) := KX2.out.trans (bX3.mono KX2.out.size)
              have QX3 := Lib.hid qX3
              have UX3 := Lib.hid (UX2.out.below bX3)
              clear hX3 bX3 qX3
              go_wp2_with (refine gate_build ?_; refine wpList_build_run 47 1 #[(0, .tmp 46)] rfl rfl [(0, .agg #[.int .i64 b, .int .i64 a])] _ rfl SBX3 ?_)
              refine planPost_mk ⟨⟨X3, KX3.out⟩, rfl⟩ ?_
              clear SBX3
              rw [wpPlan_one]
              simp only [nth_zero, nth_succ]
              obtain ⟨uX4, X4, hrX4, u1X4, gX4, -⟩ := pr_append UX3.out QX3.out.prt KX3.out.size (by have := HN.out; simp; omega)
              have KX4 : Hid (Below W.heap.size W X4) := KX3.out.grown gX4 KX3.out.size (fun j e => (UX3.out.base j e).1)
              have HAX4 := Lib.hid hrX4
              obtain ⟨uX4z, X4z, hrX4z, u1X4z, gX4z, -⟩ := pr_append u1X4 (HV3.out.below KX4.out) KX4.out.size (by have := HN.out; simp; omega)
              have KX4z : Hid (Below W.heap.size W X4z) := KX4.out.grown gX4z KX4.out.size (fun j e => (u1X4.base j e).1)
              have HAX4z := Lib.hid hrX4z
              have HO : Hid (PrO w.heap.size X4z uX4z (tPut l b a)) := by
                show PrO _ _ _ _
                rw [HTP.out, show tIns l k (b, a) = l.take k ++ [(b, a)] ++ l.drop k by unfold tIns; simp]
                exact u1X4z.weak HB.out.size
              have HBZ : Hid (Below w.heap.size w X4z) := HB.out.trans (KX4z.out.mono HB.out.size)
              clear hrX4 u1X4 gX4 hrX4z u1X4z gX4z
              go_wp2_with (at_builtin; refine wpList_append_run (.tmp 43) (.tmp 47) 47 rfl rfl _ _ _ rfl rfl (HAX4.out _) ?_)
              refine planPost_mk ⟨⟨X4, KX4.out⟩, rfl⟩ ?_
              clear HAX4
              rw [wpPlan_leaf]
              simp only [List.drop_succ_cons, List.drop_zero]
              go_wp2_with (at_builtin; refine wpList_append_run (.tmp 48) (.tmp 51) 47 rfl rfl _ _ _ rfl rfl (HAX4z.out _) ?_)
              go_ret
              exact ⟨_, rfl, HO.out, HBZ.out⟩
            · simp only [nth_zero, nth_succ]
              obtain ⟨X2, hX2⟩ : ∃ X, X1.alloc (.cells #[.int .i64 b, .int .i64 a] 52) = X := ⟨_, rfl⟩
              have SBX2 := slice_prs X1 b a
              have bX2 := below_new X1 (.cells #[.int .i64 b, .int .i64 a] 52)
              have qX2 := lit_one W.heap.size X1 KX1.out.size b a hb ha
              rw [hX2] at SBX2 bX2 qX2
              have KX2 : Hid (Below W.heap.size W X2) := KX1.out.trans (bX2.mono KX1.out.size)
              have QX2 := Lib.hid qX2
              have SX2 := Lib.hid (SX1.out.below bX2)
              have NEX2 : Hid ((Value.slice (some ⟨X1.heap.size, 0, none⟩) 1 1).ownBlock ≠ (Value.slice (some ⟨W.heap.size, 0, none⟩) 0 0).ownBlock) := fun e => by have := (SX1.out.base W.heap.size rfl).2; simp [Value.ownBlock] at e; omega
              clear hX2 bX2 qX2
              go_wp2_with (refine gate_build ?_; refine wpList_build_run 47 1 #[(0, .tmp 46)] rfl rfl [(0, .agg #[.int .i64 b, .int .i64 a])] _ rfl SBX2 ?_)
              refine planPost_mk ⟨⟨X2, KX2.out⟩, rfl⟩ ?_
              clear SBX2
              rw [wpPlan_one]
              simp only [nth_zero, nth_succ]
              obtain ⟨uX3, X3, hrX3, u1X3, gX3, -⟩ := pr_append SX2.out (HV1.out.below KX2.out) KX2.out.size (by have := HN.out; simp; omega)
              rw [List.nil_append] at u1X3
              have KX3 : Hid (Below W.heap.size W X3) := KX2.out.grown gX3 KX2.out.size (fun j e => (SX2.out.base j e).1)
              have UX3 := Lib.hid u1X3
              have QX3 := Lib.hid (QX2.out.grownT gX3 (.inr NEX2.out))
              have HAX3 := Lib.hid hrX3
              clear hrX3 u1X3 gX3
              go_wp2_with (at_builtin; refine wpList_append_run (.tmp 39) (.tmp 42) 47 rfl rfl _ _ _ rfl rfl (HAX3.out _) ?_)
              refine planPost_mk ⟨⟨X3, KX3.out⟩, rfl⟩ ?_
              clear HAX3
              rw [wpPlan_one]
              simp only [nth_zero, nth_succ]
              obtain ⟨uX4, X4, hrX4, u1X4, gX4, -⟩ := pr_append UX3.out QX3.out.prt KX3.out.size (by have := HN.out; simp; omega)
              have KX4 : Hid (Below W.heap.size W X4) := KX3.out.grown gX4 KX3.out.size (fun j e => (UX3.out.base j e).1)
              have HAX4 := Lib.hid hrX4
              obtain ⟨uX4z, X4z, hrX4z, u1X4z, gX4z, -⟩ := pr_append u1X4 (HV3.out.below KX4.out) KX4.out.size (by have := HN.out; simp; omega)
              have KX4z : Hid (Below W.heap.size W X4z) := KX4.out.grown gX4z KX4.out.size (fun j e => (u1X4.base j e).1)
              have HAX4z := Lib.hid hrX4z
              have HO : Hid (PrO w.heap.size X4z uX4z (tPut l b a)) := by
                show PrO _ _ _ _
                rw [HTP.out, show tIns l k (b, a) = l.take k ++ [(b, a)] ++ l.drop k by unfold tIns; simp]
                exact u1X4z.weak HB.out.size
              have HBZ : Hid (Below w.heap.size w X4z) := HB.out.trans (KX4z.out.mono HB.out.size)
              clear hrX4 u1X4 gX4 hrX4z u1X4z gX4z
              go_wp2_with (at_builtin; refine wpList_append_run (.tmp 43) (.tmp 47) 47 rfl rfl _ _ _ rfl rfl (HAX4.out _) ?_)
              refine planPost_mk ⟨⟨X4, KX4.out⟩, rfl⟩ ?_
              clear HAX4
              rw [wpPlan_leaf]
              simp only [List.drop_succ_cons, List.drop_zero]
              go_wp2_with (at_builtin; refine wpList_append_run (.tmp 48) (.tmp 51) 47 rfl rfl _ _ _ rfl rfl (HAX4z.out _) ?_)
              go_ret
              exact ⟨_, rfl, HO.out, HBZ.out⟩
          · simp only [nth_zero, nth_succ]
            obtain ⟨X1, hX1⟩ : ∃ X, W.alloc (.cells #[.int .i64 b, .int .i64 a] 52) = X := ⟨_, rfl⟩
            have SBX1 := slice_prs W b a
            have bX1 := below_new W (.cells #[.int .i64 b, .int .i64 a] 52)
            have qX1 := lit_one W.heap.size W KW.out.size b a hb ha
            rw [hX1] at SBX1 bX1 qX1
            have KX1 : Hid (Below W.heap.size W X1) := KW.out.trans (bX1.mono KW.out.size)
            have QX1 := Lib.hid qX1
            clear hX1 bX1 qX1
            go_wp2_with (refine gate_build ?_; refine wpList_build_run 47 1 #[(0, .tmp 46)] rfl rfl [(0, .agg #[.int .i64 b, .int .i64 a])] _ rfl SBX1 ?_)
            refine planPost_mk ⟨⟨X1, KX1.out⟩, rfl⟩ ?_
            clear SBX1
            rw [wpPlan_one]
            simp only [nth_zero, nth_succ]
            obtain ⟨X2, hX2⟩ : ∃ X, X1.alloc (.cells #[] 52) = X := ⟨_, rfl⟩
            have SBX2 := slice_prs0 X1
            have bX2 := below_new X1 (.cells #[] 52)
            have sX2 := lit_none W.heap.size X1 KX1.out.size
            rw [hX2] at SBX2 bX2 sX2
            have KX2 : Hid (Below W.heap.size W X2) := KX1.out.trans (bX2.mono KX1.out.size)
            have SX2 := Lib.hid sX2
            have QX2 := Lib.hid (QX1.out.below bX2)
            have NEX2 : Hid ((Value.slice (some ⟨W.heap.size, 0, none⟩) 1 1).ownBlock ≠ (Value.slice (some ⟨X1.heap.size, 0, none⟩) 0 0).ownBlock) := fun e => by have := (QX1.out.base W.heap.size rfl).2; simp [Value.ownBlock] at e; omega
            clear hX2 bX2 sX2
            go_wp2_with (refine gate_build ?_; refine wpList_build_run 47 0 #[] rfl rfl [] _ rfl SBX2 ?_)
            refine planPost_mk ⟨⟨X2, KX2.out⟩, rfl⟩ ?_
            clear SBX2
            rw [wpPlan_one]
            simp only [nth_zero, nth_succ]
            obtain ⟨uX3, X3, hrX3, u1X3, gX3, -⟩ := pr_append SX2.out (HV1.out.below KX2.out) KX2.out.size (by have := HN.out; simp; omega)
            rw [List.nil_append] at u1X3
            have KX3 : Hid (Below W.heap.size W X3) := KX2.out.grown gX3 KX2.out.size (fun j e => (SX2.out.base j e).1)
            have UX3 := Lib.hid u1X3
            have QX3 := Lib.hid (QX2.out.grownT gX3 (.inr NEX2.out))
            have HAX3 := Lib.hid hrX3
            clear hrX3 u1X3 gX3
            go_wp2_with (at_builtin; refine wpList_append_run (.tmp 39) (.tmp 42) 47 rfl rfl _ _ _ rfl rfl (HAX3.out _) ?_)
            refine planPost_mk ⟨⟨X3, KX3.out⟩, rfl⟩ ?_
            clear HAX3
            rw [wpPlan_one]
            simp only [nth_zero, nth_succ]
            obtain ⟨uX4, X4, hrX4, u1X4, gX4, -⟩ := pr_append UX3.out QX3.out.prt KX3.out.size (by have := HN.out; simp; omega)
            have KX4 : Hid (Below W.heap.size W X4) := KX3.out.grown gX4 KX3.out.size (fun j e => (UX3.out.base j e).1)
            have HAX4 := Lib.hid hrX4
            obtain ⟨uX4z, X4z, hrX4z, u1X4z, gX4z, -⟩ := pr_append u1X4 (HV3.out.below KX4.out) KX4.out.size (by have := HN.out; simp; omega)
            have KX4z : Hid (Below W.heap.size W X4z) := KX4.out.grown gX4z KX4.out.size (fun j e => (u1X4.base j e).1)
            have HAX4z := Lib.hid hrX4z
            have HO : Hid (PrO w.heap.size X4z uX4z (tPut l b a)) := by
              show PrO _ _ _ _
              rw [HTP.out, show tIns l k (b, a) = l.take k ++ [(b, a)] ++ l.drop k by unfold tIns; simp]
              exact u1X4z.weak HB.out.size
            have HBZ : Hid (Below w.heap.size w X4z) := HB.out.trans (KX4z.out.mono HB.out.size)
            clear hrX4 u1X4 gX4 hrX4z u1X4z gX4z
            go_wp2_with (at_builtin; refine wpList_append_run (.tmp 43) (.tmp 47) 47 rfl rfl _ _ _ rfl rfl (HAX4.out _) ?_)
            refine planPost_mk ⟨⟨X4, KX4.out⟩, rfl⟩ ?_
            clear HAX4
            rw [wpPlan_leaf]
            simp only [List.drop_succ_cons, List.drop_zero]
            go_wp2_with (at_builtin; refine wpList_append_run (.tmp 48) (.tmp 51) 47 rfl rfl _ _ _ rfl rfl (HAX4z.out _) ?_)
            go_ret
            exact ⟨_, rfl, HO.out, HBZ.out⟩
        · have e : k = n := by omega
          subst e
          clear hlt
          simp only [Nat.sub_self] at HR3 HV3
          go_wp2_with fail
          skip
          have HWE := Lib.hid hW
          refine region_plan (fun x => ∃ y : Ext W, x = y.1) 13 (.takes [1,2,3,5,6,7,10,11,12] (.two 0 8 (.two 4 8 (.one 8 (.one 9 .leaf)) (.one 4 (.one 9 .leaf))) (.one 0 (.one 4 (.one 9 .leaf))))) hmx (by kernel_rfl) (by intro c x v a w h; cases x <;> exact h) ⟨⟨W, KW.out⟩, hW⟩ ?_
          rw [hW]
          clear hW HWE
          rw [wpPlan_takes_cons]; simp only [nth_zero, nth_succ]; go_big_quiet_step (fail); refine wpQuiet_nil ?_
          rw [wpPlan_takes_cons]; simp only [nth_zero, nth_succ]; go_big_quiet_step (fail); refine wpQuiet_nil ?_
          rw [wpPlan_takes_cons]; simp only [nth_zero, nth_succ]; refine wpQuiet_slice_run (.tmp 40) 47 none (some (.tmp 41)) rfl rfl _ _ _ _ rfl rfl rfl (fun x _ => HR1.out x) ?_; refine wpQuiet_nil ?_; simp only [Act.put, List.setIfInBounds_toArray, List.set_cons_succ, List.set_cons_zero]
          rw [wpPlan_takes_cons]; simp only [nth_zero, nth_succ]; go_big_quiet_step (fail); refine wpQuiet_nil ?_
          rw [wpPlan_takes_cons]; simp only [nth_zero, nth_succ]; go_big_quiet_step (fail); refine wpQuiet_nil ?_
          rw [wpPlan_takes_cons]; simp only [nth_zero, nth_succ]; go_big_quiet_step (fail); refine wpQuiet_nil ?_
          rw [wpPlan_takes_cons]; simp only [nth_zero, nth_succ]; go_big_quiet_step (fail); refine wpQuiet_nil ?_
          rw [wpPlan_takes_cons]; simp only [nth_zero, nth_succ]; go_big_quiet_step (fail); refine wpQuiet_nil ?_
          rw [wpPlan_takes_cons]; simp only [nth_zero, nth_succ]; refine wpQuiet_slice_run (.tmp 49) 47 (some (.tmp 50)) none rfl rfl _ _ _ _ rfl rfl rfl (fun x _ => HR3.out x) ?_; refine wpQuiet_nil ?_; simp only [Act.put, List.setIfInBounds_toArray, List.set_cons_succ, List.set_cons_zero]
          rw [wpPlan_takes_nil, wpPlan_twoT]
          refine ⟨?_, ?_⟩
          · simp only [nth_zero, nth_succ]
            obtain ⟨X1, hX1⟩ : ∃ X, W.alloc (.cells #[] 52) = X := ⟨_, rfl⟩
            have SBX1 := slice_prs0 W
            have bX1 := below_new W (.cells #[] 52)
            have sX1 := lit_none W.heap.size W KW.out.size
            rw [hX1] at SBX1 bX1 sX1
            have KX1 : Hid (Below W.heap.size W X1) := KW.out.trans (bX1.mono KW.out.size)
            have SX1 := Lib.hid sX1
            clear hX1 bX1 sX1
            go_wp2_with (refine gate_build ?_; refine wpList_build_run 47 0 #[] rfl rfl [] _ rfl SBX1 ?_)
            refine planPost_mk ⟨⟨X1, KX1.out⟩, rfl⟩ ?_
            clear SBX1
            rw [wpPlan_twoT]
            refine ⟨?_, ?_⟩
            · simp only [nth_zero, nth_succ]
              obtain ⟨uX2, X2, hrX2, u1X2, gX2, -⟩ := pr_append SX1.out (HV1.out.below KX1.out) KX1.out.size (by have := HN.out; simp; omega)
              rw [List.nil_append] at u1X2
              have KX2 : Hid (Below W.heap.size W X2) := KX1.out.grown gX2 KX1.out.size (fun j e => (SX1.out.base j e).1)
              have UX2 := Lib.hid u1X2
              have HAX2 := Lib.hid hrX2
              clear hrX2 u1X2 gX2
              go_wp2_with (at_builtin; refine wpList_append_run (.tmp 39) (.tmp 42) 47 rfl rfl _ _ _ rfl rfl (HAX2.out _) ?_)
              refine planPost_mk ⟨⟨X2, KX2.out⟩, rfl⟩ ?_
              clear HAX2
              rw [wpPlan_one]
              simp only [nth_zero, nth_succ]
              obtain ⟨X3, hX3⟩ : ∃ X, X2.alloc (.cells #[.int .i64 b, .int .i64 a] 52) = X := ⟨_, rfl⟩
              have SBX3 := slice_prs X2 b a
              have bX3 := below_new X2 (.cells #[.int .i64 b, .int .i64 a] 52)
              have qX3 := lit_one W.heap.size X2 KX2.out.size b a hb ha
              rw [hX3] at SBX3 bX3 qX3
              have KX3 : Hid (Below W.heap.size W X3) := KX2.out.trans (bX3.mono KX2.out.size)
              have QX3 := Lib.hid qX3
              have UX3 := Lib.hid (UX2.out.below bX3)
              clear hX3 bX3 qX3
              go_wp2_with (refine gate_build ?_; refine wpList_build_run 47 1 #[(0, .tmp 46)] rfl rfl [(0, .agg #[.int .i64 b, .int .i64 a])] _ rfl SBX3 ?_)
              refine planPost_mk ⟨⟨X3, KX3.out⟩, rfl⟩ ?_
              clear SBX3
              rw [wpPlan_one]
              simp only [nth_zero, nth_succ]
              obtain ⟨uX4, X4, hrX4, u1X4, gX4, -⟩ := pr_append UX3.out QX3.out.prt KX3.out.size (by have := HN.out; simp; omega)
              have KX4 : Hid (Below W.heap.size W X4) := KX3.out.grown gX4 KX3.out.size (fun j e => (UX3.out.base j e).1)
              have HAX4 := Lib.hid hrX4
              obtain ⟨uX4z, X4z, hrX4z, u1X4z, gX4z, -⟩ := pr_append u1X4 (HV3.out.below KX4.out) KX4.out.size (by have := HN.out; simp; omega)
              have KX4z : Hid (Below W.heap.size W X4z) := KX4.out.grown gX4z KX4.out.size (fun j e => (u1X4.base j e).1)
              have HAX4z := Lib.hid hrX4z
              have HO : Hid (PrO w.heap.size X4z uX4z (tPut l b a)) := by
                show PrO _ _ _ _
                rw [HTP.out, show tIns l k (b, a) = l.take k ++ [(b, a)] ++ l.drop k by unfold tIns; simp]
                exact u1X4z.weak HB.out.size
              have HBZ : Hid (Below w.heap.size w X4z) := HB.out.trans (KX4z.out.mono HB.out.size)
              clear hrX4 u1X4 gX4 hrX4z u1X4z gX4z
              go_wp2_with (at_builtin; refine wpList_append_run (.tmp 43) (.tmp 47) 47 rfl rfl _ _ _ rfl rfl (HAX4.out _) ?_)
              refine planPost_mk ⟨⟨X4, KX4.out⟩, rfl⟩ ?_
              clear HAX4
              rw [wpPlan_leaf]
              simp only [List.drop_succ_cons, List.drop_zero]
              go_wp2_with (at_builtin; refine wpList_append_run (.tmp 48) (.tmp 51) 47 rfl rfl _ _ _ rfl rfl (HAX4z.out _) ?_)
              go_ret
              exact ⟨_, rfl, HO.out, HBZ.out⟩
            · simp only [nth_zero, nth_succ]
              obtain ⟨X2, hX2⟩ : ∃ X, X1.alloc (.cells #[.int .i64 b, .int .i64 a] 52) = X := ⟨_, rfl⟩
              have SBX2 := slice_prs X1 b a
              have bX2 := below_new X1 (.cells #[.int .i64 b, .int .i64 a] 52)
              have qX2 := lit_one W.heap.size X1 KX1.out.size b a hb ha
              rw [hX2] at SBX2 bX2 qX2
              have KX2 : Hid (Below W.heap.size W X2) := KX1.out.trans (bX2.mono KX1.out.size)
              have QX2 := Lib.hid qX2
              have SX2 := Lib.hid (SX1.out.below bX2)
              have NEX2 : Hid ((Value.slice (some ⟨X1.heap.size, 0, none⟩) 1 1).ownBlock ≠ (Value.slice (some ⟨W.heap.size, 0, none⟩) 0 0).ownBlock) := fun e => by have := (SX1.out.base W.heap.size rfl).2; simp [Value.ownBlock] at e; omega
              clear hX2 bX2 qX2
              go_wp2_with (refine gate_build ?_; refine wpList_build_run 47 1 #[(0, .tmp 46)] rfl rfl [(0, .agg #[.int .i64 b, .int .i64 a])] _ rfl SBX2 ?_)
              refine planPost_mk ⟨⟨X2, KX2.out⟩, rfl⟩ ?_
              clear SBX2
              rw [wpPlan_one]
              simp only [nth_zero, nth_succ]
              obtain ⟨uX3, X3, hrX3, u1X3, gX3, -⟩ := pr_append SX2.out (HV1.out.below KX2.out) KX2.out.size (by have := HN.out; simp; omega)
              rw [List.nil_append] at u1X3
              have KX3 : Hid (Below W.heap.size W X3) := KX2.out.grown gX3 KX2.out.size (fun j e => (SX2.out.base j e).1)
              have UX3 := Lib.hid u1X3
              have QX3 := Lib.hid (QX2.out.grownT gX3 (.inr NEX2.out))
              have HAX3 := Lib.hid hrX3
              clear hrX3 u1X3 gX3
              go_wp2_with (at_builtin; refine wpList_append_run (.tmp 39) (.tmp 42) 47 rfl rfl _ _ _ rfl rfl (HAX3.out _) ?_)
              refine planPost_mk ⟨⟨X3, KX3.out⟩, rfl⟩ ?_
              clear HAX3
              rw [wpPlan_one]
              simp only [nth_zero, nth_succ]
              obtain ⟨uX4, X4, hrX4, u1X4, gX4, -⟩ := pr_append UX3.out QX3.out.prt KX3.out.size (by have := HN.out; simp; omega)
              have KX4 : Hid (Below W.heap.size W X4) := KX3.out.grown gX4 KX3.out.size (fun j e => (UX3.out.base j e).1)
              have HAX4 := Lib.hid hrX4
              obtain ⟨uX4z, X4z, hrX4z, u1X4z, gX4z, -⟩ := pr_append u1X4 (HV3.out.below KX4.out) KX4.out.size (by have := HN.out; simp; omega)
              have KX4z : Hid (Below W.heap.size W X4z) := KX4.out.grown gX4z KX4.out.size (fun j e => (u1X4.base j e).1)
              have HAX4z := Lib.hid hrX4z
              have HO : Hid (PrO w.heap.size X4z uX4z (tPut l b a)) := by
                show PrO _ _ _ _
                rw [HTP.out, show tIns l k (b, a) = l.take k ++ [(b, a)] ++ l.drop k by unfold tIns; simp]
                exact u1X4z.weak HB.out.size
              have HBZ : Hid (Below w.heap.size w X4z) := HB.out.trans (KX4z.out.mono HB.out.size)
              clear hrX4 u1X4 gX4 hrX4z u1X4z gX4z
              go_wp2_with (at_builtin; refine wpList_append_run (.tmp 43) (.tmp 47) 47 rfl rfl _ _ _ rfl rfl (HAX4.out _) ?_)
              refine planPost_mk ⟨⟨X4, KX4.out⟩, rfl⟩ ?_
              clear HAX4
              rw [wpPlan_leaf]
              simp only [List.drop_succ_cons, List.drop_zero]
              go_wp2_with (at_builtin; refine wpList_append_run (.tmp 48) (.tmp 51) 47 rfl rfl _ _ _ rfl rfl (HAX4z.out _) ?_)
              go_ret
              exact ⟨_, rfl, HO.out, HBZ.out⟩
          · simp only [nth_zero, nth_succ]
            obtain ⟨X1, hX1⟩ : ∃ X, W.alloc (.cells #[.int .i64 b, .int .i64 a] 52) = X := ⟨_, rfl⟩
            have SBX1 := slice_prs W b a
            have bX1 := below_new W (.cells #[.int .i64 b, .int .i64 a] 52)
            have qX1 := lit_one W.heap.size W KW.out.size b a hb ha
            rw [hX1] at SBX1 bX1 qX1
            have KX1 : Hid (Below W.heap.size W X1) := KW.out.trans (bX1.mono KW.out.size)
            have QX1 := Lib.hid qX1
            clear hX1 bX1 qX1
            go_wp2_with (refine gate_build ?_; refine wpList_build_run 47 1 #[(0, .tmp 46)] rfl rfl [(0, .agg #[.int .i64 b, .int .i64 a])] _ rfl SBX1 ?_)
            refine planPost_mk ⟨⟨X1, KX1.out⟩, rfl⟩ ?_
            clear SBX1
            rw [wpPlan_one]
            simp only [nth_zero, nth_succ]
            obtain ⟨X2, hX2⟩ : ∃ X, X1.alloc (.cells #[] 52) = X := ⟨_, rfl⟩
            have SBX2 := slice_prs0 X1
            have bX2 := below_new X1 (.cells #[] 52)
            have sX2 := lit_none W.heap.size X1 KX1.out.size
            rw [hX2] at SBX2 bX2 sX2
            have KX2 : Hid (Below W.heap.size W X2) := KX1.out.trans (bX2.mono KX1.out.size)
            have SX2 := Lib.hid sX2
            have QX2 := Lib.hid (QX1.out.below bX2)
            have NEX2 : Hid ((Value.slice (some ⟨W.heap.size, 0, none⟩) 1 1).ownBlock ≠ (Value.slice (some ⟨X1.heap.size, 0, none⟩) 0 0).ownBlock) := fun e => by have := (QX1.out.base W.heap.size rfl).2; simp [Value.ownBlock] at e; omega
            clear hX2 bX2 sX2
            go_wp2_with (refine gate_build ?_; refine wpList_build_run 47 0 #[] rfl rfl [] _ rfl SBX2 ?_)
            refine planPost_mk ⟨⟨X2, KX2.out⟩, rfl⟩ ?_
            clear SBX2
            rw [wpPlan_one]
            simp only [nth_zero, nth_succ]
            obtain ⟨uX3, X3, hrX3, u1X3, gX3, -⟩ := pr_append SX2.out (HV1.out.below KX2.out) KX2.out.size (by have := HN.out; simp; omega)
            rw [List.nil_append] at u1X3
            have KX3 : Hid (Below W.heap.size W X3) := KX2.out.grown gX3 KX2.out.size (fun j e => (SX2.out.base j e).1)
            have UX3 := Lib.hid u1X3
            have QX3 := Lib.hid (QX2.out.grownT gX3 (.inr NEX2.out))
            have HAX3 := Lib.hid hrX3
            clear hrX3 u1X3 gX3
            go_wp2_with (at_builtin; refine wpList_append_run (.tmp 39) (.tmp 42) 47 rfl rfl _ _ _ rfl rfl (HAX3.out _) ?_)
            refine planPost_mk ⟨⟨X3, KX3.out⟩, rfl⟩ ?_
            clear HAX3
            rw [wpPlan_one]
            simp only [nth_zero, nth_succ]
            obtain ⟨uX4, X4, hrX4, u1X4, gX4, -⟩ := pr_append UX3.out QX3.out.prt KX3.out.size (by have := HN.out; simp; omega)
            have KX4 : Hid (Below W.heap.size W X4) := KX3.out.grown gX4 KX3.out.size (fun j e => (UX3.out.base j e).1)
            have HAX4 := Lib.hid hrX4
            obtain ⟨uX4z, X4z, hrX4z, u1X4z, gX4z, -⟩ := pr_append u1X4 (HV3.out.below KX4.out) KX4.out.size (by have := HN.out; simp; omega)
            have KX4z : Hid (Below W.heap.size W X4z) := KX4.out.grown gX4z KX4.out.size (fun j e => (u1X4.base j e).1)
            have HAX4z := Lib.hid hrX4z
            have HO : Hid (PrO w.heap.size X4z uX4z (tPut l b a)) := by
              show PrO _ _ _ _
              rw [HTP.out, show tIns l k (b, a) = l.take k ++ [(b, a)] ++ l.drop k by unfold tIns; simp]
              exact u1X4z.weak HB.out.size
            have HBZ : Hid (Below w.heap.size w X4z) := HB.out.trans (KX4z.out.mono HB.out.size)
            clear hrX4 u1X4 gX4 hrX4z u1X4z gX4z
            go_wp2_with (at_builtin; refine wpList_append_run (.tmp 43) (.tmp 47) 47 rfl rfl _ _ _ rfl rfl (HAX4.out _) ?_)
            refine planPost_mk ⟨⟨X4, KX4.out⟩, rfl⟩ ?_
            clear HAX4
            rw [wpPlan_leaf]
            simp only [List.drop_succ_cons, List.drop_zero]
            go_wp2_with (at_builtin; refine wpList_append_run (.tmp 48) (.tmp 51) 47 rfl rfl _ _ _ rfl rfl (HAX4z.out _) ?_)
            go_ret
            exact ⟨_, rfl, HO.out, HBZ.out⟩
end Go.Proofs.Ytmhpjglmnfllfaa
