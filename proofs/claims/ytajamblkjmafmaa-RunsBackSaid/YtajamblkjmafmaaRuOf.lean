/- The developers' Of. -/
import Derived.Test.YtajamblkjmafmaaRuPr
namespace Go.Proofs.Ytajamblkjmafmaa
open Go.RowKit
set_option linter.unusedVariables false
set_option linter.unusedSimpArgs false
attribute [-simp] Try.isAgg36 Try.zeroValue36
attribute [-go_sem] loadVar storeVar
attribute [local go_sem] loadVar_openR storeVar_openR zero_rns build_rns0 build_rns

set_option maxRecDepth 100000 in
set_option maxHeartbeats 2000000 in
theorem ru_extends (p x : Int) (hp : Is64 p) (w : World) : Calls Try.prog 15 #[.int .i64 p, .int .i64 x] w fun e w' => e = .returned (.bool (rnExt p x)) ∧ w' = w := by
  unfold Is64 at hp
  by_cases q : p < 4611686018427387904
  · have HW : Hid (wrap64 (p + 1) = p + 1) := IntWalk.wrap64_in _ (by omega)
    have q1 : decide (p < 4611686018427387904) = true := by simpa using q
    have e : rnExt p x = (x == p + 1) := by unfold rnExt; rw [q1]; rfl
    rw [e]
    clear e hp q
    go_enter Try.func15, Try.ntmps15
    go_wp2_with fail
    go_ret
    rw [HW.out]
    exact ⟨rfl, rfl⟩
  · have q1 : decide (p < 4611686018427387904) = false := by simpa using q
    have e : rnExt p x = false := by unfold rnExt; rw [q1]; rfl
    rw [e]
    clear e hp q
    go_enter Try.func15, Try.ntmps15
    go_wp2_with fail
    go_ret
    exact ⟨rfl, rfl⟩

set_option maxRecDepth 100000 in
set_option maxHeartbeats 8000000 in
/-- **Of**. -/
theorem ru_of {w : World} {v : Value} {l : List Int} (h : Sl .i64 w v l) (h64 : ∀ x ∈ l, Is64 x) (hlen : l.length ≤ 500000) :
    Calls Try.prog 8 #[v] w fun e w' => ∃ u, e = .returned u ∧ RnO w.heap.size w' u (rnOf l) ∧ Below w.heap.size w w' := by
  obtain ⟨a, ca, rfl, ha1, ha2, hla, -⟩ := h
  obtain ⟨n, hn⟩ : ∃ n, l.length = n := ⟨_, rfl⟩
  have HN := Lib.hid hn
  rw [hn] at ha1 hlen ⊢
  have HLA := Lib.hid hla
  have H64 := Lib.hid h64
  have HLN := Lib.hid hlen
  clear hla hn ha1 ha2 h64
  go_enter Try.func8, Try.ntmps8
  go_wp2_with fail
  go_loopw [3, 8] (fun fv iv wr => ∃ k : Nat, k ≤ n ∧ iv = .int .i64 (k : Int) ∧ Hid (RnO w.heap.size wr fv (rnOf (l.take k))) ∧ Hid (Below w.heap.size w wr)) (fun _ iv _ => n - (intOf iv).toNat)
  case atStart => exact ⟨0, Nat.zero_le _, rfl, RnO.nil _ _, Below.refl _ _⟩
  case round =>
    obtain ⟨k, hk, rfl, HF, HB⟩ := hrel
    by_cases hlt : k < n
    · have g1 : (k : Int) < (n : Int) := by omega
      have HW : Hid (wrap64 ((k : Int) + 1) = (k : Int) + 1) := IntWalk.wrap64_in _ (by omega)
      obtain ⟨x, hx⟩ : ∃ x, l[k]? = some x := ⟨_, List.getElem?_eq_getElem (by rw [HN.out]; exact hlt)⟩
      obtain ⟨ba, oa, rfl, hC⟩ : ∃ ba oa, a = some ⟨ba, oa, none⟩ ∧ ∀ j, j < n → wr.cell? ⟨ba, oa + j, none⟩ = some (.int .i64 (l[j]?.getD 0)) := by
        rcases HLA.out with e | ⟨ba, oa, rfl, h1, h2⟩
        · have := HN.out; rw [e] at this; simp at this; omega
        · exact ⟨ba, oa, rfl, fun j hj => (HB.out.cell (p := ⟨ba, oa + j, none⟩) h1).trans (h2 j (by rw [HN.out]; exact hj))⟩
      have c1 : wr.cell? ⟨ba, oa + k, none⟩ = some (.int .i64 x) := by rw [hC k hlt, hx]; rfl
      have hx64 : Is64 x := H64.out x (List.mem_of_getElem? hx)
      have HX := Lib.hid hx
      have HLT := Lib.hid hlt
      -- one more run
      have hrl : (rnOf (l.take k)).length ≤ k := by have := (rn_all (l.take k)).len; rw [List.length_take] at this; exact Nat.le_trans this (Nat.min_le_left _ _)
      have SB := slice_rns wr x 1
      obtain ⟨W1, hW1⟩ : ∃ W, wr.alloc (.cells #[.int .i64 x, .int .i64 1] 36) = W := ⟨_, rfl⟩
      have hb1 : Below wr.heap.size wr W1 := by rw [← hW1]; exact below_new _ _
      have ho1 : RnO wr.heap.size W1 (.slice (some ⟨wr.heap.size, 0, none⟩) 1 1) [(x, 1)] := by rw [← hW1]; exact RnO.one wr (x, 1) ⟨hx64, by unfold Is64; omega⟩
      have HB1 : Hid (Below w.heap.size w W1) := HB.out.trans (hb1.mono HB.out.size)
      obtain ⟨f2, W2, hr2, hf2, hg2, -⟩ := rn_append (HF.out.below hb1) ho1.prt HB1.out.size (by rw [List.length_singleton]; omega)
      have HB2 : Hid (Below w.heap.size w W2) := HB1.out.grown hg2 HB1.out.size (fun j e => (HF.out.base j e).1)
      rw [hW1] at SB
      have HF2 := Lib.hid hf2
      have HA := Lib.hid hr2
      clear hW1 hb1 ho1 hf2 hr2 hg2 hx hlt
      by_cases h0 : 0 < k
      · obtain ⟨q, rfl⟩ : ∃ q, k = q + 1 := ⟨k - 1, by omega⟩
        obtain ⟨p, hp⟩ : ∃ p, l[q]? = some p := ⟨_, List.getElem?_eq_getElem (by rw [HN.out]; have := HLT.out; omega)⟩
        have c2 : wr.cell? ⟨ba, oa + q, none⟩ = some (.int .i64 p) := by rw [hC q (by have := HLT.out; omega), hp]; rfl
        have HE := Lib.hid (ru_extends p x (H64.out p (List.mem_of_getElem? hp)) wr)
        have HS := Lib.hid (rnOf_succ hp HX.out)
        obtain ⟨A, f, c, hA, hc1, hc2, hAl⟩ := rnOf_last hp
        have HAA := Lib.hid hA
        obtain ⟨b, hb⟩ : ∃ b, rnExt p x = b := ⟨_, rfl⟩
        rw [hb] at HE HS
        have q1 : (q : Int) + 1 - 1 = (q : Int) := by omega
        have HQ : Hid (wrap64 ((q : Int) + 1 - 1) = (q : Int)) := by show _ = _; rw [q1]; exact IntWalk.wrap64_in _ (by have := HLT.out; omega)
        clear hC hp hb hA
        go_wp2_with fail
        refine HE.out.mono ?_
        rintro e y ⟨rfl, hy⟩
        obtain rfl := hy.symm
        clear HE hy
        cases b with
        | false =>
          rw [if_neg (by decide)] at HS
          go_wp2_with (first | (refine gate_build ?_; refine wpList_build_run 23 1 #[(0, .tmp 36)] rfl rfl [(0, _)] _ rfl SB ?_) | (at_builtin; refine wpList_append_run (.tmp 34) (.tmp 37) 23 rfl rfl _ _ _ rfl rfl (HA.out _) ?_))
          exact ⟨⟨q + 1 + 1, HLT.out, by simp, by rw [HS.out]; exact HF2.out, HB2.out⟩, by have := HLT.out; simp [intOf]; omega⟩
        | true =>
          rw [if_pos rfl, HAA.out, rnInc_snoc] at HS
          have hF := HF.out
          rw [HAA.out] at hF
          obtain ⟨g, cap, cur, hv, hg⟩ := hF.open (by simp)
          obtain ⟨K, hK⟩ : ∃ K, A.length = K := ⟨_, rfl⟩
          have hAl : (A ++ [(f, c)]).length = K + 1 := by rw [List.length_append, hK]; rfl
          have hget : (A ++ [(f, c)])[K]? = some (f, c) := by rw [← hK]; simp
          have hset : (A ++ [(f, c)]).set K (f, c + 1) = A ++ [(f, c + 1)] := by rw [← hK]; simp
          subst hv
          obtain ⟨hS, hG⟩ := rn_setAt hF hget (z := c + 1) (by unfold Is64; have := HLT.out; omega)
          have d1 : wr.cell? ⟨g, K * 2 + 1, none⟩ = some (.int .i64 c) := by
            have := hF.1.cells (g := g) rfl _ _ (pcs_get hget).2
            rwa [Addr.add_mid, Nat.zero_add] at this
          have d2 : wr.frozen? ⟨g, K * 2 + 1, none⟩ = false := by simp [World.frozen?, hg]
          obtain ⟨W3, hW3⟩ : ∃ W3, wr.setCell ⟨g, K * 2 + 1, none⟩ (.int .i64 (c + 1)) = W3 := ⟨_, rfl⟩
          rw [hW3, hset] at hS
          rw [hW3] at hG
          rw [hAl] at hS ⊢
          have HO := Lib.hid hS
          have HB3 : Hid (Below w.heap.size w W3) := HB.out.grown hG HB.out.size (fun j e => by cases e; exact (hF.base g rfl).1)
          have HWc : Hid (wrap64 (c + 1) = c + 1) := IntWalk.wrap64_in _ (by have := HLT.out; omega)
          have g4 : (K : Int) + 1 - 1 = (K : Int) := by omega
          have HWK : Hid (wrap64 ((K : Int) + 1 - 1) = (K : Int)) := by show _ = _; rw [g4]; exact IntWalk.wrap64_in _ (by have := HLT.out; omega)
          clear hS hG hF hget hset hAl hg SB HA HF2 HB2 HF HAA
          go_wp2_with fail
          exact ⟨⟨q + 1 + 1, HLT.out, by simp, by rw [HS.out]; exact HO.out, HB3⟩, by have := HLT.out; simp [intOf]; omega⟩
      · obtain rfl : k = 0 := by omega
        rw [Nat.add_zero] at c1
        have HE : Hid (rnOf (l.take (0 + 1)) = rnOf (l.take 0) ++ [(x, 1)]) := rnOf_zero HX.out
        clear h0 hC
        go_wp2_with (first | (refine gate_build ?_; refine wpList_build_run 23 1 #[(0, .tmp 36)] rfl rfl [(0, _)] _ rfl SB ?_) | (at_builtin; refine wpList_append_run (.tmp 34) (.tmp 37) 23 rfl rfl _ _ _ rfl rfl (HA.out _) ?_))
        exact ⟨⟨0 + 1, HLT.out, by simp, by rw [HE.out]; exact HF2.out, HB2.out⟩, by have := HLT.out; simp [intOf]; omega⟩
    · obtain rfl : k = n := by omega
      have HF3 : Hid (RnO w.heap.size wr u3 (rnOf l)) := by
        show RnO _ _ _ _
        have := HF.out
        rwa [List.take_of_length_le (by rw [HN.out]; exact Nat.le_refl _)] at this
      go_wp2_with fail
      go_ret
      exact ⟨_, rfl, HF3.out, HB.out⟩
end Go.Proofs.Ytajamblkjmafmaa
