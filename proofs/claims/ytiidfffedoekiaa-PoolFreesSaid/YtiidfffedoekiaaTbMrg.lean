/- The developers' Merge. -/
import Derived.Test.YtiidfffedoekiaaTbPut
namespace Go.Proofs.Ytiidfffedoekiaa
open Go.RowKit
set_option linter.unusedVariables false
attribute [-simp] Try.isAgg42 Try.zeroValue42
attribute [-go_sem] loadVar storeVar
attribute [local go_sem] loadVar_openP storeVar_openP zero_prs build_prs0 build_prs

/-- Numbers of one's own. -/
def InO (N : Nat) (w : World) (v : Value) (zs : List Int) : Prop := w.ownsRow N 3 1 v zs.length (zs.map (Value.int .i64))
theorem InO.nil (N : Nat) (w : World) : InO N w (.slice none 0 0) [] := World.ownsRow_nil _ _ _ _
theorem InO.below {N : Nat} {w w' : World} {v : Value} {zs : List Int} (h : InO N w v zs) (hB : Below w.heap.size w w') : InO N w' v zs := own_belowT h hB
theorem InO.grown {N M : Nat} {w w' : World} {v u : Value} {zs : List Int} {l : List (Int × Int)} (h : InO N w v zs) (hu : PrO M w u l) (hg : w.grownBy w' u.ownBlock) : InO N w' v zs := h.kept hg (rows_ne h hu.1 (by decide))
theorem PrO.grownI {N M : Nat} {w w' : World} {v u : Value} {zs : List Int} {l : List (Int × Int)} (h : PrO N w v l) (hu : InO M w u zs) (hg : w.grownBy w' u.ownBlock) : PrO N w' v l := ⟨h.1.kept hg (rows_ne h.1 hu (by decide)), h.2⟩
theorem InO.base {N : Nat} {w : World} {v : Value} {zs : List Int} (h : InO N w v zs) : ∀ j, v.ownBlock = some j → N ≤ j ∧ j < w.heap.size := by
  intro j hj
  rcases h.2 with ⟨rfl, h0⟩ | ⟨g, cap, cur, rfl, h1, h2, -⟩
  · cases hj
  · cases hj
    exact ⟨h1, (Array.getElem?_eq_some_iff.1 h2).1⟩
set_option maxRecDepth 100000 in
theorem info_intT : (Try.prog.info? 3).map (fun i => (i.zero, i.size, i.bytes)) = some (some (.int .i64 0), 1, 8) := by kernel_rfl
set_option maxRecDepth 100000 in
theorem slice_int1 (w : World) (x : Int) : (Instr.buildSlice 35 1 #[(0, .int .i64 x)]).run Try.prog w = .ok (.slice (some ⟨w.heap.size, 0, none⟩) 1 1) (w.alloc (.cells #[.int .i64 x] 3)) := by kernel_rfl
set_option maxRecDepth 100000 in
/-- One more number. -/
theorem in_append {N : Nat} {w : World} {v : Value} {zs : List Int} (h : InO N w v zs) (hN : N ≤ w.heap.size) (x : Int) (hlen : zs.length ≤ 900000) :
    ∃ v' w', (∀ ty, (Builtin.append_ #[35, 35] ty #[v, .slice (some ⟨w.heap.size, 0, none⟩) 1 1]).run Try.prog (w.alloc (.cells #[.int .i64 x] 3)) = .ok v' w') ∧ InO N w' v' (zs ++ [x]) ∧ w.grownBy w' v.ownBlock ∧ v' ≠ .slice none 0 0 := by
  obtain ⟨i0, hi⟩ : ∃ i, Try.prog.info? 3 = some i := ⟨_, rfl⟩
  have hq := info_intT
  rw [hi] at hq
  have hz : (i0.zero, i0.size, i0.bytes) = (some (.int .i64 0), 1, 8) := Option.some.inj hq
  have hz0 := congrArg (·.1) hz
  have hz1 := congrArg (·.2.1) hz
  have hz2 := congrArg (·.2.2) hz
  simp only at hz0 hz1 hz2
  have hr : ∀ ty, ∃ v' w', (Builtin.append_ #[35, 35] ty #[v, .slice (some ⟨w.heap.size, 0, none⟩) 1 1]).run Try.prog (w.alloc (.cells #[.int .i64 x] 3)) = .ok v' w' ∧ w'.ownsRow N 3 1 v' (zs.length + 1) (zs.map (Value.int .i64) ++ [.int .i64 x]) ∧ (w.alloc (.cells #[.int .i64 x] 3)).grownBy w' v.ownBlock ∧ (v' = .slice none 0 0 ↔ v = .slice none 0 0 ∧ (1 : Nat) = 0) := fun ty => by
    obtain ⟨v', w', g1, g2, g3, g4⟩ := run_append_own (P := Try.prog) (w.alloc (.cells #[.int .i64 x] 3)) N 35 ty 3 i0 (.int .i64 0) 1 8 Try.underlying35 hi hz0 hz1 hz2 rfl (by decide) v zs.length _ (own_belowT h (below_new w _)) ⟨w.heap.size, 0, none⟩ 1 1 [.int .i64 x] rfl
      (fun j u hj => by
        have hj0 : j = 0 := by have := (List.getElem?_eq_some_iff.1 hj).1; simp at this; exact this
        subst hj0
        cases hj
        rw [Addr.add_lit]
        exact (RowC.new w 3 [.int .i64 x]).cell 0 _ rfl) (fun u hu => by simp at hu; subst hu; rfl) (by unfold maxLen; omega) (by omega) (by simp; omega)
    exact ⟨v', w', g1, g2, g3, g4⟩
  obtain ⟨v', w', g1, g2, g3, g4⟩ := hr 0
  refine ⟨v', w', fun ty => ?_, ?_, grown_trans (grown_below (below_new w _) _) g3, fun e => absurd (g4.1 e).2 (by decide)⟩
  · rw [← g1]; rfl
  · show w'.ownsRow N _ 1 v' (zs ++ [x]).length ((zs ++ [x]).map _)
    rw [List.length_append, List.map_append]
    exact g2

set_option maxRecDepth 100000 in
set_option maxHeartbeats 8000000 in
/-- **Merge**. -/
theorem tb_merge {w : World} {va vb : Value} {a b : List (Int × Int)} (ha : Prt w va a) (hb : Prt w vb b) (hla : a.length ≤ 400000) (hlb : b.length ≤ 400000) :
    Calls Try.prog 54 #[va, vb] w fun e w' => ∃ u f, e = .returned (.tuple #[u, f]) ∧ PrO w.heap.size w' u (tKeep a a b) ∧ InO w.heap.size w' f (tFree a b) ∧ Below w.heap.size w w' := by
  have HC := Lib.hid (tb_clone ha (by omega))
  have HPA := Lib.hid ha
  have HPB := Lib.hid hb
  obtain ⟨pa, ca, rfl, -⟩ := ha
  obtain ⟨pb, cb, rfl, -⟩ := hb
  obtain ⟨n, hn⟩ : ∃ n, b.length = n := ⟨_, rfl⟩
  rw [hn] at HPB hlb ⊢
  have HN := Lib.hid hn
  clear hn
  go_enter Try.func54, Try.ntmps54
  go_wp2_with fail
  go_at_call 53
  refine HC.out.mono ?_
  rintro e x ⟨u, rfl, hO, hB⟩
  have HO := Lib.hid hO
  have HB := Lib.hid hB
  clear hO hB HC
  go_wp2_with fail
  go_loopw [4, 5, 14] (fun kv fv iv wr => ∃ k : Nat, k ≤ n ∧ iv = .int .i64 (k : Int) ∧ Hid (PrO w.heap.size wr kv (tKeep a a (b.take k))) ∧ Hid (InO w.heap.size wr fv (tFree a (b.take k))) ∧ Hid (Below w.heap.size w wr)) (fun _ _ iv _ => n - (intOf iv).toNat)
  case atStart => exact ⟨0, Nat.zero_le _, rfl, HO, InO.nil _ _, HB⟩
  case round =>
    obtain ⟨k, hk, rfl, HK, HF, HB⟩ := hrel
    by_cases hlt : k < n
    · obtain ⟨p, hp⟩ : ∃ p, b[k]? = some p := ⟨_, List.getElem?_eq_getElem (by rw [HN.out]; exact hlt)⟩
      have hp64 : Is64 p.1 ∧ Is64 p.2 := HPB.out.is p (List.mem_of_getElem? hp)
      have hsn : b.take (k + 1) = b.take k ++ [p] := by rw [List.take_add_one, hp]; rfl
      obtain ⟨bb, off, rfl, hbb, c1, c2⟩ := (HPB.out.below HB.out).at hp
      obtain ⟨x0, y0⟩ := p
      simp only at c1 c2 hp64
      have HP64 := Lib.hid hp64
      have HSN := Lib.hid hsn
      have g1 : (k : Int) < (n : Int) := by omega
      have HW : Hid (wrap64 ((k : Int) + 1) = (k : Int) + 1) := IntWalk.wrap64_in _ (by omega)
      have LD := load_prs c1 c2
      have ST := new_prs wr x0 y0
      obtain ⟨W2, hW2⟩ : ∃ W2, wr.alloc (.cells #[.int .i64 x0, .int .i64 y0] 42) = W2 := ⟨_, rfl⟩
      rw [hW2] at ST
      have hb2 : Below wr.heap.size wr W2 := by rw [← hW2]; exact below_new wr _
      have HR : Hid (RowC W2 wr.heap.size 42 (prL x0 y0)) := by show RowC _ _ _ _; rw [← hW2]; exact RowC.new wr _ _
      have d1 : W2.cell? ⟨wr.heap.size, 0, none⟩ = some (.int .i64 x0) := HR.out.cell 0 _ rfl
      have HB2 : Hid (Below w.heap.size w W2) := HB.out.trans (hb2.mono HB.out.size)
      have HK2 := Lib.hid (HK.out.below hb2)
      have HF2 := Lib.hid (HF.out.below hb2)
      have HLT := Lib.hid hlt
      have HS := Lib.hid (tb_search (HPA.out.below HB2.out) x0 (by omega))
      obtain ⟨B, hBn⟩ : ∃ B, wr.heap.size = B := ⟨_, rfl⟩
      rw [hBn] at ST HR d1 
      clear hp hbb c1 c2 hW2 HB HK HF hlt hb2 hp64 hsn
      go_wp2_with fail
      refine HS.out.mono ?_
      rintro e y ⟨rfl, hby⟩
      have HB3 : Hid (Below w.heap.size w y) := HB2.out.trans (hby.mono HB2.out.size)
      have HK3 := Lib.hid (HK2.out.below hby)
      have HF3 := Lib.hid (HF2.out.below hby)
      have HR3 := Lib.hid (HR.out.below hby)
      have d2 : y.cell? ⟨B, 0, none⟩ = some (.int .i64 x0) := HR3.out.cell 0 _ rfl
      have d3 : y.cell? ⟨B, 1, none⟩ = some (.int .i64 y0) := HR3.out.cell 1 _ rfl
      have htl : (b.take k).length = k := by rw [List.length_take, Nat.min_eq_left (by rw [HN.out]; omega)]
      have hkl : (tKeep a a (b.take k)).length ≤ 800000 := by have := tKeep_len a (b.take k) a; omega
      have hfl : (tFree a (b.take k)).length ≤ 800000 := by have := tFree_len a (b.take k); omega
      have HKN : Hid (tKeep a a (b.take (k + 1)) = if (tFind a x0).isSome then tKeep a a (b.take k) else tPut (tKeep a a (b.take k)) x0 y0) := by show _ = _; rw [HSN.out]; exact tKeep_snoc a _ a (x0, y0)
      have HFN : Hid (tFree a (b.take (k + 1)) = if (tFind a x0).isSome then tFree a (b.take k) ++ [y0] else tFree a (b.take k)) := by show _ = _; rw [HSN.out]; exact tFree_snoc a _ (x0, y0)
      cases hf : tFind a x0 with
      | some i =>
        have e1 : tSearch a x0 = (i, true) := by unfold tSearch; rw [hf]
        rw [e1]
        rw [hf] at HKN HFN
        simp only [Option.isSome_some, if_true] at HKN HFN
        obtain ⟨f2, W4, hr, h1, h2, -⟩ := in_append HF3.out HB3.out.size y0 (by omega)
        have HA := Lib.hid hr
        have HF4 := Lib.hid h1
        have HK4 := Lib.hid (HK3.out.grownI HF3.out h2)
        have HB4 : Hid (Below w.heap.size w W4) := HB3.out.grown h2 HB3.out.size (fun j e => (HF3.out.base j e).1)
        obtain ⟨W3, hW3⟩ : ∃ W3, y.alloc (.cells #[.int .i64 y0] 3) = W3 := ⟨_, rfl⟩
        have SB : Hid ((Instr.buildSlice 35 1 #[(0, .int .i64 y0)]).run Try.prog y = .ok (.slice (some ⟨y.heap.size, 0, none⟩) 1 1) W3) := by show _ = _; rw [← hW3]; exact slice_int1 y y0
        rw [hW3] at HA
        clear hr h1 h2 hW3 hf e1 hby htl hkl hfl HS HK2 HF2 HR HR3 HB2 HK3 HF3 HB3
        go_wp2_with (first | (refine gate_build ?_; refine wpList_build_run 35 1 #[(0, .tmp 28)] rfl rfl [(0, .int .i64 y0)] _ rfl SB.out ?_) | (at_builtin; refine wpList_append_run (.tmp 26) (.tmp 29) 35 rfl rfl _ _ _ rfl rfl (HA.out _) ?_))
        exact ⟨⟨k + 1, HLT.out, by simp, by rw [HKN.out]; exact HK4, by rw [HFN.out]; exact HF4, HB4⟩, by simp [intOf]; omega⟩
      | none =>
        have e1 : tSearch a x0 = (tGt a x0, false) := by unfold tSearch; rw [hf]
        rw [e1]
        rw [hf] at HKN HFN
        simp only [Option.isSome_none, Bool.false_eq_true, if_false] at HKN HFN
        have HP := Lib.hid (tb_put0 HK3.out HB3.out.size x0 y0 HP64.out.1 HP64.out.2 (by omega))
        clear hf e1 hby htl hkl hfl HS HK2 HF2 HR HR3 HB2
        go_wp2_with fail
        go_at_call 66
        refine HP.out.mono ?_
        rintro e W4 ⟨u2, rfl, hO, hG, -⟩
        have HF4 := Lib.hid (HF3.out.grown HK3.out hG)
        have HB4 : Hid (Below w.heap.size w W4) := HB3.out.grown hG HB3.out.size (fun j e => (HK3.out.base j e).1)
        have HK4 := Lib.hid hO
        clear hO hG HP HF3 HK3 HB3
        go_wp2_with fail
        exact ⟨⟨k + 1, HLT.out, by simp, by rw [HKN.out]; exact HK4, by rw [HFN.out]; exact HF4, HB4⟩, by simp [intOf]; omega⟩
    · obtain rfl : k = n := by omega
      rw [List.take_of_length_le (by rw [HN.out]; exact Nat.le_refl _)] at HK HF
      go_wp2_with fail
      refine bodyPost_ret (results_tmp2 rfl _ _ _) rfl ?_
      exact ⟨_, _, rfl, HK.out, HF.out, HB.out⟩
end Go.Proofs.Ytiidfffedoekiaa
