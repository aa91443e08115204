/- The developers' put, Put. -/
import Derived.Test.YtiidfffedoekiaaTbIns
namespace Go.Proofs.Ytiidfffedoekiaa
open Go.RowKit
set_option linter.unusedVariables false
attribute [-simp] Try.isAgg42 Try.zeroValue42
attribute [-go_sem] loadVar storeVar
attribute [local go_sem] loadVar_openP storeVar_openP zero_prs build_prs0 build_prs

set_option maxRecDepth 100000 in
/-- A pair is stored in a row of one's own. -/
theorem pr_store {N : Nat} {w : World} {v : Value} {l : List (Int × Int)} {k : Nat} (h : PrO N w v l) (hk : k < l.length) (p : Int × Int) (hp : Is64 p.1 ∧ Is64 p.2) :
    ∃ g cap w', v = .slice (some ⟨g, 0, none⟩) l.length cap ∧ l.length ≤ cap ∧ cap ≤ maxLen ∧ (storeVar 42 ⟨g, k * 2, none⟩ (.agg #[.int .i64 p.1, .int .i64 p.2])).run Try.prog w = .ok () w' ∧ PrO N w' v (l.set k p) ∧ w.grownBy w' v.ownBlock := by
  rcases h.1.2 with ⟨rfl, h0⟩ | ⟨g, cap, cur, rfl, h1, h2, h3, h4, h5, h6⟩
  · omega
  · have hs : (storeVar 42 ⟨g, k * 2, none⟩ (.agg #[.int .i64 p.1, .int .i64 p.2])).run Try.prog w = (storeCells ⟨g, k * 2, none⟩ (prL p.1 p.2) 0).run Try.prog w := by kernel_rfl
    have hst := run_storeCells_at Try.prog g (k * 2) 42 (prL p.1 p.2) 0 cur w h2 (by rw [h5]; show k * 2 + 0 + 2 ≤ _; omega) (by simp [prL]; exact ⟨rfl, rfl⟩)
    rw [Nat.add_zero] at hst
    refine ⟨g, cap, _, rfl, h3, h4, hs.trans hst, ⟨⟨by rw [pcs_length], .inr ⟨g, cap, _, by rw [List.length_set], h1, setRow_heap w g cur _ _ _ h2, by rw [List.length_set]; exact h3, h4, ?_, ?_⟩⟩, ?_⟩, ⟨rfl, rfl, rfl, by rw [setRow_size]; exact Nat.le_refl _, fun j _ hj => setRow_other w g j _ (fun e => hj (by rw [e]; rfl))⟩⟩
    · simp only [List.size_toArray, List.length_append, List.length_take, List.length_drop, Array.length_toList, h5, prL, List.length_cons, List.length_nil]
      omega
    · rw [List.length_set]
      have e1 : l.set k p = l.take k ++ p :: l.drop (k + 1) := List.set_eq_take_append_cons_drop .. |>.trans (by rw [if_pos hk])
      have e2 : cur.toList.take (k * 2) = pcs (l.take k) := by rw [← pcs_take, ← h6, List.take_take, Nat.min_eq_left (by omega)]
      have e3 : (cur.toList.drop (k * 2 + 2)).take ((l.length - (k + 1)) * 2) = pcs (l.drop (k + 1)) := by
        rw [← pcs_drop, ← h6, List.drop_take, show (k + 1) * 2 = k * 2 + 2 by omega, show l.length * 2 - (k * 2 + 2) = (l.length - (k + 1)) * 2 by omega]
      show List.take (l.length * 2) (cur.toList.take (k * 2) ++ prL p.1 p.2 ++ cur.toList.drop (k * 2 + 2)) = _
      have e4 : (pcs (l.take k) ++ prL p.1 p.2).length = k * 2 + 2 := by rw [List.length_append, pcs_length, List.length_take, Nat.min_eq_left (by omega)]; rfl
      rw [e2, List.take_append, List.take_of_length_le (by rw [e4]; omega), e4, show l.length * 2 - (k * 2 + 2) = (l.length - (k + 1)) * 2 by omega, e3, e1, pcs_append, pcs_cons, List.append_assoc]
      rfl
    · intro q hq
      rcases List.mem_or_eq_of_mem_set hq with hq | rfl
      · exact h.2 q hq
      · exact hp
theorem PrO.grownT {N : Nat} {w w' : World} {v : Value} {l : List (Int × Int)} {row : Option Nat} (h : PrO N w v l) (hg : w.grownBy w' row) (hr : v.ownBlock = none ∨ v.ownBlock ≠ row) : PrO N w' v l := ⟨h.1.kept hg hr, h.2⟩

set_option maxRecDepth 100000 in
set_option maxHeartbeats 4000000 in
/-- **put**. -/
theorem tb_put0 {N : Nat} {w : World} {v : Value} {l : List (Int × Int)} (h : PrO N w v l) (hN : N ≤ w.heap.size) (b a : Int) (hb : Is64 b) (ha : Is64 a) (hlen : l.length ≤ 900000) :
    Calls Try.prog 66 #[v, .int .i64 b, .int .i64 a] w fun e w' => ∃ u, e = .returned u ∧ PrO N w' u (tPut l b a) ∧ w.grownBy w' v.ownBlock ∧ Same w v.ownBlock u := by
  obtain ⟨ob, hob⟩ : ∃ ob, v.ownBlock = ob := ⟨_, rfl⟩
  rw [hob]
  have HS := Lib.hid (tb_search h.prt b (by omega))
  have HP := Lib.hid h
  have HN := Lib.hid hN
  have HOB := Lib.hid hob
  have hle := tSearch_le l b
  cases hf : tFind l b with
  | some i =>
    have e1 : tSearch l b = (i, true) := by unfold tSearch; rw [hf]
    have e2 : tPut l b a = l.set i (b, a) := by unfold tPut; rw [hf]
    have hi := tFind_lt hf
    rw [e1] at HS
    rw [e2]
    have hpr := h.prt
    obtain ⟨ra, cap, rfl, -⟩ := hpr
    have HI := Lib.hid hi
    have hin : (i : Int) < (l.length : Int) := by omega
    clear h hob hle hf e1 e2 hi
    go_enter Try.func66, Try.ntmps66
    go_wp2_with fail
    go_at_call 47
    refine HS.out.mono ?_
    rintro e x ⟨rfl, hbx⟩
    obtain ⟨g, c2, w2, hv, hc1, hc2, ST, hO, hG⟩ := pr_store (HP.out.below hbx) HI.out (b, a) ⟨hb, ha⟩
    simp only [Value.slice.injEq] at hv
    obtain ⟨rfl, -, rfl⟩ := hv
    have HO := Lib.hid hO
    have HSM : Hid (Same w ob (.slice (some ⟨g, 0, none⟩) l.length cap)) := .inl HOB.out
    have HG : Hid (w.grownBy w2 ob) := by
      rw [HOB.out] at hG
      exact grown_trans (grown_below hbx ob) hG
    simp only at ST
    clear hbx hO hG HS HP hc1 hc2
    go_wp2_with fail
    go_ret
    exact ⟨_, rfl, HO.out, HG.out, HSM.out⟩
  | none =>
    have e1 : tSearch l b = (tGt l b, false) := by unfold tSearch; rw [hf]
    have e2 : tPut l b a = tIns l (tGt l b) (b, a) := by unfold tPut; rw [hf]
    rw [e1] at HS hle
    rw [e2]
    obtain ⟨i, hi⟩ : ∃ i, tGt l b = i := ⟨_, rfl⟩
    rw [hi] at HS hle ⊢
    have hpr := h.prt
    obtain ⟨ra, cap, rfl, -⟩ := hpr
    have HLE : Hid (i ≤ l.length) := hle
    clear h hob hle hf e1 e2 hi
    go_enter Try.func66, Try.ntmps66
    go_wp2_with fail
    go_at_call 47
    refine HS.out.mono ?_
    rintro e x ⟨rfl, hbx⟩
    obtain ⟨W, hW⟩ : ∃ W, x.alloc (.cells #[.int .i64 0, .int .i64 0] 42) = W := ⟨_, rfl⟩
    have SB : Hid ((Instr.buildSlice 37 1 #[(0, .agg #[.int .i64 0, .int .i64 0])]).run Try.prog x = .ok (.slice (some ⟨x.heap.size, 0, none⟩) 1 1) W) := by show _ = _; rw [← hW]; exact slice_prs x 0 0
    have hR : RowC W x.heap.size 42 (prL 0 0) := by rw [← hW]; exact RowC.new x _ _
    have hbW : Below x.heap.size x W := by rw [← hW]; exact below_new x _
    have hPx := HP.out.below hbx
    have hPW := hPx.below hbW
    have hne : (Value.slice ra l.length cap).ownBlock ≠ some x.heap.size := fun e => by have := (hPx.base _ e).2; omega
    have HI := Lib.hid (tb_insert (p := (0, 0)) hPW (Nat.le_trans HN.out (Nat.le_trans hbx.size hbW.size)) HLE.out ⟨by simp [Is64], by simp [Is64]⟩ hR hne hlen)
    have HGW : Hid (w.grownBy W ob) := grown_trans (grown_below hbx ob) (grown_below hbW ob)
    clear hbx hW hR hbW hPx hPW hne HS HP
    go_wp2_with (refine gate_build ?_; refine wpList_build_run 37 1 #[(0, .tmp 19)] rfl rfl [(0, .agg #[.int .i64 0, .int .i64 0])] _ rfl SB.out ?_)
    go_at_call 82
    refine HI.out.mono ?_
    rintro e y ⟨u, rfl, hO, hG, hS⟩
    obtain ⟨g, c2, w2, rfl, hc1, hc2, ST, hO2, hG2⟩ := pr_store (k := i) hO (by rw [tIns_length _ HLE.out]; have := HLE.out; omega) (b, a) ⟨hb, ha⟩
    rw [tIns_set _ _ HLE.out] at hO2
    rw [HOB.out] at hG hS
    obtain ⟨n, hn⟩ : ∃ n, (tIns l i (0, 0)).length = n := ⟨_, rfl⟩
    have hnl : n = l.length + 1 := by rw [← hn]; exact tIns_length _ HLE.out
    rw [hn] at hc1 hO2 hS ⊢
    have hin : (i : Int) < (n : Int) := by have := HLE.out; omega
    have HO := Lib.hid hO2
    have HSM : Hid (Same w ob (.slice (some ⟨g, 0, none⟩) n c2)) := by
      rcases hS with hS | hS
      · exact .inl hS
      · exact .inr fun j e => Nat.le_trans HGW.out.size (hS j e)
    have HG : Hid (w.grownBy w2 ob) := by
      have h1 := grown_trans HGW.out hG
      refine ⟨hG2.os.trans h1.os, hG2.tape.trans h1.tape, hG2.output.trans h1.output, Nat.le_trans h1.size hG2.size, fun k hk hne => ?_⟩
      refine (hG2.block k (Nat.lt_of_lt_of_le hk h1.size) (fun e => ?_)).trans (h1.block k hk hne)
      rcases HSM.out with hs | hs
      · exact hne (e.trans hs)
      · have := hs k e.symm
        omega
    simp only at ST
    clear hO hG hS hO2 hG2 hc1 hc2 hn hnl HGW HI
    go_wp2_with fail
    go_ret
    exact ⟨_, rfl, HO.out, HG.out, HSM.out⟩

end Go.Proofs.Ytiidfffedoekiaa
