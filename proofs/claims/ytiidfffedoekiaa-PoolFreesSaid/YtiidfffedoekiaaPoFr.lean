/- The developers' range function over the free blocks: each comes, rising. -/
import Derived.Test.YtiidfffedoekiaaPoWi
import Derived.Test.YtiidfffedoekiaaPoM1
import Derived.Test.YtiidfffedoekiaaValues
import Derived.LoopTactic
namespace Go.Proofs.Ytiidfffedoekiaa
open Go.RowKit Go.Shelf Go.Lib Go.Sort
set_option linter.unusedVariables false
set_option linter.unusedSimpArgs false
attribute [-simp] Try.isAgg39 Try.zeroValue39 Try.isAgg42 Try.zeroValue42 Try.isAgg48 Try.zeroValue48
attribute [-go_sem] loadVar storeVar
attribute [local go_sem] loadVar_openQ storeVar_openQ zero_sn zero_prs zero_st
attribute [local go_sem] Oper.semAt_some

def encF (fl : List Nat) (k : Nat) : Array Value := #[.int .i64 ((fl[k]?.getD 0 : Nat) : Int)]
/-- What the boxes of the range function hold. -/
structure FrB (Bs Ba : Nat) (q : PS) (ar : Int) (l : List SN) (ps : List (Int × Int)) (W : World) : Prop where
  cs : RowC W Bs 48 (stL q)
  ca : W.cell? ⟨Ba, 0, none⟩ = some (.int .i64 ar)
  st : StIs W q l ps

set_option maxRecDepth 100000 in
set_option maxHeartbeats 1000000 in
theorem free_in (F : Fence) (n : Nat) (hf : F.fn 49) (hro : F.round = none) (q : PS) (ar : Int) (w : World) :
    CallsIn F n Try.prog 49 #[stV q, .int .i64 ar] w fun e w' => e = .returned (.func (.func 65) #[] #[.pointer (some ⟨w.heap.size, 0, none⟩), .pointer (some ⟨w.heap.size + 1, 0, none⟩)]) ∧
      w' = (w.alloc (.cells (stL q).toArray 48)).alloc (.cells #[.int .i64 ar] 3) := by
  obtain ⟨⟨dx, dn, dc⟩, ⟨sx, sn, sc⟩, nx, kd, id, ⟨px, pn, pc⟩⟩ := q
  simp only [stV, stL, slV]
  refine callsIn_of_wp Try.func49 rfl hf ?_ hro
  simp only [Try.ntmps49, List.size_toArray, List.length_cons, List.length_nil, Nat.reduceAdd, Nat.reduceSub, Array.replicate_succ, Array.replicate_zero, List.push_toArray, List.append_toArray, List.nil_append, List.cons_append]
  gi_wp2
  go_ret
  exact ⟨rfl, rfl⟩

set_option maxRecDepth 100000 in
set_option maxHeartbeats 1000000 in
theorem free1_seq (n : Nat) (hn : 1 ≤ n) (Bs Ba : Nat) (q : PS) (ar : Nat) (har : ar ≤ 1000) (l : List SN) (ps : List (Int × Int)) (hK : Lens 200 l) (hp : ps.length ≤ 200) (w : World) :
    SeqNumG Fence.wide n Try.prog 65 #[.pointer (some ⟨Bs, 0, none⟩), .pointer (some ⟨Ba, 0, none⟩)] (encF (pFree (pUsed l ps) ar)) (FrB Bs Ba q (ar : Int) l ps) (pFree (pUsed l ps) ar).length w := by
  intro lp J Jx W hW hJR hA _ hY h0
  have hR0 := hJR _ 0 W (h0 W.heap.size (Nat.le_refl _))
  have HJR := Lib.hid hJR
  have HY := Lib.hid hY
  have HJ0 := Lib.hid h0
  have HAB := Lib.hid hA
  have hwi := po_within hR0.st hK hp (ar : Int)
  have hri := used_rise l ps
  obtain ⟨us, hus⟩ : ∃ us, pUsed l ps = us := ⟨_, rfl⟩
  rw [hus] at hwi hri HY
  rw [hus]
  have HRI := Lib.hid hri
  have HWI := Lib.hid hwi
  have hca := hR0.ca
  have LS := load_stC hR0.cs
  clear hY hJR hA h0 hwi hri hus hW hR0
  refine callsIn_of_wp Try.func65 rfl trivial ?_ rfl
  simp only [Try.ntmps65, List.size_toArray, List.length_cons, List.length_nil, Nat.reduceAdd, Nat.reduceSub, Array.replicate_succ, Array.replicate_zero, List.push_toArray, List.append_toArray, List.nil_append, List.cons_append]
  gi_wp2_with (refine ⟨trivial, ?_⟩; gi_at_call 48; refine (callsIn_wide.2 HWI.out).mono ?_; rintro e X ⟨⟨z0, z1, z2⟩, rfl, hI, hBG, hb1⟩)
  have HG1 : Hid (W.heap.size ≤ X.heap.size) := hb1.size
  have HJX : Hid (J X.heap.size 0 X) := HAB.out _ 0 W X none (HJ0.out _ HG1.out) (grown_below hb1 none) (fun r e => by cases e)
  have HIX : Hid (Sl .i64 X (slV (z0, z1, z2)) (pRest us (ar : Int) 0)) := by show Sl _ _ _ _; rw [rest_zero]; exact hI
  have HBX : Hid (InBG W.heap.size X.heap.size z0) := hBG
  obtain ⟨G, hGX⟩ : ∃ G, X.heap.size = G := ⟨_, rfl⟩
  have HGS : Hid (G ≤ X.heap.size) := by show _ ≤ _; omega
  rw [hGX] at HG1 HJX HBX
  clear hI hBG hb1 LS HWI HJ0 hca hGX
  simp only [slV]
  gi_wp2
  gi_loopw [4, 5] (fun uv av wr => ∃ (a : Nat) (r : SlV), a ≤ ar ∧ av = .int .i64 (a : Int) ∧ uv = slV r ∧ Hid (Sl .i64 wr (slV r) (pRest us (ar : Int) (a : Int))) ∧ Hid (InBG W.heap.size G r.1) ∧ Hid (G ≤ wr.heap.size) ∧ J G (pFree us a).length wr) (fun _ av _ => ar - (intOf av).toNat)
  case atStart => exact ⟨0, (z0, z1, z2), Nat.zero_le _, rfl, rfl, HIX, HBX, HGS, HJX.out⟩
  case round =>
    obtain ⟨a, ⟨r0, r1, r2⟩, ha, rfl, rfl, HS, HB, HGW, hJs⟩ := hrel
    have hb := HJR.out _ _ wr hJs
    have c1 := hb.ca
    have hlen : r1 = (pRest us (ar : Int) (a : Int)).length := by obtain ⟨a', cap, e, -⟩ := HS.out; simp only [slV, Value.slice.injEq] at e; omega
    have HLN := Lib.hid hlen
    have hcap : r2 ≤ maxLen := by obtain ⟨a', cap, e, h1, h2, -⟩ := HS.out; simp only [slV, Value.slice.injEq] at e; omega
    simp only [slV]
    by_cases hlt : a < ar
    · have g1 : (a : Int) < (ar : Int) := by omega
      have HWA : Hid (wrap64 ((a : Int) + 1) = (a : Int) + 1) := IntWalk.wrap64_in _ (by omega)
      have HLT := Lib.hid hlt
      by_cases hm : (a : Int) ∈ us
      · have hr := rest_hit HRI.out (ar := (ar : Int)) (Int.natCast_nonneg a) g1 hm
        obtain ⟨r0', hs0, hs1, hs2, hs3⟩ := po_lo (K := 1) HS.out (by rw [hlen, hr]; simp)
        have HS2 : Hid (Sl .i64 wr (.slice r0' (r1 - 1) (r2 - 1)) (pRest us (ar : Int) ((a + 1 : Nat) : Int))) := by
          show Sl _ _ _ _
          have := hs2 wr HS.out
          rw [hr, List.drop_succ_cons, List.drop_zero] at this
          rw [Int.natCast_add]
          exact this
        have HB2 := Lib.hid (hs3 _ _ HB.out)
        have HJ2 : Hid (J G (pFree us (a + 1)).length wr) := by show J _ _ _; rw [free_succ, if_pos (by simpa using hm)]; exact hJs
        obtain ⟨b, off, rfl, c2⟩ : ∃ b off, r0 = some ⟨b, off, none⟩ ∧ wr.cell? ⟨b, off, none⟩ = some (.int .i64 (a : Int)) := by
          obtain ⟨a', cap, e, h1, h2, h3, h4⟩ := HS.out
          simp only [slV, Value.slice.injEq] at e
          obtain ⟨rfl, -, rfl⟩ := e
          rcases h3 with h3 | ⟨b, off, rfl, h5, h6⟩
          · rw [hr] at h3; cases h3
          · refine ⟨b, off, rfl, ?_⟩
            have := h6 0 (by rw [hr]; simp)
            rw [hr] at this
            exact this
        have hs4 : r0' = if r2 = 1 then some ⟨b, off, none⟩ else some ⟨b, off + 1, none⟩ := by
          rw [hs0]
          split
          · rfl
          · show some _ = _
            congr 1
        have hl0 := congrArg List.length hr
        simp only [List.length_cons] at hl0
        have g2 : (r1 : Int) > 0 := by omega
        rw [hs4] at HS2 HB2
        have g3 : decide ((r1 : Int) > 0) = true := decide_eq_true g2
        have g4 : ((a : Int) == (a : Int)) = true := by simp
        have g5 : ¬ r1 = 0 := by omega
        have g6 : 0 < r1 := by omega
        clear hb hr hs0 hs1 hs2 hs3 hs4 hl0 hm hlt ha hlen HS HB hJs
        gi_wp2
        exact ⟨⟨a + 1, (if r2 = 1 then some ⟨b, off, none⟩ else some ⟨b, off + 1, none⟩, r1 - 1, r2 - 1), HLT.out, by first | (simp; done) | (simp; exact HWA.out) | (rw [HWA.out]; simp), rfl, HS2, HB2, HGW, HJ2.out⟩, by have := HLT.out; first | (simp [intOf]; omega) | (rw [HWA.out]; simp [intOf]; omega) | (simp [intOf, HWA.out]; omega)⟩
      · have HMS : Hid (pRest us (ar : Int) (a : Int) = pRest us (ar : Int) ((a : Int) + 1)) := rest_miss hm
        have HFS : Hid ((pFree us (a + 1)).length = (pFree us a).length + 1) := by show _ = _; rw [free_succ, if_neg (by simpa using hm), List.length_append]; rfl
        have hk := free_lt hlt hm
        have HKL : Hid ((pFree us a).length + 1 ≤ (pFree us ar).length) := hk
        have hy0 := HY.out G _ wr HG1.out HGW.out hk hJs
        unfold encF at hy0
        rw [free_at hlt hm] at hy0
        simp only [Option.getD_some] at hy0
        obtain ⟨fn, tmps, assign, body, hy, hRR⟩ := hy0
        by_cases hn0 : r1 = 0
        · subst hn0
          have g3 : decide (((0 : Nat) : Int) > 0) = false := by simp
          have g4 : ¬ (((0 : Nat) : Int) > 0) := by simp
          clear hb hm hlt ha hlen hJs hk
          gi_wp2
          refine hRR.mono ?_
          rintro e W3 ⟨hst, (⟨rfl, hJ3⟩ | ⟨rfl, hJx3⟩)⟩
          · have HS3 : Hid (Sl .i64 W3 (.slice r0 0 r2) (pRest us (ar : Int) ((a + 1 : Nat) : Int))) := by
              show Sl _ _ _ _
              have := sl_stay HS.out HB.out hst.2
              rw [HMS.out] at this
              rw [Int.natCast_add]
              exact this
            have HG3 : Hid (G ≤ W3.heap.size) := Nat.le_trans HGW.out hst.1
            have HJ3 : Hid (J G (pFree us (a + 1)).length W3) := by show J _ _ _; rw [HFS.out]; exact hJ3
            clear hJ3 hst
            gi_wp2
            go_roundw
            case rel => exact ⟨a + 1, (r0, 0, r2), HLT.out, by first | (simp; done) | (rw [HWA.out]; simp), rfl, HS3, HB, HG3, HJ3.out⟩
            case measure => have := HLT.out; first | (simp [intOf]; omega) | (rw [HWA.out]; simp [intOf]; omega)
          · have HJ3 := Lib.hid hJx3
            clear hJx3 hst
            gi_wp2
            refine bodyPost_ret (results_none rfl _ _ _) rfl ?_
            exact ⟨⟨_, rfl⟩, G, HG1.out, .inr ⟨_, HKL.out, HJ3.out⟩⟩
        · have hne : pRest us (ar : Int) (a : Int) ≠ [] := fun e => by rw [e] at hlen; simp at hlen; omega
          obtain ⟨y, hy1⟩ : ∃ y, (pRest us (ar : Int) (a : Int))[0]? = some y := ⟨_, List.getElem?_eq_getElem (by omega)⟩
          have g5 := rest_head hm hy1
          obtain ⟨b, off, rfl, c2⟩ : ∃ b off, r0 = some ⟨b, off, none⟩ ∧ wr.cell? ⟨b, off, none⟩ = some (.int .i64 y) := by
            obtain ⟨a', cap, e, h1, h2, h3, h4⟩ := HS.out
            simp only [slV, Value.slice.injEq] at e
            obtain ⟨rfl, -, rfl⟩ := e
            rcases h3 with h3 | ⟨b, off, rfl, h5, h6⟩
            · exact absurd h3 hne
            · refine ⟨b, off, rfl, ?_⟩
              have := h6 0 (by omega)
              rw [hy1] at this
              exact this
          have g2 : (r1 : Int) > 0 := by omega
          have g3 : decide ((r1 : Int) > 0) = true := decide_eq_true g2
          have g6 : 0 < r1 := by omega
          clear hb hm hlt ha hlen hJs hk hne hy1
          gi_wp2
          refine hRR.mono ?_
          rintro e W3 ⟨hst, (⟨rfl, hJ3⟩ | ⟨rfl, hJx3⟩)⟩
          · have HS3 : Hid (Sl .i64 W3 (.slice (some ⟨b, off, none⟩) r1 r2) (pRest us (ar : Int) ((a + 1 : Nat) : Int))) := by
              show Sl _ _ _ _
              have := sl_stay HS.out HB.out hst.2
              rw [HMS.out] at this
              rw [Int.natCast_add]
              exact this
            have HG3 : Hid (G ≤ W3.heap.size) := Nat.le_trans HGW.out hst.1
            have HJ3 : Hid (J G (pFree us (a + 1)).length W3) := by show J _ _ _; rw [HFS.out]; exact hJ3
            clear hJ3 hst
            gi_wp2
            go_roundw
            case rel => exact ⟨a + 1, (some ⟨b, off, none⟩, r1, r2), HLT.out, by first | (simp; done) | (rw [HWA.out]; simp), rfl, HS3, HB, HG3, HJ3.out⟩
            case measure => have := HLT.out; first | (simp [intOf]; omega) | (rw [HWA.out]; simp [intOf]; omega)
          · have HJ3 := Lib.hid hJx3
            clear hJx3 hst
            gi_wp2
            refine bodyPost_ret (results_none rfl _ _ _) rfl ?_
            exact ⟨⟨_, rfl⟩, G, HG1.out, .inr ⟨_, HKL.out, HJ3.out⟩⟩
    · obtain rfl : a = ar := by omega
      have g1 : ¬ (a : Int) < (a : Int) := by omega
      have HJ := Lib.hid hJs
      clear hb hlt ha hlen hJs HS
      gi_wp2
      go_end0
      exact ⟨⟨_, rfl⟩, G, HG1.out, .inl HJ.out⟩
end Go.Proofs.Ytiidfffedoekiaa
