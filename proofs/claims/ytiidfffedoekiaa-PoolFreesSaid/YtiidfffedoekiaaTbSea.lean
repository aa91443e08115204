/- The developers' search: one labelled loop. -/
import Derived.Test.YtiidfffedoekiaaTbPr
import Derived.Test.YtiidfffedoekiaaQuiet
import Derived.WalkMore
import Derived.LoopTactic
namespace Go.Proofs.Ytiidfffedoekiaa
open Go.RowKit
set_option linter.unusedVariables false
attribute [-simp] Try.isAgg42 Try.zeroValue42
attribute [-go_sem] loadVar storeVar
attribute [local go_sem] loadVar_openP storeVar_openP zero_prs build_prs0

set_option maxRecDepth 100000 in
set_option maxHeartbeats 4000000 in
theorem tb_search {w : World} {v : Value} {l : List (Int × Int)} (h : Prt w v l) (b : Int) (hlen : l.length ≤ 1000000) :
    Calls Try.prog 47 #[v, .int .i64 b] w fun e w' => e = .returned (.tuple #[.int .i64 ((tSearch l b).1 : Int), .bool (tSearch l b).2]) ∧ Below w.heap.size w w' := by
  have HP := Lib.hid h
  obtain ⟨a, cap, rfl, hc1, hc2, -⟩ := h
  obtain ⟨n, hn⟩ : ∃ n, l.length = n := ⟨_, rfl⟩
  rw [hn] at HP hlen hc1 ⊢
  have HN := Lib.hid hn
  clear hn hc1 hc2
  go_enter Try.func47, Try.ntmps47
  go_wp2_with fail
  go_step3
  go_wp2_with fail
  go_step3
  go_wp2_with fail
  go_loopw [4, 5, 12] (fun ix fv iv wr => ∃ k : Nat, k ≤ n ∧ fv = .bool false ∧ iv = .int .i64 (k : Int) ∧ ix = .int .i64 (tSeen l b k : Int) ∧ Hid (∀ (j : Nat) (p : Int × Int), j < k → l[j]? = some p → p.1 ≠ b) ∧ Hid (Below w.heap.size w wr)) (fun _ _ iv _ => n - (intOf iv).toNat)
  case atStart => exact ⟨0, Nat.zero_le _, rfl, rfl, by rw [show tSeen l b 0 = n from by unfold tSeen; rw [if_neg (by omega)]; exact HN.out], fun j p hj => absurd hj (by omega), Below.refl _ _⟩
  case round =>
    obtain ⟨k, hk, rfl, rfl, rfl, HS, HB⟩ := hrel
    obtain ⟨s, hs⟩ : ∃ s, tSeen l b k = s := ⟨_, rfl⟩
    have HSS := Lib.hid hs
    rw [hs]
    clear hs
    by_cases hlt : k < n
    · obtain ⟨p, hp⟩ : ∃ p, l[k]? = some p := ⟨_, List.getElem?_eq_getElem (by rw [HN.out]; exact hlt)⟩
      obtain ⟨bb, off, rfl, hbb, c1, c2⟩ := (HP.out.below HB.out).at hp
      obtain ⟨x, y⟩ := p
      simp only at c1 c2
      have HPK := Lib.hid hp
      have g1 : (k : Int) < (n : Int) := by omega
      have HW : Hid (wrap64 ((k : Int) + 1) = (k : Int) + 1) := IntWalk.wrap64_in _ (by omega)
      have LD := load_prs c1 c2
      have ST := new_prs wr x y
      obtain ⟨W2, hW2⟩ : ∃ W2, wr.alloc (.cells #[.int .i64 x, .int .i64 y] 42) = W2 := ⟨_, rfl⟩
      rw [hW2] at ST
      have HR : RowC W2 wr.heap.size 42 (prL x y) := by rw [← hW2]; exact RowC.new wr _ _
      have d1 : W2.cell? ⟨wr.heap.size, 0, none⟩ = some (.int .i64 x) := HR.cell 0 _ rfl
      have HB2 : Hid (Below w.heap.size w W2) := by show Below _ _ _; rw [← hW2]; exact HB.out.trans ((below_new wr _).mono HB.out.size)
      have HLT := Lib.hid hlt
      clear hp hbb c1 c2 hW2 HB HR hlt
      by_cases hx : x = b
      · subst hx
        have q1 : (x == x) = true := by simp
        have hf : tSearch l x = (k, true) := by
          unfold tSearch
          rw [(tFind_some (i := k)).2 ⟨⟨_, HPK.out, rfl⟩, fun j p hj hp => HS.out j p hj hp⟩]
        have HF := Lib.hid hf
        clear hf
        go_wp2_with fail
        rw [Exit.noGoto_ret]
        refine bodyPost_ret (results_tmp2 rfl _ _ _) rfl ?_
        exact ⟨by rw [HF.out]; rfl, HB2.out⟩
      · have q1 : (x == b) = false := by simpa using hx
        have HS1 : Hid (∀ (j : Nat) (p : Int × Int), j < k + 1 → l[j]? = some p → p.1 ≠ b) := fun j p hj hp => by
          by_cases e : j = k
          · subst e; rw [HPK.out] at hp; cases hp; exact hx
          · exact HS.out j p (by omega) hp
        by_cases hgt : b < x
        · have q2 : decide (x > b) = true := by simpa using hgt
          by_cases hsn : s = n
          · subst hsn
            have HN1 : Hid (tSeen l b (k + 1) = k) := tSeen_new HS1.out HPK.out hgt (by rw [HN.out]; exact HLT.out) (by rw [HSS.out, HN.out])
            go_wp2_with fail
            exact ⟨⟨k + 1, HLT.out, rfl, by simp, by rw [HN1.out], HS1, HB2⟩, by simp [intOf]; omega⟩
          · have q3 : ((s : Int) == (n : Int)) = false := by simp; omega
            have HN1 : Hid (tSeen l b (k + 1) = s) := by show _ = _; rw [tSeen_had (by rw [HN.out]; exact HLT.out) (by rw [HSS.out, HN.out]; exact hsn)]; exact HSS.out
            clear hsn
            go_wp2_with fail
            exact ⟨⟨k + 1, HLT.out, rfl, by simp, by rw [HN1.out], HS1, HB2⟩, by simp [intOf]; omega⟩
        · have q2 : decide (x > b) = false := by simpa using hgt
          have HN1 : Hid (tSeen l b (k + 1) = s) := by show _ = _; rw [tSeen_stay HPK.out (by show x ≤ b; omega)]; exact HSS.out
          go_wp2_with fail
          exact ⟨⟨k + 1, HLT.out, rfl, by simp, by rw [HN1.out], HS1, HB2⟩, by simp [intOf]; omega⟩
    · obtain rfl : k = n := by omega
      have hs2 : s = tGt l b := by rw [← HSS.out, ← HN.out]; exact tSeen_end l b
      have hf : tSearch l b = (s, false) := by
        unfold tSearch
        rw [tFind_none.2 fun j p hp => HS.out j p (by have := (List.getElem?_eq_some_iff.1 hp).1; rw [HN.out] at this; exact this) hp, hs2]
      have HF := Lib.hid hf
      clear hf hs2
      go_wp2_with fail
      try rw [Exit.noGoto_ret]
      refine bodyPost_ret (results_tmp2 rfl _ _ _) rfl ?_
      exact ⟨by rw [HF.out]; rfl, HB.out⟩

set_option maxRecDepth 100000 in
set_option maxHeartbeats 4000000 in
/-- **Find**. -/
theorem tb_find {w : World} {v : Value} {l : List (Int × Int)} (h : Prt w v l) (b : Int) (hlen : l.length ≤ 1000000) :
    Calls Try.prog 22 #[v, .int .i64 b] w fun e w' => e = .returned (.tuple #[.int .i64 (tAt l b), .bool (tFind l b).isSome]) ∧ Below w.heap.size w w' := by
  have HP := Lib.hid h
  have HC := Lib.hid (tb_search h b hlen)
  obtain ⟨a, cap, rfl, -⟩ := h
  obtain ⟨n, hn⟩ : ∃ n, l.length = n := ⟨_, rfl⟩
  rw [hn] at HP HC hlen ⊢
  have HN := Lib.hid hn
  clear hn
  cases hf : tFind l b with
  | none =>
    have e1 : tSearch l b = (tGt l b, false) := by unfold tSearch; rw [hf]
    rw [e1] at HC
    rw [show tAt l b = 0 from by unfold tAt; rw [hf]]
    clear hf e1
    go_enter Try.func22, Try.ntmps22
    go_wp2_with fail
    go_at_call 47
    refine HC.out.mono ?_
    rintro e x ⟨rfl, hb⟩
    have HB := Lib.hid hb
    clear hb
    go_wp2_with fail
    refine bodyPost_ret (results_tmp2 rfl _ _ _) rfl ?_
    exact ⟨rfl, HB.out⟩
  | some i =>
    have e1 : tSearch l b = (i, true) := by unfold tSearch; rw [hf]
    rw [e1] at HC
    have hi := tFind_lt hf
    have hp : l[i]? = some l[i] := List.getElem?_eq_getElem hi
    obtain ⟨p, hpp⟩ : ∃ p, l[i] = p := ⟨_, rfl⟩
    rw [hpp] at hp
    obtain ⟨x0, y0⟩ := p
    have hv : tAt l b = y0 := by unfold tAt; rw [hf]; simp only [hp]; rfl
    rw [hv]
    simp only [Option.isSome_some]
    have HPI := Lib.hid hp
    have hin : (i : Int) < (n : Int) := by rw [HN.out] at hi; omega
    clear hf e1 hi hpp hv hp
    go_enter Try.func22, Try.ntmps22
    go_wp2_with fail
    go_at_call 47
    refine HC.out.mono ?_
    rintro e x ⟨rfl, hb⟩
    obtain ⟨bb, off, rfl, hbb, c1, c2⟩ := (HP.out.below hb).at HPI.out
    simp only at c1 c2
    have HB := Lib.hid hb
    clear hb hbb c1
    go_wp2_with fail
    refine bodyPost_ret (results_tmp2 rfl _ _ _) rfl ?_
    exact ⟨rfl, HB.out⟩
end Go.Proofs.Ytiidfffedoekiaa
