/- Both together may be; each block of either is there; what is free and what is kept are all. -/
import Derived.Test.YtlnkfphkgjcdiaaTbTl
import Derived.Test.YtlnkfphkgjcdiaaTbPure
import Derived.Test.YtlnkfphkgjcdiaaArgSl
namespace Go.Proofs.Ytlnkfphkgjcdiaa.tableMerges
open Go.ChangeShapes Go.WideShapes Go.ChangeAt Go.RowKit
set_option linter.unusedVariables false
set_option linter.unusedSimpArgs false
attribute [-simp] Try.isAgg29 Try.zeroValue29 Try.isAgg34 Try.zeroValue34
attribute [-go_sem] loadVar storeVar
attribute [local go_sem] loadVar_openB storeVar_openB zero_prs build_prs0 build_prs zero_both build_both

set_option maxRecDepth 100000 in
set_option maxHeartbeats 20000000 in
theorem walk (v0 v1 : Value) (w : World) (w0 : Arg w 22 v0) (w1 : Arg w 22 v1) :
    Calls Try.prog 4 #[v0, v1] w fun e w' => e = .returned (.bool true) ∧ Below w.heap.size w w' := by
  have hmx : Try.prog.follows .mixedOrders = true := by kernel_rfl
  obtain ⟨a, ha⟩ := w0.prt
  obtain ⟨b, hb⟩ := w1.prt
  have HA := Lib.hid ha
  have HB := Lib.hid hb
  have HB0 : Hid (Below w.heap.size w w) := Below.refl _ _
  obtain ⟨pa, ca, rfl, -⟩ := ha
  obtain ⟨pb, cb, rfl, -⟩ := hb
  clear w0 w1
  by_cases hla : 64 < a.length
  · have qa : (64 : Int) < (a.length : Int) := by omega
    go_enter Try.func4, Try.ntmps4
    go_wp2_with fail
    refine (tb_wakes _).mono ?_
    rintro e W1 ⟨rfl, hbw⟩
    have HBEW1 : Hid (Below w.heap.size w W1) := HB0.out.trans (hbw.mono HB0.out.size)
    clear hbw
    go_wp2_with fail
    go_ret
    exact ⟨rfl, HBEW1.out⟩
  by_cases hlb : 64 < b.length
  · have qa : ¬ (64 : Int) < (a.length : Int) := by omega
    have qb : (64 : Int) < (b.length : Int) := by omega
    go_enter Try.func4, Try.ntmps4
    go_wp2_with fail
    refine (tb_wakes _).mono ?_
    rintro e W1 ⟨rfl, hbw⟩
    have HBEW1 : Hid (Below w.heap.size w W1) := HB0.out.trans (hbw.mono HB0.out.size)
    clear hbw
    go_wp2_with fail
    go_ret
    exact ⟨rfl, HBEW1.out⟩
  have qa : ¬ (64 : Int) < (a.length : Int) := by omega
  have qb : ¬ (64 : Int) < (b.length : Int) := by omega
  have HG := Lib.hid (rf_good HA.out 64 200 (by omega))
  cases hga : tGood a 64 200 with
  | false =>
    rw [hga] at HG
    clear hga
    go_enter Try.func4, Try.ntmps4
    go_wp2_with fail
    go_at_call 13
    refine HG.out.mono ?_
    rintro e W1 ⟨rfl, hx1⟩
    have HB1 := Lib.hid hx1
    clear hx1
    go_wp2_with fail
    refine (tb_wakes _).mono ?_
    rintro e W2 ⟨rfl, hbw⟩
    have HBEW2 : Hid (Below w.heap.size w W2) := HB1.out.trans (hbw.mono HB1.out.size)
    clear hbw
    go_wp2_with fail
    go_ret
    exact ⟨rfl, HBEW2.out⟩
  | true =>
    rw [hga] at HG
    have HGA := Lib.hid hga
    clear hga
    go_enter Try.func4, Try.ntmps4
    go_wp2_with fail
    go_at_call 13
    refine HG.out.mono ?_
    rintro e W1 ⟨rfl, hx1⟩
    have HB1 := Lib.hid hx1
    have HA1 := Lib.hid (HA.out.below hx1)
    have HBB1 := Lib.hid (HB.out.below hx1)
    have HG2 := Lib.hid (rf_good HBB1.out 64 200 (by omega))
    clear hx1 HG HA HB HB0
    cases hgb : tGood b 64 200 with
    | false =>
      rw [hgb] at HG2
      clear hgb
      go_wp2_with fail
      go_at_call 13
      refine HG2.out.mono ?_
      rintro e W2 ⟨rfl, hx2⟩
      have HB2 : Hid (Below w.heap.size w W2) := HB1.out.trans (hx2.mono HB1.out.size)
      clear hx2
      go_wp2_with fail
      refine (tb_wakes _).mono ?_
      rintro e W3 ⟨rfl, hbw⟩
      have HBEW3 : Hid (Below w.heap.size w W3) := HB2.out.trans (hbw.mono HB2.out.size)
      clear hbw
      go_wp2_with fail
      go_ret
      exact ⟨rfl, HBEW3.out⟩
    | true =>
      rw [hgb] at HG2
      have HGB := Lib.hid hgb
      clear hgb
      go_wp2_with fail
      go_at_call 13
      refine HG2.out.mono ?_
      rintro e W2 ⟨rfl, hx2⟩
      have HB2 : Hid (Below w.heap.size w W2) := HB1.out.trans (hx2.mono HB1.out.size)
      have HA2 := Lib.hid (HA1.out.below hx2)
      have HBB2 := Lib.hid (HBB1.out.below hx2)
      clear hx2 HG2 HA1 HBB1 HB1
      obtain ⟨n, hn⟩ : ∃ n, a.length = n := ⟨_, rfl⟩
      obtain ⟨nb, hnb⟩ : ∃ n, b.length = n := ⟨_, rfl⟩
      have HN := Lib.hid hn
      have HNB := Lib.hid hnb
      rw [hn] at HA2 hla qa ⊢
      rw [hnb] at HBB2 hlb qb ⊢
      clear hn hnb
      go_wp2_with fail
      go_loopw [5] (fun iv wr => ∃ i : Nat, i ≤ n ∧ iv = .int .i64 (i : Int) ∧ Hid (∀ (j : Nat) (p : Int × Int), j < i → a[j]? = some p → ∀ q ∈ b, p.2 ≠ q.2) ∧ Hid (Below W2.heap.size W2 wr)) (fun iv _ => n - (intOf iv).toNat)
      case atStart => exact ⟨0, Nat.zero_le _, rfl, fun j p h => absurd h (by omega), Below.refl _ _⟩
      case round =>
        obtain ⟨i, hi, rfl, HS, HBR⟩ := hrel
        by_cases hin : i < n
        · obtain ⟨p, hp⟩ : ∃ p, a[i]? = some p := ⟨_, List.getElem?_eq_getElem (by rw [HN.out]; exact hin)⟩
          have HP := Lib.hid hp
          have g1 : (i : Int) < (n : Int) := by omega
          have HW : Hid (wrap64 ((i : Int) + 1) = (i : Int) + 1) := IntWalk.wrap64_in _ (by omega)
          obtain ⟨x0, y0⟩ := p
          obtain ⟨Y, hY⟩ : ∃ Y, wr = Y := ⟨_, rfl⟩
          rw [hY] at HBR ⊢
          have HIN := Lib.hid hin
          clear hY hp hin
          go_wp2_with fail
          go_loopw [6] (fun kv wr => ∃ k : Nat, k ≤ nb ∧ kv = .int .i64 (k : Int) ∧ Hid (∀ (j : Nat) (q : Int × Int), j < k → b[j]? = some q → y0 ≠ q.2) ∧ Hid (Below W2.heap.size W2 wr)) (fun kv _ => nb - (intOf kv).toNat)
          case atStart => exact ⟨0, Nat.zero_le _, rfl, fun j p h => absurd h (by omega), HBR⟩
          case round =>
            obtain ⟨k, hk, rfl, HT, HBK⟩ := hrel
            by_cases hkn : k < nb
            · obtain ⟨q, hq⟩ : ∃ q, b[k]? = some q := ⟨_, List.getElem?_eq_getElem (by rw [HNB.out]; exact hkn)⟩
              obtain ⟨b1, o1, rfl, -, -, c1⟩ := (HA2.out.below HBK.out).at HP.out
              obtain ⟨b2, o2, rfl, -, -, c2⟩ := (HBB2.out.below HBK.out).at hq
              obtain ⟨x1, y1⟩ := q
              simp only at c1 c2
              have HQ := Lib.hid hq
              have g2 : (k : Int) < (nb : Int) := by omega
              have HWK : Hid (wrap64 ((k : Int) + 1) = (k : Int) + 1) := IntWalk.wrap64_in _ (by omega)
              obtain ⟨V, hV⟩ : ∃ V, wr.drew = V := ⟨_, rfl⟩
              have c3 : V.cell? ⟨b1, o1 + i * 2 + 1, none⟩ = some (.int .i64 y0) := by rw [← hV]; exact c1
              have c4 : V.cell? ⟨b2, o2 + k * 2 + 1, none⟩ = some (.int .i64 y1) := by rw [← hV]; exact c2
              have HBV : Hid (Below W2.heap.size W2 V) := by show Below _ _ _; rw [← hV]; exact HBK.out.drew
              have HKN := Lib.hid hkn
              clear hq c1 c2 hkn HBK
              go_wp2_with fail
              refine region_plan (fun x => x = V) 10 (.takes [0, 1, 2, 3, 4, 5, 6, 7, 8, 9] .leaf) hmx (by kernel_rfl) (by intro c x v a w h; cases x <;> exact h) hV ?_
              rw [hV]
              clear hV
              repeat (rw [wpPlan_takes_cons]; simp only [nth_zero, nth_succ]; go_big_quiet_step (fail); refine wpQuiet_nil ?_)
              rw [wpPlan_takes_nil, wpPlan_leaf]
              simp only [List.drop_succ_cons, List.drop_zero]
              clear c3 c4
              by_cases hy : y0 = y1
              · have qy : (y0 == y1) = true := by simpa using hy
                have HBF : Hid (Below w.heap.size w V) := HB2.out.trans (HBV.out.mono HB2.out.size)
                clear hy
                go_wp2_with fail
                refine (tb_wakes _).mono ?_
                rintro e W9 ⟨rfl, hbw⟩
                have HBEW9 : Hid (Below w.heap.size w W9) := HBF.out.trans (hbw.mono HBF.out.size)
                clear hbw
                go_wp2_with fail
                go_ret
                exact ⟨rfl, HBEW9.out⟩
              · have qy : (y0 == y1) = false := by simpa using hy
                have HT1 : Hid (∀ (j : Nat) (q : Int × Int), j < k + 1 → b[j]? = some q → y0 ≠ q.2) := fun j q hj hq => by
                  by_cases e : j = k
                  · subst e; rw [HQ.out] at hq; cases hq; exact hy
                  · exact HT.out j q (by omega) hq
                clear hy
                go_wp2_with fail
                exact ⟨⟨k + 1, HKN.out, by simp, HT1, HBV⟩, by have := HKN.out; simp [intOf]; omega⟩
            · obtain rfl : k = nb := by omega
              have HS1 : Hid (∀ (j : Nat) (p : Int × Int), j < i + 1 → a[j]? = some p → ∀ q ∈ b, p.2 ≠ q.2) := fun j p hj hp q hq => by
                by_cases e : j = i
                · subst e
                  rw [HP.out] at hp
                  cases hp
                  obtain ⟨m, hm⟩ := List.getElem?_of_mem hq
                  exact HT.out m q (by have := (List.getElem?_eq_some_iff.1 hm).1; rw [HNB.out] at this; exact this) hm
                · exact HS.out j p (by omega) hp q hq
              go_wp2_with fail
              exact ⟨⟨i + 1, HIN.out, by simp, HS1, HBK⟩, by have := HIN.out; simp [intOf]; omega⟩
        · obtain rfl : i = n := by omega
          have hdis : ∀ p ∈ a, ∀ q ∈ b, p.2 ≠ q.2 := fun p hp q hq => by
            obtain ⟨j, hj⟩ := List.getElem?_of_mem hp
            exact HS.out j p (by have := (List.getElem?_eq_some_iff.1 hj).1; rw [HN.out] at this; exact this) hj q hq
          obtain ⟨f1, f2, f3, f4⟩ := merges_fact HGA.out HGB.out hdis
          have hla3 := HA2.out.below HBR.out
          have hlb3 := HBB2.out.below HBR.out
          have HMC := Lib.hid (tb_merge hla3 hlb3 (by rw [HN.out]; omega) (by rw [HNB.out]; omega))
          have HA3 := Lib.hid hla3
          have HBB3 := Lib.hid hlb3
          have HB3 : Hid (Below w.heap.size w wr) := HB2.out.trans (HBR.out.mono HB2.out.size)
          obtain ⟨M, hM⟩ : ∃ M, tKeep a a b = M := ⟨_, rfl⟩
          obtain ⟨F, hF⟩ : ∃ F, tFree a b = F := ⟨_, rfl⟩
          rw [hM] at HMC f1 f2 f3 f4
          rw [hF] at HMC f2 f4
          have HF1 := Lib.hid f1
          have HF3 := Lib.hid f3
          have HF4 := Lib.hid f4
          rw [HN.out, HNB.out] at f2
          obtain ⟨Y, hY⟩ : ∃ Y, wr = Y := ⟨_, rfl⟩
          rw [hY] at HMC HA3 HBB3 HB3 ⊢
          obtain ⟨ml, hml⟩ : ∃ ml, M.length = ml := ⟨_, rfl⟩
          obtain ⟨fl, hfl⟩ : ∃ fl, F.length = fl := ⟨_, rfl⟩
          rw [hml, hfl] at f2
          have HML := Lib.hid hml
          have HFL := Lib.hid hfl
          clear hla3 hlb3 hdis f1 f3 f4 hM hF HBR HA2 HBB2 HB2 hY HS hin hi hml hfl
          go_wp2_with fail
          go_at_call 10
          refine HMC.out.mono ?_
          rintro e W4 ⟨vm, vf, rfl, hm, hf, hx4⟩
          obtain ⟨am, cm, rfl⟩ := hm.form
          obtain ⟨af, cf, rfl⟩ := hf.form
          have HB4 : Hid (Below w.heap.size w W4) := HB3.out.trans (hx4.mono HB3.out.size)
          have HA4 := Lib.hid (HA3.out.below hx4)
          have HBB4 := Lib.hid (HBB3.out.below hx4)
          have HM4 := Lib.hid hm.prt
          have HF4S := Lib.hid hf.sl
          have HGC := Lib.hid (tb_good HM4.out 64 200 (by rw [HML.out]; omega))
          rw [HF1.out] at HGC
          rw [HML.out] at HM4 HGC ⊢
          rw [HFL.out] at HF4S ⊢
          clear hm hf hx4 HMC HA3 HBB3 HB3
          go_wp2_with fail
          go_at_call 12
          refine HGC.out.mono ?_
          rintro e W5 ⟨rfl, hx5⟩
          have HB5 : Hid (Below w.heap.size w W5) := HB4.out.trans (hx5.mono HB4.out.size)
          have HA5 := Lib.hid (HA4.out.below hx5)
          have HBB5 := Lib.hid (HBB4.out.below hx5)
          have HM5 := Lib.hid (HM4.out.below hx5)
          have HFS5 := Lib.hid (HF4S.out.below hx5)
          have q2 : ((ml : Int) + (fl : Int) != (i : Int) + (nb : Int)) = false := by simp; omega
          have q3 : (ml : Int) + (fl : Int) = (i : Int) + (nb : Int) := by omega
          have hmb : ml ≤ 128 := by omega
          have hfb : fl ≤ 128 := by omega
          clear hx5 HGC HA4 HBB4 HM4 HF4S HB4 f2 q3
          go_wp2_with fail
          go_loopw [9] (fun jv wr => ∃ j : Nat, j ≤ i ∧ jv = .int .i64 (j : Int) ∧ Hid (Below W5.heap.size W5 wr)) (fun jv _ => i - (intOf jv).toNat)
          case atStart => exact ⟨0, Nat.zero_le _, rfl, Below.refl _ _⟩
          case round =>
            obtain ⟨j, hj, rfl, HBR⟩ := hrel
            by_cases hji : j < i
            · obtain ⟨p, hp⟩ : ∃ p, a[j]? = some p := ⟨_, List.getElem?_eq_getElem (by rw [HN.out]; exact hji)⟩
              obtain ⟨g1, g2⟩ := HF3.out p (List.mem_of_getElem? hp)
              obtain ⟨b1, o1, rfl, -, c1, -⟩ := (HA5.out.below HBR.out).at hp
              obtain ⟨x0, y0⟩ := p
              simp only at c1 g1 g2
              have hfq := tb_find (HM5.out.below HBR.out) x0 (by rw [HML.out]; omega)
              rw [g1, g2] at hfq
              have HFQ := Lib.hid hfq
              have HP := Lib.hid hp
              have g3 : (j : Int) < (i : Int) := by omega
              have HWJ : Hid (wrap64 ((j : Int) + 1) = (j : Int) + 1) := IntWalk.wrap64_in _ (by omega)
              have HJI := Lib.hid hji
              clear hp g1 g2 hfq hji
              go_wp2_with fail
              go_at_call 8
              refine HFQ.out.mono ?_
              rintro e z ⟨rfl, hbz⟩
              have HBZ : Hid (Below W5.heap.size W5 z) := HBR.out.trans (hbz.mono HBR.out.size)
              obtain ⟨b1', o1', he, -, -, c2⟩ := (HA5.out.below HBZ.out).at HP.out
              cases he
              simp only at c2
              clear hbz c1 HFQ
              go_wp2_with fail
              exact ⟨⟨j + 1, HJI.out, by simp, HBZ⟩, by have := HJI.out; simp [intOf]; omega⟩
            · obtain rfl : j = i := by omega
              have HB6 : Hid (Below w.heap.size w wr) := HB5.out.trans (HBR.out.mono HB5.out.size)
              have HBB6 := Lib.hid (HBB5.out.below HBR.out)
              have HM6 := Lib.hid (HM5.out.below HBR.out)
              have HFS6 := Lib.hid (HFS5.out.below HBR.out)
              obtain ⟨Y, hY⟩ : ∃ Y, wr = Y := ⟨_, rfl⟩
              rw [hY] at HB6 HBB6 HM6 HFS6 ⊢
              clear hY HBR HB5 HBB5 HM5 HFS5 HA5 HF3 hji hj
              go_wp2_with fail
              go_loopw [12] (fun jv wr => ∃ k : Nat, k ≤ nb ∧ jv = .int .i64 (k : Int) ∧ Hid (Below Y.heap.size Y wr)) (fun jv _ => nb - (intOf jv).toNat)
              case atStart => exact ⟨0, Nat.zero_le _, rfl, Below.refl _ _⟩
              case round =>
                obtain ⟨k, hk, rfl, HBR⟩ := hrel
                by_cases hkn : k < nb
                · obtain ⟨q, hq⟩ : ∃ q, b[k]? = some q := ⟨_, List.getElem?_eq_getElem (by rw [HNB.out]; exact hkn)⟩
                  obtain ⟨g1, g2⟩ := HF4.out q (List.mem_of_getElem? hq)
                  obtain ⟨b1, o1, rfl, -, c1, -⟩ := (HBB6.out.below HBR.out).at hq
                  obtain ⟨x0, y0⟩ := q
                  simp only at c1 g1 g2
                  obtain ⟨at0, hat⟩ : ∃ t, tAt M x0 = t := ⟨_, rfl⟩
                  have hfq := tb_find (HM6.out.below HBR.out) x0 (by rw [HML.out]; omega)
                  rw [g1, hat] at hfq
                  rw [hat] at g2
                  have HFQ := Lib.hid hfq
                  have HQ := Lib.hid hq
                  have HG2 := Lib.hid g2
                  have g3 : (k : Int) < (nb : Int) := by omega
                  have HWK : Hid (wrap64 ((k : Int) + 1) = (k : Int) + 1) := IntWalk.wrap64_in _ (by omega)
                  have HKN := Lib.hid hkn
                  clear hq g1 g2 hfq hkn hat
                  go_wp2_with fail
                  go_at_call 8
                  refine HFQ.out.mono ?_
                  rintro e z ⟨rfl, hbz⟩
                  have HBZ : Hid (Below Y.heap.size Y z) := HBR.out.trans (hbz.mono HBR.out.size)
                  clear hbz c1 HFQ HBR
                  go_wp2_with fail
                  go_loopw [15, 16] (fun fv hv wr => ∃ (h : Nat) (fr : Bool), h ≤ fl ∧ fv = .bool fr ∧ hv = .int .i64 (h : Int) ∧ Hid (fr = true ↔ y0 ∈ F.take h) ∧ Hid (Below Y.heap.size Y wr)) (fun _ hv _ => fl - (intOf hv).toNat)
                  case atStart => exact ⟨0, false, Nat.zero_le _, rfl, rfl, (by show _ ↔ _; simp), HBZ⟩
                  case round =>
                    obtain ⟨h, fr, hh, rfl, rfl, HFR, HBH⟩ := hrel
                    by_cases hhf : h < fl
                    · obtain ⟨V, hV⟩ : ∃ V, wr.drew = V := ⟨_, rfl⟩
                      have hbv : Below wr.heap.size wr V := by rw [← hV]; exact (Below.refl _ wr).drew
                      have HBV : Hid (Below Y.heap.size Y V) := HBH.out.trans (hbv.mono HBH.out.size)
                      obtain ⟨z0, hz0⟩ : ∃ z0, F[h]?.getD 0 = z0 := ⟨_, rfl⟩
                      have hzs : F[h]? = some z0 := by
                        rw [← hz0, List.getElem?_eq_getElem (by rw [HFL.out]; exact hhf)]
                        rfl
                      have hts : F.take (h + 1) = F.take h ++ [z0] := by rw [List.take_add_one, hzs]; rfl
                      have HTS := Lib.hid hts
                      obtain ⟨bf, of, haf, c3⟩ : ∃ bf of, af = some ⟨bf, of, none⟩ ∧ V.cell? ⟨bf, of + h, none⟩ = some (.int .i64 z0) := by
                        obtain ⟨a2, c2, e, -, -, hl, -⟩ := HFS6.out.below HBV.out
                        simp only [Value.slice.injEq] at e
                        obtain ⟨rfl, -, rfl⟩ := e
                        rcases hl with hl | ⟨bf, of, rfl, h1, h2⟩
                        · have := HFL.out; rw [hl] at this; simp at this; omega
                        · exact ⟨bf, of, rfl, by rw [← hz0]; exact h2 h (by rw [HFL.out]; exact hhf)⟩
                      subst haf
                      obtain ⟨b1', o1', he, -, -, c4⟩ := (HBB6.out.below HBV.out).at HQ.out
                      cases he
                      simp only at c4
                      have g4 : (h : Int) < (fl : Int) := by omega
                      have HWH : Hid (wrap64 ((h : Int) + 1) = (h : Int) + 1) := IntWalk.wrap64_in _ (by omega)
                      have HHF := Lib.hid hhf
                      have HZ0 := Lib.hid hz0
                      clear hbv hzs hts hhf hz0 HBH
                      cases fr with
                      | true =>
                        have HFR1 : Hid (true = true ↔ y0 ∈ F.take (h + 1)) := by
                          show _ ↔ _
                          rw [HTS.out, List.mem_append]
                          exact ⟨fun e => .inl (HFR.out.1 e), fun _ => rfl⟩
                        go_wp2_with fail
                        refine region_plan (fun x => x = V) 13 (.takes [0, 1, 2, 3, 4, 5, 6, 7, 8, 9, 10, 11, 12] .leaf) hmx (by kernel_rfl) (by intro c x v a w h; cases x <;> exact h) hV ?_
                        rw [hV]
                        clear hV
                        repeat (rw [wpPlan_takes_cons]; simp only [nth_zero, nth_succ]; go_big_quiet_step (fail); try (with_reducible refine wpQuiet_nil ?_))
                        rw [wpPlan_takes_nil, wpPlan_leaf]
                        simp only [List.drop_succ_cons, List.drop_zero]
                        clear c3 c4
                        go_wp2_with fail
                        exact ⟨⟨h + 1, true, HHF.out, rfl, by simp, ⟨fun _ => HFR1.out.1 (by trivial), fun _ => rfl⟩, HBV⟩, by have := HHF.out; simp [intOf]; omega⟩
                      | false =>
                        have HFR1 : Hid ((z0 == y0) = true ↔ y0 ∈ F.take (h + 1)) := by
                          show _ ↔ _
                          rw [HTS.out, List.mem_append, List.mem_singleton]
                          constructor
                          · intro e; exact .inr (by simpa using Eq.symm (by simpa using e))
                          · rintro (e | e)
                            · exact absurd (HFR.out.2 e) (by simp)
                            · simp [e]
                        go_wp2_with fail
                        refine region_plan (fun x => x = V) 13 (.takes [0, 1, 2, 3, 4, 5, 6, 7, 8, 9, 10, 11, 12] .leaf) hmx (by kernel_rfl) (by intro c x v a w h; cases x <;> exact h) hV ?_
                        rw [hV]
                        clear hV
                        repeat (rw [wpPlan_takes_cons]; simp only [nth_zero, nth_succ]; go_big_quiet_step (fail); try (with_reducible refine wpQuiet_nil ?_))
                        rw [wpPlan_takes_nil, wpPlan_leaf]
                        simp only [List.drop_succ_cons, List.drop_zero]
                        clear c3 c4
                        go_wp2_with fail
                        exact ⟨⟨h + 1, _, HHF.out, rfl, by simp, HFR1, HBV⟩, by have := HHF.out; simp [intOf]; omega⟩
                    · obtain rfl : h = fl := by omega
                      have hfr2 : fr = true ↔ y0 ∈ F := by
                        have := HFR.out
                        rw [List.take_of_length_le (by rw [HFL.out]; exact Nat.le_refl _)] at this
                        exact this
                      obtain ⟨b1', o1', he, -, -, c4⟩ := (HBB6.out.below HBH.out).at HQ.out
                      cases he
                      simp only at c4
                      clear HFR hhf hh
                      cases fr with
                      | true =>
                        have qe : (at0 == y0) = false := by
                          simp only [beq_eq_false_iff_ne]
                          exact fun e => HG2.out.1 e (hfr2.1 rfl)
                        clear hfr2
                        go_wp2_with fail
                        exact ⟨⟨k + 1, HKN.out, by simp, HBH⟩, by have := HKN.out; simp [intOf]; omega⟩
                      | false =>
                        have qe : (at0 == y0) = true := by
                          simp only [beq_iff_eq]
                          exact HG2.out.2 fun e => by have := hfr2.2 e; cases this
                        clear hfr2
                        go_wp2_with fail
                        exact ⟨⟨k + 1, HKN.out, by simp, HBH⟩, by have := HKN.out; simp [intOf]; omega⟩
                · obtain rfl : k = nb := by omega
                  have HBF : Hid (Below w.heap.size w wr) := HB6.out.trans (HBR.out.mono HB6.out.size)
                  clear hkn hk
                  go_wp2_with fail
                  refine (tb_wakes _).mono ?_
                  rintro e W9 ⟨rfl, hbw⟩
                  have HBEW9 : Hid (Below w.heap.size w W9) := HBF.out.trans (hbw.mono HBF.out.size)
                  clear hbw
                  go_wp2_with fail
                  go_ret
                  exact ⟨rfl, HBEW9.out⟩

set_option maxRecDepth 100000 in
theorem lifted (os : Os) (started : os.Started) (H : Type) (enc : TypeId × Value → H) :
    ReturnsInHanded {} Try.checked os 4 .any (Rows.tableMergesSpec.pre6 enc Try.prog Try.f4 Rows.tableMergesRow.domain false) (Rows.tableMergesSpec.post enc Try.prog Try.f4 false true false false) := by
  refine returnsInHanded_of_change (C := Try.checked) own started (by kernel_rfl) Try.func4
    (ChangeSpec.witness6 (enc := enc) (C := Try.checked) false ⟨#[], #[.slice none 0 0, .slice none 0 0], []⟩ 8 (by kernel_rfl) (by kernel_rfl) (by kernel_rfl) (by kernel_rfl)) ?_
  intro W base args ds gs before hval0 hW hcnd _
  have hval : ∀ (j : Nat) t v, Try.f4.params[j]? = some t → args[j]? = some v → Value.okWide Try.prog W .any base t v := hval0
  have hW' := hW
  obtain ⟨p, q, hA0, hV, rfl, hfz, hnd⟩ := hW
  have hA : DataW.TrodAll enc Try.prog W 0 (fun _ => true) true Try.f4.params.toList args.toList ds p := hA0
  rw [Try.params4] at hA hval
  obtain ⟨v0, vs0, d0, ds0, p0, q0, hargs, rfl, rfl, h0, r0⟩ := trodAll_cons hA
  obtain ⟨v1, vs1, d1, ds1, p1, q1, rfl, rfl, rfl, h1, r1⟩ := trodAll_cons r0
  obtain ⟨rfl, rfl, rfl⟩ := trodAll_nil r1
  obtain rfl : args = #[v0, v1] := by cases args; simp_all
  obtain ⟨rfl, rfl⟩ := trodVars_none hV
  have lt0 : ∀ x ∈ p0, x.block < W.heap.size := by obtain ⟨m, hm⟩ := h0; exact DataW.trod_lt m _ _ _ hm
  have a0 := Arg.mk (hval 0 22 v0 rfl rfl) h0
  have lt1 : ∀ x ∈ p1, x.block < W.heap.size := by obtain ⟨m, hm⟩ := h1; exact DataW.trod_lt m _ _ _ hm
  have a1 := Arg.mk (hval 1 22 v1 rfl rfl) h1
  clear hA0 hval0
  refine (walk v0 v1 W a0 a1).mono fun e W' ⟨he, bel⟩ => ?_
  subst he
  exact ⟨_, rfl, _, _, _, [], _, [], hW', trodAll_mk1 (shut_bool Try.underlying4 _), (trodAll_cons_mk (Below.trod laidOut (by kernel_rfl) (of_decide_eq_true (by kernel_rfl)) h0 bel lt0) (trodAll_cons_mk (Below.trod laidOut (by kernel_rfl) (of_decide_eq_true (by kernel_rfl)) h1 bel lt1) trodAll_mk0)), rfl, bel.frame _, fun h => by cases h⟩

set_option maxRecDepth 100000 in
theorem over : Rows.tableMergesRow.holds Try.pinned (OpenSpec.ofChange Rows.tableMergesSpec) :=
  OpenClaim.holds_of_wide 4 Try.f4 rfl rfl rfl rfl rfl rfl rfl ⟨rfl, rfl, rfl, rfl, rfl⟩ rfl rfl rfl rfl rfl (by kernel_rfl) Try.func4 (by kernel_rfl)
    (of_decide_eq_true (by kernel_rfl)) (by unfold Func.isWrapper; first | (rw [if_pos (by decide +kernel)]; kernel_rfl) | (rw [if_neg (by decide +kernel)]; exact ⟨rfl, rfl⟩))
    (fun os started H enc _ => lifted os started H enc)

theorem proved : Rows.TableMergesSaid := over
#print axioms proved
end Go.Proofs.Ytlnkfphkgjcdiaa.tableMerges
