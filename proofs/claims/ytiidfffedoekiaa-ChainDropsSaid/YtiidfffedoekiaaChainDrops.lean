/- All dropped, in whatever order, nothing is left; with each drop no more places are held than ahead, and none that was not. -/
import Derived.Test.YtiidfffedoekiaaChWa
import Derived.Test.YtiidfffedoekiaaChGd
import Derived.Test.YtiidfffedoekiaaChTp
import Derived.Test.YtiidfffedoekiaaChDq
import Derived.Test.YtiidfffedoekiaaArgSl
namespace Go.Proofs.Ytiidfffedoekiaa.chainDrops
open Go.ChangeShapes Go.WideShapes Go.ChangeAt Go.RowKit
set_option linter.unusedVariables false
set_option linter.unusedSimpArgs false
attribute [-simp] Try.isAgg39 Try.zeroValue39 Try.isAgg42 Try.zeroValue42
attribute [-go_sem] loadVar storeVar
attribute [local go_sem] loadVar_openPS storeVar_openPS zero_sn zero_prs build_prs build_sn build_sn2

set_option maxRecDepth 100000 in
set_option maxHeartbeats 2000000 in
theorem walk (v0 v1 : Value) (w : World) (w0 : Arg w 22 v0) (w1 : Arg w 31 v1) :
    Calls Try.prog 5 #[v0, v1] w fun e w' => e = .returned (.bool true) ∧ Below w.heap.size w w' := by
  have hmx : Try.prog.follows .mixedOrders = true := by kernel_rfl
  obtain ⟨l, hl⟩ := w0.snp
  obtain ⟨oa, on, oc, os, rfl, hon, hom, hos, hob⟩ := w1.bytes Try.underlying31 Try.underlying5 (by kernel_rfl)
  have HL := Lib.hid hl
  have HF := Lib.hid (ch_fair HL.out)
  obtain ⟨r, la, lc, rfl, -⟩ := hl
  obtain ⟨len, hle⟩ : ∃ len, l.length = len := ⟨_, rfl⟩
  have HLE := Lib.hid hle
  have HON := Lib.hid hon
  have HOS := Lib.hid hos
  have HOB := Lib.hid hob
  have hom2 : on ≤ 9223372036854775807 := by unfold maxLen at hom; omega
  rw [hle] at HL HF ⊢
  clear w0 w1 hle hon hos hob hom
  cases hf : fairL l with
  | false =>
    rw [hf] at HF
    clear hf
    go_enter Try.func5, Try.ntmps5
    go_wp2_with fail
    go_at_call 9
    refine HF.out.mono ?_
    rintro e w' ⟨rfl, hw'⟩
    obtain rfl := hw'.symm
    clear HF
    go_wp2_with fail
    refine (ch_wakes _).mono ?_
    rintro e Ww ⟨rfl, hbw⟩
    have HBE : Hid (Below w.heap.size w Ww) := hbw
    clear hbw
    go_wp2_with fail
    go_ret
    exact ⟨by first | rfl | simp, HBE.out⟩
  | true =>
    rw [hf] at HF
    obtain ⟨hlens, hl12, hfs⟩ := fair_lens hf
    rw [HLE.out] at hl12
    have HLN := Lib.hid hlens
    have HGD := Lib.hid (rf11_good HL.out HLN.out 10 200 (wf_i64 (by omega) (by omega)))
    clear hf hfs hlens
    cases hg : cGood l 10 200 with
    | false =>
      rw [hg] at HGD
      clear hg
      go_enter Try.func5, Try.ntmps5
      go_wp2_with fail
      go_at_call 9
      refine HF.out.mono ?_
      rintro e w' ⟨rfl, hw'⟩
      obtain rfl := hw'.symm
      clear HF
      go_wp2_with fail
      go_at_call 10
      refine HGD.out.mono ?_
      rintro e W1 ⟨rfl, hb1⟩
      have E1 := Lib.hid hb1
      clear hb1 HGD
      go_wp2_with fail
      refine (ch_wakes _).mono ?_
      rintro e Ww ⟨rfl, hbw⟩
      have HBE : Hid (Below w.heap.size w Ww) := E1.out.trans (hbw.mono E1.out.size)
      clear hbw
      go_wp2_with fail
      go_ret
      exact ⟨by first | rfl | simp, HBE.out⟩
    | true =>
      rw [hg] at HGD
      have HGG := Lib.hid hg
      clear hg
      by_cases h1 : on < len
      · have g1 : (on : Int) < (len : Int) := by omega
        have g1d : decide ((on : Int) < (len : Int)) = true := by simp; omega
        go_enter Try.func5, Try.ntmps5
        go_wp2_with fail
        go_at_call 9
        refine HF.out.mono ?_
        rintro e w' ⟨rfl, hw'⟩
        obtain rfl := hw'.symm
        clear HF
        go_wp2_with fail
        go_at_call 10
        refine HGD.out.mono ?_
        rintro e W1 ⟨rfl, hb1⟩
        have E1 := Lib.hid hb1
        clear hb1 HGD
        go_wp2_with fail
        refine (ch_wakes _).mono ?_
        rintro e Ww ⟨rfl, hbw⟩
        have HBE : Hid (Below w.heap.size w Ww) := E1.out.trans (hbw.mono E1.out.size)
        clear hbw
        go_wp2_with fail
        go_ret
        exact ⟨by first | rfl | simp, HBE.out⟩
      · have g1 : ¬ (on : Int) < (len : Int) := by omega
        have g1d : decide ((on : Int) < (len : Int)) = false := by simp; omega
        by_cases h2 : 100 < on
        · have g2 : (on : Int) > 100 := by omega
          have g2d : decide ((on : Int) > 100) = true := by simp; omega
          go_enter Try.func5, Try.ntmps5
          go_wp2_with fail
          go_at_call 9
          refine HF.out.mono ?_
          rintro e w' ⟨rfl, hw'⟩
          obtain rfl := hw'.symm
          clear HF
          go_wp2_with fail
          go_at_call 10
          refine HGD.out.mono ?_
          rintro e W1 ⟨rfl, hb1⟩
          have E1 := Lib.hid hb1
          clear hb1 HGD
          go_wp2_with fail
          refine (ch_wakes _).mono ?_
          rintro e Ww ⟨rfl, hbw⟩
          have HBE : Hid (Below w.heap.size w Ww) := E1.out.trans (hbw.mono E1.out.size)
          clear hbw
          go_wp2_with fail
          go_ret
          exact ⟨by first | rfl | simp, HBE.out⟩
        · have g2 : ¬ (on : Int) > 100 := by omega
          have g2d : decide ((on : Int) > 100) = false := by simp; omega
          have HSM : Hid (len ≤ on ∧ on ≤ 100 ∧ len ≤ 12) := by exact ⟨by omega, by omega, hl12⟩
          clear h1 h2
          go_enter Try.func5, Try.ntmps5
          go_wp2_with fail
          go_at_call 9
          refine HF.out.mono ?_
          rintro e w' ⟨rfl, hw'⟩
          obtain rfl := hw'.symm
          clear HF
          go_wp2_with fail
          go_at_call 10
          refine HGD.out.mono ?_
          rintro e W1 ⟨rfl, hb1⟩
          have E1 := Lib.hid hb1
          clear hb1 HGD
          have HCY := Lib.hid (keep_copy (HL.out.below E1.out) HLN.out)
          go_wp2_with fail
          go_at_call 23
          refine HCY.out.mono ?_
          rintro e W2 ⟨vn, rfl, ho, hb⟩
          have E2 := Lib.hid (E1.out.trans (hb.mono E1.out.size))
          have N2 := Lib.hid ho.snp
          obtain ⟨⟨na, nn, nc⟩, rfl, -⟩ := ho.isSl
          simp only [slV] at N2 ⊢
          have g1n : decide (on < len) = false := by have := HSM.out; simp; omega
          clear ho hb HCY E1 g1 g1d g2 g2d HL HLN
          go_wp2_with fail
          try simp only [g1n]
          clear g1n
          go_loopw [5, 6] (fun nv kv wr => ∃ (k : Nat) (q : SlV) (L : List SN), nv = slV q ∧ kv = .int .i64 (k : Int) ∧ k + L.length = len ∧ q.2.1 = L.length ∧ Hid (Snp wr (slV q) L) ∧ Hid (cGood L 10 200 = true) ∧ Hid (Below w.heap.size w wr)) (fun _ kv _ => len - (intOf kv).toNat)
          case atStart => exact ⟨0, (na, nn, nc), l, rfl, rfl, by rw [HLE.out]; omega, (by have := N2.out; obtain ⟨r', a', cap', e, -⟩ := this; simp only [slV, Value.slice.injEq] at e; exact e.2.1), N2, HGG, E2⟩
          case round =>
            obtain ⟨V, hVwr⟩ : ∃ V, V = wr := ⟨_, rfl⟩
            subst hVwr
            obtain ⟨k, ⟨xa, xn, xc⟩, L, rfl, rfl, hkL, hxn, HN, HG, HB⟩ := hrel
            simp only at hxn
            subst hxn
            obtain ⟨n, hn⟩ : ∃ n, L.length = n := ⟨_, rfl⟩
            have HNL := Lib.hid hn
            rw [hn] at hkL HN ⊢
            simp only [slV] at HN ⊢
            clear hn
            by_cases h0 : n = 0
            · subst h0
              have g3 : ¬ (((0 : Nat) : Int) > 0) := by simp
              go_wp2_with fail
              refine (ch_wakes _).mono ?_
              rintro e Ww ⟨rfl, hbw⟩
              have HBE : Hid (Below w.heap.size w Ww) := HB.out.trans (hbw.mono HB.out.size)
              clear hbw
              go_wp2_with fail
              go_ret
              exact ⟨by first | rfl | simp, HBE.out⟩
            · have hsm := HSM.out
              have g3 : (n : Int) > 0 := by omega
              have g3d : decide ((n : Int) > 0) = true := by simp; omega
              have hko : k < os.length := by rw [HON.out]; omega
              obtain ⟨o, ho⟩ : ∃ o, os[k]? = some o := ⟨_, List.getElem?_eq_getElem hko⟩
              have hob := HOB.out k
              rw [ho] at hob
              simp only [Option.getD_some] at hob
              obtain ⟨ho0, ho1⟩ := hob
              obtain ⟨ob, oo, rfl, hox⟩ : ∃ ob oo, oa = some ⟨ob, oo, none⟩ ∧ V.cell? ⟨ob, oo + k, none⟩ = some (.int .u8 o) := by
                obtain ⟨a', c', e, q1, q2, q3, q4⟩ := HOS.out.below HB.out
                simp only [Value.slice.injEq] at e
                obtain ⟨rfl, -, rfl⟩ := e
                rcases q3 with q3 | ⟨b, off, e3, q5, q6⟩
                · rw [q3] at hko; simp at hko
                · refine ⟨b, off, e3, ?_⟩
                  have := q6 k hko
                  rw [ho] at this
                  exact this
              have g4 : (k : Int) < (on : Int) := by omega
              obtain ⟨i, hi, HT, hil, g0, gn, gb⟩ := idx_first ho0 h0
              have hiL : i < L.length := by rw [HNL.out]; exact hil
              have hdi := drop_is hiL
              have HDI := Lib.hid hdi
              have HDG : Hid (cGood (dropAt L i) 10 200 = true) := drop_good HG.out hiL
              have HDL : Hid ((dropAt L i).length + 1 = n) := by show _ = _; rw [← HNL.out]; exact drop_len hiL
              have HIL := Lib.hid hiL
              obtain ⟨M, hM⟩ : ∃ M, dropAt L i = M := ⟨_, rfl⟩
              have HMD := Lib.hid hM
              rw [hM] at HDG HDL HDI
              obtain ⟨m, hm⟩ : ∃ m, M.length = m := ⟨_, rfl⟩
              have HML := Lib.hid hm
              have hm1 : m + 1 = n := by rw [← hm]; exact HDL.out
              have HLN := Lib.hid (good_lens1 HG.out)
              have HMN := Lib.hid (good_lens1 HDG.out)
              have HMT := Lib.hid (good_lens HDG.out)
              have HD2 := Lib.hid (ch_drop HN.out HLN.out (i : Int))
              have gm1 : (n : Int) - 1 = (m : Int) := by omega
              have gm2 : wrap64 ((n : Int) - 1) = (m : Int) := by rw [gm1]; exact IntWalk.wrap64_in _ (by omega)
              have q1 : ((m : Int) == (m : Int)) = true := by simp
              have hn8 : n ≤ 12 := by omega
              have hkl : k + 1 + m = len := by omega
              have HWK : Hid (wrap64 ((k : Int) + 1) = (k : Int) + 1) := IntWalk.wrap64_in _ (by omega)
              clear hko ho hiL hdi hM hm hsm h0 hkL
              go_wp2_with fail
              go_at_call 12
              refine HD2.out.mono ?_
              rintro e V2 ⟨vd, rfl, ho, hb⟩
              rw [HDI.out] at ho
              have B2 : Hid (Below w.heap.size w V2) := HB.out.trans (hb.mono HB.out.size)
              have N2 := Lib.hid (HN.out.below hb)
              have D2 := Lib.hid ho.snp
              obtain ⟨⟨da, dn, dc⟩, rfl, -⟩ := ho.isSl
              have hdn : dn = m := by have := D2.out; obtain ⟨r', a', cap', e, -⟩ := this; simp only [slV, Value.slice.injEq] at e; rw [← HML.out]; exact e.2.1
              have HG2 := ch_good D2.out HMN.out 10 200
              rw [HDG.out] at HG2
              have HG2 := Lib.hid HG2
              simp only [slV, hdn] at D2 HG2 ⊢
              clear ho hb HD2 HN HB hdn hox
              go_wp2_with fail
              go_at_call 14
              refine HG2.out.mono ?_
              rintro e V3 ⟨rfl, hb⟩
              have B3 : Hid (Below w.heap.size w V3) := B2.out.trans (hb.mono B2.out.size)
              have N3 := Lib.hid (N2.out.below hb)
              have D3 := Lib.hid (D2.out.below hb)
              clear hb HG2 B2 N2 D2 gm1 gm2 q1
              go_wp2_with fail
              go_loopw [9] (fun av X => ∃ a : Nat, a ≤ m ∧ av = .int .i64 (a : Int) ∧ Hid (Below V3.heap.size V3 X)) (fun av _ => m - (intOf av).toNat)
              case atStart => exact ⟨0, Nat.zero_le _, rfl, Below.refl _ _⟩
              case round =>
                obtain ⟨X, hXwr⟩ : ∃ X, X = wr := ⟨_, rfl⟩
                subst hXwr
                obtain ⟨a, ham, rfl, HX⟩ := hrel
                by_cases hlt : a < m
                · have g5 : (a : Int) < (m : Int) := by omega
                  have HWA : Hid (wrap64 ((a : Int) + 1) = (a : Int) + 1) := IntWalk.wrap64_in _ (by omega)
                  have HLT := Lib.hid hlt
                  obtain ⟨u, hu⟩ : ∃ u, M[a]? = some u := ⟨_, List.getElem?_eq_getElem (by rw [HML.out]; exact hlt)⟩
                  obtain ⟨rr, hrr⟩ := D3.out
                  obtain ⟨b0, off, q, rfl, hbb, -, hq, e0, e1, e2⟩ := hrr.at hu
                  obtain ⟨qi, ⟨qx, qn, qc⟩, ⟨y, tl, tc'⟩⟩ := q
                  have HQT : Hid (∀ z : World, Below V3.heap.size V3 z → Prt z (.slice y tl tc') u.tb) := fun z hz => hq.tb.below hz
                  have HQC : Hid (∀ z : World, Below V3.heap.size V3 z → z.cell? ⟨b0, off + a * 3 + 2, none⟩ = some (.slice y tl tc')) := fun z hz => (hz.cell (p := ⟨b0, off + a * 3 + 2, none⟩) hbb).trans e2
                  have HTL : Hid (tl = u.tb.length) := by obtain ⟨a', ca', e, -⟩ := hq.tb; simp only [slV, Value.slice.injEq] at e; show _ = _; omega
                  have htl : u.tb.length ≤ 10 := (HMT.out.2 u (List.mem_of_getElem? hu)).2
                  have HTB := Lib.hid htl
                  have HUA := Lib.hid hu
                  clear hrr hbb hq e0 e1 e2 htl hu hlt ham
                  go_wp2_with fail
                  go_loopw [10] (fun bv Y => ∃ b : Nat, b ≤ tl ∧ bv = .int .i64 (b : Int) ∧ Hid (Below V3.heap.size V3 Y)) (fun bv _ => tl - (intOf bv).toNat)
                  case atStart => exact ⟨0, Nat.zero_le _, rfl, HX⟩
                  case round =>
                    obtain ⟨Y, hYwr⟩ : ∃ Y, Y = wr := ⟨_, rfl⟩
                    subst hYwr
                    obtain ⟨b, hbt, rfl, HY⟩ := hrel
                    have cc2 := HQC.out _ HY.out
                    by_cases hbl : b < tl
                    · obtain ⟨p, hp⟩ : ∃ p, u.tb[b]? = some p := ⟨_, List.getElem?_eq_getElem (by rw [← HTL.out]; exact hbl)⟩
                      have HHAS : Hid (dHas L p = true) := by
                        refine dHas_drop HG.out HIL.out (a := a) (b := b) (u := u) ?_ hp
                        rw [HMD.out]
                        exact HUA.out
                      obtain ⟨bb, boff, rfl, hbb, t0, t1⟩ := (HQT.out _ HY.out).at hp
                      obtain ⟨pb, pa⟩ := p
                      simp only at t0 t1
                      have g6 : (b : Int) < (tl : Int) := by omega
                      have HWB : Hid (wrap64 ((b : Int) + 1) = (b : Int) + 1) := IntWalk.wrap64_in _ (by have := HTL.out; have := HTB.out; omega)
                      have HBT := Lib.hid hbl
                      have LP := load_prs t0 t1
                      have SP := new_prs Y pb pa
                      obtain ⟨Z, hZ⟩ : ∃ Z, Y.alloc (.cells #[.int .i64 pb, .int .i64 pa] 42) = Z := ⟨_, rfl⟩
                      rw [hZ] at SP
                      have bZ : Below Y.heap.size Y Z := by rw [← hZ]; exact below_new _ _
                      have rZ : RowC Z Y.heap.size 42 [.int .i64 pb, .int .i64 pa] := by rw [← hZ]; exact RowC.new Y _ _
                      obtain ⟨D, hD⟩ : ∃ D, Y.heap.size = D := ⟨_, rfl⟩
                      rw [hD] at SP rZ
                      have RZ := Lib.hid rZ
                      have HZ : Hid (Below V3.heap.size V3 Z) := HY.out.trans (bZ.mono HY.out.size)
                      have NZ := Lib.hid (N3.out.below HZ.out)
                      clear hp hbb t0 t1 hbl hbt bZ rZ
                      go_wp2_with fail
                      try rw [hZ]
                      clear LP SP hZ hD cc2
                      go_loopw [12, 13] (fun wv cv S => ∃ (c : Nat) (was : Bool), c ≤ n ∧ cv = .int .i64 (c : Int) ∧ wv = .bool was ∧ Hid (was = dHas (L.take c) (pb, pa)) ∧ Hid (Below Z.heap.size Z S)) (fun _ cv _ => n - (intOf cv).toNat)
                      case atStart => exact ⟨0, false, Nat.zero_le _, rfl, rfl, (by show _ = _; rw [List.take_zero]; rfl), Below.refl _ _⟩
                      case round =>
                        obtain ⟨S, hSwr⟩ : ∃ S, S = wr := ⟨_, rfl⟩
                        subst hSwr
                        obtain ⟨c, was, hcn, rfl, rfl, HW, HS⟩ := hrel
                        by_cases hcl : c < n
                        · obtain ⟨t, ht⟩ : ∃ t, L[c]? = some t := ⟨_, List.getElem?_eq_getElem (by rw [HNL.out]; exact hcl)⟩
                          obtain ⟨rr, hrr⟩ := NZ.out
                          obtain ⟨b2, off2, q2, rfl, hb2, -, hq2, e0, e1, e2⟩ := hrr.at ht
                          obtain ⟨ui, ⟨ux, un, uc⟩, ⟨z0, z1, z2⟩⟩ := q2
                          have g7 : (c : Int) < (n : Int) := by omega
                          have HWC : Hid (wrap64 ((c : Int) + 1) = (c : Int) + 1) := IntWalk.wrap64_in _ (by omega)
                          have HCL := Lib.hid hcl
                          have hwn := dHas_snoc (L.take c) t (pb, pa)
                          rw [← take_at ht, ← HW.out] at hwn
                          simp only at hwn
                          have HWN := Lib.hid hwn
                          have d2 : ∀ z : Ext S, z.1.cell? ⟨b2, off2 + c * 3 + 2, none⟩ = some (.slice z0 z1 z2) := fun z => ((HS.out.trans (z.2.mono HS.out.size)).cell (p := ⟨b2, off2 + c * 3 + 2, none⟩) hb2).trans e2
                          have d3 : ∀ z : Ext S, z.1.cell? ⟨D, 0, none⟩ = some (.int .i64 pb) := fun z => (RZ.out.below (HS.out.trans (z.2.mono HS.out.size))).cell 0 _ rfl
                          have HD4 : Hid (∀ z : World, Below S.heap.size S z → z.cell? ⟨D, 1, none⟩ = some (.int .i64 pa)) := fun z hz => (RZ.out.below (HS.out.trans (hz.mono HS.out.size))).cell 1 _ rfl
                          have HFI := tb_find (((hq2.tb.below HS.out)).below (Below.refl _ S).drew) pb (by have := (good_lens HG.out).2 t (List.mem_of_getElem? ht); omega)
                          obtain ⟨fi, hfi⟩ : ∃ fi, (tFind t.tb pb).isSome = fi := ⟨_, rfl⟩
                          obtain ⟨fa, hfa⟩ : ∃ fa, tAt t.tb pb = fa := ⟨_, rfl⟩
                          rw [hfi, hfa] at HFI HWN
                          have HFI := Lib.hid HFI
                          simp only [slV] at HFI
                          clear ht hrr hb2 hq2 e0 e1 e2 hcl hcn hfi hfa hwn HW
                          go_wp2_with fail
                          refine region_plan (fun x => ∃ y : Ext S, x = y.1) 12 (.takes [0, 1, 2, 3, 4, 5, 6] (.one 7 (.takes [8, 9, 10, 11] .leaf))) hmx (by kernel_rfl) (by intro c x v a w h; cases x <;> exact h) ⟨⟨S.drew, (Below.refl _ S).drew⟩, rfl⟩ ?_
                          repeat (rw [wpPlan_takes_cons]; simp only [nth_zero, nth_succ]; go_big_quiet_step (fail); try (with_reducible refine wpQuiet_nil ?_))
                          rw [wpPlan_takes_nil, wpPlan_one]
                          simp only [nth_zero, nth_succ]
                          go_wp2_with fail
                          go_at_call 22
                          refine HFI.out.mono ?_
                          rintro e S2 ⟨rfl, hb⟩
                          have E3 : Hid (Below S.heap.size S S2) := (Below.refl _ S).drew.trans hb
                          have d4 := HD4.out _ E3.out
                          have HS2 := Lib.hid (HS.out.trans (E3.out.mono HS.out.size))
                          clear hb HFI d2 d3
                          go_wp2_with fail
                          refine planPost_mk ⟨⟨S2, E3.out⟩, rfl⟩ ?_
                          repeat (rw [wpPlan_takes_cons]; simp only [nth_zero, nth_succ]; go_big_quiet_step (fail); try (with_reducible refine wpQuiet_nil ?_))
                          rw [wpPlan_takes_nil, wpPlan_leaf]
                          simp only [List.drop_succ_cons, List.drop_zero]
                          cases was with
                          | true =>
                            have HW2 : Hid (true = dHas (L.take (c + 1)) (pb, pa)) := by show _ = _; rw [HWN.out]; rfl
                            go_wp2_with fail
                            exact ⟨⟨c + 1, true, HCL.out, by first | (simp; done) | (simp; exact HWC.out) | (rw [HWC.out]; simp), rfl, HW2, HS2⟩, by have := HCL.out; first | (simp [intOf]; omega) | (rw [HWC.out]; simp [intOf]; omega) | (simp [intOf, HWC.out]; omega)⟩
                          | false =>
                            cases fi with
                            | false =>
                              have HW2 : Hid (false = dHas (L.take (c + 1)) (pb, pa)) := by show _ = _; rw [HWN.out]; rfl
                              go_wp2_with fail
                              exact ⟨⟨c + 1, false, HCL.out, by first | (simp; done) | (simp; exact HWC.out) | (rw [HWC.out]; simp), rfl, HW2, HS2⟩, by have := HCL.out; first | (simp [intOf]; omega) | (rw [HWC.out]; simp [intOf]; omega) | (simp [intOf, HWC.out]; omega)⟩
                            | true =>
                              cases hfp : (fa == pa) with
                              | true =>
                                have HW2 : Hid (true = dHas (L.take (c + 1)) (pb, pa)) := by show _ = _; rw [HWN.out, hfp]; rfl
                                go_wp2_with fail
                                exact ⟨⟨c + 1, true, HCL.out, by first | (simp; done) | (simp; exact HWC.out) | (rw [HWC.out]; simp), rfl, HW2, HS2⟩, by have := HCL.out; first | (simp [intOf]; omega) | (rw [HWC.out]; simp [intOf]; omega) | (simp [intOf, HWC.out]; omega)⟩
                              | false =>
                                have HW2 : Hid (false = dHas (L.take (c + 1)) (pb, pa)) := by show _ = _; rw [HWN.out, hfp]; rfl
                                go_wp2_with fail
                                exact ⟨⟨c + 1, false, HCL.out, by first | (simp; done) | (simp; exact HWC.out) | (rw [HWC.out]; simp), rfl, HW2, HS2⟩, by have := HCL.out; first | (simp [intOf]; omega) | (rw [HWC.out]; simp [intOf]; omega) | (simp [intOf, HWC.out]; omega)⟩
                        · have g7 : ¬ (c : Int) < (n : Int) := by omega
                          have hwas : was = true := by
                            rw [HW.out, List.take_of_length_le (by have := HNL.out; omega)]
                            exact HHAS.out
                          subst hwas
                          have HY2 := Lib.hid (HZ.out.trans (HS.out.mono HZ.out.size))
                          clear hcl hcn HW
                          go_wp2_with fail
                          exact ⟨⟨b + 1, HBT.out, by first | (simp; done) | (simp; exact HWB.out) | (rw [HWB.out]; simp), HY2⟩, by have := HBT.out; first | (simp [intOf]; omega) | (rw [HWB.out]; simp [intOf]; omega) | (simp [intOf, HWB.out]; omega)⟩
                    · have g6 : ¬ (b : Int) < (tl : Int) := by omega
                      have g6d : decide ((b : Int) < (tl : Int)) = false := by simp; omega
                      clear hbl hbt
                      go_wp2_with fail
                      exact ⟨⟨a + 1, HLT.out, by first | (simp; done) | (simp; exact HWA.out) | (rw [HWA.out]; simp), HY⟩, by have := HLT.out; first | (simp [intOf]; omega) | (rw [HWA.out]; simp [intOf]; omega) | (simp [intOf, HWA.out]; omega)⟩
                · have g5 : ¬ (a : Int) < (m : Int) := by omega
                  have HN4 : Hid (Snp X (.slice da m dc) M) := D3.out.below HX.out
                  have HB4 : Hid (Below w.heap.size w X) := B3.out.trans (HX.out.mono B3.out.size)
                  clear hlt ham
                  go_wp2_with fail
                  have HKV : Value.int .i64 ((k : Int) + 1) = Value.int .i64 ((k + 1 : Nat) : Int) := by simp
                  have HKM : k + 1 + M.length = len := by rw [HML.out]; exact hkl
                  exact ⟨⟨k + 1, (da, m, dc), M, rfl, by first | exact HKV | (simp; done) | (simp; exact HWK.out), HKM, HML.out.symm, HN4, HDG, HB4⟩, by first | (simp [intOf]; omega) | (rw [HWK.out]; simp [intOf]; omega) | (simp [intOf, HWK.out]; omega)⟩

set_option maxRecDepth 100000 in
theorem lifted (os : Os) (started : os.Started) (H : Type) (enc : TypeId × Value → H) :
    ReturnsInHanded {} Try.checked os 5 .any (Rows.chainDropsSpec.pre6 enc Try.prog Try.f5 Rows.chainDropsRow.domain false) (Rows.chainDropsSpec.post enc Try.prog Try.f5 false true false false) := by
  refine returnsInHanded_of_change (C := Try.checked) own started (by kernel_rfl) Try.func5
    (ChangeSpec.witness6 (enc := enc) (C := Try.checked) false ⟨#[], #[.slice none 0 0, .slice none 0 0], []⟩ 8 (by kernel_rfl) (by kernel_rfl) (by kernel_rfl) (by kernel_rfl)) ?_
  intro W base args ds gs before hval0 hW hcnd _
  have hval : ∀ (j : Nat) t v, Try.f5.params[j]? = some t → args[j]? = some v → Value.okWide Try.prog W .any base t v := hval0
  have hW' := hW
  obtain ⟨p, q, hA0, hV, rfl, hfz, hnd⟩ := hW
  have hA : DataW.TrodAll enc Try.prog W 0 (fun _ => true) true Try.f5.params.toList args.toList ds p := hA0
  rw [Try.params5] at hA hval
  obtain ⟨v0, vs0, d0, ds0, p0, q0, hargs, rfl, rfl, h0, r0⟩ := trodAll_cons hA
  obtain ⟨v1, vs1, d1, ds1, p1, q1, rfl, rfl, rfl, h1, r1⟩ := trodAll_cons r0
  obtain ⟨rfl, rfl, rfl⟩ := trodAll_nil r1
  obtain rfl : args = #[v0, v1] := by cases args; simp_all
  obtain ⟨rfl, rfl⟩ := trodVars_none hV
  have lt0 : ∀ x ∈ p0, x.block < W.heap.size := by obtain ⟨m, hm⟩ := h0; exact DataW.trod_lt m _ _ _ hm
  have a0 := Arg.mk (hval 0 22 v0 rfl rfl) h0
  have lt1 : ∀ x ∈ p1, x.block < W.heap.size := by obtain ⟨m, hm⟩ := h1; exact DataW.trod_lt m _ _ _ hm
  have a1 := Arg.mk (hval 1 31 v1 rfl rfl) h1
  clear hA0 hval0
  refine (walk v0 v1 W a0 a1).mono fun e W' ⟨he, bel⟩ => ?_
  subst he
  exact ⟨_, rfl, _, _, _, [], _, [], hW', trodAll_mk1 (shut_bool Try.underlying4 _), (trodAll_cons_mk (Below.trod laidOut (by kernel_rfl) (of_decide_eq_true (by kernel_rfl)) h0 bel lt0) (trodAll_cons_mk (Below.trod laidOut (by kernel_rfl) (of_decide_eq_true (by kernel_rfl)) h1 bel lt1) trodAll_mk0)), rfl, bel.frame _, fun h => by cases h⟩

set_option maxRecDepth 100000 in
theorem over : Rows.chainDropsRow.holds Try.pinned (OpenSpec.ofChange Rows.chainDropsSpec) :=
  OpenClaim.holds_of_wide 5 Try.f5 rfl rfl rfl rfl rfl rfl rfl ⟨rfl, rfl, rfl, rfl, rfl⟩ rfl rfl rfl rfl rfl (by kernel_rfl) Try.func5 (by kernel_rfl)
    (of_decide_eq_true (by kernel_rfl)) (by unfold Func.isWrapper; first | (rw [if_pos (by decide +kernel)]; kernel_rfl) | (rw [if_neg (by decide +kernel)]; exact ⟨rfl, rfl⟩))
    (fun os started H enc _ => lifted os started H enc)

theorem proved : Rows.ChainDropsSaid := over
#print axioms proved
end Go.Proofs.Ytiidfffedoekiaa.chainDrops
