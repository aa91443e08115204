/- Whatever a crash leaves of an Append that was cut, Replay tells all that were ahead, and that one whole, or not at all; one more behind it is told, too. -/
import Derived.Test.YtfmgaakbfphpbaaRgCut
namespace Go.Proofs.Ytfmgaakbfphpbaa.ringTorn
open Go.ChangeShapes Go.WideShapes Go.ChangeAt Go.RowKit
set_option linter.unusedVariables false
attribute [-simp] Try.isAgg59 Try.zeroValue59 Try.isAgg79 Try.zeroValue79 Try.isAgg102 Try.zeroValue102 Try.isAgg95 Try.zeroValue95 Try.isAgg81 Try.zeroValue81
attribute [-go_sem] loadVar storeVar run_equalIn_agg
attribute [local go_sem] zero_blk build_blk zero_bod build_bod zero_sec zero_imgR zero_imgD loadVar_open6 storeVar_open6

set_option maxRecDepth 100000 in
set_option maxHeartbeats 20000000 in
theorem walk (v0 : Value) (w : World) (w0 : Arg w 76 v0) :
    Calls Try.prog 4 #[v0] w fun e w' => e = .returned (.bool true) ∧ Below w.heap.size w w' := by
  obtain ⟨va, L, vl, ls, n8, pp, pcap, bs, vt, tt, rfl, hL, hl, hn8, hsl, hbb, htt⟩ := w0.cut
  have HW := Lib.hid (ringWakes ringOk)
  obtain ⟨aa, ca, rfl, hLb⟩ := hL.sl
  obtain ⟨al, cl, rfl⟩ := hl.sl
  obtain ⟨at', ct, rfl⟩ := htt.sl
  obtain ⟨n, hn⟩ : ∃ n, L.length = n := ⟨_, rfl⟩
  obtain ⟨m1, hm1⟩ : ∃ n, ls.length = n := ⟨_, rfl⟩
  obtain ⟨m2, hm2⟩ : ∃ n, tt.length = n := ⟨_, rfl⟩
  obtain ⟨P, hP⟩ : ∃ n, bs.length = n := ⟨_, rfl⟩
  rw [hn] at hL hLb
  rw [hm1] at hl
  rw [hm2] at htt
  rw [hP] at hsl
  rw [hn, hm1, hm2, hP]
  have HLN := Lib.hid hn
  have HM1 := Lib.hid hm1
  have HM2 := Lib.hid hm2
  have HPN := Lib.hid hP
  clear w0 hn hm1 hm2 hP
  obtain ⟨W, hW⟩ : ∃ W, w.alloc (.cells #[.slice aa n ca, .slice al m1 cl, .int .u8 n8, .slice pp P pcap, .slice at' m2 ct] 76) = W := ⟨_, rfl⟩
  have hWB : Below w.heap.size w W := by rw [← hW]; exact below_new w _
  have HWB := Lib.hid hWB
  have r0 : RowC W w.heap.size 76 [.slice aa n ca, .slice al m1 cl, .int .u8 n8, .slice pp P pcap, .slice at' m2 ct] := by rw [← hW]; exact RowC.new w _ _
  have HPRS := Lib.hid (hL.below hWB)
  have HPL := Lib.hid (hl.below hWB)
  have HPT := Lib.hid (htt.below hWB)
  have HSL := Lib.hid (hsl.below hWB)
  have HBB := Lib.hid hbb
  have HN8 := Lib.hid hn8
  have H0 := Lib.hid (Below.refl W.heap.size W)
  obtain ⟨B0, hB0⟩ : ∃ b, w.heap.size = b := ⟨_, rfl⟩
  rw [hB0] at r0
  have CB : Hid (∀ x, Below W.heap.size W x → RowC x B0 76 [.slice aa n ca, .slice al m1 cl, .int .u8 n8, .slice pp P pcap, .slice at' m2 ct]) := fun x hx => r0.below hx
  have cA := r0.cell 0 _ rfl
  have cB := r0.cell 1 _ rfl
  have cC := r0.cell 4 _ rfl
  have cD := r0.cell 3 _ rfl
  have RC1 := Lib.hid (lawRight HPL.out 5)
  have RC2 := Lib.hid (lawRight HPT.out 5)
  obtain ⟨r1, hr1⟩ : ∃ r, decide (RightP ls 5) = r := ⟨_, rfl⟩
  obtain ⟨r2, hr2⟩ : ∃ r, decide (RightP tt 5) = r := ⟨_, rfl⟩
  rw [hr1] at RC1
  rw [hr2] at RC2
  have HR1 := Lib.hid hr1
  have HR2 := Lib.hid hr2
  have hPb : P ≤ 9223372036854775807 := by
    obtain ⟨a, c, e, h1, h2, _⟩ := hsl
    simp only [Value.slice.injEq] at e
    unfold maxLen at h2
    have := HPN.out
    omega
  clear hL hl hsl hbb htt hWB r0 hr1 hr2 hn8
  by_cases h8 : 8 < n
  · have g8 : decide (8 < (n : Int)) = true := by simp; omega
    have g8' : decide ((n : Int) > 8) = true := g8
    go_enter Try.func4, Try.ntmps4
    go_wp2_with fail
    try go_at_call 9
    refine (HW.out _).mono ?_
    rintro e yw ⟨rfl, hBw⟩
    have HBw : Hid (Below W.heap.size W yw) := H0.out.trans (hBw.mono H0.out.size)
    clear hBw
    go_wp2_with fail
    go_ret
    exact ⟨rfl, HWB.out.trans (HBw.out.mono HWB.out.size)⟩
  have g8 : decide (8 < (n : Int)) = false := by simp; omega
  have g8' : decide ((n : Int) > 8) = false := g8
  cases r1 with
  | false =>
    go_enter Try.func4, Try.ntmps4
    go_wp2_with fail
    try go_at_call 25
    refine RC1.out.mono ?_
    rintro e zz ⟨rfl, hz⟩
    obtain rfl := hz.symm
    clear hz

    go_wp2_with fail
    try go_at_call 9
    refine (HW.out _).mono ?_
    rintro e yw ⟨rfl, hBw⟩
    have HBw : Hid (Below W.heap.size W yw) := H0.out.trans (hBw.mono H0.out.size)
    clear hBw
    go_wp2_with fail
    go_ret
    exact ⟨rfl, HWB.out.trans (HBw.out.mono HWB.out.size)⟩
  | true =>
  cases r2 with
  | false =>
    go_enter Try.func4, Try.ntmps4
    go_wp2_with fail
    try go_at_call 25
    refine RC1.out.mono ?_
    rintro e zz ⟨rfl, hz⟩
    obtain rfl := hz.symm
    clear hz

    go_wp2_with fail
    try go_at_call 25
    refine RC2.out.mono ?_
    rintro e zz ⟨rfl, hz⟩
    obtain rfl := hz.symm
    clear hz

    go_wp2_with fail
    try go_at_call 9
    refine (HW.out _).mono ?_
    rintro e yw ⟨rfl, hBw⟩
    have HBw : Hid (Below W.heap.size W yw) := H0.out.trans (hBw.mono H0.out.size)
    clear hBw
    go_wp2_with fail
    go_ret
    exact ⟨rfl, HWB.out.trans (HBw.out.mono HWB.out.size)⟩
  | true =>
  by_cases hP1 : 100 < P
  · have gP : decide (100 < (P : Int)) = true := by simp; omega
    have gP' : decide ((P : Int) > 100) = true := gP
    go_enter Try.func4, Try.ntmps4
    go_wp2_with fail
    try go_at_call 25
    refine RC1.out.mono ?_
    rintro e zz ⟨rfl, hz⟩
    obtain rfl := hz.symm
    clear hz

    go_wp2_with fail
    try go_at_call 25
    refine RC2.out.mono ?_
    rintro e zz ⟨rfl, hz⟩
    obtain rfl := hz.symm
    clear hz

    go_wp2_with fail
    try go_at_call 9
    refine (HW.out _).mono ?_
    rintro e yw ⟨rfl, hBw⟩
    have HBw : Hid (Below W.heap.size W yw) := H0.out.trans (hBw.mono H0.out.size)
    clear hBw
    go_wp2_with fail
    go_ret
    exact ⟨rfl, HWB.out.trans (HBw.out.mono HWB.out.size)⟩
  have gP : decide (100 < (P : Int)) = false := by simp; omega
  have gP' : decide ((P : Int) > 100) = false := gP
  have hRl : RightP ls 5 := of_decide_eq_true HR1.out
  have hRt : RightP tt 5 := of_decide_eq_true HR2.out
  have HTL := Lib.hid (right_txn (C := 60) hRl (by omega))
  have HTH := Lib.hid (right_txn (C := 60) hRt (by omega))
  obtain ⟨t1, ht1⟩ : ∃ t, imgsOf ls = t := ⟨_, rfl⟩
  obtain ⟨t2, ht2⟩ : ∃ t, imgsOf tt = t := ⟨_, rfl⟩
  have hl1 : t1.length = m1 := by rw [← ht1, imgsOf_length, HM1.out]
  have hl2 : t2.length = m2 := by rw [← ht2, imgsOf_length, HM2.out]
  have HL1 := Lib.hid hl1
  have HL2 := Lib.hid hl2
  have hm1 : 1 ≤ m1 ∧ m1 ≤ 5 := by have a := hRl.2.1; have b := hRl.2.2; rw [HM1.out] at a b; omega
  have hm2 : 1 ≤ m2 ∧ m2 ≤ 5 := by have a := hRt.2.1; have b := hRt.2.2; rw [HM2.out] at a b; omega
  have HI1 : Hid (∀ x, Below W.heap.size W x → Calls Try.prog 12 #[.slice al m1 cl] x fun e w' => (∃ g c b, e = .returned (.tuple #[.slice (some ⟨g, 0, none⟩) m1 c, b]) ∧ x.heap.size ≤ g ∧ g < w'.heap.size ∧ w'.rangeAt g 0 (imgR t1).flatten) ∧ Below x.heap.size x w') := fun x hx =>
    (lawImages (HPL.out.below hx) (by rw [HM1.out]; omega)).mono fun e w' ⟨⟨a, b, he, ho, _⟩, hb⟩ => by
      rw [HM1.out, ht1] at ho
      obtain ⟨g, c, rfl, hg1, _, hg2, hg3⟩ := own_row ho (by omega)
      exact ⟨⟨g, c, b, he, hg1, hg2, hg3⟩, hb⟩
  have HI2 : Hid (∀ x, Below W.heap.size W x → Calls Try.prog 12 #[.slice at' m2 ct] x fun e w' => (∃ g c b, e = .returned (.tuple #[.slice (some ⟨g, 0, none⟩) m2 c, b]) ∧ x.heap.size ≤ g ∧ g < w'.heap.size ∧ w'.rangeAt g 0 (imgR t2).flatten) ∧ Below x.heap.size x w') := fun x hx =>
    (lawImages (HPT.out.below hx) (by rw [HM2.out]; omega)).mono fun e w' ⟨⟨a, b, he, ho, _⟩, hb⟩ => by
      rw [HM2.out, ht2] at ho
      obtain ⟨g, c, rfl, hg1, _, hg2, hg3⟩ := own_row ho (by omega)
      exact ⟨⟨g, c, b, he, hg1, hg2, hg3⟩, hb⟩
  rw [ht1] at HTL
  rw [ht2] at HTH
  clear hRl hRt ht1 ht2 hl1 hl2
  go_enter Try.func4, Try.ntmps4
  go_wp2_with fail
  try go_at_call 25
  refine RC1.out.mono ?_
  rintro e zz ⟨rfl, hz⟩
  obtain rfl := hz.symm
  clear hz

  go_wp2_with fail
  try go_at_call 25
  refine RC2.out.mono ?_
  rintro e zz ⟨rfl, hz⟩
  obtain rfl := hz.symm
  clear hz
  clear RC1 RC2
  go_wp2_with fail
  try go_at_call 10
  refine (RAt.new 70 1 W W H0.out (by omega) (by omega) (by omega) (by omega) (fun _ => False) (fun _ h => h.elim)).mono ?_
  rintro e w1 ⟨rb, p0, p1, rfl, a0, -⟩
  have HA0 : Hid (RAt W w1 rb p0 p1 (newS 70 1) (fun _ => False)) := a0
  have HL0 : Hid (Ln 70 4 60 50 9 [] (newS 70 1)) := Ln.new (by omega) (by omega) (by omega) (by omega) (by unfold IsSeq; omega)
  clear a0 cA cB cC cD hW
  go_wp2_with fail
  go_loopw [5, 6, 7] (fun pl sq iv wr => ∃ (i : Nat) (S : RS) (ts : List (List Img)) (A : Nat) (q : Int), i ≤ n ∧ iv = .int .i64 (i : Int) ∧ pl = .int .i64 (A : Int) ∧ sq = .int .u32 q ∧ Hid (A = nx 60 50 9 ts) ∧ Hid (q = seqAt 9 ts.length) ∧ Hid (ts.length = i) ∧ Hid (∀ u ∈ ts, u.length ≤ 5) ∧ Hid (ts = (L.take i).map imgsOf) ∧ Hid (RAt W wr rb p0 p1 S (fun _ => False)) ∧ Hid (Ln 70 4 60 50 9 ts S)) (fun _ _ iv _ => n - (intOf iv).toNat)
  case atStart =>
    have hu0 : ∀ u : List Img, u ∈ ([] : List (List Img)) → u.length ≤ 5 := fun u h => by cases h
    exact ⟨0, _, [], 50, 9, Nat.zero_le _, rfl, rfl, rfl, rfl, rfl, rfl, hu0, rfl, HA0, HL0⟩
  case round =>
    obtain ⟨i, S, ts, A, q, hi, rfl, rfl, rfl, HAN, HQN, HTS, HT5, HTD, HA, HLY⟩ := hrel
    have cA := (CB.out wr (AtR.bel HA.out)).cell 0 _ rfl
    by_cases hlt : i < n
    · have g1 : decide ((i : Int) < (n : Int)) = true := by simpa using hlt
      obtain ⟨b, off, hva, -, -, -, hop⟩ := HPRS.out.open (fun e => by have := HLN.out; rw [e] at this; simp at this; omega)
      subst hva
      have HOP := Lib.hid hop
      clear hop
      obtain ⟨ps, hps⟩ : ∃ ps, L[i]? = some ps := ⟨_, List.getElem?_eq_getElem (by rw [HLN.out]; exact hlt)⟩
      obtain ⟨ra, rc, hq⟩ := HOP.out i ps hps
      have HQ := Lib.hid hq
      have HPS := Lib.hid hps
      have HBr : Hid (Below W.heap.size W wr) := AtR.bel HA.out
      have HPR := Lib.hid (HQ.out wr HBr.out).2
      have HRT := Lib.hid (lawRight HPR.out 5)
      have c0 := (HQ.out wr HBr.out).1
      obtain ⟨m, hm⟩ : ∃ m, ps.length = m := ⟨_, rfl⟩
      rw [hm] at c0 HQ HPR HRT
      have HM := Lib.hid hm
      obtain ⟨rt, hrt⟩ : ∃ rt, decide (RightP ps 5) = rt := ⟨_, rfl⟩
      rw [hrt] at HRT
      have HRTT := Lib.hid hrt
      clear hps hq hm hrt
      go_wp2_with fail
      try go_at_call 25
      refine HRT.out.mono ?_
      rintro e z ⟨rfl, hz⟩
      obtain rfl := hz.symm
      clear hz HRT
      cases rt with
      | false =>
        go_wp2_with fail
        try go_at_call 9
        refine (HW.out _).mono ?_
        rintro e yw ⟨rfl, hBw⟩
        have HBw : Hid (Below W.heap.size W yw) := HBr.out.trans (hBw.mono HBr.out.size)
        clear hBw
        go_wp2_with fail
        go_ret
        exact ⟨rfl, HWB.out.trans (HBw.out.mono HWB.out.size)⟩
      | true =>
        have hR : RightP ps 5 := of_decide_eq_true HRTT.out
        have hm1 : 1 ≤ m := by rw [← HM.out]; exact hR.2.1
        have hm5 : m ≤ 5 := by have := hR.2.2; rw [HM.out] at this; omega
        have HT := Lib.hid (right_txn (C := 60) hR (by omega))
        have HIM := Lib.hid (lawImages HPR.out (by rw [HM.out]; omega))
        rw [HM.out] at HIM
        have HRR := Lib.hid hR
        obtain ⟨t, ht⟩ : ∃ t, imgsOf ps = t := ⟨_, rfl⟩
        have htl : t.length = m := by rw [← ht, imgsOf_length, HM.out]
        rw [ht] at HT HIM
        have HTT := Lib.hid ht
        have HTL := Lib.hid htl
        clear hR ht htl
        go_wp2_with fail
        try go_at_call 12
        refine HIM.out.mono ?_
        rintro e x1 ⟨⟨a1, b1, rfl, hO, hO2⟩, hb1⟩
        obtain ⟨g, cg, rfl, hgN, -, hgl, hgr⟩ := own_row hO (by omega)
        obtain ⟨g', cg', rfl, -, -, -, -⟩ := own_row hO2 (by omega)
        have A1 := (HA.out.below hb1 (fun k => k = g) (fun k hk => .inr ⟨by omega, by omega⟩))
        have hfit : (layB 9 ts).length + t.length + 1 ≤ 60 := by
          have := layB_le ts 9 HT5.out
          rw [HTS.out] at this
          rw [HTL.out]
          omega
        have hts : ts.length ≤ 100 := by rw [HTS.out]; omega
        have hap := HLY.out.app HT.out hfit hts
        have HAP := Lib.hid (Ln.call (own := fun k => k = g) (c := cg) A1 HLY.out (by omega) HT.out hfit hts hgr rfl)
        have HLY2 := Lib.hid hap.2
        rw [HTL.out, ← HAN.out, ← HQN.out] at HAP
        obtain ⟨A2, hA2⟩ : ∃ A2, nx 60 50 9 (ts ++ [t]) = A2 := ⟨_, rfl⟩
        rw [hA2] at HAP
        have HA2 := Lib.hid hA2
        obtain ⟨q2, hq2⟩ : ∃ q2, (q + 1) % 4294967296 = q2 := ⟨_, rfl⟩
        have HTS2 : Hid ((ts ++ [t]).length = i + 1) := by show _ = _; rw [List.length_append, HTS.out]; rfl
        have HQN2 : Hid (q2 = seqAt 9 (ts ++ [t]).length) := by
          show q2 = _
          rw [HTS2.out, ← hq2, HQN.out, HTS.out]
          unfold seqAt
          omega
        have HT52 : Hid (∀ u ∈ ts ++ [t], u.length ≤ 5) := fun u hu => by
          rcases List.mem_append.1 hu with h | h
          · exact HT5.out u h
          · rw [List.mem_singleton.1 h, HTL.out]; exact hm5
        have HTD2 : Hid (ts ++ [t] = (L.take (i + 1)).map imgsOf) := by
          show _ = _
          rw [List.take_add_one, HPS.out, List.map_append, ← HTD.out, ← HTT.out]
          rfl
        clear hO hO2 hb1 hgN hgl hgr A1 hfit hts hap hA2 HIM c0
        go_wp2_with fail
        try go_at_call 13
        refine HAP.out.mono ?_
        rintro e x2 ⟨rfl, a2, -⟩
        have HA' := Lib.hid (AtR.less a2 (fun _ => False) (fun _ h => h.elim))
        clear a2 HAP
        have HB2 : Hid (Below W.heap.size W x2) := AtR.bel HA'.out
        have c2 := (HQ.out x2 HB2.out).1
        have cA2 := (CB.out x2 HB2.out).cell 0 _ rfl
        go_wp2_with fail
        go_roundw
        case rel => exact ⟨i + 1, _, ts ++ [t], A2, q2, hlt, by go_num, rfl, by rw [hq2], HA2.out.symm, HQN2, HTS2, HT52, HTD2, by rw [← HAN.out, ← HQN.out]; exact HA', HLY2⟩
        case measure => simp [intOf]; omega
    · obtain rfl : n = i := by omega
      have g1 : decide ((n : Int) < (n : Int)) = false := by simp
      have HBr : Hid (Below W.heap.size W wr) := AtR.bel HA.out
      have cB := (CB.out wr HBr.out).cell 1 _ rfl
      have HIM := Lib.hid (HI1.out wr HBr.out)
      obtain ⟨K, hK⟩ : ∃ K : Nat, Int.tmod n8 12 = (K : Int) := ⟨(n8 % 12).toNat, by have := HN8.out; rw [Int.tmod_eq_emod_of_nonneg (by omega)]; omega⟩
      have hK12 : K < 12 := by
        have := HN8.out
        have e : Int.tmod n8 12 = n8 % 12 := Int.tmod_eq_emod_of_nonneg (by omega)
        rw [e] at hK
        omega
      have hKe : n8 % 12 = (K : Int) := by have := HN8.out; rw [← hK, Int.tmod_eq_emod_of_nonneg (by omega)]
      have HKK := Lib.hid (And.intro hK hKe)
      have HK12 := Lib.hid hK12
      have n80 := HN8.out.1
      have n81 := HN8.out.2
      clear hK hKe
      go_wp2_with fail
      try go_at_call 12
      refine HIM.out.mono ?_
      rintro e x1 ⟨⟨g1, cg1, bb1, rfl, hg1a, hg1l, hg1r⟩, hb1⟩
      have A1 := Lib.hid (HA.out.below hb1 (fun k => k = g1) (fun k hk => .inr ⟨by omega, by omega⟩))
      have HG1a := Lib.hid hg1r
      have cC := (CB.out x1 (AtR.bel A1.out)).cell 2 _ rfl
      have hK1 := HKK.out.1
      have hK2 := HKK.out.2
      have HARM := Lib.hid (RAt.arm A1.out (K : Int))
      clear hg1a hg1l hg1r hb1 cB HIM
      go_wp2_with fail
      try go_at_call 26
      refine HARM.out.mono ?_
      rintro e x2 ⟨rfl, a2, hown2⟩
      obtain ⟨S1, hS1⟩ : ∃ s, ({ S with fuse := (K : Int) } : RS) = s := ⟨_, rfl⟩
      rw [hS1] at a2
      have hg2 := rangeAt_same HG1a.out (hown2 g1 rfl)
      have hfit : (layB 9 ts).length + t1.length + 1 ≤ 60 := by
        have := layB_le ts 9 HT5.out
        rw [HTS.out] at this
        rw [HL1.out]
        omega
      have hts : ts.length ≤ 100 := by rw [HTS.out]; omega
      have hA60 : A < 60 := by rw [HAN.out]; exact HLY.out.nx_lt
      have hd1 := HLY.out.d1
      rw [HTS.out] at hd1
      have hap := app_at (F := 4) (C := 60) (A := A) (seq := q) (c := cg1) (t := t1) a2 (by rw [← hS1]; show (K : Int) ≤ 1000000; omega) (by rw [← hS1]; exact HLY.out.d0) (by rw [← hS1]; show S.done ≤ 900000; omega) (by rw [← hS1]; exact HLY.out.few.mono (by omega)) (by omega) (by omega) (by rw [← hS1]; show 4 + 60 ≤ S.n0; rw [HLY.out.n0]; omega) hA60 (by rw [← hS1]; show S.n0 ≤ 4096; rw [HLY.out.n0]; omega) (by rw [HQN.out]; exact isSeq_at _ _) HTL.out hg2 rfl
      obtain ⟨us, u1, u2, u3, u4, u5, u6, u7, u8, u9, u10⟩ := HLY.out.torn HTL.out hfit hts (K : Int) bs [] hS1.symm HAN.out HQN.out
      obtain ⟨E, hE⟩ : ∃ e, S1.app 4 60 A q t1 = e := ⟨_, rfl⟩
      rw [hE] at hap u1 u2 u3 u4 u5 u6 u7 u8 u9 u10
      rw [HL1.out] at hap
      obtain ⟨E2, hE2⟩ : ∃ e, E.2 = e := ⟨_, rfl⟩
      rw [hE2] at hap u1 u10
      obtain ⟨o0, ho0⟩ : ∃ o : Int, (if E2 = 0 then (((A + m1 + 1) % 60 : Nat) : Int) else 0) = o := ⟨_, rfl⟩
      rw [ho0] at hap
      have HAP := Lib.hid hap
      have HG2a := Lib.hid hg2
      have HFE : Hid (E.1.Few 1000000) := by
        show RS.Few _ _
        rw [← hE]
        exact RS.app_few (by rw [← hS1]; exact HLY.out.few.mono (by omega)) (by omega) (by rw [← hS1]; show 4 + 60 ≤ S.n0; rw [HLY.out.n0]; omega) (by rw [HL1.out]; omega)
      obtain ⟨S3, hS3⟩ : ∃ s, E.1.crash bs [] = s := ⟨_, rfl⟩
      rw [hS3] at u2 u3 u4 u5 u6 u7 u8 u9
      have hfw : S3.Few 250 := by rw [← hS3]; exact RS.few_crash _ _ _ _
      have HS3 := Lib.hid hS3
      have HRG := Lib.hid u2
      have HREP := Lib.hid u3
      have HRST := Lib.hid u4
      have HBB3 := Lib.hid u5
      have HUP := Lib.hid u6
      have HN3 := Lib.hid u7
      have HD3 := Lib.hid (And.intro u8 u9)
      have HFEW := Lib.hid hfw
      obtain ⟨N6, hN6⟩ : ∃ m, us.length = m := ⟨_, rfl⟩
      have HN6 := Lib.hid hN6
      have HUS : Hid (∀ k, k < n → us[k]? = ts[k]?) := fun k hk => by
        rcases u1 with ⟨e, _⟩ | e
        · rw [e]
        · rw [e, List.getElem?_append_left (by rw [HTS.out]; exact hk)]
      have hcase : (N6 = n ∧ E2 ≠ 0) ∨ N6 = n + 1 := by
        rcases u1 with ⟨e, h⟩ | e
        · exact .inl ⟨by rw [← hN6, e, HTS.out], h⟩
        · right; rw [← hN6, e, List.length_append, HTS.out]; rfl
      have HUT : Hid (n < N6 → us[n]? = some t1) := fun h => by
        rcases u1 with ⟨e, _⟩ | e
        · rw [e, HTS.out] at hN6; omega
        · rw [e, List.getElem?_append_right (by rw [HTS.out]; exact Nat.le_refl _), HTS.out, Nat.sub_self]; rfl
      have HUF : Hid ((layB 9 us).length ≤ 54) := by
        show _ ≤ _
        have h1 := layB_le us 9 (fun u hu => by
          rcases u1 with ⟨e, _⟩ | e
          · rw [e] at hu; exact HT5.out u hu
          · rw [e] at hu
            rcases List.mem_append.1 hu with h | h
            · exact HT5.out u h
            · rw [List.mem_singleton.1 h, HL1.out]; exact hm1.2)
        rw [hN6] at h1
        rcases hcase with ⟨h, _⟩ | h <;> omega
      have HNN : Hid (n ≤ N6) := by show _ ≤ _; rcases hcase with ⟨h, _⟩ | h <;> omega
      have HN1 : Hid (N6 ≤ n + 1) := by show _ ≤ _; rcases hcase with ⟨h, _⟩ | h <;> omega
      have HN9 : Hid (N6 ≤ 9) := by show _ ≤ _; rcases hcase with ⟨h, _⟩ | h <;> omega
      have HCASE := Lib.hid hcase
      have HU10 := Lib.hid u10
      clear a2 hown2 hg2 hfit hts hA60 hd1 hap u1 u2 u3 u4 u5 u6 u7 u8 u9 u10 hE hE2 ho0 hS3 hfw hN6 hcase hS1 HARM cC hK1 hK2
      go_wp2_with fail
      try go_at_call 13
      refine HAP.out.mono ?_
      rintro e x3 ⟨rfl, a3, hown3⟩
      have A3 := Lib.hid a3
      have HG3 := Lib.hid (rangeAt_same HG2a.out (hown3 g1 rfl))
      have HB3 : Hid (Below W.heap.size W x3) := AtR.bel a3
      have cD := (CB.out x3 HB3.out).cell 3 _ rfl
      have cD' := (CB.out _ (HB3.out.trans ((below_new x3 (.cells #[] 5)).mono HB3.out.size))).cell 3 _ rfl
      obtain ⟨v3, w3, HAC, HO, HBW⟩ := copy_lit x3 (.slice pp P pcap) bs (HSL.out.below HB3.out) (by rw [HPN.out]; omega)
      clear a3 hown3 HAP
      go_wp2_with (at_builtin; refine wpList_append_run (.tmp 118) (.tmp 120) 35 rfl rfl _ _ _ rfl rfl HAC.out ?_)
      have hrow := HO.out
      have hS3' : Sl .u8 w3 v3 bs := Sl.of_owns hrow
      have A3w := A3.out.below HBW.out (fun k => k = g1 ∨ (x3.heap.size ≤ k ∧ k < w3.heap.size)) (fun k hk => hk)
      have HG3w := range_below HBW.out (AtR.lt A3.out rfl) HG3.out
      have HCR := Lib.hid (A3w.crash (v1 := .slice none 0 0) (b1 := []) hS3' (Sl.nil _ _) HBB.out (fun j => by simp) (fun _ b off len cap e => by have := hrow.lt b (by rw [e]; rfl); exact .inr (.inr this)) (fun h => absurd rfl h) HFE.out)
      have HG3W := Lib.hid HG3w
      clear hrow hS3' A3w HG3w cD cD' HAC HO
      try go_at_call 18
      refine HCR.out.mono ?_
      rintro e x4 ⟨rfl, a4, hown4⟩
      rw [HS3.out] at a4
      have A4 := Lib.hid (AtR.less a4 (fun k => k = g1) (fun k hk => .inl hk))
      have HG4 := Lib.hid (rangeAt_same HG3W.out (hown4 g1 (.inl rfl)))
      obtain ⟨A6, hA6⟩ : ∃ a, nx 60 50 9 us = a := ⟨_, rfl⟩
      obtain ⟨q6, hq6⟩ : ∃ a, seqAt 9 us.length = a := ⟨_, rfl⟩
      rw [hA6, hq6] at HREP
      have HA6 := Lib.hid hA6
      have HQ6 := Lib.hid hq6
      have HR4 : Hid (Calls Try.prog 15 #[.pointer (some ⟨rb, 0, none⟩), .int .i64 4, .int .i64 60, .int .i64 50, .int .u32 9] x4 fun e w' => (∃ v, e = .returned (.tuple #[.agg (logD v A6 q6).toArray, .int .i64 0]) ∧ TxnsR 38 81 w' x4.heap.size v us) ∧ Below x4.heap.size x4 w') :=
        rep_at (F := 4) (C := 60) (A := 50) A4.out HBB3.out HUP.out.down (by omega) (by omega) (by rw [HN3.out]; omega) (by omega) (by rw [HN3.out]; omega) (by unfold IsSeq; omega) HREP.out
      have HB4 : Hid (Below W.heap.size W x4) := AtR.bel a4
      clear a4 hown4 HCR HREP hA6 hq6
      go_wp2_with fail
      try go_at_call 15
      refine HR4.out.mono ?_
      rintro e x5 ⟨⟨v5, rfl, ht5⟩, hb5⟩
      obtain ⟨r6, c6, rfl, -⟩ := ht5.at
      rw [HN6.out]
      obtain ⟨x6, ST6, hr6, hb6⟩ := new_logD x5 (.slice r6 N6 c6) A6 q6 rfl
      have hb46 : Below x4.heap.size x4 x6 := hb5.trans (hb6.mono hb5.size)
      have HB64' := hb5.size
      obtain ⟨B6, hB6⟩ : ∃ b, x5.heap.size = b := ⟨_, rfl⟩
      rw [hB6] at hr6 ST6 HB64'
      have R6 := Lib.hid hr6
      have B46 := Lib.hid hb46
      have HB64 := Lib.hid HB64'
      have HB6 : Hid (Below W.heap.size W x6) := HB4.out.trans (hb46.mono HB4.out.size)
      have cc6 : x6.cell? ⟨B6, 0, none⟩ = some (.slice r6 N6 c6) := hr6.cell 0 _ rfl
      have cA6 := (CB.out x6 HB6.out).cell 0 _ rfl
      have c8 := (CB.out x6 HB6.out).cell 4 _ rfl
      obtain ⟨β1, hβ1⟩ : ∃ β, ((N6 : Int) != (n : Int)) = β := ⟨_, rfl⟩
      obtain ⟨β2, hβ2⟩ : ∃ β, ((N6 : Int) != (n : Int) + 1) = β := ⟨_, rfl⟩
      obtain ⟨β3, hβ3⟩ : ∃ β, (E2 == 0) = β := ⟨_, rfl⟩
      have hcs : (β1 = false ∧ β3 = false) ∨ (β1 = true ∧ β2 = false ∧ β3 = true) ∨ (β1 = true ∧ β2 = false ∧ β3 = false) := by
        rcases HCASE.out with ⟨h1, h2⟩ | h1
        · left
          exact ⟨by rw [← hβ1, h1]; simp, by rw [← hβ3]; simpa using h2⟩
        · right
          have e1 : β1 = true := by rw [← hβ1]; simp; omega
          have e2 : β2 = false := by rw [← hβ2, h1]; simp
          cases hb3 : β3 with
          | true => exact .inl ⟨e1, e2, rfl⟩
          | false => exact .inr ⟨e1, e2, rfl⟩
      have gN1 := hβ1
      have gN2 := hβ2
      have gE := hβ3
      clear ht5 hb5 hr6 hb6 hb46 HB64' hβ1 hβ2 hβ3 HR4
      rcases hcs with ⟨rfl, rfl⟩ | ⟨rfl, rfl, rfl⟩ | ⟨rfl, rfl, rfl⟩
      all_goals
        go_wp2_with fail
        clear ST6 cc6 cA6 hB6
        clear gN1 gN2 gE
        have HI6 := Lib.hid (HI2.out x6 HB6.out)
        try go_at_call 12
        refine HI6.out.mono ?_
        rintro e x7 ⟨⟨g2, cg2, bb2, rfl, hg2a, hg2l, hg2r⟩, hb7⟩
        have b47 : Below x4.heap.size x4 x7 := B46.out.trans (hb7.mono B46.out.size)
        have hB6l := R6.out.lt
        have A7 := RAt.below A4.out b47 (fun k => k = g1 ∨ k = B6 ∨ k = g2) (fun k hk => by
          rcases hk with hk | hk | hk
          · exact .inl hk
          · exact .inr ⟨by rw [hk]; exact HB64.out, by rw [hk]; exact Nat.lt_of_lt_of_le hB6l hb7.size⟩
          · exact .inr ⟨by rw [hk]; exact Nat.le_trans B46.out.size hg2a, by rw [hk]; exact hg2l⟩)
        have R7 := R6.out.below hb7
        have HG7 := range_below b47 (AtR.lt A4.out rfl) HG4.out
        have d1 : x7.cell? ⟨B6, 1, none⟩ = some (.int .i64 (A6 : Int)) := R7.cell 1 _ rfl
        have d2 : x7.cell? ⟨B6, 2, none⟩ = some (.int .u32 q6) := R7.cell 2 _ rfl
        have hA6 := HA6.out
        have hq6 := HQ6.out
        have HAP7 := Lib.hid (app_at (F := 4) (C := 60) (seq := q6) (c := cg2) A7 (by rw [HUP.out.fuse]; decide) HD3.out.1 (by have := HD3.out.2; omega) HFEW.out (by omega) (by omega) (by rw [HN3.out]; omega) (show A6 < 60 by rw [← hA6]; exact Nat.mod_lt _ (by omega)) (by rw [HN3.out]; omega) (by rw [← hq6]; exact isSeq_at _ _) HTH.out hg2r (.inr (.inr rfl)))
        obtain ⟨f1, f2, f3, f4⟩ := HRG.out.then HRST.out HUP.out HFEW.out HTH.out (by rw [HL2.out]; have := HUF.out; omega)
        rw [hA6, hq6] at f1 f2 f3 f4
        rw [f1, HL2.out] at HAP7
        obtain ⟨o1, ho1⟩ : ∃ o : Int, (if (0 : Int) = 0 then (((A6 + m2 + 1) % 60 : Nat) : Int) else 0) = o := ⟨_, rfl⟩
        rw [ho1] at HAP7
        have hbb4 : (S3.app 4 60 A6 q6 t2).1.BB := HBB3.out.app (by rw [← hq6]; exact isSeq_at _ _) HTH.out.ok
        obtain ⟨S4, hS4⟩ : ∃ s, (S3.app 4 60 A6 q6 t2).1 = s := ⟨_, rfl⟩
        rw [hS4] at HAP7 f2 f3 f4 hbb4
        obtain ⟨A9, hA9⟩ : ∃ a, nx 60 50 9 (us ++ [t2]) = a := ⟨_, rfl⟩
        obtain ⟨q9, hq9⟩ : ∃ a, seqAt 9 (us ++ [t2]).length = a := ⟨_, rfl⟩
        rw [hA9, hq9] at f4
        have hn4 : S4.n0 = 70 := f3.trans HN3.out
        have HRP9 : Hid (∀ (x : World) (own : Nat → Prop), RAt W x rb p0 p1 S4 own → Calls Try.prog 15 #[.pointer (some ⟨rb, 0, none⟩), .int .i64 4, .int .i64 60, .int .i64 50, .int .u32 9] x fun e w' => (∃ v, e = .returned (.tuple #[.agg (logD v A9 q9).toArray, .int .i64 0]) ∧ TxnsR 38 81 w' x.heap.size v (us ++ [t2])) ∧ Below x.heap.size x w') := fun x own hx =>
          rep_at (F := 4) (C := 60) (A := 50) hx hbb4 f2.down (by omega) (by omega) (by omega) (by omega) (by omega) (by unfold IsSeq; omega) f4
        have HG2 := Lib.hid hg2r
        have HG1 := Lib.hid HG7
        have RR7 := Lib.hid R7
        have A7L1 : Hid (g1 < x7.heap.size) := AtR.lt A7 (.inl rfl)
        have A7L2 : Hid (g2 < x7.heap.size) := AtR.lt A7 (.inr (.inr rfl))
        clear c8 hg2a hg2l hg2r b47 hB6l A7 R7 HG7 f1 f2 f3 f4 hbb4 hS4 hA9 hq9 hn4 hA6 hq6 ho1 hb7
        go_wp2_with fail
        clear d1 d2
        try go_at_call 13
        refine HAP7.out.mono ?_
        rintro e x8 ⟨rfl, a8, hown8⟩
        have A8 := Lib.hid a8
        have r8 : RowC x8 B6 48 (logD (.slice r6 N6 c6) A6 q6) := (hown8 B6 (.inr (.inl rfl))).trans RR7.out
        have HG18 := Lib.hid (rangeAt_same HG1.out (hown8 g1 (.inl rfl)))
        have HG28 := Lib.hid (rangeAt_same HG2.out (hown8 g2 (.inr (.inr rfl))))
        have HL18 : Hid (g1 < x8.heap.size) := AtR.lt a8 (.inl rfl)
        have HL28 : Hid (g2 < x8.heap.size) := AtR.lt a8 (.inr (.inr rfl))
        have R8 := Lib.hid r8
        have HB8 : Hid (Below W.heap.size W x8) := AtR.bel a8
        have HR8 := Lib.hid (HRP9.out x8 _ a8)
        clear a8 hown8 r8 HAP7 HRP9
        go_wp2_with fail
        try go_at_call 15
        refine HR8.out.mono ?_
        rintro e x9 ⟨⟨v9, rfl, ht9⟩, hb9⟩
        obtain ⟨r9, c9, rfl, hat⟩ := ht9.at
        obtain ⟨N7, hN7⟩ : ∃ n, (us ++ [t2]).length = n := ⟨_, rfl⟩
        rw [hN7]
        obtain ⟨Y, ST9, hr9, hb9'⟩ := new_logD x9 (.slice r9 N7 c9) A9 q9 rfl
        have by9 : Below x8.heap.size x8 Y := hb9.trans (hb9'.mono hb9.size)
        have HBY : Hid (Below W.heap.size W Y) := HB8.out.trans (by9.mono HB8.out.size)
        obtain ⟨B10, hB10⟩ : ∃ b, x9.heap.size = b := ⟨_, rfl⟩
        rw [hB10] at hr9 ST9
        have R10 := Lib.hid hr9
        have BX9 := Lib.hid hb9'
        have HAT := Lib.hid hat
        have h67 : N7 = N6 + 1 := by rw [← hN7, List.length_append, HN6.out]; rfl
        have HG1Y : Hid (∀ z, Below Y.heap.size Y z → z.rangeAt g1 0 (imgR t1).flatten) := fun z hz => range_below (by9.trans (hz.mono by9.size)) HL18.out HG18.out
        have HG2Y : Hid (∀ z, Below Y.heap.size Y z → z.rangeAt g2 0 (imgR t2).flatten) := fun z hz => range_below (by9.trans (hz.mono by9.size)) HL28.out HG28.out
        have e0 : Y.cell? ⟨B10, 0, none⟩ = some (.slice r9 N7 c9) := hr9.cell 0 _ rfl
        have e1 : Y.cell? ⟨B6, 0, none⟩ = some (.slice r6 N6 c6) := (R8.out.below by9).cell 0 _ rfl
        have H67 := Lib.hid h67
        have gL : ((N7 : Int) != (N6 : Int) + 1) = false := by rw [h67]; simp
        have hN9 := HN9.out
        have hN7b : N7 ≤ 10 := by omega
        have HN7 := Lib.hid hN7
        clear ht9 hb9 hb9' hr9 hat by9 h67 hN7 HR8 HN9
        go_wp2_with fail
        clear ST9 hB10 e0 e1 gL
        go_loopw [24] (fun kv wz => ∃ k : Nat, k ≤ N7 ∧ kv = .int .i64 (k : Int) ∧ Hid (Below Y.heap.size Y wz)) (fun kv _ => N7 - (intOf kv).toNat)
        case atStart => exact ⟨0, Nat.zero_le _, rfl, Below.refl _ _⟩
        case round =>
          obtain ⟨k, hk, rfl, HKZ⟩ := hrel
          obtain ⟨wz, hwz⟩ : ∃ x, x = wr := ⟨_, rfl⟩
          subst hwz
          have HBZ : Hid (Below W.heap.size W wz) := HBY.out.trans (HKZ.out.mono HBY.out.size)
          have e0 : wz.cell? ⟨B10, 0, none⟩ = some (.slice r9 N7 c9) := (R10.out.below HKZ.out).cell 0 _ rfl
          have cA := (CB.out wz HBZ.out).cell 0 _ rfl
          by_cases hltk : k < N7
          · have g1' : decide ((k : Int) < (N7 : Int)) = true := by simpa using hltk
            by_cases hkn : k < n
            · have g3 : decide ((k : Int) < (n : Int)) = true := by simpa using hkn
              obtain ⟨b, off, hva, -, -, -, hop⟩ := HPRS.out.open (fun e => by have := HLN.out; rw [e] at this; simp at this; omega)
              subst hva
              obtain ⟨ps, hps⟩ : ∃ ps, L[k]? = some ps := ⟨_, List.getElem?_eq_getElem (by rw [HLN.out]; exact hkn)⟩
              obtain ⟨ra, rc, hq⟩ := hop k ps hps
              obtain ⟨tk, htkd⟩ : ∃ t, imgsOf ps = t := ⟨_, rfl⟩
              have htk : (us ++ [t2])[k]? = some tk := by
                rw [List.getElem?_append_left (by rw [HN6.out]; have := HNN.out; omega), HUS.out k hkn, HTD.out, List.getElem?_map, List.getElem?_take_of_lt hkn, hps, ← htkd]
                rfl
              have hmem : tk ∈ ts := by
                have h1 := HUS.out k hkn
                rw [List.getElem?_append_left (by rw [HN6.out]; have := HNN.out; omega), h1] at htk
                exact List.mem_of_getElem? htk
              have htok : ∀ x ∈ tk, x.Ok := (HLY.out.ring.ok tk hmem).ok
              have h1le := (HLY.out.ring.ok tk hmem).least
              have h5le := HT5.out tk hmem
              obtain ⟨mw, htkl⟩ : ∃ m, tk.length = m := ⟨_, rfl⟩
              have hpl : ps.length = mw := by rw [← htkl, ← htkd, imgsOf_length]
              have cE := (hq wz HBZ.out).1
              rw [hpl] at cE
              have HIK := Lib.hid (lawImages (hq wz HBZ.out).2 (by omega))
              rw [hpl, htkd] at HIK
              rw [htkl] at h1le h5le
              clear hps hq hop htkd hmem hpl
              go_wp2_with fail
              try go_at_call 12
              refine HIK.out.mono ?_
              rintro e wq ⟨⟨a1, b1, rfl, hO, hO2⟩, hbq⟩
              obtain ⟨gw, cgw, rfl, -, -, hgwl, hgwr⟩ := own_row hO (by omega)
              obtain ⟨gw', cgw', rfl, -, -, -, -⟩ := own_row hO2 (by omega)
              have HWQ : Hid (Below Y.heap.size Y wq) := HKZ.out.trans (hbq.mono HKZ.out.size)
              have HWR : Hid (∀ z, Below wq.heap.size wq z → z.rangeAt gw 0 (imgR tk).flatten) := fun z hz => range_below hz hgwl hgwr
              clear hO hO2 hbq hgwl hgwr HIK e0 cA cE
              obtain ⟨gM, hrM, hgMl, rk, dk, hck, hrk⟩ := HAT.out k tk htk
              subst hrM
              have hmw : 0 < tk.length := by omega
              obtain ⟨bk, hrkb, hbkl, hbkr⟩ := hrk hmw
              subst hrkb
              rw [htkl] at hck
              have HYK : Hid (Below x9.heap.size x9 wq) := BX9.out.trans (HWQ.out.mono BX9.out.size)
              have e0 : wq.cell? ⟨B10, 0, none⟩ = some (.slice (some ⟨gM, 0, none⟩) N7 c9) := (R10.out.below HWQ.out).cell 0 _ rfl
              have e1 : wq.cell? ⟨gM, k, none⟩ = some (.slice (some ⟨bk, 0, none⟩) mw dk) := (HYK.out.cell (p := ⟨gM, k, none⟩) hgMl).trans hck
              have HBK : Hid (∀ z, Below wq.heap.size wq z → z.rangeAt bk 0 (imgR tk).flatten) := fun z hz => range_below (HYK.out.trans (hz.mono HYK.out.size)) hbkl hbkr
              have HGM : Hid (∀ z, Below wq.heap.size wq z → z.cell? ⟨gM, k, none⟩ = some (.slice (some ⟨bk, 0, none⟩) mw dk)) := fun z hz => ((HYK.out.trans (hz.mono HYK.out.size)).cell (p := ⟨gM, k, none⟩) hgMl).trans hck
              have HOKK := Lib.hid htok
              have HTKL := Lib.hid htkl
              have HLTK := Lib.hid hltk
              clear hck hrk hmw hgMl hbkl hbkr htk htok htkl h1le
              go_wp2_with fail
              clear e0 e1
              go_loopw [26] (fun jv wj => ∃ j : Nat, j ≤ mw ∧ jv = .int .i64 (j : Int) ∧ Hid (Below wq.heap.size wq wj)) (fun jv _ => mw - (intOf jv).toNat)
              case atStart => exact ⟨0, Nat.zero_le _, rfl, Below.refl _ _⟩
              case round =>
                obtain ⟨j, hj, rfl, HZ⟩ := hrel
                by_cases hlt : j < mw
                · have gjm : decide ((j : Int) < (mw : Int)) = true := by simpa using hlt
                  obtain ⟨X, hX⟩ : ∃ X, tk[j]? = some X := ⟨_, List.getElem?_eq_getElem (by rw [HTKL.out]; exact hlt)⟩
                  have hXo := HOKK.out X (List.mem_of_getElem? hX)
                  have C0 : ∀ z : Ext wr, z.1.cell? ⟨B10, 0, none⟩ = some (.slice (some ⟨gM, 0, none⟩) N7 c9) := fun z => (R10.out.below (HWQ.out.trans ((HZ.out.trans (z.2.mono HZ.out.size)).mono HWQ.out.size))).cell 0 _ rfl
                  have C1 : ∀ z : Ext wr, z.1.cell? ⟨gM, k, none⟩ = some (.slice (some ⟨bk, 0, none⟩) mw dk) := fun z => HGM.out z.1 (HZ.out.trans (z.2.mono HZ.out.size))
                  have C2 : ∀ z : Ext wr, (loadVar 81 ⟨bk, j * 49, none⟩).run Try.prog z.1 = .ok (.agg X.cells.toArray) z.1 := fun z => load_imgD (img_cells (HBK.out z.1 (HZ.out.trans (z.2.mono HZ.out.size))) HOKK.out hX) (Img.cells_length hXo.len)
                  have C3 : ∀ z : Ext wr, (loadVar 81 ⟨gw, j * 49, none⟩).run Try.prog z.1 = .ok (.agg X.cells.toArray) z.1 := fun z => load_imgD (img_cells (HWR.out z.1 (HZ.out.trans (z.2.mono HZ.out.size))) HOKK.out hX) (Img.cells_length hXo.len)
                  have C4 : ∀ z : Ext wr, (Op.equalIn 10000 81 (.agg X.cells.toArray) (.agg X.cells.toArray)).run Try.prog z.1 = .ok true z.1 := fun z => eq_img hXo.len z.1
                  have HLT := Lib.hid hlt
                  clear hX hXo
                  go_wp2_with fail
                  refine region_ext (by kernel_rfl) (by kernel_rfl) ?_
                  repeat (go_big_quiet_step (fail))
                  refine wpQuiet_nil ?_
                  intro z
                  have HZ2 : Hid (Below wq.heap.size wq z.1) := HZ.out.trans (z.2.mono HZ.out.size)
                  clear C0 C1 C2 C3 C4
                  go_wp2_with fail
                  go_roundw
                  case rel => exact ⟨j + 1, HLT.out, by go_num, HZ2⟩
                  case measure => have := HLT.out; simp [intOf]; omega
                · have gjm : decide ((j : Int) < (mw : Int)) = false := by simpa using hlt
                  have HZ2 : Hid (Below Y.heap.size Y wr) := HWQ.out.trans (HZ.out.mono HWQ.out.size)
                  go_wp2_with fail
                  go_roundw
                  case rel => exact ⟨k + 1, HLTK.out, by go_num, HZ2⟩
                  case measure => have := HLTK.out; simp [intOf]; omega
            · have g3 : decide ((k : Int) < (n : Int)) = false := by simpa using hkn
              by_cases hkN : k + 1 < N7
              · have g4 : decide ((k : Int) + 1 < (N7 : Int)) = true := by simp; omega
                have htk : (us ++ [t2])[k]? = some t1 := by
                  have h67 := H67.out
                  have hn6 := HNN.out
                  have hn7 := HN1.out
                  rw [List.getElem?_append_left (by rw [HN6.out]; omega)]
                  obtain rfl : k = n := by omega
                  exact HUT.out (by omega)
                have htok := HTL.out.ok
                have htkl := HL1.out
                have h1le := hm1.1
                have h5le := hm1.2
                have HWQ := HKZ
                have HWR : Hid (∀ z, Below wz.heap.size wz z → z.rangeAt g1 0 (imgR t1).flatten) := fun z hz => HG1Y.out z (HKZ.out.trans (hz.mono HKZ.out.size))
                clear e0
                obtain ⟨gM, hrM, hgMl, rk, dk, hck, hrk⟩ := HAT.out k t1 htk
                subst hrM
                have hmw : 0 < t1.length := by omega
                obtain ⟨bk, hrkb, hbkl, hbkr⟩ := hrk hmw
                subst hrkb
                rw [htkl] at hck
                have HYK : Hid (Below x9.heap.size x9 wz) := BX9.out.trans (HWQ.out.mono BX9.out.size)
                have e0 : wz.cell? ⟨B10, 0, none⟩ = some (.slice (some ⟨gM, 0, none⟩) N7 c9) := (R10.out.below HWQ.out).cell 0 _ rfl
                have e1 : wz.cell? ⟨gM, k, none⟩ = some (.slice (some ⟨bk, 0, none⟩) m1 dk) := (HYK.out.cell (p := ⟨gM, k, none⟩) hgMl).trans hck
                have HBK : Hid (∀ z, Below wz.heap.size wz z → z.rangeAt bk 0 (imgR t1).flatten) := fun z hz => range_below (HYK.out.trans (hz.mono HYK.out.size)) hbkl hbkr
                have HGM : Hid (∀ z, Below wz.heap.size wz z → z.cell? ⟨gM, k, none⟩ = some (.slice (some ⟨bk, 0, none⟩) m1 dk)) := fun z hz => ((HYK.out.trans (hz.mono HYK.out.size)).cell (p := ⟨gM, k, none⟩) hgMl).trans hck
                have HOKK := Lib.hid htok
                have HTKL := Lib.hid htkl
                have HLTK := Lib.hid hltk
                clear hck hrk hmw hgMl hbkl hbkr htk htok htkl h1le
                go_wp2_with fail
                clear e0 e1
                go_loopw [26] (fun jv wj => ∃ j : Nat, j ≤ m1 ∧ jv = .int .i64 (j : Int) ∧ Hid (Below wz.heap.size wz wj)) (fun jv _ => m1 - (intOf jv).toNat)
                case atStart => exact ⟨0, Nat.zero_le _, rfl, Below.refl _ _⟩
                case round =>
                  obtain ⟨j, hj, rfl, HZ⟩ := hrel
                  by_cases hlt : j < m1
                  · have gjm : decide ((j : Int) < (m1 : Int)) = true := by simpa using hlt
                    obtain ⟨X, hX⟩ : ∃ X, t1[j]? = some X := ⟨_, List.getElem?_eq_getElem (by rw [HTKL.out]; exact hlt)⟩
                    have hXo := HOKK.out X (List.mem_of_getElem? hX)
                    have C0 : ∀ z : Ext wr, z.1.cell? ⟨B10, 0, none⟩ = some (.slice (some ⟨gM, 0, none⟩) N7 c9) := fun z => (R10.out.below (HWQ.out.trans ((HZ.out.trans (z.2.mono HZ.out.size)).mono HWQ.out.size))).cell 0 _ rfl
                    have C1 : ∀ z : Ext wr, z.1.cell? ⟨gM, k, none⟩ = some (.slice (some ⟨bk, 0, none⟩) m1 dk) := fun z => HGM.out z.1 (HZ.out.trans (z.2.mono HZ.out.size))
                    have C2 : ∀ z : Ext wr, (loadVar 81 ⟨bk, j * 49, none⟩).run Try.prog z.1 = .ok (.agg X.cells.toArray) z.1 := fun z => load_imgD (img_cells (HBK.out z.1 (HZ.out.trans (z.2.mono HZ.out.size))) HOKK.out hX) (Img.cells_length hXo.len)
                    have C3 : ∀ z : Ext wr, (loadVar 81 ⟨g1, j * 49, none⟩).run Try.prog z.1 = .ok (.agg X.cells.toArray) z.1 := fun z => load_imgD (img_cells (HWR.out z.1 (HZ.out.trans (z.2.mono HZ.out.size))) HOKK.out hX) (Img.cells_length hXo.len)
                    have C4 : ∀ z : Ext wr, (Op.equalIn 10000 81 (.agg X.cells.toArray) (.agg X.cells.toArray)).run Try.prog z.1 = .ok true z.1 := fun z => eq_img hXo.len z.1
                    have HLT := Lib.hid hlt
                    clear hX hXo
                    go_wp2_with fail
                    refine region_ext (by kernel_rfl) (by kernel_rfl) ?_
                    repeat (go_big_quiet_step (fail))
                    refine wpQuiet_nil ?_
                    intro z
                    have HZ2 : Hid (Below wz.heap.size wz z.1) := HZ.out.trans (z.2.mono HZ.out.size)
                    clear C0 C1 C2 C3 C4
                    go_wp2_with fail
                    go_roundw
                    case rel => exact ⟨j + 1, HLT.out, by go_num, HZ2⟩
                    case measure => have := HLT.out; simp [intOf]; omega
                  · have gjm : decide ((j : Int) < (m1 : Int)) = false := by simpa using hlt
                    have HZ2 : Hid (Below Y.heap.size Y wr) := HWQ.out.trans (HZ.out.mono HWQ.out.size)
                    go_wp2_with fail
                    go_roundw
                    case rel => exact ⟨k + 1, HLTK.out, by go_num, HZ2⟩
                    case measure => have := HLTK.out; simp [intOf]; omega
              · have g4 : decide ((k : Int) + 1 < (N7 : Int)) = false := by simp; omega
                have htk : (us ++ [t2])[k]? = some t2 := by
                  have h67 := H67.out
                  rw [List.getElem?_append_right (by rw [HN6.out]; omega), HN6.out, show k - N6 = 0 by omega]
                  rfl
                have htok := HTH.out.ok
                have htkl := HL2.out
                have h1le := hm2.1
                have h5le := hm2.2
                have HWQ := HKZ
                have HWR : Hid (∀ z, Below wz.heap.size wz z → z.rangeAt g2 0 (imgR t2).flatten) := fun z hz => HG2Y.out z (HKZ.out.trans (hz.mono HKZ.out.size))
                clear e0
                obtain ⟨gM, hrM, hgMl, rk, dk, hck, hrk⟩ := HAT.out k t2 htk
                subst hrM
                have hmw : 0 < t2.length := by omega
                obtain ⟨bk, hrkb, hbkl, hbkr⟩ := hrk hmw
                subst hrkb
                rw [htkl] at hck
                have HYK : Hid (Below x9.heap.size x9 wz) := BX9.out.trans (HWQ.out.mono BX9.out.size)
                have e0 : wz.cell? ⟨B10, 0, none⟩ = some (.slice (some ⟨gM, 0, none⟩) N7 c9) := (R10.out.below HWQ.out).cell 0 _ rfl
                have e1 : wz.cell? ⟨gM, k, none⟩ = some (.slice (some ⟨bk, 0, none⟩) m2 dk) := (HYK.out.cell (p := ⟨gM, k, none⟩) hgMl).trans hck
                have HBK : Hid (∀ z, Below wz.heap.size wz z → z.rangeAt bk 0 (imgR t2).flatten) := fun z hz => range_below (HYK.out.trans (hz.mono HYK.out.size)) hbkl hbkr
                have HGM : Hid (∀ z, Below wz.heap.size wz z → z.cell? ⟨gM, k, none⟩ = some (.slice (some ⟨bk, 0, none⟩) m2 dk)) := fun z hz => ((HYK.out.trans (hz.mono HYK.out.size)).cell (p := ⟨gM, k, none⟩) hgMl).trans hck
                have HOKK := Lib.hid htok
                have HTKL := Lib.hid htkl
                have HLTK := Lib.hid hltk
                clear hck hrk hmw hgMl hbkl hbkr htk htok htkl h1le
                go_wp2_with fail
                clear e0 e1
                go_loopw [26] (fun jv wj => ∃ j : Nat, j ≤ m2 ∧ jv = .int .i64 (j : Int) ∧ Hid (Below wz.heap.size wz wj)) (fun jv _ => m2 - (intOf jv).toNat)
                case atStart => exact ⟨0, Nat.zero_le _, rfl, Below.refl _ _⟩
                case round =>
                  obtain ⟨j, hj, rfl, HZ⟩ := hrel
                  by_cases hlt : j < m2
                  · have gjm : decide ((j : Int) < (m2 : Int)) = true := by simpa using hlt
                    obtain ⟨X, hX⟩ : ∃ X, t2[j]? = some X := ⟨_, List.getElem?_eq_getElem (by rw [HTKL.out]; exact hlt)⟩
                    have hXo := HOKK.out X (List.mem_of_getElem? hX)
                    have C0 : ∀ z : Ext wr, z.1.cell? ⟨B10, 0, none⟩ = some (.slice (some ⟨gM, 0, none⟩) N7 c9) := fun z => (R10.out.below (HWQ.out.trans ((HZ.out.trans (z.2.mono HZ.out.size)).mono HWQ.out.size))).cell 0 _ rfl
                    have C1 : ∀ z : Ext wr, z.1.cell? ⟨gM, k, none⟩ = some (.slice (some ⟨bk, 0, none⟩) m2 dk) := fun z => HGM.out z.1 (HZ.out.trans (z.2.mono HZ.out.size))
                    have C2 : ∀ z : Ext wr, (loadVar 81 ⟨bk, j * 49, none⟩).run Try.prog z.1 = .ok (.agg X.cells.toArray) z.1 := fun z => load_imgD (img_cells (HBK.out z.1 (HZ.out.trans (z.2.mono HZ.out.size))) HOKK.out hX) (Img.cells_length hXo.len)
                    have C3 : ∀ z : Ext wr, (loadVar 81 ⟨g2, j * 49, none⟩).run Try.prog z.1 = .ok (.agg X.cells.toArray) z.1 := fun z => load_imgD (img_cells (HWR.out z.1 (HZ.out.trans (z.2.mono HZ.out.size))) HOKK.out hX) (Img.cells_length hXo.len)
                    have C4 : ∀ z : Ext wr, (Op.equalIn 10000 81 (.agg X.cells.toArray) (.agg X.cells.toArray)).run Try.prog z.1 = .ok true z.1 := fun z => eq_img hXo.len z.1
                    have HLT := Lib.hid hlt
                    clear hX hXo
                    go_wp2_with fail
                    refine region_ext (by kernel_rfl) (by kernel_rfl) ?_
                    repeat (go_big_quiet_step (fail))
                    refine wpQuiet_nil ?_
                    intro z
                    have HZ2 : Hid (Below wz.heap.size wz z.1) := HZ.out.trans (z.2.mono HZ.out.size)
                    clear C0 C1 C2 C3 C4
                    go_wp2_with fail
                    go_roundw
                    case rel => exact ⟨j + 1, HLT.out, by go_num, HZ2⟩
                    case measure => have := HLT.out; simp [intOf]; omega
                  · have gjm : decide ((j : Int) < (m2 : Int)) = false := by simpa using hlt
                    have HZ2 : Hid (Below Y.heap.size Y wr) := HWQ.out.trans (HZ.out.mono HWQ.out.size)
                    go_wp2_with fail
                    go_roundw
                    case rel => exact ⟨k + 1, HLTK.out, by go_num, HZ2⟩
                    case measure => have := HLTK.out; simp [intOf]; omega
          · have g1' : decide ((k : Int) < (N7 : Int)) = false := by simpa using hltk
            go_wp2_with fail
            try go_at_call 9
            refine (HW.out _).mono ?_
            rintro e yw ⟨rfl, hBw⟩
            have HBw : Hid (Below W.heap.size W yw) := HBZ.out.trans (hBw.mono HBZ.out.size)
            clear hBw
            go_wp2_with fail
            go_ret
            exact ⟨rfl, HWB.out.trans (HBw.out.mono HWB.out.size)⟩

set_option maxRecDepth 100000 in
theorem lifted (os : Os) (started : os.Started) (H : Type) (enc : TypeId × Value → H) :
    ReturnsInHanded {} Try.checked os 4 .any (Rows.ringTornSpec.pre6 enc Try.prog Try.f4 Rows.ringTornRow.domain false) (Rows.ringTornSpec.post enc Try.prog Try.f4 false true false false) := by
  refine returnsInHanded_of_change (C := Try.checked) own started (by kernel_rfl) Try.func4
    (ChangeSpec.witness6 (enc := enc) (C := Try.checked) false ⟨#[], #[.agg #[.slice none 0 0, .slice none 0 0, .int .u8 0, .slice none 0 0, .slice none 0 0]], []⟩ 8 (by kernel_rfl) (by kernel_rfl) (by kernel_rfl) (by kernel_rfl)) ?_
  intro W base args ds gs before hval0 hW hcnd _
  have hval : ∀ (j : Nat) t v, Try.f4.params[j]? = some t → args[j]? = some v → Value.okWide Try.prog W .any base t v := hval0
  have hW' := hW
  obtain ⟨p, q, hA0, hV, rfl, hfz, hnd⟩ := hW
  have hA : DataW.TrodAll enc Try.prog W 0 (fun _ => true) true Try.f4.params.toList args.toList ds p := hA0
  rw [Try.params4] at hA hval
  obtain ⟨v0, vs0, d0, ds0, p0, q0, hargs, rfl, rfl, h0, r0⟩ := trodAll_cons hA
  obtain ⟨rfl, rfl, rfl⟩ := trodAll_nil r0
  obtain rfl : args = #[v0] := by cases args; simp_all
  obtain ⟨rfl, rfl⟩ := trodVars_none hV
  have lt0 : ∀ x ∈ p0, x.block < W.heap.size := by obtain ⟨m, hm⟩ := h0; exact DataW.trod_lt m _ _ _ hm
  have a0 := Arg.mk (hval 0 76 v0 rfl rfl) h0
  clear hA0 hval0
  refine (walk v0 W a0).mono fun e W' ⟨he, bel⟩ => ?_
  subst he
  exact ⟨_, rfl, _, _, _, [], _, [], hW', trodAll_mk1 (shut_bool Try.underlying4 _), (trodAll_cons_mk (Below.trod laidOut (by kernel_rfl) (of_decide_eq_true (by kernel_rfl)) h0 bel lt0) trodAll_mk0), rfl, bel.frame _, fun h => by cases h⟩

set_option maxRecDepth 100000 in
theorem over : Rows.ringTornRow.holds Try.pinned (OpenSpec.ofChange Rows.ringTornSpec) :=
  OpenClaim.holds_of_wide 4 Try.f4 rfl rfl rfl rfl rfl rfl rfl ⟨rfl, rfl, rfl, rfl, rfl⟩ rfl rfl rfl rfl rfl (by kernel_rfl) Try.func4 (by kernel_rfl)
    (of_decide_eq_true (by kernel_rfl)) (by unfold Func.isWrapper; first | (rw [if_pos (by decide +kernel)]; kernel_rfl) | (rw [if_neg (by decide +kernel)]; exact ⟨rfl, rfl⟩))
    (fun os started H enc _ => lifted os started H enc)

theorem proved : Rows.RingTornSaid := over
#print axioms proved
end Go.Proofs.Ytfmgaakbfphpbaa.ringTorn
