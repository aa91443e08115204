/- Transactions of other sequences are none; from behind the first one on all but it are told. -/
import Derived.Test.YtfmgaakbfphpbaaG5
namespace Go.Proofs.Ytfmgaakbfphpbaa.ringStops
open Go.ChangeShapes Go.WideShapes Go.ChangeAt Go.RowKit
set_option linter.unusedVariables false
attribute [-simp] Try.isAgg59 Try.zeroValue59 Try.isAgg79 Try.zeroValue79 Try.isAgg102 Try.zeroValue102 Try.isAgg95 Try.zeroValue95 Try.isAgg81 Try.zeroValue81
attribute [-go_sem] loadVar storeVar run_equalIn_agg
attribute [local go_sem] zero_blk build_blk zero_bod build_bod zero_sec zero_imgR zero_imgD loadVar_open6 storeVar_open6

set_option maxRecDepth 100000 in
set_option maxHeartbeats 8000000 in
theorem walk (v0 v1 v2 : Value) (w : World) (w0 : Arg w 74 v0) (w1 : Arg w 5 v1) (w2 : Arg w 5 v2) :
    Calls Try.prog 6 #[v0, v1, v2] w fun e w' => e = .returned (.bool true) ∧ Below w.heap.size w w' := by
  obtain ⟨L, hpr⟩ := w0.prsS
  obtain ⟨ai, rfl, wa⟩ := w1.int Try.underlying5
  obtain ⟨oi, rfl, wo⟩ := w2.int Try.underlying5
  have ha := (wf_iff .u8 ai).1 wa
  simp [IntKind.min, IntKind.max, IntKind.signed, IntKind.bits] at ha
  have ho := (wf_iff .u8 oi).1 wo
  simp [IntKind.min, IntKind.max, IntKind.signed, IntKind.bits] at ho
  have HW := Lib.hid (ringWakes ringOk)
  have HB0 := Lib.hid (Below.refl w.heap.size w)
  obtain ⟨a, cap, rfl, -, -, -⟩ := id hpr
  obtain ⟨n, hn⟩ : ∃ n, L.length = n := ⟨_, rfl⟩
  rw [hn] at hpr ⊢
  have HLN := Lib.hid hn
  have HPRS := Lib.hid hpr
  clear hpr hn w0 w1 w2 wa wo
  by_cases h0 : n = 0
  · subst h0
    go_enter Try.func6, Try.ntmps6
    go_wp2_with fail
    try go_at_call 9
    refine (HW.out _).mono ?_
    rintro e yw ⟨rfl, hBw⟩
    have HBw : Hid (Below w.heap.size w yw) := HB0.out.trans (hBw.mono HB0.out.size)
    clear hBw
    go_wp2_with fail
    go_ret
    exact ⟨rfl, HBw.out⟩
  have g0 : ((n : Int) == 0) = false := by simp; omega
  by_cases h7 : 7 < n
  · have g7 : decide (7 < (n : Int)) = true := by simp; omega
    have g7' : decide ((n : Int) > 7) = true := g7
    go_enter Try.func6, Try.ntmps6
    go_wp2_with fail
    try go_at_call 9
    refine (HW.out _).mono ?_
    rintro e yw ⟨rfl, hBw⟩
    have HBw : Hid (Below w.heap.size w yw) := HB0.out.trans (hBw.mono HB0.out.size)
    clear hBw
    go_wp2_with fail
    go_ret
    exact ⟨rfl, HBw.out⟩
  have g7 : decide (7 < (n : Int)) = false := by simp; omega
  have g7' : decide ((n : Int) > 7) = false := g7
  obtain ⟨b, off, rfl, -, -, -, hop⟩ := HPRS.out.open (fun e => h0 (by rw [← HLN.out, e]; rfl))
  have HOP := Lib.hid hop
  clear hop HPRS
  obtain ⟨K, hK⟩ : ∃ K : Nat, Int.tmod ai 50 = (K : Int) := ⟨(ai % 50).toNat, by rw [Int.tmod_eq_emod_of_nonneg (by omega)]; omega⟩
  have hK50 : K < 50 := by
    have e : Int.tmod ai 50 = ai % 50 := Int.tmod_eq_emod_of_nonneg (by omega)
    rw [e] at hK
    omega
  have hKe : ai % 50 = (K : Int) := by rw [← hK, Int.tmod_eq_emod_of_nonneg (by omega)]
  have HN0 : Hid (nx 50 K 7 [] = K) := by show (K + 0) % 50 = K; omega
  have HO := Lib.hid ho
  clear ho
  go_enter Try.func6, Try.ntmps6
  go_wp2_with fail
  try go_at_call 10
  refine (RAt.new 60 1 w w HB0.out (by omega) (by omega) (by omega) (by omega) (fun _ => False) (fun _ h => h.elim)).mono ?_
  rintro e w1 ⟨rb, p0, p1, rfl, a0, -⟩
  have HA0 : Hid (RAt w w1 rb p0 p1 (newS 60 1) (fun _ => False)) := a0
  have HL0 : Hid (Ln 60 3 50 K 7 [] (newS 60 1)) := Ln.new (by omega) (by omega) (by omega) hK50 (by unfold IsSeq; omega)
  clear a0
  go_wp2_with fail
  go_loopw [9, 10, 12, 13] (fun pl sq sec iv wr => ∃ (i : Nat) (S : RS) (ts : List (List Img)) (A : Nat) (q : Int) (X : Nat), i ≤ n ∧ iv = .int .i64 (i : Int) ∧ pl = .int .i64 (A : Int) ∧ sq = .int .u32 q ∧ sec = .int .i64 (X : Int) ∧ Hid (A = nx 50 K 7 ts) ∧ Hid (q = seqAt 7 ts.length) ∧ Hid (ts.length = i) ∧ Hid (∀ t rest, ts = t :: rest → X = (K + t.length + 1) % 50) ∧ Hid (∀ u ∈ ts, u.length ≤ 5) ∧ Hid (ts = (L.take i).map imgsOf) ∧ Hid (RAt w wr rb p0 p1 S (fun _ => False)) ∧ Hid (Ln 60 3 50 K 7 ts S)) (fun _ _ _ iv _ => n - (intOf iv).toNat)
  case atStart =>
    have hx0 : ∀ (t : List Img) (rest : List (List Img)), [] = t :: rest → K = (K + t.length + 1) % 50 := fun t r h => by cases h
    have hu0 : ∀ u : List Img, u ∈ ([] : List (List Img)) → u.length ≤ 5 := fun u h => by cases h
    exact ⟨0, _, [], K, 7, K, Nat.zero_le _, rfl, rfl, rfl, rfl, HN0.out.symm, rfl, rfl, hx0, hu0, rfl, HA0, HL0⟩
  case round =>
    obtain ⟨i, S, ts, A, q, X, hi, rfl, rfl, rfl, rfl, HAN, HQN, HTS, HX, HT5, HTD, HA, HLY⟩ := hrel
    by_cases hlt : i < n
    · have g1 : decide ((i : Int) < (n : Int)) = true := by simpa using hlt
      obtain ⟨ps, hps⟩ : ∃ ps, L[i]? = some ps := ⟨_, List.getElem?_eq_getElem (by rw [HLN.out]; exact hlt)⟩
      obtain ⟨ra, rc, hq⟩ := HOP.out i ps hps
      have HQ := Lib.hid hq
      have HPS := Lib.hid hps
      have HBr : Hid (Below w.heap.size w wr) := AtR.bel HA.out
      have HPR := Lib.hid (HQ.out wr HBr.out).2
      have HRT := Lib.hid (lawRight HPR.out 5)
      have c0 := (HQ.out wr HBr.out).1
      obtain ⟨m, hm⟩ : ∃ m, ps.length = m := ⟨_, rfl⟩
      rw [hm] at c0 HQ HPR HRT
      have HM := Lib.hid hm
      obtain ⟨rt, hrt⟩ : ∃ rt, decide (RightP ps 5) = rt := ⟨_, rfl⟩
      rw [hrt] at HRT
      have HRTT := Lib.hid hrt
      clear hps hq hm hrt
      go_wp2_with fail
      try go_at_call 25
      refine HRT.out.mono ?_
      rintro e z ⟨rfl, hz⟩
      obtain rfl := hz.symm
      clear hz HRT
      cases rt with
      | false =>
        go_wp2_with fail
        try go_at_call 9
        refine (HW.out _).mono ?_
        rintro e yw ⟨rfl, hBw⟩
        have HBw : Hid (Below w.heap.size w yw) := HBr.out.trans (hBw.mono HBr.out.size)
        clear hBw
        go_wp2_with fail
        go_ret
        exact ⟨rfl, HBw.out⟩
      | true =>
        have hR : RightP ps 5 := of_decide_eq_true HRTT.out
        have hm1 : 1 ≤ m := by rw [← HM.out]; exact hR.2.1
        have hm5 : m ≤ 5 := by have := hR.2.2; rw [HM.out] at this; omega
        have HT := Lib.hid (right_txn (C := 50) hR (by omega))
        have HIM := Lib.hid (lawImages HPR.out (by rw [HM.out]; omega))
        rw [HM.out] at HIM
        have HRR := Lib.hid hR
        obtain ⟨t, ht⟩ : ∃ t, imgsOf ps = t := ⟨_, rfl⟩
        have htl : t.length = m := by rw [← ht, imgsOf_length, HM.out]
        rw [ht] at HT HIM
        have HTT := Lib.hid ht
        have HTL := Lib.hid htl
        clear hR ht htl
        go_wp2_with fail
        try go_at_call 12
        refine HIM.out.mono ?_
        rintro e x1 ⟨⟨a1, b1, rfl, hO, hO2⟩, hb1⟩
        obtain ⟨g, cg, rfl, hgN, -, hgl, hgr⟩ := own_row hO (by omega)
        obtain ⟨g', cg', rfl, -, -, -, -⟩ := own_row hO2 (by omega)
        have A1 := (HA.out.below hb1 (fun k => k = g) (fun k hk => .inr ⟨by omega, by omega⟩))
        have hfit : (layB 7 ts).length + t.length + 1 ≤ 50 := by
          have := layB_le ts 7 HT5.out
          rw [HTS.out] at this
          rw [HTL.out]
          omega
        have hts : ts.length ≤ 100 := by rw [HTS.out]; omega
        have hap := HLY.out.app HT.out hfit hts
        have HAP := Lib.hid (Ln.call (own := fun k => k = g) (c := cg) A1 HLY.out (by omega) HT.out hfit hts hgr rfl)
        have HLY2 := Lib.hid hap.2
        rw [HTL.out, ← HAN.out, ← HQN.out] at HAP
        obtain ⟨A2, hA2⟩ : ∃ A2, nx 50 K 7 (ts ++ [t]) = A2 := ⟨_, rfl⟩
        rw [hA2] at HAP
        have HA2 := Lib.hid hA2
        obtain ⟨q2, hq2⟩ : ∃ q2, (q + 1) % 4294967296 = q2 := ⟨_, rfl⟩
        have HTS2 : Hid ((ts ++ [t]).length = i + 1) := by show _ = _; rw [List.length_append, HTS.out]; rfl
        have HQN2 : Hid (q2 = seqAt 7 (ts ++ [t]).length) := by
          show q2 = _
          rw [HTS2.out, ← hq2, HQN.out, HTS.out]
          unfold seqAt
          omega
        have HT52 : Hid (∀ u ∈ ts ++ [t], u.length ≤ 5) := fun u hu => by
          rcases List.mem_append.1 hu with h | h
          · exact HT5.out u h
          · rw [List.mem_singleton.1 h, HTL.out]; exact hm5
        have HTD2 : Hid (ts ++ [t] = (L.take (i + 1)).map imgsOf) := by
          show _ = _
          rw [List.take_add_one, HPS.out, List.map_append, ← HTD.out, ← HTT.out]
          rfl
        clear hO hO2 hb1 hgN hgl hgr A1 hfit hts hap hA2 HIM c0
        go_wp2_with fail
        try go_at_call 13
        refine HAP.out.mono ?_
        rintro e x2 ⟨rfl, a2, -⟩
        have HA' := Lib.hid (AtR.less a2 (fun _ => False) (fun _ h => h.elim))
        clear a2 HAP
        have HB2 : Hid (Below w.heap.size w x2) := AtR.bel HA'.out
        have c2 := (HQ.out x2 HB2.out).1
        have hA50 : A < 50 := by rw [HAN.out]; exact HLY.out.nx_lt
        have gc : (((A2 : Nat) : Int) != (wrap64 (wrap64 ((A : Int) + (m : Int)) + 1)).tmod 50) = false := by
          rw [IntWalk.wrap64_in ((A : Int) + (m : Int)) (by omega), IntWalk.wrap64_in ((A : Int) + (m : Int) + 1) (by omega), Int.tmod_eq_emod_of_nonneg (by omega), ← HA2.out, ← nx_snoc (by unfold IsSeq; omega), HTL.out, ← HAN.out]
          simp
        clear hA50
        by_cases hi0 : i = 0
        · have gi : ((i : Int) == 0) = true := by simp [hi0]
          have HX2 : Hid (∀ t' rest, ts ++ [t] = t' :: rest → A2 = (K + t'.length + 1) % 50) := fun t' rest h => by
            have h1 : ts = [] := List.eq_nil_of_length_eq_zero (by rw [HTS.out]; exact hi0)
            rw [h1] at h
            simp at h
            rw [← HA2.out, h1, ← nx_snoc (by unfold IsSeq; omega), HN0.out, h.1]
          clear hi0
          go_wp2_with fail
          go_roundw
          case rel => exact ⟨i + 1, _, ts ++ [t], A2, q2, A2, hlt, by go_num, rfl, by rw [hq2], rfl, HA2.out.symm, HQN2, HTS2, HX2, HT52, HTD2, by rw [← HAN.out, ← HQN.out]; exact HA', HLY2⟩
          case measure => simp [intOf]; omega
        · have gi : ((i : Int) == 0) = false := by simp; omega
          have HX2 : Hid (∀ t' rest, ts ++ [t] = t' :: rest → X = (K + t'.length + 1) % 50) := fun t' rest h => by
            obtain ⟨t1, r1, h1⟩ : ∃ t1 r1, ts = t1 :: r1 := by
              cases h2 : ts with
              | nil => have := HTS.out; rw [h2] at this; exact absurd this.symm hi0
              | cons t1 r1 => exact ⟨t1, r1, rfl⟩
            rw [h1] at h
            simp at h
            rw [← h.1]
            exact HX.out t1 r1 h1
          clear hi0
          go_wp2_with fail
          go_roundw
          case rel => exact ⟨i + 1, _, ts ++ [t], A2, q2, X, hlt, by go_num, rfl, by rw [hq2], rfl, HA2.out.symm, HQN2, HTS2, HX2, HT52, HTD2, by rw [← HAN.out, ← HQN.out]; exact HA', HLY2⟩
          case measure => simp [intOf]; omega
    · obtain rfl : n = i := by omega
      have g1 : decide ((n : Int) < (n : Int)) = false := by simp
      obtain ⟨t0, rest, hts⟩ : ∃ t0 rest, ts = t0 :: rest := by
        cases h2 : ts with
        | nil => have := HTS.out; rw [h2] at this; exact absurd this.symm h0
        | cons t1 r1 => exact ⟨t1, r1, rfl⟩
      obtain ⟨m, hm⟩ : ∃ m, rest.length = m := ⟨_, rfl⟩
      have hnm : n = m + 1 := by have := HTS.out; rw [hts, List.length_cons, hm] at this; omega
      have hXe := HX.out t0 rest hts
      have hX50 : X < 50 := by rw [hXe]; exact Nat.mod_lt _ (by omega)
      have hA50 : A < 50 := by rw [HAN.out]; exact HLY.out.nx_lt
      have e1 : repS S.rd 3 50 K 7 = (ts, A, q) := by rw [HLY.out.rep, ← HAN.out, ← HQN.out]
      have e2 : repS S.rd 3 50 X 8 = (rest, A, q) := by
        have hz := RestZ.ends HLY.out.ring HLY.out.rest
        have hrg := HLY.out.ring
        rw [hts] at hz hrg
        have := hrg.repTail hz
        rw [← hXe, ← hts] at this
        rw [HAN.out, HQN.out]
        exact this
      have e3 : repS S.rd 3 50 K (8 + oi) = ([], K, 8 + oi) := by
        have hrg := HLY.out.ring
        rw [hts] at hrg
        have := HO.out
        exact hrg.repOther (by omega)
      have hs8 : IsSeq (8 + oi) := by have := HO.out; unfold IsSeq; omega
      have hn60 : S.n0 = 60 := HLY.out.n0
      have HC1 : Hid (Calls Try.prog 15 #[.pointer (some ⟨rb, 0, none⟩), .int .i64 3, .int .i64 50, .int .i64 (K : Int), .int .u32 7] wr fun e w' => (∃ v, e = .returned (.tuple #[.agg (logD v A q).toArray, .int .i64 0]) ∧ TxnsR 38 81 w' wr.heap.size v ts) ∧ Below wr.heap.size wr w') :=
        rep_at (F := 3) (C := 50) HA.out HLY.out.bb HLY.out.up.down (by omega) (by omega) (by omega) hK50 (by omega) (by unfold IsSeq; omega) e1
      have HC2 : Hid (∀ x, Below wr.heap.size wr x → Calls Try.prog 15 #[.pointer (some ⟨rb, 0, none⟩), .int .i64 3, .int .i64 50, .int .i64 (X : Int), .int .u32 8] x fun e w' => (∃ v, e = .returned (.tuple #[.agg (logD v A q).toArray, .int .i64 0]) ∧ TxnsR 38 81 w' x.heap.size v rest) ∧ Below x.heap.size x w') := fun x hx =>
        rep_at (F := 3) (C := 50) (HA.out.beside hx) HLY.out.bb HLY.out.up.down (by omega) (by omega) (by omega) hX50 (by omega) (by unfold IsSeq; omega) e2
      have HC3 : Hid (∀ x, Below wr.heap.size wr x → Calls Try.prog 15 #[.pointer (some ⟨rb, 0, none⟩), .int .i64 3, .int .i64 50, .int .i64 (K : Int), .int .u32 (8 + oi)] x fun e w' => (∃ v, e = .returned (.tuple #[.agg (logD v K (8 + oi)).toArray, .int .i64 0]) ∧ TxnsR 38 81 w' x.heap.size v []) ∧ Below x.heap.size x w') := fun x hx =>
        rep_at (F := 3) (C := 50) (HA.out.beside hx) HLY.out.bb HLY.out.up.down (by omega) (by omega) (by omega) hK50 (by omega) hs8 e3
      have HBr : Hid (Below w.heap.size w wr) := AtR.bel HA.out
      have HMM := Lib.hid hm
      have HTSE := Lib.hid hts
      have oi0 := HO.out.1
      have oi1 := HO.out.2
      have HNM := Lib.hid hnm
      clear hXe hX50 hA50 e1 e2 e3 hs8 hn60 hm hts hnm
      go_wp2_with fail
      try go_at_call 15
      refine HC1.out.mono ?_
      rintro e x1 ⟨⟨v1, rfl, ht1⟩, hb1⟩
      obtain ⟨r1, cc1, rfl, -⟩ := ht1.at
      rw [HTS.out]
      obtain ⟨y1, ST1, hr1, hb1'⟩ := new_logD x1 (.slice r1 n cc1) A q rfl
      have by1 : Below wr.heap.size wr y1 := hb1.trans (hb1'.mono hb1.size)
      obtain ⟨B1, hB1⟩ : ∃ b, x1.heap.size = b := ⟨_, rfl⟩
      rw [hB1] at hr1 ST1
      have RW1 := Lib.hid hr1
      have BY1 := Lib.hid by1
      have HD2 := Lib.hid (HC2.out y1 by1)
      clear hb1 hb1' hr1 by1 ht1 HC1 HC2
      go_wp2_with fail
      clear ST1 hB1
      try go_at_call 15
      refine HD2.out.mono ?_
      rintro e x2 ⟨⟨v2, rfl, ht2⟩, hb2⟩
      obtain ⟨r2, cc2, rfl, hat⟩ := ht2.at
      rw [HMM.out]
      obtain ⟨y2, ST2, hr2, hb2'⟩ := new_logD x2 (.slice r2 m cc2) A q rfl
      have by2 : Below y1.heap.size y1 y2 := hb2.trans (hb2'.mono hb2.size)
      obtain ⟨B2, hB2⟩ : ∃ b, x2.heap.size = b := ⟨_, rfl⟩
      rw [hB2] at hr2 ST2
      have RW2 := Lib.hid hr2
      have BY2 := Lib.hid by2
      have BX2 := Lib.hid hb2'
      have HAT := Lib.hid hat
      have HD3 := Lib.hid (HC3.out y2 (BY1.out.trans (by2.mono BY1.out.size)))
      clear hb2 hb2' hr2 by2 ht2 HC3 HD2 hat
      go_wp2_with fail
      clear ST2 hB2
      try go_at_call 15
      refine HD3.out.mono ?_
      rintro e x3 ⟨⟨v3, rfl, ht3⟩, hb3⟩
      obtain ⟨r3, cc3, rfl, -⟩ := ht3.at
      rw [show ([] : List (List Img)).length = 0 from rfl]
      obtain ⟨y3, ST3, hr3, hb3'⟩ := new_logD x3 (.slice r3 0 cc3) K (8 + oi) rfl
      have by3 : Below y2.heap.size y2 y3 := hb3.trans (hb3'.mono hb3.size)
      obtain ⟨B3, hB3⟩ : ∃ b, x3.heap.size = b := ⟨_, rfl⟩
      rw [hB3] at hr3 ST3
      have BY3 := Lib.hid by3
      have by13 : Below y1.heap.size y1 y3 := BY2.out.trans (by3.mono BY2.out.size)
      have HBY : Hid (Below w.heap.size w y3) := HBr.out.trans ((BY1.out.trans (by13.mono BY1.out.size)).mono HBr.out.size)
      have a0 : y3.cell? ⟨B1, 0, none⟩ = some (.slice r1 n cc1) := (RW1.out.below by13).cell 0 _ rfl
      have a1 : y3.cell? ⟨B1, 1, none⟩ = some (.int .i64 (A : Int)) := (RW1.out.below by13).cell 1 _ rfl
      have a2 : y3.cell? ⟨B1, 2, none⟩ = some (.int .u32 q) := (RW1.out.below by13).cell 2 _ rfl
      have b0 : y3.cell? ⟨B2, 0, none⟩ = some (.slice r2 m cc2) := (RW2.out.below by3).cell 0 _ rfl
      have b1 : y3.cell? ⟨B2, 1, none⟩ = some (.int .i64 (A : Int)) := (RW2.out.below by3).cell 1 _ rfl
      have b2 : y3.cell? ⟨B2, 2, none⟩ = some (.int .u32 q) := (RW2.out.below by3).cell 2 _ rfl
      have d0 : y3.cell? ⟨B3, 0, none⟩ = some (.slice r3 0 cc3) := hr3.cell 0 _ rfl
      have d1 : y3.cell? ⟨B3, 1, none⟩ = some (.int .i64 (K : Int)) := hr3.cell 1 _ rfl
      have gm : ((m : Int) != (n : Int) - 1) = false := by have := HNM.out; simp; omega
      have HR2 := Lib.hid (RW2.out.below by3)
      clear hb3 hb3' hr3 by3 ht3 HD3 by13
      go_wp2_with fail
      clear ST3 hB3 a0 a1 a2 b1 b2 d0 d1
      go_loopw [24] (fun iv wz => ∃ j : Nat, j ≤ m ∧ iv = .int .i64 (j : Int) ∧ Hid (Below y3.heap.size y3 wz)) (fun iv _ => m - (intOf iv).toNat)
      case atStart => exact ⟨0, Nat.zero_le _, rfl, Below.refl _ _⟩
      case round =>
        obtain ⟨j, hj, rfl, HZ⟩ := hrel
        have z0 : wr.cell? ⟨B2, 0, none⟩ = some (.slice r2 m cc2) := (HR2.out.below HZ.out).cell 0 _ rfl
        have HBZ : Hid (Below w.heap.size w wr) := HBY.out.trans (HZ.out.mono HBY.out.size)
        by_cases hlt : j < m
        · have g2 : decide ((j : Int) < (m : Int)) = true := by simpa using hlt
          obtain ⟨tj, htj⟩ : ∃ tj, rest[j]? = some tj := ⟨_, List.getElem?_eq_getElem (by rw [HMM.out]; exact hlt)⟩
          obtain ⟨gg, hr2', hgl, rj, dj, hcj, -⟩ := HAT.out j tj htj
          obtain ⟨ps, hps, hpl⟩ : ∃ ps, L[j + 1]? = some ps ∧ ps.length = tj.length := by
            have h1 : ts[j + 1]? = some tj := by rw [HTSE.out]; exact htj
            rw [HTD.out, List.getElem?_map] at h1
            have h2 := HNM.out
            rw [List.getElem?_take_of_lt (by omega)] at h1
            cases hl : L[j + 1]? with
            | none => rw [hl] at h1; simp at h1
            | some ps =>
              rw [hl] at h1
              simp at h1
              exact ⟨ps, rfl, by rw [← h1, imgsOf_length]⟩
          obtain ⟨ra, rc, hq⟩ := HOP.out (j + 1) ps hps
          obtain ⟨kk, hkk⟩ : ∃ kk, tj.length = kk := ⟨_, rfl⟩
          rw [hkk] at hcj hpl
          rw [hpl] at hq
          subst hr2'
          have bzz : ∀ z : Ext wr, Below x2.heap.size x2 z.1 := fun z => BX2.out.trans ((BY3.out.trans ((HZ.out.trans (z.2.mono HZ.out.size)).mono BY3.out.size)).mono BX2.out.size)
          have C0 : ∀ z : Ext wr, z.1.cell? ⟨B2, 0, none⟩ = some (.slice (some ⟨gg, 0, none⟩) m cc2) := fun z => ((HR2.out.below HZ.out).below z.2).cell 0 _ rfl
          have C1 : ∀ z : Ext wr, z.1.cell? ⟨gg, j, none⟩ = some (.slice rj kk dj) := fun z => ((bzz z).cell (p := ⟨gg, j, none⟩) hgl).trans hcj
          have C2 : ∀ z : Ext wr, z.1.cell? ⟨b, off + (j + 1), none⟩ = some (.slice ra kk rc) := fun z => (hq z.1 (HBZ.out.trans (z.2.mono HBZ.out.size))).1
          have gn : ((j : Int) + 1) < (n : Int) := by have := HNM.out; omega
          have HLT := Lib.hid hlt
          clear htj hgl hcj hps hpl hq hkk bzz
          go_wp2_with fail
          refine region_ext (by kernel_rfl) (by kernel_rfl) ?_
          repeat (go_big_quiet_step (fail))
          refine wpQuiet_nil ?_
          intro z
          have HZ2 : Hid (Below y3.heap.size y3 z.1) := HZ.out.trans (z.2.mono HZ.out.size)
          clear C0 C1 C2
          go_wp2_with fail
          go_roundw
          case rel => exact ⟨j + 1, HLT.out, by go_num, HZ2⟩
          case measure => have := HLT.out; simp [intOf]; omega
        · have g2 : decide ((j : Int) < (m : Int)) = false := by simpa using hlt
          go_wp2_with fail
          try go_at_call 9
          refine (HW.out _).mono ?_
          rintro e yw ⟨rfl, hBw⟩
          have HBw : Hid (Below w.heap.size w yw) := HBZ.out.trans (hBw.mono HBZ.out.size)
          clear hBw
          go_wp2_with fail
          go_ret
          exact ⟨rfl, HBw.out⟩

set_option maxRecDepth 100000 in
theorem lifted (os : Os) (started : os.Started) (H : Type) (enc : TypeId × Value → H) :
    ReturnsInHanded {} Try.checked os 6 .any (Rows.ringStopsSpec.pre6 enc Try.prog Try.f6 Rows.ringStopsRow.domain false) (Rows.ringStopsSpec.post enc Try.prog Try.f6 false true false false) := by
  refine returnsInHanded_of_change (C := Try.checked) own started (by kernel_rfl) Try.func6
    (ChangeSpec.witness6 (enc := enc) (C := Try.checked) false ⟨#[], #[.slice none 0 0, .int .u8 0, .int .u8 0], []⟩ 8 (by kernel_rfl) (by kernel_rfl) (by kernel_rfl) (by kernel_rfl)) ?_
  intro W base args ds gs before hval0 hW hcnd _
  have hval : ∀ (j : Nat) t v, Try.f6.params[j]? = some t → args[j]? = some v → Value.okWide Try.prog W .any base t v := hval0
  have hW' := hW
  obtain ⟨p, q, hA0, hV, rfl, hfz, hnd⟩ := hW
  have hA : DataW.TrodAll enc Try.prog W 0 (fun _ => true) true Try.f6.params.toList args.toList ds p := hA0
  rw [Try.params6] at hA hval
  obtain ⟨v0, vs0, d0, ds0, p0, q0, hargs, rfl, rfl, h0, r0⟩ := trodAll_cons hA
  obtain ⟨v1, vs1, d1, ds1, p1, q1, rfl, rfl, rfl, h1, r1⟩ := trodAll_cons r0
  obtain ⟨v2, vs2, d2, ds2, p2, q2, rfl, rfl, rfl, h2, r2⟩ := trodAll_cons r1
  obtain ⟨rfl, rfl, rfl⟩ := trodAll_nil r2
  obtain rfl : args = #[v0, v1, v2] := by cases args; simp_all
  obtain ⟨rfl, rfl⟩ := trodVars_none hV
  have lt0 : ∀ x ∈ p0, x.block < W.heap.size := by obtain ⟨m, hm⟩ := h0; exact DataW.trod_lt m _ _ _ hm
  have a0 := Arg.mk (hval 0 74 v0 rfl rfl) h0
  have lt1 : ∀ x ∈ p1, x.block < W.heap.size := by obtain ⟨m, hm⟩ := h1; exact DataW.trod_lt m _ _ _ hm
  have a1 := Arg.mk (hval 1 5 v1 rfl rfl) h1
  have lt2 : ∀ x ∈ p2, x.block < W.heap.size := by obtain ⟨m, hm⟩ := h2; exact DataW.trod_lt m _ _ _ hm
  have a2 := Arg.mk (hval 2 5 v2 rfl rfl) h2
  clear hA0 hval0
  refine (walk v0 v1 v2 W a0 a1 a2).mono fun e W' ⟨he, bel⟩ => ?_
  subst he
  exact ⟨_, rfl, _, _, _, [], _, [], hW', trodAll_mk1 (shut_bool Try.underlying4 _), (trodAll_cons_mk (Below.trod laidOut (by kernel_rfl) (of_decide_eq_true (by kernel_rfl)) h0 bel lt0) (trodAll_cons_mk (Below.trod laidOut (by kernel_rfl) (of_decide_eq_true (by kernel_rfl)) h1 bel lt1) (trodAll_cons_mk (Below.trod laidOut (by kernel_rfl) (of_decide_eq_true (by kernel_rfl)) h2 bel lt2) trodAll_mk0))), rfl, bel.frame _, fun h => by cases h⟩

set_option maxRecDepth 100000 in
theorem over : Rows.ringStopsRow.holds Try.pinned (OpenSpec.ofChange Rows.ringStopsSpec) :=
  OpenClaim.holds_of_wide 6 Try.f6 rfl rfl rfl rfl rfl rfl rfl ⟨rfl, rfl, rfl, rfl, rfl⟩ rfl rfl rfl rfl rfl (by kernel_rfl) Try.func6 (by kernel_rfl)
    (of_decide_eq_true (by kernel_rfl)) (by unfold Func.isWrapper; first | (rw [if_pos (by decide +kernel)]; kernel_rfl) | (rw [if_neg (by decide +kernel)]; exact ⟨rfl, rfl⟩))
    (fun os started H enc _ => lifted os started H enc)

theorem proved : Rows.RingStopsSaid := over
#print axioms proved
end Go.Proofs.Ytfmgaakbfphpbaa.ringStops
