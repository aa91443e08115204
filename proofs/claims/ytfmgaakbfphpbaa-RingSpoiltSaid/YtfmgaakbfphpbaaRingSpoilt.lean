/- With one byte of a transaction's sectors turned that one, and all behind it, are not told; all ahead of it are. -/
import Derived.Test.YtfmgaakbfphpbaaRgSpo
namespace Go.Proofs.Ytfmgaakbfphpbaa.ringSpoilt
open Go.ChangeShapes Go.WideShapes Go.ChangeAt Go.RowKit
set_option linter.unusedVariables false
attribute [-simp] Try.isAgg59 Try.zeroValue59 Try.isAgg79 Try.zeroValue79 Try.isAgg102 Try.zeroValue102 Try.isAgg95 Try.zeroValue95 Try.isAgg81 Try.zeroValue81
attribute [-go_sem] loadVar storeVar run_equalIn_agg
attribute [local go_sem] zero_blk build_blk zero_bod build_bod zero_sec zero_imgR zero_imgD loadVar_open6 storeVar_open6

set_option maxRecDepth 100000 in
set_option maxHeartbeats 8000000 in
theorem walk (v0 v1 v2 : Value) (w : World) (w0 : Arg w 74 v0) (w1 : Arg w 5 v1) (w2 : Arg w 5 v2) :
    Calls Try.prog 7 #[v0, v1, v2] w fun e w' => e = .returned (.bool true) ∧ Below w.heap.size w w' := by
  obtain ⟨L, hpr⟩ := w0.prsS
  obtain ⟨ai, rfl, wa⟩ := w1.int Try.underlying5
  obtain ⟨by0, rfl, wo⟩ := w2.int Try.underlying5
  have ha := (wf_iff .u8 ai).1 wa
  simp [IntKind.min, IntKind.max, IntKind.signed, IntKind.bits] at ha
  have ho := (wf_iff .u8 by0).1 wo
  simp [IntKind.min, IntKind.max, IntKind.signed, IntKind.bits] at ho
  have HW := Lib.hid (ringWakes ringOk)
  have HB0 := Lib.hid (Below.refl w.heap.size w)
  obtain ⟨a, cap, rfl, -, -, -⟩ := id hpr
  obtain ⟨n, hn⟩ : ∃ n, L.length = n := ⟨_, rfl⟩
  rw [hn] at hpr ⊢
  have HLN := Lib.hid hn
  have HPRS := Lib.hid hpr
  clear hpr hn w0 w1 w2 wa wo
  by_cases h0 : n = 0
  · subst h0
    go_enter Try.func7, Try.ntmps7
    go_wp2_with fail
    try go_at_call 9
    refine (HW.out _).mono ?_
    rintro e yw ⟨rfl, hBw⟩
    have HBw : Hid (Below w.heap.size w yw) := HB0.out.trans (hBw.mono HB0.out.size)
    clear hBw
    go_wp2_with fail
    go_ret
    exact ⟨rfl, HBw.out⟩
  have g0 : ((n : Int) == 0) = false := by simp; omega
  by_cases h7 : 7 < n
  · have g7 : decide (7 < (n : Int)) = true := by simp; omega
    have g7' : decide ((n : Int) > 7) = true := g7
    go_enter Try.func7, Try.ntmps7
    go_wp2_with fail
    try go_at_call 9
    refine (HW.out _).mono ?_
    rintro e yw ⟨rfl, hBw⟩
    have HBw : Hid (Below w.heap.size w yw) := HB0.out.trans (hBw.mono HB0.out.size)
    clear hBw
    go_wp2_with fail
    go_ret
    exact ⟨rfl, HBw.out⟩
  have g7 : decide (7 < (n : Int)) = false := by simp; omega
  have g7' : decide ((n : Int) > 7) = false := g7
  by_cases hb0 : by0 = 0
  · have gb : (by0 == 0) = true := by simpa using hb0
    go_enter Try.func7, Try.ntmps7
    go_wp2_with fail
    try go_at_call 9
    refine (HW.out _).mono ?_
    rintro e yw ⟨rfl, hBw⟩
    have HBw : Hid (Below w.heap.size w yw) := HB0.out.trans (hBw.mono HB0.out.size)
    clear hBw
    go_wp2_with fail
    go_ret
    exact ⟨rfl, HBw.out⟩
  have gb : (by0 == 0) = false := by simpa using hb0
  obtain ⟨b, off, rfl, -, -, -, hop⟩ := HPRS.out.open (fun e => h0 (by rw [← HLN.out, e]; rfl))
  have HOP := Lib.hid hop
  have HNB := Lib.hid hb0
  have HYB : Hid (0 ≤ by0 ∧ by0 < 256) := ⟨ho.1, by omega⟩
  clear hop HPRS hb0
  obtain ⟨K, hK⟩ : ∃ K : Nat, Int.tmod ai 64 = (K : Int) := ⟨(ai % 64).toNat, by rw [Int.tmod_eq_emod_of_nonneg (by omega)]; omega⟩
  have hK64 : K < 64 := by
    have e : Int.tmod ai 64 = ai % 64 := Int.tmod_eq_emod_of_nonneg (by omega)
    rw [e] at hK
    omega
  have hKe : ai % 64 = (K : Int) := by rw [← hK, Int.tmod_eq_emod_of_nonneg (by omega)]
  have HKK := Lib.hid (And.intro hK hKe)
  clear hK hKe
  go_enter Try.func7, Try.ntmps7
  go_wp2_with fail
  try go_at_call 10
  refine (RAt.new 60 1 w w HB0.out (by omega) (by omega) (by omega) (by omega) (fun _ => False) (fun _ h => h.elim)).mono ?_
  rintro e w1 ⟨rb, p0, p1, rfl, a0, -⟩
  have HA0 : Hid (RAt w w1 rb p0 p1 (newS 60 1) (fun _ => False)) := a0
  have HL0 : Hid (Ln 60 3 50 0 7 [] (newS 60 1)) := Ln.new (by omega) (by omega) (by omega) (by omega) (by unfold IsSeq; omega)
  clear a0
  go_wp2_with fail
  go_loopw [9, 10, 11, 12] (fun pl sq tot iv wr => ∃ (i : Nat) (S : RS) (ts : List (List Img)) (A : Nat) (q : Int) (T : Nat), i ≤ n ∧ T ≤ 6 * i ∧ iv = .int .i64 (i : Int) ∧ pl = .int .i64 (A : Int) ∧ sq = .int .u32 q ∧ tot = .int .i64 (T : Int) ∧ Hid (A = nx 50 0 7 ts) ∧ Hid (q = seqAt 7 ts.length) ∧ Hid (ts.length = i) ∧ Hid (T = (layB 7 ts).length) ∧ Hid (∀ u ∈ ts, u.length ≤ 5) ∧ Hid (ts = (L.take i).map imgsOf) ∧ Hid (RAt w wr rb p0 p1 S (fun _ => False)) ∧ Hid (Ln 60 3 50 0 7 ts S)) (fun _ _ _ iv _ => n - (intOf iv).toNat)
  case atStart =>
    have hu0 : ∀ u : List Img, u ∈ ([] : List (List Img)) → u.length ≤ 5 := fun u h => by cases h
    exact ⟨0, _, [], 0, 7, 0, Nat.zero_le _, Nat.zero_le _, rfl, rfl, rfl, rfl, rfl, rfl, rfl, rfl, hu0, rfl, HA0, HL0⟩
  case round =>
    obtain ⟨i, S, ts, A, q, T, hi, hT6, rfl, rfl, rfl, rfl, HAN, HQN, HTS, HTT0, HT5, HTD, HA, HLY⟩ := hrel
    by_cases hlt : i < n
    · have g1 : decide ((i : Int) < (n : Int)) = true := by simpa using hlt
      obtain ⟨ps, hps⟩ : ∃ ps, L[i]? = some ps := ⟨_, List.getElem?_eq_getElem (by rw [HLN.out]; exact hlt)⟩
      obtain ⟨ra, rc, hq⟩ := HOP.out i ps hps
      have HQ := Lib.hid hq
      have HPS := Lib.hid hps
      have HBr : Hid (Below w.heap.size w wr) := AtR.bel HA.out
      have HPR := Lib.hid (HQ.out wr HBr.out).2
      have HRT := Lib.hid (lawRight HPR.out 5)
      have c0 := (HQ.out wr HBr.out).1
      obtain ⟨m, hm⟩ : ∃ m, ps.length = m := ⟨_, rfl⟩
      rw [hm] at c0 HQ HPR HRT
      have HM := Lib.hid hm
      obtain ⟨rt, hrt⟩ : ∃ rt, decide (RightP ps 5) = rt := ⟨_, rfl⟩
      rw [hrt] at HRT
      have HRTT := Lib.hid hrt
      clear hps hq hm hrt
      go_wp2_with fail
      try go_at_call 25
      refine HRT.out.mono ?_
      rintro e z ⟨rfl, hz⟩
      obtain rfl := hz.symm
      clear hz HRT
      cases rt with
      | false =>
        go_wp2_with fail
        try go_at_call 9
        refine (HW.out _).mono ?_
        rintro e yw ⟨rfl, hBw⟩
        have HBw : Hid (Below w.heap.size w yw) := HBr.out.trans (hBw.mono HBr.out.size)
        clear hBw
        go_wp2_with fail
        go_ret
        exact ⟨rfl, HBw.out⟩
      | true =>
        have hR : RightP ps 5 := of_decide_eq_true HRTT.out
        have hm1 : 1 ≤ m := by rw [← HM.out]; exact hR.2.1
        have hm5 : m ≤ 5 := by have := hR.2.2; rw [HM.out] at this; omega
        have HT := Lib.hid (right_txn (C := 50) hR (by omega))
        have HIM := Lib.hid (lawImages HPR.out (by rw [HM.out]; omega))
        rw [HM.out] at HIM
        have HRR := Lib.hid hR
        obtain ⟨t, ht⟩ : ∃ t, imgsOf ps = t := ⟨_, rfl⟩
        have htl : t.length = m := by rw [← ht, imgsOf_length, HM.out]
        rw [ht] at HT HIM
        have HTT := Lib.hid ht
        have HTL := Lib.hid htl
        clear hR ht htl
        go_wp2_with fail
        try go_at_call 12
        refine HIM.out.mono ?_
        rintro e x1 ⟨⟨a1, b1, rfl, hO, hO2⟩, hb1⟩
        obtain ⟨g, cg, rfl, hgN, -, hgl, hgr⟩ := own_row hO (by omega)
        obtain ⟨g', cg', rfl, -, -, -, -⟩ := own_row hO2 (by omega)
        have A1 := (HA.out.below hb1 (fun k => k = g) (fun k hk => .inr ⟨by omega, by omega⟩))
        have hfit : (layB 7 ts).length + t.length + 1 ≤ 50 := by
          have := layB_le ts 7 HT5.out
          rw [HTS.out] at this
          rw [HTL.out]
          omega
        have hts : ts.length ≤ 100 := by rw [HTS.out]; omega
        have hap := HLY.out.app HT.out hfit hts
        have HAP := Lib.hid (Ln.call (own := fun k => k = g) (c := cg) A1 HLY.out (by omega) HT.out hfit hts hgr rfl)
        have HLY2 := Lib.hid hap.2
        rw [HTL.out, ← HAN.out, ← HQN.out] at HAP
        obtain ⟨A2, hA2⟩ : ∃ A2, nx 50 0 7 (ts ++ [t]) = A2 := ⟨_, rfl⟩
        rw [hA2] at HAP
        have HA2 := Lib.hid hA2
        obtain ⟨q2, hq2⟩ : ∃ q2, (q + 1) % 4294967296 = q2 := ⟨_, rfl⟩
        have HTS2 : Hid ((ts ++ [t]).length = i + 1) := by show _ = _; rw [List.length_append, HTS.out]; rfl
        have HQN2 : Hid (q2 = seqAt 7 (ts ++ [t]).length) := by
          show q2 = _
          rw [HTS2.out, ← hq2, HQN.out, HTS.out]
          unfold seqAt
          omega
        have HT52 : Hid (∀ u ∈ ts ++ [t], u.length ≤ 5) := fun u hu => by
          rcases List.mem_append.1 hu with h | h
          · exact HT5.out u h
          · rw [List.mem_singleton.1 h, HTL.out]; exact hm5
        have HTD2 : Hid (ts ++ [t] = (L.take (i + 1)).map imgsOf) := by
          show _ = _
          rw [List.take_add_one, HPS.out, List.map_append, ← HTD.out, ← HTT.out]
          rfl
        clear hO hO2 hb1 hgN hgl hgr A1 hfit hts hap hA2 HIM c0
        go_wp2_with fail
        try go_at_call 13
        refine HAP.out.mono ?_
        rintro e x2 ⟨rfl, a2, -⟩
        have HA' := Lib.hid (AtR.less a2 (fun _ => False) (fun _ h => h.elim))
        clear a2 HAP
        have HB2 : Hid (Below w.heap.size w x2) := AtR.bel HA'.out
        have c2 := (HQ.out x2 HB2.out).1
        have HT2 : Hid (T + m + 1 = (layB 7 (ts ++ [t])).length) := by
          show _ = _
          rw [layB_snoc (by unfold IsSeq; omega), HTL.out, ← HTT0.out]
        have CZ : ∀ z : Ext x2, z.1.cell? ⟨b, off + i, none⟩ = some (.slice ra m rc) := fun z => (HQ.out z.1 (HB2.out.trans (z.2.mono HB2.out.size))).1
        have HM5 := Lib.hid hm5
        clear c2
        go_wp2_with fail
        refine region_ext (by kernel_rfl) (by kernel_rfl) ?_
        repeat (go_big_quiet_step (fail))
        refine wpQuiet_nil ?_
        intro z
        have HA3 := Lib.hid (RAt.beside HA'.out z.2)
        clear CZ
        go_wp2_with fail
        go_roundw
        case rel => exact ⟨i + 1, _, ts ++ [t], A2, q2, T + m + 1, hlt, by have := HM5.out; omega, by go_num, rfl, by rw [hq2], by go_num, HA2.out.symm, HQN2, HTS2, HT2, HT52, HTD2, by rw [← HAN.out, ← HQN.out]; exact HA3, HLY2⟩
        case measure => simp [intOf]; omega
    · obtain rfl : n = i := by omega
      have g1 : decide ((n : Int) < (n : Int)) = false := by simp
      have hT1 : 2 * n ≤ T := by
        have := layB_len 7 ts (fun t ht => (HLY.out.ring.ok t ht).least)
        rw [HTS.out, ← HTT0.out] at this
        exact this
      have hTz : ¬ ((T : Int) = 0) := by omega
      obtain ⟨s, hs⟩ : ∃ s : Nat, Int.tmod ai (T : Int) = (s : Int) := ⟨(ai % (T : Int)).toNat, by
        rw [Int.tmod_eq_emod_of_nonneg (by omega), Int.toNat_of_nonneg (Int.emod_nonneg _ hTz)]⟩
      have hse : ai % (T : Int) = (s : Int) := by rw [← hs, Int.tmod_eq_emod_of_nonneg (by omega)]
      have hsT : s < T := by
        have := Int.emod_lt_of_pos ai (show (0 : Int) < (T : Int) by omega)
        rw [hse] at this
        omega
      have hn60 : S.n0 = 60 := HLY.out.n0
      have hin : 3 + s < S.n0 := by omega
      have hpl : plc 3 50 0 s = 3 + s := by unfold plc; omega
      obtain ⟨r1, r2⟩ := read_rd HLY.out.bb HLY.out.up.down hin
      obtain ⟨b1, b2, b3⟩ := HLY.out.bb.byt (3 + s) hin
      obtain ⟨bs, hbs⟩ : ∃ bs, S.rd (3 + s) = bs := ⟨_, rfl⟩
      rw [hbs] at r1 b1 b2
      obtain ⟨v, hv⟩ : ∃ v, bs[K]?.getD 0 = v := ⟨_, rfl⟩
      have hvb : 0 ≤ v ∧ v < 256 := by rw [← hv]; exact b1 K
      obtain ⟨y', hy'⟩ : ∃ y', bits BinOp.xor IntKind.u8 v by0 = y' := ⟨_, rfl⟩
      have hyb : 0 ≤ y' ∧ y' < 256 := by rw [← hy']; exact u8_xor_bd hvb HYB.out
      have hyn : y' ≠ v := fun e => HNB.out (by rw [← hy'] at e; exact (u8_xor_eq hvb HYB.out).1 e)
      obtain ⟨aa, s1, s2, s3, s4, s5⟩ := HLY.out.spoil (by rw [HTS.out]; omega) (by rw [← HTT0.out]; exact hsT) hpl hK64 hyb (by rw [hbs, hv]; exact hyn)
      rw [hbs] at s1 s2 s3 s4
      have HREAD : Hid (Calls Try.prog 23 #[.pointer (some ⟨rb, 0, none⟩), .int .i64 0, .int .i64 (3 + (s : Int))] wr fun e w' => e = .returned (.tuple #[.agg (u8s bs).toArray, .int .i64 0]) ∧ Below wr.heap.size wr w') := by
        have := RAt.read HA.out 0 (((3 + s : Nat)) : Int)
        rw [r1, r2, Int.natCast_add] at this
        exact this
      obtain ⟨S', hS'⟩ : ∃ S', S.write 0 (((3 + s : Nat)) : Int) (u8s (bs.set K y')) = S' := ⟨_, rfl⟩
      rw [hS'] at s1 s2 s3 s4
      have hlen' : (bs.set K y').length = 64 := by rw [List.length_set]; exact b2
      have HWRT : Hid (∀ (x : World) (own : Nat → Prop), RAt w x rb p0 p1 S own → Calls Try.prog 20 #[.pointer (some ⟨rb, 0, none⟩), .int .i64 0, .int .i64 (3 + (s : Int)), .agg (u8s (bs.set K y')).toArray] x fun e w' => e = .returned (.int .i64 0) ∧ RAt w w' rb p0 p1 S' own ∧ ∀ k, own k → w'.heap[k]? = x.heap[k]?) := fun x own hx => by
        have d0 := HLY.out.d0
        have d1 := HLY.out.d1
        rw [HTS.out] at d1
        have := hx.write (RS.fit (by rw [HLY.out.up.fuse]; decide) d0 (by omega)) (HLY.out.few.mono (by rw [HTS.out]; omega)) 0 (((3 + s : Nat)) : Int) (isBlk_u8s hlen')
        rw [s5, hS', Int.natCast_add] at this
        exact this
      obtain ⟨W, hW⟩ : ∃ W, wants s ts = W := ⟨_, rfl⟩
      rw [hW] at s1
      have hWn : W ≤ n := by rw [← hW, ← HTS.out]; exact wants_le s ts
      have hsq : seqAt 7 W = 7 + (W : Int) := by unfold seqAt; omega
      rw [hsq] at s1
      have htk : (ts.take W).length = W := by rw [List.length_take, HTS.out]; omega
      have HTK := Lib.hid htk
      have HREP : Hid (∀ (x : World) (own : Nat → Prop), RAt w x rb p0 p1 S' own → Calls Try.prog 15 #[.pointer (some ⟨rb, 0, none⟩), .int .i64 3, .int .i64 50, .int .i64 0, .int .u32 7] x fun e w' => (∃ v, e = .returned (.tuple #[.agg (logD v aa (7 + (W : Int))).toArray, .int .i64 0]) ∧ TxnsR 38 81 w' x.heap.size v (ts.take W)) ∧ Below x.heap.size x w') := fun x own hx =>
        rep_at (F := 3) (C := 50) (A := 0) hx s2 s3.down (by omega) (by omega) (by rw [s4]; omega) (by omega) (by rw [s4]; omega) (by unfold IsSeq; omega) s1
      have HWW := Lib.hid hW
      have HB2' := Lib.hid b2
      have HV := Lib.hid hv
      have HSE := Lib.hid hse
      have HY' := Lib.hid hy'
      have HBr : Hid (Below w.heap.size w wr) := AtR.bel HA.out
      have HL64 := Lib.hid hlen'
      have hs42 : s < 42 := by omega
      clear hse hn60 hin hpl r1 r2 b1 b2 b3 hbs hv hvb hy' hyb hyn s1 s2 s3 s4 s5 hS' hlen' hW hsq htk hsT
      go_wp2_with fail
      try go_at_call 23
      refine HREAD.out.mono ?_
      rintro e x1 ⟨rfl, hb1⟩
      obtain ⟨x2, ST2, hr2, hb2⟩ := new_blk x1 (isBlk_u8s HB2'.out)
      have A2 := HA.out.beside hb1
      have A3 := A2.below hb2 (fun k => k = x1.heap.size) (fun k hk => .inr ⟨by omega, by have := hr2.lt; omega⟩)
      have hBw : w.heap.size ≤ x1.heap.size := Nat.le_trans HBr.out.size hb1.size
      obtain ⟨Bb, hBb⟩ : ∃ b, x1.heap.size = b := ⟨_, rfl⟩
      rw [hBb] at A3 hr2 ST2 hBw
      have hyy : bits BinOp.xor IntKind.u8 v by0 = y' := HY'.out
      have hkk := HKK.out.1
      have c3 : x2.cell? ⟨Bb, K, none⟩ = some (.int .u8 v) := hr2.cell K _ (by
        unfold u8s
        rw [List.getElem?_map, ← HV.out]
        cases hh : bs[K]? with
        | none => rw [List.getElem?_eq_none_iff] at hh; have := HB2'.out; omega
        | some u => rfl)
      have f3 := hr2.frozen K
      obtain ⟨x3, hx3⟩ : ∃ x, x2.setCell ⟨Bb, K, none⟩ (.int .u8 y') = x := ⟨_, rfl⟩
      have hr3 : RowC x3 Bb 59 (u8s (bs.set K y')) := by
        have := hr2.set K (.int .u8 y')
        rw [hx3] at this
        unfold u8s at this ⊢
        rw [List.map_set]
        exact this
      have A4 : RAt w x3 rb p0 p1 S (fun k => k = Bb) := by rw [← hx3]; exact AtR.setCell (RigR.isRes _ _ _ _) A3 rfl hBw _
      have L4 := hr3.blk (by rw [u8s_length]; exact HL64.out)
      have HC4 := Lib.hid (HWRT.out x3 _ A4)
      clear hb1 hb2 A2 A3 hr2 hr3 A4 hBw HREAD HWRT
      go_wp2_with fail
      clear L4 c3 f3 ST2
      try go_at_call 20
      refine HC4.out.mono ?_
      rintro e x5 ⟨rfl, a5, -⟩
      have A5 := Lib.hid (AtR.less a5 (fun _ => False) (fun _ h => h.elim))
      have HB5 : Hid (Below w.heap.size w x5) := AtR.bel A5.out
      have HC5 := Lib.hid (HREP.out x5 _ A5.out)
      clear a5 HC4 HREP hx3 hBb
      go_wp2_with fail
      go_loopw [20, 21, 22] (fun wv sv iv wz => ∃ (j W' T' : Nat), j ≤ n ∧ W' ≤ j ∧ T' ≤ 6 * j ∧ iv = .int .i64 (j : Int) ∧ wv = .int .i64 (W' : Int) ∧ sv = .int .i64 (T' : Int) ∧ Hid (T' = (layB 7 (ts.take j)).length) ∧ Hid (W' = wants s (ts.take j)) ∧ wz = x5) (fun _ _ iv _ => n - (intOf iv).toNat)
      case atStart => exact ⟨0, 0, 0, Nat.zero_le _, Nat.zero_le _, Nat.zero_le _, rfl, rfl, rfl, rfl, rfl, rfl⟩
      case round =>
        obtain ⟨j, W', T', hj, hW', hT', rfl, rfl, rfl, HT', HW', hwr⟩ := hrel
        have hwr := hwr.symm
        subst hwr
        by_cases hlt : j < n
        · have g2 : decide ((j : Int) < (n : Int)) = true := by simpa using hlt
          obtain ⟨ps, hps⟩ : ∃ ps, L[j]? = some ps := ⟨_, List.getElem?_eq_getElem (by rw [HLN.out]; exact hlt)⟩
          obtain ⟨ra, rc, hq⟩ := HOP.out j ps hps
          have htj : ts[j]? = some (imgsOf ps) := by
            rw [HTD.out, List.getElem?_map, List.getElem?_take_of_lt hlt, hps]
            rfl
          have c0 := (hq x5 HB5.out).1
          obtain ⟨m, hm⟩ : ∃ m, ps.length = m := ⟨_, rfl⟩
          rw [hm] at c0
          have hm5 : m ≤ 5 := by
            have := HT5.out (imgsOf ps) (List.mem_of_getElem? htj)
            rw [imgsOf_length, hm] at this
            exact this
          have htk : ts.take (j + 1) = ts.take j ++ [imgsOf ps] := by rw [List.take_add_one, htj]; rfl
          have HT2 : Hid (T' + (m + 1) = (layB 7 (ts.take (j + 1))).length) := by
            show _ = _
            rw [htk, layB_snoc (by unfold IsSeq; omega), imgsOf_length, hm, ← HT'.out]
            omega
          have hw2 : wants s (ts.take (j + 1)) = if T' + (m + 1) ≤ s then W' + 1 else W' := by
            rw [HT2.out, htk, wants_snoc 7, ← HW'.out]
          have HM5 := Lib.hid hm5
          clear hps hq htj hm htk
          by_cases hle : T' + (m + 1) ≤ s
          · have g3 : decide (((T' : Int) + ((m : Int) + 1)) ≤ (s : Int)) = true := by simp; omega
            rw [if_pos hle] at hw2
            have HW2 := Lib.hid hw2.symm
            clear hw2
            go_wp2_with fail
            go_roundw
            case rel => exact ⟨j + 1, W' + 1, T' + (m + 1), hlt, by omega, by have := HM5.out; omega, by go_num, by go_num, by go_num, HT2, HW2, trivial⟩
            case measure => simp [intOf]; omega
          · have g3 : decide (((T' : Int) + ((m : Int) + 1)) ≤ (s : Int)) = false := by simp; omega
            rw [if_neg hle] at hw2
            have HW2 := Lib.hid hw2.symm
            clear hw2
            go_wp2_with fail
            go_roundw
            case rel => exact ⟨j + 1, W', T' + (m + 1), hlt, by omega, by have := HM5.out; omega, by go_num, rfl, by go_num, HT2, HW2, trivial⟩
            case measure => simp [intOf]; omega
        · obtain rfl : n = j := by omega
          have g2 : decide ((n : Int) < (n : Int)) = false := by simp
          have hWW : W' = W := by rw [HW'.out, ← HWW.out, List.take_of_length_le (by rw [HTS.out]; omega)]
          subst hWW
          go_wp2_with fail
          try go_at_call 15
          refine HC5.out.mono ?_
          rintro e x6 ⟨⟨v6, rfl, ht⟩, hb6⟩
          obtain ⟨r6, cc6, rfl, -⟩ := ht.at
          rw [HTK.out]
          obtain ⟨x7, ST7, hr7, hb7⟩ := new_logD x6 (.slice r6 W' cc6) aa (7 + (W' : Int)) rfl
          have HB7 : Hid (Below w.heap.size w x7) := HB5.out.trans ((hb6.trans (hb7.mono hb6.size)).mono HB5.out.size)
          obtain ⟨B7, hB7⟩ : ∃ b, x6.heap.size = b := ⟨_, rfl⟩
          rw [hB7] at hr7 ST7
          have c0 : x7.cell? ⟨B7, 0, none⟩ = some (.slice r6 W' cc6) := hr7.cell 0 _ rfl
          have c2 : x7.cell? ⟨B7, 2, none⟩ = some (.int .u32 (7 + (W' : Int))) := hr7.cell 2 _ rfl
          clear ht hb6 hb7 hr7 HC5
          go_wp2_with fail
          try go_at_call 9
          refine (HW.out _).mono ?_
          rintro e yw ⟨rfl, hBw⟩
          have HBw : Hid (Below w.heap.size w yw) := HB7.out.trans (hBw.mono HB7.out.size)
          clear hBw
          go_wp2_with fail
          go_ret
          exact ⟨rfl, HBw.out⟩

set_option maxRecDepth 100000 in
theorem lifted (os : Os) (started : os.Started) (H : Type) (enc : TypeId × Value → H) :
    ReturnsInHanded {} Try.checked os 7 .any (Rows.ringSpoiltSpec.pre6 enc Try.prog Try.f7 Rows.ringSpoiltRow.domain false) (Rows.ringSpoiltSpec.post enc Try.prog Try.f7 false true false false) := by
  refine returnsInHanded_of_change (C := Try.checked) own started (by kernel_rfl) Try.func7
    (ChangeSpec.witness6 (enc := enc) (C := Try.checked) false ⟨#[], #[.slice none 0 0, .int .u8 0, .int .u8 0], []⟩ 8 (by kernel_rfl) (by kernel_rfl) (by kernel_rfl) (by kernel_rfl)) ?_
  intro W base args ds gs before hval0 hW hcnd _
  have hval : ∀ (j : Nat) t v, Try.f7.params[j]? = some t → args[j]? = some v → Value.okWide Try.prog W .any base t v := hval0
  have hW' := hW
  obtain ⟨p, q, hA0, hV, rfl, hfz, hnd⟩ := hW
  have hA : DataW.TrodAll enc Try.prog W 0 (fun _ => true) true Try.f7.params.toList args.toList ds p := hA0
  rw [Try.params7] at hA hval
  obtain ⟨v0, vs0, d0, ds0, p0, q0, hargs, rfl, rfl, h0, r0⟩ := trodAll_cons hA
  obtain ⟨v1, vs1, d1, ds1, p1, q1, rfl, rfl, rfl, h1, r1⟩ := trodAll_cons r0
  obtain ⟨v2, vs2, d2, ds2, p2, q2, rfl, rfl, rfl, h2, r2⟩ := trodAll_cons r1
  obtain ⟨rfl, rfl, rfl⟩ := trodAll_nil r2
  obtain rfl : args = #[v0, v1, v2] := by cases args; simp_all
  obtain ⟨rfl, rfl⟩ := trodVars_none hV
  have lt0 : ∀ x ∈ p0, x.block < W.heap.size := by obtain ⟨m, hm⟩ := h0; exact DataW.trod_lt m _ _ _ hm
  have a0 := Arg.mk (hval 0 74 v0 rfl rfl) h0
  have lt1 : ∀ x ∈ p1, x.block < W.heap.size := by obtain ⟨m, hm⟩ := h1; exact DataW.trod_lt m _ _ _ hm
  have a1 := Arg.mk (hval 1 5 v1 rfl rfl) h1
  have lt2 : ∀ x ∈ p2, x.block < W.heap.size := by obtain ⟨m, hm⟩ := h2; exact DataW.trod_lt m _ _ _ hm
  have a2 := Arg.mk (hval 2 5 v2 rfl rfl) h2
  clear hA0 hval0
  refine (walk v0 v1 v2 W a0 a1 a2).mono fun e W' ⟨he, bel⟩ => ?_
  subst he
  exact ⟨_, rfl, _, _, _, [], _, [], hW', trodAll_mk1 (shut_bool Try.underlying4 _), (trodAll_cons_mk (Below.trod laidOut (by kernel_rfl) (of_decide_eq_true (by kernel_rfl)) h0 bel lt0) (trodAll_cons_mk (Below.trod laidOut (by kernel_rfl) (of_decide_eq_true (by kernel_rfl)) h1 bel lt1) (trodAll_cons_mk (Below.trod laidOut (by kernel_rfl) (of_decide_eq_true (by kernel_rfl)) h2 bel lt2) trodAll_mk0))), rfl, bel.frame _, fun h => by cases h⟩

set_option maxRecDepth 100000 in
theorem over : Rows.ringSpoiltRow.holds Try.pinned (OpenSpec.ofChange Rows.ringSpoiltSpec) :=
  OpenClaim.holds_of_wide 7 Try.f7 rfl rfl rfl rfl rfl rfl rfl ⟨rfl, rfl, rfl, rfl, rfl⟩ rfl rfl rfl rfl rfl (by kernel_rfl) Try.func7 (by kernel_rfl)
    (of_decide_eq_true (by kernel_rfl)) (by unfold Func.isWrapper; first | (rw [if_pos (by decide +kernel)]; kernel_rfl) | (rw [if_neg (by decide +kernel)]; exact ⟨rfl, rfl⟩))
    (fun os started H enc _ => lifted os started H enc)

theorem proved : Rows.RingSpoiltSaid := over
#print axioms proved
end Go.Proofs.Ytfmgaakbfphpbaa.ringSpoilt
