/- Transactions that are appended and replayed, crashes, sectors that are spoilt, one behind the other, in any ring: each answer, and all sectors, are the document's. -/
import Derived.Test.YtfmgaakbfphpbaaRgPm
import Derived.Test.YtfmgaakbfphpbaaRgSpo
namespace Go.Proofs.Ytfmgaakbfphpbaa.ringPlays
open Go.ChangeShapes Go.WideShapes Go.ChangeAt Go.RowKit
set_option linter.unusedVariables false
attribute [-simp] Try.isAgg59 Try.zeroValue59 Try.isAgg79 Try.zeroValue79 Try.isAgg102 Try.zeroValue102 Try.isAgg95 Try.zeroValue95 Try.isAgg81 Try.zeroValue81
attribute [-go_sem] loadVar storeVar run_equalIn_agg
attribute [local go_sem] zero_blk build_blk zero_bod build_bod zero_sec zero_imgR zero_imgD loadVar_open6 storeVar_open6

set_option maxRecDepth 100000 in
set_option maxHeartbeats 20000000 in
theorem walk (v0 v1 : Value) (w : World) (w0 : Arg w 22 v0) (w1 : Arg w 23 v1) :
    Calls Try.prog 3 #[v0, v1] w fun e w' => e = .returned (.bool true) ∧ Below w.heap.size w w' := by
  obtain ⟨n0, n1, n2, rfl, wf0, wf1, wf2⟩ := w0.three Try.underlying22 Try.underlying3 (by kernel_rfl) (by kernel_rfl)
  obtain ⟨l, hst⟩ := w1.steps
  have HW := Lib.hid (ringWakes ringOk)
  obtain ⟨W0, hW0⟩ : ∃ W0, w.alloc (.cells #[.int .i64 n0, .int .i64 n1, .int .i64 n2] 22) = W0 := ⟨_, rfl⟩
  have hB0 : Below w.heap.size w W0 := by rw [← hW0]; exact below_new w _
  have r0 : RowC W0 w.heap.size 22 [.int .i64 n0, .int .i64 n1, .int .i64 n2] := by rw [← hW0]; exact RowC.new w _ _
  obtain ⟨Bn, hBn⟩ : ∃ b, w.heap.size = b := ⟨_, rfl⟩
  rw [hBn] at r0
  have HN : Hid (∀ x, Below W0.heap.size W0 x → RowC x Bn 22 [.int .i64 n0, .int .i64 n1, .int .i64 n2]) := fun x hx => r0.below hx
  have c0 := r0.cell 0 _ rfl
  have HST := Lib.hid hst
  have HF := Lib.hid (fair_any _ _ W0 (hst.below hB0))
  have HB0 := Lib.hid hB0
  have H0 := Lib.hid (Below.refl W0.heap.size W0)
  obtain ⟨a, cap, rfl, -, -, -, -⟩ := id hst
  obtain ⟨L, hL⟩ : ∃ L, l.length = L := ⟨_, rfl⟩
  have HL := Lib.hid hL
  rw [hL] at HST HF ⊢
  obtain ⟨fb, hfb⟩ : ∃ fb, fairB l = fb := ⟨_, rfl⟩
  have HFB := Lib.hid hfb
  rw [hfb] at HF
  clear hL hfb w0 w1 wf0 wf1 wf2 hB0 r0 hst
  cases fb with
  | false =>
    go_enter Try.func3, Try.ntmps3
    go_wp2_with fail
    try go_at_call 8
    refine HF.out.mono ?_
    rintro e zz ⟨rfl, hz⟩
    obtain rfl := hz.symm
    clear hz

    go_wp2_with fail
    try go_at_call 9
    refine (HW.out _).mono ?_
    rintro e yw ⟨rfl, hBw⟩
    have HBw : Hid (Below W0.heap.size W0 yw) := H0.out.trans (hBw.mono H0.out.size)
    clear hBw
    go_wp2_with fail
    go_ret
    exact ⟨rfl, HB0.out.trans (HBw.out.mono HB0.out.size)⟩
  | true =>
  have hfy := fairB_yes HFB.out
  rw [HL.out] at hfy
  have HLF := Lib.hid hfy
  have hL60 := hfy.1
  clear hfy
  by_cases hn0 : 60 < n0
  · have gn : decide (60 < n0) = true := by simpa using hn0
    have gn' : decide (n0 > 60) = true := gn
    go_enter Try.func3, Try.ntmps3
    go_wp2_with fail
    try go_at_call 8
    refine HF.out.mono ?_
    rintro e zz ⟨rfl, hz⟩
    obtain rfl := hz.symm
    clear hz

    go_wp2_with fail
    try go_at_call 9
    refine (HW.out _).mono ?_
    rintro e yw ⟨rfl, hBw⟩
    have HBw : Hid (Below W0.heap.size W0 yw) := H0.out.trans (hBw.mono H0.out.size)
    clear hBw
    go_wp2_with fail
    go_ret
    exact ⟨rfl, HB0.out.trans (HBw.out.mono HB0.out.size)⟩
  have gn : decide (60 < n0) = false := by simpa using hn0
  have gn' : decide (n0 > 60) = false := gn
  have hn60 : n0 ≤ 60 := by omega
  go_enter Try.func3, Try.ntmps3
  go_wp2_with fail
  try go_at_call 8
  refine HF.out.mono ?_
  rintro e zz ⟨rfl, hz⟩
  obtain rfl := hz.symm
  clear hz
  go_wp2_with fail
  try go_at_call 10
  refine (new_dev n0 hn60 W0 W0 H0.out).mono ?_
  rintro e x1 ⟨v1, E1, rfl, hnd⟩
  have HND := Lib.hid hnd
  clear c0 hnd hW0 hBn
  have c0 := (HN.out x1 HND.out.bel).cell 0 _ rfl
  go_wp2_with fail
  try go_at_call 11
  refine (new_ref n0 hn60 W0 x1 HND.out).mono ?_
  rintro e x2 ⟨v2, E2, rfl, o, N, rfl, rfl, hN, hoN, hO⟩
  have HO := Lib.hid hO
  have HN6 := Lib.hid hN
  have HON := Lib.hid hoN
  have HP0 := Lib.hid (newS_pq N)
  clear c0 hO hN hoN gn gn' hn0 hn60
  go_wp2_with fail
  go_loopw [9, 10, 13] (fun av sv iv wr => ∃ (k : Nat) (S : RS) (A q : Int), k ≤ L ∧ iv = .int .i64 (k : Int) ∧ av = .int .i64 A ∧ sv = .int .u32 q ∧ Hid (IsSeq q) ∧ Hid (OAt W0 wr o S S (fun _ => False)) ∧ Hid (S.Pq N (2 * k))) (fun _ _ iv _ => L - (intOf iv).toNat)
  case atStart =>
    have hs1 : IsSeq 1 := by unfold IsSeq; omega
    exact ⟨0, _, 0, 1, Nat.zero_le _, rfl, rfl, rfl, hs1, HO, HP0⟩
  case round =>
    obtain ⟨k, S, A, q, hk, rfl, rfl, rfl, HQ, HA, HP⟩ := hrel
    clear HO HP0 HND
    by_cases hlt : k < L
    · have g1 : decide ((k : Int) < (L : Int)) = true := by simpa using hlt
      obtain ⟨s, hs⟩ : ∃ s, l[k]? = some s := ⟨_, List.getElem?_eq_getElem (by rw [HL.out]; exact hlt)⟩
      obtain ⟨b, off, rfl, hok, hblt, hsa⟩ := HST.out.open HL.out hs
      have hmem := List.mem_of_getElem? hs
      have hps := (HLF.out.2 s hmem).1
      have hbl := (HLF.out.2 s hmem).2
      have hB : Below w.heap.size w wr := HB0.out.trans (HA.out.bel.mono HB0.out.size)
      have hc := hsa.below hblt hB
      have hok' := hok.below HB0.out
      obtain ⟨kind, si, pg, ps, pa, pcap, bs, away⟩ := s
      have hps : ps.length ≤ 300 := hps
      have hbl : bs.length ≤ 300 := hbl
      obtain ⟨pga, pgc, hpg⟩ : ∃ pa c, pg = .slice pa ps.length c := by obtain ⟨a, c, h, _⟩ := hok.pages; exact ⟨a, c, h⟩
      subst hpg
      obtain ⟨m, hm⟩ : ∃ m, ps.length = m := ⟨_, rfl⟩
      obtain ⟨P, hPl⟩ : ∃ m, bs.length = m := ⟨_, rfl⟩
      have d0 : wr.cell? ⟨b, off + k * 5, none⟩ = some (.int .i64 kind) := hc.c0
      have d1 : wr.cell? ⟨b, off + k * 5 + 1, none⟩ = some (.int .i64 si) := hc.c1
      have d2 : wr.cell? ⟨b, off + k * 5 + 2, none⟩ = some (.slice pga m pgc) := by rw [← hm]; exact hc.c2
      have d3 : wr.cell? ⟨b, off + k * 5 + 3, none⟩ = some (.slice pa P pcap) := by rw [← hPl]; exact hc.c3
      have d4 : wr.cell? ⟨b, off + k * 5 + 4, none⟩ = some (.bool away) := hc.c4
      obtain ⟨W, hW⟩ : ∃ W, wr.alloc (.cells #[.int .i64 kind, .int .i64 si, .slice pga m pgc, .slice pa P pcap, .bool away] 37) = W := ⟨_, rfl⟩
      have hBW : Below wr.heap.size wr W := by rw [← hW]; exact below_new wr _
      have hrx : RowC W wr.heap.size 37 [.int .i64 kind, .int .i64 si, .slice pga m pgc, .slice pa P pcap, .bool away] := by rw [← hW]; exact RowC.new wr _ _
      have AW := HA.out.below hBW (fun j => j = wr.heap.size) (fun j hj => .inr ⟨by omega, by rw [hj]; exact hrx.lt⟩)
      have hwx : W0.heap.size ≤ wr.heap.size := HA.out.bel.size
      obtain ⟨Bx, hBx⟩ : ∃ b, wr.heap.size = b := ⟨_, rfl⟩
      rw [hBx] at AW hrx hwx
      have HPRS : Hid (Prs W (.slice pga m pgc) ps) := by have := hok'.pages.below AW.bel; rw [← hm]; exact this
      have HIM := Lib.hid (lawImages HPRS.out (by omega))
      have HSL : Hid (Sl .u8 W0 (.slice pa P pcap) bs) := by have := hok'.pick0; show Sl _ _ _ _; rw [← hPl]; exact this
      have HBS := Lib.hid hok'.bytes0
      have HI0 := Lib.hid hok'.i0
      have HI1 := Lib.hid hok'.i1
      have HPS := Lib.hid hps
      rw [hm] at HIM HPS
      have HM := Lib.hid hm
      have HAW := Lib.hid AW
      have HRX := Lib.hid hrx
      have HWX := Lib.hid hwx
      have HLT := Lib.hid hlt
      have f2 := hrx.cell 2 _ rfl
      clear hs hok hblt hsa hmem hps hbl hB hc hok' hm hPl hBW hrx AW hwx hlt
      go_wp2_with fail
      clear d0 d1 d2 d3 d4 hW f2 hBx
      try go_at_call 12
      refine HIM.out.mono ?_
      rintro e x1 ⟨⟨va, vb, rfl, hOa, hOb⟩, hb1⟩
      have A1 := HAW.out.below hb1 (fun j => j = Bx ∨ va.ownBlock = some j ∨ vb.ownBlock = some j) (fun j hj => by
        rcases hj with hj | hj | hj
        · exact .inl hj
        · exact .inr (hOa.lt j hj)
        · exact .inr (hOb.lt j hj))
      obtain ⟨own, hown⟩ : ∃ own : Nat → Prop, own = fun j => j = Bx ∨ va.ownBlock = some j ∨ vb.ownBlock = some j := ⟨_, rfl⟩
      rw [← hown] at A1
      have HOX : Hid (own Bx) := by show own Bx; rw [hown]; exact .inl rfl
      have HOVA : Hid (∀ j, va.ownBlock = some j → own j) := fun j hj => by rw [hown]; exact .inr (.inl hj)
      have HOVB : Hid (∀ j, vb.ownBlock = some j → own j) := fun j hj => by rw [hown]; exact .inr (.inr hj)
      have HROW : Hid (RowC x1 Bx 37 [.int .i64 kind, .int .i64 si, .slice pga m pgc, .slice pa P pcap, .bool away]) := HRX.out.below hb1
      have HOA := Lib.hid hOa
      have HOB := Lib.hid hOb
      have HA1 := Lib.hid A1
      have f0 := HROW.out.cell 0 _ rfl
      have f1 := HROW.out.cell 1 _ rfl
      have f3 := HROW.out.cell 3 _ rfl
      have f4 := HROW.out.cell 4 _ rfl
      have n1c := (HN.out x1 A1.bel).cell 1 _ rfl
      have n2c := (HN.out x1 A1.bel).cell 2 _ rfl
      obtain ⟨t, ht⟩ : ∃ t, imgsOf ps = t := ⟨_, rfl⟩
      have htl : t.length = m := by rw [← ht, imgsOf_length, HM.out]
      have hto : ∀ x ∈ t, x.Ok := by rw [← ht]; exact imgsOf_ok ps
      rw [ht] at HOA HOB
      have HTL := Lib.hid htl
      have HTO := Lib.hid hto
      have hk240 : 2 * k ≤ 240 := by have := HLT.out; omega
      have HK2 := Lib.hid hk240
      rw [← HTL.out] at HOA HOB
      clear hOa hOb hb1 A1 hown ht htl hto HIM HAW HRX HPRS hk240
      cases away with
      | true =>
        by_cases hk0 : kind = 0
        · subst hk0
          as_aux_lemma =>
            obtain ⟨S', K, E, hap⟩ := ap_ex S n1 n2 si q HTO.out
            have hE := hap.err.1
            have HPS' := Lib.hid (hap.pq HP.out HK2.out HQ.out)
            have HC1 := Lib.hid (ap_dev HA1.out HP.out HN6.out HON.out HK2.out HQ.out hap HTO.out (by rw [HTL.out]; have := HPS.out; omega) HOA.out HOVA.out)
            have HAP := Lib.hid hap
            clear hap
            go_wp2_with fail
            try go_at_call 13
            refine HC1.out.mono ?_
            rintro e x2 ⟨rfl, a2, hw2⟩
            have HR2 : Hid (RowC x2 Bx 37 [.int .i64 0, .int .i64 si, .slice pga m pgc, .slice pa P pcap, .bool true]) := (hw2 Bx HOX.out).trans HROW.out
            have HOB2 := Lib.hid (own_same HOB.out (fun j hj => hw2 j (HOVB.out j hj)))
            have HC2 := Lib.hid (ap_ref a2 HP.out HN6.out HON.out HK2.out HQ.out HAP.out HTO.out (by rw [HTL.out]; have := HPS.out; omega) HOB2.out HOVB.out)
            have m1c := (HN.out x2 a2.bel).cell 1 _ rfl
            have m2c := (HN.out x2 a2.bel).cell 2 _ rfl
            clear a2 hw2 n1c n2c f0 f1 f3 f4 HC1
            have hw2' := HR2.out.cell 4 _ rfl
            go_wp2_with fail
            clear m1c m2c hw2'
            try go_at_call 14
            refine HC2.out.mono ?_
            rintro e x3 ⟨rfl, a3, hw3⟩
            have f4 : x3.cell? ⟨Bx, 4, none⟩ = some (.bool true) := RowC.cell ((hw3 Bx HOX.out).trans HR2.out) 4 _ rfl
            have HA3 := Lib.hid (OAt.less a3 (fun _ => False) (fun _ h => h.elim))
            have HP3 : Hid (S'.Pq N (2 * (k + 1))) := HPS'.out
            obtain ⟨q2, hq2⟩ : ∃ q2, (q + 1) % 4294967296 = q2 := ⟨_, rfl⟩
            have HQ2 : Hid (IsSeq q2) := by show IsSeq q2; rw [← hq2]; exact isSeq_next
            clear a3 hw3 HC2
            by_cases hE0 : E = 0
            · subst hE0
              go_wp2_with fail
              go_roundw
              case rel => first | exact ⟨k + 1, S', A, q, HLT.out, by go_num, rfl, rfl, HQ, HA3, HP3⟩ | ((repeat apply Exists.intro); exact ⟨⟨k + 1, S', A, q, HLT.out, by go_num, rfl, rfl, HQ, HA3, HP3⟩, rfl⟩)
              case measure => have := HLT.out; simp [intOf]; omega
            · have gE : (E == 0) = false := by simpa using hE0
              go_wp2_with fail
              go_roundw
              case rel => first | exact ⟨k + 1, S', A, q, HLT.out, by go_num, rfl, rfl, HQ, HA3, HP3⟩ | ((repeat apply Exists.intro); exact ⟨⟨k + 1, S', A, q, HLT.out, by go_num, rfl, rfl, HQ, HA3, HP3⟩, rfl⟩)
              case measure => have := HLT.out; simp [intOf]; omega
        have gk0 : (kind == 0) = false := by simpa using hk0
        by_cases hk1 : kind = 1
        · subst hk1
          as_aux_lemma =>
            obtain ⟨ts, ra, rq', E, hrp⟩ := rp_ex S n1 n2 si q
            obtain ⟨o1, o2, o3⟩ := hrp.ok HP.out
            obtain ⟨ts', ra', rq'', E', hrp'⟩ := rp_ex S n1 n2 0 1
            obtain ⟨o1', o2', o3'⟩ := hrp'.ok HP.out
            have hs1 : IsSeq 1 := by unfold IsSeq; omega
            have HC1 := Lib.hid (rp_dev HA1.out HP.out HN6.out HON.out HQ.out hrp)
            have HC2 : Hid (∀ x (ow : Nat → Prop), OAt W0 x o S S ow → _) := fun x ow hx => rp_ref hx HP.out HN6.out HON.out HQ.out hrp
            have HC3 : Hid (∀ x (ow : Nat → Prop), OAt W0 x o S S ow → _) := fun x ow hx => rp_dev hx HP.out HN6.out HON.out hs1 hrp'
            have HC4 : Hid (∀ x (ow : Nat → Prop), OAt W0 x o S S ow → _) := fun x ow hx => rp_ref hx HP.out HN6.out HON.out hs1 hrp'
            have HSM : Hid (∀ (x : World) (M1 M2 : Nat) (v1 v2 : Value), TxnsR 38 81 x M1 v1 ts → TxnsR 39 95 x M2 v2 ts → _) := fun x M1 M2 v1 v2 h1 h2 => lawSame h1 h2 o1 ⟨o2, o3⟩ ra rq' E
            have HSM' : Hid (∀ (x : World) (M1 M2 : Nat) (v1 v2 : Value), TxnsR 38 81 x M1 v1 ts' → TxnsR 39 95 x M2 v2 ts' → _) := fun x M1 M2 v1 v2 h1 h2 => lawSame h1 h2 o1' ⟨o2', o3'⟩ ra' rq'' E'
            clear hrp o1 o2 o3 hrp' o1' o2' o3' hs1
            go_wp2_with fail
            clear f0 f1 f3 f4 n1c n2c
            try go_at_call 15
            refine HC1.out.mono ?_
            rintro e x2 ⟨⟨v1, rfl, ht1⟩, hb2⟩
            obtain ⟨r1, c1, rfl, -⟩ := id ht1.at
            obtain ⟨n1', hn1'⟩ : ∃ n, ts.length = n := ⟨_, rfl⟩
            rw [hn1'] at ht1 ⊢
            obtain ⟨y2, ST2, hr2, hb2'⟩ := new_logD x2 (.slice r1 n1' c1) ra rq' rfl
            have hb12 : Below x1.heap.size x1 y2 := hb2.trans (hb2'.mono hb2.size)
            have hB2le : x1.heap.size ≤ x2.heap.size := hb2.size
            obtain ⟨B2, hB2⟩ : ∃ b, x2.heap.size = b := ⟨_, rfl⟩
            rw [hB2] at hr2 ST2 hB2le
            have T2 := Lib.hid (ht1.below hb2')
            have RL2 := Lib.hid hr2
            have A2 := Lib.hid (HA1.out.beside hb12)
            have m1c := (HN.out y2 A2.out.bel).cell 1 _ rfl
            have m2c := (HN.out y2 A2.out.bel).cell 2 _ rfl
            have HB12 := Lib.hid hb12
            have HLE2 := Lib.hid hB2le
            have HD2 := Lib.hid (HC2.out y2 own A2.out)
            clear ht1 hb2 hb2' hr2 hb12 hB2le hn1' HC1 HC2
            go_wp2_with fail
            clear ST2 hB2 m1c m2c
            try go_at_call 16
            refine HD2.out.mono ?_
            rintro e x3 ⟨⟨v2, rfl, ht2⟩, hb3⟩
            obtain ⟨r2, c2, rfl, -⟩ := id ht2.at
            obtain ⟨n2', hn2'⟩ : ∃ n, ts.length = n := ⟨_, rfl⟩
            rw [hn2'] at ht2 ⊢
            obtain ⟨y3, ST3, hr3, hb3'⟩ := new_logC x3 (.slice r2 n2' c2) ra rq' E rfl
            have hb23 : Below y2.heap.size y2 y3 := hb3.trans (hb3'.mono hb3.size)
            have hB3le : y2.heap.size ≤ x3.heap.size := hb3.size
            obtain ⟨B3, hB3⟩ : ∃ b, x3.heap.size = b := ⟨_, rfl⟩
            rw [hB3] at hr3 ST3 hB3le
            have HSS := Lib.hid (HSM.out y3 _ _ _ _ (T2.out.below hb23) (ht2.below hb3'))
            have RL3 := Lib.hid hr3
            have RD3 := Lib.hid (RL2.out.below hb23)
            have LD := load_logD RD3.out
            have LC := load_log RL3.out
            have HNE : Hid (B2 ≠ B3) := by have := RL2.out.lt; show B2 ≠ B3; omega
            have A3 := Lib.hid (HA1.out.below (HB12.out.trans (hb23.mono HB12.out.size)) (fun j => own j ∨ j = B2 ∨ j = B3) (fun j hj => by
              rcases hj with hj | hj | hj
              · exact .inl hj
              · exact .inr ⟨by rw [hj]; exact HLE2.out, by rw [hj]; exact RD3.out.lt⟩
              · exact .inr ⟨by rw [hj]; exact Nat.le_trans HB12.out.size hB3le, by rw [hj]; exact hr3.lt⟩))
            have HW2 : Hid (W0.heap.size ≤ B2) := Nat.le_trans HA1.out.bel.size HLE2.out
            have HW3 : Hid (W0.heap.size ≤ B3) := Nat.le_trans (Nat.le_trans HA1.out.bel.size HB12.out.size) hB3le
            clear ht2 hb3 hb3' hr3 hb23 hB3le hn2' HD2 HSM T2 RL2
            go_wp2_with fail
            clear ST3 hB3 LD LC
            try go_at_call 17
            refine HSS.out.mono ?_
            rintro e x4 ⟨rfl, hb4⟩
            have A4 := Lib.hid (A3.out.beside hb4)
            have RD4 := Lib.hid (RD3.out.below hb4)
            have RC4 := Lib.hid (RL3.out.below hb4)
            have e3 : x4.cell? ⟨B3, 3, none⟩ = some (.int .i64 E) := RC4.out.cell 3 _ rfl
            have m1c := (HN.out x4 A4.out.bel).cell 1 _ rfl
            have m2c := (HN.out x4 A4.out.bel).cell 2 _ rfl
            have HD3 := Lib.hid (HC3.out x4 _ A4.out)
            clear hb4 HSS A3 RD3 RL3 HC3
            go_wp2_with fail
            clear e3 m1c m2c
            try go_at_call 15
            refine HD3.out.mono ?_
            rintro e x5 ⟨⟨v3, rfl, ht3⟩, hb5⟩
            obtain ⟨r3, c3, rfl, -⟩ := id ht3.at
            obtain ⟨n3', hn3'⟩ : ∃ n, ts'.length = n := ⟨_, rfl⟩
            rw [hn3'] at ht3 ⊢
            obtain ⟨y5, ST5, hr5, A5, hg5⟩ := over_logD (v := .slice r3 n3' c3) (a := ra') (q := rq'') (A4.out.beside hb5) (B := B2) (.inr (.inl rfl)) HW2.out (RD4.out.below hb5) rfl rfl
            have T5 := Lib.hid (ht3.grownC (RD4.out.below hb5) (by decide) (by decide) hg5)
            have RD5 := Lib.hid hr5
            have RC5 := Lib.hid ((RC4.out.below hb5).grown hg5 (by have := HNE.out; simpa using this))
            have HA5 := Lib.hid A5
            have m1c := (HN.out y5 A5.bel).cell 1 _ rfl
            have m2c := (HN.out y5 A5.bel).cell 2 _ rfl
            have HD4 := Lib.hid (HC4.out y5 _ A5)
            clear ht3 hb5 hr5 A5 hg5 hn3' HD3 HC4 RD4 RC4
            go_wp2_with fail
            clear ST5 m1c m2c
            try go_at_call 16
            refine HD4.out.mono ?_
            rintro e x6 ⟨⟨v4, rfl, ht4⟩, hb6⟩
            obtain ⟨r4, c4, rfl, -⟩ := id ht4.at
            obtain ⟨n4', hn4'⟩ : ∃ n, ts'.length = n := ⟨_, rfl⟩
            rw [hn4'] at ht4 ⊢
            obtain ⟨y6, ST6, hr6, A6, hg6⟩ := over_log (v := .slice r4 n4' c4) (a := ra') (q := rq'') (e := E') (HA5.out.beside hb6) (B := B3) (.inr (.inr rfl)) HW3.out (RC5.out.below hb6) rfl rfl
            have HSS := Lib.hid (HSM'.out y6 _ _ _ _ ((T5.out.below hb6).grownC (RC5.out.below hb6) (by decide) (by decide) hg6) (ht4.grownC (RC5.out.below hb6) (by decide) (by decide) hg6))
            have RD6 := Lib.hid ((RD5.out.below hb6).grown hg6 (by have := HNE.out; simpa using fun e => this e.symm))
            have RC6 := Lib.hid hr6
            have LD := load_logD RD6.out
            have LC := load_log RC6.out
            have HA6 := Lib.hid A6
            clear ht4 hb6 hr6 A6 hg6 hn4' HD4 HSM' RD5 RC5 T5
            go_wp2_with fail
            clear ST6 LD LC
            try go_at_call 17
            refine HSS.out.mono ?_
            rintro e x7 ⟨rfl, hb7⟩
            have e3 : x7.cell? ⟨B3, 3, none⟩ = some (.int .i64 E') := (RC6.out.below hb7).cell 3 _ rfl
            have HA7 := Lib.hid (OAt.less (HA6.out.beside hb7) (fun _ => False) (fun _ h => h.elim))
            have HP7 : Hid (S.Pq N (2 * (k + 1))) := HP.out.more (by omega)
            clear hb7 HSS
            go_wp2_with fail

            go_roundw
            case rel => first | exact ⟨k + 1, S, A, q, HLT.out, by go_num, rfl, rfl, HQ, HA7, HP7⟩ | ((repeat apply Exists.intro); exact ⟨⟨k + 1, S, A, q, HLT.out, by go_num, rfl, rfl, HQ, HA7, HP7⟩, rfl⟩)
            case measure => have := HLT.out; simp [intOf]; omega
        have gk1 : (kind == 1) = false := by simpa using hk1
        by_cases hk2 : kind = 2
        · subst hk2
          as_aux_lemma =>
            have HC1 := Lib.hid (crash_dev HA1.out HSL.out HBS.out HP.out HK2.out)
            go_wp2_with fail
            clear f0 f1 f3 f4 n1c n2c
            try go_at_call 18
            refine HC1.out.mono ?_
            rintro e x2 ⟨rfl, a2, hw2⟩
            have HR2 : Hid (RowC x2 Bx 37 [.int .i64 2, .int .i64 si, .slice pga m pgc, .slice pa P pcap, .bool true]) := (hw2 Bx HOX.out).trans HROW.out
            have HA2 := Lib.hid a2
            have f3 := HR2.out.cell 3 _ rfl
            have HP2 : Hid ((S.crash bs []).Pq N (2 * (k + 1))) := (HP.out.crash bs []).more (by omega)
            clear a2 hw2 HC1
            cases o with
            | none =>
              have HA3 : Hid (OAt W0 x2 none (S.crash bs []) (S.crash bs []) (fun _ => False)) := OAt.less (o := none) HA2.out (fun _ => False) (fun _ h => h.elim)
              unfold qv
              go_wp2_with fail
              go_roundw
              case rel => first | exact ⟨k + 1, S.crash bs [], A, q, HLT.out, by go_num, rfl, rfl, HQ, HA3, HP2⟩ | ((repeat apply Exists.intro); exact ⟨⟨k + 1, S.crash bs [], A, q, HLT.out, by go_num, rfl, rfl, HQ, HA3, HP2⟩, rfl⟩)
              case measure => have := HLT.out; simp [intOf]; omega
            | some p =>
              have HC2 := Lib.hid (crash_ref HA2.out HSL.out HBS.out HP.out HK2.out)
              unfold qv
              go_wp2_with fail
              try go_at_call 19
              refine HC2.out.mono ?_
              rintro e x3 ⟨rfl, a3, hw3⟩
              have HA3 : Hid (OAt W0 x3 (some p) (S.crash bs []) (S.crash bs []) (fun _ => False)) := OAt.less a3 (fun _ => False) (fun _ h => h.elim)
              clear a3 hw3 HC2
              go_wp2_with fail
              go_roundw
              case rel => first | exact ⟨k + 1, S.crash bs [], A, q, HLT.out, by go_num, rfl, rfl, HQ, HA3, HP2⟩ | ((repeat apply Exists.intro); exact ⟨⟨k + 1, S.crash bs [], A, q, HLT.out, by go_num, rfl, rfl, HQ, HA3, HP2⟩, rfl⟩)
              case measure => have := HLT.out; simp [intOf]; omega
        have gk2 : (kind == 2) = false := by simpa using hk2
        by_cases hk3 : kind = 3
        · subst hk3
          as_aux_lemma =>
            cases o with
            | none =>
              have HA3 : Hid (OAt W0 x1 none S S (fun _ => False)) := OAt.less HA1.out (fun _ => False) (fun _ h => h.elim)
              have HP2 : Hid (S.Pq N (2 * (k + 1))) := HP.out.more (by omega)
              unfold qv
              go_wp2_with fail
              go_roundw
              case rel => first | exact ⟨k + 1, S, A, q, HLT.out, by go_num, rfl, rfl, HQ, HA3, HP2⟩ | ((repeat apply Exists.intro); exact ⟨⟨k + 1, S, A, q, HLT.out, by go_num, rfl, rfl, HQ, HA3, HP2⟩, rfl⟩)
              case measure => have := HLT.out; simp [intOf]; omega
            | some p =>
              have hmx : Try.prog.follows .mixedOrders = true := by kernel_rfl
              obtain ⟨z, hz⟩ : ∃ z, si % 256 = z := ⟨_, rfl⟩
              have hzb : 0 ≤ z ∧ z < 256 := by omega
              have hblk : IsBlk (fillB z) := isBlk_fill z
              have HBA : BAt W0 x1 p S S own := HA1.out
              have HFIT := HP.out.fit HK2.out
              have HF255 := HP.out.few.mono (show 2 * k ≤ 255 by have := HK2.out; omega)
              have HWR : Hid (∀ y : Ext x1, Calls Try.prog 20 #[.pointer (some ⟨p.rb, 0, none⟩), .int .i64 0, .int .i64 si, .agg (fillB z).toArray] y.1 fun e w' => e = .returned (.int .i64 (S.writeE 0 si)) ∧ BAt W0 w' p (S.write 0 si (fillB z)) S own ∧ ∀ k, own k → w'.heap[k]? = y.1.heap[k]?) := fun y => (HBA.beside y.2).write HFIT HF255 0 si hblk
              have HWR2 : Hid (∀ (x : World), BAt W0 x p (S.write 0 si (fillB z)) S own → ∀ y : Ext x, Calls Try.prog 22 #[.pointer (some ⟨p.rq, 0, none⟩), .int .i64 0, .int .i64 si, .agg (fillB z).toArray] y.1 fun e w' => e = .returned (.int .i64 (S.writeE 0 si)) ∧ BAt W0 w' p (S.write 0 si (fillB z)) (S.write 0 si (fillB z)) own ∧ ∀ k, own k → w'.heap[k]? = y.1.heap[k]?) := fun x hx y => (hx.beside y.2).write2 HFIT HF255 0 si hblk
              have HFL : Hid (∀ x : World, Calls Try.prog 21 #[.int .u8 z] x fun e w' => e = .returned (.agg (fillB z).toArray) ∧ Below x.heap.size x w') := fun x => fill_any z x
              have HP2 : Hid ((S.write 0 si (fillB z)).Pq N (2 * (k + 1))) := HP.out.write HK2.out si hzb
              have C1 : ∀ y : Ext x1, y.1.cell? ⟨Bx, 1, none⟩ = some (.int .i64 si) := fun y => (HROW.out.below y.2).cell 1 _ rfl
              have HZ := Lib.hid hz
              clear hzb hblk HBA HFIT HF255
              unfold qv
              go_wp2_with fail
              clear f0 f1 f3 f4 n1c n2c
              refine region_plan (fun x => ∃ y : Ext x1, x = y.1) 7 (.takes [0, 1, 2, 3, 4, 5] (.one 6 .leaf)) hmx (by kernel_rfl) (by intro c x v a w h; cases x <;> exact h) ⟨⟨x1.drew, (Below.refl _ x1).drew⟩, rfl⟩ ?_
              repeat (rw [wpPlan_takes_cons]; simp only [nth_zero, nth_succ]; go_big_quiet_step (fail); refine wpQuiet_nil ?_)
              rw [wpPlan_takes_nil, wpPlan_one]
              simp only [nth_zero, nth_succ]
              clear C1
              obtain ⟨X, hX⟩ : ∃ X, x1.drew = X := ⟨_, rfl⟩
              have hbX : Below x1.heap.size x1 X := by rw [← hX]; exact (Below.refl _ x1).drew
              have HBX := Lib.hid hbX
              rw [hX]
              clear hX hbX
              have hz2 := HZ.out
              go_wp2_with fail
              try go_at_call 21
              refine (HFL.out _).mono ?_
              rintro e X2 ⟨rfl, hbf⟩
              have HBX2 : Hid (Below x1.heap.size x1 X2) := HBX.out.trans (hbf.mono HBX.out.size)
              clear hbf
              go_wp2_with fail
              refine planPost_mk ⟨⟨X2, HBX2.out⟩, rfl⟩ ?_
              rw [wpPlan_leaf]
              simp only [List.drop_succ_cons, List.drop_zero]
              go_wp2_with fail
              try go_at_call 20
              refine (HWR.out ⟨X2, HBX2.out⟩).mono ?_
              rintro e x2 ⟨rfl, a2, hw2⟩
              have HR2 : Hid (RowC x2 Bx 37 [.int .i64 3, .int .i64 si, .slice pga m pgc, .slice pa P pcap, .bool true]) := (hw2 Bx HOX.out).trans (HROW.out.below HBX2.out)
              have HA2 := Lib.hid a2
              have C1 : ∀ y : Ext x2, y.1.cell? ⟨Bx, 1, none⟩ = some (.int .i64 si) := fun y => (HR2.out.below y.2).cell 1 _ rfl
              clear a2 hw2 HWR hz2
              go_wp2_with fail
              refine region_plan (fun x => ∃ y : Ext x2, x = y.1) 7 (.takes [0, 1, 2, 3, 4, 5] (.one 6 .leaf)) hmx (by kernel_rfl) (by intro c x v a w h; cases x <;> exact h) ⟨⟨x2.drew, (Below.refl _ x2).drew⟩, rfl⟩ ?_
              repeat (rw [wpPlan_takes_cons]; simp only [nth_zero, nth_succ]; go_big_quiet_step (fail); refine wpQuiet_nil ?_)
              rw [wpPlan_takes_nil, wpPlan_one]
              simp only [nth_zero, nth_succ]
              clear C1
              obtain ⟨X3, hX3⟩ : ∃ X, x2.drew = X := ⟨_, rfl⟩
              have hbX3 : Below x2.heap.size x2 X3 := by rw [← hX3]; exact (Below.refl _ x2).drew
              have HBX3 := Lib.hid hbX3
              rw [hX3]
              clear hX3 hbX3
              have hz2 := HZ.out
              go_wp2_with fail
              try go_at_call 21
              refine (HFL.out _).mono ?_
              rintro e X4 ⟨rfl, hbf⟩
              have HBX4 : Hid (Below x2.heap.size x2 X4) := HBX3.out.trans (hbf.mono HBX3.out.size)
              clear hbf
              go_wp2_with fail
              refine planPost_mk ⟨⟨X4, HBX4.out⟩, rfl⟩ ?_
              rw [wpPlan_leaf]
              simp only [List.drop_succ_cons, List.drop_zero]
              go_wp2_with fail
              try go_at_call 22
              refine (HWR2.out x2 HA2.out ⟨X4, HBX4.out⟩).mono ?_
              rintro e x3 ⟨rfl, a3, hw3⟩
              have HA3 : Hid (OAt W0 x3 (some p) (S.write 0 si (fillB z)) (S.write 0 si (fillB z)) (fun _ => False)) := OAt.less (o := some p) a3 (fun _ => False) (fun _ h => h.elim)
              clear a3 hw3 HWR2 hz2
              go_wp2_with fail
              go_roundw
              case rel => first | exact ⟨k + 1, S.write 0 si (fillB z), A, q, HLT.out, by go_num, rfl, rfl, HQ, HA3, HP2⟩ | ((repeat apply Exists.intro); exact ⟨⟨k + 1, S.write 0 si (fillB z), A, q, HLT.out, by go_num, rfl, rfl, HQ, HA3, HP2⟩, rfl⟩)
              case measure => have := HLT.out; simp [intOf]; omega
        have gk3 : (kind == 3) = false := by simpa using hk3
        have HA3 := Lib.hid (OAt.less HA1.out (fun _ => False) (fun _ h => h.elim))
        have HP2 : Hid (S.Pq N (2 * (k + 1))) := HP.out.more (by omega)
        go_wp2_with fail

        go_roundw
        case rel => first | exact ⟨k + 1, S, A, q, HLT.out, by go_num, rfl, rfl, HQ, HA3, HP2⟩ | ((repeat apply Exists.intro); exact ⟨⟨k + 1, S, A, q, HLT.out, by go_num, rfl, rfl, HQ, HA3, HP2⟩, rfl⟩)
        case measure => have := HLT.out; simp [intOf]; omega
      | false =>
        by_cases hk0 : kind = 0
        · subst hk0
          as_aux_lemma =>
            obtain ⟨S', K, E, hap⟩ := ap_ex S n1 n2 A q HTO.out
            have hE := hap.err.1
            have HPS' := Lib.hid (hap.pq HP.out HK2.out HQ.out)
            have HC1 := Lib.hid (ap_dev HA1.out HP.out HN6.out HON.out HK2.out HQ.out hap HTO.out (by rw [HTL.out]; have := HPS.out; omega) HOA.out HOVA.out)
            have HAP := Lib.hid hap
            clear hap
            go_wp2_with fail
            try go_at_call 13
            refine HC1.out.mono ?_
            rintro e x2 ⟨rfl, a2, hw2⟩
            have HR2 : Hid (RowC x2 Bx 37 [.int .i64 0, .int .i64 si, .slice pga m pgc, .slice pa P pcap, .bool false]) := (hw2 Bx HOX.out).trans HROW.out
            have HOB2 := Lib.hid (own_same HOB.out (fun j hj => hw2 j (HOVB.out j hj)))
            have HC2 := Lib.hid (ap_ref a2 HP.out HN6.out HON.out HK2.out HQ.out HAP.out HTO.out (by rw [HTL.out]; have := HPS.out; omega) HOB2.out HOVB.out)
            have m1c := (HN.out x2 a2.bel).cell 1 _ rfl
            have m2c := (HN.out x2 a2.bel).cell 2 _ rfl
            clear a2 hw2 n1c n2c f0 f1 f3 f4 HC1
            have hw2' := HR2.out.cell 4 _ rfl
            go_wp2_with fail
            clear m1c m2c hw2'
            try go_at_call 14
            refine HC2.out.mono ?_
            rintro e x3 ⟨rfl, a3, hw3⟩
            have f4 : x3.cell? ⟨Bx, 4, none⟩ = some (.bool false) := RowC.cell ((hw3 Bx HOX.out).trans HR2.out) 4 _ rfl
            have HA3 := Lib.hid (OAt.less a3 (fun _ => False) (fun _ h => h.elim))
            have HP3 : Hid (S'.Pq N (2 * (k + 1))) := HPS'.out
            obtain ⟨q2, hq2⟩ : ∃ q2, (q + 1) % 4294967296 = q2 := ⟨_, rfl⟩
            have HQ2 : Hid (IsSeq q2) := by show IsSeq q2; rw [← hq2]; exact isSeq_next
            clear a3 hw3 HC2
            by_cases hE0 : E = 0
            · subst hE0
              go_wp2_with fail
              go_roundw
              case rel => first | exact ⟨k + 1, S', K, q2, HLT.out, by go_num, rfl, by rw [hq2], HQ2, HA3, HP3⟩ | ((repeat apply Exists.intro); exact ⟨⟨k + 1, S', K, q2, HLT.out, by go_num, rfl, by rw [hq2], HQ2, HA3, HP3⟩, rfl⟩)
              case measure => have := HLT.out; simp [intOf]; omega
            · have gE : (E == 0) = false := by simpa using hE0
              go_wp2_with fail
              go_roundw
              case rel => first | exact ⟨k + 1, S', A, q, HLT.out, by go_num, rfl, rfl, HQ, HA3, HP3⟩ | ((repeat apply Exists.intro); exact ⟨⟨k + 1, S', A, q, HLT.out, by go_num, rfl, rfl, HQ, HA3, HP3⟩, rfl⟩)
              case measure => have := HLT.out; simp [intOf]; omega
        have gk0 : (kind == 0) = false := by simpa using hk0
        by_cases hk1 : kind = 1
        · subst hk1
          as_aux_lemma =>
            obtain ⟨ts, ra, rq', E, hrp⟩ := rp_ex S n1 n2 A q
            obtain ⟨o1, o2, o3⟩ := hrp.ok HP.out
            obtain ⟨ts', ra', rq'', E', hrp'⟩ := rp_ex S n1 n2 0 1
            obtain ⟨o1', o2', o3'⟩ := hrp'.ok HP.out
            have hs1 : IsSeq 1 := by unfold IsSeq; omega
            have HC1 := Lib.hid (rp_dev HA1.out HP.out HN6.out HON.out HQ.out hrp)
            have HC2 : Hid (∀ x (ow : Nat → Prop), OAt W0 x o S S ow → _) := fun x ow hx => rp_ref hx HP.out HN6.out HON.out HQ.out hrp
            have HC3 : Hid (∀ x (ow : Nat → Prop), OAt W0 x o S S ow → _) := fun x ow hx => rp_dev hx HP.out HN6.out HON.out hs1 hrp'
            have HC4 : Hid (∀ x (ow : Nat → Prop), OAt W0 x o S S ow → _) := fun x ow hx => rp_ref hx HP.out HN6.out HON.out hs1 hrp'
            have HSM : Hid (∀ (x : World) (M1 M2 : Nat) (v1 v2 : Value), TxnsR 38 81 x M1 v1 ts → TxnsR 39 95 x M2 v2 ts → _) := fun x M1 M2 v1 v2 h1 h2 => lawSame h1 h2 o1 ⟨o2, o3⟩ ra rq' E
            have HSM' : Hid (∀ (x : World) (M1 M2 : Nat) (v1 v2 : Value), TxnsR 38 81 x M1 v1 ts' → TxnsR 39 95 x M2 v2 ts' → _) := fun x M1 M2 v1 v2 h1 h2 => lawSame h1 h2 o1' ⟨o2', o3'⟩ ra' rq'' E'
            clear hrp o1 o2 o3 hrp' o1' o2' o3' hs1
            go_wp2_with fail
            clear f0 f1 f3 f4 n1c n2c
            try go_at_call 15
            refine HC1.out.mono ?_
            rintro e x2 ⟨⟨v1, rfl, ht1⟩, hb2⟩
            obtain ⟨r1, c1, rfl, -⟩ := id ht1.at
            obtain ⟨n1', hn1'⟩ : ∃ n, ts.length = n := ⟨_, rfl⟩
            rw [hn1'] at ht1 ⊢
            obtain ⟨y2, ST2, hr2, hb2'⟩ := new_logD x2 (.slice r1 n1' c1) ra rq' rfl
            have hb12 : Below x1.heap.size x1 y2 := hb2.trans (hb2'.mono hb2.size)
            have hB2le : x1.heap.size ≤ x2.heap.size := hb2.size
            obtain ⟨B2, hB2⟩ : ∃ b, x2.heap.size = b := ⟨_, rfl⟩
            rw [hB2] at hr2 ST2 hB2le
            have T2 := Lib.hid (ht1.below hb2')
            have RL2 := Lib.hid hr2
            have A2 := Lib.hid (HA1.out.beside hb12)
            have m1c := (HN.out y2 A2.out.bel).cell 1 _ rfl
            have m2c := (HN.out y2 A2.out.bel).cell 2 _ rfl
            have HB12 := Lib.hid hb12
            have HLE2 := Lib.hid hB2le
            have HD2 := Lib.hid (HC2.out y2 own A2.out)
            clear ht1 hb2 hb2' hr2 hb12 hB2le hn1' HC1 HC2
            go_wp2_with fail
            clear ST2 hB2 m1c m2c
            try go_at_call 16
            refine HD2.out.mono ?_
            rintro e x3 ⟨⟨v2, rfl, ht2⟩, hb3⟩
            obtain ⟨r2, c2, rfl, -⟩ := id ht2.at
            obtain ⟨n2', hn2'⟩ : ∃ n, ts.length = n := ⟨_, rfl⟩
            rw [hn2'] at ht2 ⊢
            obtain ⟨y3, ST3, hr3, hb3'⟩ := new_logC x3 (.slice r2 n2' c2) ra rq' E rfl
            have hb23 : Below y2.heap.size y2 y3 := hb3.trans (hb3'.mono hb3.size)
            have hB3le : y2.heap.size ≤ x3.heap.size := hb3.size
            obtain ⟨B3, hB3⟩ : ∃ b, x3.heap.size = b := ⟨_, rfl⟩
            rw [hB3] at hr3 ST3 hB3le
            have HSS := Lib.hid (HSM.out y3 _ _ _ _ (T2.out.below hb23) (ht2.below hb3'))
            have RL3 := Lib.hid hr3
            have RD3 := Lib.hid (RL2.out.below hb23)
            have LD := load_logD RD3.out
            have LC := load_log RL3.out
            have HNE : Hid (B2 ≠ B3) := by have := RL2.out.lt; show B2 ≠ B3; omega
            have A3 := Lib.hid (HA1.out.below (HB12.out.trans (hb23.mono HB12.out.size)) (fun j => own j ∨ j = B2 ∨ j = B3) (fun j hj => by
              rcases hj with hj | hj | hj
              · exact .inl hj
              · exact .inr ⟨by rw [hj]; exact HLE2.out, by rw [hj]; exact RD3.out.lt⟩
              · exact .inr ⟨by rw [hj]; exact Nat.le_trans HB12.out.size hB3le, by rw [hj]; exact hr3.lt⟩))
            have HW2 : Hid (W0.heap.size ≤ B2) := Nat.le_trans HA1.out.bel.size HLE2.out
            have HW3 : Hid (W0.heap.size ≤ B3) := Nat.le_trans (Nat.le_trans HA1.out.bel.size HB12.out.size) hB3le
            clear ht2 hb3 hb3' hr3 hb23 hB3le hn2' HD2 HSM T2 RL2
            go_wp2_with fail
            clear ST3 hB3 LD LC
            try go_at_call 17
            refine HSS.out.mono ?_
            rintro e x4 ⟨rfl, hb4⟩
            have A4 := Lib.hid (A3.out.beside hb4)
            have RD4 := Lib.hid (RD3.out.below hb4)
            have RC4 := Lib.hid (RL3.out.below hb4)
            have e3 : x4.cell? ⟨B3, 3, none⟩ = some (.int .i64 E) := RC4.out.cell 3 _ rfl
            have m1c := (HN.out x4 A4.out.bel).cell 1 _ rfl
            have m2c := (HN.out x4 A4.out.bel).cell 2 _ rfl
            have HD3 := Lib.hid (HC3.out x4 _ A4.out)
            clear hb4 HSS A3 RD3 RL3 HC3
            go_wp2_with fail
            clear e3 m1c m2c
            try go_at_call 15
            refine HD3.out.mono ?_
            rintro e x5 ⟨⟨v3, rfl, ht3⟩, hb5⟩
            obtain ⟨r3, c3, rfl, -⟩ := id ht3.at
            obtain ⟨n3', hn3'⟩ : ∃ n, ts'.length = n := ⟨_, rfl⟩
            rw [hn3'] at ht3 ⊢
            obtain ⟨y5, ST5, hr5, A5, hg5⟩ := over_logD (v := .slice r3 n3' c3) (a := ra') (q := rq'') (A4.out.beside hb5) (B := B2) (.inr (.inl rfl)) HW2.out (RD4.out.below hb5) rfl rfl
            have T5 := Lib.hid (ht3.grownC (RD4.out.below hb5) (by decide) (by decide) hg5)
            have RD5 := Lib.hid hr5
            have RC5 := Lib.hid ((RC4.out.below hb5).grown hg5 (by have := HNE.out; simpa using this))
            have HA5 := Lib.hid A5
            have m1c := (HN.out y5 A5.bel).cell 1 _ rfl
            have m2c := (HN.out y5 A5.bel).cell 2 _ rfl
            have HD4 := Lib.hid (HC4.out y5 _ A5)
            clear ht3 hb5 hr5 A5 hg5 hn3' HD3 HC4 RD4 RC4
            go_wp2_with fail
            clear ST5 m1c m2c
            try go_at_call 16
            refine HD4.out.mono ?_
            rintro e x6 ⟨⟨v4, rfl, ht4⟩, hb6⟩
            obtain ⟨r4, c4, rfl, -⟩ := id ht4.at
            obtain ⟨n4', hn4'⟩ : ∃ n, ts'.length = n := ⟨_, rfl⟩
            rw [hn4'] at ht4 ⊢
            obtain ⟨y6, ST6, hr6, A6, hg6⟩ := over_log (v := .slice r4 n4' c4) (a := ra') (q := rq'') (e := E') (HA5.out.beside hb6) (B := B3) (.inr (.inr rfl)) HW3.out (RC5.out.below hb6) rfl rfl
            have HSS := Lib.hid (HSM'.out y6 _ _ _ _ ((T5.out.below hb6).grownC (RC5.out.below hb6) (by decide) (by decide) hg6) (ht4.grownC (RC5.out.below hb6) (by decide) (by decide) hg6))
            have RD6 := Lib.hid ((RD5.out.below hb6).grown hg6 (by have := HNE.out; simpa using fun e => this e.symm))
            have RC6 := Lib.hid hr6
            have LD := load_logD RD6.out
            have LC := load_log RC6.out
            have HA6 := Lib.hid A6
            clear ht4 hb6 hr6 A6 hg6 hn4' HD4 HSM' RD5 RC5 T5
            go_wp2_with fail
            clear ST6 LD LC
            try go_at_call 17
            refine HSS.out.mono ?_
            rintro e x7 ⟨rfl, hb7⟩
            have e3 : x7.cell? ⟨B3, 3, none⟩ = some (.int .i64 E') := (RC6.out.below hb7).cell 3 _ rfl
            have HA7 := Lib.hid (OAt.less (HA6.out.beside hb7) (fun _ => False) (fun _ h => h.elim))
            have HP7 : Hid (S.Pq N (2 * (k + 1))) := HP.out.more (by omega)
            clear hb7 HSS
            go_wp2_with fail

            go_roundw
            case rel => first | exact ⟨k + 1, S, A, q, HLT.out, by go_num, rfl, rfl, HQ, HA7, HP7⟩ | ((repeat apply Exists.intro); exact ⟨⟨k + 1, S, A, q, HLT.out, by go_num, rfl, rfl, HQ, HA7, HP7⟩, rfl⟩)
            case measure => have := HLT.out; simp [intOf]; omega
        have gk1 : (kind == 1) = false := by simpa using hk1
        by_cases hk2 : kind = 2
        · subst hk2
          as_aux_lemma =>
            have HC1 := Lib.hid (crash_dev HA1.out HSL.out HBS.out HP.out HK2.out)
            go_wp2_with fail
            clear f0 f1 f3 f4 n1c n2c
            try go_at_call 18
            refine HC1.out.mono ?_
            rintro e x2 ⟨rfl, a2, hw2⟩
            have HR2 : Hid (RowC x2 Bx 37 [.int .i64 2, .int .i64 si, .slice pga m pgc, .slice pa P pcap, .bool false]) := (hw2 Bx HOX.out).trans HROW.out
            have HA2 := Lib.hid a2
            have f3 := HR2.out.cell 3 _ rfl
            have HP2 : Hid ((S.crash bs []).Pq N (2 * (k + 1))) := (HP.out.crash bs []).more (by omega)
            clear a2 hw2 HC1
            cases o with
            | none =>
              have HA3 : Hid (OAt W0 x2 none (S.crash bs []) (S.crash bs []) (fun _ => False)) := OAt.less (o := none) HA2.out (fun _ => False) (fun _ h => h.elim)
              unfold qv
              go_wp2_with fail
              go_roundw
              case rel => first | exact ⟨k + 1, S.crash bs [], A, q, HLT.out, by go_num, rfl, rfl, HQ, HA3, HP2⟩ | ((repeat apply Exists.intro); exact ⟨⟨k + 1, S.crash bs [], A, q, HLT.out, by go_num, rfl, rfl, HQ, HA3, HP2⟩, rfl⟩)
              case measure => have := HLT.out; simp [intOf]; omega
            | some p =>
              have HC2 := Lib.hid (crash_ref HA2.out HSL.out HBS.out HP.out HK2.out)
              unfold qv
              go_wp2_with fail
              try go_at_call 19
              refine HC2.out.mono ?_
              rintro e x3 ⟨rfl, a3, hw3⟩
              have HA3 : Hid (OAt W0 x3 (some p) (S.crash bs []) (S.crash bs []) (fun _ => False)) := OAt.less a3 (fun _ => False) (fun _ h => h.elim)
              clear a3 hw3 HC2
              go_wp2_with fail
              go_roundw
              case rel => first | exact ⟨k + 1, S.crash bs [], A, q, HLT.out, by go_num, rfl, rfl, HQ, HA3, HP2⟩ | ((repeat apply Exists.intro); exact ⟨⟨k + 1, S.crash bs [], A, q, HLT.out, by go_num, rfl, rfl, HQ, HA3, HP2⟩, rfl⟩)
              case measure => have := HLT.out; simp [intOf]; omega
        have gk2 : (kind == 2) = false := by simpa using hk2
        by_cases hk3 : kind = 3
        · subst hk3
          as_aux_lemma =>
            cases o with
            | none =>
              have HA3 : Hid (OAt W0 x1 none S S (fun _ => False)) := OAt.less HA1.out (fun _ => False) (fun _ h => h.elim)
              have HP2 : Hid (S.Pq N (2 * (k + 1))) := HP.out.more (by omega)
              unfold qv
              go_wp2_with fail
              go_roundw
              case rel => first | exact ⟨k + 1, S, A, q, HLT.out, by go_num, rfl, rfl, HQ, HA3, HP2⟩ | ((repeat apply Exists.intro); exact ⟨⟨k + 1, S, A, q, HLT.out, by go_num, rfl, rfl, HQ, HA3, HP2⟩, rfl⟩)
              case measure => have := HLT.out; simp [intOf]; omega
            | some p =>
              have hmx : Try.prog.follows .mixedOrders = true := by kernel_rfl
              obtain ⟨z, hz⟩ : ∃ z, si % 256 = z := ⟨_, rfl⟩
              have hzb : 0 ≤ z ∧ z < 256 := by omega
              have hblk : IsBlk (fillB z) := isBlk_fill z
              have HBA : BAt W0 x1 p S S own := HA1.out
              have HFIT := HP.out.fit HK2.out
              have HF255 := HP.out.few.mono (show 2 * k ≤ 255 by have := HK2.out; omega)
              have HWR : Hid (∀ y : Ext x1, Calls Try.prog 20 #[.pointer (some ⟨p.rb, 0, none⟩), .int .i64 0, .int .i64 si, .agg (fillB z).toArray] y.1 fun e w' => e = .returned (.int .i64 (S.writeE 0 si)) ∧ BAt W0 w' p (S.write 0 si (fillB z)) S own ∧ ∀ k, own k → w'.heap[k]? = y.1.heap[k]?) := fun y => (HBA.beside y.2).write HFIT HF255 0 si hblk
              have HWR2 : Hid (∀ (x : World), BAt W0 x p (S.write 0 si (fillB z)) S own → ∀ y : Ext x, Calls Try.prog 22 #[.pointer (some ⟨p.rq, 0, none⟩), .int .i64 0, .int .i64 si, .agg (fillB z).toArray] y.1 fun e w' => e = .returned (.int .i64 (S.writeE 0 si)) ∧ BAt W0 w' p (S.write 0 si (fillB z)) (S.write 0 si (fillB z)) own ∧ ∀ k, own k → w'.heap[k]? = y.1.heap[k]?) := fun x hx y => (hx.beside y.2).write2 HFIT HF255 0 si hblk
              have HFL : Hid (∀ x : World, Calls Try.prog 21 #[.int .u8 z] x fun e w' => e = .returned (.agg (fillB z).toArray) ∧ Below x.heap.size x w') := fun x => fill_any z x
              have HP2 : Hid ((S.write 0 si (fillB z)).Pq N (2 * (k + 1))) := HP.out.write HK2.out si hzb
              have C1 : ∀ y : Ext x1, y.1.cell? ⟨Bx, 1, none⟩ = some (.int .i64 si) := fun y => (HROW.out.below y.2).cell 1 _ rfl
              have HZ := Lib.hid hz
              clear hzb hblk HBA HFIT HF255
              unfold qv
              go_wp2_with fail
              clear f0 f1 f3 f4 n1c n2c
              refine region_plan (fun x => ∃ y : Ext x1, x = y.1) 7 (.takes [0, 1, 2, 3, 4, 5] (.one 6 .leaf)) hmx (by kernel_rfl) (by intro c x v a w h; cases x <;> exact h) ⟨⟨x1.drew, (Below.refl _ x1).drew⟩, rfl⟩ ?_
              repeat (rw [wpPlan_takes_cons]; simp only [nth_zero, nth_succ]; go_big_quiet_step (fail); refine wpQuiet_nil ?_)
              rw [wpPlan_takes_nil, wpPlan_one]
              simp only [nth_zero, nth_succ]
              clear C1
              obtain ⟨X, hX⟩ : ∃ X, x1.drew = X := ⟨_, rfl⟩
              have hbX : Below x1.heap.size x1 X := by rw [← hX]; exact (Below.refl _ x1).drew
              have HBX := Lib.hid hbX
              rw [hX]
              clear hX hbX
              have hz2 := HZ.out
              go_wp2_with fail
              try go_at_call 21
              refine (HFL.out _).mono ?_
              rintro e X2 ⟨rfl, hbf⟩
              have HBX2 : Hid (Below x1.heap.size x1 X2) := HBX.out.trans (hbf.mono HBX.out.size)
              clear hbf
              go_wp2_with fail
              refine planPost_mk ⟨⟨X2, HBX2.out⟩, rfl⟩ ?_
              rw [wpPlan_leaf]
              simp only [List.drop_succ_cons, List.drop_zero]
              go_wp2_with fail
              try go_at_call 20
              refine (HWR.out ⟨X2, HBX2.out⟩).mono ?_
              rintro e x2 ⟨rfl, a2, hw2⟩
              have HR2 : Hid (RowC x2 Bx 37 [.int .i64 3, .int .i64 si, .slice pga m pgc, .slice pa P pcap, .bool false]) := (hw2 Bx HOX.out).trans (HROW.out.below HBX2.out)
              have HA2 := Lib.hid a2
              have C1 : ∀ y : Ext x2, y.1.cell? ⟨Bx, 1, none⟩ = some (.int .i64 si) := fun y => (HR2.out.below y.2).cell 1 _ rfl
              clear a2 hw2 HWR hz2
              go_wp2_with fail
              refine region_plan (fun x => ∃ y : Ext x2, x = y.1) 7 (.takes [0, 1, 2, 3, 4, 5] (.one 6 .leaf)) hmx (by kernel_rfl) (by intro c x v a w h; cases x <;> exact h) ⟨⟨x2.drew, (Below.refl _ x2).drew⟩, rfl⟩ ?_
              repeat (rw [wpPlan_takes_cons]; simp only [nth_zero, nth_succ]; go_big_quiet_step (fail); refine wpQuiet_nil ?_)
              rw [wpPlan_takes_nil, wpPlan_one]
              simp only [nth_zero, nth_succ]
              clear C1
              obtain ⟨X3, hX3⟩ : ∃ X, x2.drew = X := ⟨_, rfl⟩
              have hbX3 : Below x2.heap.size x2 X3 := by rw [← hX3]; exact (Below.refl _ x2).drew
              have HBX3 := Lib.hid hbX3
              rw [hX3]
              clear hX3 hbX3
              have hz2 := HZ.out
              go_wp2_with fail
              try go_at_call 21
              refine (HFL.out _).mono ?_
              rintro e X4 ⟨rfl, hbf⟩
              have HBX4 : Hid (Below x2.heap.size x2 X4) := HBX3.out.trans (hbf.mono HBX3.out.size)
              clear hbf
              go_wp2_with fail
              refine planPost_mk ⟨⟨X4, HBX4.out⟩, rfl⟩ ?_
              rw [wpPlan_leaf]
              simp only [List.drop_succ_cons, List.drop_zero]
              go_wp2_with fail
              try go_at_call 22
              refine (HWR2.out x2 HA2.out ⟨X4, HBX4.out⟩).mono ?_
              rintro e x3 ⟨rfl, a3, hw3⟩
              have HA3 : Hid (OAt W0 x3 (some p) (S.write 0 si (fillB z)) (S.write 0 si (fillB z)) (fun _ => False)) := OAt.less (o := some p) a3 (fun _ => False) (fun _ h => h.elim)
              clear a3 hw3 HWR2 hz2
              go_wp2_with fail
              go_roundw
              case rel => first | exact ⟨k + 1, S.write 0 si (fillB z), A, q, HLT.out, by go_num, rfl, rfl, HQ, HA3, HP2⟩ | ((repeat apply Exists.intro); exact ⟨⟨k + 1, S.write 0 si (fillB z), A, q, HLT.out, by go_num, rfl, rfl, HQ, HA3, HP2⟩, rfl⟩)
              case measure => have := HLT.out; simp [intOf]; omega
        have gk3 : (kind == 3) = false := by simpa using hk3
        have HA3 := Lib.hid (OAt.less HA1.out (fun _ => False) (fun _ h => h.elim))
        have HP2 : Hid (S.Pq N (2 * (k + 1))) := HP.out.more (by omega)
        go_wp2_with fail

        go_roundw
        case rel => first | exact ⟨k + 1, S, A, q, HLT.out, by go_num, rfl, rfl, HQ, HA3, HP2⟩ | ((repeat apply Exists.intro); exact ⟨⟨k + 1, S, A, q, HLT.out, by go_num, rfl, rfl, HQ, HA3, HP2⟩, rfl⟩)
        case measure => have := HLT.out; simp [intOf]; omega
    · obtain rfl : L = k := by omega
      have g1 : decide ((L : Int) < (L : Int)) = false := by simp
      have HBz : Hid (Below W0.heap.size W0 wr) := HA.out.bel
      cases o with
      | none =>
        unfold qv rv
        go_wp2_with fail
        go_loopw [25] (fun iv wz => iv = .int .i64 0 ∧ wz = wr) (fun _ _ => 0)
        case atStart => exact ⟨rfl, rfl⟩
        case round =>
          obtain ⟨rfl, hwr⟩ := hrel
          subst hwr
          go_wp2_with fail
          try go_at_call 9
          refine (HW.out _).mono ?_
          rintro e yw ⟨rfl, hBw⟩
          have HBw : Hid (Below W0.heap.size W0 yw) := HBz.out.trans (hBw.mono HBz.out.size)
          clear hBw
          go_wp2_with fail
          go_ret
          exact ⟨rfl, HB0.out.trans (HBw.out.mono HB0.out.size)⟩
      | some p =>
        have HBA : Hid (BAt W0 wr p S S (fun _ => False)) := HA.out
        clear HA
        unfold qv rv
        obtain ⟨ss, hs1, hs2, hs3, hs4⟩ := HBA.out.disk0
        obtain ⟨wy, hwy⟩ : ∃ x, x = wr := ⟨_, rfl⟩
        subst hwy
        rw [HP.out.n0] at hs1
        have hq0 : wy.cell? ⟨p.rq, 0, none⟩ = some (.pointer (some ⟨p.q0, 0, none⟩)) := HBA.out.cell 0
        have Q0 : Hid (∀ x, Below wy.heap.size wy x → x.cell? ⟨p.rq, 0, none⟩ = some (.pointer (some ⟨p.q0, 0, none⟩)) ∧ x.cell? ⟨p.q0, 0, none⟩ = some (.slice (some ⟨ss, 0, none⟩) N N)) := fun x hx => ⟨(hx.cell (p := ⟨p.rq, 0, none⟩) HBA.out.rq_lt).trans hq0, (hx.cell (p := ⟨p.q0, 0, none⟩) hs2).trans hs1⟩
        have hN60 := HN6.out
        clear hs1 hs2 hs3 hs4 hq0
        go_wp2_with fail
        go_loopw [25] (fun iv wz => ∃ j : Nat, j ≤ N ∧ iv = .int .i64 (j : Int) ∧ Hid (Below wy.heap.size wy wz)) (fun iv _ => N - (intOf iv).toNat)
        case atStart => exact ⟨0, Nat.zero_le _, rfl, Below.refl _ _⟩
        case round =>
          obtain ⟨j, hj, rfl, HZ⟩ := hrel
          obtain ⟨q0c, q1c⟩ := Q0.out wr HZ.out
          have HBr : Hid (Below W0.heap.size W0 wr) := HBz.out.trans (HZ.out.mono HBz.out.size)
          by_cases hlt : j < N
          · have g2 : decide ((j : Int) < (N : Int)) = true := by simpa using hlt
            have hjn : j < S.n0 := by rw [HP.out.n0]; exact hlt
            obtain ⟨e1, e2⟩ := read_rd HP.out.bb HP.out.up.down hjn
            have HRD := Lib.hid ((HBA.out.beside HZ.out).read 0 (j : Int))
            rw [e1, e2] at HRD
            have hlk : S.look 0 (j : Int).toNat = u8s (S.rd j) := by
              show (if (0 : Int) = 0 then (S.D0 _).look else _) = _
              rw [if_pos rfl, Int.toNat_natCast]
              exact (HP.out.bb.byt j hjn).2.2
            have HR2 : Hid (∀ x, Below wy.heap.size wy x → Calls Try.prog 24 #[.pointer (some ⟨p.q0, 0, none⟩), .int .i64 (j : Int)] x fun e w' => e = .returned (.agg (u8s (S.rd j)).toArray) ∧ Below x.heap.size x w') := fun x hx => by
              obtain ⟨f, hf⟩ := (HBA.out.beside hx).ref
              have := hf.readOf (dev := 0) (i := (j : Int)) (RS.has0 hjn)
              rw [hlk] at this
              exact this
            have hblk : IsBlk (u8s (S.rd j)) := isBlk_u8s (HP.out.bb.byt j hjn).2.1
            have HBK := Lib.hid hblk
            have HLTJ := Lib.hid hlt
            obtain ⟨u, hu⟩ : ∃ u, u8s (S.rd j) = u := ⟨_, rfl⟩
            rw [hu] at HRD HR2 HBK
            clear hjn e1 e2 hlk hblk hu hlt
            go_wp2_with fail
            clear q0c q1c
            try go_at_call 23
            refine HRD.out.mono ?_
            rintro e x1 ⟨rfl, hb1⟩
            obtain ⟨x2, ST2, hr2, hb2⟩ := new_blk x1 HBK.out
            have b2 : Below wr.heap.size wr x2 := hb1.trans (hb2.mono hb1.size)
            have HZ2 : Hid (Below wy.heap.size wy x2) := HZ.out.trans (b2.mono HZ.out.size)
            have C0 : ∀ y : Ext x2, y.1.cell? ⟨p.rq, 0, none⟩ = some (.pointer (some ⟨p.q0, 0, none⟩)) := fun y => (Q0.out y.1 (HZ2.out.trans (y.2.mono HZ2.out.size))).1
            have C1 : ∀ y : Ext x2, (loadVar 59 ⟨x1.heap.size, 0, none⟩).run Try.prog y.1 = .ok (.agg u.toArray) y.1 := fun y => (hr2.below y.2).blk HBK.out.length
            have C2 : ∀ y : Ext x2, (Op.equalIn 10000 59 (.agg u.toArray) (.agg u.toArray)).run Try.prog y.1 = .ok true y.1 := fun y => by have := eq_blk HBK.out HBK.out y.1; rw [alike_self] at this; exact this
            have C3 : Hid (∀ y : Ext x2, Calls Try.prog 24 #[.pointer (some ⟨p.q0, 0, none⟩), .int .i64 (j : Int)] y.1 fun e w'' => e = .returned (.agg u.toArray) ∧ ∃ z : Ext x2, w'' = z.1) := fun y => calls_ext y (HR2.out y.1 (HZ2.out.trans (y.2.mono HZ2.out.size)))
            clear hb1 hr2 hb2 b2 HRD HR2
            go_wp2_with fail
            clear ST2
            refine region_ext (by kernel_rfl) (by kernel_rfl) ?_
            repeat (go_big_quiet_step (with_reducible (first | exact C3.out _)))
            refine wpQuiet_nil ?_
            intro z
            have HZ3 : Hid (Below wy.heap.size wy z.1) := HZ2.out.trans (z.2.mono HZ2.out.size)
            clear C0 C1 C2 C3
            go_wp2_with fail
            go_roundw
            case rel => exact ⟨j + 1, HLTJ.out, by go_num, HZ3⟩
            case measure => have := HLTJ.out; simp [intOf]; omega
          · have g2 : decide ((j : Int) < (N : Int)) = false := by simpa using hlt
            go_wp2_with fail
            try go_at_call 9
            refine (HW.out _).mono ?_
            rintro e yw ⟨rfl, hBw⟩
            have HBw : Hid (Below W0.heap.size W0 yw) := HBr.out.trans (hBw.mono HBr.out.size)
            clear hBw
            go_wp2_with fail
            go_ret
            exact ⟨rfl, HB0.out.trans (HBw.out.mono HB0.out.size)⟩

set_option maxRecDepth 100000 in
theorem lifted (os : Os) (started : os.Started) (H : Type) (enc : TypeId × Value → H) :
    ReturnsInHanded {} Try.checked os 3 .any (Rows.ringPlaysSpec.pre6 enc Try.prog Try.f3 Rows.ringPlaysRow.domain false) (Rows.ringPlaysSpec.post enc Try.prog Try.f3 false true false false) := by
  refine returnsInHanded_of_change (C := Try.checked) own started (by kernel_rfl) Try.func3
    (ChangeSpec.witness6 (enc := enc) (C := Try.checked) false ⟨#[], #[.agg #[.int .i64 0, .int .i64 0, .int .i64 0], .slice none 0 0], []⟩ 8 (by kernel_rfl) (by kernel_rfl) (by kernel_rfl) (by kernel_rfl)) ?_
  intro W base args ds gs before hval0 hW hcnd _
  have hval : ∀ (j : Nat) t v, Try.f3.params[j]? = some t → args[j]? = some v → Value.okWide Try.prog W .any base t v := hval0
  have hW' := hW
  obtain ⟨p, q, hA0, hV, rfl, hfz, hnd⟩ := hW
  have hA : DataW.TrodAll enc Try.prog W 0 (fun _ => true) true Try.f3.params.toList args.toList ds p := hA0
  rw [Try.params3] at hA hval
  obtain ⟨v0, vs0, d0, ds0, p0, q0, hargs, rfl, rfl, h0, r0⟩ := trodAll_cons hA
  obtain ⟨v1, vs1, d1, ds1, p1, q1, rfl, rfl, rfl, h1, r1⟩ := trodAll_cons r0
  obtain ⟨rfl, rfl, rfl⟩ := trodAll_nil r1
  obtain rfl : args = #[v0, v1] := by cases args; simp_all
  obtain ⟨rfl, rfl⟩ := trodVars_none hV
  have lt0 : ∀ x ∈ p0, x.block < W.heap.size := by obtain ⟨m, hm⟩ := h0; exact DataW.trod_lt m _ _ _ hm
  have a0 := Arg.mk (hval 0 22 v0 rfl rfl) h0
  have lt1 : ∀ x ∈ p1, x.block < W.heap.size := by obtain ⟨m, hm⟩ := h1; exact DataW.trod_lt m _ _ _ hm
  have a1 := Arg.mk (hval 1 23 v1 rfl rfl) h1
  clear hA0 hval0
  refine (walk v0 v1 W a0 a1).mono fun e W' ⟨he, bel⟩ => ?_
  subst he
  exact ⟨_, rfl, _, _, _, [], _, [], hW', trodAll_mk1 (shut_bool Try.underlying4 _), (trodAll_cons_mk (Below.trod laidOut (by kernel_rfl) (of_decide_eq_true (by kernel_rfl)) h0 bel lt0) (trodAll_cons_mk (Below.trod laidOut (by kernel_rfl) (of_decide_eq_true (by kernel_rfl)) h1 bel lt1) trodAll_mk0)), rfl, bel.frame _, fun h => by cases h⟩

set_option maxRecDepth 100000 in
theorem over : Rows.ringPlaysRow.holds Try.pinned (OpenSpec.ofChange Rows.ringPlaysSpec) :=
  OpenClaim.holds_of_wide 3 Try.f3 rfl rfl rfl rfl rfl rfl rfl ⟨rfl, rfl, rfl, rfl, rfl⟩ rfl rfl rfl rfl rfl (by kernel_rfl) Try.func3 (by kernel_rfl)
    (of_decide_eq_true (by kernel_rfl)) (by unfold Func.isWrapper; first | (rw [if_pos (by decide +kernel)]; kernel_rfl) | (rw [if_neg (by decide +kernel)]; exact ⟨rfl, rfl⟩))
    (fun os started H enc _ => lifted os started H enc)

theorem proved : Rows.RingPlaysSaid := over
#print axioms proved
end Go.Proofs.Ytfmgaakbfphpbaa.ringPlays
