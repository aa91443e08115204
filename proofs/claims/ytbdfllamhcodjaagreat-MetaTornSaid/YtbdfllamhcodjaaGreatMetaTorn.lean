/- After a crash at any write or flush of a commit or its checkpoint, Open tells the bytes from before that commit or those of it, again and again (P8.4). -/
import Derived.Test.YtbdfllamhcodjaaGreatH7
namespace Go.Proofs.YtbdfllamhcodjaaGreat.metaTorn
open Go.ChangeShapes Go.WideShapes Go.ChangeAt Go.RowKit
set_option linter.unusedVariables false
attribute [-simp] Tryz.isAgg23 Tryz.zeroValue23 Tryz.isAgg60 Tryz.zeroValue60 Tryz.isAgg39 Tryz.zeroValue39
attribute [-go_sem] loadVar storeVar run_equalIn_agg
attribute [local go_sem] loadVar_openM storeVar_openM zero_geo build_geo0 zero_szs zero_blk build_blk

set_option maxRecDepth 100000 in
set_option maxHeartbeats 20000000 in
theorem walk (v0 v1 : Value) (w : World) (w0 : Arg w 23 v0) (w1 : Arg w 81 v1) :
    Calls Tryz.prog 4 #[v0, v1] w fun e w' => e = .returned (.bool true) ∧ Below w.heap.size w w' := by
  obtain ⟨g, hin, rfl⟩ := w0.geo
  obtain ⟨l, hL⟩ := w1.tns
  have hmx : Tryz.prog.follows .mixedOrders = true := by kernel_rfl
  obtain ⟨a, cap, rfl, hcap, hcm, -⟩ := id hL
  obtain ⟨len, hlen⟩ : ∃ n, l.length = n := ⟨_, rfl⟩
  have HLEN := Lib.hid hlen
  rw [hlen] at hL ⊢
  have HL := Lib.hid hL
  have HK := Lib.hid metaOk
  have HW := Lib.hid (metaWakes metaOk)
  have HIN := Lib.hid hin
  obtain ⟨W, hW⟩ : ∃ W, w.alloc (.cells g.v 23) = W := ⟨_, rfl⟩
  have r0 : RowC W w.heap.size 23 g.cs := by rw [← hW]; exact RowC.new w _ _
  have HB0 : Hid (Below w.heap.size w W) := by show Below _ _ _; rw [← hW]; exact below_new w _
  obtain ⟨B, hB⟩ : ∃ b, w.heap.size = b := ⟨_, rfl⟩
  rw [hB] at r0
  have HR0 := Lib.hid r0
  have LG0 : (loadVar 23 ⟨B, 0, none⟩).run Tryz.prog W = .ok (.agg g.v) W := load_geo r0
  clear w0 w1 r0 hin hL hcap hcm hlen
  by_cases hl : 30 < len
  · have g1 : decide ((30 : Int) < (len : Int)) = true := by simp; omega
    clear hl LG0
    go_enter Tryz.func4, Tryz.ntmps4
    have HX0 : Hid (Below W.heap.size W W) := Below.refl _ _
    go_wp2_with fail
    refine (HW.out _).mono ?_
    rintro e xz ⟨rfl, hx⟩
    have HXZ : Hid (Below w.heap.size w xz) := HB0.out.trans ((HX0.out.trans (hx.mono HX0.out.size)).mono HB0.out.size)
    clear hx
    go_wp2_with fail
    go_ret
    first | exact ⟨rfl, HXZ.out⟩ | exact ⟨rfl, by rw [← hB]; exact HXZ.out⟩
  · have g1 : decide ((30 : Int) < (len : Int)) = false := by simp; omega
    have HLlen : Hid (len ≤ 30) := by show _ ≤ _; omega
    clear hl
    have hlt := lawLight g W
    by_cases hg : g.light
    · rw [decide_eq_true hg] at hlt
      have HLT := Lib.hid hg
      have HGD := Lib.hid (fun x => refGood7 g x)
      clear hg
      by_cases hgd : g.good
      · rw [decide_eq_true hgd] at HGD
        have HGO := Lib.hid hgd
        clear hgd
        go_enter Tryz.func4, Tryz.ntmps4
        go_wp2_with fail
        refine hlt.mono ?_
        rintro e x1 ⟨rfl, hx⟩
        have HX1 : Hid (Below W.heap.size W x1) := hx
        have L1 := load_geo (HR0.out.below hx)
        clear hx hlt LG0
        go_wp2_with fail
        refine (HGD.out _).mono ?_
        rintro e x2 ⟨rfl, hx⟩
        have HX2 : Hid (Below W.heap.size W x2) := HX1.out.trans (hx.mono HX1.out.size)
        clear hx L1 HGD
        have L2 := load_geo (HR0.out.below HX2.out)
        have hN := Geo.nats HGO.out
        obtain ⟨o1, o2, o3, o4, o5, o6, o7, o8, hszl, -, -, ho1, -, -, -, ho7, ho8⟩ := g.szl_eq
        have hoF : o7 = ((2 + g.C + g.P + g.slots.toNat : Nat) : Int) := by rw [ho7]; have := hN.f; have := hN.s1; omega
        have hoW : o8 = ((g.b + g.a).toNat : Int) := by
          rw [ho8]
          have h := HGO.out.1
          have e : g.oW = g.b + g.a := if_pos HGO.out
          have := h.1
          have := h.2.2.2.2.2.2.1
          omega
        obtain ⟨nf, hnf⟩ : ∃ n : Nat, 2 + g.C + g.P + g.slots.toNat = n := ⟨_, rfl⟩
        obtain ⟨nw, hnw⟩ : ∃ n : Nat, (g.b + g.a).toNat = n := ⟨_, rfl⟩
        rw [hnf] at hoF
        rw [hnw] at hoW
        have hfb : 1 ≤ nf ∧ nf ≤ 4096 := by have := hN.c2; have := hN.p2; have := (Geo.bounds HGO.out.1).2.1; omega
        have hwb : 1 ≤ nw ∧ nw ≤ 4096 := by have h := HGO.out.1; have := h.1; have := h.2.1; have := h.2.2.2.2.2.2.1; have := h.2.2.2.2.2.2.2; omega
        obtain ⟨nb, hnb⟩ : ∃ n : Nat, g.bts.toNat = n := ⟨_, rfl⟩
        have hob : o1 = (nb : Int) := by rw [ho1, ← hnb]; show (if g.good then g.bts else 0) = _; rw [if_pos HGO.out, hN.b]
        have HNB := Lib.hid hnb
        have HNB2 : Hid (nb ≤ 714) := by show _ ≤ _; rw [← hnb]; exact hN.b2
        have HOF : Hid (g.oF = (nf : Int)) := by show _ = _; rw [← ho7, hoF]
        have HOW : Hid (g.oW = (nw : Int)) := by show _ = _; rw [← ho8, hoW]
        have HFB := Lib.hid hfb
        have HWB := Lib.hid hwb
        have HN := Lib.hid hN
        rw [hob, hoF, hoW] at hszl
        clear hoF hoW hfb hwb hN hnf hnw ho1 ho7 ho8 hob hnb
        go_wp2_with fail
        refine (refOf g _).mono ?_
        rintro e x3 ⟨rfl, hx⟩
        rw [hszl]
        have HX3 : Hid (Below W.heap.size W x3) := HX2.out.trans (hx.mono HX2.out.size)
        obtain ⟨x4, ST, hz, hx4⟩ := new_szs x3 (nb : Int) o2 o3 o4 o5 o6 (nf : Int) (nw : Int)
        have HX4 : Hid (Below W.heap.size W x4) := HX3.out.trans (hx4.mono HX3.out.size)
        have hZB : B < x3.heap.size := (HR0.out.below HX3.out).lt
        obtain ⟨Z, hZ⟩ : ∃ b, x3.heap.size = b := ⟨_, rfl⟩
        rw [hZ] at ST hz hZB
        have HZB := Lib.hid hZB
        have HZ4 := Lib.hid hz
        have c6 : x4.cell? ⟨Z, 6, none⟩ = some (.int .i64 (nf : Int)) := hz.cell 6 _ rfl
        have c7 : x4.cell? ⟨Z, 7, none⟩ = some (.int .i64 (nw : Int)) := hz.cell 7 _ rfl
        clear hx hszl L2 hx4 hz hZB
        go_wp2_with fail
        have hnew := RAt.new nf nw w x4 (HB0.out.trans (HX4.out.mono HB0.out.size)) HFB.out.1 HFB.out.2 HWB.out.1 HWB.out.2 (fun k => k = B ∨ k = Z) (fun k hk => by
          rcases hk with rfl | rfl
          · exact (HR0.out.below HX4.out).lt
          · exact HZ4.out.lt)
        refine hnew.mono ?_
        rintro e x5 ⟨rb, p0, p1, rfl, hR5, hx⟩
        have HX5 : Hid (Below W.heap.size W x5) := HX4.out.trans (hx.mono HX4.out.size)
        have HR5 := Lib.hid hR5
        have HRB5 : Hid (RowC x5 B 23 g.cs) := HR0.out.below HX5.out
        have HRZ5 : Hid (RowC x5 Z 39 (szL (nb : Int) o2 o3 o4 o5 o6 (nf : Int) (nw : Int))) := HZ4.out.below hx
        clear hnew hx hR5 c6 c7 ST
        go_wp2_with fail
        have LG : ∀ z : Keep2 B Z x5, (loadVar 23 ⟨B, 0, none⟩).run Tryz.prog z.1 = .ok (.agg g.v) z.1 := fun z => load_geo (z.2.1.trans HRB5.out)
        have LZ : ∀ z : Keep2 B Z x5, z.1.cell? ⟨Z, 0, none⟩ = some (.int .i64 (nb : Int)) := fun z => RowC.cell (z.2.2.trans HRZ5.out) 0 _ rfl
        obtain ⟨D2, hD2⟩ : ∃ X, x5.drew = X := ⟨_, rfl⟩
        have HD2 : Hid (Below x5.heap.size x5 D2) := by show Below _ _ _; rw [← hD2]; exact (Below.refl _ x5).drew
        have HQD2 : Hid (D2.heap[B]? = x5.heap[B]? ∧ D2.heap[Z]? = x5.heap[Z]?) := by show _ ∧ _; rw [← hD2]; exact ⟨rfl, rfl⟩
        refine region_plan (fun u => ∃ y : Keep2 B Z x5, u = y.1) 10 (.takes [0, 1, 2, 3] (.one 4 (.one 5 (.takes [6, 7, 9, 8] .leaf)))) hmx (by kernel_rfl) (by intro c x v a w h; cases x <;> exact h) ⟨⟨x5.drew, rfl, rfl⟩, rfl⟩ ?_
        rw [hD2]
        clear hD2
        repeat (rw [wpPlan_takes_cons]; simp only [nth_zero, nth_succ]; go_big_quiet_step (fail); refine wpQuiet_nil ?_)
        rw [wpPlan_takes_nil, wpPlan_one]
        simp only [nth_zero, nth_succ]
        clear LG LZ
        obtain ⟨x7, hmk, hs7, hg7, -⟩ := make_zeros D2 nb (by have := HNB2.out; omega)
        have HMK := Lib.hid hmk
        have hx67 : Below D2.heap.size D2 x7 := (Below.refl _ _).grown hg7 (Nat.le_refl _) (fun k e => by cases e)
        have HQ7 : Hid (x7.heap[B]? = x5.heap[B]? ∧ x7.heap[Z]? = x5.heap[Z]?) := ⟨(hx67.block B (Nat.lt_of_lt_of_le HRB5.out.lt HD2.out.size)).trans HQD2.out.1, (hx67.block Z (Nat.lt_of_lt_of_le HRZ5.out.lt HD2.out.size)).trans HQD2.out.2⟩
        refine wpList_make_run _ _ _ rfl rfl _ _ _ rfl rfl HMK.out ?_
        refine wpList_nil ?_
        refine planPost_mk ⟨⟨x7, HQ7.out⟩, rfl⟩ ?_
        rw [wpPlan_one]
        simp only [nth_zero, nth_succ]
        go_wp2_with fail
        have hR7 : RAt w x7 rb p0 p1 (newS nf nw) (Plus (fun k => k = B ∨ k = Z) D2 x7) := AtR.plus (RigR.isRes _ _ _ _) (RAt.beside HR5.out HD2.out) hx67
        have hK7 : KeptV (Plus (fun k => k = B ∨ k = Z) D2 x7) x7 (.slice (some ⟨D2.heap.size, 0, none⟩) nb nb) (List.replicate nb 0) := KeptV.new hs7 (zeros_bytes nb) fun b off len cap e => by cases e; exact Nat.le_refl _
        have hfm := RAt.format HK.out hR7 (newS_rdy HFB.out.2 HWB.out.2) (newS_up _ _) HIN.out HGO.out (by rw [HOF.out]; exact Int.le_refl _) (by rw [HOW.out]; exact Int.le_refl _) hK7 (by rw [List.length_replicate, HNB.out])
        clear hmk hs7 hg7 hx67
        refine hfm.mono ?_
        rintro e x8 ⟨m0, rfl, hM8, hk8, hsz8⟩
        have HS8 := Lib.hid (Sit.fmt (b := List.replicate nb 0) HFB.out.2 HWB.out.2 HGO.out (by rw [HOF.out]; exact Int.le_refl _) (by rw [HOW.out]; exact Int.le_refl _) (by rw [List.length_replicate, HNB.out]) (zeros_bytes nb))
        have HM8 : Hid (MAt theRes w x8 rb p0 p1 m0 ((newS nf nw).bat (fmtB g (List.replicate nb 0))).1 (MS.new g (List.replicate nb 0)) (fun k => k = B)) := hM8.less _ fun k hk => .inl (.inl hk)
        have HQ8 : Hid (x8.heap[B]? = x5.heap[B]? ∧ x8.heap[Z]? = x5.heap[Z]?) := ⟨(hk8 B (.inl (.inl rfl))).trans HQ7.out.1, (hk8 Z (.inl (.inr rfl))).trans HQ7.out.2⟩
        have HRB8 : Hid (RowC x8 B 23 g.cs) := HQ8.out.1.trans HRB5.out
        have HRZ8 : Hid (RowC x8 Z 39 (szL (nb : Int) o2 o3 o4 o5 o6 (nf : Int) (nw : Int))) := HQ8.out.2.trans HRZ5.out
        clear hfm hR7 hK7 hM8 hk8 hsz8
        go_wp2_with fail
        refine planPost_mk ⟨⟨x8, HQ8.out⟩, rfl⟩ ?_
        repeat (rw [wpPlan_takes_cons]; simp only [nth_zero, nth_succ]; go_big_quiet_step (fail); refine wpQuiet_nil ?_)
        rw [wpPlan_takes_nil, wpPlan_leaf]
        simp only [List.drop_succ_cons, List.drop_zero]
        obtain ⟨S0, hS0⟩ : ∃ S, ((newS nf nw).bat (fmtB g (List.replicate nb 0))).1 = S := ⟨_, rfl⟩
        obtain ⟨M0, hM0⟩ : ∃ M, MS.new g (List.replicate nb 0) = M := ⟨_, rfl⟩
        have HG0 : Hid (M0.g = g ∧ M0.b = List.replicate nb 0) := by show _ ∧ _; rw [← hM0]; exact ⟨rfl, rfl⟩
        rw [hS0, hM0] at HS8 HM8
        clear hS0 hM0
        have c0 : x8.cell? ⟨Z, 0, none⟩ = some (.int .i64 (nb : Int)) := HRZ8.out.cell 0 _ rfl
        obtain ⟨x9, hmk, hs9, hg9, -⟩ := make_zeros x8 nb (by have := HNB2.out; omega)
        have HMK9 := Lib.hid hmk
        have hx89 : Below x8.heap.size x8 x9 := (Below.refl _ _).grown hg9 (Nat.le_refl _) (fun k e => by cases e)
        have HM9 : Hid (MAt theRes w x9 rb p0 p1 m0 S0 M0 (Plus (fun k => k = B) x8 x9)) := AtR.plus (theRes.both _ _ _ _ _ _) HM8.out hx89
        have HK9 : Hid (KeptV (Plus (fun k => k = B) x8 x9) x9 (.slice (some ⟨x8.heap.size, 0, none⟩) nb nb) M0.b) := by
          show KeptV _ _ _ _
          rw [HG0.out.2]
          exact KeptV.new hs9 (zeros_bytes nb) fun b off len cap e => by cases e; exact Nat.le_refl _
        have HRB9 : Hid (RowC x9 B 23 g.cs) := HRB8.out.below hx89
        obtain ⟨vn0, hvn0⟩ : ∃ v, Value.slice (some ⟨x8.heap.size, 0, none⟩) nb nb = v := ⟨_, rfl⟩
        rw [hvn0] at HMK9 HK9
        have HLL := HLlen
        clear HLlen hmk hs9 hg9 hx89 hvn0
        go_wp2_with ((with_reducible refine gate_make ?_); refine wpList_make_run _ _ _ rfl rfl _ _ _ rfl rfl HMK9.out ?_)
        go_loopw [8, 10, 11] (fun mp vn i wr => ∃ k : Nat, k ≤ len ∧ i = .int .i64 k ∧ Hid (TornI theRes g B rb p0 p1 w wr k mp vn)) (fun mp vn i _ => len - (intOf i).toNat)
        case atStart => exact ⟨0, Nat.zero_le _, rfl, m0, S0, M0, _, rfl, .inl rfl, HM9.out, HK9.out, HRB9.out, HS8.out, HG0.out.1⟩
        case round =>
          obtain ⟨k, hk, rfl, HTI⟩ := hrel
          obtain ⟨vn, rfl⟩ : ∃ v, v = u10 := ⟨_, rfl⟩
          obtain ⟨m, S, M, own, rfl, hoB, hM, hvn, hrb, hSi, hMg⟩ := HTI.out
          have HM := Lib.hid hM
          have HSI := Lib.hid hSi
          have HMG := Lib.hid hMg
          have HVNR := Lib.hid hvn
          have HRBR := Lib.hid hrb
          have HOBR := Lib.hid hoB
          clear HTI hM hSi hMg hvn hrb hoB
          by_cases hlt : k < len
          · have g1 : decide ((k : Int) < (len : Int)) = true := by simp; omega
            obtain ⟨s, hsk⟩ : ∃ s, l[k]? = some s := ⟨_, List.getElem?_eq_getElem (by rw [HLEN.out]; exact hlt)⟩
            obtain ⟨bT, offT, rfl, hok, hbT, hta⟩ := Tns.open HL.out HLEN.out hsk
            have HOK := Lib.hid hok
            have HBT := Lib.hid hbT
            have HTA := Lib.hid hta
            have HLT2 := Lib.hid hlt
            have HKL : Hid (k ≤ 30) := by show _ ≤ _; have := HLL.out; omega
            obtain ⟨pa, pc, etv, -⟩ := id hok.turn
            have hta1 := hta.below hbT HM.out.bel
            have cT : wr.cell? ⟨bT, offT + k * 3, none⟩ = some (.slice pa s.ps.length pc) := by rw [← etv]; exact hta1.c0
            have cP : wr.cell? ⟨bT, offT + k * 3 + 2, none⟩ = some (.slice s.p0 s.b0.length s.cap0) := hta1.c2
            have cA : wr.cell? ⟨bT, offT + k * 3 + 1, none⟩ = some (.int .i64 s.at_) := hta1.c1
            have HETV := Lib.hid etv
            clear hok hbT hta hta1 etv hlt hk
            by_cases hbig : 50 < s.ps.length
            · have g2 : decide ((50 : Int) < (s.ps.length : Int)) = true := by simp; omega
              clear hbig
              go_wp2_with fail
              refine (HW.out _).mono ?_
              rintro e xz ⟨rfl, hx⟩
              have HXZ : Hid (Below w.heap.size w xz) := HM.out.bel.trans (hx.mono HM.out.size)
              clear hx
              go_wp2_with fail
              go_ret
              first | exact ⟨rfl, HXZ.out⟩ | exact ⟨rfl, by rw [← hB]; exact HXZ.out⟩
            · have g2 : decide ((50 : Int) < (s.ps.length : Int)) = false := by simp; omega
              clear hbig
              by_cases hbig : 200 < s.b0.length
              · have g3 : decide ((200 : Int) < (s.b0.length : Int)) = true := by simp; omega
                clear hbig
                go_wp2_with fail
                refine (HW.out _).mono ?_
                rintro e xz ⟨rfl, hx⟩
                have HXZ : Hid (Below w.heap.size w xz) := HM.out.bel.trans (hx.mono HM.out.size)
                clear hx
                go_wp2_with fail
                go_ret
                first | exact ⟨rfl, HXZ.out⟩ | exact ⟨rfl, by rw [← hB]; exact HXZ.out⟩
              · have g3 : decide ((200 : Int) < (s.b0.length : Int)) = false := by simp; omega
                have HPK : Hid (s.b0.length ≤ 200) := by show _ ≤ _; omega
                clear hbig
                go_wp2_with fail
                have hpr : Prs wr (.slice pa s.ps.length pc) s.ps := by have := HOK.out.turn.below HM.out.bel; rwa [HETV.out] at this
                refine (lawTurned vn _ M.b s.ps wr HVNR.out.sl HSI.out.bytes hpr (by have := HSI.out.len; omega)).mono ?_
                rintro e y1 ⟨vt, rfl, hst, hft, hy⟩
                have HM1 : Hid (MAt theRes w y1 rb p0 p1 m S M (Plus own wr y1)) := AtR.plus (theRes.both _ _ _ _ _ _) HM.out hy
                have HVT1 : Hid (KeptV (Plus own wr y1) y1 vt (turnL M.b s.ps)) := KeptV.new hst (turnL_bytes _ _ HSI.out.bytes) hft
                have HVN1 : Hid (KeptV (Plus own wr y1) y1 vn M.b) := (HVNR.out.below hy).more fun k hk => .inl hk
                have HRB1 : Hid (RowC y1 B 23 g.cs) := HRBR.out.below hy
                obtain ⟨o1, ho1⟩ : ∃ o, Plus own wr y1 = o := ⟨_, rfl⟩
                have HOB1 : Hid (o1 B) := by show o1 B; rw [← ho1]; exact .inl HOBR.out
                rw [ho1] at HM1 HVT1 HVN1
                have cA1 : y1.cell? ⟨bT, offT + k * 3 + 1, none⟩ = some (.int .i64 s.at_) := (HTA.out.below HBT.out HM1.out.bel).c1
                clear hpr hst hft hy ho1 cT cP cA
                by_cases hc1 : 0 ≤ s.at_
                · have q1 : decide (0 ≤ s.at_) = true := by simpa using hc1
                  have q1' : decide (s.at_ ≥ 0) = true := q1
                  by_cases hc2 : s.at_ < 40
                  · have q2 : decide (s.at_ < 40) = true := by simpa using hc2
                    have HA40 : Hid (s.at_ < 40) := hc2
                    go_wp2_with fail
                    clear cA1 hc1 hc2 q1 q1' q2
                    have cA : y1.cell? ⟨bT, offT + k * 3 + 1, none⟩ = some (.int .i64 s.at_) := (HTA.out.below HBT.out HM1.out.bel).c1
                    go_wp2_with fail
                    have har := MAt.arm HM1.out s.at_
                    refine har.mono ?_
                    rintro e ya ⟨rfl, hMa, hka⟩
                    have HMA := Lib.hid hMa
                    have HVTA : Hid (KeptV o1 ya vt (turnL M.b s.ps)) := HVT1.out.overA hMa hka
                    have HVNA : Hid (KeptV o1 ya vn M.b) := HVN1.out.overA hMa hka
                    have HRBA : Hid (RowC ya B 23 g.cs) := rowC_over HRB1.out HOB1.out hka
                    clear har hMa hka cA
                    obtain ⟨vc, yc, HAC, HKC, HBC⟩ := copy_kept (W := ya) (v := vt) (bs := turnL M.b s.ps) HVTA.out.sl (turnL_bytes _ _ HSI.out.bytes) (by rw [turnL_length]; have := HSI.out.len; omega) o1
                    have HMC : Hid (MAt theRes w yc rb p0 p1 m { S with fuse := s.at_ } M (Plus o1 ya yc)) := AtR.plus (theRes.both _ _ _ _ _ _) HMA.out HBC.out
                    have HVTC : Hid (KeptV (Plus o1 ya yc) yc vt (turnL M.b s.ps)) := (HVTA.out.below HBC.out).more fun k hk => .inl hk
                    have HVNC : Hid (KeptV (Plus o1 ya yc) yc vn M.b) := (HVNA.out.below HBC.out).more fun k hk => .inl hk
                    have HRBC : Hid (RowC yc B 23 g.cs) := HRBA.out.below HBC.out
                    obtain ⟨o3, ho3⟩ : ∃ o, Plus o1 ya yc = o := ⟨_, rfl⟩
                    have HOB3 : Hid (o3 B) := by show o3 B; rw [← ho3]; exact .inl HOB1.out
                    rw [ho3] at HMC HVTC HVNC HKC
                    clear ho3
                    go_wp2_with (at_builtin; refine wpList_append_run (.tmp 117) (.tmp 118) 37 rfl rfl _ _ _ rfl rfl HAC.out ?_)
                    obtain ⟨T, E, hcm, hE, hTF, hRdy, -⟩ := HSI.out.cut (b := turnL M.b s.ps) (by have := HKL.out; omega) (turnL_length _ _) (turnL_bytes _ _ HSI.out.bytes) s.at_ (by have := HA40.out; omega) [] []
                    have HCUT : Hid (∀ b0 b1, ∃ M', Sit (T.crash b0 b1) M' (k + 1) ∧ M'.g = M.g ∧ (M'.b = M.b ∨ M'.b = turnL M.b s.ps) ∧ (E = 0 → M'.b = turnL M.b s.ps)) := fun b0 b1 => by
                      obtain ⟨T', E', hcm', -, -, -, hh⟩ := HSI.out.cut (b := turnL M.b s.ps) (by have := HKL.out; omega) (turnL_length _ _) (turnL_bytes _ _ HSI.out.bytes) s.at_ (by have := HA40.out; omega) b0 b1
                      rw [hcm] at hcm'
                      cases hcm'
                      exact hh
                    have HTF := Lib.hid hTF
                    have hcall := MAt.commit HK.out HMC.out hRdy HSI.out.up.down (MS.Ok.fuse (HSI.out.ok (by have := HKL.out; omega))) HKC.out (turnL_length _ _) hcm
                    refine hcall.mono ?_
                    rintro e y3 ⟨rfl, -, hR3, hk3, hs3⟩
                    have HR3 := Lib.hid hR3
                    have HVT3 : Hid (KeptV o3 y3 vt (turnL M.b s.ps)) := HVTC.out.over hs3 hk3
                    have HVN3 : Hid (KeptV o3 y3 vn M.b) := HVNC.out.over hs3 hk3
                    have HRB3 : Hid (RowC y3 B 23 g.cs) := rowC_over HRBC.out HOB3.out hk3
                    clear hcall hR3 hk3 hs3 hcm hTF hRdy
                    rcases hE with rfl | rfl
                    · obtain ⟨vp, y4, HAP, HKP, HBP⟩ := copy_kept (W := y3) (v := s.pick) (bs := s.b0) (HOK.out.pick.below HR3.out.bel) HOK.out.bytes (by have := HPK.out; omega) o3
                      have cP : (y3.alloc (.cells #[] 5)).cell? ⟨bT, offT + k * 3 + 2, none⟩ = some s.pick := (HTA.out.below HBT.out (HR3.out.bel.alloc HR3.out.size _)).c2
                      have HR4 : Hid (RAt w y4 rb p0 p1 T (Plus o3 y3 y4)) := AtR.plus (RigR.isRes _ _ _ _) HR3.out HBP.out
                      have HVT4 : Hid (KeptV (Plus o3 y3 y4) y4 vt (turnL M.b s.ps)) := (HVT3.out.below HBP.out).more fun k hk => .inl hk
                      have HVN4 : Hid (KeptV (Plus o3 y3 y4) y4 vn M.b) := (HVN3.out.below HBP.out).more fun k hk => .inl hk
                      have HRB4 : Hid (RowC y4 B 23 g.cs) := HRB3.out.below HBP.out
                      obtain ⟨o4, ho4⟩ : ∃ o, Plus o3 y3 y4 = o := ⟨_, rfl⟩
                      have HOB4 : Hid (o4 B) := by show o4 B; rw [← ho4]; exact .inl HOB3.out
                      rw [ho4] at HKP HR4 HVT4 HVN4
                      clear ho4
                      have hpk : s.pick = .slice s.p0 s.b0.length s.cap0 := rfl
                      rw [hpk] at cP HAP
                      clear hpk
                      go_wp2_with (at_builtin; refine wpList_append_run (.tmp 133) (.tmp 138) 37 rfl rfl _ _ _ rfl rfl HAP.out ?_)
                      skip
                      have hcr := RAt.crash HR4.out HKP.out.sl (Sl.nil .u8 y4) HKP.out.bytes (fun j => by simp) (fun hn b off len cap e => .inr (HKP.out.own hn b off len cap e)) (fun h => absurd rfl h) HTF.out
                      refine hcr.mono ?_
                      rintro e y5 ⟨rfl, hR5, hk5⟩
                      have HVT5 : Hid (KeptV o4 y5 vt (turnL M.b s.ps)) := HVT4.out.overA hR5 hk5
                      have HVN5 : Hid (KeptV o4 y5 vn M.b) := HVN4.out.overA hR5 hk5
                      have HRB5' : Hid (RowC y5 B 23 g.cs) := rowC_over HRB4.out HOB4.out hk5
                      have HR5' := Lib.hid hR5
                      clear hcr hR5 hk5 cP
                      go_wp2_with fail
                      obtain ⟨M2, hST, hG2, hor, hdone⟩ := HCUT.out s.b0 []
                      obtain ⟨T2, hT2⟩ : ∃ S, T.crash s.b0 [] = S := ⟨_, rfl⟩
                      rw [hT2] at hST HR5'
                      have HST := Lib.hid hST
                      have HG2 : Hid (M2.g = g) := hG2.trans HMG.out
                      have HOR := Lib.hid hor
                      have HDONE := Lib.hid hdone
                      clear hST hG2 hor hdone hT2
                      have hop := RAt.openM HK.out HR5'.out (HST.out.rdy (by have := HKL.out; omega)) HST.out.up (HST.out.opn (by have := HKL.out; omega))
                      refine hop.mono ?_
                      rintro e yT ⟨mm, rfl, hMT, hkT, hsT⟩
                      have HMT := Lib.hid hMT
                      have HVTT : Hid (KeptV o4 yT vt (turnL M.b s.ps)) := HVT5.out.over hsT hkT
                      have HVNT : Hid (KeptV o4 yT vn M.b) := HVN5.out.over hsT hkT
                      have HRBT : Hid (RowC yT B 23 g.cs) := rowC_over HRB5'.out HOB4.out hkT
                      have HOBT := HOB4
                      obtain ⟨oT, hoT⟩ : ∃ o, o4 = o := ⟨_, rfl⟩
                      rw [hoT] at HMT HVTT HVNT HOBT
                      clear hop hMT hkT hsT hoT
                      go_wp2_with fail
                      have HEQ : Hid (M2.b = turnL M.b s.ps) := by first | exact HDONE.out rfl | exact HDONE.out trivial
                      obtain ⟨fm, hfm⟩ := HMT.out.mem
                      have HFM := Lib.hid hfm
                      clear hfm
                      go_wp2_with fail
                      refine (HK.out.bytes HFM.out (by have := HST.out.len; omega) HST.out.bytes).mono ?_
                      rintro e z1 ⟨vb, rfl, hsb, hfb, hy⟩
                      have HMZ : Hid (MAt theRes w z1 rb p0 p1 mm T2 M2 (Plus oT yT z1)) := AtR.plus (theRes.both _ _ _ _ _ _) HMT.out hy
                      have HVB : Hid (KeptV (Plus oT yT z1) z1 vb M2.b) := KeptV.new hsb HST.out.bytes hfb
                      have HVT : Hid (KeptV oT z1 vt (turnL M.b s.ps)) := HVTT.out.below hy
                      have HVN : Hid (KeptV oT z1 vn M.b) := HVNT.out.below hy
                      have HRBZ : Hid (RowC z1 B 23 g.cs) := HRBT.out.below hy
                      clear hsb hfb hy
                      go_wp2_with fail
                      have hkb := keepBytes vb vt M2.b (turnL M.b s.ps) z1 HVB.out.sl HVT.out.sl HST.out.bytes (turnL_bytes _ _ HSI.out.bytes)
                      rw [decide_eq_true HEQ.out] at hkb
                      refine hkb.mono ?_
                      rintro e zz ⟨rfl, hz⟩
                      obtain rfl := hz.symm
                      clear hz hkb
                      go_wp2_with fail
                      have HWR : Hid (wrap64 ((k : Int) + 1) = (k : Int) + 1) := IntWalk.wrap64_in _ (by have := HKL.out; omega)
                      have hfin : TornI theRes g B rb p0 p1 w z1 (k + 1) (.pointer (some ⟨mm, 0, none⟩)) vb := ⟨mm, T2, M2, Plus oT yT z1, rfl, .inl HOBT.out, HMZ.out, HVB.out, HRBZ.out, HST.out, HG2.out⟩
                      exact ⟨tornR HWR.out HLT2.out hfin, next_lt HWR.out HLT2.out⟩
                    · obtain ⟨vp, y4, HAP, HKP, HBP⟩ := copy_kept (W := y3) (v := s.pick) (bs := s.b0) (HOK.out.pick.below HR3.out.bel) HOK.out.bytes (by have := HPK.out; omega) o3
                      have cP : (y3.alloc (.cells #[] 5)).cell? ⟨bT, offT + k * 3 + 2, none⟩ = some s.pick := (HTA.out.below HBT.out (HR3.out.bel.alloc HR3.out.size _)).c2
                      have HR4 : Hid (RAt w y4 rb p0 p1 T (Plus o3 y3 y4)) := AtR.plus (RigR.isRes _ _ _ _) HR3.out HBP.out
                      have HVT4 : Hid (KeptV (Plus o3 y3 y4) y4 vt (turnL M.b s.ps)) := (HVT3.out.below HBP.out).more fun k hk => .inl hk
                      have HVN4 : Hid (KeptV (Plus o3 y3 y4) y4 vn M.b) := (HVN3.out.below HBP.out).more fun k hk => .inl hk
                      have HRB4 : Hid (RowC y4 B 23 g.cs) := HRB3.out.below HBP.out
                      obtain ⟨o4, ho4⟩ : ∃ o, Plus o3 y3 y4 = o := ⟨_, rfl⟩
                      have HOB4 : Hid (o4 B) := by show o4 B; rw [← ho4]; exact .inl HOB3.out
                      rw [ho4] at HKP HR4 HVT4 HVN4
                      clear ho4
                      have hpk : s.pick = .slice s.p0 s.b0.length s.cap0 := rfl
                      rw [hpk] at cP HAP
                      clear hpk
                      go_wp2_with (at_builtin; refine wpList_append_run (.tmp 133) (.tmp 138) 37 rfl rfl _ _ _ rfl rfl HAP.out ?_)
                      skip
                      have hcr := RAt.crash HR4.out HKP.out.sl (Sl.nil .u8 y4) HKP.out.bytes (fun j => by simp) (fun hn b off len cap e => .inr (HKP.out.own hn b off len cap e)) (fun h => absurd rfl h) HTF.out
                      refine hcr.mono ?_
                      rintro e y5 ⟨rfl, hR5, hk5⟩
                      have HVT5 : Hid (KeptV o4 y5 vt (turnL M.b s.ps)) := HVT4.out.overA hR5 hk5
                      have HVN5 : Hid (KeptV o4 y5 vn M.b) := HVN4.out.overA hR5 hk5
                      have HRB5' : Hid (RowC y5 B 23 g.cs) := rowC_over HRB4.out HOB4.out hk5
                      have HR5' := Lib.hid hR5
                      clear hcr hR5 hk5 cP
                      go_wp2_with fail
                      obtain ⟨M2, hST, hG2, hor, hdone⟩ := HCUT.out s.b0 []
                      obtain ⟨T2, hT2⟩ : ∃ S, T.crash s.b0 [] = S := ⟨_, rfl⟩
                      rw [hT2] at hST HR5'
                      have HST := Lib.hid hST
                      have HG2 : Hid (M2.g = g) := hG2.trans HMG.out
                      have HOR := Lib.hid hor
                      have HDONE := Lib.hid hdone
                      clear hST hG2 hor hdone hT2
                      have hop := RAt.openM HK.out HR5'.out (HST.out.rdy (by have := HKL.out; omega)) HST.out.up (HST.out.opn (by have := HKL.out; omega))
                      refine hop.mono ?_
                      rintro e yT ⟨mm, rfl, hMT, hkT, hsT⟩
                      have HMT := Lib.hid hMT
                      have HVTT : Hid (KeptV o4 yT vt (turnL M.b s.ps)) := HVT5.out.over hsT hkT
                      have HVNT : Hid (KeptV o4 yT vn M.b) := HVN5.out.over hsT hkT
                      have HRBT : Hid (RowC yT B 23 g.cs) := rowC_over HRB5'.out HOB4.out hkT
                      have HOBT := HOB4
                      obtain ⟨oT, hoT⟩ : ∃ o, o4 = o := ⟨_, rfl⟩
                      rw [hoT] at HMT HVTT HVNT HOBT
                      clear hop hMT hkT hsT hoT
                      go_wp2_with fail
                      by_cases heq : M2.b = turnL M.b s.ps
                      · have HEQ := Lib.hid heq
                        clear heq
                        obtain ⟨fm, hfm⟩ := HMT.out.mem
                        have HFM := Lib.hid hfm
                        clear hfm
                        go_wp2_with fail
                        refine (HK.out.bytes HFM.out (by have := HST.out.len; omega) HST.out.bytes).mono ?_
                        rintro e z1 ⟨vb, rfl, hsb, hfb, hy⟩
                        have HMZ : Hid (MAt theRes w z1 rb p0 p1 mm T2 M2 (Plus oT yT z1)) := AtR.plus (theRes.both _ _ _ _ _ _) HMT.out hy
                        have HVB : Hid (KeptV (Plus oT yT z1) z1 vb M2.b) := KeptV.new hsb HST.out.bytes hfb
                        have HVT : Hid (KeptV oT z1 vt (turnL M.b s.ps)) := HVTT.out.below hy
                        have HVN : Hid (KeptV oT z1 vn M.b) := HVNT.out.below hy
                        have HRBZ : Hid (RowC z1 B 23 g.cs) := HRBT.out.below hy
                        clear hsb hfb hy
                        go_wp2_with fail
                        have hkb := keepBytes vb vt M2.b (turnL M.b s.ps) z1 HVB.out.sl HVT.out.sl HST.out.bytes (turnL_bytes _ _ HSI.out.bytes)
                        rw [decide_eq_true HEQ.out] at hkb
                        refine hkb.mono ?_
                        rintro e zz ⟨rfl, hz⟩
                        obtain rfl := hz.symm
                        clear hz hkb
                        go_wp2_with fail
                        have HWR : Hid (wrap64 ((k : Int) + 1) = (k : Int) + 1) := IntWalk.wrap64_in _ (by have := HKL.out; omega)
                        have hfin : TornI theRes g B rb p0 p1 w z1 (k + 1) (.pointer (some ⟨mm, 0, none⟩)) vb := ⟨mm, T2, M2, Plus oT yT z1, rfl, .inl HOBT.out, HMZ.out, HVB.out, HRBZ.out, HST.out, HG2.out⟩
                        exact ⟨tornR HWR.out HLT2.out hfin, next_lt HWR.out HLT2.out⟩
                      · have HNE := Lib.hid heq
                        have HOLD : Hid (M2.b = M.b) := HOR.out.resolve_right heq
                        clear heq
                        obtain ⟨fm, hfm⟩ := HMT.out.mem
                        have HFM := Lib.hid hfm
                        clear hfm
                        go_wp2_with fail
                        refine (HK.out.bytes HFM.out (by have := HST.out.len; omega) HST.out.bytes).mono ?_
                        rintro e z1 ⟨vb, rfl, hsb, hfb, hy⟩
                        have HMZ : Hid (MAt theRes w z1 rb p0 p1 mm T2 M2 (Plus oT yT z1)) := AtR.plus (theRes.both _ _ _ _ _ _) HMT.out hy
                        have HVB : Hid (KeptV (Plus oT yT z1) z1 vb M2.b) := KeptV.new hsb HST.out.bytes hfb
                        have HVT : Hid (KeptV oT z1 vt (turnL M.b s.ps)) := HVTT.out.below hy
                        have HVN : Hid (KeptV oT z1 vn M.b) := HVNT.out.below hy
                        have HRBZ : Hid (RowC z1 B 23 g.cs) := HRBT.out.below hy
                        clear hsb hfb hy
                        go_wp2_with fail
                        have hkb := keepBytes vb vt M2.b (turnL M.b s.ps) z1 HVB.out.sl HVT.out.sl HST.out.bytes (turnL_bytes _ _ HSI.out.bytes)
                        rw [decide_eq_false HNE.out] at hkb
                        refine hkb.mono ?_
                        rintro e zz ⟨rfl, hz⟩
                        obtain rfl := hz.symm
                        clear hz hkb
                        go_wp2_with fail
                        have hkb := keepBytes vb vn M2.b M.b z1 HVB.out.sl HVN.out.sl HST.out.bytes HSI.out.bytes
                        rw [decide_eq_true HOLD.out] at hkb
                        refine hkb.mono ?_
                        rintro e zz ⟨rfl, hz⟩
                        obtain rfl := hz.symm
                        clear hz hkb
                        go_wp2_with fail
                        have HWR : Hid (wrap64 ((k : Int) + 1) = (k : Int) + 1) := IntWalk.wrap64_in _ (by have := HKL.out; omega)
                        have hfin : TornI theRes g B rb p0 p1 w z1 (k + 1) (.pointer (some ⟨mm, 0, none⟩)) vb := ⟨mm, T2, M2, Plus oT yT z1, rfl, .inl HOBT.out, HMZ.out, HVB.out, HRBZ.out, HST.out, HG2.out⟩
                        exact ⟨tornR HWR.out HLT2.out hfin, next_lt HWR.out HLT2.out⟩
                  · have q2 : decide (s.at_ < 40) = false := by simpa using hc2
                    clear hc1 hc2
                    obtain ⟨vc, yc, HAC, HKC, HBC⟩ := copy_kept (W := y1) (v := vt) (bs := turnL M.b s.ps) HVT1.out.sl (turnL_bytes _ _ HSI.out.bytes) (by rw [turnL_length]; have := HSI.out.len; omega) o1
                    have HMC : Hid (MAt theRes w yc rb p0 p1 m S M (Plus o1 y1 yc)) := AtR.plus (theRes.both _ _ _ _ _ _) HM1.out HBC.out
                    have HVTC : Hid (KeptV (Plus o1 y1 yc) yc vt (turnL M.b s.ps)) := (HVT1.out.below HBC.out).more fun k hk => .inl hk
                    have HVNC : Hid (KeptV (Plus o1 y1 yc) yc vn M.b) := (HVN1.out.below HBC.out).more fun k hk => .inl hk
                    have HRBC : Hid (RowC yc B 23 g.cs) := HRB1.out.below HBC.out
                    obtain ⟨o3, ho3⟩ : ∃ o, Plus o1 y1 yc = o := ⟨_, rfl⟩
                    have HOB3 : Hid (o3 B) := by show o3 B; rw [← ho3]; exact .inl HOB1.out
                    rw [ho3] at HMC HVTC HVNC HKC
                    clear ho3
                    go_wp2_with (at_builtin; refine wpList_append_run (.tmp 117) (.tmp 118) 37 rfl rfl _ _ _ rfl rfl HAC.out ?_)
                    clear q1 q1'
                    try clear q2
                    try clear cA1
                    obtain ⟨T2, hcm, hsit⟩ := HSI.out.commit (b := turnL M.b s.ps) (by have := HKL.out; omega) (turnL_length _ _) (turnL_bytes _ _ HSI.out.bytes)
                    have hcall := MAt.commit HK.out HMC.out (HSI.out.rdy (by have := HKL.out; omega)) HSI.out.up.down (HSI.out.ok (by have := HKL.out; omega)) HKC.out (turnL_length _ _) hcm
                    refine hcall.mono ?_
                    rintro e yT ⟨rfl, hMT, -, hk3, hs3⟩
                    obtain ⟨M2, hM2⟩ : ∃ M', M.next (turnL M.b s.ps) = M' := ⟨_, rfl⟩
                    have HEQ : Hid (M2.b = turnL M.b s.ps) := by show _ = _; rw [← hM2]; exact HSI.out.next_b (turnL_length _ _)
                    have HG2 : Hid (M2.g = g) := by show _ = _; rw [← hM2]; exact (MS.next_g _ _).trans HMG.out
                    rw [hM2] at hMT hsit
                    have HST := Lib.hid hsit
                    have HMT := Lib.hid (hMT rfl)
                    have HVTT : Hid (KeptV o3 yT vt (turnL M.b s.ps)) := HVTC.out.over hs3 hk3
                    have HVNT : Hid (KeptV o3 yT vn M.b) := HVNC.out.over hs3 hk3
                    have HRBT : Hid (RowC yT B 23 g.cs) := rowC_over HRBC.out HOB3.out hk3
                    have HOBT := HOB3
                    obtain ⟨mm, hmm⟩ : ∃ n, m = n := ⟨_, rfl⟩
                    obtain ⟨oT, hoT⟩ : ∃ o, o3 = o := ⟨_, rfl⟩
                    rw [hoT] at HMT HVTT HVNT HOBT
                    rw [hmm] at HMT
                    clear hcall hMT hk3 hs3 hcm hsit hM2 hoT
                    rw [hmm]
                    clear hmm
                    go_wp2_with fail
                    obtain ⟨fm, hfm⟩ := HMT.out.mem
                    have HFM := Lib.hid hfm
                    clear hfm
                    go_wp2_with fail
                    refine (HK.out.bytes HFM.out (by have := HST.out.len; omega) HST.out.bytes).mono ?_
                    rintro e z1 ⟨vb, rfl, hsb, hfb, hy⟩
                    have HMZ : Hid (MAt theRes w z1 rb p0 p1 mm T2 M2 (Plus oT yT z1)) := AtR.plus (theRes.both _ _ _ _ _ _) HMT.out hy
                    have HVB : Hid (KeptV (Plus oT yT z1) z1 vb M2.b) := KeptV.new hsb HST.out.bytes hfb
                    have HVT : Hid (KeptV oT z1 vt (turnL M.b s.ps)) := HVTT.out.below hy
                    have HVN : Hid (KeptV oT z1 vn M.b) := HVNT.out.below hy
                    have HRBZ : Hid (RowC z1 B 23 g.cs) := HRBT.out.below hy
                    clear hsb hfb hy
                    go_wp2_with fail
                    have hkb := keepBytes vb vt M2.b (turnL M.b s.ps) z1 HVB.out.sl HVT.out.sl HST.out.bytes (turnL_bytes _ _ HSI.out.bytes)
                    rw [decide_eq_true HEQ.out] at hkb
                    refine hkb.mono ?_
                    rintro e zz ⟨rfl, hz⟩
                    obtain rfl := hz.symm
                    clear hz hkb
                    go_wp2_with fail
                    have HWR : Hid (wrap64 ((k : Int) + 1) = (k : Int) + 1) := IntWalk.wrap64_in _ (by have := HKL.out; omega)
                    have hfin : TornI theRes g B rb p0 p1 w z1 (k + 1) (.pointer (some ⟨mm, 0, none⟩)) vb := ⟨mm, T2, M2, Plus oT yT z1, rfl, .inl HOBT.out, HMZ.out, HVB.out, HRBZ.out, HST.out, HG2.out⟩
                    exact ⟨tornR HWR.out HLT2.out hfin, next_lt HWR.out HLT2.out⟩
                · have q1 : decide (0 ≤ s.at_) = false := by simpa using hc1
                  have q1' : decide (s.at_ ≥ 0) = false := q1
                  clear hc1
                  obtain ⟨vc, yc, HAC, HKC, HBC⟩ := copy_kept (W := y1) (v := vt) (bs := turnL M.b s.ps) HVT1.out.sl (turnL_bytes _ _ HSI.out.bytes) (by rw [turnL_length]; have := HSI.out.len; omega) o1
                  have HMC : Hid (MAt theRes w yc rb p0 p1 m S M (Plus o1 y1 yc)) := AtR.plus (theRes.both _ _ _ _ _ _) HM1.out HBC.out
                  have HVTC : Hid (KeptV (Plus o1 y1 yc) yc vt (turnL M.b s.ps)) := (HVT1.out.below HBC.out).more fun k hk => .inl hk
                  have HVNC : Hid (KeptV (Plus o1 y1 yc) yc vn M.b) := (HVN1.out.below HBC.out).more fun k hk => .inl hk
                  have HRBC : Hid (RowC yc B 23 g.cs) := HRB1.out.below HBC.out
                  obtain ⟨o3, ho3⟩ : ∃ o, Plus o1 y1 yc = o := ⟨_, rfl⟩
                  have HOB3 : Hid (o3 B) := by show o3 B; rw [← ho3]; exact .inl HOB1.out
                  rw [ho3] at HMC HVTC HVNC HKC
                  clear ho3
                  go_wp2_with (at_builtin; refine wpList_append_run (.tmp 117) (.tmp 118) 37 rfl rfl _ _ _ rfl rfl HAC.out ?_)
                  clear q1 q1'
                  try clear q2
                  try clear cA1
                  obtain ⟨T2, hcm, hsit⟩ := HSI.out.commit (b := turnL M.b s.ps) (by have := HKL.out; omega) (turnL_length _ _) (turnL_bytes _ _ HSI.out.bytes)
                  have hcall := MAt.commit HK.out HMC.out (HSI.out.rdy (by have := HKL.out; omega)) HSI.out.up.down (HSI.out.ok (by have := HKL.out; omega)) HKC.out (turnL_length _ _) hcm
                  refine hcall.mono ?_
                  rintro e yT ⟨rfl, hMT, -, hk3, hs3⟩
                  obtain ⟨M2, hM2⟩ : ∃ M', M.next (turnL M.b s.ps) = M' := ⟨_, rfl⟩
                  have HEQ : Hid (M2.b = turnL M.b s.ps) := by show _ = _; rw [← hM2]; exact HSI.out.next_b (turnL_length _ _)
                  have HG2 : Hid (M2.g = g) := by show _ = _; rw [← hM2]; exact (MS.next_g _ _).trans HMG.out
                  rw [hM2] at hMT hsit
                  have HST := Lib.hid hsit
                  have HMT := Lib.hid (hMT rfl)
                  have HVTT : Hid (KeptV o3 yT vt (turnL M.b s.ps)) := HVTC.out.over hs3 hk3
                  have HVNT : Hid (KeptV o3 yT vn M.b) := HVNC.out.over hs3 hk3
                  have HRBT : Hid (RowC yT B 23 g.cs) := rowC_over HRBC.out HOB3.out hk3
                  have HOBT := HOB3
                  obtain ⟨mm, hmm⟩ : ∃ n, m = n := ⟨_, rfl⟩
                  obtain ⟨oT, hoT⟩ : ∃ o, o3 = o := ⟨_, rfl⟩
                  rw [hoT] at HMT HVTT HVNT HOBT
                  rw [hmm] at HMT
                  clear hcall hMT hk3 hs3 hcm hsit hM2 hoT
                  rw [hmm]
                  clear hmm
                  go_wp2_with fail
                  obtain ⟨fm, hfm⟩ := HMT.out.mem
                  have HFM := Lib.hid hfm
                  clear hfm
                  go_wp2_with fail
                  refine (HK.out.bytes HFM.out (by have := HST.out.len; omega) HST.out.bytes).mono ?_
                  rintro e z1 ⟨vb, rfl, hsb, hfb, hy⟩
                  have HMZ : Hid (MAt theRes w z1 rb p0 p1 mm T2 M2 (Plus oT yT z1)) := AtR.plus (theRes.both _ _ _ _ _ _) HMT.out hy
                  have HVB : Hid (KeptV (Plus oT yT z1) z1 vb M2.b) := KeptV.new hsb HST.out.bytes hfb
                  have HVT : Hid (KeptV oT z1 vt (turnL M.b s.ps)) := HVTT.out.below hy
                  have HVN : Hid (KeptV oT z1 vn M.b) := HVNT.out.below hy
                  have HRBZ : Hid (RowC z1 B 23 g.cs) := HRBT.out.below hy
                  clear hsb hfb hy
                  go_wp2_with fail
                  have hkb := keepBytes vb vt M2.b (turnL M.b s.ps) z1 HVB.out.sl HVT.out.sl HST.out.bytes (turnL_bytes _ _ HSI.out.bytes)
                  rw [decide_eq_true HEQ.out] at hkb
                  refine hkb.mono ?_
                  rintro e zz ⟨rfl, hz⟩
                  obtain rfl := hz.symm
                  clear hz hkb
                  go_wp2_with fail
                  have HWR : Hid (wrap64 ((k : Int) + 1) = (k : Int) + 1) := IntWalk.wrap64_in _ (by have := HKL.out; omega)
                  have hfin : TornI theRes g B rb p0 p1 w z1 (k + 1) (.pointer (some ⟨mm, 0, none⟩)) vb := ⟨mm, T2, M2, Plus oT yT z1, rfl, .inl HOBT.out, HMZ.out, HVB.out, HRBZ.out, HST.out, HG2.out⟩
                  exact ⟨tornR HWR.out HLT2.out hfin, next_lt HWR.out HLT2.out⟩
          · obtain rfl : k = len := by omega
            have HKS : Hid (k ≤ 200) := by show _ ≤ _; have := HLL.out; omega
            clear hlt hk
            go_wp2_with fail
            obtain ⟨X, hX⟩ : ∃ X, wr.drew = X := ⟨_, rfl⟩
            have HX : Hid (Below wr.heap.size wr X) := by show Below _ _ _; rw [← hX]; exact (Below.refl _ wr).drew
            have LG : ∀ z : Ext wr, (loadVar 23 ⟨B, 0, none⟩).run Tryz.prog z.1 = .ok (.agg g.v) z.1 := fun z => load_geo (HRBR.out.below z.2)
            obtain ⟨fm, hfm⟩ := HM.out.mem
            have HFM := Lib.hid hfm
            clear hfm
            refine region_plan (fun u => ∃ y : Ext wr, u = y.1) 6 (.takes [0, 2] (.one 1 (.takes [3, 4] (.one 5 .leaf)))) hmx (by kernel_rfl) (by intro c x v a w h; cases x <;> exact h) ⟨⟨wr.drew, (Below.refl _ wr).drew⟩, rfl⟩ ?_
            rw [hX]
            clear hX
            repeat (rw [wpPlan_takes_cons]; simp only [nth_zero, nth_succ]; go_big_quiet_step (fail); refine wpQuiet_nil ?_)
            rw [wpPlan_takes_nil, wpPlan_one]
            simp only [nth_zero, nth_succ]
            go_wp2_with fail
            clear LG
            refine (HK.out.geom ((theRes.isRes _ _ _).below HFM.out HX.out)).mono ?_
            rintro e y1 ⟨rfl, hy⟩
            rw [HMG.out]
            have HY1 : Hid (Below wr.heap.size wr y1) := HX.out.trans (hy.mono HX.out.size)
            clear hy
            go_wp2_with fail
            refine planPost_mk ⟨⟨y1, HY1.out⟩, rfl⟩ ?_
            have EQ := fun z : Ext wr => eq_geo g z.1
            repeat (rw [wpPlan_takes_cons]; simp only [nth_zero, nth_succ]; go_big_quiet_step (fail); refine wpQuiet_nil ?_)
            rw [wpPlan_takes_nil, wpPlan_one]
            simp only [nth_zero, nth_succ]
            go_wp2_with fail
            clear EQ
            refine (HW.out _).mono ?_
            rintro e y2 ⟨rfl, hy⟩
            have HY2 : Hid (Below wr.heap.size wr y2) := HY1.out.trans (hy.mono HY1.out.size)
            have HXZ : Hid (Below w.heap.size w y2) := HM.out.bel.trans (HY2.out.mono HM.out.size)
            clear hy
            go_wp2_with fail
            refine planPost_mk ⟨⟨y2, HY2.out⟩, rfl⟩ ?_
            rw [wpPlan_leaf]
            simp only [List.drop_succ_cons, List.drop_zero]
            go_wp2_with fail
            go_ret
            first | exact ⟨rfl, HXZ.out⟩ | exact ⟨rfl, by rw [← hB]; exact HXZ.out⟩
      · rw [decide_eq_false hgd] at HGD
        clear hgd
        go_enter Tryz.func4, Tryz.ntmps4
        go_wp2_with fail
        refine hlt.mono ?_
        rintro e x1 ⟨rfl, hx⟩
        have HX1 : Hid (Below W.heap.size W x1) := hx
        have L1 := load_geo (HR0.out.below hx)
        clear hx hlt LG0
        go_wp2_with fail
        refine (HGD.out _).mono ?_
        rintro e x2 ⟨rfl, hx⟩
        have HX2 : Hid (Below W.heap.size W x2) := HX1.out.trans (hx.mono HX1.out.size)
        clear hx L1 HGD
        go_wp2_with fail
        refine (HW.out _).mono ?_
        rintro e xz ⟨rfl, hx⟩
        have HXZ : Hid (Below w.heap.size w xz) := HB0.out.trans ((HX2.out.trans (hx.mono HX2.out.size)).mono HB0.out.size)
        clear hx
        go_wp2_with fail
        go_ret
        first | exact ⟨rfl, HXZ.out⟩ | exact ⟨rfl, by rw [← hB]; exact HXZ.out⟩
    · rw [decide_eq_false hg] at hlt
      clear hg
      go_enter Tryz.func4, Tryz.ntmps4
      go_wp2_with fail
      refine hlt.mono ?_
      rintro e x1 ⟨rfl, hx⟩
      have HX1 : Hid (Below W.heap.size W x1) := hx
      clear hx hlt LG0
      go_wp2_with fail
      refine (HW.out _).mono ?_
      rintro e xz ⟨rfl, hx⟩
      have HXZ : Hid (Below w.heap.size w xz) := HB0.out.trans ((HX1.out.trans (hx.mono HX1.out.size)).mono HB0.out.size)
      clear hx
      go_wp2_with fail
      go_ret
      first | exact ⟨rfl, HXZ.out⟩ | exact ⟨rfl, by rw [← hB]; exact HXZ.out⟩

set_option maxRecDepth 100000 in
theorem lifted (os : Os) (started : os.Started) (H : Type) (enc : TypeId × Value → H) :
    ReturnsInHanded {} Tryz.checked os 4 .any (Rows.metaTornSpec.pre6 enc Tryz.prog Tryz.f4 Rows.metaTornRow.domain false) (Rows.metaTornSpec.post enc Tryz.prog Tryz.f4 false true false false) := by
  refine returnsInHanded_of_change (C := Tryz.checked) own started (by kernel_rfl) Tryz.func4
    (ChangeSpec.witness6 (enc := enc) (C := Tryz.checked) false ⟨#[], #[.agg #[.int .i64 0, .int .i64 0, .int .i64 0, .int .i64 0, .int .i64 0], .slice none 0 0], []⟩ 8 (by kernel_rfl) (by kernel_rfl) (by kernel_rfl) (by kernel_rfl)) ?_
  intro W base args ds gs before hval0 hW hcnd _
  have hval : ∀ (j : Nat) t v, Tryz.f4.params[j]? = some t → args[j]? = some v → Value.okWide Tryz.prog W .any base t v := hval0
  have hW' := hW
  obtain ⟨p, q, hA0, hV, rfl, hfz, hnd⟩ := hW
  have hA : DataW.TrodAll enc Tryz.prog W 0 (fun _ => true) true Tryz.f4.params.toList args.toList ds p := hA0
  rw [Tryz.params4] at hA hval
  obtain ⟨v0, vs0, d0, ds0, p0, q0, hargs, rfl, rfl, h0, r0⟩ := trodAll_cons hA
  obtain ⟨v1, vs1, d1, ds1, p1, q1, rfl, rfl, rfl, h1, r1⟩ := trodAll_cons r0
  obtain ⟨rfl, rfl, rfl⟩ := trodAll_nil r1
  obtain rfl : args = #[v0, v1] := by cases args; simp_all
  obtain ⟨rfl, rfl⟩ := trodVars_none hV
  have lt0 : ∀ x ∈ p0, x.block < W.heap.size := by obtain ⟨m, hm⟩ := h0; exact DataW.trod_lt m _ _ _ hm
  have a0 := Arg.mk (hval 0 23 v0 rfl rfl) h0
  have lt1 : ∀ x ∈ p1, x.block < W.heap.size := by obtain ⟨m, hm⟩ := h1; exact DataW.trod_lt m _ _ _ hm
  have a1 := Arg.mk (hval 1 81 v1 rfl rfl) h1
  clear hA0 hval0
  refine (walk v0 v1 W a0 a1).mono fun e W' ⟨he, bel⟩ => ?_
  subst he
  exact ⟨_, rfl, _, _, _, [], _, [], hW', trodAll_mk1 (shut_bool Tryz.underlying4 _), (trodAll_cons_mk (Below.trod laidOut (by kernel_rfl) (of_decide_eq_true (by kernel_rfl)) h0 bel lt0) (trodAll_cons_mk (Below.trod laidOut (by kernel_rfl) (of_decide_eq_true (by kernel_rfl)) h1 bel lt1) trodAll_mk0)), rfl, bel.frame _, fun h => by cases h⟩

set_option maxRecDepth 100000 in
theorem over : Rows.metaTornRow.holds Tryz.pinned (OpenSpec.ofChange Rows.metaTornSpec) :=
  OpenClaim.holds_of_wide 4 Tryz.f4 rfl rfl rfl rfl rfl rfl rfl ⟨rfl, rfl, rfl, rfl, rfl⟩ rfl rfl rfl rfl rfl (by kernel_rfl) Tryz.func4 (by kernel_rfl)
    (of_decide_eq_true (by kernel_rfl)) (by unfold Func.isWrapper; first | (rw [if_pos (by decide +kernel)]; kernel_rfl) | (rw [if_neg (by decide +kernel)]; exact ⟨rfl, rfl⟩))
    (fun os started H enc _ => lifted os started H enc)

theorem proved : Rows.MetaTornSaid := over
#print axioms proved
end Go.Proofs.YtbdfllamhcodjaaGreat.metaTorn
