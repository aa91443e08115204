/- After each of however many commits, Open tells the bytes of the last one, and the next one finds room (P8.3, P8.4). -/
import Derived.Test.YtbdfllamhcodjaaGreatH7
namespace Go.Proofs.YtbdfllamhcodjaaGreat.metaLong
open Go.ChangeShapes Go.WideShapes Go.ChangeAt Go.RowKit
set_option linter.unusedVariables false
attribute [-simp] Tryz.isAgg23 Tryz.zeroValue23 Tryz.isAgg60 Tryz.zeroValue60 Tryz.isAgg39 Tryz.zeroValue39
attribute [-go_sem] loadVar storeVar run_equalIn_agg
attribute [local go_sem] loadVar_openM storeVar_openM zero_geo build_geo0 zero_szs zero_blk build_blk

set_option maxRecDepth 100000 in
set_option maxHeartbeats 20000000 in
theorem walk (v0 v1 v2 : Value) (w : World) (w0 : Arg w 23 v0) (w1 : Arg w 5 v1) (w2 : Arg w 47 v2) :
    Calls Tryz.prog 5 #[v0, v1, v2] w fun e w' => e = .returned (.bool true) ∧ Below w.heap.size w w' := by
  obtain ⟨g, hin, rfl⟩ := w0.geo
  obtain ⟨n, rfl, wn⟩ := w1.int Tryz.underlying5
  obtain ⟨ps, hps⟩ := w2.prs
  have hmx : Tryz.prog.follows .mixedOrders = true := by kernel_rfl
  have BN := (wf_iff .u8 n).1 wn
  simp [IntKind.min, IntKind.max, IntKind.signed, IntKind.bits] at BN
  obtain ⟨nn, hnn⟩ : ∃ nn : Nat, n.tmod 50 = (nn : Int) := ⟨(n.tmod 50).toNat, by rw [Int.tmod_eq_emod_of_nonneg (by omega)]; omega⟩
  have HNN : Hid (nn ≤ 49) := by show _ ≤ _; rw [Int.tmod_eq_emod_of_nonneg (by omega)] at hnn; omega
  obtain ⟨pa, pcap, rfl, -⟩ := id hps
  obtain ⟨plen, hplen⟩ : ∃ n, ps.length = n := ⟨_, rfl⟩
  rw [hplen] at hps ⊢
  have HPS := Lib.hid hps
  have HK := Lib.hid metaOk
  have HW := Lib.hid (metaWakes metaOk)
  have HIN := Lib.hid hin
  obtain ⟨W, hW⟩ : ∃ W, w.alloc (.cells g.v 23) = W := ⟨_, rfl⟩
  have r0 : RowC W w.heap.size 23 g.cs := by rw [← hW]; exact RowC.new w _ _
  have HB0 : Hid (Below w.heap.size w W) := by show Below _ _ _; rw [← hW]; exact below_new w _
  obtain ⟨B, hB⟩ : ∃ b, w.heap.size = b := ⟨_, rfl⟩
  rw [hB] at r0
  have HR0 := Lib.hid r0
  have LG0 : (loadVar 23 ⟨B, 0, none⟩).run Tryz.prog W = .ok (.agg g.v) W := load_geo r0
  clear w0 w1 w2 wn r0 hin hps hplen
  have hlt := lawLight g W
  by_cases hg : g.light
  · rw [decide_eq_true hg] at hlt
    have HLT := Lib.hid hg
    have HGD := Lib.hid (fun x => refGood7 g x)
    clear hg
    by_cases hgd : g.good
    · rw [decide_eq_true hgd] at HGD
      have HGO := Lib.hid hgd
      clear hgd
      by_cases hl : 20 < plen
      · have g1 : decide ((20 : Int) < (plen : Int)) = true := by simp; omega
        clear hl
        go_enter Tryz.func5, Tryz.ntmps5
        go_wp2_with fail
        refine hlt.mono ?_
        rintro e x1 ⟨rfl, hx⟩
        have HX1 : Hid (Below W.heap.size W x1) := hx
        have L1 := load_geo (HR0.out.below hx)
        clear hx hlt LG0
        go_wp2_with fail
        refine (HGD.out _).mono ?_
        rintro e x2 ⟨rfl, hx⟩
        have HX2 : Hid (Below W.heap.size W x2) := HX1.out.trans (hx.mono HX1.out.size)
        clear hx L1 HGD
        go_wp2_with fail
        refine (HW.out _).mono ?_
        rintro e xz ⟨rfl, hx⟩
        have HXZ : Hid (Below w.heap.size w xz) := HB0.out.trans ((HX2.out.trans (hx.mono HX2.out.size)).mono HB0.out.size)
        clear hx
        go_wp2_with fail
        go_ret
        first | exact ⟨rfl, HXZ.out⟩ | exact ⟨rfl, by rw [← hB]; exact HXZ.out⟩
      · have g1 : decide ((20 : Int) < (plen : Int)) = false := by simp; omega
        clear hl
        go_enter Tryz.func5, Tryz.ntmps5
        go_wp2_with fail
        refine hlt.mono ?_
        rintro e x1 ⟨rfl, hx⟩
        have HX1 : Hid (Below W.heap.size W x1) := hx
        have L1 := load_geo (HR0.out.below hx)
        clear hx hlt LG0
        go_wp2_with fail
        refine (HGD.out _).mono ?_
        rintro e x2 ⟨rfl, hx⟩
        have HX2 : Hid (Below W.heap.size W x2) := HX1.out.trans (hx.mono HX1.out.size)
        clear hx L1 HGD
        have LG : ∀ z : Ext x2, (loadVar 23 ⟨B, 0, none⟩).run Tryz.prog z.1 = .ok (.agg g.v) z.1 := fun z => load_geo ((HR0.out.below HX2.out).below z.2)
        have hN := Geo.nats HGO.out
        have hoF : g.oF = ((2 + g.C + g.P + g.slots.toNat : Nat) : Int) := by have := hN.f; have := hN.s1; omega
        have hoW : g.oW = ((g.b + g.a).toNat : Int) := by
          have h := HGO.out.1
          have e : g.oW = g.b + g.a := if_pos HGO.out
          have := h.1
          have := h.2.2.2.2.2.2.1
          omega
        obtain ⟨nf, hnf⟩ : ∃ n : Nat, 2 + g.C + g.P + g.slots.toNat = n := ⟨_, rfl⟩
        obtain ⟨nw, hnw⟩ : ∃ n : Nat, (g.b + g.a).toNat = n := ⟨_, rfl⟩
        rw [hnf] at hoF
        rw [hnw] at hoW
        have hfb : 1 ≤ nf ∧ nf ≤ 4096 := by have := hN.c2; have := hN.p2; have := (Geo.bounds HGO.out.1).2.1; omega
        have hwb : 1 ≤ nw ∧ nw ≤ 4096 := by have h := HGO.out.1; have := h.1; have := h.2.1; have := h.2.2.2.2.2.2.1; have := h.2.2.2.2.2.2.2; omega
        have HOF := Lib.hid hoF
        have HOW := Lib.hid hoW
        have HFB := Lib.hid hfb
        have HWB := Lib.hid hwb
        have HN := Lib.hid hN
        clear hoF hoW hfb hwb hN hnf hnw
        go_wp2_with fail
        obtain ⟨D1, hD1⟩ : ∃ X, x2.drew = X := ⟨_, rfl⟩
        have HD1 : Hid (Below x2.heap.size x2 D1) := by show Below _ _ _; rw [← hD1]; exact (Below.refl _ x2).drew
        refine region_plan (fun u => ∃ y : Ext x2, u = y.1) 9 (.takes [0, 2] (.one 1 (.one 3 (.one 4 (.takes [5, 6, 8, 7] .leaf))))) hmx (by kernel_rfl) (by intro c x v a w h; cases x <;> exact h) ⟨⟨x2.drew, (Below.refl _ x2).drew⟩, rfl⟩ ?_
        rw [hD1]
        clear hD1
        repeat (rw [wpPlan_takes_cons]; simp only [nth_zero, nth_succ]; go_big_quiet_step (fail); refine wpQuiet_nil ?_)
        rw [wpPlan_takes_nil, wpPlan_one]
        simp only [nth_zero, nth_succ]
        go_wp2_with fail
        refine (gmFast g HIN.out _).mono ?_
        rintro e x3 ⟨rfl, hx⟩
        rw [HOF.out]
        have HE3 : Hid (Below x2.heap.size x2 x3) := HD1.out.trans (hx.mono HD1.out.size)
        clear hx
        go_wp2_with fail
        refine planPost_mk ⟨⟨x3, HE3.out⟩, rfl⟩ ?_
        rw [wpPlan_one]
        simp only [nth_zero, nth_succ]
        go_wp2_with fail
        refine (gmSlow g HIN.out _).mono ?_
        rintro e x4 ⟨rfl, hx⟩
        rw [HOW.out]
        have HE4 : Hid (Below x2.heap.size x2 x4) := HE3.out.trans (hx.mono HE3.out.size)
        clear hx
        go_wp2_with fail
        refine planPost_mk ⟨⟨x4, HE4.out⟩, rfl⟩ ?_
        rw [wpPlan_one]
        simp only [nth_zero, nth_succ]
        go_wp2_with fail
        have HX4 : Hid (Below W.heap.size W x4) := HX2.out.trans (HE4.out.mono HX2.out.size)
        have hnew := RAt.new nf nw w x4 (HB0.out.trans (HX4.out.mono HB0.out.size)) HFB.out.1 HFB.out.2 HWB.out.1 HWB.out.2 (fun k => k = B) (fun k hk => by rw [hk]; exact (HR0.out.below HX4.out).lt)
        refine hnew.mono ?_
        rintro e x5 ⟨rb, p0, p1, rfl, hR5, hx⟩
        have HE5 : Hid (Below x2.heap.size x2 x5) := HE4.out.trans (hx.mono HE4.out.size)
        have HX5 : Hid (Below W.heap.size W x5) := HX4.out.trans (hx.mono HX4.out.size)
        have HR5 := Lib.hid hR5
        clear hnew hx hR5 LG
        go_wp2_with fail
        refine planPost_mk ⟨⟨x5, HE5.out⟩, rfl⟩ ?_
        repeat (rw [wpPlan_takes_cons]; simp only [nth_zero, nth_succ]; go_big_quiet_step (fail); refine wpQuiet_nil ?_)
        rw [wpPlan_takes_nil, wpPlan_leaf]
        simp only [List.drop_succ_cons, List.drop_zero]
        go_wp2_with fail
        have HRB5 : Hid (RowC x5 B 23 g.cs) := HR0.out.below HX5.out
        have LG : ∀ z : KeepB B x5, (loadVar 23 ⟨B, 0, none⟩).run Tryz.prog z.1 = .ok (.agg g.v) z.1 := fun z => load_geo (z.row HRB5.out)
        obtain ⟨o1, o2, o3, o4, o5, o6, o7, o8, hszl, -, -, ho1, -⟩ := g.szl_eq
        obtain ⟨nb, hnb⟩ : ∃ n : Nat, g.bts.toNat = n := ⟨_, rfl⟩
        have hob : o1 = (nb : Int) := by rw [ho1, ← hnb]; show (if g.good then g.bts else 0) = _; rw [if_pos HGO.out, HN.out.b]
        have HNB := Lib.hid hnb
        have HNB2 : Hid (nb ≤ 714) := by show _ ≤ _; rw [← hnb]; exact HN.out.b2
        have HOB := Lib.hid hob
        clear hob hnb ho1
        obtain ⟨D2, hD2⟩ : ∃ X, x5.drew = X := ⟨_, rfl⟩
        have HD2 : Hid (Below x5.heap.size x5 D2) := by show Below _ _ _; rw [← hD2]; exact (Below.refl _ x5).drew
        have HQD2 : Hid (D2.heap[B]? = x5.heap[B]?) := by show _ = _; rw [← hD2]; rfl
        refine region_plan (fun u => ∃ y : KeepB B x5, u = y.1) 11 (.takes [0, 1, 2] (.one 3 (.takes [4] (.one 5 (.one 6 (.takes [7, 8, 10, 9] .leaf)))))) hmx (by kernel_rfl) (by intro c x v a w h; cases x <;> exact h) ⟨⟨x5.drew, rfl⟩, rfl⟩ ?_
        rw [hD2]
        clear hD2
        repeat (rw [wpPlan_takes_cons]; simp only [nth_zero, nth_succ]; go_big_quiet_step (fail); refine wpQuiet_nil ?_)
        rw [wpPlan_takes_nil, wpPlan_one]
        simp only [nth_zero, nth_succ]
        go_wp2_with fail
        refine (refOf g _).mono ?_
        rintro e x6 ⟨rfl, hx⟩
        rw [hszl, HOB.out]
        have HE6 : Hid (Below x5.heap.size x5 x6) := HD2.out.trans (hx.mono HD2.out.size)
        have HQ6 : Hid (x6.heap[B]? = x5.heap[B]?) := HE6.out.block B HRB5.out.lt
        clear hx hszl
        go_wp2_with fail
        refine planPost_mk ⟨⟨x6, HQ6.out⟩, rfl⟩ ?_
        have FS := fun z : KeepB B x5 => field_szs (nb : Int) o2 o3 o4 o5 o6 o7 o8 z.1
        repeat (rw [wpPlan_takes_cons]; simp only [nth_zero, nth_succ]; go_big_quiet_step (fail); refine wpQuiet_nil ?_)
        rw [wpPlan_takes_nil, wpPlan_one]
        simp only [nth_zero, nth_succ]
        clear FS LG
        obtain ⟨x7, hmk, hs7, hg7, -⟩ := make_zeros x6 nb (by have := HNB2.out; omega)
        have HMK := Lib.hid hmk
        have hx67 : Below x6.heap.size x6 x7 := (Below.refl _ _).grown hg7 (Nat.le_refl _) (fun k e => by cases e)
        have HE7 : Hid (Below x5.heap.size x5 x7) := HE6.out.trans (hx67.mono HE6.out.size)
        have HQ7 : Hid (x7.heap[B]? = x5.heap[B]?) := HE7.out.block B HRB5.out.lt
        have HS7 := Lib.hid hs7
        refine wpList_make_run _ _ _ rfl rfl _ _ _ rfl rfl HMK.out ?_
        refine wpList_nil ?_
        refine planPost_mk ⟨⟨x7, HQ7.out⟩, rfl⟩ ?_
        rw [wpPlan_one]
        simp only [nth_zero, nth_succ]
        go_wp2_with fail
        have hR7 : RAt w x7 rb p0 p1 (newS nf nw) (Plus (fun k => k = B) x6 x7) := AtR.plus (RigR.isRes _ _ _ _) (RAt.beside HR5.out HE6.out) hx67
        have hK7 : KeptV (Plus (fun k => k = B) x6 x7) x7 (.slice (some ⟨x6.heap.size, 0, none⟩) nb nb) (List.replicate nb 0) := KeptV.new HS7.out (zeros_bytes nb) fun b off len cap e => by cases e; exact Nat.le_refl _
        have hfm := RAt.format HK.out hR7 (newS_rdy HFB.out.2 HWB.out.2) (newS_up _ _) HIN.out HGO.out (by rw [HOF.out]; exact Int.le_refl _) (by rw [HOW.out]; exact Int.le_refl _) hK7 (by rw [List.length_replicate, HNB.out])
        clear hmk hs7 hg7 hx67
        refine hfm.mono ?_
        rintro e x8 ⟨m, rfl, hM8, hk8, hsz8⟩
        have HS8 := Lib.hid (Sit.fmt (b := List.replicate nb 0) HFB.out.2 HWB.out.2 HGO.out (by rw [HOF.out]; exact Int.le_refl _) (by rw [HOW.out]; exact Int.le_refl _) (by rw [List.length_replicate, HNB.out]) (zeros_bytes nb))
        have HM8 : Hid (MAt theRes w x8 rb p0 p1 m ((newS nf nw).bat (fmtB g (List.replicate nb 0))).1 (MS.new g (List.replicate nb 0)) (fun k => k = B)) := hM8.less _ fun k hk => .inl hk
        have HQ8 : Hid (x8.heap[B]? = x5.heap[B]?) := (hk8 B (.inl rfl)).trans HQ7.out
        have HRB8 : Hid (RowC x8 B 23 g.cs) := HQ8.out.trans HRB5.out
        clear hfm hR7 hK7 hM8 hk8 hsz8
        go_wp2_with fail
        refine planPost_mk ⟨⟨x8, HQ8.out⟩, rfl⟩ ?_
        repeat (rw [wpPlan_takes_cons]; simp only [nth_zero, nth_succ]; go_big_quiet_step (fail); refine wpQuiet_nil ?_)
        rw [wpPlan_takes_nil, wpPlan_leaf]
        simp only [List.drop_succ_cons, List.drop_zero]
        obtain ⟨S0, hS0⟩ : ∃ S, ((newS nf nw).bat (fmtB g (List.replicate nb 0))).1 = S := ⟨_, rfl⟩
        obtain ⟨M0, hM0⟩ : ∃ M, MS.new g (List.replicate nb 0) = M := ⟨_, rfl⟩
        have HG0 : Hid (M0.g = g ∧ M0.b = List.replicate nb 0 ∧ M0.room = g.r) := by show _ ∧ _ ∧ _; rw [← hM0]; exact ⟨rfl, rfl, by unfold MS.room; show g.r - ((0 : Nat) : Int) = _; omega⟩
        rw [hS0, hM0] at HS8 HM8
        clear hS0 hM0
        have L8 := load_geo HRB8.out
        go_wp2_with fail
        refine (refOf g _).mono ?_
        rintro e x9 ⟨rfl, hx⟩
        obtain ⟨o1, o2, o3, o4, o5, o6, o7, o8, hszl, -, -, ho1, -⟩ := g.szl_eq
        have hob : o1 = (nb : Int) := by rw [ho1, ← HNB.out]; show (if g.good then g.bts else 0) = _; rw [if_pos HGO.out, HN.out.b]
        rw [hszl, hob]
        have FS := field_szs (nb : Int) o2 o3 o4 o5 o6 o7 o8 x9
        have HM9 : Hid (MAt theRes w x9 rb p0 p1 m S0 M0 (fun k => k = B)) := AtR.beside (theRes.both _ _ _ _ _ _) HM8.out hx
        have HRB9 : Hid (RowC x9 B 23 g.cs) := HRB8.out.below hx
        clear hx hszl ho1 hob L8
        obtain ⟨x10, hmk, hs10, hg10, -⟩ := make_zeros x9 nb (by have := HNB2.out; omega)
        have HMK9 := Lib.hid hmk
        have hxx : Below x9.heap.size x9 x10 := (Below.refl _ _).grown hg10 (Nat.le_refl _) (fun k e => by cases e)
        have HM10 : Hid (MAt theRes w x10 rb p0 p1 m S0 M0 (Plus (fun k => k = B) x9 x10)) := AtR.plus (theRes.both _ _ _ _ _ _) HM9.out hxx
        have HK10 : Hid (KeptV (Plus (fun k => k = B) x9 x10) x10 (.slice (some ⟨x9.heap.size, 0, none⟩) nb nb) M0.b) := by
          show KeptV _ _ _ _
          rw [HG0.out.2.1]
          exact KeptV.new hs10 (zeros_bytes nb) fun b off len cap e => by cases e; exact Nat.le_refl _
        have HRB10 : Hid (RowC x10 B 23 g.cs) := HRB9.out.below hxx
        obtain ⟨vn0, hvn0⟩ : ∃ v, Value.slice (some ⟨x9.heap.size, 0, none⟩) nb nb = v := ⟨_, rfl⟩
        rw [hvn0] at HMK9 HK10
        have hnp : 0 < nb := by have := HNB.out; have := (Geo.bounds HGO.out.1).2.2.1; have := HN.out.b; omega
        have HNP := Lib.hid hnp
        clear hmk hs10 hg10 hxx hvn0 hnp
        go_wp2_with ((with_reducible refine gate_make ?_); refine wpList_make_run _ _ _ rfl rfl _ _ _ rfl rfl HMK9.out ?_)
        clear FS
        go_loopw [11, 12] (fun vb i wr => ∃ k : Nat, k ≤ nn ∧ i = .int .i64 k ∧ Hid (LongI theRes g B rb p0 p1 m w wr k vb)) (fun vb i _ => nn - (intOf i).toNat)
        case atStart => exact ⟨0, Nat.zero_le _, rfl, S0, M0, _, .inl rfl, HM10.out, HK10.out, HRB10.out, HS8.out, HG0.out.1⟩
        case round =>
          obtain ⟨k, hk, rfl, HTI⟩ := hrel
          obtain ⟨vb, rfl⟩ : ∃ v, v = u11 := ⟨_, rfl⟩
          obtain ⟨S, M, own, hoB, hM, hvn, hrb, hSi, hMg⟩ := HTI.out
          have hlb : M.b.length = nb := by rw [hSi.len.1, hMg, HNB.out]
          have HM := Lib.hid hM
          have HSI := Lib.hid hSi
          have HMG := Lib.hid hMg
          have HVB := Lib.hid hvn
          have HRBR := Lib.hid hrb
          have HOBR := Lib.hid hoB
          clear HTI hM hSi hMg hvn hrb hoB
          obtain ⟨va, vcap, hvb, -⟩ := id HVB.out.sl
          rw [hlb] at hvb
          rw [hvb]
          rw [hvb] at HVB
          clear hvb
          by_cases hlt : k < nn
          · have g1 : decide ((k : Int) < (nn : Int)) = true := by simp; omega
            have hnp := HNP.out
            have g2 : decide ((0 : Int) < (nb : Int)) = true := by simp; omega
            have HLT2 := Lib.hid hlt
            have HKL : Hid (k ≤ 49) := by show _ ≤ _; have := HNN.out; omega
            clear hlt hk
            go_wp2_with fail
            refine (lawTurnedR _ _ M.b ps wr HVB.out.sl HSI.out.bytes (HPS.out.below HM.out.bel) (by have := HSI.out.len; omega)).mono ?_
            rintro e y1 ⟨vt, rfl, -, hft, htr, hy⟩
            obtain ⟨gT, capT, rest, rfl, hrow, hgT, hcT, hcT2⟩ := htr (fun e => by rw [e] at hlb; simp at hlb; omega)
            rw [hlb] at hcT hft ⊢
            have hLl : (turnL M.b ps).length = nb := by rw [turnL_length, hlb]
            obtain ⟨L, hL⟩ : ∃ L, turnL M.b ps = L := ⟨_, rfl⟩
            have hLb : IsBytes L := by rw [← hL]; exact turnL_bytes _ _ HSI.out.bytes
            rw [hL] at hrow hLl
            obtain ⟨idx, hidx⟩ : ∃ idx, k % nb = idx := ⟨_, rfl⟩
            have hix : idx < nb := by rw [← hidx]; exact Nat.mod_lt _ hnp
            have hrem : (k : Int).tmod (nb : Int) = (idx : Int) := by rw [Int.tmod_eq_emod_of_nonneg (by omega), ← hidx]; omega
            obtain ⟨y, hy'⟩ : ∃ y, L[idx]?.getD 0 = y := ⟨_, rfl⟩
            have hyb := hLb idx
            rw [hy'] at hyb
            have d1 : y1.cell? ⟨gT, idx, none⟩ = some (.int .u8 y) := hrow.cell idx _ (by
              rw [List.getElem?_append_left (by simp; omega), List.getElem?_map, List.getElem?_eq_getElem (by omega), ← hy', List.getElem?_eq_getElem (by omega)]
              rfl)
            have f1 : y1.frozen? ⟨gT, idx, none⟩ = false := hrow.frozen idx
            have HGT : Hid (wr.heap.size ≤ gT ∧ gT < y1.heap.size) := ⟨hgT, hrow.lt⟩
            have HM1 : Hid (MAt theRes w y1 rb p0 p1 m S M (Plus own wr y1)) := AtR.plus (theRes.both _ _ _ _ _ _) HM.out hy
            have HRB1 : Hid (RowC y1 B 23 g.cs) := HRBR.out.below hy
            obtain ⟨y2, hy2⟩ : ∃ x, y1.setCell ⟨gT, idx, none⟩ (.int .u8 ((y + 1) % 256)) = x := ⟨_, rfl⟩
            obtain ⟨L2, hL2⟩ : ∃ L2, L.set idx ((y + 1) % 256) = L2 := ⟨_, rfl⟩
            have hL2l : L2.length = nb := by rw [← hL2, List.length_set, hLl]
            have HL2B : Hid (IsBytes L2) := by show IsBytes _; rw [← hL2]; exact hLb.set (by omega)
            have HL2L := Lib.hid hL2l
            have hrow2 : RowC y2 gT 5 (L2.map (Value.int .u8) ++ rest) := by
              have h := hrow.set idx (.int .u8 ((y + 1) % 256))
              rw [List.set_append_left _ _ (by simp; omega), ← List.map_set, hL2, hy2] at h
              exact h
            have hoT : Plus own wr y1 gT := .inr ⟨hgT, hrow.lt⟩
            have HM2 : Hid (MAt theRes w y2 rb p0 p1 m S M (Plus own wr y1)) := by
              show MAt _ _ _ _ _ _ _ _ _ _
              rw [← hy2]
              exact AtR.setCell (theRes.both _ _ _ _ _ _) HM1.out hoT (Nat.le_trans HM.out.size hgT) _
            have HRB2 : Hid (RowC y2 B 23 g.cs) := by
              show RowC _ _ _ _
              rw [← hy2]
              have hne : B ≠ gT := by have := HRBR.out.lt; omega
              exact (Below.heap_setCell y1 ⟨gT, idx, none⟩ _ B hne).trans HRB1.out
            obtain ⟨o2, ho2⟩ : ∃ o, Plus own wr y1 = o := ⟨_, rfl⟩
            have HOB2 : Hid (o2 B) := by show o2 B; rw [← ho2]; exact .inl HOBR.out
            have HV2 : Hid (KeptV o2 y2 (.slice (some ⟨gT, 0, none⟩) nb capT) L2) := by
              refine ⟨?_, HL2B.out, fun _ b off len cap e => by cases e; rw [← ho2]; exact hoT⟩
              have := Sl.at (k := .u8) (w := y2) (b := gT) (off := 0) (cap := capT) (bs := L2) (by rw [hL2l]; exact hcT) hcT2 hrow2.lt (fun j hj => by
                refine hrow2.cell _ _ ?_
                rw [Nat.zero_add, List.getElem?_append_left (by simpa using hj), List.getElem?_map, List.getElem?_eq_getElem hj]
                rfl)
              rwa [hL2l] at this
            rw [ho2] at HM2
            obtain ⟨yb1, yb2⟩ := hyb
            have hcc : capT ≤ 9223372036854775807 := by unfold maxLen at hcT2; omega
            have hnz : (nb : Int) ≠ 0 := by omega
            have HHLB := Lib.hid hlb
            clear hft htr hrow hgT hy hL hLb hLl hidx hy' hrow2 hoT ho2 hcT2 hL2 hL2l hlb
            go_wp2_with fail
            clear d1 f1 hrem hy2 hnz g1
            obtain ⟨T, hcm, hsit⟩ := HSI.out.commit (b := L2) (by have := HKL.out; omega) (by rw [HL2L.out, HHLB.out]) HL2B.out
            obtain ⟨M2, hM2⟩ : ∃ M', M.next L2 = M' := ⟨_, rfl⟩
            have hE : M2.b = L2 := by rw [← hM2]; exact HSI.out.next_b (by rw [HL2L.out, HHLB.out])
            have HG2 : Hid (M2.g = g) := by show _ = _; rw [← hM2]; exact (MS.next_g _ _).trans HMG.out
            rw [hM2] at hsit
            have HST := Lib.hid hsit
            have HE := Lib.hid hE
            have HNX := Lib.hid hM2
            obtain ⟨rm, hrm⟩ : ∃ r, M2.room = r := ⟨_, rfl⟩
            have hrb : 0 ≤ rm ∧ rm ≤ g.r := by
              have h1 := hsit.used
              have h2 := (Geo.nats hsit.good).c
              rw [← hrm]
              unfold MS.room
              rw [HG2.out] at h1 h2 ⊢
              omega
            have HRM := Lib.hid hrm
            obtain ⟨gr, hgr⟩ : ∃ r, g.r = r := ⟨_, rfl⟩
            rw [hgr] at hrb
            obtain ⟨rb1, rb2⟩ := hrb
            have e1 : decide (rm < 0) = false := by simp; omega
            have e2 : decide (gr < rm) = false := by simp; omega
            have e2' : decide (rm > gr) = false := e2
            obtain ⟨vc, yc, HAC, HKC, HBC⟩ := copy_kept (W := y2.drew) (v := .slice (some ⟨gT, 0, none⟩) nb capT) (bs := L2) (HV2.out.below ((Below.refl _ y2).drew)).sl HL2B.out (by rw [HL2L.out]; have := HNB2.out; omega) o2
            obtain ⟨D3, hD3⟩ : ∃ X, y2.drew = X := ⟨_, rfl⟩
            have HD3 : Hid (Below y2.heap.size y2 D3) := by show Below _ _ _; rw [← hD3]; exact (Below.refl _ y2).drew
            have HQD : Hid (D3.heap[B]? = y2.heap[B]?) := by show _ = _; rw [← hD3]; rfl
            rw [hD3] at HAC HKC HBC
            have LR : ∀ z : KeepB B y2, z.1.cell? ⟨B, 4, none⟩ = some (.int .i64 gr) := fun z => by have := (z.row HRB2.out).cell 4 _ rfl; rwa [hgr] at this
            have HGR := Lib.hid hgr
            clear hM2 hE hsit hrm hgr
            refine region_plan (fun u => ∃ y : KeepB B y2, u = y.1) 24 (.takes [0, 2] (.one 1 (.one 3 (.one 4 (.takes [5, 6, 7, 9] (.one 8 (.one 10 (.takes [11, 12, 13, 14] (.one 15 (.takes [16, 17, 18, 19, 21, 22] (.one 20 (.takes [23] .leaf)))))))))))) hmx (by kernel_rfl) (by intro c x v a w h; cases x <;> exact h) ⟨⟨y2.drew, rfl⟩, rfl⟩ ?_
            rw [hD3]
            clear hD3
            repeat (rw [wpPlan_takes_cons]; simp only [nth_zero, nth_succ]; go_big_quiet_step (fail); refine wpQuiet_nil ?_)
            rw [wpPlan_takes_nil, wpPlan_one]
            simp only [nth_zero, nth_succ]
            go_wp2_with fail
            refine planPost_mk ⟨⟨_, by show (D3.alloc _).heap[B]? = _; exact (Below.heap_alloc D3 _ B (Nat.lt_of_lt_of_le HRB2.out.lt HD3.out.size)).trans HQD.out⟩, rfl⟩ ?_
            rw [wpPlan_one]
            simp only [nth_zero, nth_succ]
            (at_builtin; refine wpList_append_run (.tmp 86) (.tmp 87) 37 rfl rfl _ _ _ rfl rfl HAC.out ?_)
            refine wpList_nil ?_
            have HQC : Hid (yc.heap[B]? = y2.heap[B]?) := (HBC.out.block B (Nat.lt_of_lt_of_le HRB2.out.lt HD3.out.size)).trans HQD.out
            refine planPost_mk ⟨⟨yc, HQC.out⟩, rfl⟩ ?_
            have HMC : Hid (MAt theRes w yc rb p0 p1 m S M (Plus o2 D3 yc)) := AtR.plus (theRes.both _ _ _ _ _ _) (AtR.beside (theRes.both _ _ _ _ _ _) HM2.out HD3.out) HBC.out
            have HVC : Hid (KeptV (Plus o2 D3 yc) yc (.slice (some ⟨gT, 0, none⟩) nb capT) L2) := ((HV2.out.below HD3.out).below HBC.out).more fun k hk => .inl hk
            obtain ⟨o3, ho3⟩ : ∃ o, Plus o2 D3 yc = o := ⟨_, rfl⟩
            have HOB3 : Hid (o3 B) := by show o3 B; rw [← ho3]; exact .inl HOB2.out
            rw [ho3] at HMC HVC HKC
            clear ho3
            rw [wpPlan_one]
            simp only [nth_zero, nth_succ]
            go_wp2_with fail
            have hcall := MAt.commit HK.out HMC.out (HSI.out.rdy (by have := HKL.out; omega)) HSI.out.up.down (HSI.out.ok (by have := HKL.out; omega)) HKC.out (by rw [HL2L.out, HHLB.out]) hcm
            refine hcall.mono ?_
            rintro e y3 ⟨rfl, hM3, -, hk3, hs3⟩
            have hM3 := hM3 rfl
            rw [HNX.out] at hM3
            have HM3 := Lib.hid hM3
            have HV3 : Hid (KeptV o3 y3 (.slice (some ⟨gT, 0, none⟩) nb capT) L2) := HVC.out.over hs3 hk3
            have HQ3 : Hid (y3.heap[B]? = y2.heap[B]?) := (hk3 B HOB3.out).trans HQC.out
            clear hcall hM3 hk3 hs3 hcm
            go_wp2_with fail
            refine planPost_mk ⟨⟨y3, HQ3.out⟩, rfl⟩ ?_
            repeat (rw [wpPlan_takes_cons]; simp only [nth_zero, nth_succ]; go_big_quiet_step (fail); refine wpQuiet_nil ?_)
            rw [wpPlan_takes_nil, wpPlan_one]
            simp only [nth_zero, nth_succ]
            go_wp2_with fail
            obtain ⟨fm, hfm⟩ := HM3.out.mem
            have HFM := Lib.hid hfm
            clear hfm
            refine (HK.out.bytes HFM.out (by have := HST.out.len; omega) HST.out.bytes).mono ?_
            rintro e y4 ⟨vb4, rfl, hsb, -, hy⟩
            have HM4 : Hid (MAt theRes w y4 rb p0 p1 m T M2 o3) := AtR.beside (theRes.both _ _ _ _ _ _) HM3.out hy
            have HV4 : Hid (KeptV o3 y4 (.slice (some ⟨gT, 0, none⟩) nb capT) L2) := HV3.out.below hy
            have HQ4 : Hid (y4.heap[B]? = y2.heap[B]?) := (hy.block B (HM3.out.lt HOB3.out)).trans HQ3.out
            have HSB := Lib.hid hsb
            clear hsb hy
            go_wp2_with fail
            refine planPost_mk ⟨⟨y4, HQ4.out⟩, rfl⟩ ?_
            rw [wpPlan_one]
            simp only [nth_zero, nth_succ]
            go_wp2_with fail
            have hkb := keepBytes vb4 _ M2.b L2 y4 HSB.out HV4.out.sl HST.out.bytes HL2B.out
            rw [decide_eq_true HE.out] at hkb
            refine hkb.mono ?_
            rintro e zz ⟨rfl, hz⟩
            obtain rfl := hz.symm
            clear hz hkb
            go_wp2_with fail
            refine planPost_mk ⟨⟨y4, HQ4.out⟩, rfl⟩ ?_
            repeat (rw [wpPlan_takes_cons]; simp only [nth_zero, nth_succ]; go_big_quiet_step (fail); refine wpQuiet_nil ?_)
            rw [wpPlan_takes_nil, wpPlan_one]
            simp only [nth_zero, nth_succ]
            go_wp2_with fail
            obtain ⟨fm, hfm⟩ := HM4.out.mem
            refine (HK.out.room hfm HST.out.good HST.out.used).mono ?_
            rintro e y5 ⟨rfl, hy⟩
            rw [HRM.out]
            have HM5 : Hid (MAt theRes w y5 rb p0 p1 m T M2 o3) := AtR.beside (theRes.both _ _ _ _ _ _) HM4.out hy
            have HV5 : Hid (KeptV o3 y5 (.slice (some ⟨gT, 0, none⟩) nb capT) L2) := HV4.out.below hy
            have HQ5 : Hid (y5.heap[B]? = y2.heap[B]?) := (hy.block B (HM4.out.lt HOB3.out)).trans HQ4.out
            clear hfm hy
            go_wp2_with fail
            refine planPost_mk ⟨⟨y5, HQ5.out⟩, rfl⟩ ?_
            repeat (rw [wpPlan_takes_cons]; simp only [nth_zero, nth_succ]; go_big_quiet_step (fail); refine wpQuiet_nil ?_)
            rw [wpPlan_takes_nil, wpPlan_one]
            simp only [nth_zero, nth_succ]
            go_wp2_with fail
            clear LR
            obtain ⟨fm, hfm⟩ := HM5.out.mem
            refine (HK.out.room hfm HST.out.good HST.out.used).mono ?_
            rintro e y6 ⟨rfl, hy⟩
            rw [HRM.out]
            have HM6 : Hid (MAt theRes w y6 rb p0 p1 m T M2 o3) := AtR.beside (theRes.both _ _ _ _ _ _) HM5.out hy
            have HV6 : Hid (KeptV o3 y6 (.slice (some ⟨gT, 0, none⟩) nb capT) L2) := HV5.out.below hy
            have HQ6 : Hid (y6.heap[B]? = y2.heap[B]?) := (hy.block B (HM5.out.lt HOB3.out)).trans HQ5.out
            have HRB6 : Hid (RowC y6 B 23 g.cs) := HQ6.out.trans HRB2.out
            clear hfm hy
            go_wp2_with fail
            refine planPost_mk ⟨⟨y6, HQ6.out⟩, rfl⟩ ?_
            repeat (rw [wpPlan_takes_cons]; simp only [nth_zero, nth_succ]; go_big_quiet_step (fail); refine wpQuiet_nil ?_)
            rw [wpPlan_takes_nil, wpPlan_leaf]
            simp only [List.drop_succ_cons, List.drop_zero]
            clear e1 e2 e2'
            have HWR : Hid (wrap64 ((k : Int) + 1) = (k : Int) + 1) := IntWalk.wrap64_in _ (by have := HKL.out; omega)
            obtain ⟨q7, hq7⟩ : ∃ q, (k : Int).tmod 7 = q := ⟨_, rfl⟩
            by_cases h7 : q7 = 0
            · have g7 : (q7 == 0) = true := by simpa using h7
              obtain ⟨fQ, q1, q2, hP⟩ := HM6.out.split (theRes.isRes _ _ _)
              have HQM := Lib.hid q1
              have HQN := Lib.hid q2
              have HPP := Lib.hid hP
              clear q1 q2 hP h7
              go_wp2_with fail
              have hop := RAt.openM HK.out HPP.out (HST.out.rdy (by have := HKL.out; omega)) HST.out.up (HST.out.opn (by have := HKL.out; omega))
              refine hop.mono ?_
              rintro e z1 ⟨n1, rfl, hM1, hk1, hs1⟩
              have HR1 := Lib.hid hM1.rat
              obtain ⟨fn, hfn⟩ := hM1.mem
              have HFN := Lib.hid hfn
              have HQ1 : Hid (theRes.Mem m rb M2 z1 fQ) := (theRes.isRes _ _ _).out HQM.out fun k hk => hk1 k (.inr hk)
              have HV7 : Hid (KeptV o3 z1 (.slice (some ⟨gT, 0, none⟩) nb capT) L2) := HV6.out.over hs1 fun k hk => hk1 k (.inl hk)
              have HRB7 : Hid (RowC z1 B 23 g.cs) := rowC_over HRB6.out HOB3.out fun k hk => hk1 k (.inl hk)
              clear hop hM1 hk1 hs1 hfn
              go_wp2_with fail
              refine (HK.out.bytes HFN.out (by have := HST.out.len; omega) HST.out.bytes).mono ?_
              rintro e z2 ⟨v1, rfl, hs1, -, hy⟩
              have HZ2 : Hid (Below z1.heap.size z1 z2) := hy
              have HS1 := Lib.hid hs1
              have HV8 : Hid (KeptV o3 z2 (.slice (some ⟨gT, 0, none⟩) nb capT) L2) := HV7.out.below hy
              clear hs1 hy
              go_wp2_with fail
              have hkb := keepBytes v1 _ M2.b L2 z2 HS1.out HV8.out.sl HST.out.bytes HL2B.out
              rw [decide_eq_true HE.out] at hkb
              refine hkb.mono ?_
              rintro e zz ⟨rfl, hz⟩
              obtain rfl := hz.symm
              clear hz hkb
              go_wp2_with fail
              refine (HK.out.room ((theRes.isRes _ _ _).below HFN.out HZ2.out) HST.out.good HST.out.used).mono ?_
              rintro e z3 ⟨rfl, hy⟩
              rw [HRM.out]
              have HZ3 : Hid (Below z1.heap.size z1 z3) := HZ2.out.trans (hy.mono HZ2.out.size)
              clear hy
              go_wp2_with fail
              refine (HK.out.room ((theRes.isRes _ _ _).below HQ1.out HZ3.out) HST.out.good HST.out.used).mono ?_
              rintro e z4 ⟨rfl, hy⟩
              rw [HRM.out]
              have HZ4 : Hid (Below z1.heap.size z1 z4) := HZ3.out.trans (hy.mono HZ3.out.size)
              have HM9 : Hid (MAt theRes w z4 rb p0 p1 m T M2 o3) := AtR.join ((theRes.isRes _ _ _).below HQ1.out HZ4.out) HQN.out (RAt.beside HR1.out HZ4.out)
              have HV9 : Hid (KeptV o3 z4 (.slice (some ⟨gT, 0, none⟩) nb capT) L2) := HV7.out.below HZ4.out
              have HRB9 : Hid (RowC z4 B 23 g.cs) := HRB7.out.below HZ4.out
              clear hy
              go_wp2_with fail
              have hfin : LongI theRes g B rb p0 p1 m w z4 (k + 1) (.slice (some ⟨gT, 0, none⟩) nb capT) := ⟨T, M2, o3, HOB3.out, HM9.out, by rw [HE.out]; exact HV9.out, HRB9.out, HST.out, HG2.out⟩
              exact ⟨tornR HWR.out HLT2.out hfin, next_lt HWR.out HLT2.out⟩
            · have g7 : (q7 == 0) = false := by simpa using h7
              clear h7
              go_wp2_with fail
              have hfin : LongI theRes g B rb p0 p1 m w y6 (k + 1) (.slice (some ⟨gT, 0, none⟩) nb capT) := ⟨T, M2, o3, HOB3.out, HM6.out, by rw [HE.out]; exact HV6.out, HRB6.out, HST.out, HG2.out⟩
              exact ⟨tornR HWR.out HLT2.out hfin, next_lt HWR.out HLT2.out⟩
          · obtain rfl : k = nn := by omega
            clear hk
            go_wp2_with fail
            refine (HW.out _).mono ?_
            rintro e xz ⟨rfl, hx⟩
            have HXZ : Hid (Below w.heap.size w xz) := HM.out.bel.trans (hx.mono HM.out.size)
            clear hx
            go_wp2_with fail
            go_ret
            first | exact ⟨rfl, HXZ.out⟩ | exact ⟨rfl, by rw [← hB]; exact HXZ.out⟩
    · rw [decide_eq_false hgd] at HGD
      clear hgd
      go_enter Tryz.func5, Tryz.ntmps5
      go_wp2_with fail
      refine hlt.mono ?_
      rintro e x1 ⟨rfl, hx⟩
      have HX1 : Hid (Below W.heap.size W x1) := hx
      have L1 := load_geo (HR0.out.below hx)
      clear hx hlt LG0
      go_wp2_with fail
      refine (HGD.out _).mono ?_
      rintro e x2 ⟨rfl, hx⟩
      have HX2 : Hid (Below W.heap.size W x2) := HX1.out.trans (hx.mono HX1.out.size)
      clear hx L1 HGD
      go_wp2_with fail
      refine (HW.out _).mono ?_
      rintro e xz ⟨rfl, hx⟩
      have HXZ : Hid (Below w.heap.size w xz) := HB0.out.trans ((HX2.out.trans (hx.mono HX2.out.size)).mono HB0.out.size)
      clear hx
      go_wp2_with fail
      go_ret
      first | exact ⟨rfl, HXZ.out⟩ | exact ⟨rfl, by rw [← hB]; exact HXZ.out⟩
  · rw [decide_eq_false hg] at hlt
    clear hg
    go_enter Tryz.func5, Tryz.ntmps5
    go_wp2_with fail
    refine hlt.mono ?_
    rintro e x1 ⟨rfl, hx⟩
    have HX1 : Hid (Below W.heap.size W x1) := hx
    have L1 := load_geo (HR0.out.below hx)
    clear hx hlt LG0
    clear L1
    go_wp2_with fail
    refine (HW.out _).mono ?_
    rintro e xz ⟨rfl, hx⟩
    have HXZ : Hid (Below w.heap.size w xz) := HB0.out.trans ((HX1.out.trans (hx.mono HX1.out.size)).mono HB0.out.size)
    clear hx
    go_wp2_with fail
    go_ret
    first | exact ⟨rfl, HXZ.out⟩ | exact ⟨rfl, by rw [← hB]; exact HXZ.out⟩

set_option maxRecDepth 100000 in
theorem lifted (os : Os) (started : os.Started) (H : Type) (enc : TypeId × Value → H) :
    ReturnsInHanded {} Tryz.checked os 5 .any (Rows.metaLongSpec.pre6 enc Tryz.prog Tryz.f5 Rows.metaLongRow.domain false) (Rows.metaLongSpec.post enc Tryz.prog Tryz.f5 false true false false) := by
  refine returnsInHanded_of_change (C := Tryz.checked) own started (by kernel_rfl) Tryz.func5
    (ChangeSpec.witness6 (enc := enc) (C := Tryz.checked) false ⟨#[], #[.agg #[.int .i64 0, .int .i64 0, .int .i64 0, .int .i64 0, .int .i64 0], .int .u8 0, .slice none 0 0], []⟩ 8 (by kernel_rfl) (by kernel_rfl) (by kernel_rfl) (by kernel_rfl)) ?_
  intro W base args ds gs before hval0 hW hcnd _
  have hval : ∀ (j : Nat) t v, Tryz.f5.params[j]? = some t → args[j]? = some v → Value.okWide Tryz.prog W .any base t v := hval0
  have hW' := hW
  obtain ⟨p, q, hA0, hV, rfl, hfz, hnd⟩ := hW
  have hA : DataW.TrodAll enc Tryz.prog W 0 (fun _ => true) true Tryz.f5.params.toList args.toList ds p := hA0
  rw [Tryz.params5] at hA hval
  obtain ⟨v0, vs0, d0, ds0, p0, q0, hargs, rfl, rfl, h0, r0⟩ := trodAll_cons hA
  obtain ⟨v1, vs1, d1, ds1, p1, q1, rfl, rfl, rfl, h1, r1⟩ := trodAll_cons r0
  obtain ⟨v2, vs2, d2, ds2, p2, q2, rfl, rfl, rfl, h2, r2⟩ := trodAll_cons r1
  obtain ⟨rfl, rfl, rfl⟩ := trodAll_nil r2
  obtain rfl : args = #[v0, v1, v2] := by cases args; simp_all
  obtain ⟨rfl, rfl⟩ := trodVars_none hV
  have lt0 : ∀ x ∈ p0, x.block < W.heap.size := by obtain ⟨m, hm⟩ := h0; exact DataW.trod_lt m _ _ _ hm
  have a0 := Arg.mk (hval 0 23 v0 rfl rfl) h0
  have lt1 : ∀ x ∈ p1, x.block < W.heap.size := by obtain ⟨m, hm⟩ := h1; exact DataW.trod_lt m _ _ _ hm
  have a1 := Arg.mk (hval 1 5 v1 rfl rfl) h1
  have lt2 : ∀ x ∈ p2, x.block < W.heap.size := by obtain ⟨m, hm⟩ := h2; exact DataW.trod_lt m _ _ _ hm
  have a2 := Arg.mk (hval 2 47 v2 rfl rfl) h2
  clear hA0 hval0
  refine (walk v0 v1 v2 W a0 a1 a2).mono fun e W' ⟨he, bel⟩ => ?_
  subst he
  exact ⟨_, rfl, _, _, _, [], _, [], hW', trodAll_mk1 (shut_bool Tryz.underlying4 _), (trodAll_cons_mk (Below.trod laidOut (by kernel_rfl) (of_decide_eq_true (by kernel_rfl)) h0 bel lt0) (trodAll_cons_mk (Below.trod laidOut (by kernel_rfl) (of_decide_eq_true (by kernel_rfl)) h1 bel lt1) (trodAll_cons_mk (Below.trod laidOut (by kernel_rfl) (of_decide_eq_true (by kernel_rfl)) h2 bel lt2) trodAll_mk0))), rfl, bel.frame _, fun h => by cases h⟩

set_option maxRecDepth 100000 in
theorem over : Rows.metaLongRow.holds Tryz.pinned (OpenSpec.ofChange Rows.metaLongSpec) :=
  OpenClaim.holds_of_wide 5 Tryz.f5 rfl rfl rfl rfl rfl rfl rfl ⟨rfl, rfl, rfl, rfl, rfl⟩ rfl rfl rfl rfl rfl (by kernel_rfl) Tryz.func5 (by kernel_rfl)
    (of_decide_eq_true (by kernel_rfl)) (by unfold Func.isWrapper; first | (rw [if_pos (by decide +kernel)]; kernel_rfl) | (rw [if_neg (by decide +kernel)]; exact ⟨rfl, rfl⟩))
    (fun os started H enc _ => lifted os started H enc)

theorem proved : Rows.MetaLongSaid := over
#print axioms proved
end Go.Proofs.YtbdfllamhcodjaaGreat.metaLong
