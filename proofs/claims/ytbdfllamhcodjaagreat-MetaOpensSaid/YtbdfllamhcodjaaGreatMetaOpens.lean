/- Open writes nothing and tells the same each time; where the superblocks are spoilt it tells nothing (P8.2). -/
import Derived.Test.YtbdfllamhcodjaaGreatH7
namespace Go.Proofs.YtbdfllamhcodjaaGreat.metaOpens
open Go.ChangeShapes Go.WideShapes Go.ChangeAt Go.RowKit
set_option linter.unusedVariables false
attribute [-simp] Tryz.isAgg23 Tryz.zeroValue23 Tryz.isAgg60 Tryz.zeroValue60 Tryz.isAgg39 Tryz.zeroValue39
attribute [-go_sem] loadVar storeVar run_equalIn_agg
attribute [local go_sem] loadVar_openM storeVar_openM zero_geo build_geo0 zero_szs zero_blk build_blk

set_option maxRecDepth 100000 in
set_option maxHeartbeats 20000000 in
theorem walk (v0 v1 : Value) (w : World) (w0 : Arg w 23 v0) (w1 : Arg w 89 v1) :
    Calls Tryz.prog 8 #[v0, v1] w fun e w' => e = .returned (.bool true) ∧ Below w.heap.size w w' := by
  obtain ⟨g, hin, rfl⟩ := w0.geo
  obtain ⟨L, hL⟩ := w1.prsS
  have hmx : Tryz.prog.follows .mixedOrders = true := by kernel_rfl
  obtain ⟨a, cap, rfl, hcap, hcm, -⟩ := id hL
  obtain ⟨len, hlen⟩ : ∃ n, L.length = n := ⟨_, rfl⟩
  have HLEN := Lib.hid hlen
  rw [hlen] at hL ⊢
  have HL := Lib.hid hL
  have HK := Lib.hid metaOk
  have HW := Lib.hid (metaWakes metaOk)
  have HIN := Lib.hid hin
  obtain ⟨W, hW⟩ : ∃ W, w.alloc (.cells g.v 23) = W := ⟨_, rfl⟩
  have r0 : RowC W w.heap.size 23 g.cs := by rw [← hW]; exact RowC.new w _ _
  have HB0 : Hid (Below w.heap.size w W) := by show Below _ _ _; rw [← hW]; exact below_new w _
  obtain ⟨B, hB⟩ : ∃ b, w.heap.size = b := ⟨_, rfl⟩
  rw [hB] at r0
  have HR0 := Lib.hid r0
  have LG0 : (loadVar 23 ⟨B, 0, none⟩).run Tryz.prog W = .ok (.agg g.v) W := load_geo r0
  clear w0 w1 r0 hin hL hcap hcm hlen
  by_cases hl : 20 < len
  · have g1 : decide ((20 : Int) < (len : Int)) = true := by simp; omega
    clear hl LG0
    go_enter Tryz.func8, Tryz.ntmps8
    have HX0 : Hid (Below W.heap.size W W) := Below.refl _ _
    go_wp2_with fail
    refine (HW.out _).mono ?_
    rintro e xz ⟨rfl, hx⟩
    have HXZ : Hid (Below w.heap.size w xz) := HB0.out.trans ((HX0.out.trans (hx.mono HX0.out.size)).mono HB0.out.size)
    clear hx
    go_wp2_with fail
    go_ret
    first | exact ⟨rfl, HXZ.out⟩ | exact ⟨rfl, by rw [← hB]; exact HXZ.out⟩
  · have g1 : decide ((20 : Int) < (len : Int)) = false := by simp; omega
    have HLlen : Hid (len ≤ 20) := by show _ ≤ _; omega
    clear hl
    have hlt := lawLight g W
    by_cases hg : g.light
    · rw [decide_eq_true hg] at hlt
      have HLT := Lib.hid hg
      have HGD := Lib.hid (fun x => refGood7 g x)
      clear hg
      by_cases hgd : g.good
      · rw [decide_eq_true hgd] at HGD
        have HGO := Lib.hid hgd
        clear hgd
        go_enter Tryz.func8, Tryz.ntmps8
        go_wp2_with fail
        refine hlt.mono ?_
        rintro e x1 ⟨rfl, hx⟩
        have HX1 : Hid (Below W.heap.size W x1) := hx
        have L1 := load_geo (HR0.out.below hx)
        clear hx hlt LG0
        go_wp2_with fail
        refine (HGD.out _).mono ?_
        rintro e x2 ⟨rfl, hx⟩
        have HX2 : Hid (Below W.heap.size W x2) := HX1.out.trans (hx.mono HX1.out.size)
        clear hx L1 HGD
        have LG : ∀ z : Ext x2, (loadVar 23 ⟨B, 0, none⟩).run Tryz.prog z.1 = .ok (.agg g.v) z.1 := fun z => load_geo ((HR0.out.below HX2.out).below z.2)
        have hN := Geo.nats HGO.out
        have hoF : g.oF = ((2 + g.C + g.P + g.slots.toNat : Nat) : Int) := by have := hN.f; have := hN.s1; omega
        have hoW : g.oW = ((g.b + g.a).toNat : Int) := by
          have h := HGO.out.1
          have e : g.oW = g.b + g.a := if_pos HGO.out
          have := h.1
          have := h.2.2.2.2.2.2.1
          omega
        obtain ⟨nf, hnf⟩ : ∃ n : Nat, 2 + g.C + g.P + g.slots.toNat = n := ⟨_, rfl⟩
        obtain ⟨nw, hnw⟩ : ∃ n : Nat, (g.b + g.a).toNat = n := ⟨_, rfl⟩
        rw [hnf] at hoF
        rw [hnw] at hoW
        have hfb : 1 ≤ nf ∧ nf ≤ 4096 := by have := hN.c2; have := hN.p2; have := (Geo.bounds HGO.out.1).2.1; omega
        have hwb : 1 ≤ nw ∧ nw ≤ 4096 := by have h := HGO.out.1; have := h.1; have := h.2.1; have := h.2.2.2.2.2.2.1; have := h.2.2.2.2.2.2.2; omega
        have HOF := Lib.hid hoF
        have HOW := Lib.hid hoW
        have HFB := Lib.hid hfb
        have HWB := Lib.hid hwb
        have HN := Lib.hid hN
        clear hoF hoW hfb hwb hN hnf hnw
        go_wp2_with fail
        obtain ⟨D1, hD1⟩ : ∃ X, x2.drew = X := ⟨_, rfl⟩
        have HD1 : Hid (Below x2.heap.size x2 D1) := by show Below _ _ _; rw [← hD1]; exact (Below.refl _ x2).drew
        refine region_plan (fun u => ∃ y : Ext x2, u = y.1) 9 (.takes [0, 2] (.one 1 (.one 3 (.one 4 (.takes [5, 6, 8, 7] .leaf))))) hmx (by kernel_rfl) (by intro c x v a w h; cases x <;> exact h) ⟨⟨x2.drew, (Below.refl _ x2).drew⟩, rfl⟩ ?_
        rw [hD1]
        clear hD1
        repeat (rw [wpPlan_takes_cons]; simp only [nth_zero, nth_succ]; go_big_quiet_step (fail); refine wpQuiet_nil ?_)
        rw [wpPlan_takes_nil, wpPlan_one]
        simp only [nth_zero, nth_succ]
        go_wp2_with fail
        refine (gmFast g HIN.out _).mono ?_
        rintro e x3 ⟨rfl, hx⟩
        rw [HOF.out]
        have HE3 : Hid (Below x2.heap.size x2 x3) := HD1.out.trans (hx.mono HD1.out.size)
        clear hx
        go_wp2_with fail
        refine planPost_mk ⟨⟨x3, HE3.out⟩, rfl⟩ ?_
        rw [wpPlan_one]
        simp only [nth_zero, nth_succ]
        go_wp2_with fail
        refine (gmSlow g HIN.out _).mono ?_
        rintro e x4 ⟨rfl, hx⟩
        rw [HOW.out]
        have HE4 : Hid (Below x2.heap.size x2 x4) := HE3.out.trans (hx.mono HE3.out.size)
        clear hx
        go_wp2_with fail
        refine planPost_mk ⟨⟨x4, HE4.out⟩, rfl⟩ ?_
        rw [wpPlan_one]
        simp only [nth_zero, nth_succ]
        go_wp2_with fail
        have HX4 : Hid (Below W.heap.size W x4) := HX2.out.trans (HE4.out.mono HX2.out.size)
        have hnew := RAt.new nf nw w x4 (HB0.out.trans (HX4.out.mono HB0.out.size)) HFB.out.1 HFB.out.2 HWB.out.1 HWB.out.2 (fun k => k = B) (fun k hk => by rw [hk]; exact (HR0.out.below HX4.out).lt)
        refine hnew.mono ?_
        rintro e x5 ⟨rb, p0, p1, rfl, hR5, hx⟩
        have HE5 : Hid (Below x2.heap.size x2 x5) := HE4.out.trans (hx.mono HE4.out.size)
        have HX5 : Hid (Below W.heap.size W x5) := HX4.out.trans (hx.mono HX4.out.size)
        have HR5 := Lib.hid hR5
        clear hnew hx hR5 LG
        go_wp2_with fail
        refine planPost_mk ⟨⟨x5, HE5.out⟩, rfl⟩ ?_
        repeat (rw [wpPlan_takes_cons]; simp only [nth_zero, nth_succ]; go_big_quiet_step (fail); refine wpQuiet_nil ?_)
        rw [wpPlan_takes_nil, wpPlan_leaf]
        simp only [List.drop_succ_cons, List.drop_zero]
        go_wp2_with fail
        have HRB5 : Hid (RowC x5 B 23 g.cs) := HR0.out.below HX5.out
        have LG : ∀ z : KeepB B x5, (loadVar 23 ⟨B, 0, none⟩).run Tryz.prog z.1 = .ok (.agg g.v) z.1 := fun z => load_geo (z.row HRB5.out)
        obtain ⟨o1, o2, o3, o4, o5, o6, o7, o8, hszl, -, -, ho1, -⟩ := g.szl_eq
        obtain ⟨nb, hnb⟩ : ∃ n : Nat, g.bts.toNat = n := ⟨_, rfl⟩
        have hob : o1 = (nb : Int) := by rw [ho1, ← hnb]; show (if g.good then g.bts else 0) = _; rw [if_pos HGO.out, HN.out.b]
        have HNB := Lib.hid hnb
        have HNB2 : Hid (nb ≤ 714) := by show _ ≤ _; rw [← hnb]; exact HN.out.b2
        have HOB := Lib.hid hob
        clear hob hnb ho1
        obtain ⟨D2, hD2⟩ : ∃ X, x5.drew = X := ⟨_, rfl⟩
        have HD2 : Hid (Below x5.heap.size x5 D2) := by show Below _ _ _; rw [← hD2]; exact (Below.refl _ x5).drew
        have HQD2 : Hid (D2.heap[B]? = x5.heap[B]?) := by show _ = _; rw [← hD2]; rfl
        refine region_plan (fun u => ∃ y : KeepB B x5, u = y.1) 11 (.takes [0, 1, 2] (.one 3 (.takes [4] (.one 5 (.one 6 (.takes [7, 8, 10, 9] .leaf)))))) hmx (by kernel_rfl) (by intro c x v a w h; cases x <;> exact h) ⟨⟨x5.drew, rfl⟩, rfl⟩ ?_
        rw [hD2]
        clear hD2
        repeat (rw [wpPlan_takes_cons]; simp only [nth_zero, nth_succ]; go_big_quiet_step (fail); refine wpQuiet_nil ?_)
        rw [wpPlan_takes_nil, wpPlan_one]
        simp only [nth_zero, nth_succ]
        go_wp2_with fail
        refine (refOf g _).mono ?_
        rintro e x6 ⟨rfl, hx⟩
        rw [hszl, HOB.out]
        have HE6 : Hid (Below x5.heap.size x5 x6) := HD2.out.trans (hx.mono HD2.out.size)
        have HQ6 : Hid (x6.heap[B]? = x5.heap[B]?) := HE6.out.block B HRB5.out.lt
        clear hx hszl
        go_wp2_with fail
        refine planPost_mk ⟨⟨x6, HQ6.out⟩, rfl⟩ ?_
        have FS := fun z : KeepB B x5 => field_szs (nb : Int) o2 o3 o4 o5 o6 o7 o8 z.1
        repeat (rw [wpPlan_takes_cons]; simp only [nth_zero, nth_succ]; go_big_quiet_step (fail); refine wpQuiet_nil ?_)
        rw [wpPlan_takes_nil, wpPlan_one]
        simp only [nth_zero, nth_succ]
        clear FS LG
        obtain ⟨x7, hmk, hs7, hg7, -⟩ := make_zeros x6 nb (by have := HNB2.out; omega)
        have HMK := Lib.hid hmk
        have hx67 : Below x6.heap.size x6 x7 := (Below.refl _ _).grown hg7 (Nat.le_refl _) (fun k e => by cases e)
        have HE7 : Hid (Below x5.heap.size x5 x7) := HE6.out.trans (hx67.mono HE6.out.size)
        have HQ7 : Hid (x7.heap[B]? = x5.heap[B]?) := HE7.out.block B HRB5.out.lt
        have HS7 := Lib.hid hs7
        refine wpList_make_run _ _ _ rfl rfl _ _ _ rfl rfl HMK.out ?_
        refine wpList_nil ?_
        refine planPost_mk ⟨⟨x7, HQ7.out⟩, rfl⟩ ?_
        rw [wpPlan_one]
        simp only [nth_zero, nth_succ]
        go_wp2_with fail
        have hR7 : RAt w x7 rb p0 p1 (newS nf nw) (Plus (fun k => k = B) x6 x7) := AtR.plus (RigR.isRes _ _ _ _) (RAt.beside HR5.out HE6.out) hx67
        have hK7 : KeptV (Plus (fun k => k = B) x6 x7) x7 (.slice (some ⟨x6.heap.size, 0, none⟩) nb nb) (List.replicate nb 0) := KeptV.new HS7.out (zeros_bytes nb) fun b off len cap e => by cases e; exact Nat.le_refl _
        have hfm := RAt.format HK.out hR7 (newS_rdy HFB.out.2 HWB.out.2) (newS_up _ _) HIN.out HGO.out (by rw [HOF.out]; exact Int.le_refl _) (by rw [HOW.out]; exact Int.le_refl _) hK7 (by rw [List.length_replicate, HNB.out])
        clear hmk hs7 hg7 hx67
        refine hfm.mono ?_
        rintro e x8 ⟨m, rfl, hM8, hk8, hsz8⟩
        have HS8 := Lib.hid (Sit.fmt (b := List.replicate nb 0) HFB.out.2 HWB.out.2 HGO.out (by rw [HOF.out]; exact Int.le_refl _) (by rw [HOW.out]; exact Int.le_refl _) (by rw [List.length_replicate, HNB.out]) (zeros_bytes nb))
        have HM8 : Hid (MAt theRes w x8 rb p0 p1 m ((newS nf nw).bat (fmtB g (List.replicate nb 0))).1 (MS.new g (List.replicate nb 0)) (fun k => k = B)) := hM8.less _ fun k hk => .inl hk
        have HQ8 : Hid (x8.heap[B]? = x5.heap[B]?) := (hk8 B (.inl rfl)).trans HQ7.out
        have HRB8 : Hid (RowC x8 B 23 g.cs) := HQ8.out.trans HRB5.out
        clear hfm hR7 hK7 hM8 hk8 hsz8
        go_wp2_with fail
        refine planPost_mk ⟨⟨x8, HQ8.out⟩, rfl⟩ ?_
        repeat (rw [wpPlan_takes_cons]; simp only [nth_zero, nth_succ]; go_big_quiet_step (fail); refine wpQuiet_nil ?_)
        rw [wpPlan_takes_nil, wpPlan_leaf]
        simp only [List.drop_succ_cons, List.drop_zero]
        obtain ⟨S0, hS0⟩ : ∃ S, ((newS nf nw).bat (fmtB g (List.replicate nb 0))).1 = S := ⟨_, rfl⟩
        obtain ⟨M0, hM0⟩ : ∃ M, MS.new g (List.replicate nb 0) = M := ⟨_, rfl⟩
        have HG0 : Hid (M0.g = g ∧ M0.b = List.replicate nb 0 ∧ M0.room = g.r) := by show _ ∧ _ ∧ _; rw [← hM0]; exact ⟨rfl, rfl, by unfold MS.room; show g.r - ((0 : Nat) : Int) = _; omega⟩
        rw [hS0, hM0] at HS8 HM8
        clear hS0 hM0
        have HLL := HLlen
        clear HLlen
        go_wp2_with fail
        go_loopw [9] (fun i wr => ∃ k : Nat, k ≤ len ∧ i = .int .i64 k ∧ Hid (∃ S M, MAt theRes w wr rb p0 p1 m S M (fun k => k = B) ∧ Sit S M k ∧ M.g = g)) (fun i _ => len - (intOf i).toNat)
        case atStart => exact ⟨0, Nat.zero_le _, rfl, S0, M0, HM8.out, HS8.out, HG0.out.1⟩
        case round =>
          obtain ⟨k, hk, rfl, HSM⟩ := hrel
          obtain ⟨S, M, hM, hSi, hMg⟩ := HSM.out
          have HM := Lib.hid hM
          have HSI := Lib.hid hSi
          have HMG := Lib.hid hMg
          clear HSM hM hSi hMg
          by_cases hlt : k < len
          · have g1 : decide ((k : Int) < (len : Int)) = true := by simp; omega
            obtain ⟨ps, hps⟩ : ∃ ps, L[k]? = some ps := ⟨_, List.getElem?_eq_getElem (by rw [HLEN.out]; exact hlt)⟩
            have hne : L ≠ [] := fun e => by rw [e] at hps; simp at hps
            have HKL : Hid (k ≤ 20) := by show _ ≤ _; have := HLL.out; omega
            have HLT2 := Lib.hid hlt
            have HWR : Hid (wrap64 ((k : Int) + 1) = (k : Int) + 1) := IntWalk.wrap64_in _ (by have := HKL.out; omega)
            obtain ⟨bl, off, rfl, he1, he2, he3, he4⟩ := PrsS.elem HL.out hne
            obtain ⟨ra, rc, hel⟩ := he4 k ps hps
            have HELM := Lib.hid hel
            have d1 := (hel wr HM.out.bel).1
            by_cases hbig : 30 < ps.length
            · have g2 : decide ((30 : Int) < (ps.length : Int)) = true := by simp; omega
              clear hbig hps hne hel he1 he2 he3 he4 hlt
              go_wp2_with fail
              refine (HW.out _).mono ?_
              rintro e xz ⟨rfl, hx⟩
              have HXZ : Hid (Below w.heap.size w xz) := HM.out.bel.trans (hx.mono HM.out.size)
              clear hx
              go_wp2_with fail
              go_ret
              first | exact ⟨rfl, HXZ.out⟩ | exact ⟨rfl, by rw [← hB]; exact HXZ.out⟩
            · have g2 : decide ((30 : Int) < (ps.length : Int)) = false := by simp; omega
              clear hbig hps hel he1 he2 he3 he4 hlt
              go_wp2_with fail
              have hbl : Hid (bl < w.heap.size) := by
                have h := HL.out
                obtain ⟨a', c', e, _, _, h3⟩ := h
                rcases h3 with h3 | ⟨b', o', e', h5, _⟩
                · exact absurd h3 hne
                · cases e; cases e'; exact h5
              have LC : ∀ z : KeepB bl wr, z.1.cell? ⟨bl, off + k, none⟩ = some (.slice ra ps.length rc) := fun z => (World.cell?_of_block (a := ⟨bl, off + k, none⟩) z.2).trans d1
              obtain ⟨D3, hD3⟩ : ∃ X, wr.drew = X := ⟨_, rfl⟩
              have HD3 : Hid (Below wr.heap.size wr D3) := by show Below _ _ _; rw [← hD3]; exact (Below.refl _ wr).drew
              have HMD : Hid (MAt theRes w D3 rb p0 p1 m S M (fun k => k = B)) := AtR.beside (theRes.both _ _ _ _ _ _) HM.out HD3.out
              have HQD : Hid (D3.heap[bl]? = wr.heap[bl]?) := by show _ = _; rw [← hD3]; rfl
              refine region_plan (fun u => ∃ y : KeepB bl wr, u = y.1) 9 (.takes [0, 1, 3, 4, 5, 6] (.one 2 (.one 7 (.one 8 .leaf)))) hmx (by kernel_rfl) (by intro c x v a w h; cases x <;> exact h) ⟨⟨wr.drew, rfl⟩, rfl⟩ ?_
              rw [hD3]
              clear hD3
              repeat (rw [wpPlan_takes_cons]; simp only [nth_zero, nth_succ]; go_big_quiet_step (fail); refine wpQuiet_nil ?_)
              rw [wpPlan_takes_nil, wpPlan_one]
              simp only [nth_zero, nth_succ]
              go_wp2_with fail
              clear LC
              obtain ⟨fm, hfm⟩ := HMD.out.mem
              refine (HK.out.bytes hfm (by have := HSI.out.len; omega) HSI.out.bytes).mono ?_
              rintro e y1 ⟨vb, rfl, hsb, -, hy⟩
              have HM1 : Hid (MAt theRes w y1 rb p0 p1 m S M (fun k => k = B)) := AtR.beside (theRes.both _ _ _ _ _ _) HMD.out hy
              have HQ1 : Hid (y1.heap[bl]? = wr.heap[bl]?) := (hy.block bl (Nat.lt_of_lt_of_le hbl.out HMD.out.size)).trans HQD.out
              have HSB := Lib.hid hsb
              clear hfm hsb hy
              go_wp2_with fail
              refine planPost_mk ⟨⟨y1, HQ1.out⟩, rfl⟩ ?_
              rw [wpPlan_one]
              simp only [nth_zero, nth_succ]
              go_wp2_with fail
              have hpr : Prs y1 (.slice ra ps.length rc) ps := (HELM.out y1 HM1.out.bel).2
              refine (lawTurned vb _ M.b ps y1 HSB.out HSI.out.bytes hpr (by have := HSI.out.len; omega)).mono ?_
              rintro e y2 ⟨vt, rfl, hst, hft, hy⟩
              have HM2 : Hid (MAt theRes w y2 rb p0 p1 m S M (Plus (fun k => k = B) y1 y2)) := AtR.plus (theRes.both _ _ _ _ _ _) HM1.out hy
              have HKV : Hid (KeptV (Plus (fun k => k = B) y1 y2) y2 vt (turnL M.b ps)) := KeptV.new hst (turnL_bytes _ _ HSI.out.bytes) hft
              have HQ2 : Hid (y2.heap[bl]? = wr.heap[bl]?) := (hy.block bl (Nat.lt_of_lt_of_le hbl.out HM1.out.size)).trans HQ1.out
              clear hpr hst hft hy
              go_wp2_with fail
              refine planPost_mk ⟨⟨y2, HQ2.out⟩, rfl⟩ ?_
              rw [wpPlan_one]
              simp only [nth_zero, nth_succ]
              go_wp2_with fail
              obtain ⟨T, hcm, hsit⟩ := HSI.out.commit (b := turnL M.b ps) (by have := HKL.out; omega) (turnL_length _ _) (turnL_bytes _ _ HSI.out.bytes)
              have HST := Lib.hid hsit
              have hcall := MAt.commit HK.out HM2.out (HSI.out.rdy (by have := HKL.out; omega)) HSI.out.up.down (HSI.out.ok (by have := HKL.out; omega)) HKV.out (turnL_length _ _) hcm
              refine hcall.mono ?_
              rintro e y3 ⟨rfl, hM3, -, -, -⟩
              have HM3 : Hid (MAt theRes w y3 rb p0 p1 m T (M.next (turnL M.b ps)) (fun k => k = B)) := (hM3 rfl).less _ fun k hk => .inl hk
              have HQ3 : Hid (y3.heap[bl]? = wr.heap[bl]?) := (HM3.out.bel.block bl hbl.out).trans (HM.out.bel.block bl hbl.out).symm
              clear hcall hM3 hcm hsit
              go_wp2_with fail
              refine planPost_mk ⟨⟨y3, HQ3.out⟩, rfl⟩ ?_
              rw [wpPlan_leaf]
              simp only [List.drop_succ_cons, List.drop_zero]
              go_wp2_with fail
              refine ⟨next_rel (C := fun k' => Hid (∃ S M, MAt theRes w _ rb p0 p1 m S M (fun k => k = B) ∧ Sit S M k' ∧ M.g = g)) HWR.out HLT2.out ⟨T, _, HM3.out, HST.out, (MS.next_g _ _).trans HMG.out⟩, next_lt HWR.out HLT2.out⟩
          · obtain rfl : k = len := by omega
            have HKS : Hid (k ≤ 200) := by show _ ≤ _; have := HLL.out; omega
            clear hlt hk
            go_wp2_with fail
            have HDN := Lib.hid (RAt.done HM.out.rat)
            go_wp2_with fail
            refine HDN.out.mono ?_
            rintro e zz ⟨rfl, hz⟩
            obtain rfl := hz.symm
            clear hz
            go_wp2_with fail
            go_loopw [11] (fun i wr => ∃ k : Nat, k ≤ 2 ∧ i = .int .i64 k ∧ Hid (MAt theRes w wr rb p0 p1 m S M (fun k => k = B))) (fun i _ => 2 - (intOf i).toNat)
            case atStart => exact ⟨0, Nat.zero_le _, rfl, HM⟩
            case round =>
              obtain ⟨k, hk, rfl, HM⟩ := hrel
              have HKW := Lib.hid hk
              by_cases hlt : k < 2
              · have g1 : decide ((k : Int) < 2) = true := by simp; omega
                obtain ⟨fQ, q1, q2, hP⟩ := HM.out.split (theRes.isRes _ _ _)
                have HQM := Lib.hid q1
                have HQ2 := Lib.hid q2
                have HPP := Lib.hid hP
                have HLT2 := Lib.hid hlt
                clear q1 q2 hP hk hlt
                go_wp2_with fail
                have hop := RAt.openM HK.out HPP.out (HSI.out.rdy HKS.out) HSI.out.up (HSI.out.opn HKS.out)
                refine hop.mono ?_
                rintro e y1 ⟨n, rfl, hM1, hk1, hs1⟩
                have HN1 := Lib.hid hM1
                have HQ1 : Hid (theRes.Mem m rb M y1 fQ) := (theRes.isRes _ _ _).out HQM.out fun k hk => hk1 k (.inr hk)
                have HR1 := Lib.hid hM1.rat
                obtain ⟨fn, hfn⟩ := hM1.mem
                have HFN := Lib.hid hfn
                clear hop hM1 hk1 hs1 hfn
                go_wp2_with fail
                refine (HK.out.bytes HFN.out (by have := HSI.out.len; omega) HSI.out.bytes).mono ?_
                rintro e y2 ⟨v1, rfl, hs1, -, hy⟩
                have HY2 : Hid (Below y1.heap.size y1 y2) := hy
                have HS1 := Lib.hid hs1
                clear hs1 hy
                go_wp2_with fail
                refine (HK.out.bytes ((theRes.isRes _ _ _).below HQ1.out HY2.out) (by have := HSI.out.len; omega) HSI.out.bytes).mono ?_
                rintro e y3 ⟨v2, rfl, hs2, -, hy⟩
                have HY3 : Hid (Below y1.heap.size y1 y3) := HY2.out.trans (hy.mono HY2.out.size)
                have HS1' : Hid (Sl .u8 y3 v1 M.b) := HS1.out.below hy
                have HS2 := Lib.hid hs2
                clear hs2 hy
                go_wp2_with fail
                have hkb := keepBytes v1 v2 M.b M.b y3 HS1'.out HS2.out HSI.out.bytes HSI.out.bytes
                rw [decide_eq_true rfl] at hkb
                refine hkb.mono ?_
                rintro e zz ⟨rfl, hz⟩
                obtain rfl := hz.symm
                clear hz hkb
                go_wp2_with fail
                refine (HK.out.room ((theRes.isRes _ _ _).below HFN.out HY3.out) HSI.out.good HSI.out.used).mono ?_
                rintro e y4 ⟨rfl, hy⟩
                have HY4 : Hid (Below y1.heap.size y1 y4) := HY3.out.trans (hy.mono HY3.out.size)
                obtain ⟨rm, hrm⟩ : ∃ r, M.room = r := ⟨_, rfl⟩
                have HRM := Lib.hid hrm
                rw [hrm]
                clear hy hrm
                go_wp2_with fail
                refine (HK.out.room ((theRes.isRes _ _ _).below HQ1.out HY4.out) HSI.out.good HSI.out.used).mono ?_
                rintro e y5 ⟨rfl, hy⟩
                rw [HRM.out]
                have HY5 : Hid (Below y1.heap.size y1 y5) := HY4.out.trans (hy.mono HY4.out.size)
                clear hy
                go_wp2_with fail
                have hdn := RAt.done (RAt.beside HR1.out HY5.out)
                refine hdn.mono ?_
                rintro e zz ⟨rfl, hz⟩
                obtain rfl := hz.symm
                clear hz hdn
                have HM5 : Hid (MAt theRes w y5 rb p0 p1 m S M (fun k => k = B)) := AtR.join ((theRes.isRes _ _ _).below HQ1.out HY5.out) HQ2.out (RAt.beside HR1.out HY5.out)
                go_wp2_with fail
                have HWR : Hid (wrap64 ((k : Int) + 1) = (k : Int) + 1) := IntWalk.wrap64_in _ (by have := HKW.out; omega)
                exact ⟨next_rel (C := fun k' => Hid (MAt theRes w _ rb p0 p1 m S M (fun k => k = B))) HWR.out HLT2.out HM5, next_lt HWR.out HLT2.out⟩
              · obtain rfl : k = 2 := by omega
                obtain ⟨wi1, wi2, wi3, wi4, wi5, wi6, wi7, wi8, wi9⟩ := HSI.out.wiped HKS.out
                have HI3 := Lib.hid wi3
                have HI4 := Lib.hid wi4
                have HI5 := Lib.hid wi5
                have HI6 := Lib.hid wi6
                have HI7 := Lib.hid wi7
                have HI8 := Lib.hid wi8
                have HI9 := Lib.hid wi9
                have HE1 := Lib.hid wi1
                have HE2 := Lib.hid wi2
                clear wi1 wi2 wi3 wi4 wi5 wi6 wi7 wi8 wi9 hk
                go_wp2_with fail
                have hw1 := RAt.write HM.out.rat HI3.out HI5.out 0 0 (isBlk_fill 0)
                refine hw1.mono ?_
                rintro e y1 ⟨rfl, hR1, -⟩
                rw [HE1.out]
                have HR1 := Lib.hid hR1
                clear hw1 hR1
                go_wp2_with fail
                have hw2 := RAt.write HR1.out HI4.out HI6.out 0 1 (isBlk_fill 0)
                refine hw2.mono ?_
                rintro e y2 ⟨rfl, hR2, -⟩
                rw [HE2.out]
                have HR2 := Lib.hid hR2
                clear hw2 hR2
                go_wp2_with fail
                obtain ⟨f2, hf2, -⟩ := HR2.out
                refine (HK.out.open_no hf2 HI7.out HI8.out HI9.out.1 HI9.out.2).mono ?_
                rintro e y3 ⟨rfl, hy⟩
                have HY3 : Hid (Below w.heap.size w y3) := HR2.out.bel.trans (hy.mono HR2.out.size)
                clear hf2 hy
                go_wp2_with fail
                refine (HW.out _).mono ?_
                rintro e xz ⟨rfl, hx⟩
                have HXZ : Hid (Below w.heap.size w xz) := HY3.out.trans (hx.mono HY3.out.size)
                clear hx
                go_wp2_with fail
                go_ret
                first | exact ⟨rfl, HXZ.out⟩ | exact ⟨rfl, by rw [← hB]; exact HXZ.out⟩
      · rw [decide_eq_false hgd] at HGD
        clear hgd
        go_enter Tryz.func8, Tryz.ntmps8
        go_wp2_with fail
        refine hlt.mono ?_
        rintro e x1 ⟨rfl, hx⟩
        have HX1 : Hid (Below W.heap.size W x1) := hx
        have L1 := load_geo (HR0.out.below hx)
        clear hx hlt LG0
        go_wp2_with fail
        refine (HGD.out _).mono ?_
        rintro e x2 ⟨rfl, hx⟩
        have HX2 : Hid (Below W.heap.size W x2) := HX1.out.trans (hx.mono HX1.out.size)
        clear hx L1 HGD
        go_wp2_with fail
        refine (HW.out _).mono ?_
        rintro e xz ⟨rfl, hx⟩
        have HXZ : Hid (Below w.heap.size w xz) := HB0.out.trans ((HX2.out.trans (hx.mono HX2.out.size)).mono HB0.out.size)
        clear hx
        go_wp2_with fail
        go_ret
        first | exact ⟨rfl, HXZ.out⟩ | exact ⟨rfl, by rw [← hB]; exact HXZ.out⟩
    · rw [decide_eq_false hg] at hlt
      clear hg
      go_enter Tryz.func8, Tryz.ntmps8
      go_wp2_with fail
      refine hlt.mono ?_
      rintro e x1 ⟨rfl, hx⟩
      have HX1 : Hid (Below W.heap.size W x1) := hx
      clear hx hlt LG0
      go_wp2_with fail
      refine (HW.out _).mono ?_
      rintro e xz ⟨rfl, hx⟩
      have HXZ : Hid (Below w.heap.size w xz) := HB0.out.trans ((HX1.out.trans (hx.mono HX1.out.size)).mono HB0.out.size)
      clear hx
      go_wp2_with fail
      go_ret
      first | exact ⟨rfl, HXZ.out⟩ | exact ⟨rfl, by rw [← hB]; exact HXZ.out⟩

set_option maxRecDepth 100000 in
theorem lifted (os : Os) (started : os.Started) (H : Type) (enc : TypeId × Value → H) :
    ReturnsInHanded {} Tryz.checked os 8 .any (Rows.metaOpensSpec.pre6 enc Tryz.prog Tryz.f8 Rows.metaOpensRow.domain false) (Rows.metaOpensSpec.post enc Tryz.prog Tryz.f8 false true false false) := by
  refine returnsInHanded_of_change (C := Tryz.checked) own started (by kernel_rfl) Tryz.func8
    (ChangeSpec.witness6 (enc := enc) (C := Tryz.checked) false ⟨#[], #[.agg #[.int .i64 0, .int .i64 0, .int .i64 0, .int .i64 0, .int .i64 0], .slice none 0 0], []⟩ 8 (by kernel_rfl) (by kernel_rfl) (by kernel_rfl) (by kernel_rfl)) ?_
  intro W base args ds gs before hval0 hW hcnd _
  have hval : ∀ (j : Nat) t v, Tryz.f8.params[j]? = some t → args[j]? = some v → Value.okWide Tryz.prog W .any base t v := hval0
  have hW' := hW
  obtain ⟨p, q, hA0, hV, rfl, hfz, hnd⟩ := hW
  have hA : DataW.TrodAll enc Tryz.prog W 0 (fun _ => true) true Tryz.f8.params.toList args.toList ds p := hA0
  rw [Tryz.params8] at hA hval
  obtain ⟨v0, vs0, d0, ds0, p0, q0, hargs, rfl, rfl, h0, r0⟩ := trodAll_cons hA
  obtain ⟨v1, vs1, d1, ds1, p1, q1, rfl, rfl, rfl, h1, r1⟩ := trodAll_cons r0
  obtain ⟨rfl, rfl, rfl⟩ := trodAll_nil r1
  obtain rfl : args = #[v0, v1] := by cases args; simp_all
  obtain ⟨rfl, rfl⟩ := trodVars_none hV
  have lt0 : ∀ x ∈ p0, x.block < W.heap.size := by obtain ⟨m, hm⟩ := h0; exact DataW.trod_lt m _ _ _ hm
  have a0 := Arg.mk (hval 0 23 v0 rfl rfl) h0
  have lt1 : ∀ x ∈ p1, x.block < W.heap.size := by obtain ⟨m, hm⟩ := h1; exact DataW.trod_lt m _ _ _ hm
  have a1 := Arg.mk (hval 1 89 v1 rfl rfl) h1
  clear hA0 hval0
  refine (walk v0 v1 W a0 a1).mono fun e W' ⟨he, bel⟩ => ?_
  subst he
  exact ⟨_, rfl, _, _, _, [], _, [], hW', trodAll_mk1 (shut_bool Tryz.underlying4 _), (trodAll_cons_mk (Below.trod laidOut (by kernel_rfl) (of_decide_eq_true (by kernel_rfl)) h0 bel lt0) (trodAll_cons_mk (Below.trod laidOut (by kernel_rfl) (of_decide_eq_true (by kernel_rfl)) h1 bel lt1) trodAll_mk0)), rfl, bel.frame _, fun h => by cases h⟩

set_option maxRecDepth 100000 in
theorem over : Rows.metaOpensRow.holds Tryz.pinned (OpenSpec.ofChange Rows.metaOpensSpec) :=
  OpenClaim.holds_of_wide 8 Tryz.f8 rfl rfl rfl rfl rfl rfl rfl ⟨rfl, rfl, rfl, rfl, rfl⟩ rfl rfl rfl rfl rfl (by kernel_rfl) Tryz.func8 (by kernel_rfl)
    (of_decide_eq_true (by kernel_rfl)) (by unfold Func.isWrapper; first | (rw [if_pos (by decide +kernel)]; kernel_rfl) | (rw [if_neg (by decide +kernel)]; exact ⟨rfl, rfl⟩))
    (fun os started H enc _ => lifted os started H enc)

theorem proved : Rows.MetaOpensSaid := over
#print axioms proved
end Go.Proofs.YtbdfllamhcodjaaGreat.metaOpens
