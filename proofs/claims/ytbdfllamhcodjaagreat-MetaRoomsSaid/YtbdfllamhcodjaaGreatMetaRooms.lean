/- What each commit takes of the room: one sector for each page that differs and one more, of the whole ring behind a checkpoint, nothing for the same bytes (P8.3). -/
import Derived.Test.YtbdfllamhcodjaaGreatH7
namespace Go.Proofs.YtbdfllamhcodjaaGreat.metaRooms
open Go.ChangeShapes Go.WideShapes Go.ChangeAt Go.RowKit
set_option linter.unusedVariables false
attribute [-simp] Tryz.isAgg23 Tryz.zeroValue23 Tryz.isAgg60 Tryz.zeroValue60 Tryz.isAgg39 Tryz.zeroValue39
attribute [-go_sem] loadVar storeVar run_equalIn_agg
attribute [local go_sem] loadVar_openM storeVar_openM zero_geo build_geo0 zero_szs zero_blk build_blk

set_option maxRecDepth 100000 in
set_option maxHeartbeats 20000000 in
theorem walk (v0 v1 : Value) (w : World) (w0 : Arg w 23 v0) (w1 : Arg w 89 v1) :
    Calls Tryz.prog 7 #[v0, v1] w fun e w' => e = .returned (.bool true) ∧ Below w.heap.size w w' := by
  obtain ⟨g, hin, rfl⟩ := w0.geo
  obtain ⟨L, hL⟩ := w1.prsS
  have hmx : Tryz.prog.follows .mixedOrders = true := by kernel_rfl
  obtain ⟨a, cap, rfl, hcap, hcm, -⟩ := id hL
  obtain ⟨len, hlen⟩ : ∃ n, L.length = n := ⟨_, rfl⟩
  have HLEN := Lib.hid hlen
  rw [hlen] at hL ⊢
  have HL := Lib.hid hL
  have HK := Lib.hid metaOk
  have HW := Lib.hid (metaWakes metaOk)
  have HIN := Lib.hid hin
  obtain ⟨W, hW⟩ : ∃ W, w.alloc (.cells g.v 23) = W := ⟨_, rfl⟩
  have r0 : RowC W w.heap.size 23 g.cs := by rw [← hW]; exact RowC.new w _ _
  have HB0 : Hid (Below w.heap.size w W) := by show Below _ _ _; rw [← hW]; exact below_new w _
  obtain ⟨B, hB⟩ : ∃ b, w.heap.size = b := ⟨_, rfl⟩
  rw [hB] at r0
  have HR0 := Lib.hid r0
  have LG0 : (loadVar 23 ⟨B, 0, none⟩).run Tryz.prog W = .ok (.agg g.v) W := load_geo r0
  clear w0 w1 r0 hin hL hcap hcm hlen
  by_cases hl : 30 < len
  · have g1 : decide ((30 : Int) < (len : Int)) = true := by simp; omega
    clear hl LG0
    go_enter Tryz.func7, Tryz.ntmps7
    have HX0 : Hid (Below W.heap.size W W) := Below.refl _ _
    go_wp2_with fail
    refine (HW.out _).mono ?_
    rintro e xz ⟨rfl, hx⟩
    have HXZ : Hid (Below w.heap.size w xz) := HB0.out.trans ((HX0.out.trans (hx.mono HX0.out.size)).mono HB0.out.size)
    clear hx
    go_wp2_with fail
    go_ret
    first | exact ⟨rfl, HXZ.out⟩ | exact ⟨rfl, by rw [← hB]; exact HXZ.out⟩
  · have g1 : decide ((30 : Int) < (len : Int)) = false := by simp; omega
    have HLlen : Hid (len ≤ 30) := by show _ ≤ _; omega
    clear hl
    have hlt := lawLight g W
    by_cases hg : g.light
    · rw [decide_eq_true hg] at hlt
      have HLT := Lib.hid hg
      have HGD := Lib.hid (fun x => refGood7 g x)
      clear hg
      by_cases hgd : g.good
      · rw [decide_eq_true hgd] at HGD
        have HGO := Lib.hid hgd
        clear hgd
        go_enter Tryz.func7, Tryz.ntmps7
        go_wp2_with fail
        refine hlt.mono ?_
        rintro e x1 ⟨rfl, hx⟩
        have HX1 : Hid (Below W.heap.size W x1) := hx
        have L1 := load_geo (HR0.out.below hx)
        clear hx hlt LG0
        go_wp2_with fail
        refine (HGD.out _).mono ?_
        rintro e x2 ⟨rfl, hx⟩
        have HX2 : Hid (Below W.heap.size W x2) := HX1.out.trans (hx.mono HX1.out.size)
        clear hx L1 HGD
        have LG : ∀ z : Ext x2, (loadVar 23 ⟨B, 0, none⟩).run Tryz.prog z.1 = .ok (.agg g.v) z.1 := fun z => load_geo ((HR0.out.below HX2.out).below z.2)
        have hN := Geo.nats HGO.out
        have hoF : g.oF = ((2 + g.C + g.P + g.slots.toNat : Nat) : Int) := by have := hN.f; have := hN.s1; omega
        have hoW : g.oW = ((g.b + g.a).toNat : Int) := by
          have h := HGO.out.1
          have e : g.oW = g.b + g.a := if_pos HGO.out
          have := h.1
          have := h.2.2.2.2.2.2.1
          omega
        obtain ⟨nf, hnf⟩ : ∃ n : Nat, 2 + g.C + g.P + g.slots.toNat = n := ⟨_, rfl⟩
        obtain ⟨nw, hnw⟩ : ∃ n : Nat, (g.b + g.a).toNat = n := ⟨_, rfl⟩
        rw [hnf] at hoF
        rw [hnw] at hoW
        have hfb : 1 ≤ nf ∧ nf ≤ 4096 := by have := hN.c2; have := hN.p2; have := (Geo.bounds HGO.out.1).2.1; omega
        have hwb : 1 ≤ nw ∧ nw ≤ 4096 := by have h := HGO.out.1; have := h.1; have := h.2.1; have := h.2.2.2.2.2.2.1; have := h.2.2.2.2.2.2.2; omega
        have HOF := Lib.hid hoF
        have HOW := Lib.hid hoW
        have HFB := Lib.hid hfb
        have HWB := Lib.hid hwb
        have HN := Lib.hid hN
        clear hoF hoW hfb hwb hN hnf hnw
        go_wp2_with fail
        obtain ⟨D1, hD1⟩ : ∃ X, x2.drew = X := ⟨_, rfl⟩
        have HD1 : Hid (Below x2.heap.size x2 D1) := by show Below _ _ _; rw [← hD1]; exact (Below.refl _ x2).drew
        refine region_plan (fun u => ∃ y : Ext x2, u = y.1) 9 (.takes [0, 2] (.one 1 (.one 3 (.one 4 (.takes [5, 6, 8, 7] .leaf))))) hmx (by kernel_rfl) (by intro c x v a w h; cases x <;> exact h) ⟨⟨x2.drew, (Below.refl _ x2).drew⟩, rfl⟩ ?_
        rw [hD1]
        clear hD1
        repeat (rw [wpPlan_takes_cons]; simp only [nth_zero, nth_succ]; go_big_quiet_step (fail); refine wpQuiet_nil ?_)
        rw [wpPlan_takes_nil, wpPlan_one]
        simp only [nth_zero, nth_succ]
        go_wp2_with fail
        refine (gmFast g HIN.out _).mono ?_
        rintro e x3 ⟨rfl, hx⟩
        rw [HOF.out]
        have HE3 : Hid (Below x2.heap.size x2 x3) := HD1.out.trans (hx.mono HD1.out.size)
        clear hx
        go_wp2_with fail
        refine planPost_mk ⟨⟨x3, HE3.out⟩, rfl⟩ ?_
        rw [wpPlan_one]
        simp only [nth_zero, nth_succ]
        go_wp2_with fail
        refine (gmSlow g HIN.out _).mono ?_
        rintro e x4 ⟨rfl, hx⟩
        rw [HOW.out]
        have HE4 : Hid (Below x2.heap.size x2 x4) := HE3.out.trans (hx.mono HE3.out.size)
        clear hx
        go_wp2_with fail
        refine planPost_mk ⟨⟨x4, HE4.out⟩, rfl⟩ ?_
        rw [wpPlan_one]
        simp only [nth_zero, nth_succ]
        go_wp2_with fail
        have HX4 : Hid (Below W.heap.size W x4) := HX2.out.trans (HE4.out.mono HX2.out.size)
        have hnew := RAt.new nf nw w x4 (HB0.out.trans (HX4.out.mono HB0.out.size)) HFB.out.1 HFB.out.2 HWB.out.1 HWB.out.2 (fun k => k = B) (fun k hk => by rw [hk]; exact (HR0.out.below HX4.out).lt)
        refine hnew.mono ?_
        rintro e x5 ⟨rb, p0, p1, rfl, hR5, hx⟩
        have HE5 : Hid (Below x2.heap.size x2 x5) := HE4.out.trans (hx.mono HE4.out.size)
        have HX5 : Hid (Below W.heap.size W x5) := HX4.out.trans (hx.mono HX4.out.size)
        have HR5 := Lib.hid hR5
        clear hnew hx hR5 LG
        go_wp2_with fail
        refine planPost_mk ⟨⟨x5, HE5.out⟩, rfl⟩ ?_
        repeat (rw [wpPlan_takes_cons]; simp only [nth_zero, nth_succ]; go_big_quiet_step (fail); refine wpQuiet_nil ?_)
        rw [wpPlan_takes_nil, wpPlan_leaf]
        simp only [List.drop_succ_cons, List.drop_zero]
        go_wp2_with fail
        have HRB5 : Hid (RowC x5 B 23 g.cs) := HR0.out.below HX5.out
        have LG : ∀ z : KeepB B x5, (loadVar 23 ⟨B, 0, none⟩).run Tryz.prog z.1 = .ok (.agg g.v) z.1 := fun z => load_geo (z.row HRB5.out)
        obtain ⟨o1, o2, o3, o4, o5, o6, o7, o8, hszl, -, -, ho1, -⟩ := g.szl_eq
        obtain ⟨nb, hnb⟩ : ∃ n : Nat, g.bts.toNat = n := ⟨_, rfl⟩
        have hob : o1 = (nb : Int) := by rw [ho1, ← hnb]; show (if g.good then g.bts else 0) = _; rw [if_pos HGO.out, HN.out.b]
        have HNB := Lib.hid hnb
        have HNB2 : Hid (nb ≤ 714) := by show _ ≤ _; rw [← hnb]; exact HN.out.b2
        have HOB := Lib.hid hob
        clear hob hnb ho1
        obtain ⟨D2, hD2⟩ : ∃ X, x5.drew = X := ⟨_, rfl⟩
        have HD2 : Hid (Below x5.heap.size x5 D2) := by show Below _ _ _; rw [← hD2]; exact (Below.refl _ x5).drew
        have HQD2 : Hid (D2.heap[B]? = x5.heap[B]?) := by show _ = _; rw [← hD2]; rfl
        refine region_plan (fun u => ∃ y : KeepB B x5, u = y.1) 11 (.takes [0, 1, 2] (.one 3 (.takes [4] (.one 5 (.one 6 (.takes [7, 8, 10, 9] .leaf)))))) hmx (by kernel_rfl) (by intro c x v a w h; cases x <;> exact h) ⟨⟨x5.drew, rfl⟩, rfl⟩ ?_
        rw [hD2]
        clear hD2
        repeat (rw [wpPlan_takes_cons]; simp only [nth_zero, nth_succ]; go_big_quiet_step (fail); refine wpQuiet_nil ?_)
        rw [wpPlan_takes_nil, wpPlan_one]
        simp only [nth_zero, nth_succ]
        go_wp2_with fail
        refine (refOf g _).mono ?_
        rintro e x6 ⟨rfl, hx⟩
        rw [hszl, HOB.out]
        have HE6 : Hid (Below x5.heap.size x5 x6) := HD2.out.trans (hx.mono HD2.out.size)
        have HQ6 : Hid (x6.heap[B]? = x5.heap[B]?) := HE6.out.block B HRB5.out.lt
        clear hx hszl
        go_wp2_with fail
        refine planPost_mk ⟨⟨x6, HQ6.out⟩, rfl⟩ ?_
        have FS := fun z : KeepB B x5 => field_szs (nb : Int) o2 o3 o4 o5 o6 o7 o8 z.1
        repeat (rw [wpPlan_takes_cons]; simp only [nth_zero, nth_succ]; go_big_quiet_step (fail); refine wpQuiet_nil ?_)
        rw [wpPlan_takes_nil, wpPlan_one]
        simp only [nth_zero, nth_succ]
        clear FS LG
        obtain ⟨x7, hmk, hs7, hg7, -⟩ := make_zeros x6 nb (by have := HNB2.out; omega)
        have HMK := Lib.hid hmk
        have hx67 : Below x6.heap.size x6 x7 := (Below.refl _ _).grown hg7 (Nat.le_refl _) (fun k e => by cases e)
        have HE7 : Hid (Below x5.heap.size x5 x7) := HE6.out.trans (hx67.mono HE6.out.size)
        have HQ7 : Hid (x7.heap[B]? = x5.heap[B]?) := HE7.out.block B HRB5.out.lt
        have HS7 := Lib.hid hs7
        refine wpList_make_run _ _ _ rfl rfl _ _ _ rfl rfl HMK.out ?_
        refine wpList_nil ?_
        refine planPost_mk ⟨⟨x7, HQ7.out⟩, rfl⟩ ?_
        rw [wpPlan_one]
        simp only [nth_zero, nth_succ]
        go_wp2_with fail
        have hR7 : RAt w x7 rb p0 p1 (newS nf nw) (Plus (fun k => k = B) x6 x7) := AtR.plus (RigR.isRes _ _ _ _) (RAt.beside HR5.out HE6.out) hx67
        have hK7 : KeptV (Plus (fun k => k = B) x6 x7) x7 (.slice (some ⟨x6.heap.size, 0, none⟩) nb nb) (List.replicate nb 0) := KeptV.new HS7.out (zeros_bytes nb) fun b off len cap e => by cases e; exact Nat.le_refl _
        have hfm := RAt.format HK.out hR7 (newS_rdy HFB.out.2 HWB.out.2) (newS_up _ _) HIN.out HGO.out (by rw [HOF.out]; exact Int.le_refl _) (by rw [HOW.out]; exact Int.le_refl _) hK7 (by rw [List.length_replicate, HNB.out])
        clear hmk hs7 hg7 hx67
        refine hfm.mono ?_
        rintro e x8 ⟨m, rfl, hM8, hk8, hsz8⟩
        have HS8 := Lib.hid (Sit.fmt (b := List.replicate nb 0) HFB.out.2 HWB.out.2 HGO.out (by rw [HOF.out]; exact Int.le_refl _) (by rw [HOW.out]; exact Int.le_refl _) (by rw [List.length_replicate, HNB.out]) (zeros_bytes nb))
        have HM8 : Hid (MAt theRes w x8 rb p0 p1 m ((newS nf nw).bat (fmtB g (List.replicate nb 0))).1 (MS.new g (List.replicate nb 0)) (fun k => k = B)) := hM8.less _ fun k hk => .inl hk
        have HQ8 : Hid (x8.heap[B]? = x5.heap[B]?) := (hk8 B (.inl rfl)).trans HQ7.out
        have HRB8 : Hid (RowC x8 B 23 g.cs) := HQ8.out.trans HRB5.out
        clear hfm hR7 hK7 hM8 hk8 hsz8
        go_wp2_with fail
        refine planPost_mk ⟨⟨x8, HQ8.out⟩, rfl⟩ ?_
        repeat (rw [wpPlan_takes_cons]; simp only [nth_zero, nth_succ]; go_big_quiet_step (fail); refine wpQuiet_nil ?_)
        rw [wpPlan_takes_nil, wpPlan_leaf]
        simp only [List.drop_succ_cons, List.drop_zero]
        obtain ⟨S0, hS0⟩ : ∃ S, ((newS nf nw).bat (fmtB g (List.replicate nb 0))).1 = S := ⟨_, rfl⟩
        obtain ⟨M0, hM0⟩ : ∃ M, MS.new g (List.replicate nb 0) = M := ⟨_, rfl⟩
        have HG0 : Hid (M0.g = g ∧ M0.b = List.replicate nb 0 ∧ M0.room = g.r) := by show _ ∧ _ ∧ _; rw [← hM0]; exact ⟨rfl, rfl, by unfold MS.room; show g.r - ((0 : Nat) : Int) = _; omega⟩
        rw [hS0, hM0] at HS8 HM8
        clear hS0 hM0
        have HRM0 : Hid (M0.room = g.r) := HG0.out.2.2
        obtain ⟨gr, hgr⟩ : ∃ r, g.r = r := ⟨_, rfl⟩
        have HGR := Lib.hid hgr
        have LR : ∀ z : KeepB B x8, z.1.cell? ⟨B, 4, none⟩ = some (.int .i64 gr) := fun z => by have := (z.row HRB8.out).cell 4 _ rfl; rwa [hgr] at this
        clear hgr
        go_wp2_with fail
        obtain ⟨D3, hD3⟩ : ∃ X, x8.drew = X := ⟨_, rfl⟩
        have HD3 : Hid (Below x8.heap.size x8 D3) := by show Below _ _ _; rw [← hD3]; exact (Below.refl _ x8).drew
        have HQD3 : Hid (D3.heap[B]? = x8.heap[B]?) := by show _ = _; rw [← hD3]; rfl
        refine region_plan (fun u => ∃ y : KeepB B x8, u = y.1) 16 (.takes [0, 1, 2, 3, 4, 5, 6, 7, 8, 9, 10, 11, 13, 14] (.one 12 (.takes [15] .leaf))) hmx (by kernel_rfl) (by intro c x v a w h; cases x <;> exact h) ⟨⟨x8.drew, rfl⟩, rfl⟩ ?_
        rw [hD3]
        clear hD3
        repeat (rw [wpPlan_takes_cons]; simp only [nth_zero, nth_succ]; go_big_quiet_step (fail); refine wpQuiet_nil ?_)
        rw [wpPlan_takes_nil, wpPlan_one]
        simp only [nth_zero, nth_succ]
        go_wp2_with fail
        have HMD : Hid (MAt theRes w D3 rb p0 p1 m S0 M0 (fun k => k = B)) := AtR.beside (theRes.both _ _ _ _ _ _) HM8.out HD3.out
        obtain ⟨fm, hfm⟩ := HMD.out.mem
        refine (HK.out.room hfm HS8.out.good HS8.out.used).mono ?_
        rintro e x8b ⟨rfl, hy⟩
        rw [HRM0.out, HGR.out]
        have HM8b : Hid (MAt theRes w x8b rb p0 p1 m S0 M0 (fun k => k = B)) := AtR.beside (theRes.both _ _ _ _ _ _) HM8.out (HD3.out.trans (hy.mono HD3.out.size))
        have HQ8b : Hid (x8b.heap[B]? = x8.heap[B]?) := (HD3.out.trans (hy.mono HD3.out.size)).block B HRB8.out.lt
        have HRB8b : Hid (RowC x8b B 23 g.cs) := HQ8b.out.trans HRB8.out
        clear hfm hy
        go_wp2_with fail
        refine planPost_mk ⟨⟨x8b, HQ8b.out⟩, rfl⟩ ?_
        repeat (rw [wpPlan_takes_cons]; simp only [nth_zero, nth_succ]; go_big_quiet_step (fail); refine wpQuiet_nil ?_)
        rw [wpPlan_takes_nil, wpPlan_leaf]
        simp only [List.drop_succ_cons, List.drop_zero]
        clear LR
        have L8 := load_geo HRB8b.out
        go_wp2_with fail
        refine (refOf g _).mono ?_
        rintro e x9 ⟨rfl, hx⟩
        obtain ⟨o1, o2, o3, o4, o5, o6, o7, o8, hszl, -, -, ho1, -⟩ := g.szl_eq
        have hob : o1 = (nb : Int) := by rw [ho1, ← HNB.out]; show (if g.good then g.bts else 0) = _; rw [if_pos HGO.out, HN.out.b]
        rw [hszl, hob]
        have FS := field_szs (nb : Int) o2 o3 o4 o5 o6 o7 o8 x9
        have HM9 : Hid (MAt theRes w x9 rb p0 p1 m S0 M0 (fun k => k = B)) := AtR.beside (theRes.both _ _ _ _ _ _) HM8b.out hx
        have HRB9 : Hid (RowC x9 B 23 g.cs) := HRB8b.out.below hx
        clear hx hszl ho1 hob L8
        obtain ⟨x10, hmk, hs10, hg10, -⟩ := make_zeros x9 nb (by have := HNB2.out; omega)
        have HMK9 := Lib.hid hmk
        have hxx : Below x9.heap.size x9 x10 := (Below.refl _ _).grown hg10 (Nat.le_refl _) (fun k e => by cases e)
        have HM10 : Hid (MAt theRes w x10 rb p0 p1 m S0 M0 (Plus (fun k => k = B) x9 x10)) := AtR.plus (theRes.both _ _ _ _ _ _) HM9.out hxx
        have HK10 : Hid (KeptV (Plus (fun k => k = B) x9 x10) x10 (.slice (some ⟨x9.heap.size, 0, none⟩) nb nb) M0.b) := by
          show KeptV _ _ _ _
          rw [HG0.out.2.1]
          exact KeptV.new hs10 (zeros_bytes nb) fun b off len cap e => by cases e; exact Nat.le_refl _
        have HRB10 : Hid (RowC x10 B 23 g.cs) := HRB9.out.below hxx
        obtain ⟨vn0, hvn0⟩ : ∃ v, Value.slice (some ⟨x9.heap.size, 0, none⟩) nb nb = v := ⟨_, rfl⟩
        rw [hvn0] at HMK9 HK10
        have hnp : 0 < nb := by have := HNB.out; have := (Geo.bounds HGO.out.1).2.2.1; have := HN.out.b; omega
        have HNP := Lib.hid hnp
        clear hmk hs10 hg10 hxx hvn0 hnp
        go_wp2_with ((with_reducible refine gate_make ?_); refine wpList_make_run _ _ _ rfl rfl _ _ _ rfl rfl HMK9.out ?_)
        clear FS
        obtain ⟨np, hnp⟩ : ∃ n, g.P = n := ⟨_, rfl⟩
        have hnb : np = (nb + 47) / 48 ∧ np ≤ 15 ∧ g.oP = (np : Int) := by
          refine ⟨by rw [← hnp, ← HNB.out]; exact HN.out.bp, by have := HN.out.p2; omega, ?_⟩
          rw [← hnp, HN.out.p]
          show (if g.good then g.pgs else 0) = _
          rw [if_pos HGO.out]
        have HNPP := Lib.hid hnp
        have HNPB := Lib.hid hnb
        clear hnp hnb
        have HLL := HLlen
        clear HLlen
        go_wp2_with fail
        go_loopw [9, 10] (fun vb i wr => ∃ k : Nat, k ≤ len ∧ i = .int .i64 k ∧ Hid (LongI theRes g B rb p0 p1 m w wr k vb)) (fun _ i _ => len - (intOf i).toNat)
        case atStart => exact ⟨0, Nat.zero_le _, rfl, S0, M0, _, .inl rfl, HM10.out, HK10.out, HRB10.out, HS8.out, HG0.out.1⟩
        case round =>
          obtain ⟨k, hk, rfl, HTI⟩ := hrel
          obtain ⟨vb, rfl⟩ : ∃ v, v = u9 := ⟨_, rfl⟩
          obtain ⟨S, M, own, hoB, hM, hvn, hrb, hSi, hMg⟩ := HTI.out
          have hlb : M.b.length = nb := by rw [hSi.len.1, hMg, HNB.out]
          have HM := Lib.hid hM
          have HSI := Lib.hid hSi
          have HMG := Lib.hid hMg
          have HVB := Lib.hid hvn
          have HRBR := Lib.hid hrb
          have HOBR := Lib.hid hoB
          have HLB := Lib.hid hlb
          obtain ⟨va, vcap, hvb, hvc, -⟩ := id HVB.out.sl
          rw [hlb] at hvb hvc
          have HVCAP := Lib.hid hvc
          clear hvc
          subst hvb
          clear HTI hM hSi hMg hvn hrb hoB hlb
          by_cases hlt : k < len
          · have g1 : decide ((k : Int) < (len : Int)) = true := by simp; omega
            obtain ⟨ps, hps⟩ : ∃ ps, L[k]? = some ps := ⟨_, List.getElem?_eq_getElem (by rw [HLEN.out]; exact hlt)⟩
            have hne : L ≠ [] := fun e => by rw [e] at hps; simp at hps
            have HKL : Hid (k ≤ 30) := by show _ ≤ _; have := HLL.out; omega
            have HLT2 := Lib.hid hlt
            have HWR : Hid (wrap64 ((k : Int) + 1) = (k : Int) + 1) := IntWalk.wrap64_in _ (by have := HKL.out; omega)
            obtain ⟨bl, off, rfl, he1, he2, he3, he4⟩ := PrsS.elem HL.out hne
            obtain ⟨ra, rc, hel⟩ := he4 k ps hps
            obtain ⟨d1, hpr⟩ := hel wr HM.out.bel
            have HPR := Lib.hid hpr
            clear hpr
            by_cases hbig : 30 < ps.length
            · have g2 : decide ((30 : Int) < (ps.length : Int)) = true := by simp; omega
              clear hbig hps hne hel he1 he2 he3 he4 hlt
              go_wp2_with fail
              refine (HW.out _).mono ?_
              rintro e xz ⟨rfl, hx⟩
              have HXZ : Hid (Below w.heap.size w xz) := HM.out.bel.trans (hx.mono HM.out.size)
              clear hx
              go_wp2_with fail
              go_ret
              first | exact ⟨rfl, HXZ.out⟩ | exact ⟨rfl, by rw [← hB]; exact HXZ.out⟩
            · have g2 : decide ((30 : Int) < (ps.length : Int)) = false := by simp; omega
              clear hbig hps hne hel he1 he2 he3 he4 hlt
              go_wp2_with fail
              refine (lawTurned _ _ M.b ps wr HVB.out.sl HSI.out.bytes HPR.out (by have := HSI.out.len; omega)).mono ?_
              rintro e y1 ⟨vt, rfl, hst, hft, hy⟩
              have hVC : KeptV (Plus own wr y1) y1 vt (turnL M.b ps) := KeptV.new hst (turnL_bytes _ _ HSI.out.bytes) hft
              have hCl : (turnL M.b ps).length = nb := by rw [turnL_length, HLB.out]
              obtain ⟨C, hC⟩ : ∃ C, turnL M.b ps = C := ⟨_, rfl⟩
              rw [hC] at hVC hCl
              obtain ⟨ca, ccap, hvt, hcc, -⟩ := id hVC.sl
              rw [hCl] at hvt hcc
              have HCCAP := Lib.hid hcc
              clear hcc
              subst hvt
              have HVC1 := Lib.hid hVC
              have HLC := Lib.hid hCl
              have HM1 : Hid (MAt theRes w y1 rb p0 p1 m S M (Plus own wr y1)) := AtR.plus (theRes.both _ _ _ _ _ _) HM.out hy
              have HRB1 : Hid (RowC y1 B 23 g.cs) := HRBR.out.below hy
              have HVB1 : Hid (KeptV (Plus own wr y1) y1 (.slice va nb vcap) M.b) := (HVB.out.below hy).more fun k hk => .inl hk
              obtain ⟨o1, ho1⟩ : ∃ o, Plus own wr y1 = o := ⟨_, rfl⟩
              have HOB1 : Hid (o1 B) := by show o1 B; rw [← ho1]; exact .inl HOBR.out
              rw [ho1] at HM1 HVB1 HVC1
              clear hst hft hy hVC hCl hC ho1 d1 g1 g2 hk
              go_wp2_with fail
              go_loopw [12, 13] (fun dv i wq => ∃ p : Nat, p ≤ np ∧ i = .int .i64 p ∧ Hid (dv = .int .i64 (difN M.b C p : Int) ∧ Below y1.heap.size y1 wq)) (fun _ i _ => np - (intOf i).toNat)
              case atStart => exact ⟨0, Nat.zero_le _, rfl, rfl, Below.refl _ _⟩
              case round =>
                obtain ⟨p, hp, rfl, HP2⟩ := hrel
                obtain ⟨d, hd⟩ : ∃ d, difN M.b C p = d := ⟨_, rfl⟩
                obtain ⟨hdv, hwq⟩ := HP2.out
                rw [hd] at hdv
                have HD := Lib.hid hd
                have HDL : Hid (d ≤ p) := by show _ ≤ _; rw [← hd]; exact difN_le _ _ _
                have HWQ := Lib.hid hwq
                subst hdv
                have L1 := load_geo (HRB1.out.below hwq)
                clear HP2 hd hwq
                go_wp2_with fail
                refine (gmPages g HIN.out _).mono ?_
                rintro e wp ⟨rfl, hx⟩
                rw [HNPB.out.2.2]
                have HWP : Hid (Below y1.heap.size y1 wp) := HWQ.out.trans (hx.mono HWQ.out.size)
                clear hx L1
                by_cases hpl : p < np
                · have g3 : decide ((p : Int) < (np : Int)) = true := by simp; omega
                  obtain ⟨K, H, hK, hH, hKH, hm, e1, e2, e3, g4, g5⟩ := rooms_num HNB2.out (Nat.lt_of_lt_of_eq hpl HNPB.out.1)
                  have HKH := Lib.hid hKH
                  have hmin := rooms_min hm
                  have g4' : decide ((K : Int) > (H : Int)) = false := g4
                  have g5' : decide ((H : Int) > (nb : Int)) = false := g5
                  have HPL := Lib.hid hpl
                  have HS1 : Hid (Sl .u8 wp (.slice (va.map fun x => x.add K) (H - K) (vcap - K)) (seg M.b p)) := by
                    have := sl_mid_at (HVB1.out.below HWP.out).sl hKH.1 hKH.2.1 HVCAP.out
                    show Sl _ _ _ _
                    rw [← seg_cut' M.b p (t := H) (by rw [HLB.out, hH]), hK]
                    exact this
                  have HS2 : Hid (Sl .u8 wp (.slice (ca.map fun x => x.add K) (H - K) (ccap - K)) (seg C p)) := by
                    have := sl_mid_at (HVC1.out.below HWP.out).sl hKH.1 hKH.2.1 HCCAP.out
                    show Sl _ _ _ _
                    rw [← seg_cut' C p (t := H) (by rw [HLC.out, hH]), hK]
                    exact this
                  clear hpl hp hK hH hm
                  go_wp2_with fail
                  all_goals first | (exfalso; omega) | skip
                  clear hmin e1 e2 e3 g4 g5 g4' g5'
                  have i0 : (0 : Int) ≤ (K : Int) := by omega
                  have i1 : (K : Int) ≤ (H : Int) := by omega
                  have i2 : (H : Int) ≤ (vcap : Int) := by have := HVCAP.out; omega
                  have i3 : (H : Int) ≤ (ccap : Int) := by have := HCCAP.out; omega
                  have i4 : ¬ vcap = K := by have := HVCAP.out; omega
                  have i5 : ¬ ccap = K := by have := HCCAP.out; omega
                  clear hKH
                  refine region_plan (fun u => ∃ y : Ext wp, u = y.1) 9 (.takes [0, 1, 2, 3, 4, 5, 6, 7] (.one 8 .leaf)) hmx (by kernel_rfl) (by intro c x v a w h; cases x <;> exact h) ⟨⟨wp.drew, (Below.refl _ wp).drew⟩, rfl⟩ ?_
                  obtain ⟨D5, hD5⟩ : ∃ X, wp.drew = X := ⟨_, rfl⟩
                  have HD5 : Hid (Below wp.heap.size wp D5) := by show Below _ _ _; rw [← hD5]; exact (Below.refl _ wp).drew
                  rw [hD5]
                  clear hD5
                  repeat (rw [wpPlan_takes_cons]; simp only [nth_zero, nth_succ]; go_big_quiet_step (fail); refine wpQuiet_nil ?_)
                  all_goals first | (exfalso; omega) | skip
                  clear i0 i1 i2 i3
                  rw [wpPlan_takes_nil, wpPlan_one]
                  simp only [nth_zero, nth_succ]
                  go_wp2_with fail
                  have hkb := keepBytes _ _ (seg M.b p) (seg C p) D5 (HS1.out.below HD5.out) (HS2.out.below HD5.out) (HSI.out.bytes.cut (48 * p) 48) (HVC1.out.bytes.cut (48 * p) 48)
                  have hds := difN_succ M.b C p
                  rw [HD.out] at hds
                  have HWP2 : Hid (wrap64 ((p : Int) + 1) = (p : Int) + 1) := IntWalk.wrap64_in _ (by have := HNPB.out; have := HPL.out; omega)
                  have HWD : Hid (wrap64 ((d : Int) + 1) = (d : Int) + 1) := IntWalk.wrap64_in _ (by have := HNPB.out; have := HPL.out; have := HDL.out; omega)
                  by_cases hq : seg M.b p = seg C p
                  · rw [if_pos hq] at hds
                    rw [decide_eq_true hq] at hkb
                    have HDS := Lib.hid hds
                    refine hkb.mono ?_
                    rintro e zz ⟨rfl, hz⟩
                    obtain rfl := hz.symm
                    clear hz hkb hds hq
                    go_wp2_with fail
                    refine planPost_mk ⟨⟨D5, HD5.out⟩, rfl⟩ ?_
                    rw [wpPlan_leaf]
                    simp only [List.drop_succ_cons, List.drop_zero]
                    go_wp2_with fail
                    exact ⟨tornR (C := fun p' => _ = Value.int .i64 (difN M.b C p' : Int) ∧ Below y1.heap.size y1 _) HWP2.out HPL.out ⟨by rw [HDS.out]; rfl, HWP.out.trans (HD5.out.mono HWP.out.size)⟩, next_lt HWP2.out HPL.out⟩
                  · rw [if_neg hq] at hds
                    rw [decide_eq_false hq] at hkb
                    have HDS := Lib.hid hds
                    refine hkb.mono ?_
                    rintro e zz ⟨rfl, hz⟩
                    obtain rfl := hz.symm
                    clear hz hkb hds hq
                    go_wp2_with fail
                    refine planPost_mk ⟨⟨D5, HD5.out⟩, rfl⟩ ?_
                    rw [wpPlan_leaf]
                    simp only [List.drop_succ_cons, List.drop_zero]
                    go_wp2_with fail
                    exact ⟨tornR (C := fun p' => _ = Value.int .i64 (difN M.b C p' : Int) ∧ Below y1.heap.size y1 _) HWP2.out HPL.out ⟨by rw [HDS.out, HWD.out]; rfl, HWP.out.trans (HD5.out.mono HWP.out.size)⟩, next_lt HWP2.out HPL.out⟩
                · obtain rfl : p = np := by omega
                  have g3 : decide ((p : Int) < (p : Int)) = false := by simp
                  clear hpl hp
                  go_wp2_with fail
                  clear g3
                  have HMP : Hid (MAt theRes w wp rb p0 p1 m S M o1) := AtR.beside (theRes.both _ _ _ _ _ _) HM1.out HWP.out
                  obtain ⟨fm, hfm⟩ := HMP.out.mem
                  obtain ⟨rm, hrm⟩ : ∃ r, M.room = r := ⟨_, rfl⟩
                  have HRM := Lib.hid hrm
                  have hrb : 0 ≤ rm ∧ rm ≤ g.r ∧ g.r ≤ 256 := by
                    have h1 := HSI.out.used
                    have h2 := (Geo.nats HSI.out.good).c
                    have h3 := (Geo.nats HSI.out.good).c2
                    rw [← hrm]
                    unfold MS.room
                    rw [HMG.out] at h1 h2 h3 ⊢
                    omega
                  have HRBD := Lib.hid hrb
                  refine (HK.out.room hfm HSI.out.good HSI.out.used).mono ?_
                  rintro e y3 ⟨rfl, hy⟩
                  rw [hrm]
                  have HM3 : Hid (MAt theRes w y3 rb p0 p1 m S M o1) := AtR.beside (theRes.both _ _ _ _ _ _) HMP.out hy
                  have HWY : Hid (Below y1.heap.size y1 y3) := HWP.out.trans (hy.mono HWP.out.size)
                  clear hrm hfm hy hrb
                  go_wp2_with fail
                  have hdn := RAt.done HM3.out.rat
                  obtain ⟨dn, hdd⟩ : ∃ n, S.done = n := ⟨_, rfl⟩
                  have HDN := Lib.hid hdd
                  rw [hdd] at hdn
                  refine hdn.mono ?_
                  rintro e zz ⟨rfl, hz⟩
                  obtain rfl := hz.symm
                  clear hz hdn hdd
                  have HV3C : Hid (KeptV o1 y3 (.slice ca nb ccap) C) := HVC1.out.below HWY.out
                  obtain ⟨vc, yc, HAC, HKC, HBC⟩ := copy_kept (W := y3) HV3C.out.sl HVC1.out.bytes (by rw [HLC.out]; have := HNB2.out; omega) o1
                  go_wp2_with (at_builtin; refine wpList_append_run (.tmp 130) (.tmp 131) 37 rfl rfl _ _ _ rfl rfl HAC.out ?_)
                  have HMC : Hid (MAt theRes w yc rb p0 p1 m S M (Plus o1 y3 yc)) := AtR.plus (theRes.both _ _ _ _ _ _) HM3.out HBC.out
                  have HVCC : Hid (KeptV (Plus o1 y3 yc) yc (.slice ca nb ccap) C) := (HV3C.out.below HBC.out).more fun k hk => .inl hk
                  have HRBC : Hid (RowC yc B 23 g.cs) := (HRB1.out.below HWY.out).below HBC.out
                  obtain ⟨o3, ho3⟩ : ∃ o, Plus o1 y3 yc = o := ⟨_, rfl⟩
                  have HOB3 : Hid (o3 B) := by show o3 B; rw [← ho3]; exact .inl HOB1.out
                  rw [ho3] at HMC HVCC HKC
                  clear ho3
                  obtain ⟨T, hcm, hsit⟩ := HSI.out.commit (b := C) (by have := HKL.out; omega) (by rw [HLC.out, HLB.out]) HVC1.out.bytes
                  have hcall := MAt.commit HK.out HMC.out (HSI.out.rdy (by have := HKL.out; omega)) HSI.out.up.down (HSI.out.ok (by have := HKL.out; omega)) HKC.out (by rw [HLC.out, HLB.out]) hcm
                  have HCM := Lib.hid hcm
                  have hdl : (M.dif C).length = d := (HSI.out.dif (by rw [HLC.out, HLB.out])).trans (by rw [HMG.out, HNPP.out]; exact HD.out)
                  have HDF := Lib.hid hdl
                  obtain ⟨M2, hM2⟩ : ∃ M', M.next C = M' := ⟨_, rfl⟩
                  have hE : M2.b = C := by rw [← hM2]; exact HSI.out.next_b (by rw [HLC.out, HLB.out])
                  have HE := Lib.hid hE
                  have HG2 : Hid (M2.g = g) := by show _ = _; rw [← hM2]; exact (MS.next_g _ _).trans HMG.out
                  rw [hM2] at hsit hcall
                  have HST := Lib.hid hsit
                  have HNX := Lib.hid hM2
                  refine hcall.mono ?_
                  rintro e y4 ⟨rfl, hM4, -, hk4, hs4⟩
                  have HM4 := Lib.hid (hM4 rfl)
                  have HV4 : Hid (KeptV o3 y4 (.slice ca nb ccap) C) := HVCC.out.over hs4 hk4
                  have HRB4 : Hid (RowC y4 B 23 g.cs) := rowC_over HRBC.out HOB3.out hk4
                  clear hcall hM4 hk4 hs4 hcm hsit hdl hE hM2
                  have HDB : Hid (d ≤ 15) := by show _ ≤ _; have := HDL.out; have := HNPB.out; omega
                  have HW1 : Hid (wrap64 ((d : Int) + 1) = (d : Int) + 1) := IntWalk.wrap64_in _ (by have := HDB.out; omega)
                  by_cases hd0 : d = 0
                  · subst hd0
                    obtain ⟨hn, hc⟩ := MS.next_none (S := S) HDF.out
                    have HR2 : Hid (M2.room = rm) := by show _ = _; rw [← HNX.out, hn]; exact HRM.out
                    have HT : Hid (T.done = dn) := by
                      show _ = _
                      have := HCM.out.symm.trans hc
                      rw [(Prod.mk.inj this).1]
                      exact HDN.out
                    clear hn hc
                    go_wp2_with fail
                    obtain ⟨fm, hfm⟩ := HM4.out.mem
                    refine (HK.out.room hfm HST.out.good HST.out.used).mono ?_
                    rintro e y5 ⟨rfl, hy⟩
                    rw [HR2.out]
                    have HM5 : Hid (MAt theRes w y5 rb p0 p1 m T M2 o3) := AtR.beside (theRes.both _ _ _ _ _ _) HM4.out hy
                    have HV5 : Hid (KeptV o3 y5 (.slice ca nb ccap) C) := HV4.out.below hy
                    have HRB5 : Hid (RowC y5 B 23 g.cs) := HRB4.out.below hy
                    clear hfm hy
                    go_wp2_with fail
                    have hdn := RAt.done HM5.out.rat
                    rw [HT.out] at hdn
                    refine hdn.mono ?_
                    rintro e zz ⟨rfl, hz⟩
                    obtain rfl := hz.symm
                    clear hz hdn
                    go_wp2_with fail
                    have hfin : LongI theRes g B rb p0 p1 m w y5 (k + 1) (.slice ca nb ccap) := ⟨T, M2, o3, HOB3.out, HM5.out, by rw [HE.out]; exact HV5.out, HRB5.out, HST.out, HG2.out⟩
                    exact ⟨tornR HWR.out HLT2.out hfin, next_lt HWR.out HLT2.out⟩
                  · have gd : ((d : Int) == 0) = false := by simpa using hd0
                    have w1 := HW1.out
                    by_cases hf : (d : Int) + 1 ≤ rm
                    · have HR2 : Hid (M2.room = rm - d - 1) := by show _ = _; rw [← HNX.out, MS.next_fits HDF.out (by omega) (by rw [HRM.out]; exact hf), HRM.out]
                      have g7 : decide ((d : Int) + 1 ≤ rm) = true := decide_eq_true hf
                      have w2 : wrap64 (rm - (d : Int)) = rm - (d : Int) := IntWalk.wrap64_in _ (by have := HRBD.out; have := HDB.out; omega)
                      have w3 : wrap64 (rm - (d : Int) - 1) = rm - (d : Int) - 1 := IntWalk.wrap64_in _ (by have := HRBD.out; have := HDB.out; omega)
                      clear hd0 hf
                      go_wp2_with fail
                      obtain ⟨fm, hfm⟩ := HM4.out.mem
                      refine (HK.out.room hfm HST.out.good HST.out.used).mono ?_
                      rintro e y5 ⟨rfl, hy⟩
                      rw [HR2.out]
                      have HM5 : Hid (MAt theRes w y5 rb p0 p1 m T M2 o3) := AtR.beside (theRes.both _ _ _ _ _ _) HM4.out hy
                      have HV5 : Hid (KeptV o3 y5 (.slice ca nb ccap) C) := HV4.out.below hy
                      have HRB5 : Hid (RowC y5 B 23 g.cs) := HRB4.out.below hy
                      clear hfm hy
                      go_wp2_with fail
                      have hfin : LongI theRes g B rb p0 p1 m w y5 (k + 1) (.slice ca nb ccap) := ⟨T, M2, o3, HOB3.out, HM5.out, by rw [HE.out]; exact HV5.out, HRB5.out, HST.out, HG2.out⟩
                      exact ⟨tornR HWR.out HLT2.out hfin, next_lt HWR.out HLT2.out⟩
                    · have HR2 : Hid (M2.room = g.r - d - 1) := by show _ = _; rw [← HNX.out, MS.next_full HDF.out (by omega) (by rw [HRM.out]; exact hf), HMG.out]
                      have g7 : decide ((d : Int) + 1 ≤ rm) = false := decide_eq_false hf
                      clear hd0 hf
                      go_wp2_with fail
                      clear gd g7 w1
                      have LR : ∀ z : KeepB B y4, z.1.cell? ⟨B, 4, none⟩ = some (.int .i64 gr) := fun z => by have := (z.row HRB4.out).cell 4 _ rfl; rwa [HGR.out] at this
                      have hgb : 0 ≤ gr ∧ gr ≤ 256 := by have := HRBD.out; have := HGR.out; omega
                      have w2 : wrap64 (gr - (d : Int)) = gr - (d : Int) := IntWalk.wrap64_in _ (by have := HDB.out; omega)
                      have w3 : wrap64 (gr - (d : Int) - 1) = gr - (d : Int) - 1 := IntWalk.wrap64_in _ (by have := HDB.out; omega)
                      clear hgb
                      obtain ⟨D6, hD6⟩ : ∃ X, y4.drew = X := ⟨_, rfl⟩
                      have HD6 : Hid (Below y4.heap.size y4 D6) := by show Below _ _ _; rw [← hD6]; exact (Below.refl _ y4).drew
                      have HQD6 : Hid (D6.heap[B]? = y4.heap[B]?) := by show _ = _; rw [← hD6]; rfl
                      have HMD6 : Hid (MAt theRes w D6 rb p0 p1 m T M2 o3) := AtR.beside (theRes.both _ _ _ _ _ _) HM4.out HD6.out
                      refine region_plan (fun u => ∃ y : KeepB B y4, u = y.1) 7 (.takes [0, 2, 3, 4, 5, 6] (.one 1 .leaf)) hmx (by kernel_rfl) (by intro c x v a w h; cases x <;> exact h) ⟨⟨y4.drew, rfl⟩, rfl⟩ ?_
                      rw [hD6]
                      clear hD6
                      repeat (rw [wpPlan_takes_cons]; simp only [nth_zero, nth_succ]; go_big_quiet_step (fail); refine wpQuiet_nil ?_)
                      rw [wpPlan_takes_nil, wpPlan_one]
                      simp only [nth_zero, nth_succ]
                      go_wp2_with fail
                      obtain ⟨fm, hfm⟩ := HMD6.out.mem
                      refine (HK.out.room hfm HST.out.good HST.out.used).mono ?_
                      rintro e y5 ⟨rfl, hy⟩
                      rw [HR2.out, HGR.out]
                      have HY5 : Hid (Below y4.heap.size y4 y5) := HD6.out.trans (hy.mono HD6.out.size)
                      have HM5 : Hid (MAt theRes w y5 rb p0 p1 m T M2 o3) := AtR.beside (theRes.both _ _ _ _ _ _) HM4.out HY5.out
                      have HV5 : Hid (KeptV o3 y5 (.slice ca nb ccap) C) := HV4.out.below HY5.out
                      have HRB5 : Hid (RowC y5 B 23 g.cs) := HRB4.out.below HY5.out
                      have HQ5 : Hid (y5.heap[B]? = y4.heap[B]?) := HY5.out.block B HRB4.out.lt
                      clear hfm hy
                      go_wp2_with fail
                      refine planPost_mk ⟨⟨y5, HQ5.out⟩, rfl⟩ ?_
                      rw [wpPlan_leaf]
                      simp only [List.drop_succ_cons, List.drop_zero]
                      go_wp2_with fail
                      have hfin : LongI theRes g B rb p0 p1 m w y5 (k + 1) (.slice ca nb ccap) := ⟨T, M2, o3, HOB3.out, HM5.out, by rw [HE.out]; exact HV5.out, HRB5.out, HST.out, HG2.out⟩
                      exact ⟨tornR HWR.out HLT2.out hfin, next_lt HWR.out HLT2.out⟩
          · obtain rfl : k = len := by omega
            have HKS : Hid (k ≤ 200) := by show _ ≤ _; have := HLL.out; omega
            have g1 : decide ((k : Int) < (k : Int)) = false := by simp
            clear hlt hk
            go_wp2_with fail
            clear g1
            obtain ⟨fm, hfm⟩ := HM.out.mem
            refine (HK.out.bytes hfm (by have := HSI.out.len; omega) HSI.out.bytes).mono ?_
            rintro e z1 ⟨vz, rfl, hsz, -, hy⟩
            have HZ1 : Hid (Below w.heap.size w z1) := HM.out.bel.trans (hy.mono HM.out.size)
            have HSZ := Lib.hid hsz
            have HVZ := Lib.hid (HVB.out.below hy)
            clear hfm hsz hy
            go_wp2_with fail
            have hkb := keepBytes vz _ M.b M.b z1 HSZ.out HVZ.out.sl HSI.out.bytes HSI.out.bytes
            rw [decide_eq_true rfl] at hkb
            refine hkb.mono ?_
            rintro e zz ⟨rfl, hz⟩
            obtain rfl := hz.symm
            clear hz hkb
            go_wp2_with fail
            refine (HW.out _).mono ?_
            rintro e xz ⟨rfl, hx⟩
            have HXZ : Hid (Below w.heap.size w xz) := HZ1.out.trans (hx.mono HZ1.out.size)
            clear hx
            go_wp2_with fail
            go_ret
            first | exact ⟨rfl, HXZ.out⟩ | exact ⟨rfl, by rw [← hB]; exact HXZ.out⟩
      · rw [decide_eq_false hgd] at HGD
        clear hgd
        go_enter Tryz.func7, Tryz.ntmps7
        go_wp2_with fail
        refine hlt.mono ?_
        rintro e x1 ⟨rfl, hx⟩
        have HX1 : Hid (Below W.heap.size W x1) := hx
        have L1 := load_geo (HR0.out.below hx)
        clear hx hlt LG0
        go_wp2_with fail
        refine (HGD.out _).mono ?_
        rintro e x2 ⟨rfl, hx⟩
        have HX2 : Hid (Below W.heap.size W x2) := HX1.out.trans (hx.mono HX1.out.size)
        clear hx L1 HGD
        go_wp2_with fail
        refine (HW.out _).mono ?_
        rintro e xz ⟨rfl, hx⟩
        have HXZ : Hid (Below w.heap.size w xz) := HB0.out.trans ((HX2.out.trans (hx.mono HX2.out.size)).mono HB0.out.size)
        clear hx
        go_wp2_with fail
        go_ret
        first | exact ⟨rfl, HXZ.out⟩ | exact ⟨rfl, by rw [← hB]; exact HXZ.out⟩
    · rw [decide_eq_false hg] at hlt
      clear hg
      go_enter Tryz.func7, Tryz.ntmps7
      go_wp2_with fail
      refine hlt.mono ?_
      rintro e x1 ⟨rfl, hx⟩
      have HX1 : Hid (Below W.heap.size W x1) := hx
      clear hx hlt LG0
      go_wp2_with fail
      refine (HW.out _).mono ?_
      rintro e xz ⟨rfl, hx⟩
      have HXZ : Hid (Below w.heap.size w xz) := HB0.out.trans ((HX1.out.trans (hx.mono HX1.out.size)).mono HB0.out.size)
      clear hx
      go_wp2_with fail
      go_ret
      first | exact ⟨rfl, HXZ.out⟩ | exact ⟨rfl, by rw [← hB]; exact HXZ.out⟩

set_option maxRecDepth 100000 in
theorem lifted (os : Os) (started : os.Started) (H : Type) (enc : TypeId × Value → H) :
    ReturnsInHanded {} Tryz.checked os 7 .any (Rows.metaRoomsSpec.pre6 enc Tryz.prog Tryz.f7 Rows.metaRoomsRow.domain false) (Rows.metaRoomsSpec.post enc Tryz.prog Tryz.f7 false true false false) := by
  refine returnsInHanded_of_change (C := Tryz.checked) own started (by kernel_rfl) Tryz.func7
    (ChangeSpec.witness6 (enc := enc) (C := Tryz.checked) false ⟨#[], #[.agg #[.int .i64 0, .int .i64 0, .int .i64 0, .int .i64 0, .int .i64 0], .slice none 0 0], []⟩ 8 (by kernel_rfl) (by kernel_rfl) (by kernel_rfl) (by kernel_rfl)) ?_
  intro W base args ds gs before hval0 hW hcnd _
  have hval : ∀ (j : Nat) t v, Tryz.f7.params[j]? = some t → args[j]? = some v → Value.okWide Tryz.prog W .any base t v := hval0
  have hW' := hW
  obtain ⟨p, q, hA0, hV, rfl, hfz, hnd⟩ := hW
  have hA : DataW.TrodAll enc Tryz.prog W 0 (fun _ => true) true Tryz.f7.params.toList args.toList ds p := hA0
  rw [Tryz.params7] at hA hval
  obtain ⟨v0, vs0, d0, ds0, p0, q0, hargs, rfl, rfl, h0, r0⟩ := trodAll_cons hA
  obtain ⟨v1, vs1, d1, ds1, p1, q1, rfl, rfl, rfl, h1, r1⟩ := trodAll_cons r0
  obtain ⟨rfl, rfl, rfl⟩ := trodAll_nil r1
  obtain rfl : args = #[v0, v1] := by cases args; simp_all
  obtain ⟨rfl, rfl⟩ := trodVars_none hV
  have lt0 : ∀ x ∈ p0, x.block < W.heap.size := by obtain ⟨m, hm⟩ := h0; exact DataW.trod_lt m _ _ _ hm
  have a0 := Arg.mk (hval 0 23 v0 rfl rfl) h0
  have lt1 : ∀ x ∈ p1, x.block < W.heap.size := by obtain ⟨m, hm⟩ := h1; exact DataW.trod_lt m _ _ _ hm
  have a1 := Arg.mk (hval 1 89 v1 rfl rfl) h1
  clear hA0 hval0
  refine (walk v0 v1 W a0 a1).mono fun e W' ⟨he, bel⟩ => ?_
  subst he
  exact ⟨_, rfl, _, _, _, [], _, [], hW', trodAll_mk1 (shut_bool Tryz.underlying4 _), (trodAll_cons_mk (Below.trod laidOut (by kernel_rfl) (of_decide_eq_true (by kernel_rfl)) h0 bel lt0) (trodAll_cons_mk (Below.trod laidOut (by kernel_rfl) (of_decide_eq_true (by kernel_rfl)) h1 bel lt1) trodAll_mk0)), rfl, bel.frame _, fun h => by cases h⟩

set_option maxRecDepth 100000 in
theorem over : Rows.metaRoomsRow.holds Tryz.pinned (OpenSpec.ofChange Rows.metaRoomsSpec) :=
  OpenClaim.holds_of_wide 7 Tryz.f7 rfl rfl rfl rfl rfl rfl rfl ⟨rfl, rfl, rfl, rfl, rfl⟩ rfl rfl rfl rfl rfl (by kernel_rfl) Tryz.func7 (by kernel_rfl)
    (of_decide_eq_true (by kernel_rfl)) (by unfold Func.isWrapper; first | (rw [if_pos (by decide +kernel)]; kernel_rfl) | (rw [if_neg (by decide +kernel)]; exact ⟨rfl, rfl⟩))
    (fun os started H enc _ => lifted os started H enc)

theorem proved : Rows.MetaRoomsSaid := over
#print axioms proved
end Go.Proofs.YtbdfllamhcodjaaGreat.metaRooms
