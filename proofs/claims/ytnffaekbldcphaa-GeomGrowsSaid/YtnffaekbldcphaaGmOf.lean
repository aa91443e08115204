/- The document's geometry: Of, Slot, Area. -/
import Derived.Test.YtnffaekbldcphaaGmDoc
import Derived.Test.YtnffaekbldcphaaOrd
import Derived.Test.YtnffaekbldcphaaMake
namespace Go.Proofs.Ytnffaekbldcphaa
open Go.RowKit Go.Shelf
set_option linter.unusedVariables false
attribute [-simp] Try.isAgg25 Try.zeroValue25
attribute [-go_sem] loadVar storeVar
set_option maxRecDepth 100000 in
theorem zero_szs (w : World) : (zeroValue 25).run Try.prog w = .ok (.agg (szL 0 0 0 0 0 0 0 0).toArray) w := by kernel_rfl
set_option maxRecDepth 100000 in
theorem build_szs0 (w : World) : (Instr.build 25 #[]).run Try.prog w = .ok (.agg (szL 0 0 0 0 0 0 0 0).toArray) w := by kernel_rfl
set_option maxRecDepth 100000 in
theorem build_szs3 (a c d : Int) (w : World) : (Instr.build 25 #[(0, .int .i64 a), (2, .int .i64 c), (3, .int .i64 d)]).run Try.prog w = .ok (.agg (szL a 0 c d 0 0 0 0).toArray) w := by kernel_rfl
attribute [local go_sem] loadVar_openG storeVar_openG zero_szs build_szs0
/-- What Of tells. -/
def Geo.szl (g : Geo) : List Value := if g.good then szL g.bts g.pgs g.slots 2 (2 + g.r) (2 + g.r + g.pgs) (2 + g.r + g.pgs + g.slots) (g.b + g.a) else szL 0 0 0 0 0 0 0 0

section
set_option maxRecDepth 100000
set_option maxHeartbeats 8000000
set_option maxRecDepth 100000 in
theorem refOf (g : Geo) (w : World) : Calls Try.prog 6 #[.agg g.v] w fun e w' => e = .returned (.agg g.szl.toArray) ∧ Below w.heap.size w w' := by
  have hmx : Try.prog.follows .mixedOrders = true := by kernel_rfl
  obtain ⟨V, hV⟩ : ∃ V, w.alloc (.cells g.v 23) = V := ⟨_, rfl⟩
  have r : RowC V w.heap.size 23 g.cs := by rw [← hV]; exact RowC.new w _ _
  have hb0 : Below w.heap.size w V := by rw [← hV]; exact below_new w _
  obtain ⟨W, hW⟩ : ∃ W, V.alloc (.cells (szL 0 0 0 0 0 0 0 0).toArray 25) = W := ⟨_, rfl⟩
  have hb1 : Below V.heap.size V W := by rw [← hW]; exact below_new V _
  have rz : RowC W V.heap.size 25 (szL 0 0 0 0 0 0 0 0) := by rw [← hW]; exact RowC.new V _ _
  have r := r.below hb1
  have HB : Hid (Below w.heap.size w W) := hb0.trans (hb1.mono hb0.size)
  have HV : Hid (w.heap.size ≤ V.heap.size) := hb0.size
  obtain ⟨B, hB⟩ : ∃ b, w.heap.size = b := ⟨_, rfl⟩
  obtain ⟨Z, hZ⟩ : ∃ b, V.heap.size = b := ⟨_, rfl⟩
  rw [hZ] at rz HV
  have HVW : Hid (w.heap.size ≤ Z) := HV
  rw [hB] at r
  have HR := Lib.hid r
  have HLG : Hid (∀ x, Below W.heap.size W x → (loadVar 23 ⟨B, 0, none⟩).run Try.prog x = .ok (.agg g.v) x) := fun x hx => load_geo (r.below hx)
  have HRZ := Lib.hid rz
  have L0 := load_geo r
  have HG := Lib.hid (fun x => refGood7 g x)
  clear r rz hb0 hb1
  by_cases hg : g.good
  · have hgd : decide g.good = true := by simpa using hg
    have e1 : g.szl = szL g.bts g.pgs g.slots 2 (2 + g.r) (2 + g.r + g.pgs) (2 + g.r + g.pgs + g.slots) (g.b + g.a) := by unfold Geo.szl; rw [if_pos hg]
    rw [hgd] at HG
    obtain ⟨b1, b2, b3, b4, b5, b6⟩ := Geo.bounds hg.1
    have HBT := Lib.hid (fun x => refBts g hg.1 x)
    have HCN := Lib.hid (fun x => refCount g.bts x (by omega) (by omega))
    have g1 := hg.1
    obtain ⟨h1, h2, h3, h4, h5, h6, h7, h8⟩ := g1
    have h9 := hg.2.1
    have h10 := hg.2.2
    rw [e1]
    have hpg : cnt g.bts = g.pgs := rfl
    rw [hpg] at HCN
    obtain ⟨P, hP⟩ : ∃ n, g.pgs = n := ⟨_, rfl⟩
    obtain ⟨T, hT⟩ : ∃ n, g.bts = n := ⟨_, rfl⟩
    obtain ⟨M, hM⟩ : ∃ n, g.slots = n := ⟨_, rfl⟩
    obtain ⟨bb, hbb⟩ : ∃ n, g.b = n := ⟨_, rfl⟩
    obtain ⟨ss, hss⟩ : ∃ n, g.s = n := ⟨_, rfl⟩
    obtain ⟨yy, hyy⟩ : ∃ n, g.y = n := ⟨_, rfl⟩
    obtain ⟨aa, haa⟩ : ∃ n, g.a = n := ⟨_, rfl⟩
    obtain ⟨rr, hrr⟩ : ∃ n, g.r = n := ⟨_, rfl⟩
    have hsy : ss * yy = M := by rw [← hss, ← hyy, ← hM]; rfl
    have HC : Hid (∀ x, Below W.heap.size W x → x.cell? ⟨B, 0, none⟩ = some (.int .i64 bb) ∧ x.cell? ⟨B, 1, none⟩ = some (.int .i64 ss) ∧ x.cell? ⟨B, 2, none⟩ = some (.int .i64 yy) ∧ x.cell? ⟨B, 3, none⟩ = some (.int .i64 aa) ∧ x.cell? ⟨B, 4, none⟩ = some (.int .i64 rr)) := fun x hx => by
      have r := HR.out.below hx
      have k0 := r.cell 0 _ rfl
      have k1 := r.cell 1 _ rfl
      have k2 := r.cell 2 _ rfl
      have k3 := r.cell 3 _ rfl
      have k4 := r.cell 4 _ rfl
      rw [hbb] at k0
      rw [hss] at k1
      rw [hyy] at k2
      rw [haa] at k3
      rw [hrr] at k4
      exact ⟨k0, k1, k2, k3, k4⟩
    rw [hP, hT] at HCN
    rw [hT] at HBT
    rw [hP, hT, hM, hbb, haa, hrr]
    rw [hM] at b1 b2
    rw [hT] at b3 b4
    rw [hP] at b5 b6 h9
    rw [hbb] at h1 h2
    rw [hss] at h3 h4
    rw [hyy] at h5 h6
    rw [haa] at h7 h8
    rw [hrr] at h9 h10
    clear e1 hgd hpg hP hT hM hbb hss hyy haa hrr hg
    go_enter Try.func6, Try.ntmps6
    go_wp2_with fail
    go_at_call 8
    refine (HG.out _).mono ?_
    rintro e x ⟨rfl, hbx⟩
    have HX := Lib.hid hbx
    have LG : ∀ z : Ext x, (loadVar 23 ⟨B, 0, none⟩).run Try.prog z.1 = .ok (.agg g.v) z.1 := fun z => HLG.out z.1 (hbx.trans (z.2.mono hbx.size))
    have C1 : ∀ z : Ext x, z.1.cell? ⟨B, 1, none⟩ = some (.int .i64 ss) := fun z => (HC.out z.1 (hbx.trans (z.2.mono hbx.size))).2.1
    have C2 : ∀ z : Ext x, z.1.cell? ⟨B, 2, none⟩ = some (.int .i64 yy) := fun z => (HC.out z.1 (hbx.trans (z.2.mono hbx.size))).2.2.1
    clear hbx L0
    go_wp2_with fail
    refine region_plan (fun u => ∃ y : Ext x, u = y.1) 9 (.takes [0, 2, 3, 4, 5, 6] (.two 1 8 (.two 7 8 (.one 8 .leaf) (.one 7 .leaf)) (.one 1 (.one 7 .leaf)))) hmx (by kernel_rfl) (by intro c x v a w h; cases x <;> exact h) ⟨⟨x.drew, (Below.refl _ x).drew⟩, rfl⟩ ?_
    repeat (rw [wpPlan_takes_cons]; simp only [nth_zero, nth_succ]; go_big_quiet_step (fail); refine wpQuiet_nil ?_)
    rw [wpPlan_takes_nil]
    clear LG C1 C2
    obtain ⟨X, hX⟩ : ∃ X, x.drew = X := ⟨_, rfl⟩
    have HXX : Hid (Below x.heap.size x X) := by show Below _ _ _; rw [← hX]; exact (Below.refl _ x).drew
    rw [hX]
    clear hX
    refine ⟨?_, ?_⟩
    · simp only [nth_zero, nth_succ]
      go_wp2_with fail
      go_at_call 20
      refine (HBT.out _).mono ?_
      rintro e x1 ⟨rfl, hbq⟩
      have HX1 : Hid (Below x.heap.size x x1) := HXX.out.trans (hbq.mono HXX.out.size)
      clear hbq
      go_wp2_with fail
      refine planPost_mk ⟨⟨x1, HX1.out⟩, rfl⟩ ?_
      have B3 : Hid ((Instr.build 25 #[(0, .int .i64 T), (2, .int .i64 M), (3, .int .i64 2)]).run Try.prog x1 = .ok (.agg (szL T 0 M 2 0 0 0 0).toArray) x1) := build_szs3 T M 2 x1
      obtain ⟨x2, hx2⟩ : ∃ y, x1.alloc (.cells (szL 0 0 0 0 0 0 0 0).toArray 25) = y := ⟨_, rfl⟩
      have HX2 : Hid (Below x.heap.size x x2) := HX1.out.trans (by rw [← hx2]; exact (below_new x1 _).mono HX1.out.size)
      have B3' : Hid ((Instr.build 25 #[(0, .int .i64 T), (2, .int .i64 M), (3, .int .i64 2)]).run Try.prog x2 = .ok (.agg (szL T 0 M 2 0 0 0 0).toArray) x2) := build_szs3 T M 2 x2
      obtain ⟨y0, ST, hk, hbk⟩ := new_szs x1 T 0 M 2 0 0 0 0
      obtain ⟨Bk, hBk⟩ : ∃ b, x1.heap.size = b := ⟨_, rfl⟩
      rw [hx2, hBk] at ST
      rw [hBk] at hk
      have RK := Lib.hid hk
      have HKW : Hid (W.heap.size ≤ Bk) := by show _ ≤ _; rw [← hBk]; exact Nat.le_trans HX.out.size HX1.out.size
      have HBY : Hid (Below W.heap.size W y0) := HX.out.trans ((HX1.out.trans (hbk.mono HX1.out.size)).mono HX.out.size)
      have HST := Lib.hid ST
      clear hk hbk ST
      refine ⟨?_, ?_⟩
      · simp only [nth_zero, nth_succ]
        refine wpList_struct_run _ _ rfl rfl [(0, .int .i64 T), (2, .int .i64 M), (3, .int .i64 2)] _ rfl B3.out ?_
        refine wpList_nil ?_
        refine planPost_mk ⟨⟨x1, HX1.out⟩, rfl⟩ ?_
        rw [wpPlan_one]
        simp only [nth_zero, nth_succ]
        go_wp2_with fail
        try rw [hx2]
        refine planPost_mk ⟨⟨x2, HX2.out⟩, rfl⟩ ?_
        rw [wpPlan_leaf]
        simp only [List.drop_succ_cons, List.drop_zero]
        have ST := HST.out
        obtain ⟨y1, h1'⟩ : ∃ y, y0.setCell ⟨Bk, 1, none⟩ (.int .i64 P) = y := ⟨_, rfl⟩
        obtain ⟨y2, h2'⟩ : ∃ y, y1.setCell ⟨Bk, 4, none⟩ (.int .i64 (2 + rr)) = y := ⟨_, rfl⟩
        obtain ⟨y3, h3'⟩ : ∃ y, y2.setCell ⟨Bk, 5, none⟩ (.int .i64 (2 + rr + P)) = y := ⟨_, rfl⟩
        obtain ⟨y4, h4'⟩ : ∃ y, y3.setCell ⟨Bk, 6, none⟩ (.int .i64 (2 + rr + P + M)) = y := ⟨_, rfl⟩
        obtain ⟨y5, h5'⟩ : ∃ y, y4.setCell ⟨Bk, 7, none⟩ (.int .i64 (bb + aa)) = y := ⟨_, rfl⟩
        have k0 := RK.out
        have k1 : RowC y1 Bk 25 (szL T P M 2 0 0 0 0) := by rw [← h1']; exact k0.set 1 _
        have k2 : RowC y2 Bk 25 (szL T P M 2 (2 + rr) 0 0 0) := by rw [← h2']; exact k1.set 4 _
        have k3 : RowC y3 Bk 25 (szL T P M 2 (2 + rr) (2 + rr + P) 0 0) := by rw [← h3']; exact k2.set 5 _
        have k4 : RowC y4 Bk 25 (szL T P M 2 (2 + rr) (2 + rr + P) (2 + rr + P + M) 0) := by rw [← h4']; exact k3.set 6 _
        have k5 : RowC y5 Bk 25 (szL T P M 2 (2 + rr) (2 + rr + P) (2 + rr + P + M) (bb + aa)) := by rw [← h5']; exact k4.set 7 _
        have e1' : y0.grownBy y1 (some Bk) := by rw [← h1']; exact grownBy_cell y0 Bk 1 _
        have e2' : y1.grownBy y2 (some Bk) := by rw [← h2']; exact grownBy_cell y1 Bk 4 _
        have e3' : y2.grownBy y3 (some Bk) := by rw [← h3']; exact grownBy_cell y2 Bk 5 _
        have e4' : y3.grownBy y4 (some Bk) := by rw [← h4']; exact grownBy_cell y3 Bk 6 _
        have e5' : y4.grownBy y5 (some Bk) := by rw [← h5']; exact grownBy_cell y4 Bk 7 _
        have bw : ∀ y, y0.grownBy y (some Bk) → Below W.heap.size W y := fun y hg => HBY.out.grown hg HBY.out.size (fun j e => by cases e; exact HKW.out)
        have q1 := bw y1 e1'
        have q2 := bw y2 (e1'.trans e2')
        have q3 := bw y3 ((e1'.trans e2').trans e3')
        have q4 := bw y4 (((e1'.trans e2').trans e3').trans e4')
        have q5 := bw y5 ((((e1'.trans e2').trans e3').trans e4').trans e5')
        have a0 : y0.cell? ⟨Bk, 0, none⟩ = some (.int .i64 T) := k0.cell 0 _ rfl
        have a01 : y0.cell? ⟨Bk, 1, none⟩ = some (.int .i64 0) := k0.cell 1 _ rfl
        have a0' := k0.frozen 1
        have a1 : y1.cell? ⟨Bk, 3, none⟩ = some (.int .i64 2) := k1.cell 3 _ rfl
        have a11 : y1.cell? ⟨Bk, 4, none⟩ = some (.int .i64 0) := k1.cell 4 _ rfl
        have a1' := k1.frozen 4
        have a12 := (HC.out y1 q1).2.2.2.2
        have a2 : y2.cell? ⟨Bk, 4, none⟩ = some (.int .i64 (2 + rr)) := k2.cell 4 _ rfl
        have a21 : y2.cell? ⟨Bk, 1, none⟩ = some (.int .i64 P) := k2.cell 1 _ rfl
        have a22 : y2.cell? ⟨Bk, 5, none⟩ = some (.int .i64 0) := k2.cell 5 _ rfl
        have a2' := k2.frozen 5
        have a3 : y3.cell? ⟨Bk, 5, none⟩ = some (.int .i64 (2 + rr + P)) := k3.cell 5 _ rfl
        have a31 : y3.cell? ⟨Bk, 2, none⟩ = some (.int .i64 M) := k3.cell 2 _ rfl
        have a32 : y3.cell? ⟨Bk, 6, none⟩ = some (.int .i64 0) := k3.cell 6 _ rfl
        have a3' := k3.frozen 6
        have a4 := (HC.out y4 q4).1
        have a41 := (HC.out y4 q4).2.2.2.1
        have a42 : y4.cell? ⟨Bk, 7, none⟩ = some (.int .i64 0) := k4.cell 7 _ rfl
        have a4' := k4.frozen 7
        have l5 := load_szs k5
        obtain ⟨y6, ST6, hr6, hg6⟩ := store_szs (a := T) (b := P) (c := M) (d := 2) (e := 2 + rr) (f := 2 + rr + P) (h := 2 + rr + P + M) (i := bb + aa) (HRZ.out.below q5) rfl
        have LD6 := load_szs hr6
        have q6 : Below w.heap.size w y6 := (HB.out.trans (q5.mono HB.out.size)).grown hg6 (HB.out.trans (q5.mono HB.out.size)).size (fun j e => by cases e; exact HVW.out)
        have HQ6 := Lib.hid q6
        clear k0 k1 k2 k3 k4 k5 e1' e2' e3' e4' e5' bw q1 q2 q3 q4 q5 q6 hr6 hg6
        go_wp2_with fail
        go_at_call 21
        refine (HCN.out y0).mono ?_
        rintro e zz ⟨rfl, hz⟩
        obtain rfl := hz.symm
        clear hz
        go_wp2_with fail
        refine bodyPost_ret (results_cell rfl rfl LD6) rfl ⟨rfl, HQ6.out⟩
      · simp only [nth_zero, nth_succ]
        go_wp2_with fail
        try rw [hx2]
        refine planPost_mk ⟨⟨x2, HX2.out⟩, rfl⟩ ?_
        rw [wpPlan_one]
        simp only [nth_zero, nth_succ]
        refine wpList_struct_run _ _ rfl rfl [(0, .int .i64 T), (2, .int .i64 M), (3, .int .i64 2)] _ rfl B3'.out ?_
        refine wpList_nil ?_
        refine planPost_mk ⟨⟨x2, HX2.out⟩, rfl⟩ ?_
        rw [wpPlan_leaf]
        simp only [List.drop_succ_cons, List.drop_zero]
        have ST := HST.out
        obtain ⟨y1, h1'⟩ : ∃ y, y0.setCell ⟨Bk, 1, none⟩ (.int .i64 P) = y := ⟨_, rfl⟩
        obtain ⟨y2, h2'⟩ : ∃ y, y1.setCell ⟨Bk, 4, none⟩ (.int .i64 (2 + rr)) = y := ⟨_, rfl⟩
        obtain ⟨y3, h3'⟩ : ∃ y, y2.setCell ⟨Bk, 5, none⟩ (.int .i64 (2 + rr + P)) = y := ⟨_, rfl⟩
        obtain ⟨y4, h4'⟩ : ∃ y, y3.setCell ⟨Bk, 6, none⟩ (.int .i64 (2 + rr + P + M)) = y := ⟨_, rfl⟩
        obtain ⟨y5, h5'⟩ : ∃ y, y4.setCell ⟨Bk, 7, none⟩ (.int .i64 (bb + aa)) = y := ⟨_, rfl⟩
        have k0 := RK.out
        have k1 : RowC y1 Bk 25 (szL T P M 2 0 0 0 0) := by rw [← h1']; exact k0.set 1 _
        have k2 : RowC y2 Bk 25 (szL T P M 2 (2 + rr) 0 0 0) := by rw [← h2']; exact k1.set 4 _
        have k3 : RowC y3 Bk 25 (szL T P M 2 (2 + rr) (2 + rr + P) 0 0) := by rw [← h3']; exact k2.set 5 _
        have k4 : RowC y4 Bk 25 (szL T P M 2 (2 + rr) (2 + rr + P) (2 + rr + P + M) 0) := by rw [← h4']; exact k3.set 6 _
        have k5 : RowC y5 Bk 25 (szL T P M 2 (2 + rr) (2 + rr + P) (2 + rr + P + M) (bb + aa)) := by rw [← h5']; exact k4.set 7 _
        have e1' : y0.grownBy y1 (some Bk) := by rw [← h1']; exact grownBy_cell y0 Bk 1 _
        have e2' : y1.grownBy y2 (some Bk) := by rw [← h2']; exact grownBy_cell y1 Bk 4 _
        have e3' : y2.grownBy y3 (some Bk) := by rw [← h3']; exact grownBy_cell y2 Bk 5 _
        have e4' : y3.grownBy y4 (some Bk) := by rw [← h4']; exact grownBy_cell y3 Bk 6 _
        have e5' : y4.grownBy y5 (some Bk) := by rw [← h5']; exact grownBy_cell y4 Bk 7 _
        have bw : ∀ y, y0.grownBy y (some Bk) → Below W.heap.size W y := fun y hg => HBY.out.grown hg HBY.out.size (fun j e => by cases e; exact HKW.out)
        have q1 := bw y1 e1'
        have q2 := bw y2 (e1'.trans e2')
        have q3 := bw y3 ((e1'.trans e2').trans e3')
        have q4 := bw y4 (((e1'.trans e2').trans e3').trans e4')
        have q5 := bw y5 ((((e1'.trans e2').trans e3').trans e4').trans e5')
        have a0 : y0.cell? ⟨Bk, 0, none⟩ = some (.int .i64 T) := k0.cell 0 _ rfl
        have a01 : y0.cell? ⟨Bk, 1, none⟩ = some (.int .i64 0) := k0.cell 1 _ rfl
        have a0' := k0.frozen 1
        have a1 : y1.cell? ⟨Bk, 3, none⟩ = some (.int .i64 2) := k1.cell 3 _ rfl
        have a11 : y1.cell? ⟨Bk, 4, none⟩ = some (.int .i64 0) := k1.cell 4 _ rfl
        have a1' := k1.frozen 4
        have a12 := (HC.out y1 q1).2.2.2.2
        have a2 : y2.cell? ⟨Bk, 4, none⟩ = some (.int .i64 (2 + rr)) := k2.cell 4 _ rfl
        have a21 : y2.cell? ⟨Bk, 1, none⟩ = some (.int .i64 P) := k2.cell 1 _ rfl
        have a22 : y2.cell? ⟨Bk, 5, none⟩ = some (.int .i64 0) := k2.cell 5 _ rfl
        have a2' := k2.frozen 5
        have a3 : y3.cell? ⟨Bk, 5, none⟩ = some (.int .i64 (2 + rr + P)) := k3.cell 5 _ rfl
        have a31 : y3.cell? ⟨Bk, 2, none⟩ = some (.int .i64 M) := k3.cell 2 _ rfl
        have a32 : y3.cell? ⟨Bk, 6, none⟩ = some (.int .i64 0) := k3.cell 6 _ rfl
        have a3' := k3.frozen 6
        have a4 := (HC.out y4 q4).1
        have a41 := (HC.out y4 q4).2.2.2.1
        have a42 : y4.cell? ⟨Bk, 7, none⟩ = some (.int .i64 0) := k4.cell 7 _ rfl
        have a4' := k4.frozen 7
        have l5 := load_szs k5
        obtain ⟨y6, ST6, hr6, hg6⟩ := store_szs (a := T) (b := P) (c := M) (d := 2) (e := 2 + rr) (f := 2 + rr + P) (h := 2 + rr + P + M) (i := bb + aa) (HRZ.out.below q5) rfl
        have LD6 := load_szs hr6
        have q6 : Below w.heap.size w y6 := (HB.out.trans (q5.mono HB.out.size)).grown hg6 (HB.out.trans (q5.mono HB.out.size)).size (fun j e => by cases e; exact HVW.out)
        have HQ6 := Lib.hid q6
        clear k0 k1 k2 k3 k4 k5 e1' e2' e3' e4' e5' bw q1 q2 q3 q4 q5 q6 hr6 hg6
        go_wp2_with fail
        go_at_call 21
        refine (HCN.out y0).mono ?_
        rintro e zz ⟨rfl, hz⟩
        obtain rfl := hz.symm
        clear hz
        go_wp2_with fail
        refine bodyPost_ret (results_cell rfl rfl LD6) rfl ⟨rfl, HQ6.out⟩
    · simp only [nth_zero, nth_succ]
      obtain ⟨x1, hx1⟩ : ∃ y, X.alloc (.cells (szL 0 0 0 0 0 0 0 0).toArray 25) = y := ⟨_, rfl⟩
      have hrz : RowC x1 X.heap.size 25 (szL 0 0 0 0 0 0 0 0) := by rw [← hx1]; exact RowC.new X _ _
      have HX1 : Hid (Below x.heap.size x x1) := HXX.out.trans (by rw [← hx1]; exact (below_new X _).mono HXX.out.size)
      obtain ⟨Bk, hBk⟩ : ∃ b, X.heap.size = b := ⟨_, rfl⟩
      rw [hBk] at hrz
      have HKW : Hid (W.heap.size ≤ Bk) := by show _ ≤ _; rw [← hBk]; exact Nat.le_trans HX.out.size HXX.out.size
      have HRK := Lib.hid hrz
      clear hrz
      go_wp2_with fail
      try rw [hx1]
      refine planPost_mk ⟨⟨x1, HX1.out⟩, rfl⟩ ?_
      clear hx1
      rw [wpPlan_one]
      simp only [nth_zero, nth_succ]
      go_wp2_with fail
      go_at_call 20
      refine (HBT.out _).mono ?_
      rintro e x2 ⟨rfl, hbq⟩
      have HX2 : Hid (Below x.heap.size x x2) := HX1.out.trans (hbq.mono HX1.out.size)
      have B3 : Hid ((Instr.build 25 #[(0, .int .i64 T), (2, .int .i64 M), (3, .int .i64 2)]).run Try.prog x2 = .ok (.agg (szL T 0 M 2 0 0 0 0).toArray) x2) := build_szs3 T M 2 x2
      obtain ⟨y0, ST, hk, hgk⟩ := store_szs (a := T) (b := 0) (c := M) (d := 2) (e := 0) (f := 0) (h := 0) (i := 0) (HRK.out.below hbq) rfl
      have RK := Lib.hid hk
      have hb2 := HX.out.trans (HX2.out.mono HX.out.size)
      have HBY : Hid (Below W.heap.size W y0) := hb2.grown hgk hb2.size (fun j e => by cases e; exact HKW.out)
      have HST := Lib.hid ST
      clear hbq hk hgk hb2 ST
      go_wp2_with fail
      refine planPost_mk ⟨⟨x2, HX2.out⟩, rfl⟩ ?_
      rw [wpPlan_one]
      simp only [nth_zero, nth_succ]
      refine wpList_struct_run _ _ rfl rfl [(0, .int .i64 T), (2, .int .i64 M), (3, .int .i64 2)] _ rfl B3.out ?_
      refine wpList_nil ?_
      refine planPost_mk ⟨⟨x2, HX2.out⟩, rfl⟩ ?_
      rw [wpPlan_leaf]
      simp only [List.drop_succ_cons, List.drop_zero]
      have ST := HST.out
      obtain ⟨y1, h1'⟩ : ∃ y, y0.setCell ⟨Bk, 1, none⟩ (.int .i64 P) = y := ⟨_, rfl⟩
      obtain ⟨y2, h2'⟩ : ∃ y, y1.setCell ⟨Bk, 4, none⟩ (.int .i64 (2 + rr)) = y := ⟨_, rfl⟩
      obtain ⟨y3, h3'⟩ : ∃ y, y2.setCell ⟨Bk, 5, none⟩ (.int .i64 (2 + rr + P)) = y := ⟨_, rfl⟩
      obtain ⟨y4, h4'⟩ : ∃ y, y3.setCell ⟨Bk, 6, none⟩ (.int .i64 (2 + rr + P + M)) = y := ⟨_, rfl⟩
      obtain ⟨y5, h5'⟩ : ∃ y, y4.setCell ⟨Bk, 7, none⟩ (.int .i64 (bb + aa)) = y := ⟨_, rfl⟩
      have k0 := RK.out
      have k1 : RowC y1 Bk 25 (szL T P M 2 0 0 0 0) := by rw [← h1']; exact k0.set 1 _
      have k2 : RowC y2 Bk 25 (szL T P M 2 (2 + rr) 0 0 0) := by rw [← h2']; exact k1.set 4 _
      have k3 : RowC y3 Bk 25 (szL T P M 2 (2 + rr) (2 + rr + P) 0 0) := by rw [← h3']; exact k2.set 5 _
      have k4 : RowC y4 Bk 25 (szL T P M 2 (2 + rr) (2 + rr + P) (2 + rr + P + M) 0) := by rw [← h4']; exact k3.set 6 _
      have k5 : RowC y5 Bk 25 (szL T P M 2 (2 + rr) (2 + rr + P) (2 + rr + P + M) (bb + aa)) := by rw [← h5']; exact k4.set 7 _
      have e1' : y0.grownBy y1 (some Bk) := by rw [← h1']; exact grownBy_cell y0 Bk 1 _
      have e2' : y1.grownBy y2 (some Bk) := by rw [← h2']; exact grownBy_cell y1 Bk 4 _
      have e3' : y2.grownBy y3 (some Bk) := by rw [← h3']; exact grownBy_cell y2 Bk 5 _
      have e4' : y3.grownBy y4 (some Bk) := by rw [← h4']; exact grownBy_cell y3 Bk 6 _
      have e5' : y4.grownBy y5 (some Bk) := by rw [← h5']; exact grownBy_cell y4 Bk 7 _
      have bw : ∀ y, y0.grownBy y (some Bk) → Below W.heap.size W y := fun y hg => HBY.out.grown hg HBY.out.size (fun j e => by cases e; exact HKW.out)
      have q1 := bw y1 e1'
      have q2 := bw y2 (e1'.trans e2')
      have q3 := bw y3 ((e1'.trans e2').trans e3')
      have q4 := bw y4 (((e1'.trans e2').trans e3').trans e4')
      have q5 := bw y5 ((((e1'.trans e2').trans e3').trans e4').trans e5')
      have a0 : y0.cell? ⟨Bk, 0, none⟩ = some (.int .i64 T) := k0.cell 0 _ rfl
      have a01 : y0.cell? ⟨Bk, 1, none⟩ = some (.int .i64 0) := k0.cell 1 _ rfl
      have a0' := k0.frozen 1
      have a1 : y1.cell? ⟨Bk, 3, none⟩ = some (.int .i64 2) := k1.cell 3 _ rfl
      have a11 : y1.cell? ⟨Bk, 4, none⟩ = some (.int .i64 0) := k1.cell 4 _ rfl
      have a1' := k1.frozen 4
      have a12 := (HC.out y1 q1).2.2.2.2
      have a2 : y2.cell? ⟨Bk, 4, none⟩ = some (.int .i64 (2 + rr)) := k2.cell 4 _ rfl
      have a21 : y2.cell? ⟨Bk, 1, none⟩ = some (.int .i64 P) := k2.cell 1 _ rfl
      have a22 : y2.cell? ⟨Bk, 5, none⟩ = some (.int .i64 0) := k2.cell 5 _ rfl
      have a2' := k2.frozen 5
      have a3 : y3.cell? ⟨Bk, 5, none⟩ = some (.int .i64 (2 + rr + P)) := k3.cell 5 _ rfl
      have a31 : y3.cell? ⟨Bk, 2, none⟩ = some (.int .i64 M) := k3.cell 2 _ rfl
      have a32 : y3.cell? ⟨Bk, 6, none⟩ = some (.int .i64 0) := k3.cell 6 _ rfl
      have a3' := k3.frozen 6
      have a4 := (HC.out y4 q4).1
      have a41 := (HC.out y4 q4).2.2.2.1
      have a42 : y4.cell? ⟨Bk, 7, none⟩ = some (.int .i64 0) := k4.cell 7 _ rfl
      have a4' := k4.frozen 7
      have l5 := load_szs k5
      obtain ⟨y6, ST6, hr6, hg6⟩ := store_szs (a := T) (b := P) (c := M) (d := 2) (e := 2 + rr) (f := 2 + rr + P) (h := 2 + rr + P + M) (i := bb + aa) (HRZ.out.below q5) rfl
      have LD6 := load_szs hr6
      have q6 : Below w.heap.size w y6 := (HB.out.trans (q5.mono HB.out.size)).grown hg6 (HB.out.trans (q5.mono HB.out.size)).size (fun j e => by cases e; exact HVW.out)
      have HQ6 := Lib.hid q6
      clear k0 k1 k2 k3 k4 k5 e1' e2' e3' e4' e5' bw q1 q2 q3 q4 q5 q6 hr6 hg6
      go_wp2_with fail
      go_at_call 21
      refine (HCN.out y0).mono ?_
      rintro e zz ⟨rfl, hz⟩
      obtain rfl := hz.symm
      clear hz
      go_wp2_with fail
      refine bodyPost_ret (results_cell rfl rfl LD6) rfl ⟨rfl, HQ6.out⟩
  · have hgd : decide g.good = false := by simpa using hg
    have e1 : g.szl = szL 0 0 0 0 0 0 0 0 := by unfold Geo.szl; rw [if_neg hg]
    rw [hgd] at HG
    rw [e1]
    clear hg hgd e1
    go_enter Try.func6, Try.ntmps6
    go_wp2_with fail
    go_at_call 8
    refine (HG.out _).mono ?_
    rintro e x ⟨rfl, hbx⟩
    obtain ⟨y6, ST6, hr6, hg6⟩ := store_szs (a := 0) (b := 0) (c := 0) (d := 0) (e := 0) (f := 0) (h := 0) (i := 0) (HRZ.out.below hbx) rfl
    have LD6 := load_szs hr6
    have hb2 := HB.out.trans (hbx.mono HB.out.size)
    have HQ6 : Hid (Below w.heap.size w y6) := hb2.grown hg6 hb2.size (fun j e => by cases e; exact HVW.out)
    clear hbx hr6 hg6 hb2 L0
    go_wp2_with fail
    refine bodyPost_ret (results_cell rfl rfl LD6) rfl ⟨rfl, HQ6.out⟩
end
end Go.Proofs.Ytnffaekbldcphaa
