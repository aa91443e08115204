/- The ground of the proofs, part 5. -/
import Derived.Test.YtajamblkjmafmaaGreatJP4
import Derived.Maps.AppendAt
import Derived.Shelf.Bits.Mul64
import Derived.Test.YtajamblkjmafmaaGreatProg
import Derived.Laws.CopyRow
/- The program's Decode of a state. -/
namespace Go.Proofs.YtajamblkjmafmaaGreat
open Go.RowKit Go.Shelf Go.Lib
set_option linter.unusedVariables false
set_option linter.unusedSimpArgs false
/-- The state as the program reads it. -/
def pParse (g : SG) (bs : List Int) : ST := ⟨dirtP g bs g.slots, snK g bs 8, getL (seg bs 0 4), bs[5]?.getD 0, getL (seg bs 6 4), prFrom 0 (seg bs (g.at 8) g.b)⟩
theorem dec_is {g : SG} (hg : g.Ok) {bs : List Int} (hl : bs.length = g.bts) :
    (sGood g (pParse g bs) = true ∧ sEnc g (pParse g bs) = bs → sDec g bs = some (pParse g bs)) ∧ (¬ (sGood g (pParse g bs) = true ∧ sEnc g (pParse g bs) = bs) → sDec g bs = none) := by
  constructor
  · rintro ⟨h1, h2⟩
    have := dec_enc hg h1
    rw [h2] at this
    exact this
  · intro h
    cases hd : sDec g bs with
    | none => rfl
    | some s =>
      exfalso
      have h2 := dec_some hd
      unfold sDec at hd
      split at hd
      · rename_i c
        have hs : sParse g bs = s := Option.some.inj hd
        obtain ⟨c1, c2, c3, c4⟩ := c
        have e : sParse g bs = pParse g bs := by
          have hp := parse_is g hl (by omega)
          rw [hp] at c3 ⊢
          unfold pParse
          have e1 : dirtK g bs g.slots = dirtP g bs g.slots := by
            unfold dirtK dirtP
            refine List.map_congr_left fun x hx => ?_
            have hr := dirt_rng hg (d := dirtK g bs g.slots) (by unfold sGood at c3; simp only [Bool.and_eq_true] at c3; exact c3.1.1.1.1.1) (x - 1) (by unfold dirtK; exact List.mem_map.2 ⟨x, hx, rfl⟩)
            show x - 1 = plA x
            unfold plA
            rw [if_neg (by omega)]
          rw [e1, seg_all (a := g.at 8) (n := g.b) (by rw [hl]; exact g.at_end.symm)]
        rw [e] at hs
        rw [← hs] at h2
        exact h h2
      · cases hd
theorem pParse_lens {g : SG} (hg : g.Ok) (bs : List Int) : Lens 1000 (snK g bs 8) ∧ (prFrom 0 (seg bs (g.at 8) g.b)).length ≤ 1000 := by
  have hb := hg.b64
  have h9 := sizeB_le64 hg
  have hseg : ∀ a n, (seg bs a n).length ≤ n := fun a n => by unfold seg; rw [List.length_take]; omega
  refine ⟨⟨?_, fun s hs => ?_⟩, ?_⟩
  · unfold snK; rw [List.length_map, List.length_range]; omega
  · unfold snK at hs
    obtain ⟨i, -, rfl⟩ := List.mem_map.1 hs
    unfold sSnapR
    constructor
    · show (seg (seg bs (g.at i) g.step) 4 g.n9).length ≤ 1000
      unfold seg
      rw [List.length_take]
      have : g.n9 ≤ 8 := h9
      omega
    · show (prFrom 0 (seg (seg bs (g.at i) g.step) (4 + g.n9) g.b)).length ≤ 1000
      have h1 := prFrom_len (seg (seg bs (g.at i) g.step) (4 + g.n9) g.b) 0
      have h2 : (seg (seg bs (g.at i) g.step) (4 + g.n9) g.b).length ≤ g.b := by unfold seg; rw [List.length_take]; omega
      omega
  · have h1 := prFrom_len (seg bs (g.at 8) g.b) 0
    have h2 := hseg (g.at 8) g.b
    omega
theorem dirtP_is64 {g : SG} {bs : List Int} (hB : IsBytes bs) (k : Nat) : ∀ x ∈ dirtP g bs k, Is64 x := fun x hx => by
  unfold dirtP at hx
  obtain ⟨y, hy, rfl⟩ := List.mem_map.1 hx
  obtain ⟨j, hj⟩ := List.getElem?_of_mem (List.mem_of_mem_take hy)
  have := isB_seg hB 10 g.slots j
  rw [hj] at this
  simp only [Option.getD_some] at this
  unfold plA Is64
  split <;> omega
attribute [-simp] Tryz.isAgg55 Tryz.zeroValue55 Tryz.isAgg57 Tryz.zeroValue57 Tryz.isAgg30 Tryz.zeroValue30
attribute [-go_sem] loadVar storeVar
attribute [local go_sem] loadVar_openQ storeVar_openQ zero_sn zero_prs zero_st build_sn build_st0
theorem ReadR.below {g : SG} {bs : List Int} {M : Nat} {W W' : World} {q : PS} (h : ReadR g bs M W q) (hb : Below W.heap.size W W') : ReadR g bs M W' q := ⟨h.nx, h.kd, h.id, h.dd.below hb, h.ss.below hb, h.pr.below hb⟩
theorem ReadR.low {g : SG} {bs : List Int} {M : Nat} {W W' : World} {q : PS} {row : Option Nat} (h : ReadR g bs M W q) (hg : W.grownBy W' row) (hr : ∀ j, row = some j → j < M) : ReadR g bs M W' q := ⟨h.nx, h.kd, h.id, h.dd.low hg hr, h.ss.low hg hr, h.pr.low hg hr⟩
theorem ReadR.decR {g : SG} {bs : List Int} {M N : Nat} {W : World} {q : PS} (h : ReadR g bs M W q) (hN : N ≤ M) (hd : sDec g bs = some (pParse g bs)) : DecR g bs N W q 0 := by
  unfold DecR
  rw [hd]
  refine ⟨rfl, h.nx, h.kd, h.id, own_weak h.dd hN, ?_, h.pr.weak hN⟩
  obtain ⟨r, h1, h2, h3⟩ := h.ss
  exact ⟨r, h1, own_weak h2 hN, fun j q s a b => (h3 j q s a b).weak hN⟩
theorem sl_numI {N : Nat} {w : World} {v : Value} {zs : List Int} (h : InO N w v zs) : Sl .i64 w v zs := sl_own h

set_option maxRecDepth 100000 in
set_option maxHeartbeats 4000000 in
/-- **Decode**. -/
theorem sg_decode {w : World} {v : Value} {bs : List Int} (g : SG) (hg : g.Ok) (r : Int) (hi : (g.geo r).In) (hr : (g.geo r).good) (hv : Sl .u8 w v bs) (hB : IsBytes bs) (hlm : bs.length ≤ 100000) :
    Calls Tryz.prog 11 #[.agg (g.v r), v] w fun e w' => ∃ q c, e = .returned (.tuple #[stV q, .int .i64 c]) ∧ DecR g bs w.heap.size w' q c ∧ Below w.heap.size w w' := by
  have HGD : Hid (∀ x : World, Calls Tryz.prog 32 #[.agg (g.v r)] x fun e w' => e = .returned (.bool true) ∧ Below x.heap.size x w') := fun x => (gmGood (g.geo r) hi x).mono fun e y hy => ⟨by rw [hy.1, decide_eq_true hr], hy.2⟩
  have HBT : Hid (∀ x : World, Calls Tryz.prog 21 #[.agg (g.v r)] x fun e w' => e = .returned (.int .i64 (g.bts : Int)) ∧ Below x.heap.size x w') := fun x => (gmBytes (g.geo r) hi x).mono fun e y hy => ⟨by rw [hy.1]; unfold Geo.oB; rw [if_pos hr, geo_bts hg], hy.2⟩
  have HGO := Lib.hid hg
  have HRD : Hid (bs.length = g.bts → ∀ x : World, Below w.heap.size w x → Calls Tryz.prog 33 #[.agg (g.v r), v] x fun e w' => ∃ q : PS, e = .returned (stV q) ∧ ReadR g bs x.heap.size w' q ∧ Below x.heap.size x w') := fun hl x hx => sg_read g HGO.out r (hv.below hx) hB hl
  have HEN : Hid (∀ (x : World) (q : PS) (M : Nat), ReadR g bs M x q → Calls Tryz.prog 9 #[.agg (g.v r), stV q] x fun e w' => ∃ u c, e = .returned (.tuple #[u, .int .i64 c]) ∧ EncR g (pParse g bs) x.heap.size w' u c ∧ Below x.heap.size x w') := fun x q M h => by
    have hl := pParse_lens HGO.out bs
    have := sg_encode (q := q) (d := dirtP g bs g.slots) (l := snK g bs 8) (ps := prFrom 0 (seg bs (g.at 8) g.b)) g HGO.out r hi hr (sl_numI h.dd) (dirtP_is64 hB _) ⟨h.ss.snp, h.pr.prt⟩ hl.1 hl.2
    rw [h.nx, h.kd, h.id] at this
    exact this
  obtain ⟨va, vn, vc, rfl⟩ : ∃ a n c, v = .slice a n c := by obtain ⟨a, c, e, -⟩ := hv; exact ⟨a, _, c, e⟩
  obtain rfl : vn = bs.length := by obtain ⟨a, c, e, -⟩ := hv; cases e; rfl
  obtain ⟨n, hn⟩ : ∃ n, bs.length = n := ⟨_, rfl⟩
  obtain ⟨T, hT⟩ : ∃ T, g.bts = T := ⟨_, rfl⟩
  have HV := Lib.hid hv
  have HN := Lib.hid hn
  have HT := Lib.hid hT
  rw [hn] at HV HRD hlm ⊢
  rw [hT] at HBT HRD
  have HBY := Lib.hid hB
  obtain ⟨B, hBB⟩ : ∃ B, w.heap.size = B := ⟨_, rfl⟩
  obtain ⟨W1, hW1⟩ : ∃ W, w.alloc (.cells (g.v r) 23) = W := ⟨_, rfl⟩
  obtain ⟨W2, hW2⟩ : ∃ W, W1.alloc (.cells #[.slice none 0 0, .slice none 0 0, .int .i64 0, .int .i64 0, .int .i64 0, .slice none 0 0] 30) = W := ⟨_, rfl⟩
  have s1 : W1.heap.size = B + 1 := by rw [← hW1, ← hBB]; simp
  have s2 : W2.heap.size = B + 2 := by rw [← hW2, World.size_alloc, s1]
  have r1 : RowC W1 B 23 [.int .i64 (g.b : Int), .int .i64 (g.s : Int), .int .i64 (g.y : Int), .int .i64 (g.a : Int), .int .i64 r] := by rw [← hW1, ← hBB]; exact RowC.new _ _ _
  have r2 : RowC W2 (B + 1) 30 (stL noQ) := by rw [← hW2, ← s1]; exact RowC.new _ _ _
  have b1 : Below B w W1 := by rw [← hW1, ← hBB]; exact below_new _ _
  have b2 : Below W1.heap.size W1 W2 := by rw [← hW2]; exact below_new _ _
  have HBF : Hid (Below B w W2) := b1.trans (b2.mono (by omega))
  have HR1 : Hid (RowC W2 B 23 [.int .i64 (g.b : Int), .int .i64 (g.s : Int), .int .i64 (g.y : Int), .int .i64 (g.a : Int), .int .i64 r]) := r1.below b2
  have HR2 := Lib.hid r2
  have HS2 := Lib.hid s2
  have HSZ := Lib.hid hBB
  have KR : Hid (∀ x : World, Below W2.heap.size W2 x → x.cell? ⟨B, 0, none⟩ = some (.int .i64 (g.b : Int)) ∧ x.cell? ⟨B, 1, none⟩ = some (.int .i64 (g.s : Int)) ∧ x.cell? ⟨B, 2, none⟩ = some (.int .i64 (g.y : Int)) ∧ x.cell? ⟨B, 3, none⟩ = some (.int .i64 (g.a : Int)) ∧ x.cell? ⟨B, 4, none⟩ = some (.int .i64 r)) := fun x hx =>
    ⟨(HR1.out.below hx).cell 0 _ rfl, (HR1.out.below hx).cell 1 _ rfl, (HR1.out.below hx).cell 2 _ rfl, (HR1.out.below hx).cell 3 _ rfl, (HR1.out.below hx).cell 4 _ rfl⟩
  rw [hBB] at HRD
  clear r1 r2 b1 b2 hv hB hg hr hi hn hT
  unfold SG.v at *
  obtain ⟨k0, k1, k2, k3, k4⟩ := KR.out W2 (Below.refl _ _)
  go_enter Tryz.func11, Tryz.ntmps11
  go_wp2_with fail
  refine (HGD.out W2).mono ?_
  rintro e x1 ⟨rfl, hx1⟩
  have H1 : Hid (Below W2.heap.size W2 x1) := hx1
  clear hx1 k0 k1 k2 k3 k4
  obtain ⟨k0, k1, k2, k3, k4⟩ := KR.out x1 H1.out
  go_wp2_with fail
  refine (HBT.out x1).mono ?_
  rintro e x2 ⟨rfl, hx2⟩
  have H2 : Hid (Below W2.heap.size W2 x2) := H1.out.trans (hx2.mono H1.out.size)
  clear hx2 k0 k1 k2 k3 k4
  have fin : Hid (∀ (y : World) (q : PS) (c : Int), RowC y (B + 1) 30 (stL q) → DecR g bs B y q c → Below B w y → True) := fun _ _ _ _ _ _ => trivial
  by_cases hln : n = T
  · subst hln
    have g0 : ((n : Int) != (n : Int)) = false := by simp
    have HLN : Hid (bs.length = g.bts) := by show _ = _; rw [HN.out, HT.out]
    obtain ⟨k0, k1, k2, k3, k4⟩ := KR.out x2 H2.out
    go_wp2_with fail
    refine (HRD.out (by first | exact HN.out | trivial) x2 (HBF.out.trans (H2.out.mono (by have := HS2.out; omega)))).mono ?_
    rintro e x3 ⟨⟨⟨da, dn, dc⟩, ⟨sa, sn, sc⟩, nx, kd, id, ⟨pa, pn, pc⟩⟩, rfl, hR, hx3⟩
    have ST := new_st x3 ⟨(da, dn, dc), (sa, sn, sc), nx, kd, id, (pa, pn, pc)⟩
    obtain ⟨Y, hY⟩ : ∃ Y, x3.alloc (.cells (stL ⟨(da, dn, dc), (sa, sn, sc), nx, kd, id, (pa, pn, pc)⟩).toArray 30) = Y := ⟨_, rfl⟩
    have bY : Below x3.heap.size x3 Y := by rw [← hY]; exact below_new _ _
    have rY : RowC Y x3.heap.size 30 (stL ⟨(da, dn, dc), (sa, sn, sc), nx, kd, id, (pa, pn, pc)⟩) := by rw [← hY]; exact RowC.new x3 _ _
    rw [hY] at ST
    obtain ⟨C, hC⟩ : ∃ C, x3.heap.size = C := ⟨_, rfl⟩
    have H3 : Hid (Below W2.heap.size W2 Y) := (H2.out.trans (hx3.mono H2.out.size)).trans (bY.mono (by have := H2.out.size; have := hx3.size; omega))
    have HRY := Lib.hid (hR.below bY)
    have hM : Hid (B + 2 ≤ x2.heap.size) := by have := H2.out.size; have := HS2.out; show _ ≤ _; omega
    have HEY := Lib.hid (HEN.out Y _ _ HRY.out)
    rw [hC] at ST rY
    have HRC := Lib.hid rY
    have LS := load_stC rY
    have HRB : Hid (RowC Y (B + 1) 30 (stL noQ)) := HR2.out.below H3.out
    have HBW : Hid (∀ x : World, Below Y.heap.size Y x → Below B w x) := fun x hx => (HBF.out.trans (H3.out.mono (by have := HS2.out; omega))).trans (hx.mono (by have := H3.out.size; have := HS2.out; omega))
    have HVY : Hid (∀ x : World, Below Y.heap.size Y x → Sl .u8 x (.slice va n vc) bs) := fun x hx => HV.out.below (by rw [HSZ.out]; exact HBW.out x hx)
    simp only [stV, stL, slV] at ST LS HEY ⊢
    clear hR hx3 bY rY hY k0 k1 k2 k3 k4 HEN
    obtain ⟨k0, k1, k2, k3, k4⟩ := KR.out Y H3.out
    go_wp2_with fail
    refine HEY.out.mono ?_
    rintro e x5 ⟨u, c, rfl, hE, hx5⟩
    have H5 := Lib.hid hx5
    clear k0 k1 k2 k3 k4 HEY hx5 LS ST
    by_cases hgd : sGood g (pParse g bs) = true
    · obtain ⟨rfl, hou⟩ := hE.1 hgd
      have SU : Hid (Sl .u8 x5 u (sEnc g (pParse g bs))) := Sl.of_owns hou
      have HGQ := Lib.hid hgd
      have hle : (sEnc g (pParse g bs)).length ≤ 1000000 := by
        have hin := good_in HGO.out hgd
        rw [enc_len hin.dl (fun t ht => (hin.sn t ht).ch), ← HLN.out, HN.out]
        omega
      obtain ⟨tv, htv⟩ : ∃ tv, decide (sEnc g (pParse g bs) = bs) = tv := ⟨_, rfl⟩
      have HEQ : Hid (Calls Tryz.prog 34 #[u, .slice va n vc] x5 fun e w' => e = .returned (.bool tv) ∧ Below x5.heap.size x5 w') := by rw [← htv]; exact eq_bytes SU.out (HVY.out x5 H5.out) hle
      clear hE hou hgd hle
      cases tv with
      | false =>
        have hne : ¬ sEnc g (pParse g bs) = bs := of_decide_eq_false htv
        have HNE := Lib.hid hne
        clear htv hne
        go_wp2_with fail
        refine HEQ.out.mono ?_
        rintro e x6 ⟨rfl, hx6⟩
        have H6 : Hid (Below Y.heap.size Y x6) := H5.out.trans (hx6.mono H5.out.size)
        clear hx6 HEQ
        have HND : Hid (sDec g bs = none) := (dec_is HGO.out HLN.out).2 (fun h => HNE.out h.2)
        obtain ⟨z, hS, hRz, hgz⟩ := store_stC noQ (HRB.out.below (H6.out)) rfl
        have HZ : Hid (Below B w z) := (HBW.out x6 H6.out).grown hgz (by have := (HBW.out x6 H6.out).size; have := HSZ.out; omega) (fun j e => by cases e; exact Nat.le_succ B)
        have HRz := Lib.hid hRz
        simp only [stV, stL, slV, noQ] at hS
        clear hRz hgz
        go_wp2_with fail
        exact bodyPost_ret (results_cell2 rfl rfl (load_stC HRz.out)) rfl ⟨noQ, 11, rfl, decR_none HND.out _ _, by rw [HSZ.out]; exact HZ.out⟩
      | true =>
        have HND : Hid (sDec g bs = some (pParse g bs)) := (dec_is HGO.out HLN.out).1 ⟨HGQ.out, of_decide_eq_true htv⟩
        clear htv
        go_wp2_with fail
        refine HEQ.out.mono ?_
        rintro e x6 ⟨rfl, hx6⟩
        have H6 : Hid (Below Y.heap.size Y x6) := H5.out.trans (hx6.mono H5.out.size)
        clear hx6 HEQ
        have LS := load_stC (HRC.out.below H6.out)
        obtain ⟨z, hS, hRz, hgz⟩ := store_stC ⟨(da, dn, dc), (sa, sn, sc), nx, kd, id, (pa, pn, pc)⟩ (HRB.out.below H6.out) rfl
        have HZ : Hid (Below B w z) := (HBW.out x6 H6.out).grown hgz (by have := (HBW.out x6 H6.out).size; have := HSZ.out; omega) (fun j e => by cases e; exact Nat.le_succ B)
        have HDR : Hid (DecR g bs B z ⟨(da, dn, dc), (sa, sn, sc), nx, kd, id, (pa, pn, pc)⟩ 0) := ReadR.decR ((HRY.out.below H6.out).low hgz (fun j e => by cases e; have := hM.out; omega)) (by have := hM.out; omega) HND.out
        have HLD := Lib.hid (load_stC hRz)
        simp only [stV, stL, slV] at hS LS HLD
        clear hRz hgz
        go_wp2_with fail
        exact bodyPost_ret (results_cell2 rfl rfl HLD.out) rfl ⟨_, 0, rfl, by rw [HSZ.out]; exact HDR.out, by rw [HSZ.out]; exact HZ.out⟩
    · obtain ⟨rfl, rfl⟩ := hE.2 (by simpa using hgd)
      have HNG := Lib.hid hgd
      clear hE hgd
      have HND : Hid (sDec g bs = none) := (dec_is HGO.out HLN.out).2 (fun h => HNG.out h.1)
      obtain ⟨z, hS, hRz, hgz⟩ := store_stC noQ (HRB.out.below (H5.out)) rfl
      have HZ : Hid (Below B w z) := (HBW.out x5 H5.out).grown hgz (by have := (HBW.out x5 H5.out).size; have := HSZ.out; omega) (fun j e => by cases e; exact Nat.le_succ B)
      have HRz := Lib.hid hRz
      simp only [stV, stL, slV, noQ] at hS
      clear hRz hgz
      go_wp2_with fail
      exact bodyPost_ret (results_cell2 rfl rfl (load_stC HRz.out)) rfl ⟨noQ, 11, rfl, decR_none HND.out _ _, by rw [HSZ.out]; exact HZ.out⟩
  · have g0 : ((n : Int) != (T : Int)) = true := by simp; omega
    have HND : Hid (sDec g bs = none) := by
      show _ = _
      unfold sDec
      rw [if_neg]
      rintro ⟨h, -⟩
      rw [HN.out, HT.out] at h
      exact hln h
    obtain ⟨z, hS, hRz, hgz⟩ := store_stC noQ (HR2.out.below H2.out) rfl
    have HZ : Hid (Below B w z) := (HBF.out.trans (H2.out.mono (by have := HS2.out; omega))).grown hgz (by have := H2.out.size; have := HS2.out; omega) (fun j e => by cases e; exact Nat.le_succ B)
    have HRz := Lib.hid hRz
    simp only [stV, stL, slV, noQ] at hS
    clear hRz hgz hln
    go_wp2_with fail
    exact bodyPost_ret (results_cell2 rfl rfl (load_stC HRz.out)) rfl ⟨noQ, 11, rfl, decR_none HND.out _ _, by rw [HSZ.out]; exact HZ.out⟩
end Go.Proofs.YtajamblkjmafmaaGreat

/- Copies of rows of numbers. -/
namespace Go.Proofs.YtajamblkjmafmaaGreat
open Go.RowKit
set_option linter.unusedVariables false
set_option maxRecDepth 100000 in
theorem slice_int0 (w : World) : (Instr.buildSlice 24 0 #[]).run Tryz.prog w = .ok (.slice (some ⟨w.heap.size, 0, none⟩) 0 0) (w.alloc (.cells #[] 3)) := by kernel_rfl
theorem own_int0 (N : Nat) (w : World) (hN : N ≤ w.heap.size) : InO N (w.alloc (.cells #[] 3)) (.slice (some ⟨w.heap.size, 0, none⟩) 0 0) [] := World.ownsRow_lit w #[] 0 hN (by simp [maxLen]) rfl
set_option maxRecDepth 100000 in
theorem in_appendS {N : Nat} {w : World} {v x : Value} {l m : List Int} (h : InO N w v l) (hx : Sl .i64 w x m) (hN : N ≤ w.heap.size) (hlen : l.length + m.length ≤ 1000000) :
    ∃ v' w', (∀ ty, (Builtin.append_ #[24, 24] ty #[v, x]).run Tryz.prog w = .ok v' w') ∧ InO N w' v' (l ++ m) ∧ w.grownBy w' v.ownBlock := by
  obtain ⟨i0, hi, hz0, hz1, hz2⟩ := info_parts info_intT
  obtain ⟨a, cap, rfl, h1, h2, h4, h0⟩ := hx
  cases a with
  | none =>
    obtain rfl := h0 rfl
    obtain rfl : m = [] := List.eq_nil_of_length_eq_zero (by omega)
    exact ⟨v, w, fun ty => run_append_owned_none (P := Tryz.prog) (w := w) N 24 ty 3 i0 1 Tryz.underlying24 hi v l.length _ h, by simpa using h, World.grownBy.refl _ _⟩
  | some ad =>
    have hnews : ∀ j u, (m.map (Value.int .i64))[j]? = some u → w.cell? (ad.add j) = some u := by
      rcases h4 with rfl | ⟨b, off, e, h5, h6⟩
      · intro j u hu; simp at hu
      · cases e
        intro j u hu
        rw [Addr.add_lit]
        rw [List.getElem?_map] at hu
        obtain ⟨z, hz, rfl⟩ := Option.map_eq_some_iff.1 hu
        have := (List.getElem?_eq_some_iff.1 hz).1
        have h := h6 j this
        rw [hz] at h
        exact h
    have hr : ∀ ty, ∃ v' w', (Builtin.append_ #[24, 24] ty #[v, .slice (some ad) m.length cap]).run Tryz.prog w = .ok v' w' ∧ w'.ownsRow N 3 1 v' (l.length + m.length) (l.map (Value.int .i64) ++ m.map (Value.int .i64)) ∧ w.grownBy w' v.ownBlock := fun ty => by
      obtain ⟨v', w', g1, g2, g3, -, g4⟩ := run_append_own_at (P := Tryz.prog) w N 24 ty 3 i0 (.int .i64 0) 1 8 Tryz.underlying24 hi hz0 hz1 hz2 rfl (by decide) v l.length _ h ad m.length cap (m.map (Value.int .i64)) (by simp) hnews (fun u hu => by obtain ⟨z, -, rfl⟩ := List.mem_map.1 hu; rfl) (by unfold maxLen; omega) (by omega) hN
      exact ⟨v', w', g1, g2, g3⟩
    obtain ⟨v', w', g1, g2, g3⟩ := hr 0
    refine ⟨v', w', fun ty => ?_, ?_, g3⟩
    · rw [← g1]; rfl
    · show w'.ownsRow N _ 1 v' (l ++ m).length ((l ++ m).map _)
      rw [List.length_append, List.map_append]
      exact g2
end Go.Proofs.YtajamblkjmafmaaGreat

/- A state copied: a row of numbers behind another one, Clone of numbers, the helper State. -/
namespace Go.Proofs.YtajamblkjmafmaaGreat
open Go.RowKit Go.Shelf Go.Lib
set_option linter.unusedVariables false
set_option linter.unusedSimpArgs false
/-- A state of one's own. -/
structure StO (N : Nat) (W : World) (q : PS) (d : List Int) (l : List SN) (ps : List (Int × Int)) : Prop where
  dd : InO N W (slV q.d) d
  sn : SnO N W (slV q.sn) l
  pr : PrO N W (slV q.pr) ps
theorem SnO.weak {M N : Nat} {W : World} {v : Value} {l : List SN} (h : SnO N W v l) (hN : M ≤ N) : SnO M W v l := by
  obtain ⟨r, h1, h2, h3⟩ := h
  exact ⟨r, h1, own_weak h2 hN, fun j q s a b => (h3 j q s a b).weak hN⟩
theorem StO.below {N : Nat} {W W' : World} {q : PS} {d : List Int} {l : List SN} {ps : List (Int × Int)} (h : StO N W q d l ps) (hB : Below W.heap.size W W') : StO N W' q d l ps := ⟨h.dd.below hB, h.sn.below hB, h.pr.below hB⟩
theorem StO.low {N : Nat} {W W' : World} {q : PS} {d : List Int} {l : List SN} {ps : List (Int × Int)} {row : Option Nat} (h : StO N W q d l ps) (hg : W.grownBy W' row) (hr : ∀ j, row = some j → j < N) : StO N W' q d l ps := ⟨h.dd.low hg hr, h.sn.low hg hr, h.pr.low hg hr⟩
theorem StO.weak {M N : Nat} {W : World} {q : PS} {d : List Int} {l : List SN} {ps : List (Int × Int)} (h : StO N W q d l ps) (hN : M ≤ N) : StO M W q d l ps := ⟨own_weak h.dd hN, h.sn.weak hN, h.pr.weak hN⟩
theorem StO.sl {N : Nat} {W : World} {q : PS} {d : List Int} {l : List SN} {ps : List (Int × Int)} (h : StO N W q d l ps) : Sl .i64 W (slV q.d) d := sl_own h.dd
theorem StO.is {N : Nat} {W : World} {q : PS} {d : List Int} {l : List SN} {ps : List (Int × Int)} (h : StO N W q d l ps) : StIs W q l ps := ⟨h.sn.snp, h.pr.prt⟩
set_option maxRecDepth 100000 in
/-- Numbers behind numbers. -/
theorem eql_int1 (p : Addr) (n c : Nat) (w : World) : (binOp .eql 24 (.slice (some p) n c) (.slice none 0 0)).run Tryz.prog w = .ok (.bool false) w := by kernel_rfl
set_option maxRecDepth 100000 in
theorem eql_int0 (w : World) : (binOp .eql 24 (.slice none 0 0) (.slice none 0 0)).run Tryz.prog w = .ok (.bool true) w := by kernel_rfl
set_option maxRecDepth 100000 in
theorem build_plK (a b : Int) (y : Option Addr) (m d : Nat) (w : World) : (Instr.build 28 #[(0, .int .i64 a), (1, .int .i64 b), (2, .slice y m d)]).run Tryz.prog w = .ok (.agg #[.int .i64 a, .int .i64 b, .slice y m d]) w := by kernel_rfl
set_option maxRecDepth 100000 in
theorem build_stK (x y z : Option Addr) (n c m d k e : Nat) (a b i : Int) (w : World) : (Instr.build 30 #[(0, .slice x n c), (1, .slice y m d), (2, .int .i64 a), (3, .agg #[.int .i64 b, .int .i64 i, .slice z k e])]).run Tryz.prog w = .ok (.agg #[.slice x n c, .slice y m d, .int .i64 a, .int .i64 b, .int .i64 i, .slice z k e]) w := by kernel_rfl
set_option maxRecDepth 100000 in
theorem build_stY (x z : Option Addr) (n c k e : Nat) (a b i : Int) (w : World) : (Instr.build 30 #[(0, .slice x n c), (2, .int .i64 a), (3, .agg #[.int .i64 b, .int .i64 i, .slice z k e])]).run Tryz.prog w = .ok (.agg #[.slice x n c, .slice none 0 0, .int .i64 a, .int .i64 b, .int .i64 i, .slice z k e]) w := by kernel_rfl
attribute [-simp] Tryz.isAgg55 Tryz.zeroValue55 Tryz.isAgg57 Tryz.zeroValue57 Tryz.isAgg30 Tryz.zeroValue30
attribute [-go_sem] loadVar storeVar
attribute [local go_sem] loadVar_openQ storeVar_openQ zero_sn zero_prs zero_st build_plK build_stK build_stY eql_int0 eql_int1
set_option maxRecDepth 100000 in
set_option maxHeartbeats 4000000 in
/-- **Clone** of numbers. -/
theorem in_clone {w : World} {v : Value} {l : List Int} (h : Sl .i64 w v l) (hlen : l.length ≤ 1000000) :
    Calls Tryz.prog 51 #[v] w fun e w' => ∃ u, e = .returned u ∧ InO w.heap.size w' u l ∧ Below w.heap.size w w' := by
  have HP := Lib.hid h
  obtain ⟨a, cap, rfl, h1, -, h4, h0⟩ := h
  cases a with
  | none =>
    obtain rfl := h0 rfl
    obtain rfl : l = [] := List.eq_nil_of_length_eq_zero (by omega)
    go_enter Tryz.func51, Tryz.ntmps51
    go_wp2_with fail
    go_ret
    exact ⟨_, rfl, InO.nil _ _, Below.refl _ _⟩
  | some ad =>
    obtain ⟨W, hW⟩ : ∃ W, w.alloc (.cells #[] 3) = W := ⟨_, rfl⟩
    have SB := slice_int0 w
    rw [hW] at SB
    have hb := below_new w (.cells #[] 3)
    rw [hW] at hb
    have ho : InO w.heap.size W (.slice (some ⟨w.heap.size, 0, none⟩) 0 0) [] := by
      rw [← hW]
      exact own_int0 _ w (Nat.le_refl _)
    obtain ⟨u, W2, hr, h1, h2⟩ := in_appendS ho (HP.out.below hb) hb.size (by simpa using hlen)
    have HA := Lib.hid hr
    have HO := Lib.hid h1
    have HB : Hid (Below w.heap.size w W2) := hb.grown h2 hb.size (fun j e => by cases e; exact Nat.le_refl _)
    have HS := Lib.hid SB
    clear hr h1 h2 ho hb SB h4 h0 hW HP
    go_enter Tryz.func51, Tryz.ntmps51
    go_wp2_with (first | (refine gate_build ?_; refine wpList_build_run 24 0 #[] rfl rfl [] _ rfl HS.out ?_) | (at_builtin; refine wpList_append_run (.tmp 5) (.tmp 6) 24 rfl rfl _ _ _ rfl rfl (HA.out _) ?_))
    go_ret
    exact ⟨_, rfl, HO.out, HB.out⟩
set_option maxRecDepth 100000 in
set_option maxHeartbeats 16000000 in
/-- revetmentkeep.**State**. -/
theorem keep_state {w : World} {q : PS} {d : List Int} {l : List SN} {ps : List (Int × Int)} (hd : Sl .i64 w (slV q.d) d) (h : StIs w q l ps) (hK : Lens 1000 l) (hn : d.length ≤ 100000) (hp : ps.length ≤ 100000) :
    Calls Tryz.prog 8 #[stV q] w fun e w' => ∃ q' : PS, e = .returned (stV q') ∧ q'.nx = q.nx ∧ q'.kd = q.kd ∧ q'.id = q.id ∧ StO w.heap.size w' q' d l ps ∧ Below w.heap.size w w' := by
  have hmx : Tryz.prog.follows .mixedOrders = true := by kernel_rfl
  obtain ⟨⟨qd, qdn, qdc⟩, ⟨qs, qsn, qsc⟩, nx, kd, id, ⟨qp, qpn, qpc⟩⟩ := q
  have HK := Lib.hid hK
  have HL1 := Lib.hid hn
  have HL2 := Lib.hid hp
  obtain ⟨B, hB⟩ : ∃ B, w.heap.size = B := ⟨_, rfl⟩
  have HSZ := Lib.hid hB
  obtain ⟨W1, hW1⟩ : ∃ W, w.alloc (.cells #[.slice qd qdn qdc, .slice qs qsn qsc, .int .i64 nx, .int .i64 kd, .int .i64 id, .slice qp qpn qpc] 30) = W := ⟨_, rfl⟩
  obtain ⟨W, hW⟩ : ∃ W, W1.alloc (.cells #[.slice none 0 0, .slice none 0 0, .int .i64 0, .int .i64 0, .int .i64 0, .slice none 0 0] 30) = W := ⟨_, rfl⟩
  have s1 : W1.heap.size = B + 1 := by rw [← hW1, ← hB]; simp
  have s2 : W.heap.size = B + 2 := by rw [← hW, World.size_alloc, s1]
  have r1 : RowC W1 B 30 [.slice qd qdn qdc, .slice qs qsn qsc, .int .i64 nx, .int .i64 kd, .int .i64 id, .slice qp qpn qpc] := by rw [← hW1, ← hB]; exact RowC.new _ _ _
  have r2 : RowC W (B + 1) 30 (stL noQ) := by rw [← hW, ← s1]; exact RowC.new _ _ _
  have b1 : Below B w W1 := by rw [← hW1, ← hB]; exact below_new _ _
  have b2 : Below W1.heap.size W1 W := by rw [← hW]; exact below_new _ _
  have bF : Below B w W := b1.trans (b2.mono (by omega))
  have r1 := r1.below b2
  have c0 : ∀ z : Ext W, z.1.cell? ⟨B, 0, none⟩ = some (.slice qd qdn qdc) := fun z => (r1.below z.2).cell 0 _ rfl
  have c1 : ∀ z : Ext W, z.1.cell? ⟨B, 1, none⟩ = some (.slice qs qsn qsc) := fun z => (r1.below z.2).cell 1 _ rfl
  have c2 : ∀ z : Ext W, z.1.cell? ⟨B, 2, none⟩ = some (.int .i64 nx) := fun z => (r1.below z.2).cell 2 _ rfl
  have c3 : ∀ z : Ext W, z.1.cell? ⟨B, 3, none⟩ = some (.int .i64 kd) := fun z => (r1.below z.2).cell 3 _ rfl
  have c4 : ∀ z : Ext W, z.1.cell? ⟨B, 4, none⟩ = some (.int .i64 id) := fun z => (r1.below z.2).cell 4 _ rfl
  have c5 : ∀ z : Ext W, z.1.cell? ⟨B, 5, none⟩ = some (.slice qp qpn qpc) := fun z => (r1.below z.2).cell 5 _ rfl
  have HR := Lib.hid r2
  have HBW := Lib.hid bF
  have HS := Lib.hid s2
  have HD : Hid (Sl .i64 W (.slice qd qdn qdc) d) := hd.below (by rw [hB]; exact bF)
  have HSN : Hid (Snp W (.slice qs qsn qsc) l) := h.sn.below (by rw [hB]; exact bF)
  have HP : Hid (Prt W (.slice qp qpn qpc) ps) := h.pr.below (by rw [hB]; exact bF)
  have KW : Hid (Below W.heap.size W W.drew) := (Below.refl _ W).drew
  clear hd h hK hn hp r1 r2 b1 b2 bF s2
  simp only [stV, stL, slV]
  go_enter Tryz.func8, Tryz.ntmps8
  go_wp2_with fail
  try rw [hW1]
  try rw [hW]
  clear hW1 hW s1
  refine region_plan (fun x => ∃ y : Ext W, x = y.1) 22 (.takes [1, 2, 4, 5, 7, 8, 9, 10, 11, 12, 13, 14, 16, 17, 18] (.two 0 15 (.two 3 15 (.two 6 15 (.one 15 (.one 19 (.takes [20, 21] .leaf))) (.one 6 (.one 19 (.takes [20, 21] .leaf)))) (.one 3 (.one 6 (.one 19 (.takes [20, 21] .leaf))))) (.one 0 (.one 3 (.one 6 (.one 19 (.takes [20, 21] .leaf))))))) hmx (by kernel_rfl) (by intro c x v a w h; cases x <;> exact h) ⟨⟨W.drew, KW.out⟩, rfl⟩ ?_
  repeat (rw [wpPlan_takes_cons]; simp only [nth_zero, nth_succ]; go_big_quiet_step (fail); refine wpQuiet_nil ?_)
  rw [wpPlan_takes_nil]
  clear c0 c1 c2 c3 c4 c5
  obtain ⟨X0, hX0⟩ : ∃ X, W.drew = X := ⟨_, rfl⟩
  rw [hX0] at KW
  try rw [hX0]
  clear hX0
  rw [wpPlan_twoT]
  refine ⟨?_, ?_⟩
  · simp only [nth_zero, nth_succ]
    obtain ⟨X1, hX1⟩ : ∃ Y, X0.alloc (.cells #[] 3) = Y := ⟨_, rfl⟩
    have SX1 := slice_int0 X0
    have bX1 := below_new X0 (.cells #[] 3)
    have oX1 := own_int0 W.heap.size X0 KW.out.size
    rw [hX1] at SX1 bX1 oX1
    have KX1 : Hid (Below W.heap.size W X1) := KW.out.trans (bX1.mono KW.out.size)
    have OAX1 := Lib.hid oX1
    have SX1 := Lib.hid SX1
    clear hX1 bX1 oX1
    go_wp2_with ((with_reducible refine gate_build ?_); refine wpList_build_run 24 0 #[] rfl rfl [] _ rfl SX1.out ?_)
    refine planPost_mk ⟨⟨X1, KX1.out⟩, rfl⟩ ?_
    rw [wpPlan_twoT]
    refine ⟨?_, ?_⟩
    · simp only [nth_zero, nth_succ]
      obtain ⟨vX2, X2, hrX2, hoX2, hgX2⟩ := in_appendS OAX1.out (HD.out.below KX1.out) KX1.out.size (by have := HL1.out; simp; omega)
      rw [List.nil_append] at hoX2
      have KX2 : Hid (Below W.heap.size W X2) := KX1.out.grown hgX2 KX1.out.size (fun j e => (OAX1.out.base j e).1)
      obtain ⟨⟨xX2, nX2, cX2⟩, rfl, -⟩ := own_slV hoX2
      have OAX2 : Hid (InO W.heap.size X2 (.slice xX2 nX2 cX2) d) := hoX2
      have hrX2 := Lib.hid hrX2
      simp only [slV] at hrX2
      clear hoX2 hgX2
      go_wp2_with (at_builtin; refine wpList_append_run (.tmp 3) (.tmp 5) 24 rfl rfl _ _ _ rfl rfl (hrX2.out _) ?_)
      refine planPost_mk ⟨⟨X2, KX2.out⟩, rfl⟩ ?_
      rw [wpPlan_twoT]
      refine ⟨?_, ?_⟩
      · simp only [nth_zero, nth_succ]
        go_wp2_with fail
        refine (keep_copy (HSN.out.below KX2.out) HK.out).mono ?_
        rintro e X3 ⟨uX3, rfl, hoX3, bX3⟩
        have KX3 : Hid (Below W.heap.size W X3) := KX2.out.trans (bX3.mono KX2.out.size)
        obtain ⟨⟨xX3, nX3, cX3⟩, rfl, -⟩ := hoX3.isSl
        have SNX3 : Hid (SnO X2.heap.size X3 (slV (xX3, nX3, cX3)) l) := hoX3
        have OAX3 := Lib.hid (OAX2.out.below bX3)
        have KSX3 : Hid (Below X3.heap.size X3 X3) := Below.refl _ _
        clear hoX3 bX3
        simp only [slV]
        go_wp2_with fail
        refine planPost_mk ⟨⟨X3, KX3.out⟩, rfl⟩ ?_
        rw [wpPlan_one]
        simp only [nth_zero, nth_succ]
        obtain ⟨X4, hX4⟩ : ∃ Y, X3.alloc (.cells #[] 57) = Y := ⟨_, rfl⟩
        have SX4 := slice_prs0 X3
        have bX4 := below_new X3 (.cells #[] 57)
        have oX4 := lit_none W.heap.size X3 KX3.out.size
        rw [hX4] at SX4 bX4 oX4
        have KX4 : Hid (Below W.heap.size W X4) := KX3.out.trans (bX4.mono KX3.out.size)
        have OBX4 := Lib.hid oX4
        have SX4 := Lib.hid SX4
        have OAX4 := Lib.hid (OAX3.out.below bX4)
        have KSX4 : Hid (Below X3.heap.size X3 X4) := KSX3.out.trans (bX4.mono KSX3.out.size)
        clear hX4 bX4 oX4
        go_wp2_with ((with_reducible refine gate_build ?_); refine wpList_build_run 26 0 #[] rfl rfl [] _ rfl SX4.out ?_)
        refine planPost_mk ⟨⟨X4, KX4.out⟩, rfl⟩ ?_
        rw [wpPlan_one]
        simp only [nth_zero, nth_succ]
        obtain ⟨vX5, X5, hrX5, hoX5, hgX5, -⟩ := pr_append OBX4.out (HP.out.below KX4.out) KX4.out.size (by have := HL2.out; simp; omega)
        rw [List.nil_append] at hoX5
        have KX5 : Hid (Below W.heap.size W X5) := KX4.out.grown hgX5 KX4.out.size (fun j e => (OBX4.out.base j e).1)
        obtain ⟨⟨xX5, nX5, cX5⟩, rfl, -⟩ := own_slV hoX5.1
        have OBX5 : Hid (PrO W.heap.size X5 (.slice xX5 nX5 cX5) ps) := hoX5
        have hrX5 := Lib.hid hrX5
        simp only [slV] at hrX5
        have OAX5 := Lib.hid (OAX4.out.grown OBX4.out hgX5)
        have SNX5 : Hid (SnO X2.heap.size X5 (slV (xX3, nX3, cX3)) l) := SNX3.out.below (KSX4.out.grown hgX5 KSX4.out.size (fun j e => by cases e; exact Nat.le_refl _))
        clear hoX5 hgX5
        go_wp2_with (at_builtin; refine wpList_append_run (.tmp 18) (.tmp 21) 26 rfl rfl _ _ _ rfl rfl (hrX5.out _) ?_)
        refine planPost_mk ⟨⟨X5, KX5.out⟩, rfl⟩ ?_
        repeat (rw [wpPlan_takes_cons]; simp only [nth_zero, nth_succ]; go_big_quiet_step (fail); refine wpQuiet_nil ?_)
        rw [wpPlan_takes_nil, wpPlan_leaf]
        simp only [List.drop_succ_cons, List.drop_zero]
        obtain ⟨y3, ST, hy3, hg3⟩ := store_stC ⟨(xX2, nX2, cX2), (xX3, nX3, cX3), nx, kd, id, (xX5, nX5, cX5)⟩ (HR.out.below KX5.out) rfl
        have RT := load_stC hy3
        simp only [stV, stL, slV] at ST RT
        have HB3 : Hid (Below B w y3) := (HBW.out.trans (KX5.out.mono (by have := HS.out; omega))).grown hg3 (by have := HS.out; have := KX5.out.size; omega) (fun k e => by cases e; exact Nat.le_succ B)
        have HO : Hid (StO W.heap.size y3 ⟨(xX2, nX2, cX2), (xX3, nX3, cX3), nx, kd, id, (xX5, nX5, cX5)⟩ d l ps) := StO.low ⟨OAX5.out, SNX5.out.weak KX2.out.size, OBX5.out⟩ hg3 (fun j e => by cases e; have := HS.out; omega)
        have RT := Lib.hid RT
        have ST := Lib.hid ST
        clear hy3 hg3
        have ST := ST.out
        go_wp2_with fail
        refine bodyPost_ret (results_cell rfl rfl RT.out) rfl ?_
        rw [HSZ.out]
        exact ⟨⟨(xX2, nX2, cX2), (xX3, nX3, cX3), nx, kd, id, (xX5, nX5, cX5)⟩, rfl, rfl, rfl, rfl, HO.out.weak (by have := HS.out; omega), HB3.out⟩
      · simp only [nth_zero, nth_succ]
        obtain ⟨X6, hX6⟩ : ∃ Y, X2.alloc (.cells #[] 57) = Y := ⟨_, rfl⟩
        have SX6 := slice_prs0 X2
        have bX6 := below_new X2 (.cells #[] 57)
        have oX6 := lit_none W.heap.size X2 KX2.out.size
        rw [hX6] at SX6 bX6 oX6
        have KX6 : Hid (Below W.heap.size W X6) := KX2.out.trans (bX6.mono KX2.out.size)
        have OBX6 := Lib.hid oX6
        have SX6 := Lib.hid SX6
        have OAX6 := Lib.hid (OAX2.out.below bX6)
        clear hX6 bX6 oX6
        go_wp2_with ((with_reducible refine gate_build ?_); refine wpList_build_run 26 0 #[] rfl rfl [] _ rfl SX6.out ?_)
        refine planPost_mk ⟨⟨X6, KX6.out⟩, rfl⟩ ?_
        rw [wpPlan_one]
        simp only [nth_zero, nth_succ]
        go_wp2_with fail
        refine (keep_copy (HSN.out.below KX6.out) HK.out).mono ?_
        rintro e X7 ⟨uX7, rfl, hoX7, bX7⟩
        have KX7 : Hid (Below W.heap.size W X7) := KX6.out.trans (bX7.mono KX6.out.size)
        obtain ⟨⟨xX7, nX7, cX7⟩, rfl, -⟩ := hoX7.isSl
        have SNX7 : Hid (SnO X6.heap.size X7 (slV (xX7, nX7, cX7)) l) := hoX7
        have OAX7 := Lib.hid (OAX6.out.below bX7)
        have LBX7 : Hid (∀ j, Value.ownBlock (.slice (some ⟨X2.heap.size, 0, none⟩) 0 0) = some j → j < X6.heap.size) := fun j e => (OBX6.out.base j e).2
        have OBX7 := Lib.hid (OBX6.out.below bX7)
        have KSX7 : Hid True := trivial
        clear hoX7 bX7
        simp only [slV]
        go_wp2_with fail
        refine planPost_mk ⟨⟨X7, KX7.out⟩, rfl⟩ ?_
        rw [wpPlan_one]
        simp only [nth_zero, nth_succ]
        obtain ⟨vX8, X8, hrX8, hoX8, hgX8, -⟩ := pr_append OBX7.out (HP.out.below KX7.out) KX7.out.size (by have := HL2.out; simp; omega)
        rw [List.nil_append] at hoX8
        have KX8 : Hid (Below W.heap.size W X8) := KX7.out.grown hgX8 KX7.out.size (fun j e => (OBX7.out.base j e).1)
        obtain ⟨⟨xX8, nX8, cX8⟩, rfl, -⟩ := own_slV hoX8.1
        have OBX8 : Hid (PrO W.heap.size X8 (.slice xX8 nX8 cX8) ps) := hoX8
        have hrX8 := Lib.hid hrX8
        simp only [slV] at hrX8
        have OAX8 := Lib.hid (OAX7.out.grown OBX7.out hgX8)
        have SNX8 : Hid (SnO X6.heap.size X8 (slV (xX7, nX7, cX7)) l) := SNX7.out.low hgX8 (fun j e => LBX7.out j e)
        clear hoX8 hgX8
        go_wp2_with (at_builtin; refine wpList_append_run (.tmp 18) (.tmp 21) 26 rfl rfl _ _ _ rfl rfl (hrX8.out _) ?_)
        refine planPost_mk ⟨⟨X8, KX8.out⟩, rfl⟩ ?_
        repeat (rw [wpPlan_takes_cons]; simp only [nth_zero, nth_succ]; go_big_quiet_step (fail); refine wpQuiet_nil ?_)
        rw [wpPlan_takes_nil, wpPlan_leaf]
        simp only [List.drop_succ_cons, List.drop_zero]
        obtain ⟨y3, ST, hy3, hg3⟩ := store_stC ⟨(xX2, nX2, cX2), (xX7, nX7, cX7), nx, kd, id, (xX8, nX8, cX8)⟩ (HR.out.below KX8.out) rfl
        have RT := load_stC hy3
        simp only [stV, stL, slV] at ST RT
        have HB3 : Hid (Below B w y3) := (HBW.out.trans (KX8.out.mono (by have := HS.out; omega))).grown hg3 (by have := HS.out; have := KX8.out.size; omega) (fun k e => by cases e; exact Nat.le_succ B)
        have HO : Hid (StO W.heap.size y3 ⟨(xX2, nX2, cX2), (xX7, nX7, cX7), nx, kd, id, (xX8, nX8, cX8)⟩ d l ps) := StO.low ⟨OAX8.out, SNX8.out.weak KX6.out.size, OBX8.out⟩ hg3 (fun j e => by cases e; have := HS.out; omega)
        have RT := Lib.hid RT
        have ST := Lib.hid ST
        clear hy3 hg3
        have ST := ST.out
        go_wp2_with fail
        refine bodyPost_ret (results_cell rfl rfl RT.out) rfl ?_
        rw [HSZ.out]
        exact ⟨⟨(xX2, nX2, cX2), (xX7, nX7, cX7), nx, kd, id, (xX8, nX8, cX8)⟩, rfl, rfl, rfl, rfl, HO.out.weak (by have := HS.out; omega), HB3.out⟩
    · simp only [nth_zero, nth_succ]
      obtain ⟨X9, hX9⟩ : ∃ Y, X1.alloc (.cells #[] 57) = Y := ⟨_, rfl⟩
      have SX9 := slice_prs0 X1
      have bX9 := below_new X1 (.cells #[] 57)
      have oX9 := lit_none W.heap.size X1 KX1.out.size
      rw [hX9] at SX9 bX9 oX9
      have KX9 : Hid (Below W.heap.size W X9) := KX1.out.trans (bX9.mono KX1.out.size)
      have OBX9 := Lib.hid oX9
      have SX9 := Lib.hid SX9
      have OAX9 := Lib.hid (OAX1.out.below bX9)
      clear hX9 bX9 oX9
      go_wp2_with ((with_reducible refine gate_build ?_); refine wpList_build_run 26 0 #[] rfl rfl [] _ rfl SX9.out ?_)
      refine planPost_mk ⟨⟨X9, KX9.out⟩, rfl⟩ ?_
      rw [wpPlan_one]
      simp only [nth_zero, nth_succ]
      obtain ⟨vX10, X10, hrX10, hoX10, hgX10⟩ := in_appendS OAX9.out (HD.out.below KX9.out) KX9.out.size (by have := HL1.out; simp; omega)
      rw [List.nil_append] at hoX10
      have KX10 : Hid (Below W.heap.size W X10) := KX9.out.grown hgX10 KX9.out.size (fun j e => (OAX9.out.base j e).1)
      obtain ⟨⟨xX10, nX10, cX10⟩, rfl, -⟩ := own_slV hoX10
      have OAX10 : Hid (InO W.heap.size X10 (.slice xX10 nX10 cX10) d) := hoX10
      have hrX10 := Lib.hid hrX10
      simp only [slV] at hrX10
      have OBX10 := Lib.hid (OBX9.out.grownI OAX9.out hgX10)
      clear hoX10 hgX10
      go_wp2_with (at_builtin; refine wpList_append_run (.tmp 3) (.tmp 5) 24 rfl rfl _ _ _ rfl rfl (hrX10.out _) ?_)
      refine planPost_mk ⟨⟨X10, KX10.out⟩, rfl⟩ ?_
      rw [wpPlan_one]
      simp only [nth_zero, nth_succ]
      go_wp2_with fail
      refine (keep_copy (HSN.out.below KX10.out) HK.out).mono ?_
      rintro e X11 ⟨uX11, rfl, hoX11, bX11⟩
      have KX11 : Hid (Below W.heap.size W X11) := KX10.out.trans (bX11.mono KX10.out.size)
      obtain ⟨⟨xX11, nX11, cX11⟩, rfl, -⟩ := hoX11.isSl
      have SNX11 : Hid (SnO X10.heap.size X11 (slV (xX11, nX11, cX11)) l) := hoX11
      have OAX11 := Lib.hid (OAX10.out.below bX11)
      have LBX11 : Hid (∀ j, Value.ownBlock (.slice (some ⟨X1.heap.size, 0, none⟩) 0 0) = some j → j < X10.heap.size) := fun j e => (OBX10.out.base j e).2
      have OBX11 := Lib.hid (OBX10.out.below bX11)
      have KSX11 : Hid True := trivial
      clear hoX11 bX11
      simp only [slV]
      go_wp2_with fail
      refine planPost_mk ⟨⟨X11, KX11.out⟩, rfl⟩ ?_
      rw [wpPlan_one]
      simp only [nth_zero, nth_succ]
      obtain ⟨vX12, X12, hrX12, hoX12, hgX12, -⟩ := pr_append OBX11.out (HP.out.below KX11.out) KX11.out.size (by have := HL2.out; simp; omega)
      rw [List.nil_append] at hoX12
      have KX12 : Hid (Below W.heap.size W X12) := KX11.out.grown hgX12 KX11.out.size (fun j e => (OBX11.out.base j e).1)
      obtain ⟨⟨xX12, nX12, cX12⟩, rfl, -⟩ := own_slV hoX12.1
      have OBX12 : Hid (PrO W.heap.size X12 (.slice xX12 nX12 cX12) ps) := hoX12
      have hrX12 := Lib.hid hrX12
      simp only [slV] at hrX12
      have OAX12 := Lib.hid (OAX11.out.grown OBX11.out hgX12)
      have SNX12 : Hid (SnO X10.heap.size X12 (slV (xX11, nX11, cX11)) l) := SNX11.out.low hgX12 (fun j e => LBX11.out j e)
      clear hoX12 hgX12
      go_wp2_with (at_builtin; refine wpList_append_run (.tmp 18) (.tmp 21) 26 rfl rfl _ _ _ rfl rfl (hrX12.out _) ?_)
      refine planPost_mk ⟨⟨X12, KX12.out⟩, rfl⟩ ?_
      repeat (rw [wpPlan_takes_cons]; simp only [nth_zero, nth_succ]; go_big_quiet_step (fail); refine wpQuiet_nil ?_)
      rw [wpPlan_takes_nil, wpPlan_leaf]
      simp only [List.drop_succ_cons, List.drop_zero]
      obtain ⟨y3, ST, hy3, hg3⟩ := store_stC ⟨(xX10, nX10, cX10), (xX11, nX11, cX11), nx, kd, id, (xX12, nX12, cX12)⟩ (HR.out.below KX12.out) rfl
      have RT := load_stC hy3
      simp only [stV, stL, slV] at ST RT
      have HB3 : Hid (Below B w y3) := (HBW.out.trans (KX12.out.mono (by have := HS.out; omega))).grown hg3 (by have := HS.out; have := KX12.out.size; omega) (fun k e => by cases e; exact Nat.le_succ B)
      have HO : Hid (StO W.heap.size y3 ⟨(xX10, nX10, cX10), (xX11, nX11, cX11), nx, kd, id, (xX12, nX12, cX12)⟩ d l ps) := StO.low ⟨OAX12.out, SNX12.out.weak KX10.out.size, OBX12.out⟩ hg3 (fun j e => by cases e; have := HS.out; omega)
      have RT := Lib.hid RT
      have ST := Lib.hid ST
      clear hy3 hg3
      have ST := ST.out
      go_wp2_with fail
      refine bodyPost_ret (results_cell rfl rfl RT.out) rfl ?_
      rw [HSZ.out]
      exact ⟨⟨(xX10, nX10, cX10), (xX11, nX11, cX11), nx, kd, id, (xX12, nX12, cX12)⟩, rfl, rfl, rfl, rfl, HO.out.weak (by have := HS.out; omega), HB3.out⟩
  · simp only [nth_zero, nth_succ]
    obtain ⟨X13, hX13⟩ : ∃ Y, X0.alloc (.cells #[] 57) = Y := ⟨_, rfl⟩
    have SX13 := slice_prs0 X0
    have bX13 := below_new X0 (.cells #[] 57)
    have oX13 := lit_none W.heap.size X0 KW.out.size
    rw [hX13] at SX13 bX13 oX13
    have KX13 : Hid (Below W.heap.size W X13) := KW.out.trans (bX13.mono KW.out.size)
    have OBX13 := Lib.hid oX13
    have SX13 := Lib.hid SX13
    clear hX13 bX13 oX13
    go_wp2_with ((with_reducible refine gate_build ?_); refine wpList_build_run 26 0 #[] rfl rfl [] _ rfl SX13.out ?_)
    refine planPost_mk ⟨⟨X13, KX13.out⟩, rfl⟩ ?_
    rw [wpPlan_one]
    simp only [nth_zero, nth_succ]
    obtain ⟨X14, hX14⟩ : ∃ Y, X13.alloc (.cells #[] 3) = Y := ⟨_, rfl⟩
    have SX14 := slice_int0 X13
    have bX14 := below_new X13 (.cells #[] 3)
    have oX14 := own_int0 W.heap.size X13 KX13.out.size
    rw [hX14] at SX14 bX14 oX14
    have KX14 : Hid (Below W.heap.size W X14) := KX13.out.trans (bX14.mono KX13.out.size)
    have OAX14 := Lib.hid oX14
    have SX14 := Lib.hid SX14
    have OBX14 := Lib.hid (OBX13.out.below bX14)
    clear hX14 bX14 oX14
    go_wp2_with ((with_reducible refine gate_build ?_); refine wpList_build_run 24 0 #[] rfl rfl [] _ rfl SX14.out ?_)
    refine planPost_mk ⟨⟨X14, KX14.out⟩, rfl⟩ ?_
    rw [wpPlan_one]
    simp only [nth_zero, nth_succ]
    obtain ⟨vX15, X15, hrX15, hoX15, hgX15⟩ := in_appendS OAX14.out (HD.out.below KX14.out) KX14.out.size (by have := HL1.out; simp; omega)
    rw [List.nil_append] at hoX15
    have KX15 : Hid (Below W.heap.size W X15) := KX14.out.grown hgX15 KX14.out.size (fun j e => (OAX14.out.base j e).1)
    obtain ⟨⟨xX15, nX15, cX15⟩, rfl, -⟩ := own_slV hoX15
    have OAX15 : Hid (InO W.heap.size X15 (.slice xX15 nX15 cX15) d) := hoX15
    have hrX15 := Lib.hid hrX15
    simp only [slV] at hrX15
    have OBX15 := Lib.hid (OBX14.out.grownI OAX14.out hgX15)
    clear hoX15 hgX15
    go_wp2_with (at_builtin; refine wpList_append_run (.tmp 3) (.tmp 5) 24 rfl rfl _ _ _ rfl rfl (hrX15.out _) ?_)
    refine planPost_mk ⟨⟨X15, KX15.out⟩, rfl⟩ ?_
    rw [wpPlan_one]
    simp only [nth_zero, nth_succ]
    go_wp2_with fail
    refine (keep_copy (HSN.out.below KX15.out) HK.out).mono ?_
    rintro e X16 ⟨uX16, rfl, hoX16, bX16⟩
    have KX16 : Hid (Below W.heap.size W X16) := KX15.out.trans (bX16.mono KX15.out.size)
    obtain ⟨⟨xX16, nX16, cX16⟩, rfl, -⟩ := hoX16.isSl
    have SNX16 : Hid (SnO X15.heap.size X16 (slV (xX16, nX16, cX16)) l) := hoX16
    have OAX16 := Lib.hid (OAX15.out.below bX16)
    have LBX16 : Hid (∀ j, Value.ownBlock (.slice (some ⟨X0.heap.size, 0, none⟩) 0 0) = some j → j < X15.heap.size) := fun j e => (OBX15.out.base j e).2
    have OBX16 := Lib.hid (OBX15.out.below bX16)
    have KSX16 : Hid True := trivial
    clear hoX16 bX16
    simp only [slV]
    go_wp2_with fail
    refine planPost_mk ⟨⟨X16, KX16.out⟩, rfl⟩ ?_
    rw [wpPlan_one]
    simp only [nth_zero, nth_succ]
    obtain ⟨vX17, X17, hrX17, hoX17, hgX17, -⟩ := pr_append OBX16.out (HP.out.below KX16.out) KX16.out.size (by have := HL2.out; simp; omega)
    rw [List.nil_append] at hoX17
    have KX17 : Hid (Below W.heap.size W X17) := KX16.out.grown hgX17 KX16.out.size (fun j e => (OBX16.out.base j e).1)
    obtain ⟨⟨xX17, nX17, cX17⟩, rfl, -⟩ := own_slV hoX17.1
    have OBX17 : Hid (PrO W.heap.size X17 (.slice xX17 nX17 cX17) ps) := hoX17
    have hrX17 := Lib.hid hrX17
    simp only [slV] at hrX17
    have OAX17 := Lib.hid (OAX16.out.grown OBX16.out hgX17)
    have SNX17 : Hid (SnO X15.heap.size X17 (slV (xX16, nX16, cX16)) l) := SNX16.out.low hgX17 (fun j e => LBX16.out j e)
    clear hoX17 hgX17
    go_wp2_with (at_builtin; refine wpList_append_run (.tmp 18) (.tmp 21) 26 rfl rfl _ _ _ rfl rfl (hrX17.out _) ?_)
    refine planPost_mk ⟨⟨X17, KX17.out⟩, rfl⟩ ?_
    repeat (rw [wpPlan_takes_cons]; simp only [nth_zero, nth_succ]; go_big_quiet_step (fail); refine wpQuiet_nil ?_)
    rw [wpPlan_takes_nil, wpPlan_leaf]
    simp only [List.drop_succ_cons, List.drop_zero]
    obtain ⟨y3, ST, hy3, hg3⟩ := store_stC ⟨(xX15, nX15, cX15), (xX16, nX16, cX16), nx, kd, id, (xX17, nX17, cX17)⟩ (HR.out.below KX17.out) rfl
    have RT := load_stC hy3
    simp only [stV, stL, slV] at ST RT
    have HB3 : Hid (Below B w y3) := (HBW.out.trans (KX17.out.mono (by have := HS.out; omega))).grown hg3 (by have := HS.out; have := KX17.out.size; omega) (fun k e => by cases e; exact Nat.le_succ B)
    have HO : Hid (StO W.heap.size y3 ⟨(xX15, nX15, cX15), (xX16, nX16, cX16), nx, kd, id, (xX17, nX17, cX17)⟩ d l ps) := StO.low ⟨OAX17.out, SNX17.out.weak KX15.out.size, OBX17.out⟩ hg3 (fun j e => by cases e; have := HS.out; omega)
    have RT := Lib.hid RT
    have ST := Lib.hid ST
    clear hy3 hg3
    have ST := ST.out
    go_wp2_with fail
    refine bodyPost_ret (results_cell rfl rfl RT.out) rfl ?_
    rw [HSZ.out]
    exact ⟨⟨(xX15, nX15, cX15), (xX16, nX16, cX16), nx, kd, id, (xX17, nX17, cX17)⟩, rfl, rfl, rfl, rfl, HO.out.weak (by have := HS.out; omega), HB3.out⟩
end Go.Proofs.YtajamblkjmafmaaGreat

/- The program's Copy of a state. -/
namespace Go.Proofs.YtajamblkjmafmaaGreat
open Go.RowKit Go.Shelf Go.Lib
set_option linter.unusedVariables false
set_option linter.unusedSimpArgs false
theorem SnO.setE {N E : Nat} {W : World} {v : Value} {l : List SN} {L : List Value} (h : SnO N W v l) (hE : RowC W E 30 L) (j : Nat) (x : Value) : SnO N (W.setCell ⟨E, j, none⟩ x) v l := by
  obtain ⟨r, h1, h2, h3⟩ := h
  exact ⟨r, h1, own_setB h2 hE (by decide) j x, fun k q s a b => ⟨(h3 k q s a b).id, own_setB (h3 k q s a b).ch hE (by decide) j x, ⟨own_setB (h3 k q s a b).tb.1 hE (by decide) j x, (h3 k q s a b).tb.2⟩, (h3 k q s a b).ok⟩⟩
/-- What lies there while a state is copied. -/
structure CpI (B E : Nat) (G : List Value) (w : World) (q : PS) (d : List Int) (sl : List SN) (ps : List (Int × Int)) (W : World) : Prop where
  g0 : RowC W B 30 G
  g1 : RowC W (B + 1) 30 (stL noQ)
  ge : RowC W E 30 (stL q)
  dd : InO (B + 2) W (slV q.d) d
  ss : SnO (B + 2) W (slV q.sn) sl
  pr : PrO (B + 2) W (slV q.pr) ps
  be : Below B w W
  n3 : B + 2 ≤ E
  n4 : E < W.heap.size
/-- Worlds in which the copy and the snapshot's box lie. -/
def CpT (E F : Nat) (L M : List Value) : Type := {x : World // RowC x E 30 L ∧ RowC x F 55 M}
variable {B E : Nat} {G : List Value} {w W W' : World} {q : PS} {d : List Int} {sl : List SN} {ps : List (Int × Int)}
theorem CpI.below (h : CpI B E G w q d sl ps W) (hb : Below W.heap.size W W') : CpI B E G w q d sl ps W' :=
  ⟨h.g0.below hb, h.g1.below hb, h.ge.below hb, h.dd.below hb, h.ss.below hb, h.pr.below hb, h.be.trans (hb.mono (by have := h.n3; have := h.n4; omega)), h.n3, Nat.lt_of_lt_of_le h.n4 hb.size⟩
/-- The row of snapshots grows, and is put there. -/
theorem CpI.put (h : CpI B E G w q d sl ps W) {Y : World} (hg : W.grownBy Y (slV q.sn).ownBlock) {u : SlV} {sl' : List SN} (hs : SnO (B + 2) Y (slV u) sl') :
    CpI B E G w ⟨q.d, u, q.nx, q.kd, q.id, q.pr⟩ d sl' ps (Y.setCell ⟨E, 1, none⟩ (slV u)) := by
  have n3 := h.n3
  have n4 := h.n4
  have ne : ∀ j, j < B + 2 → (slV q.sn).ownBlock ≠ some j := fun j hj e => by have := (h.ss.base j e).1; omega
  have hE : RowC Y E 30 (stL q) := h.ge.grown hg (h.ss.ne h.ge (by decide))
  obtain ⟨r, -, hr, -⟩ := h.ss
  exact ⟨set_other (h.g0.grown hg (ne _ (by omega))) (by omega) _ _, set_other (h.g1.grown hg (ne _ (by omega))) (by omega) _ _, hE.set 1 (slV u),
    own_setB (World.ownsRow.kept h.dd hg (rows_ne h.dd hr (by decide))) hE (by decide) _ _, hs.setE hE _ _, ⟨own_setB (h.pr.1.kept hg (rows_ne h.pr.1 hr (by decide))) hE (by decide) _ _, h.pr.2⟩,
    set_below (h.be.grown hg (by omega) (fun j e => by have := (h.ss.base j e).1; omega)) (by omega) _ _, n3, Nat.lt_of_lt_of_le n4 (Nat.le_trans hg.size (grownBy_setCellJ Y E 1 (slV u)).size)⟩
set_option maxRecDepth 100000 in
theorem build_sn3 (i : Int) (x y : Option Addr) (n c m e : Nat) (w : World) : (Instr.build 55 #[(0, .int .i64 i), (1, .slice x n c), (2, .slice y m e)]).run Tryz.prog w = .ok (.agg #[.int .i64 i, .slice x n c, .slice y m e]) w := by kernel_rfl
attribute [-simp] Tryz.isAgg55 Tryz.zeroValue55 Tryz.isAgg57 Tryz.zeroValue57 Tryz.isAgg30 Tryz.zeroValue30
attribute [-go_sem] loadVar storeVar
attribute [local go_sem] loadVar_openQ storeVar_openQ zero_sn zero_prs zero_st build_plK build_stY build_sn3
set_option maxRecDepth 100000 in
set_option maxHeartbeats 16000000 in
/-- **Copy**. -/
theorem sg_copy {w : World} {q : PS} {d : List Int} {l : List SN} {ps : List (Int × Int)} (hd : Sl .i64 w (slV q.d) d) (h : StIs w q l ps) (hK : Lens 1000 l) (hn : d.length ≤ 100000) (hp : ps.length ≤ 100000) :
    Calls Tryz.prog 19 #[stV q] w fun e w' => ∃ q' : PS, e = .returned (stV q') ∧ q'.nx = q.nx ∧ q'.kd = q.kd ∧ q'.id = q.id ∧ StO w.heap.size w' q' d l ps ∧ Below w.heap.size w w' := by
  have hmx : Tryz.prog.follows .mixedOrders = true := by kernel_rfl
  obtain ⟨⟨qd, qdn, qdc⟩, ⟨qs, qsn, qsc⟩, nx, kd, id, ⟨qp, qpn, qpc⟩⟩ := q
  have HK := Lib.hid hK
  obtain ⟨rs, hrs⟩ := h.sn
  obtain ⟨_, cap, e0, hl1, -⟩ := hrs
  simp only [slV, Value.slice.injEq] at e0
  obtain ⟨-, hql, -⟩ := e0
  have HSL : Hid (l.length = qsn) := hql.symm
  have hq1 : qsn ≤ 1000 := by rw [hql]; exact hK.1
  clear hl1 hql
  obtain ⟨B, hB⟩ : ∃ B, w.heap.size = B := ⟨_, rfl⟩
  have HSZ := Lib.hid hB
  obtain ⟨GL, hGL⟩ : ∃ G, [Value.slice qd qdn qdc, .slice qs qsn qsc, .int .i64 nx, .int .i64 kd, .int .i64 id, .slice qp qpn qpc] = G := ⟨_, rfl⟩
  obtain ⟨W1, hW1⟩ : ∃ W, w.alloc (.cells #[.slice qd qdn qdc, .slice qs qsn qsc, .int .i64 nx, .int .i64 kd, .int .i64 id, .slice qp qpn qpc] 30) = W := ⟨_, rfl⟩
  obtain ⟨W, hW⟩ : ∃ W, W1.alloc (.cells #[.slice none 0 0, .slice none 0 0, .int .i64 0, .int .i64 0, .int .i64 0, .slice none 0 0] 30) = W := ⟨_, rfl⟩
  have s1 : W1.heap.size = B + 1 := by rw [← hW1, ← hB]; simp
  have s2 : W.heap.size = B + 2 := by rw [← hW, World.size_alloc, s1]
  have r1 : RowC W1 B 30 GL := by rw [← hW1, ← hB, ← hGL]; exact RowC.new _ _ _
  have r2 : RowC W (B + 1) 30 (stL noQ) := by rw [← hW, ← s1]; exact RowC.new _ _ _
  have b1 : Below B w W1 := by rw [← hW1, ← hB]; exact below_new _ _
  have b2 : Below W1.heap.size W1 W := by rw [← hW]; exact below_new _ _
  have bF : Below B w W := b1.trans (b2.mono (by omega))
  have r1 := r1.below b2
  have c0 : ∀ z : Ext W, z.1.cell? ⟨B, 0, none⟩ = some (.slice qd qdn qdc) := fun z => (r1.below z.2).cell 0 _ (by rw [← hGL]; rfl)
  have c2 : ∀ z : Ext W, z.1.cell? ⟨B, 2, none⟩ = some (.int .i64 nx) := fun z => (r1.below z.2).cell 2 _ (by rw [← hGL]; rfl)
  have c3 : ∀ z : Ext W, z.1.cell? ⟨B, 3, none⟩ = some (.int .i64 kd) := fun z => (r1.below z.2).cell 3 _ (by rw [← hGL]; rfl)
  have c4 : ∀ z : Ext W, z.1.cell? ⟨B, 4, none⟩ = some (.int .i64 id) := fun z => (r1.below z.2).cell 4 _ (by rw [← hGL]; rfl)
  have c5 : ∀ z : Ext W, z.1.cell? ⟨B, 5, none⟩ = some (.slice qp qpn qpc) := fun z => (r1.below z.2).cell 5 _ (by rw [← hGL]; rfl)
  have HG1 : Hid (∀ X : World, RowC X B 30 GL → X.cell? ⟨B, 1, none⟩ = some (.slice qs qsn qsc)) := fun X h => h.cell 1 _ (by rw [← hGL]; rfl)
  have HG0 := Lib.hid r1
  have HR := Lib.hid r2
  have HBW := Lib.hid bF
  have HS := Lib.hid s2
  have HCI : Hid (∀ z : World, Below W.heap.size W z → Calls Tryz.prog 51 #[.slice qd qdn qdc] z fun e w' => ∃ u, e = .returned u ∧ InO z.heap.size w' u d ∧ Below z.heap.size z w') := fun z hz => in_clone (hd.below (by rw [hB]; exact bF.trans (hz.mono (by omega)))) (by omega)
  have HCP : Hid (∀ z : World, Below W.heap.size W z → Calls Tryz.prog 52 #[.slice qp qpn qpc] z fun e w' => ∃ u, e = .returned u ∧ PrO z.heap.size w' u ps ∧ Below z.heap.size z w') := fun z hz => tb_clone (h.pr.below (by rw [hB]; exact bF.trans (hz.mono (by omega)))) (by omega)
  have HSN : Hid (Snp w (.slice qs qsn qsc) l) := h.sn
  have KW : Hid (Below W.heap.size W W.drew) := (Below.refl _ W).drew
  clear hd h hK hn hp r1 r2 b1 b2 bF s2 hGL
  simp only [stV, stL, slV]
  go_enter Tryz.func19, Tryz.ntmps19
  go_wp2_with fail
  try rw [hW1]
  try rw [hW]
  clear hW1 hW s1
  go_cut [3] from 6 to 22 (fun s3 wx => ∃ (E : Nat) (x y : Option Addr) (n c m e : Nat), s3 = .pointer (some ⟨E, 0, none⟩) ∧ Hid (CpI B E GL w ⟨(x, n, c), (none, 0, 0), nx, kd, id, (y, m, e)⟩ d [] ps wx))
  case first =>
    refine region_plan (fun x => ∃ y : Ext W, x = y.1) 18 (.takes [0, 1, 3, 4, 5, 6, 7, 8, 9, 10, 11, 12, 13] (.two 2 17 (.two 14 17 (.takes [15, 16] (.one 17 .leaf)) (.one 14 (.takes [15, 16] .leaf))) (.one 2 (.one 14 (.takes [15, 16] .leaf))))) hmx (by kernel_rfl) (by intro c x v a w h; cases x <;> exact h) ⟨⟨W.drew, KW.out⟩, rfl⟩ ?_
    repeat (rw [wpPlan_takes_cons]; simp only [nth_zero, nth_succ]; go_big_quiet_step (fail); refine wpQuiet_nil ?_)
    rw [wpPlan_takes_nil]
    clear c0 c2 c3 c4 c5
    obtain ⟨X0, hX0⟩ : ∃ X, W.drew = X := ⟨_, rfl⟩
    rw [hX0] at KW
    try rw [hX0]
    clear hX0
    rw [wpPlan_twoT]
    refine ⟨?_, ?_⟩
    · simp only [nth_zero, nth_succ]
      go_wp2_with fail
      refine (HCI.out X0 KW.out).mono ?_
      rintro e X1 ⟨uX1, rfl, hoX1, bX1⟩
      obtain ⟨⟨xX1, nX1, cX1⟩, rfl, -⟩ := own_slV hoX1
      have KX1 : Hid (Below W.heap.size W X1) := KW.out.trans (bX1.mono KW.out.size)
      have OAX1 : Hid (InO (B + 2) X1 (.slice xX1 nX1 cX1) d) := own_weak hoX1 (by have := HS.out; have := KW.out.size; omega)
      clear hoX1 bX1
      simp only [slV]
      go_wp2_with fail
      refine planPost_mk ⟨⟨X1, KX1.out⟩, rfl⟩ ?_
      rw [wpPlan_twoT]
      refine ⟨?_, ?_⟩
      · simp only [nth_zero, nth_succ]
        go_wp2_with fail
        refine (HCP.out X1 KX1.out).mono ?_
        rintro e X2 ⟨uX2, rfl, hoX2, bX2⟩
        obtain ⟨⟨xX2, nX2, cX2⟩, rfl, -⟩ := own_slV hoX2.1
        have KX2 : Hid (Below W.heap.size W X2) := KX1.out.trans (bX2.mono KX1.out.size)
        have OBX2 : Hid (PrO (B + 2) X2 (.slice xX2 nX2 cX2) ps) := hoX2.weak (by have := HS.out; have := KX1.out.size; omega)
        have OAX2 := Lib.hid (OAX1.out.below bX2)
        clear hoX2 bX2
        simp only [slV]
        go_wp2_with fail
        refine planPost_mk ⟨⟨X2, KX2.out⟩, rfl⟩ ?_
        repeat (rw [wpPlan_takes_cons]; simp only [nth_zero, nth_succ]; go_big_quiet_step (fail); refine wpQuiet_nil ?_)
        rw [wpPlan_takes_nil]
        rw [wpPlan_one]
        simp only [nth_zero, nth_succ]
        obtain ⟨E, hE⟩ : ∃ E, X2.heap.size = E := ⟨_, rfl⟩
        obtain ⟨X3, hX3⟩ : ∃ Y, X2.alloc (.cells #[.slice none 0 0, .slice none 0 0, .int .i64 0, .int .i64 0, .int .i64 0, .slice none 0 0] 30) = Y := ⟨_, rfl⟩
        have bX3 : Below X2.heap.size X2 X3 := by rw [← hX3]; exact below_new _ _
        have KX3 : Hid (Below W.heap.size W X3) := KX2.out.trans (bX3.mono KX2.out.size)
        have EX3 : Hid (RowC X3 E 30 (stL noQ)) := by show RowC _ _ _ _; rw [← hX3, ← hE]; exact RowC.new _ _ _
        have HEB : Hid (B + 2 ≤ E) := by show _ ≤ _; rw [← hE, ← HS.out]; exact KX2.out.size
        have OAX3 := Lib.hid (OAX2.out.below bX3)
        have OBX3 := Lib.hid (OBX2.out.below bX3)
        go_wp2_with fail
        try rw [hX3]
        try rw [hE]
        clear hX3 bX3 hE
        refine planPost_mk ⟨⟨X3, KX3.out⟩, rfl⟩ ?_
        rw [wpPlan_leaf]
        simp only [List.drop_succ_cons, List.drop_zero]
        obtain ⟨y3, ST, hy3, hg3⟩ := store_stC ⟨(xX1, nX1, cX1), (none, 0, 0), nx, kd, id, (xX2, nX2, cX2)⟩ EX3.out rfl
        have HI : Hid (CpI B E GL w ⟨(xX1, nX1, cX1), (none, 0, 0), nx, kd, id, (xX2, nX2, cX2)⟩ d [] ps y3) := by
          have h1 := HS.out
          have h2 := KX3.out.size
          have h3 := HEB.out
          have b := HBW.out.trans (KX3.out.mono (by omega))
          exact ⟨(HG0.out.below KX3.out).grown hg3 (fun e => by cases e; omega), (HR.out.below KX3.out).grown hg3 (fun e => by cases e; omega), hy3, World.ownsRow.kept OAX3.out hg3 (.inr (row_ne OAX3.out EX3.out (by decide))), SnO.nil _ _, ⟨OBX3.out.1.kept hg3 (.inr (row_ne OBX3.out.1 EX3.out (by decide))), OBX3.out.2⟩, b.grown hg3 (by omega) (fun j e => by cases e; omega), h3, Nat.lt_of_lt_of_le EX3.out.lt hg3.size⟩
        simp only [stV, stL, slV] at ST
        clear hy3 hg3
        go_wp2_with fail
        go_meet
        exact ⟨E, _, _, _, _, _, _, rfl, HI⟩
      · simp only [nth_zero, nth_succ]
        obtain ⟨E, hE⟩ : ∃ E, X1.heap.size = E := ⟨_, rfl⟩
        obtain ⟨X4, hX4⟩ : ∃ Y, X1.alloc (.cells #[.slice none 0 0, .slice none 0 0, .int .i64 0, .int .i64 0, .int .i64 0, .slice none 0 0] 30) = Y := ⟨_, rfl⟩
        have bX4 : Below X1.heap.size X1 X4 := by rw [← hX4]; exact below_new _ _
        have KX4 : Hid (Below W.heap.size W X4) := KX1.out.trans (bX4.mono KX1.out.size)
        have EX4 : Hid (RowC X4 E 30 (stL noQ)) := by show RowC _ _ _ _; rw [← hX4, ← hE]; exact RowC.new _ _ _
        have HEB : Hid (B + 2 ≤ E) := by show _ ≤ _; rw [← hE, ← HS.out]; exact KX1.out.size
        have OAX4 := Lib.hid (OAX1.out.below bX4)
        go_wp2_with fail
        try rw [hX4]
        try rw [hE]
        clear hX4 bX4 hE
        refine planPost_mk ⟨⟨X4, KX4.out⟩, rfl⟩ ?_
        rw [wpPlan_one]
        simp only [nth_zero, nth_succ]
        go_wp2_with fail
        refine (HCP.out X4 KX4.out).mono ?_
        rintro e X5 ⟨uX5, rfl, hoX5, bX5⟩
        obtain ⟨⟨xX5, nX5, cX5⟩, rfl, -⟩ := own_slV hoX5.1
        have KX5 : Hid (Below W.heap.size W X5) := KX4.out.trans (bX5.mono KX4.out.size)
        have OBX5 : Hid (PrO (B + 2) X5 (.slice xX5 nX5 cX5) ps) := hoX5.weak (by have := HS.out; have := KX4.out.size; omega)
        have OAX5 := Lib.hid (OAX4.out.below bX5)
        have EX5 := Lib.hid (EX4.out.below bX5)
        clear hoX5 bX5
        simp only [slV]
        go_wp2_with fail
        refine planPost_mk ⟨⟨X5, KX5.out⟩, rfl⟩ ?_
        repeat (rw [wpPlan_takes_cons]; simp only [nth_zero, nth_succ]; go_big_quiet_step (fail); refine wpQuiet_nil ?_)
        rw [wpPlan_takes_nil]
        rw [wpPlan_leaf]
        simp only [List.drop_succ_cons, List.drop_zero]
        obtain ⟨y3, ST, hy3, hg3⟩ := store_stC ⟨(xX1, nX1, cX1), (none, 0, 0), nx, kd, id, (xX5, nX5, cX5)⟩ EX5.out rfl
        have HI : Hid (CpI B E GL w ⟨(xX1, nX1, cX1), (none, 0, 0), nx, kd, id, (xX5, nX5, cX5)⟩ d [] ps y3) := by
          have h1 := HS.out
          have h2 := KX5.out.size
          have h3 := HEB.out
          have b := HBW.out.trans (KX5.out.mono (by omega))
          exact ⟨(HG0.out.below KX5.out).grown hg3 (fun e => by cases e; omega), (HR.out.below KX5.out).grown hg3 (fun e => by cases e; omega), hy3, World.ownsRow.kept OAX5.out hg3 (.inr (row_ne OAX5.out EX5.out (by decide))), SnO.nil _ _, ⟨OBX5.out.1.kept hg3 (.inr (row_ne OBX5.out.1 EX5.out (by decide))), OBX5.out.2⟩, b.grown hg3 (by omega) (fun j e => by cases e; omega), h3, Nat.lt_of_lt_of_le EX5.out.lt hg3.size⟩
        simp only [stV, stL, slV] at ST
        clear hy3 hg3
        go_wp2_with fail
        go_meet
        exact ⟨E, _, _, _, _, _, _, rfl, HI⟩
    · simp only [nth_zero, nth_succ]
      obtain ⟨E, hE⟩ : ∃ E, X0.heap.size = E := ⟨_, rfl⟩
      obtain ⟨X6, hX6⟩ : ∃ Y, X0.alloc (.cells #[.slice none 0 0, .slice none 0 0, .int .i64 0, .int .i64 0, .int .i64 0, .slice none 0 0] 30) = Y := ⟨_, rfl⟩
      have bX6 : Below X0.heap.size X0 X6 := by rw [← hX6]; exact below_new _ _
      have KX6 : Hid (Below W.heap.size W X6) := KW.out.trans (bX6.mono KW.out.size)
      have EX6 : Hid (RowC X6 E 30 (stL noQ)) := by show RowC _ _ _ _; rw [← hX6, ← hE]; exact RowC.new _ _ _
      have HEB : Hid (B + 2 ≤ E) := by show _ ≤ _; rw [← hE, ← HS.out]; exact KW.out.size
      go_wp2_with fail
      try rw [hX6]
      try rw [hE]
      clear hX6 bX6 hE
      refine planPost_mk ⟨⟨X6, KX6.out⟩, rfl⟩ ?_
      rw [wpPlan_one]
      simp only [nth_zero, nth_succ]
      go_wp2_with fail
      refine (HCI.out X6 KX6.out).mono ?_
      rintro e X7 ⟨uX7, rfl, hoX7, bX7⟩
      obtain ⟨⟨xX7, nX7, cX7⟩, rfl, -⟩ := own_slV hoX7
      have KX7 : Hid (Below W.heap.size W X7) := KX6.out.trans (bX7.mono KX6.out.size)
      have OAX7 : Hid (InO (B + 2) X7 (.slice xX7 nX7 cX7) d) := own_weak hoX7 (by have := HS.out; have := KX6.out.size; omega)
      have EX7 := Lib.hid (EX6.out.below bX7)
      clear hoX7 bX7
      simp only [slV]
      go_wp2_with fail
      refine planPost_mk ⟨⟨X7, KX7.out⟩, rfl⟩ ?_
      rw [wpPlan_one]
      simp only [nth_zero, nth_succ]
      go_wp2_with fail
      refine (HCP.out X7 KX7.out).mono ?_
      rintro e X8 ⟨uX8, rfl, hoX8, bX8⟩
      obtain ⟨⟨xX8, nX8, cX8⟩, rfl, -⟩ := own_slV hoX8.1
      have KX8 : Hid (Below W.heap.size W X8) := KX7.out.trans (bX8.mono KX7.out.size)
      have OBX8 : Hid (PrO (B + 2) X8 (.slice xX8 nX8 cX8) ps) := hoX8.weak (by have := HS.out; have := KX7.out.size; omega)
      have OAX8 := Lib.hid (OAX7.out.below bX8)
      have EX8 := Lib.hid (EX7.out.below bX8)
      clear hoX8 bX8
      simp only [slV]
      go_wp2_with fail
      refine planPost_mk ⟨⟨X8, KX8.out⟩, rfl⟩ ?_
      repeat (rw [wpPlan_takes_cons]; simp only [nth_zero, nth_succ]; go_big_quiet_step (fail); refine wpQuiet_nil ?_)
      rw [wpPlan_takes_nil]
      rw [wpPlan_leaf]
      simp only [List.drop_succ_cons, List.drop_zero]
      obtain ⟨y3, ST, hy3, hg3⟩ := store_stC ⟨(xX7, nX7, cX7), (none, 0, 0), nx, kd, id, (xX8, nX8, cX8)⟩ EX8.out rfl
      have HI : Hid (CpI B E GL w ⟨(xX7, nX7, cX7), (none, 0, 0), nx, kd, id, (xX8, nX8, cX8)⟩ d [] ps y3) := by
        have h1 := HS.out
        have h2 := KX8.out.size
        have h3 := HEB.out
        have b := HBW.out.trans (KX8.out.mono (by omega))
        exact ⟨(HG0.out.below KX8.out).grown hg3 (fun e => by cases e; omega), (HR.out.below KX8.out).grown hg3 (fun e => by cases e; omega), hy3, World.ownsRow.kept OAX8.out hg3 (.inr (row_ne OAX8.out EX8.out (by decide))), SnO.nil _ _, ⟨OBX8.out.1.kept hg3 (.inr (row_ne OBX8.out.1 EX8.out (by decide))), OBX8.out.2⟩, b.grown hg3 (by omega) (fun j e => by cases e; omega), h3, Nat.lt_of_lt_of_le EX8.out.lt hg3.size⟩
      simp only [stV, stL, slV] at ST
      clear hy3 hg3
      go_wp2_with fail
      go_meet
      exact ⟨E, _, _, _, _, _, _, rfl, HI⟩
  case rest =>
    obtain ⟨E, x, y, n, c, m, e, rfl, HI⟩ := hcut
    have k1 := HG1.out _ HI.out.g0
    clear c0 c2 c3 c4 c5 KW HCI HCP
    go_wp2_with fail
    clear k1
    go_loopw [26] (fun iv wr => ∃ (k : Nat) (sx : Option Addr) (sn sc : Nat), k ≤ qsn ∧ iv = .int .i64 (k : Int) ∧ Hid (CpI B E GL w ⟨(x, n, c), (sx, sn, sc), nx, kd, id, (y, m, e)⟩ d (l.take k) ps wr)) (fun iv _ => qsn - (intOf iv).toNat)
    case atStart => exact ⟨0, none, 0, 0, Nat.zero_le _, rfl, by rw [List.take_zero]; exact HI⟩
    case round =>
      clear HI
      obtain ⟨k, sx, sn, sc, hk, rfl, HI⟩ := hrel
      by_cases hlt : k < qsn
      · have q1 : (k : Int) < (qsn : Int) := by omega
        have HLT := Lib.hid hlt
        obtain ⟨s, hs⟩ : ∃ s, l[k]? = some s := ⟨_, List.getElem?_eq_getElem (by rw [HSL.out]; exact hlt)⟩
        have hls := HK.out.2 s (List.mem_of_getElem? hs)
        have HTK := Lib.hid (take_at hs)
        obtain ⟨rr, hS⟩ := HSN.out
        have bw : Below w.heap.size w wr := by rw [HSZ.out]; exact HI.out.be
        obtain ⟨b, off, qv, rfl, hb, hrr, hq, e0, e1, e2⟩ := (hS.below bw).at hs
        have LD := load_sn e0 e1 e2
        have ST := new_sn wr qv
        obtain ⟨Y, hY⟩ : ∃ Y, wr.alloc (.cells (svL qv).toArray 55) = Y := ⟨_, rfl⟩
        have bY : Below wr.heap.size wr Y := by rw [← hY]; exact below_new _ _
        have rY : RowC Y wr.heap.size 55 (svL qv) := by rw [← hY]; exact RowC.new _ _ _
        rw [hY] at ST
        obtain ⟨F, hF⟩ : ∃ F, wr.heap.size = F := ⟨_, rfl⟩
        rw [hF] at ST rY
        have RY := Lib.hid rY
        have HLF : Hid (∀ j, (slV (sx, sn, sc)).ownBlock = some j → j < F) := fun j e => by rw [← hF]; exact (HI.out.ss.base j e).2
        have IY := Lib.hid (HI.out.below bY)
        have HQ := Lib.hid (hq.below bY)
        obtain ⟨i, ⟨x1, n1, c1⟩, ⟨x2, n2, c2⟩⟩ := qv
        have HC1 : Hid (∀ z : World, Below Y.heap.size Y z → Calls Tryz.prog 53 #[.slice x1 n1 c1] z fun e w' => ∃ v', e = .returned v' ∧ w'.ownsRow z.heap.size 5 1 v' s.ch.length (s.ch.map (Value.int .u8)) ∧ Below z.heap.size z w') := fun z hz => bi_clone _ s.ch z (HQ.out.ch.below hz) (by omega)
        have HC2 : Hid (∀ z : World, Below Y.heap.size Y z → Calls Tryz.prog 52 #[.slice x2 n2 c2] z fun e w' => ∃ u, e = .returned u ∧ PrO z.heap.size w' u s.tb ∧ Below z.heap.size z w') := fun z hz => tb_clone (HQ.out.tb.below hz) (by omega)
        have KD : Hid (Below Y.heap.size Y Y.drew) := (Below.refl _ Y).drew
        have HRow : Hid (∀ z : World, Below Y.heap.size Y z → RowC z E 30 (stL ⟨(x, n, c), (sx, sn, sc), nx, kd, id, (y, m, e)⟩) ∧ RowC z F 55 (svL (i, (x1, n1, c1), (x2, n2, c2)))) := fun z hz => ⟨IY.out.ge.below hz, RY.out.below hz⟩
        haveI : Nonempty (CpT E F (stL ⟨(x, n, c), (sx, sn, sc), nx, kd, id, (y, m, e)⟩) (svL (i, (x1, n1, c1), (x2, n2, c2)))) := ⟨⟨Y.drew, HRow.out _ KD.out⟩⟩
        have d0 : ∀ z : CpT E F (stL ⟨(x, n, c), (sx, sn, sc), nx, kd, id, (y, m, e)⟩) (svL (i, (x1, n1, c1), (x2, n2, c2))), z.1.cell? ⟨E, 1, none⟩ = some (.slice sx sn sc) := fun z => z.2.1.cell 1 _ rfl
        have d1 : ∀ z : CpT E F (stL ⟨(x, n, c), (sx, sn, sc), nx, kd, id, (y, m, e)⟩) (svL (i, (x1, n1, c1), (x2, n2, c2))), z.1.cell? ⟨F, 0, none⟩ = some (.int .i64 i) := fun z => z.2.2.cell 0 _ rfl
        have d2 : ∀ z : CpT E F (stL ⟨(x, n, c), (sx, sn, sc), nx, kd, id, (y, m, e)⟩) (svL (i, (x1, n1, c1), (x2, n2, c2))), z.1.cell? ⟨F, 1, none⟩ = some (.slice x1 n1 c1) := fun z => z.2.2.cell 1 _ rfl
        have d3 : ∀ z : CpT E F (stL ⟨(x, n, c), (sx, sn, sc), nx, kd, id, (y, m, e)⟩) (svL (i, (x1, n1, c1), (x2, n2, c2))), z.1.cell? ⟨F, 2, none⟩ = some (.slice x2 n2 c2) := fun z => z.2.2.cell 2 _ rfl
        simp only [svV, slV] at ST LD
        clear hs hls hS bw hb hrr hq e0 e1 e2 hlt bY rY hY HI RY
        go_wp2_with fail
        refine region_plan (fun x' => ∃ z : CpT E F (stL ⟨(x, n, c), (sx, sn, sc), nx, kd, id, (y, m, e)⟩) (svL (i, (x1, n1, c1), (x2, n2, c2))), x' = z.1) 14 (.takes [0, 1, 2, 3, 4, 5, 7, 8] (.one 6 (.one 9 (.takes [10] (.one 11 (.one 12 (.takes [13] .leaf))))))) hmx (by kernel_rfl) (by intro c x v a w h; cases x <;> exact h) ⟨⟨Y.drew, HRow.out _ KD.out⟩, rfl⟩ ?_
        repeat (rw [wpPlan_takes_cons]; simp only [nth_zero, nth_succ]; go_big_quiet_step (fail); refine wpQuiet_nil ?_)
        clear d0 d1 d2 d3 ST LD
        rw [wpPlan_takes_nil, wpPlan_one]
        simp only [nth_zero, nth_succ]
        go_wp2_with fail
        refine (HC1.out _ KD.out).mono ?_
        rintro e' y1 ⟨v1, rfl, ho1, hb1⟩
        have B1 : Hid (Below Y.heap.size Y y1) := KD.out.trans (hb1.mono KD.out.size)
        obtain ⟨⟨p1, p2, p3⟩, rfl, -⟩ := own_slV ho1
        have O1 : Hid (y1.ownsRow (B + 2) 5 1 (.slice p1 p2 p3) s.ch.length (s.ch.map (Value.int .u8))) := own_weak ho1 (by have := KD.out.size; have := IY.out.n3; have := IY.out.n4; omega)
        clear ho1 hb1
        simp only [slV]
        go_wp2_with fail
        refine planPost_mk ⟨⟨y1, HRow.out _ B1.out⟩, rfl⟩ ?_
        rw [wpPlan_one]
        simp only [nth_zero, nth_succ]
        go_wp2_with fail
        refine (HC2.out _ B1.out).mono ?_
        rintro e' y2 ⟨v2, rfl, ho2, hb2⟩
        have B2 : Hid (Below Y.heap.size Y y2) := B1.out.trans (hb2.mono B1.out.size)
        obtain ⟨⟨r1, r2, r3⟩, rfl, -⟩ := own_slV ho2.1
        have F2 : Hid (SnF (B + 2) y2 (i, (p1, p2, p3), (r1, r2, r3)) s) := ⟨HQ.out.id, own_belowT O1.out hb2, ho2.weak (by have := B1.out.size; have := IY.out.n3; have := IY.out.n4; omega), HQ.out.ok⟩
        clear ho2 hb2 O1
        simp only [slV]
        go_wp2_with fail
        refine planPost_mk ⟨⟨y2, HRow.out _ B2.out⟩, rfl⟩ ?_
        repeat (rw [wpPlan_takes_cons]; simp only [nth_zero, nth_succ]; go_big_quiet_step (fail); refine wpQuiet_nil ?_)
        have I2 := Lib.hid (IY.out.below B2.out)
        have S1 := slice_sn1 y2 (i, (p1, p2, p3), (r1, r2, r3))
        obtain ⟨v3, y3, hA, O3, hg3⟩ := sn_append I2.out.ss (by have := I2.out.n3; have := I2.out.n4; omega) F2.out (by rw [List.length_take]; have := HSL.out; omega)
        rw [← HTK.out] at O3
        obtain ⟨⟨t1, t2, t3⟩, rfl, -⟩ := O3.isSl
        obtain ⟨Y2, hY2⟩ : ∃ Z, y2.alloc (.cells (svL (i, (p1, p2, p3), (r1, r2, r3))).toArray 55) = Z := ⟨_, rfl⟩
        have bY2 : Below y2.heap.size y2 Y2 := by rw [← hY2]; exact below_new _ _
        have B3 : Hid (Below Y.heap.size Y Y2) := B2.out.trans (bY2.mono B2.out.size)
        rw [hY2] at hA S1
        have IP := Lib.hid (I2.out.put hg3 O3)
        have hEg : RowC y3 E 30 (stL ⟨(x, n, c), (sx, sn, sc), nx, kd, id, (y, m, e)⟩) := I2.out.ge.grown hg3 (I2.out.ss.ne I2.out.ge (by decide))
        have hFg : RowC y3 F 55 (svL (i, (x1, n1, c1), (x2, n2, c2))) := (HRow.out _ B2.out).2.grown hg3 (fun h => Nat.lt_irrefl _ (HLF.out _ h))
        have KY : Hid (RowC y3 E 30 (stL ⟨(x, n, c), (sx, sn, sc), nx, kd, id, (y, m, e)⟩) ∧ RowC y3 F 55 (svL (i, (x1, n1, c1), (x2, n2, c2)))) := ⟨hEg, hFg⟩
        have f0 := hEg.frozen 1
        have e0 := hEg.cell 1 _ rfl
        have HA := Lib.hid hA
        have HS1 := Lib.hid S1
        simp only [svV, slV] at HA HS1 e0 IP
        clear hA S1 hY2 O3 hg3 hEg hFg bY2 I2
        rw [wpPlan_takes_nil, wpPlan_one]
        simp only [nth_zero, nth_succ]
        go_wp2_with ((with_reducible refine gate_build ?_); refine wpList_build_run 25 1 #[(0, .tmp 40)] rfl rfl [(0, _)] _ rfl HS1.out ?_)
        refine planPost_mk ⟨⟨Y2, HRow.out _ B3.out⟩, rfl⟩ ?_
        rw [wpPlan_one]
        simp only [nth_zero, nth_succ]
        go_wp2_with (at_builtin; refine wpList_append_run (.tmp 31) (.tmp 41) 25 rfl rfl _ _ _ rfl rfl (HA.out _) ?_)
        refine planPost_mk ⟨⟨y3, KY.out⟩, rfl⟩ ?_
        repeat (rw [wpPlan_takes_cons]; simp only [nth_zero, nth_succ]; go_big_quiet_step (fail); refine wpQuiet_nil ?_)
        rw [wpPlan_takes_nil, wpPlan_leaf]
        simp only [List.drop_succ_cons, List.drop_zero]
        go_wp2_with fail
        exact ⟨⟨k + 1, t1, t2, t3, HLT.out, by simp, IP⟩, by have := HLT.out; simp [intOf]; omega⟩
      · obtain rfl : k = qsn := by omega
        have HE : Hid (l.take k = l) := List.take_of_length_le (by rw [HSL.out]; exact Nat.le_refl _)
        rw [HE.out] at HI
        obtain ⟨z, hST, hRz, hgz⟩ := store_stC ⟨(x, n, c), (sx, sn, sc), nx, kd, id, (y, m, e)⟩ HI.out.g1 rfl
        have LS := load_stC HI.out.ge
        have HLD := Lib.hid (load_stC hRz)
        have FO : Hid (StO B z ⟨(x, n, c), (sx, sn, sc), nx, kd, id, (y, m, e)⟩ d l ps) := (StO.low (N := B + 2) ⟨HI.out.dd, HI.out.ss, HI.out.pr⟩ hgz (fun j e => by cases e; omega)).weak (by omega)
        have FB : Hid (Below B w z) := HI.out.be.grown hgz (by have := HI.out.n3; have := HI.out.n4; omega) (fun j e => by cases e; omega)
        simp only [stV, stL, slV] at hST LS HLD ⊢
        clear hRz hgz hlt
        go_wp2_with fail
        refine bodyPost_ret (results_cell rfl rfl HLD.out) rfl ?_
        rw [HSZ.out]
        exact ⟨⟨(x, n, c), (sx, sn, sc), nx, kd, id, (y, m, e)⟩, rfl, rfl, rfl, rfl, FO.out, FB.out⟩
end Go.Proofs.YtajamblkjmafmaaGreat

/- math/bits.Mul: its contract, laid at this seat. -/
namespace Go.Proofs.YtajamblkjmafmaaGreat
open Go.Shelf
open Go.RowKit Go.Lib in
def mulLaid_ren : Go.Shelf.Ren := ⟨fun | 212 => 75 | 263 => 105 | 264 => 106 | n => n, fun | 46 => 91 | 51 => 136 | 146 => 137 | 53 => 63 | 148 => 139 | n => n, fun | n => n⟩
set_option maxRecDepth 100000 in
theorem mulLaid : Go.Proofs.Lays.n212 Tryz.prog mulLaid_ren := {
  mixed := by kernel_rfl
  f212 := Tryz.func75.trans (congrArg some (by kernel_rfl))
  f263 := Tryz.func105.trans (congrArg some (by kernel_rfl))
  f264 := Tryz.func106.trans (congrArg some (by kernel_rfl))
  t46 := Tryz.underlying91
  a46 := Tryz.isAgg91
  z46 := Tryz.sizeOf91
  v46 := Tryz.zeroValue91
  t51 := Tryz.underlying136
  a51 := Tryz.isAgg136
  z51 := Tryz.sizeOf136
  v51 := Tryz.zeroValue136
  t53 := Tryz.underlying63
  a53 := Tryz.isAgg63
  z53 := Tryz.sizeOf63
  v53 := Tryz.zeroValue63
  t146 := Tryz.underlying137
  a146 := Tryz.isAgg137
  z146 := Tryz.sizeOf137
  v146 := Tryz.zeroValue137
  t148 := Tryz.underlying139
  a148 := Tryz.isAgg139
  z148 := Tryz.sizeOf139
  v148 := Tryz.zeroValue139 }
open Go.RowKit Go.Lib in
set_option maxRecDepth 100000 in
theorem laid_bits_Mul (x y : Nat) (hx : x < 18446744073709551616) (hy : y < 18446744073709551616) (w : World) :
    Calls Tryz.prog 75 #[.int .u64 x, .int .u64 y] w fun e w' => e = .returned (.tuple #[.int .u64 ((x * y / 18446744073709551616 : Nat) : Int), .int .u64 ((x * y % 18446744073709551616 : Nat) : Int)]) ∧ w' = w := Any.bits_Mul mulLaid x y hx hy w
end Go.Proofs.YtajamblkjmafmaaGreat

/- slices.Repeat of one number; the program's First. -/
namespace Go.Proofs.YtajamblkjmafmaaGreat
open Go.RowKit Go.Shelf Go.Lib
set_option linter.unusedVariables false
set_option linter.unusedSimpArgs false
/-- So many numbers of one sort, and zeros behind. -/
def rpL (z : Int) (k n : Nat) : List Value := List.replicate k (.int .i64 z) ++ List.replicate (n - k) (.int .i64 0)
theorem rpL_zero (z : Int) (n : Nat) : rpL z 0 n = List.replicate n (.int .i64 0) := by unfold rpL; simp
theorem rpL_len (z : Int) {k n : Nat} (h : k ≤ n) : (rpL z k n).length = n := by unfold rpL; simp; omega
theorem rpL_full (z : Int) (n : Nat) : rpL z n n = (List.replicate n z).map (Value.int .i64) := by unfold rpL; simp
theorem rpL_get (z : Int) {k n j : Nat} (h : j < k) : (rpL z k n)[j]? = some (.int .i64 z) := by
  unfold rpL
  rw [List.getElem?_append_left (by simpa using h), List.getElem?_replicate, if_pos h]
theorem rpL_next (z : Int) {k m n : Nat} (h : k + m ≤ n) : (rpL z k n).take k ++ List.replicate m (Value.int .i64 z) ++ (rpL z k n).drop (k + m) = rpL z (k + m) n := by
  unfold rpL
  rw [List.take_append_of_le_length (by simp), List.take_of_length_le (by simp)]
  rw [List.drop_append, List.drop_of_length_le (by simp), List.nil_append, List.length_replicate, List.drop_replicate, List.replicate_append_replicate, show n - k - (k + m - k) = n - (k + m) by omega]
set_option maxRecDepth 100000 in
theorem run_mk_ints (n : Nat) (hn : n ≤ 1000) (w : World) : (Instr.makeSlice 24 (.int .i64 (n : Int)) (.int .i64 (n : Int))).run Tryz.prog w = .ok (.slice (some ⟨w.heap.size, 0, none⟩) n n) (w.alloc (.cells (rpL 0 0 n).toArray 3)) := by
  obtain ⟨i0, hi, hz0, hz1, hz2⟩ := info_parts info_intT
  have hr := run_make (P := Tryz.prog) w 24 3 i0 (.int .i64 0) Tryz.underlying24 hi hz0 .i64 .i64 (n : Int) (n : Int) (by omega) (by omega) (by rw [hz2]; omega) (by omega)
  have e : madeCells (Value.int .i64 0).cells ((n : Int).toNat * i0.size) = (rpL 0 0 n).toArray := by
    apply Array.toList_inj.1
    rw [show (Value.int .i64 0).cells = #[.int .i64 0] from rfl, toList_madeCells_one, rpL_zero, hz1]
    simp
  rw [hr, e]
  simp
theorem rpL_any (z z' : Int) (n : Nat) : rpL z 0 n = rpL z' 0 n := by unfold rpL; simp
set_option maxRecDepth 100000 in
set_option maxHeartbeats 4000000 in
/-- **Repeat** of one number. -/
theorem sg_repeat {w : World} (E n : Nat) (z : Int) (hn1 : 1 ≤ n) (hn2 : n ≤ 1000) (hE : RowC w E 3 [.int .i64 z]) :
    Calls Tryz.prog 39 #[.slice (some ⟨E, 0, none⟩) 1 1, .int .i64 (n : Int)] w fun e w' => e = .returned (.slice (some ⟨w.heap.size, 0, none⟩) n n) ∧ RowC w' w.heap.size 3 (rpL z n n) ∧ Below w.heap.size w w' := by
  have hmx : Tryz.prog.follows .mixedOrders = true := by kernel_rfl
  have HMU : Hid (∀ x : World, Calls Tryz.prog 75 #[.int .u64 1, .int .u64 (n : Int)] x fun e w' => e = .returned (.tuple #[.int .u64 0, .int .u64 (n : Int)]) ∧ w' = x) := fun x => by
    have h := laid_bits_Mul 1 n (by omega) (by omega) x
    rw [show 1 * n / 18446744073709551616 = 0 by omega, show 1 * n % 18446744073709551616 = n by omega] at h
    exact h
  obtain ⟨D, hD⟩ : ∃ D, w.heap.size = D := ⟨_, rfl⟩
  have HSZ := Lib.hid hD
  obtain ⟨W, hW⟩ : ∃ W, w.alloc (.cells (rpL 0 0 n).toArray 3) = W := ⟨_, rfl⟩
  have MK := run_mk_ints n hn2 w
  rw [hW, hD] at MK
  have bW : Below D w W := by rw [← hW, ← hD]; exact below_new _ _
  have rW : RowC W D 3 (rpL z 0 n) := by rw [← hW, ← hD, rpL_any z 0 n]; exact RowC.new _ _ _
  have hEW := hE.below (by rw [hD]; exact bW)
  have hsz1 : (Tryz.prog.info? 3).map (·.size) = some 1 := by kernel_rfl
  have cp : ∀ (x : World) (k m : Nat) (a : Addr) (dc sl sc : Nat), RowC x D 3 (rpL z k n) → k + m ≤ n → m = Nat.min sl (n - k) → (∀ j, j < m → x.cell? (a.add j) = some (.int .i64 z)) →
      ∃ y, (∀ ty, (Builtin.copy_ #[24, 24] ty #[.slice (some ⟨D, k, none⟩) (n - k) dc, .slice (some a) sl sc]).run Tryz.prog x = .ok (.int .i64 (m : Int)) y) ∧ RowC y D 3 (rpL z (k + m) n) ∧ x.grownBy y (some D) := by
    intro x k m a dc sl sc hx hkm hm hc
    refine ⟨x.setRow D (rpL z (k + m) n).toArray, fun ty => ?_, setRow_heap x D _ _ _ _ hx, ⟨rfl, rfl, rfl, by rw [setRow_size]; exact Nat.le_refl _, fun j _ hj => setRow_other x D j _ (fun e => hj (by rw [e]))⟩⟩
    have := run_copy_row (P := Tryz.prog) x 24 24 ty 3 D k (n - k) dc a sl sc (rpL z k n).toArray 3 (List.replicate m (Value.int .i64 z)) Tryz.underlying24 hsz1 hx (by simpa using hm) (fun j v hj => by
      have hjm : j < m := by have := (List.getElem?_eq_some_iff.1 hj).1; simpa using this
      rw [List.getElem?_replicate, if_pos hjm] at hj
      rw [← hj]
      exact hc j hjm) (by simp [rpL_len z (show k ≤ n by omega)]; omega) (fun v hv => by rw [(List.mem_replicate.1 hv).2]; rfl)
    rw [this, List.length_replicate, rpL_next z hkm]
    rfl
  obtain ⟨Y, CP0, rY, gY⟩ := cp W 0 1 ⟨E, 0, none⟩ n 1 1 rW (by omega) (Nat.min_eq_left (by omega)).symm (fun j hj => by
    have : j = 0 := by omega
    subst this
    exact hEW.cell 0 _ rfl)
  rw [Nat.sub_zero] at CP0
  have HCP : Hid (∀ (x : World) (k m : Nat) (a : Addr) (dc sl sc : Nat), RowC x D 3 (rpL z k n) → k + m ≤ n → m = Nat.min sl (n - k) → (∀ j, j < m → x.cell? (a.add j) = some (.int .i64 z)) →
      ∃ y, (∀ ty, (Builtin.copy_ #[24, 24] ty #[.slice (some ⟨D, k, none⟩) (n - k) dc, .slice (some a) sl sc]).run Tryz.prog x = .ok (.int .i64 (m : Int)) y) ∧ RowC y D 3 (rpL z (k + m) n) ∧ x.grownBy y (some D)) := cp
  have HBY : Hid (Below D w Y) := bW.grown gY (by rw [← hD]; exact bW.size |> fun h => by rw [hD] at h ⊢; exact h) (fun j e => by cases e; exact Nat.le_refl _)
  have HRY : Hid (RowC Y D 3 (rpL z 1 n)) := rY
  clear bW rW hEW rY gY cp hE hW hsz1
  go_enter Tryz.func39, Tryz.ntmps39
  go_wp2_with fail
  refine (HMU.out _).mono ?_
  rintro e x1 ⟨rfl, hx1⟩
  obtain rfl := hx1.symm
  go_wp2_with (at_make; refine wpList_make_run 24 _ _ rfl rfl _ _ _ rfl rfl MK ?_)
  clear MK CP0
  go_loopw [8] (fun kv wr => ∃ k : Nat, 1 ≤ k ∧ k ≤ n ∧ kv = .int .i64 (k : Int) ∧ Hid (RowC wr D 3 (rpL z k n)) ∧ Hid (Below D w wr)) (fun kv _ => n - (intOf kv).toNat)
  case atStart => exact ⟨1, Nat.le_refl _, hn1, rfl, HRY, HBY⟩
  case round =>
    obtain ⟨k, hk1, hk, rfl, HR, HB⟩ := hrel
    by_cases hlt : k < n
    · have q1 : (k : Int) < (n : Int) := by omega
      have HLT := Lib.hid hlt
      obtain ⟨m, hm⟩ : ∃ m, Nat.min k (n - k) = m := ⟨_, rfl⟩
      have hm1 : 1 ≤ m := by rw [← hm]; exact Nat.le_min.2 ⟨hk1, by omega⟩
      have hm2 : k + m ≤ n := by have := Nat.min_le_right k (n - k); rw [show min k (n - k) = Nat.min k (n - k) from rfl, hm] at this; omega
      have hm3 : m ≤ k := by have := Nat.min_le_left k (n - k); rw [show min k (n - k) = Nat.min k (n - k) from rfl, hm] at this; omega
      have rd : RowC wr.drew D 3 (rpL z k n) := HR.out.below (Below.refl _ wr).drew
      obtain ⟨Y2, CP, rY2, gY2⟩ := HCP.out wr.drew k m ⟨D, 0, none⟩ (n - k) k n rd hm2 hm.symm (fun j hj => by rw [add_plain, Nat.zero_add]; exact rd.cell j _ (rpL_get z (by omega)))
      have HR2 := Lib.hid rY2
      have HB2 : Hid (Below D w Y2) := HB.out.drew.grown gY2 (by have := HB.out.size; show D ≤ wr.heap.size; have := rd.lt; omega) (fun j e => by cases e; exact Nat.le_refl _)
      have hnk : 0 < n - k := by omega
      have g1 : ¬ n = k := by omega
      have HM := Lib.hid (And.intro hm1 hm2)
      have e1 : (n : Int) - (k : Int) = ((n - k : Nat) : Int) := by omega
      clear hm rd rY2 gY2 hlt HR HB hm3
      go_wp2_with fail
      refine region_plan (fun _ => True) 9 (.takes [0, 1, 2, 3, 4, 5, 6] (.one 7 (.takes [8] .leaf))) hmx (by kernel_rfl) (by intro c x v a w h; cases x <;> exact h) trivial ?_
      repeat (rw [wpPlan_takes_cons]; simp only [nth_zero, nth_succ]; go_big_quiet_step (fail); refine wpQuiet_nil ?_)
      rw [wpPlan_takes_nil, wpPlan_one]
      simp only [nth_zero, nth_succ]
      go_wp2_with fail
      refine planPost_mk trivial ?_
      repeat (rw [wpPlan_takes_cons]; simp only [nth_zero, nth_succ]; go_big_quiet_step (fail); refine wpQuiet_nil ?_)
      rw [wpPlan_takes_nil, wpPlan_leaf]
      simp only [List.drop_succ_cons, List.drop_zero]
      go_wp2_with fail
      have hmm := HM.out
      exact ⟨⟨k + m, by omega, by omega, by simp, HR2, HB2⟩, by simp [intOf]; omega⟩
    · obtain rfl : k = n := by omega
      clear hlt
      go_wp2_with fail
      go_ret
      exact ⟨by first | rfl | (rw [HSZ.out]; rfl), by first | exact HR.out | (rw [HSZ.out]; exact HR.out), by first | exact HB.out | (rw [HSZ.out]; exact HB.out)⟩

/-- A new row of numbers is one's own. -/
theorem row_ownsI {W : World} {base g : Nat} {zs : List Int} (h : RowC W g 3 (zs.map (Value.int .i64))) (hb : base ≤ g) (hm : zs.length ≤ maxLen) : InO base W (.slice (some ⟨g, 0, none⟩) zs.length zs.length) zs :=
  ⟨by simp, .inr ⟨g, zs.length, _, rfl, hb, h, Nat.le_refl _, hm, by simp, by rw [Nat.mul_one]; exact List.take_of_length_le (by simp)⟩⟩
attribute [-simp] Tryz.isAgg55 Tryz.zeroValue55 Tryz.isAgg57 Tryz.zeroValue57 Tryz.isAgg30 Tryz.zeroValue30
attribute [-go_sem] loadVar storeVar
set_option maxRecDepth 100000 in
theorem build_stF (x : Option Addr) (n c : Nat) (a : Int) (w : World) : (Instr.build 30 #[(0, .slice x n c), (2, .int .i64 a)]).run Tryz.prog w = .ok (.agg #[.slice x n c, .slice none 0 0, .int .i64 a, .int .i64 0, .int .i64 0, .slice none 0 0]) w := by kernel_rfl
attribute [local go_sem] loadVar_openQ storeVar_openQ zero_sn zero_prs zero_st build_st0 build_stF
set_option maxRecDepth 100000 in
set_option maxHeartbeats 4000000 in
/-- **First**. -/
theorem sg_first {w : World} (g : SG) (hg : g.Ok) (r : Int) (hi : (g.geo r).In) (hr : (g.geo r).good) :
    Calls Tryz.prog 13 #[.agg (g.v r)] w fun e w' => ∃ x n c, e = .returned (.tuple #[stV ⟨(x, n, c), (none, 0, 0), 1, 0, 0, (none, 0, 0)⟩, .int .i64 0]) ∧ InO w.heap.size w' (.slice x n c) (List.replicate g.slots (-1)) ∧ Below w.heap.size w w' := by
  have HG : Hid (∀ x : World, Calls Tryz.prog 32 #[.agg (g.v r)] x fun e w' => e = .returned (.bool true) ∧ Below x.heap.size x w') := fun x => (gmGood (g.geo r) hi x).mono fun e y hy => ⟨by rw [hy.1, decide_eq_true hr], hy.2⟩
  have HSC : Hid (∀ x : World, Calls Tryz.prog 40 #[.agg (g.v r)] x fun e w' => e = .returned (.int .i64 (g.slots : Int)) ∧ Below x.heap.size x w') := fun x => sg_slots g hg r x
  have hz1 : 1 ≤ g.slots := Nat.mul_le_mul hg.s1 hg.y1
  have hz32 : g.slots ≤ 32 := Nat.le_trans (Nat.mul_le_mul hg.s8 hg.y4) (by decide)
  obtain ⟨Z, hz⟩ : ∃ Z, g.slots = Z := ⟨_, rfl⟩
  rw [hz] at HSC hz1 hz32 ⊢
  obtain ⟨B, hB⟩ : ∃ B, w.heap.size = B := ⟨_, rfl⟩
  obtain ⟨W1, hW1⟩ : ∃ W, w.alloc (.cells (g.v r) 23) = W := ⟨_, rfl⟩
  obtain ⟨W2, hW2⟩ : ∃ W, W1.alloc (.cells #[.slice none 0 0, .slice none 0 0, .int .i64 0, .int .i64 0, .int .i64 0, .slice none 0 0] 30) = W := ⟨_, rfl⟩
  have s1 : W1.heap.size = B + 1 := by rw [← hW1, ← hB]; simp
  have s2 : W2.heap.size = B + 2 := by rw [← hW2, World.size_alloc, s1]
  have r1 : RowC W1 B 23 [.int .i64 (g.b : Int), .int .i64 (g.s : Int), .int .i64 (g.y : Int), .int .i64 (g.a : Int), .int .i64 r] := by rw [← hW1, ← hB]; exact RowC.new _ _ _
  have r2 : RowC W2 (B + 1) 30 (stL noQ) := by rw [← hW2, ← s1]; exact RowC.new _ _ _
  have b1 : Below B w W1 := by rw [← hW1, ← hB]; exact below_new _ _
  have b2 : Below W1.heap.size W1 W2 := by rw [← hW2]; exact below_new _ _
  have HB : Hid (Below B w W2) := b1.trans (b2.mono (by omega))
  have HR1 : Hid (RowC W2 B 23 [.int .i64 (g.b : Int), .int .i64 (g.s : Int), .int .i64 (g.y : Int), .int .i64 (g.a : Int), .int .i64 r]) := r1.below b2
  have HR2 := Lib.hid r2
  have HS2 := Lib.hid s2
  have HSZ := Lib.hid hB
  have t1 := HR1.out
  have k0 := t1.cell 0 _ rfl
  have k1 := t1.cell 1 _ rfl
  have k2 := t1.cell 2 _ rfl
  have k3 := t1.cell 3 _ rfl
  have k4 := t1.cell 4 _ rfl
  clear r1 b1 b2 t1 r2 hz hg hr hi
  unfold SG.v at *
  go_enter Tryz.func13, Tryz.ntmps13
  go_wp2_with fail
  refine (HG.out W2).mono ?_
  rintro e x1 ⟨rfl, hx1⟩
  obtain ⟨X, hX⟩ : ∃ X, x1.alloc (.cells #[.int .i64 (-1)] 3) = X := ⟨_, rfl⟩
  have bX : Below x1.heap.size x1 X := by rw [← hX]; exact below_new _ _
  have rX : RowC X x1.heap.size 3 [.int .i64 (-1)] := by rw [← hX]; exact RowC.new x1 _ _
  have H2 : Hid (Below W2.heap.size W2 X) := hx1.trans (bX.mono hx1.size)
  obtain ⟨D, hD⟩ : ∃ D, x1.heap.size = D := ⟨_, rfl⟩
  rw [hD] at rX
  have HRX := Lib.hid rX
  have t2 := HR1.out.below H2.out
  clear k0 k1 k2 k3 k4 hx1 bX rX
  have k0 := t2.cell 0 _ rfl
  have k1 := t2.cell 1 _ rfl
  have k2 := t2.cell 2 _ rfl
  have k3 := t2.cell 3 _ rfl
  have k4 := t2.cell 4 _ rfl
  go_wp2_with fail
  refine (HSC.out X).mono ?_
  rintro e x2 ⟨rfl, hx2⟩
  have H3 : Hid (Below W2.heap.size W2 x2) := H2.out.trans (hx2.mono H2.out.size)
  have HRE := Lib.hid (sg_repeat D Z (-1) hz1 (by omega) (HRX.out.below hx2))
  clear hx2 k0 k1 k2 k3 k4 t2 hX
  go_wp2_with fail
  refine HRE.out.mono ?_
  rintro e x3 ⟨rfl, hr3, hx3⟩
  obtain ⟨E, hE⟩ : ∃ E, x2.heap.size = E := ⟨_, rfl⟩
  have hEB : B + 2 ≤ E := by have := H3.out.size; have := HS2.out; omega
  rw [hE] at hr3
  have H4 : Below W2.heap.size W2 x3 := H3.out.trans (hx3.mono H3.out.size)
  obtain ⟨z, hS, hRz, hgz⟩ := store_stC ⟨(some ⟨E, 0, none⟩, Z, Z), (none, 0, 0), 1, 0, 0, (none, 0, 0)⟩ (HR2.out.below H4) rfl
  have HZ : Hid (Below B w z) := (HB.out.trans (H4.mono (by have := HS2.out; omega))).grown hgz (by have := H4.size; have := HS2.out; omega) (fun j e => by cases e; exact Nat.le_succ B)
  have HI : Hid (InO B z (.slice (some ⟨E, 0, none⟩) Z Z) (List.replicate Z (-1))) := by
    have := row_ownsI (base := B + 2) (zs := List.replicate Z (-1)) (by rw [← rpL_full]; exact hr3) hEB (by rw [List.length_replicate]; unfold maxLen; omega)
    rw [List.length_replicate] at this
    exact own_weak (World.ownsRow.kept this hgz (.inr (by show some E ≠ some (B + 1); simp; omega))) (by omega)
  have HLD := Lib.hid (load_stC hRz)
  simp only [stV, stL, slV] at hS HLD
  rw [hE]
  clear hRz hgz hr3 hx3 H4 HRE
  go_wp2_with fail
  exact bodyPost_ret (results_cell2 rfl rfl HLD.out) rfl ⟨_, _, _, rfl, by rw [HSZ.out]; exact HI.out, by rw [HSZ.out]; exact HZ.out⟩
end Go.Proofs.YtajamblkjmafmaaGreat

/- The statements' own trial, and which snapshots they ask of. -/
namespace Go.Proofs.YtajamblkjmafmaaGreat
open Go.RowKit Go.Shelf
set_option linter.unusedVariables false
set_option linter.unusedSimpArgs false
attribute [-simp] Tryz.isAgg55 Tryz.zeroValue55 Tryz.isAgg57 Tryz.zeroValue57
attribute [-go_sem] loadVar storeVar
attribute [local go_sem] loadVar_openPS storeVar_openPS zero_sn zero_prs build_prs build_sn build_sn2

/-! The trial's own three. -/
set_option maxRecDepth 100000 in
theorem slice_u81 (w : World) (x : Int) : (Instr.buildSlice 31 1 #[(0, .int .u8 x)]).run Tryz.prog w = .ok (.slice (some ⟨w.heap.size, 0, none⟩) 1 1) (w.alloc (.cells #[.int .u8 x] 5)) := by kernel_rfl
theorem own_u81 (w : World) (x : Int) : (w.alloc (.cells #[.int .u8 x] 5)).ownsRow w.heap.size 5 1 (.slice (some ⟨w.heap.size, 0, none⟩) 1 1) 1 [.int .u8 x] := World.ownsRow_lit w #[.int .u8 x] 1 (Nat.le_refl _) (by simp [maxLen]) rfl
theorem bytes_oneC (x : Int) (h : 0 ≤ x ∧ x < 256) : IsBytes [x] := fun j => by
  match j with
  | 0 => exact h
  | j + 1 => simp

end Go.Proofs.YtajamblkjmafmaaGreat

/- One part of a state turned: the bytes of that part alone; no program is named. -/
namespace Go.Proofs.YtajamblkjmafmaaGreat
set_option linter.unusedVariables false

/-- Two rows of bytes that differ between these places, and nowhere else. -/
def OffAt (x y : List Int) (from_ to_ : Nat) : Prop := ∃ P V V' R : List Int, x = P ++ (V ++ R) ∧ y = P ++ (V' ++ R) ∧ P.length = from_ ∧ from_ + V.length = to_ ∧ V'.length = V.length
theorem OffAt.get {x y : List Int} {a b : Nat} (h : OffAt x y a b) {i : Nat} (hi : i < a ∨ b ≤ i) : x[i]? = y[i]? := by
  obtain ⟨P, V, V', R, rfl, rfl, h1, h2, h3⟩ := h
  rcases hi with hi | hi
  · rw [List.getElem?_append_left (by omega), List.getElem?_append_left (by omega)]
  · rw [List.getElem?_append_right (by omega), List.getElem?_append_right (by omega), List.getElem?_append_right (by omega), List.getElem?_append_right (by omega), h3]
/-- The next number. -/
theorem part_next {g : SG} {s : ST} (h : sGood g s = true) (hn : s.nx ≤ 1000000) (hk : s.kd = 0) :
    sGood g ⟨s.d, s.sn, s.nx + 1, s.kd, s.id, s.pr⟩ = true ∧ OffAt (sEnc g s) (sEnc g ⟨s.d, s.sn, s.nx + 1, s.kd, s.id, s.pr⟩) 0 4 := by
  constructor
  · unfold sGood at h ⊢
    simp only [Bool.and_eq_true, decide_eq_true_eq, List.all_eq_true] at h ⊢
    obtain ⟨⟨⟨⟨⟨h1, h2⟩, h3⟩, h4⟩, h5⟩, h6⟩ := h
    refine ⟨⟨⟨⟨⟨h1, h2⟩, by omega⟩, by omega⟩, fun t ht => by have := h5 t ht; omega⟩, ?_⟩
    unfold sPlan at h6 ⊢
    rw [if_pos hk] at h6 ⊢
    exact h6
  · exact ⟨[], putL s.nx 4, putL (s.nx + 1) 4, _, rfl, rfl, rfl, by rw [putL_length], by rw [putL_length, putL_length]⟩
theorem set_split {L : List Int} {j : Nat} (hj : j < L.length) (v : Int) : L.set j v = L.take j ++ ([v] ++ L.drop (j + 1)) := by
  rw [List.set_eq_take_append_cons_drop, if_pos hj]
  rfl
theorem self_split {L : List Int} {j : Nat} (hj : j < L.length) : L = L.take j ++ ([L[j]] ++ L.drop (j + 1)) := by
  conv => lhs; rw [← List.take_append_drop j L, List.drop_eq_getElem_cons hj]
  rfl
/-- A dirty slot. -/
theorem part_dirt {g : SG} {s : ST} (h : sGood g s = true) {k : Nat} (hk : k < s.d.length) (hx : 0 ≤ s.d[k]?.getD 0) :
    sGood g ⟨s.d.set k (-1), s.sn, s.nx, s.kd, s.id, s.pr⟩ = true ∧ OffAt (sEnc g s) (sEnc g ⟨s.d.set k (-1), s.sn, s.nx, s.kd, s.id, s.pr⟩) (10 + k) (11 + k) := by
  constructor
  · unfold sGood at h ⊢
    simp only [Bool.and_eq_true, decide_eq_true_eq, List.all_eq_true] at h ⊢
    obtain ⟨⟨⟨⟨⟨h1, h2⟩, h3⟩, h4⟩, h5⟩, h6⟩ := h
    refine ⟨⟨⟨⟨⟨?_, h2⟩, h3⟩, h4⟩, h5⟩, h6⟩
    unfold sDirty at h1 ⊢
    simp only [Bool.and_eq_true, decide_eq_true_eq, List.all_eq_true, List.length_set] at h1 ⊢
    refine ⟨h1.1, fun i hi => ?_⟩
    have hi2 := List.mem_range.1 hi
    have := h1.2 i hi
    unfold dirtAt at this ⊢
    rw [List.getElem?_set]
    by_cases e : k = i
    · rw [if_pos e, if_pos (by omega)]
      rfl
    · rw [if_neg e]
      simp only [Bool.or_eq_true, Bool.and_eq_true, beq_iff_eq, decide_eq_true_eq, Bool.not_eq_true', List.contains_eq_mem, decide_eq_false_iff_not] at this ⊢
      rcases this with this | ⟨⟨⟨a1, a2⟩, a3⟩, a4⟩
      · exact .inl this
      · refine .inr ⟨⟨⟨a1, a2⟩, a3⟩, fun hm => ?_⟩
        obtain ⟨j, hj⟩ := List.getElem?_of_mem hm
        rw [List.getElem?_take] at hj
        split at hj
        · rename_i hji
          rw [List.getElem?_set] at hj
          split at hj
          · have e2 := Option.some.inj hj
            omega
          · exact a4 (List.mem_of_getElem? (by rw [List.getElem?_take, if_pos hji]; exact hj))
        · cases hj
  · obtain ⟨d, sn, nx, kd, id, pr⟩ := s
    have hk' : k < d.length := hk
    have hkm : k < (d.map (· + 1)).length := by rw [List.length_map]; exact hk'
    have e1 : (d.set k (-1)).map (· + 1) = (d.map (· + 1)).set k 0 := by rw [List.map_set]; rfl
    refine ⟨putL nx 4 ++ ([(sn.length : Int), kd] ++ (putL id 4 ++ (d.map (· + 1)).take k)), [(d.map (· + 1))[k]], [0], (d.map (· + 1)).drop (k + 1) ++ ((sSnaps g sn).flatten ++ sPlaces g.b pr), ?_, ?_, ?_, ?_, rfl⟩
    · unfold sEnc
      show putL nx 4 ++ ([(sn.length : Int), kd] ++ (putL id 4 ++ (d.map (· + 1) ++ ((sSnaps g sn).flatten ++ sPlaces g.b pr)))) = _
      conv => lhs; rw [self_split hkm]
      simp only [List.append_assoc]
    · unfold sEnc
      show putL nx 4 ++ ([(sn.length : Int), kd] ++ (putL id 4 ++ ((d.set k (-1)).map (· + 1) ++ ((sSnaps g sn).flatten ++ sPlaces g.b pr)))) = _
      rw [e1, set_split hkm]
      simp only [List.append_assoc]
    · simp only [List.length_append, putL_length, List.length_cons, List.length_nil, List.length_take, List.length_map]
      omega
    · simp only [List.length_cons, List.length_nil]; omega
theorem places_tail {b : Nat} {p : Int × Int} {l : List (Int × Int)} (ha : Asc (p :: l)) (hr : ∀ q ∈ p :: l, 0 ≤ q.1 ∧ q.1 < (b : Int)) :
    sPlaces b (p :: l) = (sPlaces b l).set p.1.toNat (plV p.2) ∧ (sPlaces b l)[p.1.toNat]? = some 0 := by
  obtain ⟨a1, a2⟩ := List.pairwise_cons.1 ha
  have hp := hr p (List.mem_cons_self ..)
  have hr2 : ∀ q ∈ l, 0 ≤ q.1 ∧ q.1 < (b : Int) := fun q hq => hr q (List.mem_cons_of_mem _ hq)
  have hpb : p.1.toNat < b := by omega
  have hz := (places_get a2 hr2 hpb).2 fun q hq e => by have := a1 q hq; omega
  refine ⟨?_, hz⟩
  apply List.ext_getElem?
  intro j
  rw [List.getElem?_set]
  by_cases hj : j < b
  · obtain ⟨c1, c2⟩ := places_get ha hr hj
    obtain ⟨d1, d2⟩ := places_get a2 hr2 hj
    by_cases e : p.1.toNat = j
    · rw [if_pos e, if_pos (by rw [places_len]; exact hpb)]
      exact c1 p (List.mem_cons_self ..) (by omega)
    · rw [if_neg e]
      by_cases hq : ∃ q ∈ l, q.1 = (j : Int)
      · obtain ⟨q, hq, e2⟩ := hq
        rw [c1 q (List.mem_cons_of_mem _ hq) e2, d1 q hq e2]
      · rw [c2 (fun q hq2 e2 => by
          rcases List.mem_cons.1 hq2 with e3 | e3
          · subst e3; omega
          · exact hq ⟨q, e3, e2⟩), d2 (fun q hq2 e2 => hq ⟨q, hq2, e2⟩)]
  · rw [List.getElem?_eq_none (by rw [places_len]; omega), if_neg (by omega), List.getElem?_eq_none (by rw [places_len]; omega)]
/-- The least block of the last table. -/
theorem part_table {g : SG} (hg : g.Ok) {d : List Int} {l : List SN} {x : SN} {p : Int × Int} {tb : List (Int × Int)} {nx id : Int} {pr : List (Int × Int)} (hx : x.tb = p :: tb)
    (h : sGood g ⟨d, l ++ [x], nx, 0, id, pr⟩ = true) :
    sGood g ⟨d, l ++ [⟨x.id, x.ch, tb⟩], nx, 0, id, pr⟩ = true ∧
    OffAt (sEnc g ⟨d, l ++ [x], nx, 0, id, pr⟩) (sEnc g ⟨d, l ++ [⟨x.id, x.ch, tb⟩], nx, 0, id, pr⟩) (10 + g.slots + l.length * g.step + 4 + g.n9 + p.1.toNat) (10 + g.slots + l.length * g.step + 4 + g.n9 + p.1.toNat + 1) := by
  have hin := good_in hg h
  obtain ⟨xid, ch, xtb⟩ := x
  subst hx
  constructor
  · unfold sGood at h ⊢
    simp only [Bool.and_eq_true, decide_eq_true_eq, List.all_eq_true] at h ⊢
    obtain ⟨⟨⟨⟨⟨h1, h2⟩, h3⟩, h4⟩, h5⟩, h6⟩ := h
    refine ⟨⟨⟨⟨⟨h1, ?_⟩, h3⟩, h4⟩, fun t ht => ?_⟩, ?_⟩
    · obtain ⟨k1, k2, k3, k4, k5⟩ := (good_iff _ _ _).1 h2
      refine (good_iff _ _ _).2 ⟨by simpa using k1, fun t ht => ?_, ?_, ?_, ?_⟩
      · rcases List.mem_append.1 ht with ht | ht
        · exact k2 t (List.mem_append_left _ ht)
        · obtain rfl := List.mem_singleton.1 ht
          obtain ⟨a1, a2, a3⟩ := k2 ⟨xid, ch, p :: tb⟩ (by simp)
          refine ⟨a1, a2, (fit_iff _ _ _).2 ?_⟩
          obtain ⟨b1, b2, b3⟩ := (fit_iff _ _ _).1 a3
          obtain ⟨c1, c2, c3⟩ := (tGood_iff _ _ _).1 b2
          exact ⟨b1, (tGood_iff _ _ _).2 ⟨fun q hq => c1 q (List.mem_cons_of_mem _ hq), (List.pairwise_cons.1 c2).2, fun q hq r hr e => c3 q (List.mem_cons_of_mem _ hq) r (List.mem_cons_of_mem _ hr) e⟩, fun q hq => b3 q (List.mem_cons_of_mem _ hq)⟩
      · rw [List.pairwise_append] at k3 ⊢
        exact ⟨k3.1, by simp, fun a ha b hb => by
          obtain rfl := List.mem_singleton.1 hb
          exact k3.2.2 a ha ⟨xid, ch, p :: tb⟩ (by simp)⟩
      · rw [List.dropLast_concat] at k4 ⊢
        exact k4
      · rw [cAts_append] at k5 ⊢
        refine k5.sublist (List.Sublist.append (List.Sublist.refl _) ?_)
        unfold cAts
        simp
    · rcases List.mem_append.1 ht with ht | ht
      · exact h5 t (List.mem_append_left _ ht)
      · obtain rfl := List.mem_singleton.1 ht
        exact h5 ⟨xid, ch, p :: tb⟩ (by simp)
    · unfold sPlan at h6 ⊢
      exact h6
  · have hl8 : l.length < 8 := by have := hin.sl; simp at this; omega
    have hx := hin.sn ⟨xid, ch, p :: tb⟩ (by simp)
    obtain ⟨e1, e2⟩ := places_tail hx.tb.asc hx.tb.rng
    have hp := hx.tb.rng p (List.mem_cons_self ..)
    have hpl : p.1.toNat < (sPlaces g.b tb).length := by rw [places_len]; omega
    have hp0 : (sPlaces g.b tb)[p.1.toNat] = 0 := by rw [List.getElem?_eq_getElem hpl] at e2; exact Option.some.inj e2
    have hS : ∀ y : SN, sSnaps g (l ++ [y]) = (l.map (sSnapB g)) ++ ([sSnapB g y] ++ List.replicate (7 - l.length) (sSnapB g (noS g))) := fun y => by
      apply List.ext_getElem?
      intro i
      unfold sSnaps
      rw [List.getElem?_map]
      by_cases hi : i < 8
      · rw [List.getElem?_range hi]
        show some (sSnapB g ((l ++ [y])[i]?.getD (noS g))) = _
        by_cases h1 : i < l.length
        · rw [List.getElem?_append_left h1, List.getElem?_append_left (by rw [List.length_map]; exact h1), List.getElem?_map, List.getElem?_eq_getElem h1]
          rfl
        · rw [List.getElem?_append_right (by omega), List.getElem?_append_right (by rw [List.length_map]; omega), List.length_map]
          by_cases h2 : i = l.length
          · rw [h2, Nat.sub_self]; rfl
          · obtain ⟨q, hq⟩ : ∃ q, i - l.length = q + 1 := ⟨i - l.length - 1, by omega⟩
            rw [hq]
            simp only [List.cons_append, List.nil_append, List.getElem?_cons_succ, List.getElem?_nil, List.getElem?_replicate]
            rw [if_pos (by omega)]
            rfl
      · rw [List.getElem?_eq_none (by simp; omega), List.getElem?_eq_none (by simp; omega)]
        rfl
    obtain ⟨A, hA⟩ : ∃ A, putL nx 4 ++ ([((l ++ [(⟨xid, ch, tb⟩ : SN)]).length : Int), 0] ++ (putL id 4 ++ d.map (· + 1))) = A := ⟨_, rfl⟩
    have hAl : A.length = 10 + g.slots := by
      rw [← hA]
      have := hin.dl
      simp only at this
      simp only [List.length_append, putL_length, List.length_cons, List.length_nil, List.length_map, this]
      omega
    have hfl : (l.map (sSnapB g)).flatten.length = l.length * g.step := by
      rw [flat_len _ (fun y hy => ?_), List.length_map]
      obtain ⟨t, ht, rfl⟩ := List.mem_map.1 hy
      exact snapB_len (hin.sn t (by simp [ht])).ch
    refine ⟨A ++ ((l.map (sSnapB g)).flatten ++ (putL xid 4 ++ (ch ++ (sPlaces g.b tb).take p.1.toNat))), [plV p.2], [0], (sPlaces g.b tb).drop (p.1.toNat + 1) ++ ((List.replicate (7 - l.length) (sSnapB g (noS g))).flatten ++ sPlaces g.b pr), ?_, ?_, ?_, (by rw [List.length_singleton]), (by rw [List.length_singleton, List.length_singleton])⟩
    · have e0 : sEnc g ⟨d, l ++ [⟨xid, ch, p :: tb⟩], nx, 0, id, pr⟩ = putL nx 4 ++ ([((l ++ [(⟨xid, ch, p :: tb⟩ : SN)]).length : Int), 0] ++ (putL id 4 ++ (d.map (· + 1) ++ ((sSnaps g (l ++ [⟨xid, ch, p :: tb⟩])).flatten ++ sPlaces g.b pr)))) := rfl
      rw [e0, hS, ← hA]
      have e3 : sSnapB g ⟨xid, ch, p :: tb⟩ = putL xid 4 ++ (ch ++ ((sPlaces g.b tb).take p.1.toNat ++ ([plV p.2] ++ (sPlaces g.b tb).drop (p.1.toNat + 1)))) := by
        unfold sSnapB
        rw [← set_split hpl, ← e1]
      rw [e3]
      simp only [List.flatten_append, List.flatten_cons, List.flatten_nil, List.append_assoc, List.append_nil, List.length_append, List.length_cons, List.length_nil]
    · have e0 : sEnc g ⟨d, l ++ [⟨xid, ch, tb⟩], nx, 0, id, pr⟩ = putL nx 4 ++ ([((l ++ [(⟨xid, ch, tb⟩ : SN)]).length : Int), 0] ++ (putL id 4 ++ (d.map (· + 1) ++ ((sSnaps g (l ++ [⟨xid, ch, tb⟩])).flatten ++ sPlaces g.b pr)))) := rfl
      rw [e0, hS, ← hA]
      have e3 : sSnapB g ⟨xid, ch, tb⟩ = putL xid 4 ++ (ch ++ ((sPlaces g.b tb).take p.1.toNat ++ ([0] ++ (sPlaces g.b tb).drop (p.1.toNat + 1)))) := by
        unfold sSnapB
        rw [← hp0, ← self_split hpl]
      rw [e3]
      simp only [List.flatten_append, List.flatten_cons, List.flatten_nil, List.append_assoc, List.append_nil]
    · have hc := hx.ch
      simp only at hc
      simp only [List.length_append, hAl, hfl, putL_length, hc, List.length_take, places_len]
      omega
end Go.Proofs.YtajamblkjmafmaaGreat

/- The guard that every statement on states ends with. -/
namespace Go.Proofs.YtajamblkjmafmaaGreat
open Go.RowKit Go.Shelf Go.Lib
set_option linter.unusedVariables false
set_option linter.unusedSimpArgs false
attribute [-simp] Tryz.isAgg23 Tryz.zeroValue23 Tryz.isAgg55 Tryz.zeroValue55 Tryz.isAgg57 Tryz.zeroValue57 Tryz.isAgg30 Tryz.zeroValue30
attribute [-go_sem] loadVar storeVar
theorem loadVar_openW (t : TypeId) (h : t ≠ 55) (h' : t ≠ 57) (h'' : t ≠ 30) (h3 : t ≠ 23) (a : Addr) : loadVar t a = (do if ← isAgg t then pure (.agg (← loadCells a (← sizeOf t))) else load a) := rfl
theorem storeVar_openW (t : TypeId) (h : t ≠ 55) (h' : t ≠ 57) (h'' : t ≠ 30) (h3 : t ≠ 23) (a : Addr) (v : Value) : storeVar t a v = (do
    if v.cells.size ≠ (← sizeOf t) then stuck "storeVar: the value has not the size of the variable"
    storeCells a v.cells.toList) := rfl
set_option maxRecDepth 100000 in
theorem zero_geoW (w : World) : (zeroValue 23).run Tryz.prog w = .ok (.agg (Geo.mk 0 0 0 0 0).v) w := by kernel_rfl
def gW : Geo := ⟨8, 2, 2, 4, 12⟩
def sW : SG := ⟨8, 2, 2, 4⟩
def tW : ST := ⟨[2, -1, -1, 5], [⟨1, [4], [(2, 3)]⟩], 2, 0, 0, []⟩
set_option maxRecDepth 100000 in
theorem build_gW (w : World) : (Instr.build 23 #[(0, .int .i64 8), (1, .int .i64 2), (2, .int .i64 2), (3, .int .i64 4), (4, .int .i64 12)]).run Tryz.prog w = .ok (.agg gW.v) w := by kernel_rfl
theorem setW : ((((((Geo.mk 0 0 0 0 0).v.setIfInBounds 0 (.int .i64 8)).setIfInBounds 1 (.int .i64 2)).setIfInBounds 2 (.int .i64 2)).setIfInBounds 3 (.int .i64 4)).setIfInBounds 4 (.int .i64 12)) = gW.v := rfl
set_option maxRecDepth 100000 in
theorem size_geoW : (Tryz.prog.info? 23).map (·.size) = some 5 := by kernel_rfl
set_option maxRecDepth 100000 in
theorem new_geoW (x : World) (g : Geo) : (storeVar 23 ⟨x.heap.size, 0, none⟩ (.agg g.v)).run Tryz.prog (x.alloc (.cells (Geo.mk 0 0 0 0 0).v 23)) = .ok () (x.alloc (.cells g.v 23)) :=
  run_storeVar_new x _ _ g.v size_geoW rfl (by kernel_rfl)
set_option maxRecDepth 100000 in
theorem slice_i4 (w : World) (a b c d : Int) : (Instr.buildSlice 24 4 #[(0, .int .i64 a), (1, .int .i64 b), (2, .int .i64 c), (3, .int .i64 d)]).run Tryz.prog w = .ok (.slice (some ⟨w.heap.size, 0, none⟩) 4 4) (w.alloc (.cells #[.int .i64 a, .int .i64 b, .int .i64 c, .int .i64 d] 3)) := by kernel_rfl
attribute [local go_sem] loadVar_openW storeVar_openW zero_geoW build_gW zero_sn zero_prs zero_st build_prs build_sn3
theorem gW_in : gW.In := by intro n hn; simp only [gW, List.mem_cons, List.mem_nil_iff, or_false] at hn; omega
theorem sW_ok : sW.Ok := ⟨by decide, by decide, by decide, by decide, by decide, by decide, by decide⟩
theorem gW_good : gW.good := by decide
theorem tW_good : sGood sW tW = true := by decide +kernel
theorem tW_enc : (sEnc sW tW).length = 126 ∧ (sEnc sW tW)[0]? = some 2 ∧ (sEnc sW tW)[4]? = some 1 ∧ (sEnc sW tW)[10]? = some 3 ∧ (sEnc sW tW)[13]? = some 6 ∧ (sEnc sW tW)[14]? = some 1 ∧ (sEnc sW tW)[18]? = some 4 ∧ (sEnc sW tW)[21]? = some 4 := by decide +kernel
theorem tW_byt : ∀ x ∈ sEnc sW tW, 0 ≤ x ∧ x < 256 := by decide +kernel
theorem tW_lens : Lens 1000 tW.sn := ⟨by decide, fun s hs => by
  simp [tW] at hs
  subst hs
  simp⟩
theorem snO_lit1 {N : Nat} {W : World} {q : SV} {s : SN} (hN : N ≤ W.heap.size) (hq : SnF N W q s) : SnO N (W.alloc (.cells (svL q).toArray 55)) (.slice (some ⟨W.heap.size, 0, none⟩) 1 1) [s] := by
  refine ⟨[q], rfl, World.ownsRow_lit W (svL q).toArray 1 hN (by simp [maxLen]) rfl, fun j q' s' a b => ?_⟩
  match j with
  | 0 => cases a; cases b; exact hq.below (below_new _ _)
  | j + 1 => simp at a
section
set_option maxRecDepth 100000
set_option maxHeartbeats 4000000
set_option maxRecDepth 100000 in
theorem lawSmallW (w : World) : Calls Tryz.prog 22 #[] w fun e w' => e = .returned (.agg gW.v) ∧ Below w.heap.size w w' := by
  have ST := new_geoW w gW
  obtain ⟨y, hy⟩ : ∃ y, w.alloc (.cells gW.v 23) = y := ⟨_, rfl⟩
  have hr : RowC y w.heap.size 23 gW.cs := by rw [← hy]; exact RowC.new _ _ _
  have hb : Below w.heap.size w y := by rw [← hy]; exact below_new _ _
  rw [hy, ← setW] at ST
  have L0 := load_geo hr
  clear hy
  go_enter Tryz.func22, Tryz.ntmps22
  go_wp2_with fail
  exact bodyPost_ret (results_cell rfl rfl L0) rfl ⟨rfl, hb⟩
set_option maxRecDepth 100000 in
/-- **The guard.** -/
theorem st_wakes (w : World) : Calls Tryz.prog 7 #[] w fun e w' => e = .returned (.bool true) ∧ Below w.heap.size w w' := by
  have HF : Hid (∀ z : World, Calls Tryz.prog 13 #[.agg gW.v] z fun e w' => ∃ x n c, e = .returned (.tuple #[stV ⟨(x, n, c), (none, 0, 0), 1, 0, 0, (none, 0, 0)⟩, .int .i64 0]) ∧ InO z.heap.size w' (.slice x n c) (List.replicate sW.slots (-1)) ∧ Below z.heap.size z w') := fun z => sg_first sW sW_ok 12 gW_in gW_good
  go_enter Tryz.func7, Tryz.ntmps7
  go_wp2_with fail
  refine (lawSmallW w).mono ?_
  rintro e x1 ⟨rfl, hb1⟩
  have ST1 := new_geoW x1 gW
  obtain ⟨y1, hy1⟩ : ∃ y, x1.alloc (.cells gW.v 23) = y := ⟨_, rfl⟩
  have r1 : RowC y1 x1.heap.size 23 gW.cs := by rw [← hy1]; exact RowC.new _ _ _
  have B1 : Hid (Below w.heap.size w y1) := hb1.trans (by rw [← hy1]; exact (below_new _ _).mono hb1.size)
  obtain ⟨G0, hG0⟩ : ∃ G, x1.heap.size = G := ⟨_, rfl⟩
  rw [hy1, hG0] at ST1
  rw [hG0] at r1
  have L1 := load_geo r1
  have R1 := Lib.hid r1
  clear hb1 hy1 r1
  go_wp2_with fail
  refine (HF.out y1).mono ?_
  rintro e x2 ⟨a0, n0, c0, rfl, -, hb2⟩
  have hg2 := R1.out.below hb2
  have ST2 := new_st x2 ⟨(a0, n0, c0), (none, 0, 0), 1, 0, 0, (none, 0, 0)⟩
  obtain ⟨y2, hy2⟩ : ∃ y, x2.alloc (.cells (stL ⟨(a0, n0, c0), (none, 0, 0), 1, 0, 0, (none, 0, 0)⟩).toArray 30) = y := ⟨_, rfl⟩
  have r2 : RowC y2 x2.heap.size 30 (stL ⟨(a0, n0, c0), (none, 0, 0), 1, 0, 0, (none, 0, 0)⟩) := by rw [← hy2]; exact RowC.new _ _ _
  have b2 : Below x2.heap.size x2 y2 := by rw [← hy2]; exact below_new _ _
  have hg2' := hg2.below b2
  obtain ⟨E, hE⟩ : ∃ G, x2.heap.size = G := ⟨_, rfl⟩
  have hGE : G0 < E := by rw [← hE]; exact hg2.lt
  have hwE : w.heap.size ≤ E := by rw [← hE]; exact Nat.le_trans B1.out.size hb2.size
  have B2 : Below w.heap.size w y2 := (B1.out.trans (hb2.mono B1.out.size)).trans (b2.mono (by rw [hE]; exact hwE))
  rw [hy2, hE] at ST2
  rw [hE] at r2
  -- the literals of the snapshot
  have S3 := slice_u81 y2 4
  obtain ⟨y3, hy3⟩ : ∃ y, y2.alloc (.cells #[.int .u8 4] 5) = y := ⟨_, rfl⟩
  have b3 : Below y2.heap.size y2 y3 := by rw [← hy3]; exact below_new _ _
  have o3 : y3.ownsRow y2.heap.size 5 1 (.slice (some ⟨y2.heap.size, 0, none⟩) 1 1) 1 [.int .u8 4] := by rw [← hy3]; exact own_u81 y2 4
  have S4 := slice_prs y3 2 3
  obtain ⟨y4, hy4⟩ : ∃ y, y3.alloc (.cells #[.int .i64 2, .int .i64 3] 57) = y := ⟨_, rfl⟩
  have b4 : Below y3.heap.size y3 y4 := by rw [← hy4]; exact below_new _ _
  have o4 : PrO y3.heap.size y4 (.slice (some ⟨y3.heap.size, 0, none⟩) 1 1) [(2, 3)] := by rw [← hy4]; exact PrO.one y3 (2, 3) ⟨by simp [Is64], by simp [Is64]⟩
  have S5 := slice_sn1 y4 (1, (some ⟨y2.heap.size, 0, none⟩, 1, 1), (some ⟨y3.heap.size, 0, none⟩, 1, 1))
  obtain ⟨y5, hy5⟩ : ∃ y, y4.alloc (.cells (svL (1, (some ⟨y2.heap.size, 0, none⟩, 1, 1), (some ⟨y3.heap.size, 0, none⟩, 1, 1))).toArray 55) = y := ⟨_, rfl⟩
  have b5 : Below y4.heap.size y4 y5 := by rw [← hy5]; exact below_new _ _
  have o5 : SnO y2.heap.size y5 (.slice (some ⟨y4.heap.size, 0, none⟩) 1 1) tW.sn := by rw [← hy5]; exact snO_lit1 (Nat.le_trans b3.size b4.size) ⟨rfl, own_belowT o3 b4, o4.weak b3.size, ⟨by simp [Is64], bytes_oneC 4 (by decide), o4.2⟩⟩
  have b25 : Below y2.heap.size y2 y5 := b3.trans ((b4.trans (b5.mono b4.size)).mono b3.size)
  obtain ⟨C1, hC1⟩ : ∃ C, y2.heap.size = C := ⟨_, rfl⟩
  obtain ⟨C2, hC2⟩ : ∃ C, y3.heap.size = C := ⟨_, rfl⟩
  obtain ⟨C3, hC3⟩ : ∃ C, y4.heap.size = C := ⟨_, rfl⟩
  rw [hy3, hC1] at S3
  rw [hy4, hC2] at S4
  rw [hy5, hC1, hC2, hC3] at S5
  rw [hC3] at o5
  have hEN : E < y2.heap.size := r2.lt
  have r2' := r2.below b25
  have f1 := r2'.frozen 1
  have e1 := r2'.cell 1 _ rfl
  have t6 := r2'.set 1 (.slice (some ⟨C3, 0, none⟩) 1 1)
  have f2 := t6.frozen 2
  have e2 := t6.cell 2 _ rfl
  have t7 := t6.set 2 (.int .i64 2)
  obtain ⟨y7, hy7⟩ : ∃ y, (y5.setCell ⟨E, 1, none⟩ (.slice (some ⟨C3, 0, none⟩) 1 1)).setCell ⟨E, 2, none⟩ (.int .i64 2) = y := ⟨_, rfl⟩
  have hEy5 := r2'.lt
  have g67 : y5.grownBy y7 (some E) := by rw [← hy7]; exact grown_trans (grownBy_setCellJ y5 E 1 _) (grownBy_setCellJ _ E 2 _)
  have o7 : SnO y2.heap.size y7 (.slice (some ⟨C3, 0, none⟩) 1 1) tW.sn := o5.low g67 (fun j e => by cases e; exact hEN)
  have g7 : RowC y7 G0 23 gW.cs := (hg2'.below b25).grown g67 (by simp; omega)
  have hsE : w.heap.size ≤ E := hwE
  have B7 : Below w.heap.size w y7 := (B2.trans (b25.mono (by have := B2.size; omega))).grown g67 (by have := B2.size; have := b25.size; omega) (fun j e => by cases e; exact hwE)
  rw [hy7] at t7
  have S8 := slice_int0 y7
  obtain ⟨y8, hy8⟩ : ∃ y, y7.alloc (.cells #[] 3) = y := ⟨_, rfl⟩
  have b8 : Below y7.heap.size y7 y8 := by rw [← hy8]; exact below_new _ _
  have o8 := own_int0 y7.heap.size y7 (Nat.le_refl _)
  have S9 := slice_i4 y8 2 (-1) (-1) 5
  obtain ⟨y9, hy9⟩ : ∃ y, y8.alloc (.cells #[.int .i64 2, .int .i64 (-1), .int .i64 (-1), .int .i64 5] 3) = y := ⟨_, rfl⟩
  have b9 : Below y8.heap.size y8 y9 := by rw [← hy9]; exact below_new _ _
  have r9 : RowC y9 y8.heap.size 3 (tW.d.map (Value.int .i64)) := by rw [← hy9]; exact RowC.new _ _ _
  have o9 : Sl .i64 y9 (.slice (some ⟨y8.heap.size, 0, none⟩) 4 4) tW.d := sl_numI (row_ownsI (base := 0) r9 (Nat.zero_le _) (by decide))
  rw [hy8] at S8 o8
  have b79 : Below y7.heap.size y7 y9 := b8.trans (b9.mono b8.size)
  obtain ⟨v, y10, hA, o10, g10⟩ := in_appendS (o8.below b9) o9 b79.size (by decide)
  obtain ⟨⟨va, vn, vc⟩, rfl, -⟩ := own_slV o10
  have b10 : Below y7.heap.size y7 y10 := b79.grown g10 b79.size (fun j e => by cases e; exact Nat.le_refl _)
  have t10 := t7.below b10
  have f3 := t10.frozen 0
  have e3 := t10.cell 0 _ rfl
  have t11 := t10.set 0 (slV (va, vn, vc))
  obtain ⟨D1, hD1⟩ : ∃ C, y7.heap.size = C := ⟨_, rfl⟩
  obtain ⟨D2, hD2⟩ : ∃ C, y8.heap.size = C := ⟨_, rfl⟩
  rw [hy9, hD2] at S9
  rw [hD1] at S8 hA
  rw [hD2] at hA
  obtain ⟨y11, hy11⟩ : ∃ y, y10.setCell ⟨E, 0, none⟩ (slV (va, vn, vc)) = y := ⟨_, rfl⟩
  rw [hy11] at t11
  have g11 : y10.grownBy y11 (some E) := by rw [← hy11]; exact grownBy_setCellJ y10 E 0 _
  have R11 : Hid (RowC y11 E 30 (stL ⟨(va, vn, vc), (some ⟨C3, 0, none⟩, 1, 1), 2, 0, 0, (none, 0, 0)⟩)) := t11
  have G11 : Hid (RowC y11 G0 23 gW.cs) := (g7.below b10).grown g11 (by simp; omega)
  have D11 : Hid (Sl .i64 y11 (.slice va vn vc) tW.d) := sl_numI (o10.low g11 (fun j e => by cases e; have := t7.lt; omega))
  have N11 : Hid (Snp y11 (.slice (some ⟨C3, 0, none⟩) 1 1) tW.sn) := ((o7.below b10).low g11 (fun j e => by cases e; exact hEN)).snp
  have B11 : Hid (Below w.heap.size w y11) := (B7.trans (b10.mono B7.size)).grown g11 (Nat.le_trans B7.size b10.size) (fun j e => by cases e; exact hwE)
  simp only [svV, stV, stL, slV] at ST2 S5 e1 e2 e3 hA hy11 ⊢
  clear b8 b9 b79 b10 t6 t7 t10 t11 o7 g7 o8 o9 o10 g10 g67 r9 hD1 hD2 hy8 hy9 B7 g11
  clear L1 hg2 b2 hy2 b3 o3 hy3 b4 o4 hy4 b5 hy5 ST1 o5 b25 hg2' r2' r2 hEy5 hsE hEN
  have HE : Hid (∀ z : World, Below y11.heap.size y11 z → Calls Tryz.prog 9 #[.agg gW.v, .agg #[.slice va vn vc, .slice (some ⟨C3, 0, none⟩) 1 1, .int .i64 2, .int .i64 0, .int .i64 0, .slice none 0 0]] z fun e w' => ∃ u c, e = .returned (.tuple #[u, .int .i64 c]) ∧ EncR sW tW z.heap.size w' u c ∧ Below z.heap.size z w') := fun z hz => sg_encode (q := ⟨(va, vn, vc), (some ⟨C3, 0, none⟩, 1, 1), 2, 0, 0, (none, 0, 0)⟩) sW sW_ok 12 gW_in gW_good (D11.out.below hz) (fun x hx => by simp [tW] at hx; rcases hx with rfl | rfl | rfl <;> simp [Is64]) ⟨N11.out.below hz, Prt.nil _⟩ tW_lens (by decide)
  have KG : Hid (∀ z : World, Below y11.heap.size y11 z → (loadVar 23 ⟨G0, 0, none⟩).run Tryz.prog z = .ok (.agg gW.v) z) := fun z hz => load_geo (G11.out.below hz)
  have KS : Hid (∀ z : World, Below y11.heap.size y11 z → (loadVar 30 ⟨E, 0, none⟩).run Tryz.prog z = .ok (.agg #[.slice va vn vc, .slice (some ⟨C3, 0, none⟩) 1 1, .int .i64 2, .int .i64 0, .int .i64 0, .slice none 0 0]) z) := fun z hz => load_stC (R11.out.below hz)
  have k1 := KG.out _ (Below.refl _ _)
  have k2 := KS.out _ (Below.refl _ _)
  go_wp2_with (first
    | (with_reducible refine gate_build ?_; first
      | refine wpList_build_run 31 1 _ rfl rfl [(0, .int .u8 4)] _ rfl S3 ?_
      | refine wpList_build_run 26 1 _ rfl rfl [(0, .agg #[.int .i64 2, .int .i64 3])] _ rfl S4 ?_
      | refine wpList_build_run 25 1 _ rfl rfl [(0, _)] _ rfl S5 ?_
      | refine wpList_build_run 24 0 _ rfl rfl [] _ rfl S8 ?_
      | refine wpList_build_run 24 4 _ rfl rfl [(0, _), (1, _), (2, _), (3, _)] _ rfl S9 ?_)
    | (at_builtin; refine wpList_append_run (.tmp 21) (.tmp 22) 24 rfl rfl _ _ _ rfl rfl (hA _) ?_))
  clear S3 S4 S5 S8 S9 hA ST2 f1 e1 f2 e2 f3 e3 hy7 hy11 hC1 hC2 hC3 hG0 hE
  refine (HE.out _ (Below.refl _ _)).mono ?_
  rintro e x3 ⟨u, c3, rfl, hEn, hb3⟩
  obtain ⟨rfl, ho⟩ := hEn.1 tW_good
  have hbs : Sl .u8 x3 u (sEnc sW tW) := Sl.of_owns ho
  obtain ⟨un, uc, rfl⟩ : ∃ g c, u = .slice (some ⟨g, 0, none⟩) 126 c := by
    rcases ho.2 with ⟨-, h⟩ | ⟨g, cap, cur, h, -⟩
    · rw [tW_enc.1] at h; cases h
    · rw [tW_enc.1] at h; exact ⟨g, cap, h⟩
  have KC : Hid (∀ z : World, Below x3.heap.size x3 z → z.cell? ⟨un, 0, none⟩ = some (.int .u8 2) ∧ z.cell? ⟨un, 4, none⟩ = some (.int .u8 1) ∧ z.cell? ⟨un, 10, none⟩ = some (.int .u8 3) ∧ z.cell? ⟨un, 13, none⟩ = some (.int .u8 6) ∧ z.cell? ⟨un, 14, none⟩ = some (.int .u8 1) ∧ z.cell? ⟨un, 18, none⟩ = some (.int .u8 4) ∧ z.cell? ⟨un, 21, none⟩ = some (.int .u8 4)) := fun z hz => by
    have h := own_belowT ho hz
    have key : ∀ (j : Nat) (b : Int), (sEnc sW tW)[j]? = some b → z.cell? ⟨un, j, none⟩ = some (.int .u8 b) := fun j b hj => by
      have := h.cells (g := un) rfl j (.int .u8 b) (by unfold u8s; rw [List.getElem?_map, hj]; rfl)
      rwa [Addr.add_mid, Nat.zero_add] at this
    obtain ⟨-, a1, a2, a3, a4, a5, a6, a7⟩ := tW_enc
    exact ⟨key _ _ a1, key _ _ a2, key _ _ a3, key _ _ a4, key _ _ a5, key _ _ a6, key _ _ a7⟩
  have B3 := Lib.hid hb3
  have HDC : Hid (∀ z : World, Below x3.heap.size x3 z → Calls Tryz.prog 11 #[.agg gW.v, .slice (some ⟨un, 0, none⟩) 126 uc] z fun e w' => ∃ q c, e = .returned (.tuple #[stV q, .int .i64 c]) ∧ DecR sW (sEnc sW tW) z.heap.size w' q c ∧ Below z.heap.size z w') := fun z hz => sg_decode sW sW_ok 12 gW_in gW_good (hbs.below hz) (fun j => by
    by_cases hj : j < (sEnc sW tW).length
    · rw [List.getElem?_eq_getElem hj]; exact tW_byt _ (List.getElem_mem hj)
    · rw [List.getElem?_eq_none (by omega)]; simp) (by rw [tW_enc.1]; decide)
  clear k1 k2 HE hEn hb3 ho hbs
  have k1 := KG.out _ B3.out
  go_wp2_with fail
  refine (HDC.out _ (Below.refl _ _)).mono ?_
  rintro e x4 ⟨⟨⟨q1, q2, q3⟩, ⟨q4, q5, q6⟩, nx, kd, id, ⟨q7, q8, q9⟩⟩, c4, rfl, hDc, hb4⟩
  unfold DecR at hDc
  rw [dec_enc sW_ok tW_good] at hDc
  obtain ⟨rfl, rfl, rfl, rfl, hd1, hs1, hp1⟩ := hDc
  have ST4 := new_st x4 ⟨(q1, q2, q3), (q4, q5, q6), tW.nx, tW.kd, tW.id, (q7, q8, q9)⟩
  obtain ⟨y12, hy12⟩ : ∃ y, x4.alloc (.cells (stL ⟨(q1, q2, q3), (q4, q5, q6), tW.nx, tW.kd, tW.id, (q7, q8, q9)⟩).toArray 30) = y := ⟨_, rfl⟩
  have r12 : RowC y12 x4.heap.size 30 (stL ⟨(q1, q2, q3), (q4, q5, q6), tW.nx, tW.kd, tW.id, (q7, q8, q9)⟩) := by rw [← hy12]; exact RowC.new _ _ _
  have b12 : Below x4.heap.size x4 y12 := by rw [← hy12]; exact below_new _ _
  obtain ⟨F, hF⟩ : ∃ G, x4.heap.size = G := ⟨_, rfl⟩
  rw [hy12, hF] at ST4
  rw [hF] at r12
  have B12 : Hid (Below x3.heap.size x3 y12) := hb4.trans (b12.mono hb4.size)
  have B12' : Hid (Below y11.heap.size y11 y12) := B3.out.trans (B12.out.mono B3.out.size)
  have ID : Hid (Sl .i64 y12 (.slice q1 q2 q3) tW.d) := sl_numI (hd1.below b12)
  have IS : Hid (StIs y12 ⟨(q1, q2, q3), (q4, q5, q6), tW.nx, tW.kd, tW.id, (q7, q8, q9)⟩ tW.sn tW.pr) := ⟨(hs1.below b12).snp, (hp1.below b12).prt⟩
  have KT : Hid (∀ z : World, Below y12.heap.size y12 z → (loadVar 30 ⟨F, 0, none⟩).run Tryz.prog z = .ok (.agg #[.slice q1 q2 q3, .slice q4 q5 q6, .int .i64 tW.nx, .int .i64 tW.kd, .int .i64 tW.id, .slice q7 q8 q9]) z) := fun z hz => load_stC (r12.below hz)
  have KB : Hid (∀ z : World, Calls Tryz.prog 21 #[.agg gW.v] z fun e w' => e = .returned (.int .i64 126) ∧ Below z.heap.size z w') := fun z => gmBytes gW gW_in z
  have HSM : Hid (∀ z : World, Below y12.heap.size y12 z → Calls Tryz.prog 20 #[.agg #[.slice va vn vc, .slice (some ⟨C3, 0, none⟩) 1 1, .int .i64 2, .int .i64 0, .int .i64 0, .slice none 0 0], .agg #[.slice q1 q2 q3, .slice q4 q5 q6, .int .i64 tW.nx, .int .i64 tW.kd, .int .i64 tW.id, .slice q7 q8 q9]] z fun e w' => e = .returned (.bool true) ∧ Below z.heap.size z w') := fun z hz =>
    (sg_same (q := ⟨(va, vn, vc), (some ⟨C3, 0, none⟩, 1, 1), 2, 0, 0, (none, 0, 0)⟩) (q' := ⟨(q1, q2, q3), (q4, q5, q6), tW.nx, tW.kd, tW.id, (q7, q8, q9)⟩) (D11.out.below (B12'.out.trans (hz.mono B12'.out.size))) (ID.out.below hz) ⟨N11.out.below (B12'.out.trans (hz.mono B12'.out.size)), Prt.nil _⟩ (IS.out.below hz) tW_lens (by decide) (by decide)).mono fun e y ⟨t, h1, h2, h3⟩ => ⟨by rw [h1, h2.2 rfl], h3⟩
  have HGD : Hid (∀ z : World, Below y12.heap.size y12 z → Calls Tryz.prog 15 #[.agg gW.v, .agg #[.slice q1 q2 q3, .slice q4 q5 q6, .int .i64 tW.nx, .int .i64 tW.kd, .int .i64 tW.id, .slice q7 q8 q9]] z fun e w' => e = .returned (.bool true) ∧ Below z.heap.size z w') := fun z hz =>
    (sg_good (q := ⟨(q1, q2, q3), (q4, q5, q6), tW.nx, tW.kd, tW.id, (q7, q8, q9)⟩) sW sW_ok 12 gW_in gW_good (ID.out.below hz) (fun x hx => by simp [tW] at hx; rcases hx with rfl | rfl | rfl <;> simp [Is64]) (IS.out.below hz) tW_lens (by decide)).mono fun e y ⟨h1, h2⟩ => ⟨by rw [h1]; exact congrArg (fun b => Ending.returned (.bool b)) tW_good, h2⟩
  have HCY : Hid (∀ z : World, Below y12.heap.size y12 z → Calls Tryz.prog 19 #[.agg #[.slice q1 q2 q3, .slice q4 q5 q6, .int .i64 tW.nx, .int .i64 tW.kd, .int .i64 tW.id, .slice q7 q8 q9]] z fun e w' => ∃ (p1 : Option Addr) (p2 p3 : Nat) (p4 : Option Addr) (p5 p6 : Nat) (p7 : Option Addr) (p8 p9 : Nat), e = .returned (.agg #[.slice p1 p2 p3, .slice p4 p5 p6, .int .i64 tW.nx, .int .i64 tW.kd, .int .i64 tW.id, .slice p7 p8 p9]) ∧ Below z.heap.size z w' ∧
      (∀ x : World, Below w'.heap.size w' x → Calls Tryz.prog 20 #[.agg #[.slice p1 p2 p3, .slice p4 p5 p6, .int .i64 tW.nx, .int .i64 tW.kd, .int .i64 tW.id, .slice p7 p8 p9], .agg #[.slice q1 q2 q3, .slice q4 q5 q6, .int .i64 tW.nx, .int .i64 tW.kd, .int .i64 tW.id, .slice q7 q8 q9]] x fun e w'' => e = .returned (.bool true) ∧ Below x.heap.size x w'')) := fun z hz =>
    (sg_copy (q := ⟨(q1, q2, q3), (q4, q5, q6), tW.nx, tW.kd, tW.id, (q7, q8, q9)⟩) (ID.out.below hz) (IS.out.below hz) tW_lens (by decide) (by decide)).mono fun e y ⟨q', h1, h2, h3, h4, h5, h6⟩ => by
      obtain ⟨⟨p1, p2, p3⟩, ⟨p4, p5, p6⟩, nx, kd, id, ⟨p7, p8, p9⟩⟩ := q'
      obtain rfl : nx = tW.nx := h2
      obtain rfl : kd = tW.kd := h3
      obtain rfl : id = tW.id := h4
      refine ⟨p1, p2, p3, p4, p5, p6, p7, p8, p9, h1, h6, fun x hx => ?_⟩
      have hzx : Below y12.heap.size y12 x := (hz.trans (h6.mono hz.size)).trans (hx.mono (Nat.le_trans hz.size h6.size))
      exact (sg_same (q := ⟨(p1, p2, p3), (p4, p5, p6), tW.nx, tW.kd, tW.id, (p7, p8, p9)⟩) (q' := ⟨(q1, q2, q3), (q4, q5, q6), tW.nx, tW.kd, tW.id, (q7, q8, q9)⟩) (h5.below hx).sl (ID.out.below hzx) (h5.below hx).is (IS.out.below hzx) tW_lens (by decide) (by decide)).mono fun e y ⟨t, h1, h2, h3⟩ => ⟨by rw [h1, h2.2 rfl], h3⟩
  have d0 : ∀ z : Ext y12, (loadVar 23 ⟨G0, 0, none⟩).run Tryz.prog z.1 = .ok (.agg gW.v) z.1 := fun z => KG.out _ (B12'.out.trans (z.2.mono B12'.out.size))
  have d1 : ∀ z : Ext y12, (loadVar 30 ⟨E, 0, none⟩).run Tryz.prog z.1 = .ok (.agg #[.slice va vn vc, .slice (some ⟨C3, 0, none⟩) 1 1, .int .i64 2, .int .i64 0, .int .i64 0, .slice none 0 0]) z.1 := fun z => KS.out _ (B12'.out.trans (z.2.mono B12'.out.size))
  have d2 : ∀ z : Ext y12, (loadVar 30 ⟨F, 0, none⟩).run Tryz.prog z.1 = .ok (.agg #[.slice q1 q2 q3, .slice q4 q5 q6, .int .i64 tW.nx, .int .i64 tW.kd, .int .i64 tW.id, .slice q7 q8 q9]) z.1 := fun z => KT.out _ z.2
  have dd : ∀ z : Ext y12, _ := fun z => KC.out z.1 (B12.out.trans (z.2.mono B12.out.size))
  have c0 := fun z => (dd z).1
  have c4 := fun z => (dd z).2.1
  have c10 := fun z => (dd z).2.2.1
  have c13 := fun z => (dd z).2.2.2.1
  have c14 := fun z => (dd z).2.2.2.2.1
  have c18 := fun z => (dd z).2.2.2.2.2.1
  have c21 := fun z => (dd z).2.2.2.2.2.2
  have KD : Hid (Below y12.heap.size y12 y12.drew) := (Below.refl _ y12).drew
  have BF : Hid (∀ z : World, Below y12.heap.size y12 z → Below w.heap.size w z) := fun z hz => (B11.out.trans (B12'.out.mono B11.out.size)).trans (hz.mono (Nat.le_trans B11.out.size B12'.out.size))
  have hmx : Tryz.prog.follows .mixedOrders = true := by kernel_rfl
  simp only [stV, stL, slV] at ST4 ⊢
  clear k1 hb4 hd1 hs1 hp1 r12 b12 hy12 HDC dd
  go_wp2_with fail
  clear ST4
  try simp only [List.append_eq, List.cons_append, List.nil_append]
  refine region_plan (fun x => ∃ z : Ext y12, x = z.1) 80 (.takes [0, 1, 2, 3, 4, 5, 6, 7, 8, 9] (.one 10 (.takes [11, 12, 13, 14, 15, 16, 17, 18, 19, 20, 21, 22, 23, 24, 25, 26, 27, 28, 29, 30, 31, 32, 33, 34, 35, 36, 37, 38, 39] (.takes [40, 41, 42, 43, 44, 45, 46, 47, 48, 49, 50, 51, 52, 53, 54, 55, 56, 57, 58, 59, 60, 61, 62, 63, 64, 65, 66] (.one 67 (.takes [68, 69, 70, 71] (.one 72 (.takes [73, 74, 75, 77] (.one 76 (.one 78 (.takes [79] .leaf))))))))))) hmx (by kernel_rfl) (by intro c x v a w h; cases x <;> exact h) ⟨⟨y12.drew, KD.out⟩, rfl⟩ ?_
  repeat (rw [wpPlan_takes_cons]; simp only [nth_zero, nth_succ]; go_big_quiet_step (fail); refine wpQuiet_nil ?_)
  rw [wpPlan_takes_nil, wpPlan_one]
  simp only [nth_zero, nth_succ]
  go_wp2_with fail
  refine (KB.out _).mono ?_
  rintro e x5 ⟨rfl, hb5⟩
  have B5 : Hid (Below y12.heap.size y12 x5) := KD.out.trans (hb5.mono KD.out.size)
  clear hb5
  go_wp2_with fail
  refine planPost_mk ⟨⟨x5, B5.out⟩, rfl⟩ ?_
  repeat (rw [wpPlan_takes_cons]; simp only [nth_zero, nth_succ]; go_big_quiet_step (fail); refine wpQuiet_nil ?_)
  rw [wpPlan_takes_nil]
  repeat (rw [wpPlan_takes_cons]; simp only [nth_zero, nth_succ]; go_big_quiet_step (fail); refine wpQuiet_nil ?_)
  rw [wpPlan_takes_nil, wpPlan_one]
  simp only [nth_zero, nth_succ]
  go_wp2_with fail
  refine (HSM.out _ B5.out).mono ?_
  rintro e x6 ⟨rfl, hb6⟩
  have B6 : Hid (Below y12.heap.size y12 x6) := B5.out.trans (hb6.mono B5.out.size)
  clear hb6
  go_wp2_with fail
  refine planPost_mk ⟨⟨x6, B6.out⟩, rfl⟩ ?_
  repeat (rw [wpPlan_takes_cons]; simp only [nth_zero, nth_succ]; go_big_quiet_step (fail); refine wpQuiet_nil ?_)
  rw [wpPlan_takes_nil, wpPlan_one]
  simp only [nth_zero, nth_succ]
  go_wp2_with fail
  refine (HGD.out _ B6.out).mono ?_
  rintro e x7 ⟨rfl, hb7⟩
  have B7 : Hid (Below y12.heap.size y12 x7) := B6.out.trans (hb7.mono B6.out.size)
  clear hb7
  go_wp2_with fail
  refine planPost_mk ⟨⟨x7, B7.out⟩, rfl⟩ ?_
  repeat (rw [wpPlan_takes_cons]; simp only [nth_zero, nth_succ]; go_big_quiet_step (fail); refine wpQuiet_nil ?_)
  rw [wpPlan_takes_nil, wpPlan_one]
  simp only [nth_zero, nth_succ]
  go_wp2_with fail
  refine (HCY.out _ B7.out).mono ?_
  rintro e x8 ⟨p1, p2, p3, p4, p5, p6, p7, p8, p9, rfl, hb8, hsm⟩
  have B8 : Hid (Below y12.heap.size y12 x8) := B7.out.trans (hb8.mono B7.out.size)
  have HS2 := Lib.hid (hsm x8 (Below.refl _ _))
  clear hb8 hsm
  go_wp2_with fail
  refine planPost_mk ⟨⟨x8, B8.out⟩, rfl⟩ ?_
  rw [wpPlan_one]
  simp only [nth_zero, nth_succ]
  go_wp2_with fail
  refine HS2.out.mono ?_
  rintro e x9 ⟨rfl, hb9⟩
  have B9 : Hid (Below y12.heap.size y12 x9) := B8.out.trans (hb9.mono B8.out.size)
  have HF9 := Lib.hid (BF.out _ B9.out)
  clear hb9
  go_wp2_with fail
  refine planPost_mk ⟨⟨x9, B9.out⟩, rfl⟩ ?_
  repeat (rw [wpPlan_takes_cons]; simp only [nth_zero, nth_succ]; go_big_quiet_step (fail); refine wpQuiet_nil ?_)
  rw [wpPlan_takes_nil, wpPlan_leaf]
  simp only [List.drop_succ_cons, List.drop_zero]
  go_wp2_with fail
  go_ret
  exact ⟨rfl, HF9.out⟩
end
end Go.Proofs.YtajamblkjmafmaaGreat

/- Which states the statements ask of. -/
namespace Go.Proofs.YtajamblkjmafmaaGreat
open Go.RowKit
set_option linter.unusedVariables false
set_option linter.unusedSimpArgs false
attribute [-simp] Tryz.isAgg55 Tryz.zeroValue55 Tryz.isAgg57 Tryz.zeroValue57 Tryz.isAgg30 Tryz.zeroValue30
attribute [-go_sem] loadVar storeVar
attribute [local go_sem] loadVar_openQ storeVar_openQ zero_sn zero_prs zero_st

def fairP (l : List SN) (dn : Nat) (ps : List (Int × Int)) : Bool := l.all (fun s => decide (s.ch.length ≤ 40) && decide (s.tb.length ≤ 80)) && (decide (l.length ≤ 12) && (decide (dn ≤ 80) && decide (ps.length ≤ 80)))
theorem fairP_lens {l : List SN} {dn : Nat} {ps : List (Int × Int)} (h : fairP l dn ps = true) : Lens 200 l ∧ ps.length ≤ 200 := by
  unfold fairP at h
  simp only [Bool.and_eq_true, List.all_eq_true, decide_eq_true_eq] at h
  exact ⟨⟨by omega, fun s hs => ⟨by have := h.1 s hs; omega, by have := h.1 s hs; omega⟩⟩, by omega⟩

set_option maxRecDepth 100000 in
set_option maxHeartbeats 2000000 in
theorem po_fair {w : World} {q : PS} {l : List SN} {ps : List (Int × Int)} (h : StIs w q l ps) (hdc : q.d.2.1 ≤ 9223372036854775807) :
    Calls Tryz.prog 6 #[stV q] w fun e w' => e = .returned (.bool (fairP l q.d.2.1 ps)) ∧ Below w.heap.size w w' := by
  obtain ⟨⟨dx, dn, dc⟩, ⟨sx, sn, sc⟩, nx, kd, id, ⟨px, pn, pc⟩⟩ := q
  obtain ⟨⟨r, hsn⟩, hpr⟩ := h
  simp only at hdc
  have hsl : sn = l.length := by obtain ⟨a, cap, e, -⟩ := hsn; simp only [slV, Value.slice.injEq] at e; omega
  have hpl : pn = ps.length := by obtain ⟨a, cap, e, -⟩ := hpr; simp only [slV, Value.slice.injEq] at e; omega
  have hml : sn ≤ 9223372036854775807 := by obtain ⟨a, cap, e, h1, h2, -⟩ := hsn; unfold maxLen at h2; omega
  have hmp : pn ≤ 9223372036854775807 := by obtain ⟨a, cap, e, h1, h2, -⟩ := hpr; unfold maxLen at h2; omega
  obtain ⟨B, hB⟩ : ∃ B, w.heap.size = B := ⟨_, rfl⟩
  have HSZ := Lib.hid hB
  obtain ⟨W0, hW0⟩ : ∃ W0, w.alloc (.cells #[.slice dx dn dc, .slice sx sn sc, .int .i64 nx, .int .i64 kd, .int .i64 id, .slice px pn pc] 30) = W0 := ⟨_, rfl⟩
  have b0 : Below B w W0 := by rw [← hW0, ← hB]; exact below_new _ _
  have r0 : RowC W0 B 30 [.slice dx dn dc, .slice sx sn sc, .int .i64 nx, .int .i64 kd, .int .i64 id, .slice px pn pc] := by rw [← hW0, ← hB]; exact RowC.new w _ _
  have HS : Hid (SnR W0 (.slice sx sn sc) r l) := hsn.below (by rw [hB]; exact b0)
  have HSL := Lib.hid hsl
  have HPL := Lib.hid hpl
  have HB := Lib.hid b0
  have k0 := r0.cell 0 _ rfl
  have k1 := r0.cell 1 _ rfl
  have k5 := r0.cell 5 _ rfl
  clear hsn hpr hsl hpl b0 r0
  go_enter Tryz.func6, Tryz.ntmps6
  simp only [stV, stL, slV]
  go_wp2_with fail
  try rw [hW0]
  try rw [hB]
  clear hW0 hB
  go_loopw [3] (fun iv wr => ∃ k : Nat, k ≤ sn ∧ iv = .int .i64 (k : Int) ∧ wr = W0 ∧ Hid (∀ s ∈ l.take k, s.ch.length ≤ 40 ∧ s.tb.length ≤ 80)) (fun iv _ => sn - (intOf iv).toNat)
  case atStart => exact ⟨0, Nat.zero_le _, rfl, rfl, fun s hs => by simp at hs⟩
  case round =>
    obtain ⟨k, hk, rfl, rfl, HP⟩ := hrel
    by_cases hlt : k < sn
    · obtain ⟨s, hs⟩ : ∃ s, l[k]? = some s := ⟨_, List.getElem?_eq_getElem (by rw [← HSL.out]; exact hlt)⟩
      have hsn := take_at hs
      have hsm := List.mem_of_getElem? hs
      obtain ⟨b, off, q, rfl, hb, -, hq, c0, c1, c2⟩ := HS.out.at hs
      obtain ⟨i, ⟨x, n, c⟩, ⟨y, m, d⟩⟩ := q
      simp only [slV] at c0 c1 c2
      obtain rfl : n = s.ch.length := by obtain ⟨a, ca, e, -⟩ := hq.ch; simp only [slV, Value.slice.injEq] at e; omega
      obtain rfl : m = s.tb.length := by obtain ⟨a, ca, e, -⟩ := hq.tb; simp only [slV, Value.slice.injEq] at e; omega
      obtain ⟨n, hn⟩ : ∃ n, s.ch.length = n := ⟨_, rfl⟩
      obtain ⟨m, hm⟩ : ∃ m, s.tb.length = m := ⟨_, rfl⟩
      rw [hn] at c1
      rw [hm] at c2
      have g1 : (k : Int) < (sn : Int) := by omega
      have HW : Hid (wrap64 ((k : Int) + 1) = (k : Int) + 1) := IntWalk.wrap64_in _ (by omega)
      have HLT := Lib.hid hlt
      by_cases q1 : 40 < n
      · have e1 : decide ((n : Int) > 40) = true := by simp; omega
        have g2 : (n : Int) > 40 := by omega
        have HE : Hid (fairP l dn ps = false) := by
          show _ = _
          unfold fairP
          rw [Bool.and_eq_false_iff]
          left
          rw [List.all_eq_false]
          exact ⟨s, hsm, by simp; omega⟩
        clear hs hsn hsm hb hq c0 hn hm hlt HP
        go_wp2_with fail
        refine bodyPost_ret (results_tmp rfl _ _ _) rfl ?_
        exact ⟨by rw [HE.out]; try rfl, by rw [HSZ.out]; exact HB.out⟩
      · have e1 : decide ((n : Int) > 40) = false := by simp; omega
        have g2 : ¬ (n : Int) > 40 := by omega
        by_cases q2 : 80 < m
        · have e2 : decide ((m : Int) > 80) = true := by simp; omega
          have g3 : (m : Int) > 80 := by omega
          have HE : Hid (fairP l dn ps = false) := by
            show _ = _
            unfold fairP
            rw [Bool.and_eq_false_iff]
            left
            rw [List.all_eq_false]
            exact ⟨s, hsm, by simp; omega⟩
          clear hs hsn hsm hb hq c0 hn hm hlt HP
          go_wp2_with fail
          refine bodyPost_ret (results_tmp rfl _ _ _) rfl ?_
          exact ⟨by rw [HE.out]; try rfl, by rw [HSZ.out]; exact HB.out⟩
        · have e2 : decide ((m : Int) > 80) = false := by simp; omega
          have g3 : ¬ (m : Int) > 80 := by omega
          have HP2 : Hid (∀ s ∈ l.take (k + 1), s.ch.length ≤ 40 ∧ s.tb.length ≤ 80) := fun t ht => by
            rw [hsn] at ht
            rcases List.mem_append.1 ht with ht | ht
            · exact HP.out t ht
            · rw [List.mem_singleton.1 ht]; omega
          clear hs hsn hsm hb hq c0 hn hm hlt HP
          go_wp2_with fail
          exact ⟨⟨k + 1, HLT.out, by first | simp | (rw [HW.out]; simp), trivial, HP2⟩, by have := HLT.out; first | (simp [intOf]; omega) | (rw [HW.out]; simp [intOf]; omega)⟩
    · obtain rfl : k = sn := by omega
      have HE : Hid (fairP l dn ps = (decide ((k : Int) ≤ 12) && (decide ((dn : Int) ≤ 80) && decide ((pn : Int) ≤ 80)))) := by
        have := HP.out
        rw [List.take_of_length_le (by rw [← HSL.out]; exact Nat.le_refl _)] at this
        show _ = _
        unfold fairP
        rw [← HSL.out, ← HPL.out, show (l.all fun s => decide (s.ch.length ≤ 40) && decide (s.tb.length ≤ 80)) = true from by
          rw [List.all_eq_true]; intro s hs; have := this s hs; simp; omega, Bool.true_and]
        rw [show decide (k ≤ 12) = decide ((k : Int) ≤ 12) from by congr 1; simp; omega, show decide (dn ≤ 80) = decide ((dn : Int) ≤ 80) from by congr 1; simp; omega, show decide (pn ≤ 80) = decide ((pn : Int) ≤ 80) from by congr 1; simp; omega]
      clear HP
      cases q1 : decide ((k : Int) ≤ 12) with
      | false =>
        rw [q1] at HE
        go_wp2_with fail
        refine bodyPost_ret (results_tmp rfl _ _ _) rfl ?_
        exact ⟨by rw [HE.out]; try rfl, by rw [HSZ.out]; exact HB.out⟩
      | true =>
        rw [q1] at HE
        cases q2 : decide ((dn : Int) ≤ 80) with
        | false =>
          rw [q2] at HE
          go_wp2_with fail
          refine bodyPost_ret (results_tmp rfl _ _ _) rfl ?_
          exact ⟨by rw [HE.out]; try rfl, by rw [HSZ.out]; exact HB.out⟩
        | true =>
          rw [q2] at HE
          cases q3 : decide ((pn : Int) ≤ 80) with
          | false =>
            rw [q3] at HE
            go_wp2_with fail
            refine bodyPost_ret (results_tmp rfl _ _ _) rfl ?_
            exact ⟨by rw [HE.out]; try rfl, by rw [HSZ.out]; exact HB.out⟩
          | true =>
            rw [q3] at HE
            go_wp2_with fail
            refine bodyPost_ret (results_tmp rfl _ _ _) rfl ?_
            exact ⟨by rw [HE.out]; try rfl, by rw [HSZ.out]; exact HB.out⟩
end Go.Proofs.YtajamblkjmafmaaGreat

/- A geometry that comes in. -/
namespace Go.Proofs.YtajamblkjmafmaaGreat
open Go.ChangeShapes Go.WideShapes Go.ChangeAt Go.RowKit
set_option linter.unusedVariables false

set_option maxRecDepth 100000 in
theorem under_geo : ∃ fs, Tryz.prog.underlying 23 = some (.struct fs) ∧ (fs[0]?).map (fun f => (f.offset, f.type)) = some (0, 3) ∧ (fs[1]?).map (fun f => (f.offset, f.type)) = some (1, 3) ∧ (fs[2]?).map (fun f => (f.offset, f.type)) = some (2, 3) ∧ (fs[3]?).map (fun f => (f.offset, f.type)) = some (3, 3) ∧ (fs[4]?).map (fun f => (f.offset, f.type)) = some (4, 3) :=
  ⟨_, Tryz.underlying23, rfl, rfl, rfl, rfl, rfl⟩
set_option maxRecDepth 100000 in
theorem geo_of_cells {W : World} {cs : List Value} (h : Cells W 23 cs) : ∃ g : Geo, g.In ∧ cs = g.cs := by
  obtain ⟨fs, hu, f0, f1, f2, f3, f4⟩ := under_geo
  obtain ⟨hl, hf⟩ := h.struct hu
  rw [show Tryz.prog.cellsOf 23 = 5 from by kernel_rfl] at hl
  have field : ∀ (j o : Nat) t, (fs[j]?).map (fun f => (f.offset, f.type)) = some (o, t) → Cells W t ((cs.drop o).take (Tryz.prog.cellsOf t)) := by
    intro j o t hj
    obtain ⟨f, hf1, hf2⟩ := Option.map_eq_some_iff.1 hj
    cases hf2
    exact hf j f hf1
  obtain ⟨x0, x1, x2, x3, x4, rfl⟩ : ∃ x0 x1 x2 x3 x4, cs = [x0, x1, x2, x3, x4] := by
    match cs, hl with
    | [x0, x1, x2, x3, x4], _ => exact ⟨x0, x1, x2, x3, x4, rfl⟩
  have g0 := field 0 0 _ f0
  have g1 := field 1 1 _ f1
  have g2 := field 2 2 _ f2
  have g3 := field 3 3 _ f3
  have g4 := field 4 4 _ f4
  rw [show Tryz.prog.cellsOf 3 = 1 from by kernel_rfl] at g0 g1 g2 g3 g4
  obtain ⟨n0, e0, w0⟩ := g0.int Tryz.underlying3
  obtain ⟨n1, e1, w1⟩ := g1.int Tryz.underlying3
  obtain ⟨n2, e2, w2⟩ := g2.int Tryz.underlying3
  obtain ⟨n3, e3, w3⟩ := g3.int Tryz.underlying3
  obtain ⟨n4, e4, w4⟩ := g4.int Tryz.underlying3
  simp at e0 e1 e2 e3 e4
  subst e0 e1 e2 e3 e4
  refine ⟨⟨n0, n1, n2, n3, n4⟩, ?_, rfl⟩
  intro n hn
  simp only [List.mem_cons, List.mem_nil_iff, or_false] at hn
  rcases hn with rfl | rfl | rfl | rfl | rfl
  · exact bounds_i64 w0
  · exact bounds_i64 w1
  · exact bounds_i64 w2
  · exact bounds_i64 w3
  · exact bounds_i64 w4
theorem Arg.geo {W : World} {v : Value} (h : Arg W 23 v) : ∃ g : Geo, g.In ∧ v = .agg g.v := by
  obtain ⟨fs, hu, _⟩ := under_geo
  obtain ⟨cs, rfl, _, hc⟩ := h.agg (.inl ⟨fs, hu⟩)
  obtain ⟨g, hg, rfl⟩ := geo_of_cells hc
  exact ⟨g, hg, rfl⟩
end Go.Proofs.YtajamblkjmafmaaGreat

/- Any sizes, any state: what the statements on states need of the program. -/
namespace Go.Proofs.YtajamblkjmafmaaGreat
open Go.RowKit Go.Shelf Go.Lib
set_option linter.unusedVariables false
set_option linter.unusedSimpArgs false
/-- A state that somebody handed in. -/
structure StA (W : World) (q : PS) (d : List Int) (l : List SN) (ps : List (Int × Int)) : Prop where
  dd : Sl .i64 W (slV q.d) d
  i6 : ∀ x ∈ d, Is64 x
  st : StIs W q l ps
theorem StA.below {W W' : World} {q : PS} {d : List Int} {l : List SN} {ps : List (Int × Int)} (h : StA W q d l ps) (hB : Below W.heap.size W W') : StA W' q d l ps := ⟨h.dd.below hB, h.i6, h.st.below hB⟩
set_option maxRecDepth 100000 in
theorem st_of_cells {W : World} {cs : List Value} (hcs : Cells W 30 cs) : ∃ q d l ps, cs = stL q ∧ StA W q d l ps := by
  obtain ⟨hl, hj⟩ := hcs.struct Tryz.underlying30
  rw [show Tryz.prog.cellsOf 30 = 6 from by kernel_rfl] at hl
  have h0 : Cells W 24 ((cs.drop 0).take (Tryz.prog.cellsOf 24)) := hj 0 _ rfl
  have h1 : Cells W 25 ((cs.drop 1).take (Tryz.prog.cellsOf 25)) := hj 1 _ rfl
  have h2 : Cells W 3 ((cs.drop 2).take (Tryz.prog.cellsOf 3)) := hj 2 _ rfl
  have h3 : Cells W 28 ((cs.drop 3).take (Tryz.prog.cellsOf 28)) := hj 3 _ rfl
  obtain ⟨_, hk⟩ := h3.struct Tryz.underlying28
  rw [show Tryz.prog.cellsOf 28 = 3 from by kernel_rfl] at hk
  have k0 : Cells W 3 ((((cs.drop 3).take 3).drop 0).take (Tryz.prog.cellsOf 3)) := hk 0 _ rfl
  have k1 : Cells W 3 ((((cs.drop 3).take 3).drop 1).take (Tryz.prog.cellsOf 3)) := hk 1 _ rfl
  have k2 : Cells W 26 ((((cs.drop 3).take 3).drop 2).take (Tryz.prog.cellsOf 26)) := hk 2 _ rfl
  rw [show Tryz.prog.cellsOf 24 = 1 from by kernel_rfl] at h0
  rw [show Tryz.prog.cellsOf 25 = 1 from by kernel_rfl] at h1
  rw [show Tryz.prog.cellsOf 3 = 1 from by kernel_rfl] at h2 k0 k1
  rw [show Tryz.prog.cellsOf 26 = 1 from by kernel_rfl] at k2
  match cs, hl with
  | [x0, x1, x2, x3, x4, x5], _ =>
    obtain ⟨a, la, ca, d, e0, hdl, -, hd, hw⟩ := h0.sl Tryz.underlying24 Tryz.underlying3 (by kernel_rfl)
    obtain ⟨q1, l, e1, hs⟩ := h1.snp
    obtain ⟨n2, e2, -⟩ := h2.int Tryz.underlying3
    obtain ⟨n3, e3, -⟩ := k0.int Tryz.underlying3
    obtain ⟨n4, e4, -⟩ := k1.int Tryz.underlying3
    obtain ⟨c, lc, cc, e5, r5⟩ := k2.slice Tryz.underlying26
    obtain ⟨ps, hp⟩ := prt_of r5
    simp at e0 e1 e2 e3 e4 e5
    subst e0 e1 e2 e3 e4 e5
    exact ⟨⟨(a, la, ca), q1, n2, n3, n4, (c, lc, cc)⟩, d, l, ps, rfl, hd, (fun x hx => bounds_i64 (hw x hx)), hs, hp⟩
set_option maxRecDepth 100000 in
theorem Arg.stA {W : World} {v : Value} (h : Arg W 30 v) : ∃ q d l ps, v = stV q ∧ StA W q d l ps := by
  obtain ⟨cs, rfl, hl, hcs⟩ := h.agg (.inl ⟨_, Tryz.underlying30⟩)
  obtain ⟨q, d, l, ps, rfl, h2⟩ := st_of_cells hcs
  exact ⟨q, d, l, ps, rfl, h2⟩
def Geo.sg (G : Geo) : SG := ⟨G.b.toNat, G.s.toNat, G.y.toNat, G.a.toNat⟩
theorem Geo.sg_ok {G : Geo} (h : G.good) : G.sg.Ok ∧ G.sg.geo G.r = G := by
  obtain ⟨b, s, y, a, r⟩ := G
  obtain ⟨⟨h1, h2, h3, h4, h5, h6, h7, h8⟩, -⟩ := h
  simp only at h1 h2 h3 h4 h5 h6 h7 h8
  refine ⟨⟨?_, ?_, ?_, ?_, ?_, ?_, ?_⟩, ?_⟩
  any_goals (simp only [Geo.sg]; omega)
  simp only [SG.geo, Geo.sg, Geo.mk.injEq]
  refine ⟨?_, ?_, ?_, ?_, trivial⟩ <;> omega
def gGood (G : Geo) (s : ST) : Bool := decide G.good && sGood G.sg s
theorem gGood_iff {G : Geo} {s : ST} : gGood G s = true ↔ G.good ∧ sGood G.sg s = true := by unfold gGood; simp
theorem isB_of {bs : List Int} (h : ∀ x ∈ bs, 0 ≤ x ∧ x < 256) : IsBytes bs := fun j => by
  by_cases hj : j < bs.length
  · rw [List.getElem?_eq_getElem hj]; exact h _ (List.getElem_mem hj)
  · rw [List.getElem?_eq_none (by omega)]; simp
theorem isB_mem {bs : List Int} (h : IsBytes bs) {x : Int} (hx : x ∈ bs) : 0 ≤ x ∧ x < 256 := by
  obtain ⟨j, hj⟩ := List.getElem?_of_mem hx
  have := h j
  rwa [hj] at this
theorem places_byt {g : SG} {l : List (Int × Int)} (h : PrIn g l) : ∀ x ∈ sPlaces g.b l, 0 ≤ x ∧ x < 256 := by
  unfold sPlaces
  have key : ∀ (l : List (Int × Int)) (o : List Int), (∀ p ∈ l, 0 ≤ p.2 ∧ p.2 ≠ 254 ∧ p.2 < 256) → (∀ x ∈ o, 0 ≤ x ∧ x < 256) → ∀ x ∈ l.foldl (fun o p => o.set p.1.toNat (plV p.2)) o, 0 ≤ x ∧ x < 256 := by
    intro l
    induction l with
    | nil => intro o _ h; exact h
    | cons p l ih =>
      intro o hp ho
      refine ih _ (fun q hq => hp q (List.mem_cons_of_mem _ hq)) fun x hx => ?_
      rcases List.mem_or_eq_of_mem_set hx with hx | rfl
      · exact ho x hx
      · have := hp p (List.mem_cons_self ..)
        unfold plV
        split <;> omega
  exact key l _ h.val (fun x hx => by rw [(List.mem_replicate.1 hx).2]; omega)
theorem dirt_in {g : SG} {d : List Int} (h : sDirty g d = true) : ∀ x ∈ d, x = -1 ∨ 0 ≤ x ∧ x < (g.b : Int) := fun x hx => by
  unfold sDirty at h
  rw [Bool.and_eq_true, List.all_eq_true] at h
  obtain ⟨i, hi⟩ := List.getElem?_of_mem hx
  have hl := (List.getElem?_eq_some_iff.1 hi).1
  have := h.2 i (List.mem_range.2 hl)
  unfold dirtAt at this
  rw [hi] at this
  simp only [Option.getD_some, Bool.or_eq_true, beq_iff_eq, Bool.and_eq_true, decide_eq_true_eq] at this
  rcases this with h | ⟨⟨⟨a, b⟩, -⟩, -⟩
  · exact .inl h
  · exact .inr ⟨a, b⟩
theorem sGood_d {g : SG} {s : ST} (h : sGood g s = true) : ∀ x ∈ s.d, x = -1 ∨ 0 ≤ x ∧ x < (g.b : Int) := by
  unfold sGood at h
  simp only [Bool.and_eq_true] at h
  exact dirt_in h.1.1.1.1.1
theorem enc_byt {g : SG} (hg : g.Ok) {s : ST} (h : sGood g s = true) (hk : ∀ t ∈ s.sn, IsBytes t.ch) : IsBytes (sEnc g s) := by
  have hi := good_in hg h
  have hkd := kd_rng h
  have hb := hg.b64
  refine isB_of fun x hx => ?_
  unfold sEnc at hx
  simp only [List.mem_append, List.mem_cons, List.mem_nil_iff, or_false, List.mem_map, List.mem_flatten] at hx
  rcases hx with hx | (rfl | rfl) | hx | ⟨y, hy, rfl⟩ | ⟨y, hy, hx⟩ | hx
  · exact isB_mem (putL_bytes _ _) hx
  · have := hi.sl; omega
  · omega
  · exact isB_mem (putL_bytes _ _) hx
  · have := sGood_d h y hy; omega
  · unfold sSnaps at hy
    obtain ⟨i, -, rfl⟩ := List.mem_map.1 hy
    have hS : ∀ t : SN, IsBytes t.ch → PrIn g t.tb → ∀ x ∈ sSnapB g t, 0 ≤ x ∧ x < 256 := fun t h1 h2 x hx => by
      unfold sSnapB at hx
      rcases List.mem_append.1 hx with hx | hx
      · exact isB_mem (putL_bytes _ _) hx
      · rcases List.mem_append.1 hx with hx | hx
        · exact isB_mem h1 hx
        · exact places_byt h2 x hx
    cases hl : s.sn[i]? with
    | none =>
      rw [hl] at hx
      refine hS (noS g) (isB_of fun z hz => ?_) ⟨List.Pairwise.nil, (fun p hp => by cases hp), (fun p hp => by cases hp)⟩ x hx
      have := (List.mem_replicate.1 hz).2
      omega
    | some t =>
      rw [hl] at hx
      have hm := List.mem_of_getElem? hl
      exact hS t (hk t hm) (hi.sn t hm).tb x hx
  · exact places_byt hi.pr x hx
theorem gEnc_len {G : Geo} {s : ST} (h : gGood G s = true) : ((sEnc G.sg s).length : Int) = G.oB ∧ (sEnc G.sg s).length ≤ 1000 := by
  obtain ⟨a, b⟩ := gGood_iff.1 h
  obtain ⟨ok, e⟩ := Geo.sg_ok a
  have hi := good_in ok b
  have hl := enc_len hi.dl (fun t ht => (hi.sn t ht).ch)
  have h1 : G.oB = (G.sg.bts : Int) := by
    unfold Geo.oB
    rw [if_pos a]
    have := geo_bts ok G.r
    rwa [e] at this
  have h2 := (Geo.oB_bd G).2
  refine ⟨by rw [hl, h1], ?_⟩
  rw [hl]
  omega
theorem gEnc_byt {G : Geo} {s : ST} (h : gGood G s = true) (hk : ∀ t ∈ s.sn, t.Ok) : IsBytes (sEnc G.sg s) := enc_byt (Geo.sg_ok (gGood_iff.1 h).1).1 (gGood_iff.1 h).2 (fun t ht => (hk t ht).ch)
theorem gEnc_inj {G : Geo} {s t : ST} (hs : gGood G s = true) (ht : gGood G t = true) : sEnc G.sg s = sEnc G.sg t ↔ s = t := enc_inj (Geo.sg_ok (gGood_iff.1 hs).1).1 (gGood_iff.1 hs).2 (gGood_iff.1 ht).2
theorem fair_k {l : List SN} {dn : Nat} {ps : List (Int × Int)} (h : fairP l dn ps = true) : Lens 1000 l ∧ dn ≤ 1000 ∧ ps.length ≤ 1000 := by
  obtain ⟨a, b⟩ := fairP_lens h
  refine ⟨⟨by have := a.1; omega, fun s hs => ⟨by have := (a.2 s hs).1; omega, by have := (a.2 s hs).2; omega⟩⟩, ?_, by omega⟩
  unfold fairP at h
  simp only [Bool.and_eq_true, decide_eq_true_eq] at h
  omega
set_option maxRecDepth 100000 in
theorem StA.fair {w : World} {q : PS} {d : List Int} {l : List SN} {ps : List (Int × Int)} (h : StA w q d l ps) :
    Calls Tryz.prog 6 #[stV q] w fun e w' => e = .returned (.bool (fairP l d.length ps)) ∧ Below w.heap.size w w' := by
  have e : q.d.2.1 = d.length := by obtain ⟨a, c, e, -⟩ := h.dd; simp only [slV, Value.slice.injEq] at e; exact e.2.1
  have hm : d.length ≤ maxLen := by obtain ⟨a, c, e, h1, h2, -⟩ := h.dd; omega
  rw [← e]
  exact po_fair h.st (by rw [e]; unfold maxLen at hm; omega)
set_option maxRecDepth 100000 in
theorem ge_encode {w : World} {q : PS} {d : List Int} {l : List SN} {ps : List (Int × Int)} (G : Geo) (hi : G.In) (h : StA w q d l ps) (hK : Lens 1000 l) (hp : ps.length ≤ 1000) :
    Calls Tryz.prog 9 #[.agg G.v, stV q] w fun e w' => ∃ u c, e = .returned (.tuple #[u, .int .i64 c]) ∧ ((gGood G ⟨d, l, q.nx, q.kd, q.id, ps⟩ = true → c = 0 ∧ w'.ownsRow w.heap.size 5 1 u (sEnc G.sg ⟨d, l, q.nx, q.kd, q.id, ps⟩).length (u8s (sEnc G.sg ⟨d, l, q.nx, q.kd, q.id, ps⟩))) ∧ (gGood G ⟨d, l, q.nx, q.kd, q.id, ps⟩ = false → c = 11 ∧ u = .slice none 0 0)) ∧ Below w.heap.size w w' := by
  by_cases hg : G.good
  · obtain ⟨ok, e⟩ := Geo.sg_ok hg
    have := sg_encode G.sg ok G.r (by rw [e]; exact hi) (by rw [e]; exact hg) h.dd h.i6 h.st hK hp
    rw [← SG.geo_v, e] at this
    refine this.mono fun e y ⟨u, c, h1, h2, h3⟩ => ⟨u, c, h1, ?_, h3⟩
    unfold gGood
    rw [decide_eq_true hg, Bool.true_and]
    exact h2
  · refine (sg_encodeN G hi hg).mono fun e y hy => ⟨_, _, hy.1, ⟨fun h => absurd (gGood_iff.1 h).1 hg, fun _ => ⟨rfl, rfl⟩⟩, hy.2⟩
set_option maxRecDepth 100000 in
theorem ge_encodeS {w : World} {q : PS} {d : List Int} {l : List SN} {ps : List (Int × Int)} (G : Geo) (hi : G.In) (h : StA w q d l ps) (hK : Lens 1000 l) (hp : ps.length ≤ 1000) :
    Calls Tryz.prog 9 #[.agg G.v, stV q] w fun e w' => ∃ (x : Option Addr) (n c : Nat) (cd : Int), e = .returned (.tuple #[.slice x n c, .int .i64 cd]) ∧ (gGood G ⟨d, l, q.nx, q.kd, q.id, ps⟩ = true → cd = 0 ∧ (n : Int) = G.oB ∧ Sl .u8 w' (.slice x n c) (sEnc G.sg ⟨d, l, q.nx, q.kd, q.id, ps⟩)) ∧ (gGood G ⟨d, l, q.nx, q.kd, q.id, ps⟩ = false → cd = 11) ∧ Below w.heap.size w w' := by
  refine (ge_encode G hi h hK hp).mono fun e y ⟨u, c, h1, ⟨h2, h3⟩, h4⟩ => ?_
  cases hg : gGood G ⟨d, l, q.nx, q.kd, q.id, ps⟩ with
  | true =>
    obtain ⟨rfl, ho⟩ := h2 hg
    obtain ⟨a, cc, e0, h5⟩ := Sl.of_owns ho
    refine ⟨a, _, cc, 0, by rw [h1, e0], fun _ => ⟨rfl, (gEnc_len hg).1, ⟨a, cc, rfl, h5⟩⟩, (fun h => by cases h), h4⟩
  | false =>
    obtain ⟨rfl, rfl⟩ := h3 hg
    exact ⟨none, 0, 0, 11, h1, (fun h => by cases h), fun _ => rfl, h4⟩
end Go.Proofs.YtajamblkjmafmaaGreat

/- One part of a state of one's own is turned. -/
namespace Go.Proofs.YtajamblkjmafmaaGreat
open Go.RowKit Go.Shelf Go.Lib
set_option linter.unusedVariables false
set_option linter.unusedSimpArgs false
section
variable {N E : Nat} {W : World} {q : PS} {d : List Int} {l : List SN} {ps : List (Int × Int)}
theorem StO.setE {L : List Value} (h : StO N W q d l ps) (hE : RowC W E 30 L) (j : Nat) (x : Value) : StO N (W.setCell ⟨E, j, none⟩ x) q d l ps :=
  ⟨own_setB h.dd hE (by decide) j x, h.sn.setE hE j x, ⟨own_setB h.pr.1 hE (by decide) j x, h.pr.2⟩⟩
theorem SnO.grownO {M e sz n : Nat} {W' : World} {v u : Value} {xs : List Value} (h : SnO N W v l) (hu : W.ownsRow M e sz u n xs) (hg : W.grownBy W' u.ownBlock) (h1 : 55 ≠ e) (h2 : 5 ≠ e) (h3 : 57 ≠ e) : SnO N W' v l := by
  obtain ⟨r, a1, a2, a3⟩ := h
  exact ⟨r, a1, a2.kept hg (rows_ne a2 hu h1), fun k q s a b => ⟨(a3 k q s a b).id, (a3 k q s a b).ch.kept hg (rows_ne (a3 k q s a b).ch hu h2), ⟨(a3 k q s a b).tb.1.kept hg (rows_ne (a3 k q s a b).tb.1 hu h3), (a3 k q s a b).tb.2⟩, (a3 k q s a b).ok⟩⟩
/-- A dirty slot is set. -/
theorem StO.setD (h : StO N W q d l ps) {k : Nat} (hk : k < d.length) (x : Int) :
    ∃ g c, q.d = (some ⟨g, 0, none⟩, d.length, c) ∧ W.cell? ⟨g, k, none⟩ = some (.int .i64 (d[k]?.getD 0)) ∧ W.frozen? ⟨g, k, none⟩ = false ∧ StO N (W.setCell ⟨g, k, none⟩ (.int .i64 x)) q (d.set k x) l ps ∧ W.grownBy (W.setCell ⟨g, k, none⟩ (.int .i64 x)) (some g) ∧ N ≤ g ∧ (∀ (t : TypeId) (L : List Value) (B : Nat), 3 ≠ t → RowC W B t L → g ≠ B) := by
  obtain ⟨⟨a, n, c⟩, sn, nx, kd, id, pr⟩ := q
  have hd := h.dd
  simp only [slV] at hd
  have hd2 := hd.2
  rcases hd2 with ⟨-, h0⟩ | ⟨g, cap, cur, e, a1, a2, a3, a4, -⟩
  · omega
  · simp only [Value.slice.injEq] at e
    obtain ⟨rfl, rfl, rfl⟩ := e
    obtain ⟨s1, s2⟩ := World.ownsRow.stored (show W.ownsRow N 3 1 (.slice (some ⟨g, 0, none⟩) d.length c) d.length (d.map (Value.int .i64)) from hd) k (.int .i64 x)
    refine ⟨g, c, rfl, ?_, World.ownsRow.frozenAt (show W.ownsRow N 3 1 (.slice (some ⟨g, 0, none⟩) d.length c) d.length (d.map (Value.int .i64)) from hd) _, ⟨?_, h.sn.grownO hd s2 (by decide) (by decide) (by decide), h.pr.grownI hd s2⟩, s2, a1, fun t L B hne hB e2 => row_ne hd hB hne (by rw [← e2]; rfl)⟩
    · rw [World.ownsRow.cellAt (show W.ownsRow N 3 1 (.slice (some ⟨g, 0, none⟩) d.length c) d.length (d.map (Value.int .i64)) from hd) k (by omega), List.getElem?_map, List.getElem?_eq_getElem hk]
      rfl
    · show World.ownsRow _ N 3 1 _ (d.set k x).length ((d.set k x).map _)
      rw [List.length_set, List.map_set]
      exact s1
theorem scs_setT {r : List SV} {k : Nat} {p : SV} (hp : r[k]? = some p) (u : SlV) : (scs r).set (k * 3 + 2) (slV u) = scs (r.set k (p.1, p.2.1, u)) := by
  have hk := (List.getElem?_eq_some_iff.1 hp).1
  rw [← scs_set (p.1, p.2.1, u) hk]
  obtain ⟨f1, f2, f3⟩ := scs_get hp
  have e1 : (scs r).set (k * 3) (.int .i64 p.1) = scs r := by
    obtain ⟨hx, e⟩ := List.getElem?_eq_some_iff.1 f1
    rw [← e]
    exact List.set_getElem_self hx
  rw [show ((p.1, p.2.1, u) : SV).1 = p.1 from rfl, e1, show ((p.1, p.2.1, u) : SV).2.1 = p.2.1 from rfl]
  have e2 : (scs r).set (k * 3 + 1) (slV p.2.1) = scs r := by
    obtain ⟨hx, e⟩ := List.getElem?_eq_some_iff.1 f2
    rw [← e]
    exact List.set_getElem_self hx
  rw [e2]
theorem snp_of_row {v : Value} {r : List SV} (h1 : r.length = l.length) (h2 : W.ownsRow N 55 3 v l.length (scs r)) (h3 : ∀ (j : Nat) (q : SV) (s : SN), r[j]? = some q → l[j]? = some s → SnIs W q s) : Snp W v l := by
  rcases h2.2 with ⟨rfl, h0⟩ | ⟨g, cap, cur, rfl, a1, a2, a3, a4, a5, a6⟩
  · obtain rfl : l = [] := List.eq_nil_of_length_eq_zero h0
    exact Snp.nil W
  · refine ⟨r, _, cap, rfl, a3, a4, (fun e => by cases e), h1, h3, .inr ⟨g, 0, rfl, (Array.getElem?_eq_some_iff.1 a2).1, fun j p hj => ?_⟩⟩
    have hc := h2.cells (g := g) rfl
    obtain ⟨f1, f2, f3⟩ := scs_get hj
    have c1 := hc _ _ f1
    have c2 := hc _ _ f2
    have c3 := hc _ _ f3
    rw [Addr.add_mid] at c1 c2 c3
    exact ⟨c1, by simpa [Nat.add_assoc] using c2, by simpa [Nat.add_assoc] using c3⟩
set_option maxRecDepth 100000 in
/-- The table of a snapshot is cut at its first pair. -/
theorem StO.cutT (h : StO N W q d l ps) {k : Nat} {s : SN} (hk : l[k]? = some s) (hs : 1 ≤ s.tb.length) :
    ∃ (g c : Nat) (y : Option Addr) (m cc : Nat) (y' : Option Addr), q.sn = (some ⟨g, 0, none⟩, l.length, c) ∧ l.length ≤ c ∧ W.cell? ⟨g, k * 3 + 2, none⟩ = some (.slice y m cc) ∧ W.frozen? ⟨g, k * 3 + 2, none⟩ = false ∧
      (∀ X : World, (Instr.sliceAt 26 (.slice y m cc) (some (.int .i64 1)) none none).run Tryz.prog X = .ok (.slice y' (m - 1) (cc - 1)) X) ∧ 1 ≤ m ∧ m ≤ cc ∧ cc ≤ maxLen ∧
      Sl .i64 (W.setCell ⟨g, k * 3 + 2, none⟩ (.slice y' (m - 1) (cc - 1))) (slV q.d) d ∧ StIs (W.setCell ⟨g, k * 3 + 2, none⟩ (.slice y' (m - 1) (cc - 1))) q (l.set k ⟨s.id, s.ch, s.tb.drop 1⟩) ps ∧
      W.grownBy (W.setCell ⟨g, k * 3 + 2, none⟩ (.slice y' (m - 1) (cc - 1))) (some g) ∧ N ≤ g ∧ (∀ (t : TypeId) (L : List Value) (B : Nat), 55 ≠ t → RowC W B t L → g ≠ B) := by
  obtain ⟨dd, ⟨a, n, c⟩, nx, kd, id, pr⟩ := q
  obtain ⟨r, h1, h2, h3⟩ := h.sn
  have hkl := (List.getElem?_eq_some_iff.1 hk).1
  obtain ⟨p, hp⟩ : ∃ p, r[k]? = some p := ⟨_, List.getElem?_eq_getElem (by omega)⟩
  have hF := h3 k p s hp hk
  simp only [slV] at h2
  have h22 := h2.2
  rcases h22 with ⟨-, h0⟩ | ⟨g, cap, cur, e, a1, a2, a3, a4, -⟩
  · omega
  · simp only [Value.slice.injEq] at e
    obtain ⟨rfl, rfl, rfl⟩ := e
    obtain ⟨pi, ⟨x, n, e⟩, ⟨y, m, cc⟩⟩ := p
    have hprt : Prt W (.slice y m cc) s.tb := hF.tb.prt
    have hm : m = s.tb.length ∧ m ≤ cc ∧ cc ≤ maxLen := by obtain ⟨a, ca, e, b1, b2, -⟩ := hprt; simp only [Value.slice.injEq] at e; obtain ⟨-, rfl, rfl⟩ := e; exact ⟨rfl, b1, b2⟩
    obtain ⟨y', hr, hpl⟩ := pr_lo hprt (K := 1) (by omega)
    obtain ⟨s1, s2⟩ := World.ownsRow.stored h2 (k * 3 + 2) (.slice y' (m - 1) (cc - 1))
    have hset := scs_setT hp (y', m - 1, cc - 1)
    simp only [slV] at hset
    rw [hset] at s1
    have f3 := (scs_get hp).2.2
    have hOwn : ∀ {e : TypeId} {sz n : Nat} {v : Value} {xs : List Value}, W.ownsRow N e sz v n xs → e ≠ 55 → (W.setCell ⟨g, k * 3 + 2, none⟩ (.slice y' (m - 1) (cc - 1))).ownsRow N e sz v n xs := fun h hne => h.kept s2 (rows_ne h h2 hne)
    refine ⟨g, c, y, m, cc, y', rfl, a3, ?_, World.ownsRow.frozenAt h2 _, hr, by omega, hm.2.1, hm.2.2, sl_own (hOwn h.dd (by decide)), ⟨?_, PrO.prt ⟨hOwn h.pr.1 (by decide), h.pr.2⟩⟩, s2, a1, fun t L B hne hB e2 => row_ne h2 hB hne (by rw [← e2]; rfl)⟩
    · have := h2.cells (g := g) rfl _ _ f3
      rw [Addr.add_mid, Nat.zero_add] at this
      exact this
    · refine snp_of_row (r := r.set k (pi, (x, n, e), (y', m - 1, cc - 1))) (N := N) (by simp [h1]) (by rw [List.length_set]; exact s1) fun j q' s' hq' hs' => ?_
      by_cases hj : k = j
      · subst hj
        rw [List.getElem?_set_self (by omega)] at hq' hs'
        cases hq'
        cases hs'
        have hpr2 : Prt (W.setCell ⟨g, k * 3 + 2, none⟩ (.slice y' (m - 1) (cc - 1))) (.slice y m cc) s.tb := PrO.prt ⟨hOwn hF.tb.1 (by decide), hF.tb.2⟩
        exact ⟨hF.id, Sl.of_owns (hOwn hF.ch (by decide)), hpl _ hpr2, ⟨hF.ok.id, hF.ok.ch, fun p hp => hF.ok.tb p (List.mem_of_mem_drop hp)⟩⟩
      · rw [List.getElem?_set_ne hj] at hq' hs'
        have hF2 := h3 j q' s' hq' hs'
        exact ⟨hF2.id, Sl.of_owns (hOwn hF2.ch (by decide)), PrO.prt ⟨hOwn hF2.tb.1 (by decide), hF2.tb.2⟩, hF2.ok⟩
end
set_option maxRecDepth 100000 in
theorem ge_rgood {w : World} {q : PS} {d : List Int} {l : List SN} {ps : List (Int × Int)} (G : Geo) (h : StA w q d l ps) (hK : Lens 1000 l) (hp : ps.length ≤ 1000) :
    Calls Tryz.prog 16 #[.agg G.v, stV q] w fun e w' => e = .returned (.bool (gGood G ⟨d, l, q.nx, q.kd, q.id, ps⟩)) ∧ Below w.heap.size w w' := by
  by_cases hg : G.good
  · obtain ⟨ok, e⟩ := Geo.sg_ok hg
    have := rf14_good G.sg ok G.r (by rw [e]; exact hg) h.dd h.st hK hp
    rw [← SG.geo_v, e] at this
    exact this.mono fun e y hy => ⟨by rw [hy.1]; unfold gGood; simp [hg], hy.2⟩
  · exact (rf14_goodN G hg).mono fun e y hy => ⟨by rw [hy.1]; unfold gGood; simp [hg], hy.2⟩
theorem cellU {w : World} {a : Option Addr} {n c : Nat} {xs : List Int} (h : Sl .u8 w (.slice a n c) xs) : n = xs.length ∧ n ≤ maxLen ∧ (0 < n → ∃ b o, a = some ⟨b, o, none⟩ ∧ ∀ x : World, Below w.heap.size w x → ∀ j, j < n → x.cell? ⟨b, o + j, none⟩ = some (.int .u8 (xs[j]?.getD 0))) := by
  have hk := h
  obtain ⟨a', c', e, h1, h2, h3, -⟩ := h
  cases e
  refine ⟨rfl, Nat.le_trans h1 h2, fun h0 => ?_⟩
  rcases h3 with h3 | ⟨b, o, rfl, h4, h5⟩
  · rw [h3] at h0; simp at h0
  · refine ⟨b, o, rfl, fun x hx j hj => ?_⟩
    obtain ⟨a', c', e, h1, h2, h3, -⟩ := hk.below hx
    cases e
    rcases h3 with h3 | ⟨b', o', e, h4, h5⟩
    · rw [h3] at h0; simp at h0
    · cases e
      exact h5 j hj
/-- The state that was turned, beside the first one. -/
structure TurnR (G : Geo) (s : ST) (F : Nat) (V : World) (fr to_ : Nat) (qt : PS) (st : ST) (W : World) : Prop where
  row : RowC W F 30 (stL qt)
  sta : StA W qt st.d st.sn st.pr
  is : (⟨st.d, st.sn, qt.nx, qt.kd, qt.id, st.pr⟩ : ST) = st
  good : gGood G st = true
  off : OffAt (sEnc G.sg s) (sEnc G.sg st) fr to_
  ne : ¬ s = st
  lens : Lens 1000 st.sn ∧ st.pr.length ≤ 1000
  be : Below V.heap.size V W
theorem TurnR.below {G : Geo} {s : ST} {F : Nat} {V W W' : World} {fr to_ : Nat} {qt : PS} {st : ST} (h : TurnR G s F V fr to_ qt st W) (hb : Below W.heap.size W W') : TurnR G s F V fr to_ qt st W' :=
  ⟨h.row.below hb, h.sta.below hb, h.is, h.good, h.off, h.ne, h.lens, h.be.trans (hb.mono h.be.size)⟩
section
variable {G : Geo} {V Y : World} {F : Nat} {q : PS} {d : List Int} {l : List SN} {ps : List (Int × Int)}
theorem turn_next (hO : StO V.heap.size Y q d l ps) (hR : RowC Y F 30 (stL q)) (hB : Below V.heap.size V Y) (hF : V.heap.size ≤ F) (h6 : ∀ x ∈ d, Is64 x) (hK : Lens 1000 l ∧ ps.length ≤ 1000)
    (hg : gGood G ⟨d, l, q.nx, q.kd, q.id, ps⟩ = true) (hn : q.nx ≤ 1000000) (hk : q.kd = 0) :
    TurnR G ⟨d, l, q.nx, q.kd, q.id, ps⟩ F V 0 4 ⟨q.d, q.sn, q.nx + 1, q.kd, q.id, q.pr⟩ ⟨d, l, q.nx + 1, q.kd, q.id, ps⟩ (Y.setCell ⟨F, 2, none⟩ (.int .i64 (q.nx + 1))) := by
  obtain ⟨g1, g2⟩ := gGood_iff.1 hg
  obtain ⟨a, b⟩ := part_next g2 hn hk
  have hO2 := hO.setE hR 2 (.int .i64 (q.nx + 1))
  exact ⟨hR.set 2 _, ⟨sl_own hO2.dd, h6, ⟨hO2.sn.snp, hO2.pr.prt⟩⟩, rfl, gGood_iff.2 ⟨g1, a⟩, b, (fun e => by have := congrArg ST.nx e; simp only at this; omega), hK, set_below hB hF _ _⟩
theorem turn_dirt {g c k : Nat} (hO : StO V.heap.size (Y.setCell ⟨g, k, none⟩ (.int .i64 (-1))) q (d.set k (-1)) l ps) (hR : RowC Y F 30 (stL q)) (hne : g ≠ F) (hB : Below V.heap.size V Y) (hF : V.heap.size ≤ g) (h6 : ∀ x ∈ d, Is64 x) (hK : Lens 1000 l ∧ ps.length ≤ 1000)
    (hg : gGood G ⟨d, l, q.nx, q.kd, q.id, ps⟩ = true) (hk : k < d.length) (hx : 0 ≤ d[k]?.getD 0) :
    TurnR G ⟨d, l, q.nx, q.kd, q.id, ps⟩ F V (10 + k) (11 + k) q ⟨d.set k (-1), l, q.nx, q.kd, q.id, ps⟩ (Y.setCell ⟨g, k, none⟩ (.int .i64 (-1))) := by
  obtain ⟨g1, g2⟩ := gGood_iff.1 hg
  obtain ⟨a, b⟩ := part_dirt g2 hk hx
  refine ⟨set_other hR (fun e => hne e.symm) _ _, ⟨sl_own hO.dd, fun x hx => ?_, ⟨hO.sn.snp, hO.pr.prt⟩⟩, rfl, gGood_iff.2 ⟨g1, a⟩, b, fun e => ?_, hK, set_below hB hF _ _⟩
  · rcases List.mem_or_eq_of_mem_set hx with h | rfl
    · exact h6 x h
    · simp [Is64]
  · have e2 := congrArg ST.d e
    simp only at e2
    rw [e2, List.getElem?_set_self hk] at hx
    simp at hx
theorem turn_table {g c k : Nat} {v : Value} {x : SN} {p : Int × Int} {tb : List (Int × Int)} (hd : Sl .i64 (Y.setCell ⟨g, k * 3 + 2, none⟩ v) (slV q.d) d) (hst : StIs (Y.setCell ⟨g, k * 3 + 2, none⟩ v) q (l.set k ⟨x.id, x.ch, x.tb.drop 1⟩) ps)
    (hR : RowC Y F 30 (stL q)) (hne : g ≠ F) (hB : Below V.heap.size V Y) (hF : V.heap.size ≤ g) (h6 : ∀ x ∈ d, Is64 x) (hK : Lens 1000 l ∧ ps.length ≤ 1000)
    (hg : gGood G ⟨d, l, q.nx, q.kd, q.id, ps⟩ = true) (hk : k + 1 = l.length) (hx : l[k]? = some x) (htb : x.tb = p :: tb) (hkd : q.kd = 0) :
    TurnR G ⟨d, l, q.nx, q.kd, q.id, ps⟩ F V (10 + G.sg.slots + k * G.sg.step + 4 + G.sg.n9 + p.1.toNat) (10 + G.sg.slots + k * G.sg.step + 4 + G.sg.n9 + p.1.toNat + 1) q ⟨d, l.set k ⟨x.id, x.ch, x.tb.drop 1⟩, q.nx, q.kd, q.id, ps⟩ (Y.setCell ⟨g, k * 3 + 2, none⟩ v) := by
  obtain ⟨g1, g2⟩ := gGood_iff.1 hg
  obtain ⟨ok, -⟩ := Geo.sg_ok g1
  have hl : l = l.take k ++ [x] := by
    rw [← take_at hx, List.take_of_length_le (by omega)]
  have hkl : (l.take k).length = k := by rw [List.length_take]; omega
  have hset : l.set k ⟨x.id, x.ch, x.tb.drop 1⟩ = l.take k ++ [⟨x.id, x.ch, tb⟩] := by
    conv => lhs; rw [hl]
    rw [List.set_append_right _ _ (by omega), hkl, Nat.sub_self, htb]
    rfl
  have hgk := g2
  rw [hkd, hl] at hgk
  obtain ⟨a, b⟩ := part_table ok htb hgk
  rw [hkl] at b
  rw [← hl] at b
  refine ⟨set_other hR (fun e => hne e.symm) _ _, ⟨hd, h6, hst⟩, rfl, ?_, ?_, fun e => ?_, ⟨⟨by rw [List.length_set]; exact hK.1.1, fun t ht => ?_⟩, hK.2⟩, set_below hB hF _ _⟩
  · rw [hset, hkd]
    exact gGood_iff.2 ⟨g1, a⟩
  · rw [hset, hkd]
    exact b
  · have e2 := congrArg ST.sn e
    simp only at e2
    rw [e2, List.getElem?_set_self (by omega)] at hx
    have e3 := congrArg SN.tb (Option.some.inj hx)
    simp only at e3
    have e4 := congrArg List.length e3
    rw [List.length_drop, htb] at e4
    simp at e4
  · rcases List.mem_or_eq_of_mem_set ht with h | rfl
    · exact hK.1.2 t h
    · have := hK.1.2 x (List.mem_of_getElem? hx)
      exact ⟨this.1, by rw [List.length_drop]; have := this.2; omega⟩
end
end Go.Proofs.YtajamblkjmafmaaGreat

/- Numbers that StateParts computes. -/
namespace Go.Proofs.YtajamblkjmafmaaGreat
open Go.RowKit Go.Shelf Go.Lib
set_option linter.unusedVariables false
set_option linter.unusedSimpArgs false
theorem pu_eq0 {n : Nat} (h : n = 0) : ((n : Int) == 0) = true ∧ (n : Int) = 0 := by subst h; exact ⟨rfl, rfl⟩
theorem pu_ne0 {n : Nat} (h : ¬ n = 0) : ((n : Int) == 0) = false ∧ ¬ (n : Int) = 0 := by
  have : ¬ (n : Int) = 0 := by omega
  exact ⟨by simpa using this, this⟩
theorem pu_rem {m : Int} {n : Nat} (h0 : 0 ≤ m) (hn : ¬ n = 0) : ∃ k : Nat, m % (n : Int) = (k : Int) ∧ m.tmod (n : Int) = (k : Int) ∧ k < n ∧ (k : Int) < (n : Int) := by
  have h1 := Int.emod_nonneg m (show (n : Int) ≠ 0 by omega)
  have h2 := Int.emod_lt_of_pos m (show (0 : Int) < n by omega)
  refine ⟨(m % (n : Int)).toNat, by omega, by rw [Int.tmod_eq_emod_of_nonneg h0]; omega, by omega, by omega⟩
theorem pu_lt {k n : Nat} (h : k + 1 < n) : decide ((k : Int) + 1 < (n : Int)) = true ∧ (k : Int) + 1 < (n : Int) := by
  have : (k : Int) + 1 < (n : Int) := by omega
  exact ⟨decide_eq_true this, this⟩
theorem pu_nlt {k n : Nat} (h : ¬ k + 1 < n) : decide ((k : Int) + 1 < (n : Int)) = false ∧ ¬ (k : Int) + 1 < (n : Int) := by
  have : ¬ (k : Int) + 1 < (n : Int) := by omega
  exact ⟨decide_eq_false this, this⟩
theorem pu_w1 {k n : Nat} (h : k < n) (hn : n ≤ 1000) : wrap64 ((k : Int) + 1) = (k : Int) + 1 := IntWalk.wrap64_in _ (by omega)
theorem pu_last {k n L : Nat} (h : ¬ k + 1 < n) (hk : k < n) (hl : n = L) : k + 1 = L := by omega
theorem pu_in {α : Type} {l : List α} {k : Nat} (h : k + 1 = l.length) : ∃ x, l[k]? = some x := ⟨_, List.getElem?_eq_getElem (by omega)⟩
theorem pu_prt {W : World} {y1 : Option Addr} {y2 y3 : Nat} {l : List (Int × Int)} (h : Prt W (.slice y1 y2 y3) l) : y2 = l.length := by
  obtain ⟨a', c', e, -⟩ := h
  simp only [Value.slice.injEq] at e
  exact e.2.1
theorem pu_cons {n : Nat} {l : List (Int × Int)} (h : ¬ n = 0) (hl : n = l.length) : ∃ p t, l = p :: t := by
  cases l with
  | nil => exact absurd hl h
  | cons a b => exact ⟨a, b, rfl⟩
theorem pu_one {p : Int × Int} {t l : List (Int × Int)} (h : l = p :: t) : 1 ≤ l.length := by rw [h, List.length_cons]; omega
theorem pu_k {k n : Nat} (h : k < n) (hn : n ≤ 1000) : k < 1000 := by omega
theorem pu_rng {G : Geo} {s : ST} {l : List SN} {k : Nat} {x : SN} {p : Int × Int} {t : List (Int × Int)} (h : StIn G.sg s) (hl : s.sn = l) (hx : l[k]? = some x) (ht : x.tb = p :: t) : 0 ≤ p.1 ∧ p.1 < G.b := by
  have h1 := (h.sn x (by rw [hl]; exact List.mem_of_getElem? hx)).tb.rng p (by rw [ht]; exact List.mem_cons_self ..)
  have : (G.sg.b : Int) = max G.b 0 := by simp only [Geo.sg]; omega
  exact ⟨h1.1, by omega⟩
theorem pu_pos {y2 : Nat} {l t : List (Int × Int)} {p : Int × Int} (h : l = p :: t) (hl : y2 = l.length) : (0 : Int) < (y2 : Int) := by rw [hl, h, List.length_cons]; omega
/-- The numbers of `from`, as the walk leaves them. -/
structure FromR (G : Geo) (k : Nat) (p : Int) (S : Nat) : Prop where
  s : wrap64 (wrap64 (4 + wrap64 ((wrap64 (G.b + 7)).tdiv 8)) + G.b) = (G.sg.step : Int)
  a2 : (G.b + 7).tdiv 8 = (G.sg.n9 : Int)
  f : wrap64 (wrap64 (wrap64 (wrap64 (wrap64 (10 + wrap64 (G.s * G.y)) + wrap64 ((k : Int) * (G.sg.step : Int))) + 4) + wrap64 ((wrap64 (G.b + 7)).tdiv 8)) + p) = (S : Int)
  b8 : wrap64 ((S : Int) + 1) = ((S + 1 : Nat) : Int)
  eq : S = 10 + G.sg.slots + k * G.sg.step + 4 + G.sg.n9 + p.toNat
theorem pu_from {G : Geo} (h : G.good) {k : Nat} (hk : k < 1000) {p : Int} (h0 : 0 ≤ p) (h1 : p < G.b) : ∃ S, FromR G k p S := by
  obtain ⟨⟨b0, b1, s0, s1, y0, y1, -, -⟩, -⟩ := h
  obtain ⟨⟨b, hb⟩, s, y⟩ : (∃ b : Nat, G.b = b) ∧ (∃ s : Nat, G.s = s) ∧ (∃ y : Nat, G.y = y) := ⟨⟨G.b.toNat, by omega⟩, ⟨G.s.toNat, by omega⟩, ⟨G.y.toNat, by omega⟩⟩
  obtain ⟨s, hs⟩ := s
  obtain ⟨y, hy⟩ := y
  have e1 : G.sg.b = b := by simp only [Geo.sg]; omega
  have e2 : G.sg.s = s := by simp only [Geo.sg]; omega
  have e3 : G.sg.y = y := by simp only [Geo.sg]; omega
  have e4 : (G.sg.n9 : Int) = (G.b + 7) / 8 := by
    unfold SG.n9 sizeB
    rw [e1, if_neg (by omega)]
    omega
  have e5 : G.sg.slots = s * y := by unfold SG.slots; rw [e2, e3]
  have e6 : G.sg.step = 4 + G.sg.n9 + b := by unfold SG.step; rw [e1]
  have hsy : s * y ≤ 8 * 4 := Nat.mul_le_mul (by omega) (by omega)
  have hst : G.sg.step ≤ 100 := by omega
  have hks : k * G.sg.step ≤ 1000 * 100 := Nat.mul_le_mul (by omega) hst
  obtain ⟨ks, hkse⟩ : ∃ ks, k * G.sg.step = ks := ⟨_, rfl⟩
  have hmul : (G.s * G.y) = ((s * y : Nat) : Int) := by rw [hs, hy]; push_cast; rfl
  have hkm : (k : Int) * (G.sg.step : Int) = ((k * G.sg.step : Nat) : Int) := by push_cast; rfl
  have w9 : Hid (wrap64 (G.sg.n9 : Int) = (G.sg.n9 : Int)) := IntWalk.wrap64_in _ (by omega)
  have wb : Hid ((wrap64 (G.b + 7)).tdiv 8 = (G.sg.n9 : Int)) := by show _ = _; rw [IntWalk.wrap64_in _ (by omega), Int.tdiv_eq_ediv_of_nonneg (by omega)]; exact e4.symm
  have w1 : Hid (wrap64 (G.s * G.y) = (G.sg.slots : Int)) := by show _ = _; rw [hmul, e5]; exact IntWalk.wrap64_in _ (by omega)
  rw [hkse] at hks
  have w2 : Hid (wrap64 ((k : Int) * (G.sg.step : Int)) = (ks : Int)) := by show _ = _; rw [hkm, hkse]; exact IntWalk.wrap64_in _ (by omega)
  clear hmul hkm
  refine ⟨10 + G.sg.slots + k * G.sg.step + 4 + G.sg.n9 + p.toNat, ?_, ?_, ?_, ?_, rfl⟩
  · rw [wb.out, w9.out, IntWalk.wrap64_in (4 + (G.sg.n9 : Int)) (by omega), IntWalk.wrap64_in _ (by omega)]; omega
  · rw [Int.tdiv_eq_ediv_of_nonneg (by omega)]; exact e4.symm
  · rw [wb.out, w9.out, w1.out, w2.out, hkse, IntWalk.wrap64_in (10 + (G.sg.slots : Int)) (by omega), IntWalk.wrap64_in (10 + (G.sg.slots : Int) + (ks : Int)) (by omega), IntWalk.wrap64_in (10 + (G.sg.slots : Int) + (ks : Int) + 4) (by omega), IntWalk.wrap64_in (10 + (G.sg.slots : Int) + (ks : Int) + 4 + (G.sg.n9 : Int)) (by omega), IntWalk.wrap64_in _ (by omega)]; omega
  · rw [hkse]; rw [IntWalk.wrap64_in _ (by omega)]; omega
end Go.Proofs.YtajamblkjmafmaaGreat

