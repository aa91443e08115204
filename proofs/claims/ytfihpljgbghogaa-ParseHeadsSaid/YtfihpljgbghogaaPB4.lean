/- The ground of the proofs, part 4. -/
import Derived.Test.YtfihpljgbghogaaPB3
import Derived.Test.YtfihpljgbghogaaProg
import Derived.WalkKit
import Derived.Below
import Derived.Lib.Hide
/- The document's parse: all of it; made by a tool. -/
namespace Go.Proofs.Ytfihpljgbghogaa
open Go.RowKit Go.Shelf
set_option linter.unusedVariables false
set_option linter.unusedSimpArgs false
attribute [-simp] Try.isAgg49 Try.zeroValue49 Try.isAgg26 Try.zeroValue26 Try.isAgg31 Try.zeroValue31
attribute [-go_sem] loadVar storeVar
attribute [local go_sem] Oper.semAt_some
section
set_option maxRecDepth 100000
set_option maxHeartbeats 20000000
theorem loadVar_openRG (t : TypeId) (h : t ≠ 49) (h' : t ≠ 26) (h'' : t ≠ 31) (a : Addr) : loadVar t a = (do if ← isAgg t then pure (.agg (← loadCells a (← sizeOf t))) else load a) := rfl
theorem storeVar_openRG (t : TypeId) (h : t ≠ 49) (h' : t ≠ 26) (h'' : t ≠ 31) (a : Addr) (v : Value) : storeVar t a v = (do
    if v.cells.size ≠ (← sizeOf t) then stuck "storeVar: the value has not the size of the variable"
    storeCells a v.cells.toList) := rfl
attribute [local go_sem] loadVar_openRG storeVar_openRG zero_rcP build_rcP zero_smP build_sm3P zero_gt build_gtE build_gtS
theorem add_good {s : SM} {x : RC} (hg : sGood s) : ∃ lo, ((s.re = [] ∧ lo = 0) ∨ ∃ k p, s.re.length = k + 1 ∧ s.re[k]? = some p ∧ 0 ≤ p.fr + p.ct ∧ p.fr + p.ct ≤ 64 ∧ lo = if x.ze == p.ze then p.fr + p.ct + 1 else p.fr + p.ct) ∧ (sGood (s.add x) ↔ plOk s.bl lo x ∧ daOk s.ba x) := by
  have hx : (s.add x).re[s.re.length]? = some x := by show (s.re ++ [x])[s.re.length]? = some x; simp
  have ht : (s.add x).re.take s.re.length = s.re := by show (s.re ++ [x]).take s.re.length = s.re; simp
  have hl : ∀ j, j < s.re.length → leastAt (s.add x).re j = leastAt s.re j := fun j hj => by
    have h1 := leastAt_take (s.add x).re (k := j) (n := s.re.length) hj
    rw [ht] at h1
    exact h1.symm
  have hok : okTo (s.add x) s.re.length := fun j y hj hy => by
    have hy' : s.re[j]? = some y := by
      have : (s.re ++ [x])[j]? = some y := hy
      rwa [List.getElem?_append_left hj] at this
    obtain ⟨h1, h2⟩ := hg.2 j y hy'
    refine ⟨?_, h2⟩
    rw [hl j hj]
    exact h1
  refine ⟨leastAt (s.add x).re s.re.length, ?_, ?_⟩
  · have := least_hyp (s := s.add x) hg.1 hok hx
    rw [ht] at this
    exact this
  · refine ⟨fun h => h.2 _ x hx, fun h => ?_⟩
    have h2 := okTo_succ hok hx h
    refine okTo_all ?_ hg.1
    have : (s.add x).re.length = s.re.length + 1 := by show (s.re ++ [x]).length = _; simp
    rw [this]
    exact h2
set_option maxRecDepth 100000 in
/-- A cut, whatever it leaves. -/
theorem pa_cutG {b o n c K m : Nat} (h1 : K + m ≤ n) (h2 : n ≤ c) (L H : Int) (hL : L = (K : Int)) (hH : H = ((K + m : Nat) : Int)) :
    ∃ ra, (∀ W : World, (Instr.sliceAt 22 (.slice (some ⟨b, o, none⟩) n c) (some (.int .i64 L)) (some (.int .i64 H)) none).run Try.prog W = .ok (.slice ra m (c - K)) W) ∧ ∀ (W : World) (bs : List Int), Sl .u8 W (.slice (some ⟨b, o, none⟩) n c) bs → Sl .u8 W (.slice ra m (c - K)) ((bs.drop K).take m) := by
  subst hH hL
  refine ⟨if c = K then some ⟨b, o, none⟩ else (some (⟨b, o, none⟩ : Addr)).map fun x => x.add K, fun W => ?_, fun W bs h => pa_mid h h1⟩
  rw [run_sliceAt_slice (h := elem_bytes), run_slice_lh (ht := elem_bytes) (kl := .i64) (kh := .i64) (h0 := by omega) (h1 := by omega) (h2 := by omega), sizeOf_byte]
  simp only [Result.andThen, sliced, Int.toNat_natCast, Nat.mul_one]
  rw [show K + m - K = m by omega]
set_option maxRecDepth 100000 in
theorem pa_cutF {b o n c K m : Nat} (h1 : K + m ≤ n) (h2 : n ≤ c) :
    ∃ ra, (∀ (L H : Int), L = (K : Int) → H = ((K + m : Nat) : Int) → ∀ W : World, (Instr.sliceAt 22 (.slice (some ⟨b, o, none⟩) n c) (some (.int .i64 L)) (some (.int .i64 H)) none).run Try.prog W = .ok (.slice ra m (c - K)) W) ∧ ∀ (W : World) (bs : List Int), Sl .u8 W (.slice (some ⟨b, o, none⟩) n c) bs → Sl .u8 W (.slice ra m (c - K)) ((bs.drop K).take m) := by
  obtain ⟨ra, r1, r2⟩ := pa_cutG (b := b) (o := o) h1 h2 (K : Int) ((K + m : Nat) : Int) rfl rfl
  exact ⟨ra, fun L H hL hH W => by subst hL hH; exact r1 W, r2⟩
/-- What lies while the records are read. -/
structure RfI (B D : Nat) (bl ba id : Int) (bs : List Int) (M : Nat) (w : World) (k a : Nat) (s : SM) (u : SlV) (W : World) : Prop where
  go : goP bs (M - k) s a = goP bs M ⟨bl, ba, id, []⟩ 24
  gd : sGood s
  e1 : s.bl = bl
  e2 : s.ba = ba
  e3 : s.id = id
  rd : RowC W D 26 (smL bl ba id u)
  rb : RowC W B 31 [.int .i64 0, .int .i64 0, .int .i64 0, .slice none 0 0, .int .i64 0]
  re : RcO B W (slV u) s.re
  be : Below B w W
theorem RfI.below {B D M k a : Nat} {bl ba id : Int} {bs : List Int} {w W W' : World} {s : SM} {u : SlV} (h : RfI B D bl ba id bs M w k a s u W) (hBW : B ≤ W.heap.size) (hb : Below W.heap.size W W') : RfI B D bl ba id bs M w k a s u W' :=
  ⟨h.go, h.gd, h.e1, h.e2, h.e3, h.rd.below hb, h.rb.below hb, h.re.below hb, h.be.trans (hb.mono hBW)⟩
set_option maxRecDepth 100000 in
/-- **Parse**, the document's. -/
theorem rf_parse {v : Value} {bs : List Int} {w : World} (hv : Sl .u8 w v bs) (hr : IsBytes bs) : Calls Try.prog 9 #[v] w (RfOut bs w) := by
  have hmxo : Try.prog.follows .mixedOrders = true := by kernel_rfl
  have hways := hd_ways bs
  obtain ⟨a0, c, rfl, hca, hmx, hly, -⟩ := (show Sl _ _ _ _ from hv)
  obtain ⟨n, hn⟩ : ∃ n, bs.length = n := ⟨_, rfl⟩
  rw [hn] at hv hca hways ⊢
  obtain ⟨B, hB⟩ : ∃ B, w.heap.size = B := ⟨_, rfl⟩
  obtain ⟨W, hW⟩ : ∃ W, w.alloc (.cells #[.int .i64 0, .int .i64 0, .int .i64 0, .slice none 0 0, .int .i64 0] 31) = W := ⟨_, rfl⟩
  have hK : RowC W B 31 [.int .i64 0, .int .i64 0, .int .i64 0, .slice none 0 0, .int .i64 0] := by rw [← hW, ← hB]; exact RowC.new w _ _
  have hBl : Below B w W := by rw [← hW, ← hB]; exact below_new w _
  have hBW : B ≤ W.heap.size := by rw [← hB]; rw [← hB] at hBl; exact hBl.size
  have hvW := hv.below (hB ▸ hBl)
  have hnn : (n : Int) ≤ 9223372036854775807 := by unfold maxLen at hmx; omega
  have HRB := Lib.hid hr
  have HLN := Lib.hid hn
  have HK := Lib.hid hK
  have HBL := Lib.hid hBl
  have HV : Hid (∀ x : World, Below B w x → Sl .u8 x (.slice a0 n c) bs) := fun x hx => hv.below (hB ▸ hx)
  rcases hways with ⟨h1, hE⟩ | h1
  · have g1 : decide ((n : Int) < 4) = true := by simp; omega
    have g2 : decide (n < 4) = true := by simp; omega
    have hpe : paE bs = 21 := by rw [paE_hd (by rw [hE]; decide), hE]
    obtain ⟨y, hS, hL, hP⟩ := rf_bad hB hpe (by decide) hK rfl hBl
    have HL := Lib.hid hL
    have HP := Lib.hid hP
    clear hL hP
    clear hE hv hvW hK hBl h1 hca hmx hn hr hnn hly hpe
    go_enter Try.func9, Try.ntmps9
    go_wp2_with fail
    exact bodyPost_ret (results_cell rfl rfl HL.out) rfl HP.out
  have h4 : 4 ≤ n := by rcases h1 with h | h | h | h <;> omega
  have g1 : decide ((n : Int) < 4) = false := by simp; omega
  have g2 : decide (n < 4) = false := by simp; omega
  have k1 : (4 : Int) ≤ (n : Int) := by omega
  have k2 : (n : Int) ≤ (c : Int) := by omega
  have s4 := (sl_hi (K := 4) hvW (by omega)).2 W hvW
  have cv := conv_sl s4
  have em := mgk_eq (hr.take 4)
  obtain ⟨s1, hs1⟩ : ∃ s, strOfNums (bs.take 4) = s := ⟨_, rfl⟩
  rw [hs1] at cv em
  clear hs1 s4
  obtain ⟨b, o, rfl, hbw, hcell⟩ : ∃ b o, a0 = some ⟨b, o, none⟩ ∧ b < w.heap.size ∧ ∀ j, j < n → w.cell? ⟨b, o + j, none⟩ = some (.int .u8 (bs[j]?.getD 0)) := by
    rcases hly with h | ⟨b, o, h4', h5', h6⟩
    · rw [h] at hn; simp at hn; omega
    · exact ⟨b, o, h4', h5', fun j hj => h6 j (by omega)⟩
  have HCE : Hid (∀ x : World, Below B w x → ∀ j, j < n → x.cell? ⟨b, o + j, none⟩ = some (.int .u8 (bs[j]?.getD 0))) := fun x hx j hj => ((hB ▸ hx : Below w.heap.size w x).cell (p := ⟨b, o + j, none⟩) hbw).trans (hcell j hj)
  clear hcell hbw hly
  rcases h1 with ⟨h1, h2, hE⟩ | ⟨h1, h2, h3, hE⟩ | h1
  · rw [decide_eq_false h2] at em
    have hpe : paE bs = 20 := by rw [paE_hd (by rw [hE]; decide), hE]
    obtain ⟨y, hS, hL, hP⟩ := rf_bad hB hpe (by decide) hK rfl hBl
    have HL := Lib.hid hL
    have HP := Lib.hid hP
    clear hL hP
    clear hE hv hvW hK hBl h1 hca hmx hn hr hnn h2 h4 hpe
    go_enter Try.func9, Try.ntmps9
    go_wp2_with fail
    exact bodyPost_ret (results_cell rfl rfl HL.out) rfl HP.out
  · rw [decide_eq_true h2] at em
    have g3 : decide ((n : Int) < 24) = true := by simp; omega
    have g4 : decide (n < 24) = true := by simp; omega
    have hpe : paE bs = 21 := by rw [paE_hd (by rw [hE]; decide), hE]
    obtain ⟨y, hS, hL, hP⟩ := rf_bad hB hpe (by decide) hK rfl hBl
    have HL := Lib.hid hL
    have HP := Lib.hid hP
    clear hL hP
    clear hE hv hvW hK hBl h1 hca hmx hn hr hnn h2 h3 h4 hpe
    go_enter Try.func9, Try.ntmps9
    go_wp2_with fail
    exact bodyPost_ret (results_cell rfl rfl HL.out) rfl HP.out
  have h24 : 24 ≤ n := by rcases h1 with h | h <;> omega
  have h2 : bs.take 4 = mgk := by rcases h1 with h | h <;> exact h.2.1
  rw [decide_eq_true h2] at em
  have g3 : decide ((n : Int) < 24) = false := by simp; omega
  have g4 : decide (n < 24) = false := by simp; omega
  have k3 : (24 : Int) ≤ (n : Int) := by omega
  have k4 : (24 : Int) ≤ (c : Int) := by omega
  have q24 := rf17_sealed ((sl_hi (K := 24) hvW (by omega)).2 W hvW) (hr.take 24) (m := 16) (by rw [List.length_take]; omega)
  rw [List.take_take, List.drop_take] at q24
  have HQ := Lib.hid q24
  clear q24
  rcases h1 with ⟨-, -, h3, hE⟩ | ⟨-, -, h3, hE⟩
  · rw [show min 16 24 = 16 from rfl, show 24 - 16 = 8 from rfl, decide_eq_false h3] at HQ
    have hpe : paE bs = 22 := by rw [paE_hd (by rw [hE]; decide), hE]
    have HPE := Lib.hid hpe
    clear hE hv hvW hK hBl h24 hca hmx hn hr hnn h2 h3 h4 hpe
    go_enter Try.func9, Try.ntmps9
    go_wp2_with fail
    refine HQ.out.mono ?_
    rintro e x1 ⟨rfl, hb⟩
    obtain ⟨y, hS, hL, hP⟩ := rf_bad hB HPE.out (by decide) (HK.out.below hb) rfl (HBL.out.trans (hb.mono hBW))
    have HL := Lib.hid hL
    have HP := Lib.hid hP
    clear hL hP
    clear hb
    go_wp2_with fail
    exact bodyPost_ret (results_cell rfl rfl HL.out) rfl HP.out
  rw [show min 16 24 = 16 from rfl, show 24 - 16 = 8 from rfl, decide_eq_true h3] at HQ
  have hc4 : ¬ c = 4 := by omega
  have hc6 : ¬ c = 6 := by omega
  have hc10 : ¬ c = 10 := by omega
  have hc14 : ¬ c = 14 := by omega
  obtain ⟨bl, hbl⟩ : ∃ q, getL ((bs.drop 4).take 2) = q := ⟨_, rfl⟩
  obtain ⟨nx, hnx⟩ : ∃ q, getL ((bs.drop 6).take 4) = q := ⟨_, rfl⟩
  obtain ⟨id, hid⟩ : ∃ q, getL ((bs.drop 10).take 4) = q := ⟨_, rfl⟩
  obtain ⟨cn, hcn⟩ : ∃ q, getL ((bs.drop 14).take 2) = q := ⟨_, rfl⟩
  have b1 := getL_bdN (hr.drop 4) 2 (by omega)
  have b2 := getL_bdN (hr.drop 6) 4 (by omega)
  have b3 := getL_bdN (hr.drop 10) 4 (by omega)
  have b4 := getL_bdN (hr.drop 14) 2 (by omega)
  have hS0 : hdS bs = ⟨bl, nx - 1, id, []⟩ := by unfold hdS; rw [hbl, hnx, hid]
  have hM0 : cn = (hdM bs : Int) := by unfold hdM; rw [hcn, Int.toNat_of_nonneg (by rw [← hcn]; exact b4.1)]
  have hN : ∀ (k m : Nat) (q : Int), k + m ≤ n → ¬ k = 0 → ¬ c = k → getL ((bs.drop k).take m) = q → m ≤ 4 → Hid (∀ x : World, Below B w x → Calls Try.prog 24 #[.slice (some ⟨b, o + k, none⟩) m (c - k)] x fun e w' => e = .returned (.int .i64 q) ∧ w' = x) := fun k m q hk hk0 hck hq hm x hx => by
    have hs := pa_mid (hv.below (hB ▸ hx)) (K := k) (m := m) hk
    rw [if_neg hck] at hs
    have hs' : Sl .u8 x (.slice (some ⟨b, o + k, none⟩) m (c - k)) ((bs.drop k).take m) := by simpa [Addr.add, hk0] using hs
    rw [← hq]
    refine rf17_num hs' ((hr.drop k).take m) ?_
    have := (getL_bdN (hr.drop k) m (by omega)).2
    have h2 : (2 : Int) ^ (8 * m) ≤ 2 ^ 32 := by exact_mod_cast Nat.pow_le_pow_right (by omega : 0 < 2) (by omega)
    simp only [Int.reducePow] at h2
    omega
  have N1 := hN 4 2 bl (by omega) (by omega) hc4 hbl (by omega)
  have N2 := hN 6 4 nx (by omega) (by omega) hc6 hnx (by omega)
  have N3 := hN 10 4 id (by omega) (by omega) hc10 hid (by omega)
  have N4 := hN 14 2 cn (by omega) (by omega) hc14 hcn (by omega)
  rw [hbl] at b1 hE
  rw [hnx] at b2 hE
  rw [hid] at b3 hE
  rw [hcn] at b4
  obtain ⟨bl0, bl1⟩ := b1
  obtain ⟨nx0, nx1⟩ := b2
  obtain ⟨id0, id1⟩ := b3
  obtain ⟨cn0, cn1⟩ := b4
  simp only [Nat.reduceMul, Int.reducePow] at bl1 nx1 id1 cn1
  have HSM := Lib.hid hS0
  have HMM := Lib.hid hM0
  have HEE := Lib.hid hE
  have HCA := Lib.hid hca
  have H24 := Lib.hid h24
  clear hE hv hvW hK hBl hca hmx hn hr h2 h3 h4 h24 hbl hnx hid hcn hS0 hM0 hN
  go_enter Try.func9, Try.ntmps9
  go_wp2_with fail
  refine HQ.out.mono ?_
  rintro e x0 ⟨rfl, hb0⟩
  have K0 : Hid (Below B w x0) := HBL.out.trans (hb0.mono hBW)
  have HK0 := Lib.hid (HK.out.below hb0)
  clear hb0 em cv HQ
  go_wp2_with fail
  obtain ⟨V, hV⟩ : ∃ V, x0.drew = V := ⟨_, rfl⟩
  have KV : Hid (Below B w V) := by show Below _ _ _; rw [← hV]; exact K0.out.drew
  have b0V : Below x0.heap.size x0 V := by rw [← hV]; exact (Below.refl _ _).drew
  have HKV := Lib.hid (HK0.out.below b0V)
  obtain ⟨D, hD⟩ : ∃ D, V.heap.size = D := ⟨_, rfl⟩
  have hBD : B < D := by rw [← hD]; exact HKV.out.lt
  obtain ⟨Y, hY⟩ : ∃ Y, V.alloc (.cells #[.int .i64 0, .int .i64 0, .int .i64 0, .slice none 0 0] 26) = Y := ⟨_, rfl⟩
  have bVY : Below V.heap.size V Y := by rw [← hY]; exact below_new _ _
  have KY : Hid (Below B w Y) := KV.out.trans (bVY.mono (by rw [hD]; omega))
  have hVV : Hid (∃ z : Ext V, V = z.1) := ⟨⟨V, Below.refl _ _⟩, rfl⟩
  have hYY : Hid (∃ z : Ext V, Y = z.1) := ⟨⟨Y, bVY⟩, rfl⟩
  clear b0V bVY
  refine region_plan (fun x => ∃ z : Ext V, x = z.1) 12 (.takes [0, 1, 3, 4, 7, 8] (.two 2 11 (.two 5 11 (.takes [6] (.two 9 11 (.takes [10] (.one 11 .leaf)) (.one 9 (.takes [10] .leaf)))) (.one 5 (.takes [6] (.one 9 (.takes [10] .leaf))))) (.one 2 (.one 5 (.takes [6] (.one 9 (.takes [10] .leaf))))))) hmxo (by kernel_rfl) (by intro c x v a w h; cases x <;> exact h) (by rw [hV]; exact hVV.out) ?_
  rw [hV]
  repeat (rw [wpPlan_takes_cons]; simp only [nth_zero, nth_succ]; go_big_quiet_step (fail); refine wpQuiet_nil ?_)
  rw [wpPlan_takes_nil]
  refine' plan_have (ι := Unit) .leaf (fun _ => _) (fun _ x => x = Y) _ _
  rotate_left 2
  · intro H1
    rw [wpPlan_two]
    refine ⟨?_, ?_⟩
    · simp only [nth_zero, nth_succ]
      go_wp2_with fail
      refine (N1.out V KV.out).mono ?_
      rintro e zz ⟨rfl, hz⟩
      subst zz
      go_wp2_with fail
      refine planPost_mk hVV.out ?_
      rw [wpPlan_two]
      refine ⟨?_, ?_⟩
      · simp only [nth_zero, nth_succ]
        go_wp2_with fail
        refine (N2.out V KV.out).mono ?_
        rintro e zz ⟨rfl, hz⟩
        subst zz
        go_wp2_with fail
        refine planPost_mk hVV.out ?_
        repeat (rw [wpPlan_takes_cons]; simp only [nth_zero, nth_succ]; go_big_quiet_step (fail); refine wpQuiet_nil ?_)
        rw [wpPlan_takes_nil]
        rw [wpPlan_two]
        refine ⟨?_, ?_⟩
        · simp only [nth_zero, nth_succ]
          go_wp2_with fail
          refine (N3.out V KV.out).mono ?_
          rintro e zz ⟨rfl, hz⟩
          subst zz
          go_wp2_with fail
          refine planPost_mk hVV.out ?_
          repeat (rw [wpPlan_takes_cons]; simp only [nth_zero, nth_succ]; go_big_quiet_step (fail); refine wpQuiet_nil ?_)
          rw [wpPlan_takes_nil]
          rw [wpPlan_one]
          simp only [nth_zero, nth_succ]
          go_wp2_with fail
          try rw [hY]
          try rw [hD]
          refine planPost_mk hYY.out ?_
          exact H1 () _ rfl
        · simp only [nth_zero, nth_succ]
          go_wp2_with fail
          try rw [hY]
          try rw [hD]
          refine planPost_mk hYY.out ?_
          rw [wpPlan_one]
          simp only [nth_zero, nth_succ]
          go_wp2_with fail
          refine (N3.out Y KY.out).mono ?_
          rintro e zz ⟨rfl, hz⟩
          subst zz
          go_wp2_with fail
          refine planPost_mk hYY.out ?_
          repeat (rw [wpPlan_takes_cons]; simp only [nth_zero, nth_succ]; go_big_quiet_step (fail); refine wpQuiet_nil ?_)
          rw [wpPlan_takes_nil]
          exact H1 () _ rfl
      · simp only [nth_zero, nth_succ]
        go_wp2_with fail
        try rw [hY]
        try rw [hD]
        refine planPost_mk hYY.out ?_
        rw [wpPlan_one]
        simp only [nth_zero, nth_succ]
        go_wp2_with fail
        refine (N2.out Y KY.out).mono ?_
        rintro e zz ⟨rfl, hz⟩
        subst zz
        go_wp2_with fail
        refine planPost_mk hYY.out ?_
        repeat (rw [wpPlan_takes_cons]; simp only [nth_zero, nth_succ]; go_big_quiet_step (fail); refine wpQuiet_nil ?_)
        rw [wpPlan_takes_nil]
        rw [wpPlan_one]
        simp only [nth_zero, nth_succ]
        go_wp2_with fail
        refine (N3.out Y KY.out).mono ?_
        rintro e zz ⟨rfl, hz⟩
        subst zz
        go_wp2_with fail
        refine planPost_mk hYY.out ?_
        repeat (rw [wpPlan_takes_cons]; simp only [nth_zero, nth_succ]; go_big_quiet_step (fail); refine wpQuiet_nil ?_)
        rw [wpPlan_takes_nil]
        exact H1 () _ rfl
    · simp only [nth_zero, nth_succ]
      go_wp2_with fail
      try rw [hY]
      try rw [hD]
      refine planPost_mk hYY.out ?_
      rw [wpPlan_one]
      simp only [nth_zero, nth_succ]
      go_wp2_with fail
      refine (N1.out Y KY.out).mono ?_
      rintro e zz ⟨rfl, hz⟩
      subst zz
      go_wp2_with fail
      refine planPost_mk hYY.out ?_
      rw [wpPlan_one]
      simp only [nth_zero, nth_succ]
      go_wp2_with fail
      refine (N2.out Y KY.out).mono ?_
      rintro e zz ⟨rfl, hz⟩
      subst zz
      go_wp2_with fail
      refine planPost_mk hYY.out ?_
      repeat (rw [wpPlan_takes_cons]; simp only [nth_zero, nth_succ]; go_big_quiet_step (fail); refine wpQuiet_nil ?_)
      rw [wpPlan_takes_nil]
      rw [wpPlan_one]
      simp only [nth_zero, nth_succ]
      go_wp2_with fail
      refine (N3.out Y KY.out).mono ?_
      rintro e zz ⟨rfl, hz⟩
      subst zz
      go_wp2_with fail
      refine planPost_mk hYY.out ?_
      repeat (rw [wpPlan_takes_cons]; simp only [nth_zero, nth_succ]; go_big_quiet_step (fail); refine wpQuiet_nil ?_)
      rw [wpPlan_takes_nil]
      exact H1 () _ rfl
  intro _ x hx
  subst x
  rw [wpPlan_leaf]
  simp only [List.drop_succ_cons, List.drop_zero]
  clear N1 N2 N3 HKV
  obtain ⟨ba, hba⟩ : ∃ q, nx - 1 = q := ⟨_, rfl⟩
  rw [hba] at HSM ⊢
  obtain ⟨Y2, hY2⟩ : ∃ X, V.alloc (.cells #[.int .i64 bl, .int .i64 ba, .int .i64 id, .slice none 0 0] 26) = X := ⟨_, rfl⟩
  have ST : (storeVar 26 ⟨D, 0, none⟩ (.agg #[.int .i64 bl, .int .i64 ba, .int .i64 id, .slice none 0 0])).run Try.prog Y = .ok () Y2 := by rw [← hY, ← hY2, ← hD]; exact new_sm V bl ba id (none, 0, 0)
  have bV2 : Below V.heap.size V Y2 := by rw [← hY2]; exact below_new _ _
  have rd2 : RowC Y2 D 26 (smL bl ba id (none, 0, 0)) := by rw [← hY2, ← hD]; exact RowC.new V _ _
  have rb2 : RowC Y2 B 31 [.int .i64 0, .int .i64 0, .int .i64 0, .slice none 0 0, .int .i64 0] := (HK0.out.below (by rw [← hV]; exact (Below.refl _ _).drew)).below bV2
  have be2 : Below B w Y2 := KV.out.trans (bV2.mono (by rw [hD]; omega))
  have c0 := rd2.cell 0 _ rfl
  have c1 := rd2.cell 1 _ rfl
  have LD : (loadVar 26 ⟨D, 0, none⟩).run Try.prog Y2 = .ok (.agg #[.int .i64 bl, .int .i64 ba, .int .i64 id, .slice none 0 0]) Y2 := load_smC rd2
  have HN4 := Lib.hid (N4.out Y2 be2)
  have RD2 := Lib.hid rd2
  have RB2 := Lib.hid rb2
  have BE2 := Lib.hid be2
  clear bV2 rd2 rb2 be2 hY2
  go_wp2_with fail
  refine HN4.out.mono ?_
  rintro e zz ⟨rfl, hz⟩
  subst zz
  clear ST
  rcases HEE.out with ⟨h5, hE⟩ | ⟨h5, h6, h7, hE⟩ | ⟨h5, h6, h7, hE⟩
  · have hpe : paE bs = 23 := by rw [paE_hd (by rw [hE]; decide), hE]
    obtain ⟨y, hS, hL, hP⟩ := rf_bad hB hpe (by decide) RB2.out rfl BE2.out
    have HL := Lib.hid hL
    have HP := Lib.hid hP
    clear hL hP
    rcases (show bl < 1 ∨ (¬ bl < 1 ∧ 64 < bl) by omega) with h | ⟨h, h'⟩
    · have g5 : decide (bl < 1) = true := by simpa using h
      clear h h5 hE hpe HEE
      go_wp2_with fail
      exact bodyPost_ret (results_cell rfl rfl HL.out) rfl HP.out
    · have g5 : decide (bl < 1) = false := by simpa using h
      have g6 : decide (64 < bl) = true := by simpa using h'
      clear h h' h5 hE hpe HEE
      go_wp2_with fail
      exact bodyPost_ret (results_cell rfl rfl HL.out) rfl HP.out
  · have hpe : paE bs = 25 := by rw [paE_hd (by rw [hE]; decide), hE]
    have g5 : decide (bl < 1) = false := by simpa using h5
    have g6 : decide (64 < bl) = false := by simpa using h6
    have hno : ¬ hdOk bl ba id := fun h => by
      rw [← hba] at h
      have := (idsOk_iff (bl := bl) ⟨h5, h6⟩).2 h
      rw [h7] at this; cases this
    by_cases hz : ba = 0
    · have g7 : (ba == 0) = true := by simpa using hz
      obtain ⟨y, hS, hL, hP⟩ := rf_bad hB hpe (by decide) RB2.out rfl BE2.out
      have HL := Lib.hid hL
      have HP := Lib.hid hP
      clear hL hP
      clear h5 h6 h7 hE hpe HEE hno hz
      go_wp2_with fail
      exact bodyPost_ret (results_cell rfl rfl HL.out) rfl HP.out
    · have g7 : (ba == 0) = false := by simpa using hz
      have HHD := Lib.hid (calls_no (rf16_head bl ba id (none, 0, 0) Y2) hno)
      simp only [smV, slV] at HHD
      have HPE := Lib.hid hpe
      clear h5 h6 h7 hE hpe HEE hno hz
      go_wp2_with fail
      refine HHD.out.mono ?_
      rintro e x9 ⟨rfl, hb⟩
      obtain ⟨y, hS, hL, hP⟩ := rf_bad hB HPE.out (by decide) (RB2.out.below hb) rfl (BE2.out.trans (hb.mono (Nat.le_of_lt RB2.out.lt)))
      have HL := Lib.hid hL
      have HP := Lib.hid hP
      clear hL hP
      clear hb
      go_wp2_with fail
      exact bodyPost_ret (results_cell rfl rfl HL.out) rfl HP.out
  have g5 : decide (bl < 1) = false := by simpa using h5
  have g6 : decide (64 < bl) = false := by simpa using h6
  have hok : hdOk bl ba id := by rw [← hba]; exact (idsOk_iff (bl := bl) ⟨h5, h6⟩).1 h7
  have g7 : (ba == 0) = false := by
    obtain ⟨-, -, -, -, h⟩ := hok
    rw [beq_eq_false_iff_ne]
    omega
  have HHD := Lib.hid (calls_yes (rf16_head bl ba id (none, 0, 0) Y2) hok)
  simp only [smV, slV] at HHD
  obtain ⟨M, hM⟩ : ∃ M, hdM bs = M := ⟨_, rfl⟩
  have hcM : cn = (M : Int) := by rw [← hM]; exact HMM.out
  subst hcM
  have hS0 := HSM.out
  have HPE : Hid (paE bs = if (goP bs M ⟨bl, ba, id, []⟩ 24).1 ≠ 0 then (goP bs M ⟨bl, ba, id, []⟩ 24).1 else enE bs (goP bs M ⟨bl, ba, id, []⟩ 24).2.2) := by
    show _ = _
    unfold paE
    rw [if_neg (by simp [hE]), hM, hS0]
  have HPS : Hid (paE bs = 0 → paS bs = (goP bs M ⟨bl, ba, id, []⟩ 24).2.1) := fun e => by
    unfold paS
    rw [if_pos e, hM, hS0]
  have HOK := Lib.hid hok
  have hbl64 : Hid (1 ≤ bl ∧ bl ≤ 64) := ⟨h5, h6⟩
  clear hok hM hS0 hE h7 HEE HSM HMM
  go_wp2_with fail
  refine HHD.out.mono ?_
  rintro e X9 ⟨rfl, hb⟩
  have I0 : RfI B D bl ba id bs M w 0 24 ⟨bl, ba, id, []⟩ (none, 0, 0) X9 :=
    ⟨rfl, ⟨HOK.out, fun k x hk => by cases hk⟩, rfl, rfl, rfl, RD2.out.below hb, RB2.out.below hb, RcO.nil _ _, BE2.out.trans (hb.mono (Nat.le_of_lt RB2.out.lt))⟩
  have HI0 := Lib.hid I0
  clear hb I0 LD c0 c1 hba HHD HN4 RD2 RB2 BE2
  clear hVV hYY
  go_wp2_with fail
  go_loopw [5, 6] (fun av iv wr => ∃ (k a : Nat) (s : SM) (u : SlV), k ≤ M ∧ a ≤ n ∧ av = .int .i64 (a : Int) ∧ iv = .int .i64 (k : Int) ∧ Hid (RfI B D bl ba id bs M w k a s u wr)) (fun _ iv _ => M - (intOf iv).toNat)
  case atStart => exact ⟨0, 24, _, _, Nat.zero_le _, H24.out, rfl, rfl, HI0⟩
  case round =>
    obtain ⟨k, a, s, u, hk, han, rfl, rfl, HI⟩ := hrel
    obtain ⟨u1, u2, u3⟩ := u
    have k2 : (n : Int) ≤ (c : Int) := by have := HCA.out; omega
    have ka : (a : Int) ≤ (n : Int) := by omega
    have ka0 : (0 : Int) ≤ (a : Int) := by omega
    by_cases hkM : k < M
    · have g1 : (k : Int) < (M : Int) := by omega
      have g2 : decide ((k : Int) < (M : Int)) = true := by simpa using g1
      obtain ⟨N1, hN1⟩ : ∃ N, M - k = N + 1 := ⟨M - k - 1, by omega⟩
      have HN1 : Hid (M - (k + 1) = N1) := by show _ = _; omega
      have HKM := Lib.hid hkM
      have HGO : Hid (goP bs (N1 + 1) s a = goP bs M ⟨bl, ba, id, []⟩ 24) := by show _ = _; rw [← hN1]; exact HI.out.go
      have HERR : Hid (∀ E : Int, rcE bl (bs.drop a) = E → E ≠ 0 → paE bs = E) := fun E hE h0 => by
        have hgo : goP bs (N1 + 1) s a = (rcE s.bl (bs.drop a), s, a) := goP_bad (by rw [HI.out.e1, hE]; exact h0)
        rw [HGO.out, HI.out.e1, hE] at hgo
        rw [HPE.out, hgo]
        exact if_pos h0
      have hways := rc_ways bl (bs.drop a)
      rw [List.length_drop, HLN.out] at hways
      clear hkM
      rcases hways with ⟨h5, hE⟩ | ⟨h5, hways⟩
      · have g3 : decide ((n : Int) - (a : Int) < 5) = true := by simp; omega
        have hpe : paE bs = 21 := HERR.out 21 (by rw [hE]) (by decide)
        obtain ⟨y, hS, hL, hP⟩ := rf_bad hB hpe (by decide) HI.out.rb rfl HI.out.be
        have HL := Lib.hid hL
        have HP := Lib.hid hP
        clear hL hP
        clear hpe hE h5
        go_wp2_with fail
        exact bodyPost_ret (results_cell rfl rfl HL.out) rfl HP.out
      have g3 : decide ((n : Int) - (a : Int) < 5) = false := by simp; omega
      have ka5 : (a : Int) + 5 ≤ (n : Int) := by omega
      have hlt : a < n := by omega
      obtain ⟨m, hm⟩ : ∃ y, bs[a]?.getD 0 = y := ⟨_, rfl⟩
      have HMA := Lib.hid hm
      have hdm : (bs.drop a)[0]?.getD 0 = m := by rw [← hm, List.getElem?_drop, Nat.add_zero]
      obtain ⟨N, hN⟩ : ∃ N, rcNb (bs.drop a) = N := ⟨_, rfl⟩
      have hNd : N = rcN m (getL (((bs.drop a).drop 3).take 2)) := by rw [← hN, ← hdm]; rfl
      rw [hN] at hways
      obtain ⟨fr, hfr⟩ : ∃ q, getL (((bs.drop a).drop 1).take 2) = q := ⟨_, rfl⟩
      obtain ⟨ct, hct⟩ : ∃ q, getL (((bs.drop a).drop 3).take 2) = q := ⟨_, rfl⟩
      have b1 := getL_bdN ((HRB.out.drop a).drop 1) 2 (by omega)
      have b2 := getL_bdN ((HRB.out.drop a).drop 3) 2 (by omega)
      rw [hdm, hfr, hct] at hways
      rw [hct] at hNd
      rw [hfr] at b1
      rw [hct] at b2
      rw [List.drop_drop] at hfr hct
      obtain ⟨fr0, fr1⟩ := b1
      obtain ⟨ct0, ct1⟩ := b2
      simp only [Nat.reduceMul, Int.reducePow] at fr1 ct1
      have HND := Lib.hid hNd
      obtain ⟨r1, q1, p1⟩ := pa_cutG (b := b) (o := o) (K := a + 1) (m := 2) (n := n) (c := c) (by omega) HCA.out ((a : Int) + 1) ((a : Int) + 3) (by push_cast; omega) (by push_cast; omega)
      obtain ⟨r3, q3, p3⟩ := pa_cutG (b := b) (o := o) (K := a + 3) (m := 2) (n := n) (c := c) (by omega) HCA.out ((a : Int) + 3) ((a : Int) + 5) (by push_cast; omega) (by push_cast; omega)
      have Q1 := Lib.hid q1
      have Q3 := Lib.hid q3
      have N1' : Hid (∀ x : World, Below B w x → Calls Try.prog 24 #[.slice r1 2 (c - (a + 1))] x fun e w' => e = .returned (.int .i64 fr) ∧ w' = x) := fun x hx => by
        rw [← hfr]
        exact rf17_num (p1 x bs (HV.out x hx)) ((HRB.out.drop _).take 2) (by rw [hfr]; omega)
      have N3' : Hid (∀ x : World, Below B w x → Calls Try.prog 24 #[.slice r3 2 (c - (a + 3))] x fun e w' => e = .returned (.int .i64 ct) ∧ w' = x) := fun x hx => by
        rw [← hct]
        exact rf17_num (p3 x bs (HV.out x hx)) ((HRB.out.drop _).take 2) (by rw [hct]; omega)
      obtain ⟨V, hV⟩ : ∃ V, wr.drew = V := ⟨_, rfl⟩
      have b1V : Below wr.heap.size wr V := by rw [← hV]; exact (Below.refl _ _).drew
      have IV := HI.out.below (Nat.le_of_lt HI.out.rb.lt) b1V
      have KV : Hid (Below B w V) := IV.be
      obtain ⟨R, hD⟩ : ∃ R, V.heap.size = R := ⟨_, rfl⟩
      have hBR : B < R := by rw [← hD]; exact IV.rb.lt
      have hDR : D < R := by rw [← hD]; exact IV.rd.lt
      obtain ⟨Y, hY⟩ : ∃ Y, V.alloc (.cells #[.int .i64 0, .int .i64 0, .bool false, .slice none 0 0] 49) = Y := ⟨_, rfl⟩
      have bVY : Below V.heap.size V Y := by rw [← hY]; exact below_new _ _
      have KY : Hid (Below B w Y) := KV.out.trans (bVY.mono (by rw [hD]; omega))
      have hVV : Hid (∃ z : Ext V, V = z.1) := ⟨⟨V, Below.refl _ _⟩, rfl⟩
      have hYY : Hid (∃ z : Ext V, Y = z.1) := ⟨⟨Y, bVY⟩, rfl⟩
      have c0 : ∀ y : Ext V, y.1.cell? ⟨b, o + a, none⟩ = some (.int .u8 m) := fun y => by
        have := HCE.out y.1 (KV.out.trans (y.2.mono (by rw [hD]; omega))) a hlt
        rw [HMA.out] at this
        exact this
      have HW := Lib.hid hways
      have HIV := Lib.hid IV
      clear IV bVY b1V q1 q3 p1 p3 hfr hct hN hNd hdm hm hways
      go_wp2_with fail
      refine region_plan (fun x => ∃ z : Ext V, x = z.1) 21 (.takes [0, 1, 2, 3, 4, 5, 7, 8, 9, 10, 11, 12, 14, 15, 16, 17, 18] (.two 6 20 (.two 13 20 (.takes [19] (.one 20 .leaf)) (.one 13 (.takes [19] .leaf))) (.one 6 (.one 13 (.takes [19] .leaf))))) hmxo (by kernel_rfl) (by intro c x v a w h; cases x <;> exact h) (by rw [hV]; exact hVV.out) ?_
      rw [hV]
      iterate 5 (rw [wpPlan_takes_cons]; simp only [nth_zero, nth_succ]; go_big_quiet_step (fail); refine wpQuiet_nil ?_)
      rw [wpPlan_takes_cons]; simp only [nth_zero, nth_succ]; refine wpQuiet_slice_runP (.tmp 70) 22 (some (.tmp 72)) (some (.tmp 74)) rfl rfl _ _ _ _ rfl rfl rfl (fun x _ => Q1.out x) ?_; refine wpQuiet_nil ?_; simp only [Act.put, List.setIfInBounds_toArray, List.set_cons_succ, List.set_cons_zero]
      iterate 5 (rw [wpPlan_takes_cons]; simp only [nth_zero, nth_succ]; go_big_quiet_step (fail); refine wpQuiet_nil ?_)
      rw [wpPlan_takes_cons]; simp only [nth_zero, nth_succ]; refine wpQuiet_slice_runP (.tmp 77) 22 (some (.tmp 79)) (some (.tmp 81)) rfl rfl _ _ _ _ rfl rfl rfl (fun x _ => Q3.out x) ?_; refine wpQuiet_nil ?_; simp only [Act.put, List.setIfInBounds_toArray, List.set_cons_succ, List.set_cons_zero]
      repeat (rw [wpPlan_takes_cons]; simp only [nth_zero, nth_succ]; go_big_quiet_step (fail); refine wpQuiet_nil ?_)
      rw [wpPlan_takes_nil]
      clear c0
      refine' plan_have (ι := Unit) .leaf (fun _ => _) (fun _ x => x = Y) _ _
      rotate_left 2
      · intro H1
        rw [wpPlan_two]
        refine ⟨?_, ?_⟩
        · simp only [nth_zero, nth_succ]
          go_wp2_with fail
          refine (N1'.out V KV.out).mono ?_
          rintro e zz ⟨rfl, hz⟩
          subst zz
          go_wp2_with fail
          refine planPost_mk hVV.out ?_
          rw [wpPlan_two]
          refine ⟨?_, ?_⟩
          · simp only [nth_zero, nth_succ]
            go_wp2_with fail
            refine (N3'.out V KV.out).mono ?_
            rintro e zz ⟨rfl, hz⟩
            subst zz
            go_wp2_with fail
            refine planPost_mk hVV.out ?_
            repeat (rw [wpPlan_takes_cons]; simp only [nth_zero, nth_succ]; go_big_quiet_step (fail); refine wpQuiet_nil ?_)
            rw [wpPlan_takes_nil]
            rw [wpPlan_one]
            simp only [nth_zero, nth_succ]
            go_wp2_with fail
            try rw [hY]
            try rw [hD]
            refine planPost_mk hYY.out ?_
            exact H1 () _ rfl
          · simp only [nth_zero, nth_succ]
            go_wp2_with fail
            try rw [hY]
            try rw [hD]
            refine planPost_mk hYY.out ?_
            rw [wpPlan_one]
            simp only [nth_zero, nth_succ]
            go_wp2_with fail
            refine (N3'.out Y KY.out).mono ?_
            rintro e zz ⟨rfl, hz⟩
            subst zz
            go_wp2_with fail
            refine planPost_mk hYY.out ?_
            repeat (rw [wpPlan_takes_cons]; simp only [nth_zero, nth_succ]; go_big_quiet_step (fail); refine wpQuiet_nil ?_)
            rw [wpPlan_takes_nil]
            exact H1 () _ rfl
        · simp only [nth_zero, nth_succ]
          go_wp2_with fail
          try rw [hY]
          try rw [hD]
          refine planPost_mk hYY.out ?_
          rw [wpPlan_one]
          simp only [nth_zero, nth_succ]
          go_wp2_with fail
          refine (N1'.out Y KY.out).mono ?_
          rintro e zz ⟨rfl, hz⟩
          subst zz
          go_wp2_with fail
          refine planPost_mk hYY.out ?_
          rw [wpPlan_one]
          simp only [nth_zero, nth_succ]
          go_wp2_with fail
          refine (N3'.out Y KY.out).mono ?_
          rintro e zz ⟨rfl, hz⟩
          subst zz
          go_wp2_with fail
          refine planPost_mk hYY.out ?_
          repeat (rw [wpPlan_takes_cons]; simp only [nth_zero, nth_succ]; go_big_quiet_step (fail); refine wpQuiet_nil ?_)
          rw [wpPlan_takes_nil]
          exact H1 () _ rfl
      intro _ x hx
      subst x
      rw [wpPlan_leaf]
      simp only [List.drop_succ_cons, List.drop_zero]
      obtain ⟨z, hz⟩ : ∃ z, (m == 2) = z := ⟨_, rfl⟩
      rw [hz]
      obtain ⟨y1, hy1⟩ : ∃ X, V.alloc (.cells #[.int .i64 fr, .int .i64 ct, .bool z, .slice none 0 0] 49) = X := ⟨_, rfl⟩
      have ST : (storeVar 49 ⟨R, 0, none⟩ (.agg #[.int .i64 fr, .int .i64 ct, .bool z, .slice none 0 0])).run Try.prog Y = .ok () y1 := by rw [← hY, ← hy1, ← hD]; exact new_rc V (fr, ct, z, (none, 0, 0))
      have bV1 : Below V.heap.size V y1 := by rw [← hy1]; exact below_new _ _
      have rr1 : RowC y1 R 49 (rvL (fr, ct, z, (none, 0, 0))) := by rw [← hy1, ← hD]; exact RowC.new V _ _
      have J1 := Lib.hid (HIV.out.below (by rw [hD]; omega) bV1)
      have RR1 := Lib.hid rr1
      have B1V := Lib.hid bV1
      have c0 := HCE.out y1 J1.out.be a hlt
      rw [HMA.out] at c0
      have d0 := rr1.cell 0 _ rfl
      have d1 := rr1.cell 1 _ rfl
      have dD := J1.out.rd.cell 0 _ rfl
      have bl0' := hbl64.out.1
      have bl1' := hbl64.out.2
      clear bV1 rr1 hy1 hVV hYY N1' N3' Q1 Q3
      rcases HW.out with ⟨h1, h2, hE⟩ | ⟨h1, hw3⟩
      · have g4 : (m != 1) = true := by simpa using h1
        have g4' : (m != 2) = true := by simpa using h2
        have hpe : paE bs = 11 := HERR.out 11 (by rw [hE]) (by decide)
        obtain ⟨y, hS, hL, hP⟩ := rf_bad hB hpe (by decide) J1.out.rb rfl J1.out.be
        have HL := Lib.hid hL
        have HP := Lib.hid hP
        clear hL hP
        clear hpe hE h1 h2
        go_wp2_with fail
        exact bodyPost_ret (results_cell rfl rfl HL.out) rfl HP.out
      clear HW
      rcases h1 with rfl | rfl
      · have hzz : z = false := by rw [← hz]; rfl
        subst hzz
        have hNv : (N : Int) = ct * 64 := by
          have := HND.out
          unfold rcN at this
          rw [if_neg (by decide)] at this; omega
        have d2 := RR1.out.cell 2 _ rfl
        rcases hw3 with ⟨h5, hE⟩ | ⟨h5, h6, h7⟩
        · rcases (show ct < 1 ∨ (¬ ct < 1 ∧ bl ≤ fr) ∨ (¬ ct < 1 ∧ ¬ bl ≤ fr ∧ bl - fr < ct) by omega) with h | ⟨h, h'⟩ | ⟨h, h', h''⟩
          · have g5 : decide (ct < 1) = true := by simpa using h
            have hpe : paE bs = 25 := HERR.out 25 (by rw [hE]) (by decide)
            obtain ⟨y, hS, hL, hP⟩ := rf_bad hB hpe (by decide) J1.out.rb rfl J1.out.be
            have HL := Lib.hid hL
            have HP := Lib.hid hP
            clear hL hP
            clear hpe hE h h5
            go_wp2_with fail
            exact bodyPost_ret (results_cell rfl rfl HL.out) rfl HP.out
          · have g5 : decide (ct < 1) = false := by simpa using h
            have g6 : decide (bl ≤ fr) = true := by simpa using h'
            have hpe : paE bs = 25 := HERR.out 25 (by rw [hE]) (by decide)
            obtain ⟨y, hS, hL, hP⟩ := rf_bad hB hpe (by decide) J1.out.rb rfl J1.out.be
            have HL := Lib.hid hL
            have HP := Lib.hid hP
            clear hL hP
            clear hpe hE h h5 h'
            go_wp2_with fail
            exact bodyPost_ret (results_cell rfl rfl HL.out) rfl HP.out
          · have g5 : decide (ct < 1) = false := by simpa using h
            have g6 : decide (bl ≤ fr) = false := by simpa using h'
            have g7 : decide (bl - fr < ct) = true := by simpa using h''
            have hpe : paE bs = 25 := HERR.out 25 (by rw [hE]) (by decide)
            obtain ⟨y, hS, hL, hP⟩ := rf_bad hB hpe (by decide) J1.out.rb rfl J1.out.be
            have HL := Lib.hid hL
            have HP := Lib.hid hP
            clear hL hP
            clear hpe hE h h5 h' h''
            go_wp2_with fail
            exact bodyPost_ret (results_cell rfl rfl HL.out) rfl HP.out
        have g5 : decide (ct < 1) = false := by simp; omega
        have g6 : decide (bl ≤ fr) = false := by simp; omega
        have g7 : decide (bl - fr < ct) = false := by simp; omega
        have ct2 : ct ≤ 64 := by have := hbl64.out.2; omega
        have ct3 : 1 ≤ ct := by omega
        have HNV := Lib.hid hNv
        clear hNv
        rcases h7 with ⟨h8, hE⟩ | ⟨h8, h9⟩
        · have g8 : decide ((n : Int) - (a : Int) < 5 + ct * 64 + 8) = true := by have := HNV.out; simp; omega
          have hpe : paE bs = 21 := HERR.out 21 (by rw [hE]) (by decide)
          obtain ⟨y, hS, hL, hP⟩ := rf_bad hB hpe (by decide) J1.out.rb rfl J1.out.be
          have HL := Lib.hid hL
          have HP := Lib.hid hP
          clear hL hP
          clear hpe hE h5 h6 h8
          go_wp2_with fail
          exact bodyPost_ret (results_cell rfl rfl HL.out) rfl HP.out
        have g8 : decide ((n : Int) - (a : Int) < 5 + ct * 64 + 8) = false := by have := HNV.out; simp; omega
        have kaN : (a : Int) + 5 + ct * 64 + 8 ≤ (n : Int) := by have := HNV.out; omega
        have HLE : Hid (a + (13 + N) ≤ n) := by show _ ≤ _; omega
        have HN4 : Hid (N ≤ 4096) := by show _ ≤ _; have := HNV.out; omega
        obtain ⟨r8, q8, p8⟩ := pa_cutF (b := b) (o := o) (K := a) (m := 5 + N + 8) (n := n) (c := c) (by omega) HCA.out
        obtain ⟨r5, q5, p5⟩ := pa_cutF (b := b) (o := o) (K := a + 5) (m := N) (n := n) (c := c) (by omega) HCA.out
        have hl8 : ((bs.drop a).take (5 + N + 8)).length = 5 + N + 8 := by rw [List.length_take, List.length_drop, HLN.out]; omega
        have hsd := rf17_sealed (p8 y1 bs (HV.out y1 J1.out.be)) ((HRB.out.drop a).take (5 + N + 8)) (m := 5 + N) hl8
        rw [List.take_take, List.drop_take, Nat.min_eq_left (by omega), show 5 + N + 8 - (5 + N) = 8 by omega] at hsd
        have HS8 := Lib.hid q8
        have HS5 := Lib.hid q5
        have HP5 := Lib.hid p5
        have HSD := Lib.hid hsd
        clear h5 h6 h8 q8 q5 p8 p5 hl8 hsd
        rcases h9 with ⟨h9, hE⟩ | ⟨h9, hE, hX⟩
        · rw [decide_eq_false h9] at HSD
          have HE := Lib.hid hE
          clear h9 hE
          go_wp2_with ((with_reducible refine gate_slice 139 ?_); refine wpList_slice_run (.tmp 139) 22 (some (.tmp 140)) (some (.tmp 145)) rfl rfl _ _ _ _ rfl rfl rfl (HS8.out _ _ (by omega) (by have := HNV.out; push_cast; omega) _) ?_)
          refine HSD.out.mono ?_
          rintro e x2 ⟨rfl, hb⟩
          have J2 := J1.out.below (Nat.le_of_lt J1.out.rb.lt) hb
          have hpe : paE bs = 22 := HERR.out 22 (by rw [HE.out]) (by decide)
          obtain ⟨y, hS, hL, hP⟩ := rf_bad hB hpe (by decide) J2.rb rfl J2.be
          have HL := Lib.hid hL
          have HP := Lib.hid hP
          clear hL hP
          clear hpe J2 hb
          go_wp2_with fail
          exact bodyPost_ret (results_cell rfl rfl HL.out) rfl HP.out
        rw [decide_eq_true h9] at HSD
        rw [List.drop_drop] at hX
        have HE := Lib.hid hE
        have HXX := Lib.hid hX
        clear h9 hE hX
        go_wp2_with ((with_reducible refine gate_slice 139 ?_); refine wpList_slice_run (.tmp 139) 22 (some (.tmp 140)) (some (.tmp 145)) rfl rfl _ _ _ _ rfl rfl rfl (HS8.out _ _ (by omega) (by have := HNV.out; push_cast; omega) _) ?_)
        refine HSD.out.mono ?_
        rintro e x2 ⟨rfl, hb⟩
        have J2 := J1.out.below (Nat.le_of_lt J1.out.rb.lt) hb
        have r2 := RR1.out.below hb
        obtain ⟨da, hda⟩ : ∃ q, (bs.drop (a + 5)).take N = q := ⟨_, rfl⟩
        have s5 := HP5.out x2 bs (HV.out x2 J2.be)
        have hdl : da.length = N := by rw [← hda, List.length_take, List.length_drop, HLN.out]; have := HLE.out; omega
        have hdb : IsBytes da := by rw [← hda]; exact (HRB.out.drop _).take N
        rw [hda] at s5 HXX
        obtain ⟨v', x3, hA, hO, hB3⟩ := copy_lit x2 _ da s5 (by rw [hdl]; have := HN4.out; omega)
        obtain ⟨⟨d1, d2', d3⟩, rfl, -⟩ := own_slV hO.out
        have r3 := r2.below hB3.out
        have c3 := r3.cell 3 _ rfl
        have f3 := r3.frozen 3
        obtain ⟨x4, hx4⟩ : ∃ x, x3.setCell ⟨R, 3, none⟩ (.slice d1 d2' d3) = x := ⟨_, rfl⟩
        have r4 : RowC x4 R 49 (rvL (fr, ct, false, (d1, d2', d3))) := by rw [← hx4]; exact r3.set 3 (.slice d1 d2' d3)
        have bV3 : Below V.heap.size V x3 := (B1V.out.trans (hb.mono B1V.out.size)).trans (hB3.out.mono (Nat.le_trans B1V.out.size hb.size))
        have bV4 : Below V.heap.size V x4 := by rw [← hx4]; exact set_below bV3 (by omega) 3 _
        have I4 := HIV.out.below (by omega) bV4
        have hVs : R ≤ x2.heap.size := by rw [← hD]; exact Nat.le_trans B1V.out.size hb.size
        have o4 := own_setB (own_weak hO.out (M := B) (by omega)) r3 (by decide) 3 (.slice d1 d2' d3)
        rw [hx4] at o4
        have L4 : (loadVar 49 ⟨R, 0, none⟩).run Try.prog x4 = .ok (.agg #[.int .i64 fr, .int .i64 ct, .bool false, .slice d1 d2' d3]) x4 := load_rcC r4
        have LD4 : (loadVar 26 ⟨D, 0, none⟩).run Try.prog x4 = .ok (.agg #[.int .i64 bl, .int .i64 ba, .int .i64 id, .slice u1 u2 u3]) x4 := load_smC I4.rd
        obtain ⟨X, hXd⟩ : ∃ X : RC, X = ⟨fr, ct, false, da⟩ := ⟨_, rfl⟩
        have hXe : rcX (bs.drop a) = X := by rw [HXX.out, hXd]; rfl
        obtain ⟨lo, hlo, hiff⟩ := add_good (x := X) I4.gd
        rw [I4.e1, I4.e2] at hiff
        obtain ⟨rr, hrr⟩ := I4.re.rcs
        have hnx := rf16_next (w := x4) (bl := bl) (ba := ba) (id := id) hbl64.out (pv := (u1, u2, u3)) hrr (x := X) (d := (d1, d2', d3)) (by rw [hXd]; exact Sl.of_owns o4) lo hlo
        have HNX : Hid (Calls Try.prog 26 #[.agg #[.int .i64 bl, .int .i64 ba, .int .i64 id, .slice u1 u2 u3], .agg #[.int .i64 fr, .int .i64 ct, .bool false, .slice d1 d2' d3]] x4 (RetB (plOk bl lo X ∧ daOk ba X) x4)) := by rw [hXd] at hnx ⊢; exact hnx
        have hF4 : RcF B x4 (fr, ct, false, (d1, d2', d3)) X := by
          rw [hXd]
          exact ⟨rfl, rfl, rfl, o4, ⟨(show I64 fr from ⟨by omega, by omega⟩), (show I64 ct from ⟨by omega, by omega⟩), hdb⟩⟩
        have HF4 := Lib.hid hF4
        have HI4 := Lib.hid I4
        have HR4 := Lib.hid r4
        have HIFF := Lib.hid hiff
        have HXE := Lib.hid hXe
        have HDL : Hid (X.da.length = N) := by show _ = _; rw [hXd]; exact hdl
        have HA := Lib.hid hA.out
        have HBV4 := Lib.hid bV4
        simp only [slV] at HA c3
        clear J2 r2 s5 hdl hdb hda hO hB3 r3 r4 bV3 bV4 I4 o4 hXd hXe hlo hiff hrr hnx hF4 hA hb HSD HS8 hVs
        go_wp2_with (first | ((with_reducible refine gate_slice 151 ?_); refine wpList_slice_run (.tmp 151) 22 (some (.tmp 153)) (some (.tmp 157)) rfl rfl _ _ _ _ rfl rfl rfl (HS5.out _ _ (by push_cast; omega) (by have := HNV.out; push_cast; omega) _) ?_) | (at_builtin; refine wpList_append_run (.tmp 150) (.tmp 158) 22 rfl rfl _ _ _ rfl rfl HA.out ?_))
        clear ST L4 LD4 c3 f3 hx4 HA
        refine HNX.out.mono ?_
        rintro e x5 ⟨t, rfl, ht, hb⟩
        have J5 := HI4.out.below (Nat.le_of_lt HI4.out.rb.lt) hb
        cases t with
        | false =>
          have hng : ¬ sGood (s.add X) := fun hg => by have := ht.2 (HIFF.out.1 hg); cases this
          have hgo : goP bs (N1 + 1) s a = (26, s, a) := goP_order (by rw [HI.out.e1]; exact HE.out) (by rw [HXE.out]; exact hng)
          rw [HGO.out] at hgo
          have hpe : paE bs = 26 := by rw [HPE.out, hgo]; rfl
          obtain ⟨y, hS, hL, hP⟩ := rf_bad hB hpe (by decide) J5.rb rfl J5.be
          have HL := Lib.hid hL
          have HP := Lib.hid hP
          clear hL hP
          clear hpe hgo hng ht J5 hb
          go_wp2_with fail
          exact bodyPost_ret (results_cell rfl rfl HL.out) rfl HP.out
        | true =>
          have hg : sGood (s.add X) := HIFF.out.2 (ht.1 rfl)
          have hgo := goP_on (n := N1) (b := bs) (s := s) (a := a) (by rw [HI.out.e1]; exact HE.out) (by rw [HXE.out]; exact hg)
          rw [HGO.out, HXE.out, HDL.out] at hgo
          have r5 := HR4.out.below hb
          have hF5 := HF4.out.below hb
          obtain ⟨v', y4, hA, hO4, hg4⟩ := rc_append J5.re (Nat.le_of_lt J5.rb.lt) hF5 (by have := HI.out.gd.many; omega)
          obtain ⟨⟨v1, v2, v3⟩, rfl, -⟩ := rc_slV hO4
          obtain ⟨rr, hrr1, hrr2, hrr3⟩ := J5.re
          have rd4 := J5.rd.grown hg4 (row_ne hrr2 J5.rd (by decide))
          have rb4 := J5.rb.grown hg4 (row_ne hrr2 J5.rb (by decide))
          have be4 : Below B w y4 := J5.be.grown hg4 (Nat.le_of_lt J5.rb.lt) (fun j e => (J5.re.base j e).1)
          have c3 := J5.rd.cell 3 _ rfl
          have c34 := rd4.cell 3 _ rfl
          have f34 := rd4.frozen 3
          have L5 : (loadVar 49 ⟨R, 0, none⟩).run Try.prog x5 = .ok (rvV (fr, ct, false, (d1, d2', d3))) x5 := load_rcC r5
          have SL := slice_rc1 x5 (fr, ct, false, (d1, d2', d3))
          obtain ⟨y3, hy3⟩ : ∃ y, x5.alloc (.cells (rvL (fr, ct, false, (d1, d2', d3))).toArray 49) = y := ⟨_, rfl⟩
          obtain ⟨Z2, hZ2⟩ : ∃ z, x5.heap.size = z := ⟨_, rfl⟩
          rw [hy3, hZ2] at hA SL
          obtain ⟨y5, hy5⟩ : ∃ y, y4.setCell ⟨D, 3, none⟩ (.slice v1 v2 v3) = y := ⟨_, rfl⟩
          have rd5 : RowC y5 D 26 (smL bl ba id (v1, v2, v3)) := by rw [← hy5]; exact rd4.set 3 (.slice v1 v2 v3)
          have rb5 : RowC y5 B 31 [.int .i64 0, .int .i64 0, .int .i64 0, .slice none 0 0, .int .i64 0] := by rw [← hy5]; exact set_other rb4 (by omega) 3 _
          have re5 : RcO B y5 (slV (v1, v2, v3)) (s.re ++ [X]) := by rw [← hy5]; exact hO4.keptC rd4 (by decide) (by decide) (grownBy_setCellJ y4 D 3 _)
          have be5 : Below B w y5 := by rw [← hy5]; exact set_below be4 (by omega) 3 _
          have I6 : RfI B D bl ba id bs M w (k + 1) (a + (13 + N)) (s.add X) (v1, v2, v3) y5 :=
            ⟨by rw [HN1.out]; exact hgo.symm, hg, HI.out.e1, HI.out.e2, HI.out.e3, rd5, rb5, re5, be5⟩
          have HI6 := Lib.hid I6
          have HSL := Lib.hid SL
          have HA := Lib.hid hA
          simp only [rvV, slV] at HSL L5 c3 c34 HA
          clear I6 SL hA rd5 rb5 re5 be5 rd4 rb4 be4 hg4 hO4 hrr1 hrr2 hrr3 J5 r5 hF5 hgo hg ht hb
          go_wp2_with (first | ((with_reducible refine gate_build ?_); refine wpList_build_run 24 1 _ rfl rfl [(0, _)] _ rfl HSL.out ?_) | (at_builtin; refine wpList_append_run (.tmp 167) (.tmp 169) 24 rfl rfl _ _ _ rfl rfl (HA.out _) ?_))
          go_roundw
          case rel => exact ⟨k + 1, a + (13 + N), s.add X, (v1, v2, v3), HKM.out, HLE.out, by congr 1; have := HNV.out; push_cast; omega, by first | (congr 1; push_cast; omega) | simp, HI6⟩
          case measure => have := HKM.out; first | (simp [intOf]; omega) | (simp only [intOf]; omega)
      · have hzz : z = true := by rw [← hz]; rfl
        subst hzz
        have hNv : N = 0 := by
          have := HND.out
          unfold rcN at this
          rw [if_pos rfl] at this; exact this
        have d2 := RR1.out.cell 2 _ rfl
        rcases hw3 with ⟨h5, hE⟩ | ⟨h5, h6, h7⟩
        · rcases (show ct < 1 ∨ (¬ ct < 1 ∧ bl ≤ fr) ∨ (¬ ct < 1 ∧ ¬ bl ≤ fr ∧ bl - fr < ct) by omega) with h | ⟨h, h'⟩ | ⟨h, h', h''⟩
          · have g5 : decide (ct < 1) = true := by simpa using h
            have hpe : paE bs = 25 := HERR.out 25 (by rw [hE]) (by decide)
            obtain ⟨y, hS, hL, hP⟩ := rf_bad hB hpe (by decide) J1.out.rb rfl J1.out.be
            have HL := Lib.hid hL
            have HP := Lib.hid hP
            clear hL hP
            clear hpe hE h h5
            go_wp2_with fail
            exact bodyPost_ret (results_cell rfl rfl HL.out) rfl HP.out
          · have g5 : decide (ct < 1) = false := by simpa using h
            have g6 : decide (bl ≤ fr) = true := by simpa using h'
            have hpe : paE bs = 25 := HERR.out 25 (by rw [hE]) (by decide)
            obtain ⟨y, hS, hL, hP⟩ := rf_bad hB hpe (by decide) J1.out.rb rfl J1.out.be
            have HL := Lib.hid hL
            have HP := Lib.hid hP
            clear hL hP
            clear hpe hE h h5 h'
            go_wp2_with fail
            exact bodyPost_ret (results_cell rfl rfl HL.out) rfl HP.out
          · have g5 : decide (ct < 1) = false := by simpa using h
            have g6 : decide (bl ≤ fr) = false := by simpa using h'
            have g7 : decide (bl - fr < ct) = true := by simpa using h''
            have hpe : paE bs = 25 := HERR.out 25 (by rw [hE]) (by decide)
            obtain ⟨y, hS, hL, hP⟩ := rf_bad hB hpe (by decide) J1.out.rb rfl J1.out.be
            have HL := Lib.hid hL
            have HP := Lib.hid hP
            clear hL hP
            clear hpe hE h h5 h' h''
            go_wp2_with fail
            exact bodyPost_ret (results_cell rfl rfl HL.out) rfl HP.out
        have g5 : decide (ct < 1) = false := by simp; omega
        have g6 : decide (bl ≤ fr) = false := by simp; omega
        have g7 : decide (bl - fr < ct) = false := by simp; omega
        have ct2 : ct ≤ 64 := by have := hbl64.out.2; omega
        have ct3 : 1 ≤ ct := by omega
        have HNV := Lib.hid hNv
        clear hNv
        rcases h7 with ⟨h8, hE⟩ | ⟨h8, h9⟩
        · have g8 : decide ((n : Int) - (a : Int) < 13) = true := by have := HNV.out; simp; omega
          have hpe : paE bs = 21 := HERR.out 21 (by rw [hE]) (by decide)
          obtain ⟨y, hS, hL, hP⟩ := rf_bad hB hpe (by decide) J1.out.rb rfl J1.out.be
          have HL := Lib.hid hL
          have HP := Lib.hid hP
          clear hL hP
          clear hpe hE h5 h6 h8
          go_wp2_with fail
          exact bodyPost_ret (results_cell rfl rfl HL.out) rfl HP.out
        have g8 : decide ((n : Int) - (a : Int) < 13) = false := by have := HNV.out; simp; omega
        have kaN : (a : Int) + 5 + 0 + 8 ≤ (n : Int) := by have := HNV.out; omega
        have HLE : Hid (a + (13 + N) ≤ n) := by show _ ≤ _; omega
        have HN4 : Hid (N ≤ 4096) := by show _ ≤ _; have := HNV.out; omega
        obtain ⟨r8, q8, p8⟩ := pa_cutF (b := b) (o := o) (K := a) (m := 5 + N + 8) (n := n) (c := c) (by omega) HCA.out
        obtain ⟨r5, q5, p5⟩ := pa_cutF (b := b) (o := o) (K := a + 5) (m := N) (n := n) (c := c) (by omega) HCA.out
        have hl8 : ((bs.drop a).take (5 + N + 8)).length = 5 + N + 8 := by rw [List.length_take, List.length_drop, HLN.out]; omega
        have hsd := rf17_sealed (p8 y1 bs (HV.out y1 J1.out.be)) ((HRB.out.drop a).take (5 + N + 8)) (m := 5 + N) hl8
        rw [List.take_take, List.drop_take, Nat.min_eq_left (by omega), show 5 + N + 8 - (5 + N) = 8 by omega] at hsd
        have HS8 := Lib.hid q8
        have HS5 := Lib.hid q5
        have HP5 := Lib.hid p5
        have HSD := Lib.hid hsd
        clear h5 h6 h8 q8 q5 p8 p5 hl8 hsd
        rcases h9 with ⟨h9, hE⟩ | ⟨h9, hE, hX⟩
        · rw [decide_eq_false h9] at HSD
          have HE := Lib.hid hE
          clear h9 hE
          go_wp2_with ((with_reducible refine gate_slice 139 ?_); refine wpList_slice_run (.tmp 139) 22 (some (.tmp 140)) (some (.tmp 145)) rfl rfl _ _ _ _ rfl rfl rfl (HS8.out _ _ (by omega) (by have := HNV.out; push_cast; omega) _) ?_)
          refine HSD.out.mono ?_
          rintro e x2 ⟨rfl, hb⟩
          have J2 := J1.out.below (Nat.le_of_lt J1.out.rb.lt) hb
          have hpe : paE bs = 22 := HERR.out 22 (by rw [HE.out]) (by decide)
          obtain ⟨y, hS, hL, hP⟩ := rf_bad hB hpe (by decide) J2.rb rfl J2.be
          have HL := Lib.hid hL
          have HP := Lib.hid hP
          clear hL hP
          clear hpe J2 hb
          go_wp2_with fail
          exact bodyPost_ret (results_cell rfl rfl HL.out) rfl HP.out
        rw [decide_eq_true h9] at HSD
        rw [List.drop_drop] at hX
        have HE := Lib.hid hE
        have HXX := Lib.hid hX
        clear h9 hE hX
        go_wp2_with ((with_reducible refine gate_slice 139 ?_); refine wpList_slice_run (.tmp 139) 22 (some (.tmp 140)) (some (.tmp 145)) rfl rfl _ _ _ _ rfl rfl rfl (HS8.out _ _ (by omega) (by have := HNV.out; push_cast; omega) _) ?_)
        refine HSD.out.mono ?_
        rintro e x2 ⟨rfl, hb⟩
        have J2 := J1.out.below (Nat.le_of_lt J1.out.rb.lt) hb
        have r2 := RR1.out.below hb
        obtain ⟨da, hda⟩ : ∃ q, (bs.drop (a + 5)).take N = q := ⟨_, rfl⟩
        have s5 := HP5.out x2 bs (HV.out x2 J2.be)
        have hdl : da.length = N := by rw [← hda, List.length_take, List.length_drop, HLN.out]; have := HLE.out; omega
        have hdb : IsBytes da := by rw [← hda]; exact (HRB.out.drop _).take N
        rw [hda] at s5 HXX
        obtain ⟨v', x3, hA, hO, hB3⟩ := copy_lit x2 _ da s5 (by rw [hdl]; have := HN4.out; omega)
        obtain ⟨⟨d1, d2', d3⟩, rfl, -⟩ := own_slV hO.out
        have r3 := r2.below hB3.out
        have c3 := r3.cell 3 _ rfl
        have f3 := r3.frozen 3
        obtain ⟨x4, hx4⟩ : ∃ x, x3.setCell ⟨R, 3, none⟩ (.slice d1 d2' d3) = x := ⟨_, rfl⟩
        have r4 : RowC x4 R 49 (rvL (fr, ct, true, (d1, d2', d3))) := by rw [← hx4]; exact r3.set 3 (.slice d1 d2' d3)
        have bV3 : Below V.heap.size V x3 := (B1V.out.trans (hb.mono B1V.out.size)).trans (hB3.out.mono (Nat.le_trans B1V.out.size hb.size))
        have bV4 : Below V.heap.size V x4 := by rw [← hx4]; exact set_below bV3 (by omega) 3 _
        have I4 := HIV.out.below (by omega) bV4
        have hVs : R ≤ x2.heap.size := by rw [← hD]; exact Nat.le_trans B1V.out.size hb.size
        have o4 := own_setB (own_weak hO.out (M := B) (by omega)) r3 (by decide) 3 (.slice d1 d2' d3)
        rw [hx4] at o4
        have L4 : (loadVar 49 ⟨R, 0, none⟩).run Try.prog x4 = .ok (.agg #[.int .i64 fr, .int .i64 ct, .bool true, .slice d1 d2' d3]) x4 := load_rcC r4
        have LD4 : (loadVar 26 ⟨D, 0, none⟩).run Try.prog x4 = .ok (.agg #[.int .i64 bl, .int .i64 ba, .int .i64 id, .slice u1 u2 u3]) x4 := load_smC I4.rd
        obtain ⟨X, hXd⟩ : ∃ X : RC, X = ⟨fr, ct, true, da⟩ := ⟨_, rfl⟩
        have hXe : rcX (bs.drop a) = X := by rw [HXX.out, hXd]; rfl
        obtain ⟨lo, hlo, hiff⟩ := add_good (x := X) I4.gd
        rw [I4.e1, I4.e2] at hiff
        obtain ⟨rr, hrr⟩ := I4.re.rcs
        have hnx := rf16_next (w := x4) (bl := bl) (ba := ba) (id := id) hbl64.out (pv := (u1, u2, u3)) hrr (x := X) (d := (d1, d2', d3)) (by rw [hXd]; exact Sl.of_owns o4) lo hlo
        have HNX : Hid (Calls Try.prog 26 #[.agg #[.int .i64 bl, .int .i64 ba, .int .i64 id, .slice u1 u2 u3], .agg #[.int .i64 fr, .int .i64 ct, .bool true, .slice d1 d2' d3]] x4 (RetB (plOk bl lo X ∧ daOk ba X) x4)) := by rw [hXd] at hnx ⊢; exact hnx
        have hF4 : RcF B x4 (fr, ct, true, (d1, d2', d3)) X := by
          rw [hXd]
          exact ⟨rfl, rfl, rfl, o4, ⟨(show I64 fr from ⟨by omega, by omega⟩), (show I64 ct from ⟨by omega, by omega⟩), hdb⟩⟩
        have HF4 := Lib.hid hF4
        have HI4 := Lib.hid I4
        have HR4 := Lib.hid r4
        have HIFF := Lib.hid hiff
        have HXE := Lib.hid hXe
        have HDL : Hid (X.da.length = N) := by show _ = _; rw [hXd]; exact hdl
        have HA := Lib.hid hA.out
        have HBV4 := Lib.hid bV4
        simp only [slV] at HA c3
        clear J2 r2 s5 hdl hdb hda hO hB3 r3 r4 bV3 bV4 I4 o4 hXd hXe hlo hiff hrr hnx hF4 hA hb HSD HS8 hVs
        go_wp2_with (first | ((with_reducible refine gate_slice 151 ?_); refine wpList_slice_run (.tmp 151) 22 (some (.tmp 153)) (some (.tmp 157)) rfl rfl _ _ _ _ rfl rfl rfl (HS5.out _ _ (by push_cast; omega) (by have := HNV.out; push_cast; omega) _) ?_) | (at_builtin; refine wpList_append_run (.tmp 150) (.tmp 158) 22 rfl rfl _ _ _ rfl rfl HA.out ?_))
        clear ST L4 LD4 c3 f3 hx4 HA
        refine HNX.out.mono ?_
        rintro e x5 ⟨t, rfl, ht, hb⟩
        have J5 := HI4.out.below (Nat.le_of_lt HI4.out.rb.lt) hb
        cases t with
        | false =>
          have hng : ¬ sGood (s.add X) := fun hg => by have := ht.2 (HIFF.out.1 hg); cases this
          have hgo : goP bs (N1 + 1) s a = (26, s, a) := goP_order (by rw [HI.out.e1]; exact HE.out) (by rw [HXE.out]; exact hng)
          rw [HGO.out] at hgo
          have hpe : paE bs = 26 := by rw [HPE.out, hgo]; rfl
          obtain ⟨y, hS, hL, hP⟩ := rf_bad hB hpe (by decide) J5.rb rfl J5.be
          have HL := Lib.hid hL
          have HP := Lib.hid hP
          clear hL hP
          clear hpe hgo hng ht J5 hb
          go_wp2_with fail
          exact bodyPost_ret (results_cell rfl rfl HL.out) rfl HP.out
        | true =>
          have hg : sGood (s.add X) := HIFF.out.2 (ht.1 rfl)
          have hgo := goP_on (n := N1) (b := bs) (s := s) (a := a) (by rw [HI.out.e1]; exact HE.out) (by rw [HXE.out]; exact hg)
          rw [HGO.out, HXE.out, HDL.out] at hgo
          have r5 := HR4.out.below hb
          have hF5 := HF4.out.below hb
          obtain ⟨v', y4, hA, hO4, hg4⟩ := rc_append J5.re (Nat.le_of_lt J5.rb.lt) hF5 (by have := HI.out.gd.many; omega)
          obtain ⟨⟨v1, v2, v3⟩, rfl, -⟩ := rc_slV hO4
          obtain ⟨rr, hrr1, hrr2, hrr3⟩ := J5.re
          have rd4 := J5.rd.grown hg4 (row_ne hrr2 J5.rd (by decide))
          have rb4 := J5.rb.grown hg4 (row_ne hrr2 J5.rb (by decide))
          have be4 : Below B w y4 := J5.be.grown hg4 (Nat.le_of_lt J5.rb.lt) (fun j e => (J5.re.base j e).1)
          have c3 := J5.rd.cell 3 _ rfl
          have c34 := rd4.cell 3 _ rfl
          have f34 := rd4.frozen 3
          have L5 : (loadVar 49 ⟨R, 0, none⟩).run Try.prog x5 = .ok (rvV (fr, ct, true, (d1, d2', d3))) x5 := load_rcC r5
          have SL := slice_rc1 x5 (fr, ct, true, (d1, d2', d3))
          obtain ⟨y3, hy3⟩ : ∃ y, x5.alloc (.cells (rvL (fr, ct, true, (d1, d2', d3))).toArray 49) = y := ⟨_, rfl⟩
          obtain ⟨Z2, hZ2⟩ : ∃ z, x5.heap.size = z := ⟨_, rfl⟩
          rw [hy3, hZ2] at hA SL
          obtain ⟨y5, hy5⟩ : ∃ y, y4.setCell ⟨D, 3, none⟩ (.slice v1 v2 v3) = y := ⟨_, rfl⟩
          have rd5 : RowC y5 D 26 (smL bl ba id (v1, v2, v3)) := by rw [← hy5]; exact rd4.set 3 (.slice v1 v2 v3)
          have rb5 : RowC y5 B 31 [.int .i64 0, .int .i64 0, .int .i64 0, .slice none 0 0, .int .i64 0] := by rw [← hy5]; exact set_other rb4 (by omega) 3 _
          have re5 : RcO B y5 (slV (v1, v2, v3)) (s.re ++ [X]) := by rw [← hy5]; exact hO4.keptC rd4 (by decide) (by decide) (grownBy_setCellJ y4 D 3 _)
          have be5 : Below B w y5 := by rw [← hy5]; exact set_below be4 (by omega) 3 _
          have I6 : RfI B D bl ba id bs M w (k + 1) (a + (13 + N)) (s.add X) (v1, v2, v3) y5 :=
            ⟨by rw [HN1.out]; exact hgo.symm, hg, HI.out.e1, HI.out.e2, HI.out.e3, rd5, rb5, re5, be5⟩
          have HI6 := Lib.hid I6
          have HSL := Lib.hid SL
          have HA := Lib.hid hA
          simp only [rvV, slV] at HSL L5 c3 c34 HA
          clear I6 SL hA rd5 rb5 re5 be5 rd4 rb4 be4 hg4 hO4 hrr1 hrr2 hrr3 J5 r5 hF5 hgo hg ht hb
          go_wp2_with (first | ((with_reducible refine gate_build ?_); refine wpList_build_run 24 1 _ rfl rfl [(0, _)] _ rfl HSL.out ?_) | (at_builtin; refine wpList_append_run (.tmp 167) (.tmp 169) 24 rfl rfl _ _ _ rfl rfl (HA.out _) ?_))
          go_roundw
          case rel => exact ⟨k + 1, a + (13 + N), s.add X, (v1, v2, v3), HKM.out, HLE.out, by congr 1; have := HNV.out; push_cast; omega, by first | (congr 1; push_cast; omega) | simp, HI6⟩
          case measure => have := HKM.out; first | (simp [intOf]; omega) | (simp only [intOf]; omega)
    · obtain rfl : k = M := by omega
      have hgo := HI.out.go
      rw [Nat.sub_self, goP] at hgo
      have hpe : paE bs = enE bs a := by rw [HPE.out, ← hgo]; exact if_neg (by simp)
      have g2 : decide ((k : Int) < (k : Int)) = false := by simp
      have hways := en_ways bs a
      rw [HLN.out, ← hpe] at hways
      have HPE2 := Lib.hid hpe
      have HGO2 := Lib.hid hgo
      clear hgo hpe
      rcases hways with ⟨h1, hE⟩ | ⟨h1, h2, hE⟩ | h1
      · have g3 : decide ((n : Int) - (a : Int) < 9) = true := by simp; omega
        obtain ⟨y, hS, hL, hP⟩ := rf_bad hB hE (by decide) HI.out.rb rfl HI.out.be
        have HL := Lib.hid hL
        have HP := Lib.hid hP
        clear hL hP
        clear h1 hE
        go_wp2_with fail
        exact bodyPost_ret (results_cell rfl rfl HL.out) rfl HP.out
      · have g3 : decide ((n : Int) - (a : Int) < 9) = false := by simp; omega
        have ka1 : (a : Int) + 9 ≤ (n : Int) := by omega
        have hlt : a < n := by omega
        have c0 := HCE.out wr HI.out.be a hlt
        obtain ⟨m, hm⟩ : ∃ y, bs[a]?.getD 0 = y := ⟨_, rfl⟩
        rw [hm] at c0 h2
        have g4 : (m != 69) = true := by simpa using h2
        obtain ⟨y, hS, hL, hP⟩ := rf_bad hB hE (by decide) HI.out.rb rfl HI.out.be
        have HL := Lib.hid hL
        have HP := Lib.hid hP
        clear hL hP
        clear h1 h2 hE hm
        go_wp2_with fail
        exact bodyPost_ret (results_cell rfl rfl HL.out) rfl HP.out
      have h9 : a + 9 ≤ n := by rcases h1 with h | h <;> exact h.1
      have hm : bs[a]?.getD 0 = 69 := by rcases h1 with h | h <;> exact h.2.1
      have g3 : decide ((n : Int) - (a : Int) < 9) = false := by simp; omega
      have ka1 : (a : Int) + 9 ≤ (n : Int) := by omega
      have hlt : a < n := by omega
      have c0 := HCE.out wr HI.out.be a hlt
      rw [hm] at c0
      obtain ⟨r9, q9, p9⟩ := pa_cutF (b := b) (o := o) (K := a + 1) (m := 8) (n := n) (c := c) (by omega) HCA.out
      have HS9 := Lib.hid q9
      obtain ⟨C, hC⟩ : ∃ q, fnvMore fnvInit (bs.take a) = q := ⟨_, rfl⟩
      obtain ⟨G, hG⟩ : ∃ q, getL ((bs.drop (a + 1)).take 8) = q := ⟨_, rfl⟩
      have hbe : ∀ x : Ext wr, Below B w x.1 := fun x => HI.out.be.trans (x.2.mono (Nat.le_of_lt HI.out.rb.lt))
      have Q1 : Hid (∀ x : Ext wr, Calls Try.prog 18 #[.slice (some ⟨b, o, none⟩) a c] x.1 fun e w'' => e = .returned (.int .u64 C) ∧ ∃ y : Ext wr, w'' = y.1) := fun x => (refCheck_any _ _ _ ((sl_hi (K := a) (HV.out x.1 (hbe x)) han).2 _ (HV.out x.1 (hbe x))) (HRB.out.take a)).mono fun e w'' ⟨h1, h2⟩ => ⟨by rw [h1, hC], x, h2⟩
      have Q2 : Hid (∀ x : Ext wr, Calls Try.prog 27 #[.slice r9 8 (c - (a + 1))] x.1 fun e w'' => e = .returned (.int .u64 G) ∧ ∃ y : Ext wr, w'' = y.1) := fun x => (refGet_any _ _ _ (p9 x.1 bs (HV.out x.1 (hbe x))) ((HRB.out.drop _).take 8)).mono fun e w'' ⟨h1, h2⟩ => ⟨by rw [h1, hG], x, h2⟩
      rw [hC, hG] at h1
      have HH1 := Lib.hid h1
      clear h1 hC hG hbe q9 p9 hm h9
      go_wp2_with fail
      refine region_ext (by kernel_rfl) (by kernel_rfl) ?_
      iterate 9 (go_big_quiet_step (with_reducible (first | exact Q1.out _ | exact Q2.out _)))
      refine wpQuiet_slice_runP (.tmp 193) 22 (some (.tmp 195)) (some (.tmp 197)) rfl rfl _ _ _ _ rfl rfl rfl (fun x _ => HS9.out _ _ (by push_cast; omega) (by push_cast; omega) x) ?_
      simp only [Act.put, List.setIfInBounds_toArray, List.set_cons_succ, List.set_cons_zero]
      repeat (go_big_quiet_step (with_reducible (first | exact Q1.out _ | exact Q2.out _)))
      refine wpQuiet_nil ?_
      intro x
      have J := HI.out.below (Nat.le_of_lt HI.out.rb.lt) x.2
      obtain ⟨xw, hxw⟩ : ∃ z, x.1 = z := ⟨_, rfl⟩
      rw [hxw] at J ⊢
      clear Q1 Q2 HS9 c0 hxw x
      rcases HH1.out with ⟨-, -, h3, hE⟩ | ⟨-, -, h3, hE⟩
      · have g5 : (C != G) = true := by simp only [bne_iff_ne, ne_eq]; exact fun e => h3 e.symm
        obtain ⟨y, hS, hL, hP⟩ := rf_bad hB hE (by decide) J.rb rfl J.be
        have HL := Lib.hid hL
        have HP := Lib.hid hP
        clear hL hP
        clear h3 hE J HH1
        show Exit.then _ _ Exit.normal _ _
        unfold Exit.then
        simp only
        rename_i K1 hK1 K2 hK2
        apply hK2
        refine wp_cond_true (show _ = Value.bool true from by show Value.bool (C != G) = _; rw [g5]) ?_
        go_wp2_with fail
        exact bodyPost_ret (results_cell rfl rfl HL.out) rfl HP.out
      have g5 : (C != G) = false := by rw [h3]; simp
      by_cases h9 : a + 9 < n
      · have g6 : decide ((a : Int) + 9 < (n : Int)) = true := by simp; omega
        rw [if_pos h9] at hE
        obtain ⟨y, hS, hL, hP⟩ := rf_bad hB hE (by decide) J.rb rfl J.be
        have HL := Lib.hid hL
        have HP := Lib.hid hP
        clear hL hP
        clear h3 hE J HH1 h9
        show Exit.then _ _ Exit.normal _ _
        unfold Exit.then
        simp only
        rename_i K1 hK1 K2 hK2
        apply hK2
        refine wp_cond_false (show _ = Value.bool false from by show Value.bool (C != G) = _; rw [g5]) ?_
        go_wp2_with fail
        exact bodyPost_ret (results_cell rfl rfl HL.out) rfl HP.out
      · have g6 : decide ((a : Int) + 9 < (n : Int)) = false := by simp; omega
        rw [if_neg h9] at hE
        obtain ⟨y, hS, hrb, hg⟩ := store_gtC bl ba id (u1, u2, u3) 0 J.rb rfl
        have L1 : (loadVar 26 ⟨D, 0, none⟩).run Try.prog xw = .ok (smV bl ba id (u1, u2, u3)) xw := load_smC J.rd
        have hL := load_gtC hrb
        have hPS : paS bs = s := by rw [HPS.out hE, ← HGO2.out]
        have hP : RfOut bs w (.returned (gtV bl ba id (u1, u2, u3) 0)) y := by
          refine ⟨(u1, u2, u3), ?_, ?_, ?_⟩
          · rw [hPS, hE, HI.out.e1, HI.out.e2, HI.out.e3]
          · rw [hPS, hB]; exact J.re.keptC J.rb (by decide) (by decide) hg
          · rw [hB]; exact J.be.grown hg (Nat.le_of_lt J.rb.lt) (fun j e => by cases e; exact Nat.le_refl _)
        have HL := Lib.hid hL
        have HP := Lib.hid hP
        simp only [smV, gtV, slV] at hS L1
        clear hL hP hrb hg J h3 hE HH1 h9 hPS
        show Exit.then _ _ Exit.normal _ _
        unfold Exit.then
        simp only
        rename_i K1 hK1 K2 hK2
        apply hK2
        refine wp_cond_false (show _ = Value.bool false from by show Value.bool (C != G) = _; rw [g5]) ?_
        go_wp2_with fail
        exact bodyPost_ret (results_cell rfl rfl HL.out) rfl HP.out
end
end Go.Proofs.Ytfihpljgbghogaa

/- For the statements on streams: plain facts. -/
namespace Go.Proofs.Ytfihpljgbghogaa
open Go.RowKit Go.Shelf
set_option linter.unusedVariables false
theorem isBytes_encB {s : SM} (h : s.Ok) : IsBytes (encB s) := isBytes_app (isBytes_app (isBytes_bodyB h) (bytes_one (by decide))) (putL_bytes _ _)
theorem rsLen_small {s : SM} (h : sGood s) (k : Nat) : rsLen (s.re.take k) ≤ 270000 := by
  have h1 : rsLen (s.re.take k) ≤ (s.re.take k).length * 4109 := rsLen_le fun x hx => by
    obtain ⟨j, hj⟩ := List.getElem?_of_mem (List.mem_of_mem_take hx)
    exact h.len hj
  have h2 := h.many
  have h3 : (s.re.take k).length ≤ 64 := by rw [List.length_take]; omega
  have : (s.re.take k).length * 4109 ≤ 64 * 4109 := Nat.mul_le_mul_right _ h3
  omega
end Go.Proofs.Ytfihpljgbghogaa

/- Both Parses as the statements call them; the guard. -/
namespace Go.Proofs.Ytfihpljgbghogaa
open Go.RowKit Go.Shelf
set_option linter.unusedVariables false
set_option linter.unusedSimpArgs false
attribute [-simp] Try.isAgg49 Try.zeroValue49 Try.isAgg26 Try.zeroValue26
attribute [-go_sem] loadVar storeVar
attribute [local go_sem] loadVar_openRS storeVar_openRS zero_rcP build_rcP zero_smP build_sm3P build_sm4
section
set_option maxRecDepth 100000
set_option maxHeartbeats 8000000
theorem paS_ok {bs : List Int} (hr : IsBytes bs) : I64 (paS bs).bl ∧ I64 (paS bs).ba ∧ I64 (paS bs).id := by
  by_cases h : paE bs = 0
  · obtain ⟨⟨h1, h2, h3, h4, h5⟩, -⟩ := (pa_back hr h).1
    unfold I64
    omega
  · unfold paS
    rw [if_neg h]
    unfold I64 smz
    simp
set_option maxRecDepth 100000 in
/-- **Parse**, as a stream that somebody has. -/
theorem pa_smi {v : Value} {bs : List Int} {w : World} (hv : Sl .u8 w v bs) (hr : IsBytes bs) :
    Calls Try.prog 8 #[v] w fun e w' => ∃ u : SlV, e = .returned (.tuple #[smV (paS bs).bl (paS bs).ba (paS bs).id u, .int .i64 (paE bs)]) ∧ Smi w' (smV (paS bs).bl (paS bs).ba (paS bs).id u) (paS bs) ∧ Below w.heap.size w w' :=
  (pa_parse hv hr).mono fun e w' ⟨u, h1, h2, h3⟩ => by
    obtain ⟨r, hR⟩ := h2.rcs
    obtain ⟨i1, i2, i3⟩ := paS_ok hr
    exact ⟨u, h1, ⟨r, ⟨u, rfl, hR⟩, i1, i2, i3⟩, h3⟩
set_option maxRecDepth 100000 in
theorem rf_smi {v : Value} {bs : List Int} {w : World} (hv : Sl .u8 w v bs) (hr : IsBytes bs) :
    Calls Try.prog 9 #[v] w fun e w' => ∃ u : SlV, e = .returned (gtV (paS bs).bl (paS bs).ba (paS bs).id u (paE bs)) ∧ Smi w' (smV (paS bs).bl (paS bs).ba (paS bs).id u) (paS bs) ∧ Below w.heap.size w w' :=
  (rf_parse hv hr).mono fun e w' ⟨u, h1, h2, h3⟩ => by
    obtain ⟨r, hR⟩ := h2.rcs
    obtain ⟨i1, i2, i3⟩ := paS_ok hr
    exact ⟨u, h1, ⟨r, ⟨u, rfl, hR⟩, i1, i2, i3⟩, h3⟩
set_option maxRecDepth 100000 in
/-- A stream into a new box. -/
theorem new_smx (y : World) (bl ba id : Int) (u : SlV) : ∃ Y, (storeVar 26 ⟨y.heap.size, 0, none⟩ (smV bl ba id u)).run Try.prog (y.alloc (.cells #[.int .i64 0, .int .i64 0, .int .i64 0, .slice none 0 0] 26)) = .ok () Y ∧ RowC Y y.heap.size 26 (smL bl ba id u) ∧ Below y.heap.size y Y :=
  ⟨_, new_sm y bl ba id u, RowC.new _ _ _, below_new _ _⟩
set_option maxRecDepth 100000 in
theorem new_gtx (y : World) (bl ba id : Int) (u : SlV) (E : Int) : ∃ Y, (storeVar 31 ⟨y.heap.size, 0, none⟩ (gtV bl ba id u E)).run Try.prog (y.alloc (.cells #[.int .i64 0, .int .i64 0, .int .i64 0, .slice none 0 0, .int .i64 0] 31)) = .ok () Y ∧ RowC Y y.heap.size 31 (gtL bl ba id u E) ∧ Below y.heap.size y Y :=
  ⟨_, run_storeVar_new y _ _ (gtL bl ba id u E).toArray size_gt rfl (by kernel_rfl), RowC.new _ _ _, below_new _ _⟩
set_option maxRecDepth 100000 in
theorem load_gtS {x : World} {B : Nat} {bl ba id E : Int} {v : SlV} (hr : RowC x B 31 (gtL bl ba id v E)) : (loadVar 26 ⟨B, 0, none⟩).run Try.prog x = .ok (smV bl ba id v) x :=
  run_loadVar_mid x B 0 _ (smL bl ba id v) _ (fun j w hj => by
    have := hr.range
    match j with
    | 0 => cases hj; exact this 0 _ rfl
    | 1 => cases hj; exact this 1 _ rfl
    | 2 => cases hj; exact this 2 _ rfl
    | 3 => cases hj; exact this 3 _ rfl
    | j + 4 => simp [smL] at hj) Try.underlying26 rfl (by kernel_rfl)
/-! The guard. -/
def pkA : RC := ⟨3, 2, true, []⟩
def pkS : SM := ⟨8, 1, 2, [pkA]⟩
theorem pkS_good : sGood pkS := by
  refine ⟨⟨by decide, by decide, by decide, by decide, .inr ⟨by decide, by decide⟩⟩, fun k x hk => ?_⟩
  match k with
  | 0 => cases hk; exact ⟨⟨by decide, by decide, by decide, by decide⟩, fun _ => ⟨by decide, rfl⟩, fun h => by cases h⟩
  | k + 1 => cases hk
theorem pkS_ok : pkS.Ok := ⟨i64_small (by decide), i64_small (by decide), i64_small (by decide), fun x hx => by
  obtain rfl : x = pkA := by simpa [pkS] using hx
  exact ⟨i64_small (by decide), i64_small (by decide), isBytes_nil⟩⟩
theorem pk_short : paE [82, 86, 83] = 21 := by
  have e : hdE [82, 86, 83] = 21 := by unfold hdE; rw [if_pos (by decide)]
  rw [paE_hd (by rw [e]; decide), e]
theorem pk_magic : paE [82, 86, 88, 49] = 20 := hd_magic (by decide) (by decide)
theorem bytes_lit {xs : List Int} (h : ∀ x ∈ xs, 0 ≤ x ∧ x < 256) : IsBytes xs := by
  intro j
  cases hj : xs[j]? with
  | none => simp
  | some x => simpa using h x (List.mem_of_getElem? hj)
set_option maxRecDepth 100000 in
theorem slice_3 (a b c : Int) (w : World) : (Instr.buildSlice 22 3 #[(0, .int .u8 a), (1, .int .u8 b), (2, .int .u8 c)]).run Try.prog w = .ok (.slice (some ⟨w.heap.size, 0, none⟩) 3 3) (w.alloc (.cells #[.int .u8 a, .int .u8 b, .int .u8 c] 5)) := by kernel_rfl
set_option maxRecDepth 100000 in
theorem slice_4 (a b c d : Int) (w : World) : (Instr.buildSlice 22 4 #[(0, .int .u8 a), (1, .int .u8 b), (2, .int .u8 c), (3, .int .u8 d)]).run Try.prog w = .ok (.slice (some ⟨w.heap.size, 0, none⟩) 4 4) (w.alloc (.cells #[.int .u8 a, .int .u8 b, .int .u8 c, .int .u8 d] 5)) := by kernel_rfl
set_option maxRecDepth 100000 in
theorem slice_1 (a : Int) (w : World) : (Instr.buildSlice 22 1 #[(0, .int .u8 a)]).run Try.prog w = .ok (.slice (some ⟨w.heap.size, 0, none⟩) 1 1) (w.alloc (.cells #[.int .u8 a] 5)) := by kernel_rfl
set_option maxRecDepth 100000 in
/-- A literal of bytes that is converted. -/
theorem lit_mark (w : World) (xs : List Int) (h : xs.length ≤ 1000) : ∃ Z, (convert 22 22 (.slice (some ⟨w.heap.size, 0, none⟩) xs.length xs.length)).run Try.prog (w.alloc (.cells (u8s xs).toArray 5)) = .ok (.slice (some ⟨w.heap.size, 0, none⟩) xs.length xs.length) Z ∧ Sl .u8 Z (.slice (some ⟨w.heap.size, 0, none⟩) xs.length xs.length) xs ∧ Below w.heap.size w Z := by
  obtain ⟨Z, h1, h2, h3, h4⟩ := conv_mark (w.alloc (.cells (u8s xs).toArray 5)) w.heap.size (u8s xs).toArray xs.length xs.length (heap_alloc_new w _)
  refine ⟨Z, h1, ?_, (below_new w _).trans h2⟩
  obtain ⟨a, cap, e, s1, s2, s3, s4⟩ := sl_lit (xs := xs) w h
  cases e
  refine ⟨_, _, rfl, s1, s2, ?_, s4⟩
  rcases s3 with s3 | ⟨b, off, e, s5, s6⟩
  · exact .inl s3
  · exact .inr ⟨b, off, e, by rw [h3]; exact s5, fun j hj => (h4 _).trans (s6 j hj)⟩
set_option maxRecDepth 100000 in
/-- Bytes behind an empty literal, and one more behind them. -/
theorem app_two {w : World} {v : Value} {bs : List Int} (hv : Sl .u8 w v bs) (hl : bs.length ≤ 900000) (x : Int) : ∃ (v1 : SlV) (w1 : World) (v2 : SlV) (w2 : World),
    (Builtin.append_ #[22, 22] 22 #[.slice (some ⟨w.heap.size, 0, none⟩) 0 0, v]).run Try.prog (w.alloc (.cells #[] 5)) = .ok (slV v1) w1 ∧
    (Builtin.append_ #[22, 22] 22 #[slV v1, .slice (some ⟨w1.heap.size, 0, none⟩) 1 1]).run Try.prog (w1.alloc (.cells #[.int .u8 x] 5)) = .ok (slV v2) w2 ∧
    Sl .u8 w2 (slV v2) (bs ++ [x]) ∧ Below w.heap.size w w2 := by
  obtain ⟨v', w1, hA, hO, hB⟩ := copy_lit w v bs hv (by omega)
  obtain ⟨v1, rfl, -⟩ := own_slV hO.out
  have b2 : Below w1.heap.size w1 (w1.alloc (.cells #[.int .u8 x] 5)) := below_new _ _
  have sx : Sl .u8 (w1.alloc (.cells #[.int .u8 x] 5)) (.slice (some ⟨w1.heap.size, 0, none⟩) 1 1) [x] := sl_lit (xs := [x]) w1 (by simp)
  obtain ⟨v'', w2, r1, r2, r3⟩ := run_append_bytes w.heap.size (w1.alloc (.cells #[.int .u8 x] 5)) _ bs (own_belowT hO.out b2) _ [x] sx (by simp; omega) (Nat.le_trans hB.out.size b2.size)
  obtain ⟨v2, rfl, -⟩ := own_slV r2
  refine ⟨v1, w1, v2, w2, hA.out, r1, Sl.of_owns r2, ?_⟩
  have hB1 : Below w.heap.size w (w1.alloc (.cells #[.int .u8 x] 5)) := hB.out.trans (b2.mono hB.out.size)
  exact hB1.grown r3 hB1.size (fun j e => (World.ownsRow.lt (own_belowT hO.out b2) j e).1)
end
end Go.Proofs.Ytfihpljgbghogaa

/- The guard of the statements on parse. -/
namespace Go.Proofs.Ytfihpljgbghogaa
open Go.RowKit Go.Shelf
set_option linter.unusedVariables false
set_option linter.unusedSimpArgs false
attribute [-simp] Try.isAgg49 Try.zeroValue49 Try.isAgg26 Try.zeroValue26
attribute [-go_sem] loadVar storeVar
attribute [local go_sem] loadVar_openRS storeVar_openRS zero_rcP build_rcZ zero_smP build_sm3P build_sm4
set_option maxRecDepth 100000 in
set_option maxHeartbeats 8000000 in
theorem pa_wakes (w : World) : Calls Try.prog 7 #[] w fun e w' => e = .returned (.bool true) ∧ Below w.heap.size w w' := by
  obtain ⟨Z, hZ⟩ : ∃ Z, w.alloc (.cells (rvL (3, 2, true, (none, 0, 0))).toArray 49) = Z := ⟨_, rfl⟩
  obtain ⟨D0, hD0⟩ : ∃ D, w.heap.size = D := ⟨_, rfl⟩
  have S2 := slice_rc1 w (3, 2, true, (none, 0, 0))
  rw [hZ, hD0] at S2
  have oZ : Z.ownsRow 0 49 4 (.slice (some ⟨D0, 0, none⟩) 1 1) 1 (rvs [((3, 2, true, (none, 0, 0)) : RV)]) := by
    rw [← hZ, ← hD0]
    exact World.ownsRow_lit w (rvs [((3, 2, true, (none, 0, 0)) : RV)]).toArray 1 (Nat.zero_le _) (by simp [maxLen]) rfl
  have hR : RcR Z (.slice (some ⟨D0, 0, none⟩) 1 1) [((3, 2, true, (none, 0, 0)) : RV)] [pkA] := rcs_row rfl oZ fun j q s h1 h2 => by
    match j with
    | 0 => cases h1; cases h2; exact ⟨rfl, rfl, rfl, Sl.nil _ _, ⟨i64_small (by decide), i64_small (by decide), isBytes_nil⟩⟩
    | j + 1 => cases h1
  have hZw : Below w.heap.size w Z := by rw [← hZ]; exact below_new w _
  have hsm : Smi Z (smV 8 1 2 (some ⟨D0, 0, none⟩, 1, 1)) pkS := ⟨_, ⟨⟨_, rfl, hR⟩, i64_small (by decide), i64_small (by decide), i64_small (by decide)⟩⟩
  have HE := Lib.hid (sm_encode hsm pkS_good)
  have HZW := Lib.hid hZw
  have HS2 := Lib.hid S2
  simp only [rvV, smV, slV] at HE HS2
  clear S2 oZ hR hsm hZw
  go_enter Try.func7, Try.ntmps7
  go_wp2_with ((with_reducible refine gate_build ?_); refine wpList_build_run 24 1 _ rfl rfl [(0, _)] _ rfl HS2.out ?_)
  refine HE.out.mono ?_
  rintro e x1 ⟨u, rfl, ho, hb⟩
  obtain ⟨⟨ua, un, uc⟩, rfl, -⟩ := own_slV ho
  have hB := isBytes_encB pkS_ok
  obtain ⟨pf1, pf2⟩ := pa_full pkS_good
  have K1 : Hid (Below w.heap.size w x1) := HZW.out.trans (hb.mono HZW.out.size)
  have HSE : Hid (Sl .u8 x1 (.slice ua un uc) (encB pkS)) := OwnB.sl ho
  have HP := Lib.hid (pa_smi HSE.out hB)
  rw [pf1, pf2] at HP
  have HBY := Lib.hid hB
  clear ho hb HE HS2 hZ hD0 pf1 pf2 hB
  simp only [slV]
  go_wp2_with fail
  refine HP.out.mono ?_
  rintro e x2 ⟨⟨d1, d2, d3⟩, rfl, hs, hb⟩
  obtain ⟨Y2, T2, rY2, bY2⟩ := new_smx x2 pkS.bl pkS.ba pkS.id (d1, d2, d3)
  obtain ⟨D2, hD2⟩ : ∃ D, x2.heap.size = D := ⟨_, rfl⟩
  rw [hD2] at T2 rY2
  have K2 : Hid (Below w.heap.size w Y2) := K1.out.trans ((hb.trans (bY2.mono hb.size)).mono K1.out.size)
  have SE2 : Hid (∀ y : World, Below Y2.heap.size Y2 y → Sl .u8 y (.slice ua un uc) (encB pkS)) := fun y hy => HSE.out.below ((hb.trans (bY2.mono hb.size)).trans (hy.mono (Nat.le_trans hb.size bY2.size)))
  obtain ⟨rr, ⟨⟨⟨ea, en, ec⟩, ev, hR2⟩, -, -, -⟩⟩ := hs
  have eD : d1 = ea ∧ d2 = en ∧ d3 = ec := by
    simp only [smV, slV, Value.agg.injEq, Array.mk.injEq, List.cons.injEq, Value.slice.injEq] at ev
    exact ⟨ev.2.2.2.1.1, ev.2.2.2.1.2.1, ev.2.2.2.1.2.2⟩
  obtain ⟨rfl, rfl, rfl⟩ := eD
  have hl2 : d2 = 1 := by obtain ⟨a', c', e', -, -⟩ := hR2.len; cases e'; rfl
  subst hl2
  obtain ⟨gb, go, q, rfl, hgb, -, hqi, -, hc1, -, -⟩ := hR2.at (k := 0) (s := pkA) rfl
  have hq2 : q.2.1 = 2 := hqi.ct
  rw [hq2, Nat.zero_mul, Nat.add_zero] at hc1
  have HC1 : Hid (∀ y : World, Below Y2.heap.size Y2 y → y.cell? ⟨gb, go + 1, none⟩ = some (.int .i64 2)) := fun y hy => ((bY2.trans (hy.mono bY2.size)).cell (p := ⟨gb, go + 1, none⟩) hgb).trans hc1
  have RY2 := Lib.hid rY2
  have L3 := slice_3 82 86 83 Y2
  obtain ⟨Q3, cv, s3, b3⟩ := lit_mark Y2 [82, 86, 83] (by decide)
  obtain ⟨Z3, hZ3⟩ : ∃ Z, Y2.alloc (.cells #[.int .u8 82, .int .u8 86, .int .u8 83] 5) = Z := ⟨_, rfl⟩
  have eZ : Y2.alloc (.cells (u8s [82, 86, 83]).toArray 5) = Z3 := hZ3
  obtain ⟨E3, hE3⟩ : ∃ D, Y2.heap.size = D := ⟨_, rfl⟩
  have en : ([82, 86, 83] : List Int).length = 3 := rfl
  rw [eZ] at cv
  rw [hZ3] at L3
  rw [en] at cv s3
  rw [hE3] at L3 s3 cv
  have HP3 := Lib.hid (pa_smi s3 (bytes_lit (by decide)))
  rw [pk_short] at HP3
  have HL3 := Lib.hid L3
  have HB3 := Lib.hid b3
  simp only [smV, slV] at T2 ⊢
  clear hb bY2 ev hR2 hgb hqi hc1 hq2 rY2 L3 s3 b3 HP HSE hZ3 hE3 eZ en
  go_wp2_with ((with_reducible refine gate_build ?_); refine wpList_build_run 22 3 _ rfl rfl [(0, _), (1, _), (2, _)] _ rfl HL3.out ?_)
  refine HP3.out.mono ?_
  rintro e x3 ⟨⟨f1, f2, f3⟩, rfl, -, hb⟩
  obtain ⟨bl3, hbl3⟩ : ∃ b, (paS [82, 86, 83]).bl = b := ⟨_, rfl⟩
  obtain ⟨ba3, hba3⟩ : ∃ b, (paS [82, 86, 83]).ba = b := ⟨_, rfl⟩
  obtain ⟨id3, hid3⟩ : ∃ b, (paS [82, 86, 83]).id = b := ⟨_, rfl⟩
  rw [hbl3, hba3, hid3]
  obtain ⟨Y3, T3, -, bY3⟩ := new_smx x3 bl3 ba3 id3 (f1, f2, f3)
  obtain ⟨D3, hD3⟩ : ∃ D, x3.heap.size = D := ⟨_, rfl⟩
  rw [hD3] at T3
  have K3 : Hid (Below Y2.heap.size Y2 Y3) := HB3.out.trans ((hb.trans (bY3.mono hb.size)).mono HB3.out.size)
  have L4 := slice_4 82 86 88 49 Y3
  obtain ⟨Q4, cv, s4, b4⟩ := lit_mark Y3 [82, 86, 88, 49] (by decide)
  obtain ⟨Z4, hZ4⟩ : ∃ Z, Y3.alloc (.cells #[.int .u8 82, .int .u8 86, .int .u8 88, .int .u8 49] 5) = Z := ⟨_, rfl⟩
  have eZ : Y3.alloc (.cells (u8s [82, 86, 88, 49]).toArray 5) = Z4 := hZ4
  obtain ⟨E4, hE4⟩ : ∃ D, Y3.heap.size = D := ⟨_, rfl⟩
  have en : ([82, 86, 88, 49] : List Int).length = 4 := rfl
  rw [eZ] at cv
  rw [hZ4] at L4
  rw [en] at cv s4
  rw [hE4] at L4 s4 cv
  have HP4 := Lib.hid (pa_smi s4 (bytes_lit (by decide)))
  rw [pk_magic] at HP4
  have HL4 := Lib.hid L4
  have HB4 : Hid (Below Y2.heap.size Y2 Q4) := K3.out.trans (b4.mono K3.out.size)
  simp only [smV, slV] at T3 ⊢
  clear hb bY3 L4 s4 b4 HP3 HL3 hZ4 hE4 eZ en hbl3 hba3 hid3 T2 hD2
  go_wp2_with ((with_reducible refine gate_build ?_); refine wpList_build_run 22 4 _ rfl rfl [(0, _), (1, _), (2, _), (3, _)] _ rfl HL4.out ?_)
  refine HP4.out.mono ?_
  rintro e x4 ⟨⟨g1, g2, g3⟩, rfl, -, hb⟩
  obtain ⟨bl4, hbl4⟩ : ∃ b, (paS [82, 86, 88, 49]).bl = b := ⟨_, rfl⟩
  obtain ⟨ba4, hba4⟩ : ∃ b, (paS [82, 86, 88, 49]).ba = b := ⟨_, rfl⟩
  obtain ⟨id4, hid4⟩ : ∃ b, (paS [82, 86, 88, 49]).id = b := ⟨_, rfl⟩
  rw [hbl4, hba4, hid4]
  obtain ⟨Y4, T4, -, bY4⟩ := new_smx x4 bl4 ba4 id4 (g1, g2, g3)
  obtain ⟨D4, hD4⟩ : ∃ D, x4.heap.size = D := ⟨_, rfl⟩
  rw [hD4] at T4
  have K4 : Hid (Below Y2.heap.size Y2 Y4) := HB4.out.trans ((hb.trans (bY4.mono hb.size)).mono HB4.out.size)
  have hln : (encB pkS).length ≤ 900000 := by rw [encB_length]; decide
  obtain ⟨⟨h1, h2, h3⟩, w1, ⟨i1, i2, i3⟩, w2, A1, A2, S5, B5⟩ := app_two (SE2.out Y4 K4.out) hln 0
  have L5 := slice_1 0 w1
  have HP5 := Lib.hid (pa_smi S5 (isBytes_app HBY.out (bytes_one (by decide))))
  rw [pa_more pkS_good 0] at HP5
  obtain ⟨bs5, hbs5⟩ : ∃ b, encB pkS ++ [0] = b := ⟨_, rfl⟩
  rw [hbs5] at HP5
  have HA1 := Lib.hid A1
  have HA2 := Lib.hid A2
  have HL5 := Lib.hid L5
  have K5 : Hid (Below Y2.heap.size Y2 w2) := K4.out.trans (B5.mono K4.out.size)
  simp only [smV, slV] at T4 HA1 HA2 HP5 ⊢
  clear hb bY4 A1 A2 L5 S5 B5 HP4 HL4 hbl4 hba4 hid4 T3 hD3 hln hbs5
  go_wp2_with (first | ((with_reducible refine gate_build ?_); refine wpList_build_run 22 1 _ rfl rfl [(0, _)] _ rfl HL5.out ?_) | (at_builtin; first | refine wpList_append_run (.tmp 36) (.tmp 37) 22 rfl rfl _ _ _ rfl rfl HA1.out ?_ | refine wpList_append_run (.tmp 38) (.tmp 39) 22 rfl rfl _ _ _ rfl rfl HA2.out ?_))
  refine HP5.out.mono ?_
  rintro e x5 ⟨⟨j1, j2, j3⟩, rfl, -, hb⟩
  obtain ⟨bl5, hbl5⟩ : ∃ b, (paS bs5).bl = b := ⟨_, rfl⟩
  obtain ⟨ba5, hba5⟩ : ∃ b, (paS bs5).ba = b := ⟨_, rfl⟩
  obtain ⟨id5, hid5⟩ : ∃ b, (paS bs5).id = b := ⟨_, rfl⟩
  rw [hbl5, hba5, hid5]
  obtain ⟨Y5, T5, -, bY5⟩ := new_smx x5 bl5 ba5 id5 (j1, j2, j3)
  obtain ⟨D5, hD5⟩ : ∃ D, x5.heap.size = D := ⟨_, rfl⟩
  rw [hD5] at T5
  have K6 : Hid (Below Y2.heap.size Y2 Y5) := K5.out.trans ((hb.trans (bY5.mono hb.size)).mono K5.out.size)
  have K7 : Hid (Below w.heap.size w Y5) := K2.out.trans (K6.out.mono K2.out.size)
  have r6 := RY2.out.below K6.out
  have z1 := r6.cell 1 _ rfl
  have z3 := r6.cell 3 _ rfl
  have zc := HC1.out Y5 K6.out
  have zb : pkS.ba = 1 := rfl
  rw [zb] at z1
  simp only [slV] at z3
  simp only [smV, slV] at T5 ⊢
  clear hb bY5 HP5 HL5 HA1 HA2 hbl5 hba5 hid5 T4 hD4 r6
  go_wp2_with fail
  go_ret
  exact ⟨rfl, K7.out⟩
end Go.Proofs.Ytfihpljgbghogaa

/- The document's stream: sealed, Encode. -/
namespace Go.Proofs.Ytfihpljgbghogaa
open Go.RowKit Go.Shelf
set_option linter.unusedVariables false
set_option linter.unusedSimpArgs false
attribute [-simp] Try.isAgg49 Try.zeroValue49 Try.isAgg26 Try.zeroValue26
attribute [-go_sem] loadVar storeVar
attribute [local go_sem] loadVar_openRS storeVar_openRS zero_rc zero_smA

set_option maxRecDepth 100000 in
theorem rput_sl {x : World} (n : Int) (k : Nat) (h1 : 1 ≤ k) (h2 : k ≤ 16) (h0 : 0 ≤ n) (h3 : n < 18446744073709551616) : Calls Try.prog 17 #[.int .u64 n, .int .i64 (k : Int)] x fun e w' => ∃ a c, e = .returned (.slice a k c) ∧ Sl .u8 w' (.slice a k c) (putL n k) ∧ Below x.heap.size x w' := by
  refine (refPut_some n k x h1 h2 h0 h3).mono ?_
  rintro e w' ⟨v, rfl, hrow, hb⟩
  have hs := Sl.of_owns (bs := putL n k) (by rw [putL_length]; exact hrow)
  obtain ⟨a, c, hv, -⟩ := id hs
  rw [putL_length] at hv
  subst hv
  exact ⟨a, c, rfl, hs, hb⟩

end Go.Proofs.Ytfihpljgbghogaa

/- For the statement on heads: an array of three; plain facts. -/
namespace Go.Proofs.Ytfihpljgbghogaa
open Go.RowKit Go.Shelf
set_option linter.unusedVariables false
set_option linter.unusedSimpArgs false
section
variable {W : World} {t e : TypeId} {v : Value} {k : IntKind}
set_option maxRecDepth 100000 in
theorem Arg.arr3 (h : Arg W t v) (hu : Try.prog.underlying t = some (.array 3 e)) (he : Try.prog.underlying e = some (.int k)) (hc : Try.prog.cellsOf e = 1) (hs : Try.prog.cellsOf t = 3) :
    ∃ a b c, v = .agg #[.int k a, .int k b, .int k c] ∧ (Lit.int k a).wf = true ∧ (Lit.int k b).wf = true ∧ (Lit.int k c).wf = true := by
  obtain ⟨cs, rfl, hl, hcs⟩ := h.agg (.inr ⟨_, _, hu⟩)
  obtain ⟨_, hj⟩ := hcs.array hu
  rw [hs] at hl
  rw [hc] at hj
  match cs, hl with
  | [x, y, z], _ =>
    obtain ⟨a, e1, wa⟩ := (hj 0 (by omega)).int he
    obtain ⟨b, e2, wb⟩ := (hj 1 (by omega)).int he
    obtain ⟨c, e3, wc⟩ := (hj 2 (by omega)).int he
    simp at e1 e2 e3
    subst e1 e2 e3
    exact ⟨a, b, c, rfl, wa, wb, wc⟩
end
theorem isBytes_hdF (bl nx id n : Int) : IsBytes (hdF bl nx id n) := isBytes_app (isBytes_app (isBytes_app (isBytes_app isBytes_magic (putL_bytes _ _)) (putL_bytes _ _)) (putL_bytes _ _)) (putL_bytes _ _)
theorem put_one2 : putL 1 2 = [1, 0] := by decide
theorem hh_split (bl nx id n : Int) (u : List Int) : sld (hdF bl nx id n) ++ u = hdF bl nx id n ++ (putL (fnvMore fnvInit (hdF bl nx id n)) 8 ++ u) := sld_app _ _
theorem hh_two (bl nx id n : Int) (u : List Int) : (sld (hdF bl nx id n) ++ u)[2]? = some 83 := by
  rw [hh_split]
  obtain ⟨c, hc⟩ : ∃ c, fnvMore fnvInit (hdF bl nx id n) = c := ⟨_, rfl⟩
  rw [hc]
  unfold hdF
  simp only [List.append_assoc]
  rfl
theorem hh_magic (bl nx id n : Int) (u : List Int) : paE ((sld (hdF bl nx id n) ++ u).set 2 82) = 20 := by
  rw [hh_split]
  obtain ⟨c, hc⟩ : ∃ c, fnvMore fnvInit (hdF bl nx id n) = c := ⟨_, rfl⟩
  rw [hc]
  refine hd_magic (by rw [List.length_set, List.length_append, hdF_length]; omega) ?_
  unfold hdF
  simp only [List.append_assoc]
  show ([82, 86, 82, 49] : List Int) ≠ mgk
  decide
theorem hh_check (bl nx id n : Int) (u : List Int) {y : Int} (hy : 0 ≤ y ∧ y < 256) (hn : y ≠ (sld (hdF bl nx id n) ++ u)[20]?.getD 0) : paE ((sld (hdF bl nx id n) ++ u).set 20 y) = 22 := by
  rw [hh_split] at hn ⊢
  obtain ⟨c, hc⟩ : ∃ c, fnvMore fnvInit (hdF bl nx id n) = c := ⟨_, rfl⟩
  rw [hc] at hn ⊢
  have hl := hdF_length bl nx id n
  have hp := putL_length c 8
  have e1 : (hdF bl nx id n ++ (putL c 8 ++ u)).set 20 y = hdF bl nx id n ++ ((putL c 8).set 4 y ++ u) := by
    rw [List.set_append_right _ _ (by omega), hl, List.set_append_left _ _ (by omega)]
  have e2 : (hdF bl nx id n ++ (putL c 8 ++ u))[20]? = (putL c 8)[4]? := by
    rw [List.getElem?_append_right (by omega), hl, List.getElem?_append_left (by omega)]
  rw [e2] at hn
  rw [e1]
  have hB : IsBytes ((putL c 8).set 4 y) := IsBytes.set (putL_bytes c 8) hy
  have hl8 : ((putL c 8).set 4 y).length = 8 := by rw [List.length_set, hp]
  obtain ⟨h1, h2, h3, -, -, -, -, h8⟩ := hd_cuts (b := hdF bl nx id n ++ ((putL c 8).set 4 y ++ u)) (M := mgk) (B := putL bl 2) (X := putL nx 4) (I := putL id 4) (N := putL n 2) (C := (putL c 8).set 4 y) (u := u) (by simp only [hdF, List.append_assoc]) rfl (putL_length _ _) (putL_length _ _) (putL_length _ _) (putL_length _ _) hl8
  refine hd_check h8 h1 ?_
  rw [h2, h3, show mgk ++ putL bl 2 ++ putL nx 4 ++ putL id 4 ++ putL n 2 = hdF bl nx id n from rfl, hc]
  intro h
  apply hn
  have h4 := putL_getL _ hB (by omega)
  rw [hl8, ← h] at h4
  rw [h4, List.getElem?_set_self (by omega)]
  rfl
set_option maxRecDepth 100000 in
theorem slice_2 (a b : Int) (w : World) : (Instr.buildSlice 22 2 #[(0, .int .u8 a), (1, .int .u8 b)]).run Try.prog w = .ok (.slice (some ⟨w.heap.size, 0, none⟩) 2 2) (w.alloc (.cells #[.int .u8 a, .int .u8 b] 5)) := by kernel_rfl
set_option maxRecDepth 100000 in
/-- Bytes behind an empty literal, and others behind them. -/
theorem app_cat {w : World} {v u : Value} {as0 bs : List Int} (hv : Sl .u8 w v as0) (hu : Sl .u8 w u bs) (hl : as0.length + bs.length ≤ 900000) (h0 : 0 < as0.length) : ∃ (v1 : SlV) (w1 : World) (g cap : Nat) (w2 : World),
    (Builtin.append_ #[22, 22] 22 #[.slice (some ⟨w.heap.size, 0, none⟩) 0 0, v]).run Try.prog (w.alloc (.cells #[] 5)) = .ok (slV v1) w1 ∧
    (Builtin.append_ #[22, 22] 22 #[slV v1, u]).run Try.prog w1 = .ok (.slice (some ⟨g, 0, none⟩) (as0 ++ bs).length cap) w2 ∧
    w2.ownsRow w.heap.size 5 1 (.slice (some ⟨g, 0, none⟩) (as0 ++ bs).length cap) (as0 ++ bs).length ((as0 ++ bs).map (Value.int .u8)) ∧ Below w.heap.size w w2 := by
  obtain ⟨v', w1, hA, hO, hB⟩ := copy_lit w v as0 hv (by omega)
  obtain ⟨v1, rfl, -⟩ := own_slV hO.out
  obtain ⟨v'', w2, r1, r2, r3⟩ := run_append_bytes w.heap.size w1 _ as0 hO.out u bs (hu.below hB.out) (by omega) hB.out.size
  obtain ⟨g, cap, rfl⟩ := Joins.ownsRow_form r2 (by rw [List.length_append]; omega)
  exact ⟨v1, w1, g, cap, w2, hA.out, r1, r2, hB.out.grown r3 hB.out.size (fun j e => (World.ownsRow.lt hO.out j e).1)⟩
theorem own_cell {w : World} {N g cap : Nat} {bs : List Int} (h : w.ownsRow N 5 1 (.slice (some ⟨g, 0, none⟩) bs.length cap) bs.length (bs.map (Value.int .u8))) {j : Nat} (hj : j < bs.length) : w.cell? ⟨g, j, none⟩ = some (.int .u8 (bs[j]?.getD 0)) := by
  rw [h.cellAt j (by omega)]
  simp [hj]
theorem hh_not {bl nx id : Int} (h : 1 ≤ bl ∧ bl ≤ 64) (h0 : 0 ≤ nx) : ¬ hdOk bl (nx - 1) id ↔ id < 1 ∨ 1000000 < id ∨ nx - 1 = 0 ∨ id ≤ nx - 1 := by
  unfold hdOk
  omega
end Go.Proofs.Ytfihpljgbghogaa

/- The helper of the statements that brings a number into a range. -/
namespace Go.Proofs.Ytfihpljgbghogaa
open Go.RowKit
set_option linter.unusedVariables false

/-- A number brought into the range from 0 to n - 1. -/
def modI (k n : Int) : Int := if n < 1 then 0 else k % n
theorem modI_bd {k n : Int} (h : 1 ≤ n) : 0 ≤ modI k n ∧ modI k n < n := by
  unfold modI; rw [if_neg (by omega)]
  exact ⟨Int.emod_nonneg _ (by omega), Int.emod_lt_of_pos _ (by omega)⟩

set_option maxRecDepth 100000 in
set_option maxHeartbeats 1000000 in
theorem mod_any (k n : Int) (w : World) (hn : n < 4611686018427387904) :
    Calls Try.prog 16 #[.int .i64 k, .int .i64 n] w fun e w' => e = .returned (.int .i64 (modI k n)) ∧ w' = w := by
  by_cases h : n < 1
  · go_enter Try.func16, Try.ntmps16
    go_wp2
    go_ret
    exact ⟨by simp [modI, h], rfl⟩
  · go_enter Try.func16, Try.ntmps16
    go_wp2
    have e : (wrap64 (k.tmod n + n)).tmod n = modI k n := by
      have h1 : k.tmod n = k - n * k.tdiv n := by have := Int.mul_tdiv_add_tmod k n; omega
      have h2 : k.tmod n < n := Int.tmod_lt_of_pos k (by omega)
      have h3 : -n < k.tmod n := by
        have := Int.tmod_lt_of_pos (-k) (show 0 < n by omega)
        rw [Int.neg_tmod] at this; omega
      have h4 : wrap64 (k.tmod n + n) = k.tmod n + n := by unfold wrap64; omega
      rw [h4, Int.tmod_eq_emod_of_nonneg (by omega), Int.add_emod_right, h1]
      unfold modI
      rw [if_neg (by omega), Int.sub_mul_emod_self_left]
    rw [e]
    go_ret
    exact ⟨rfl, rfl⟩
end Go.Proofs.Ytfihpljgbghogaa

