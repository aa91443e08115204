/- The document's own bits: New, Has, With, Or, All, Good. -/
import Derived.Test.YtiidfffedoekiaaBiCo
namespace Go.Proofs.Ytiidfffedoekiaa
open Go.RowKit Go.Shelf
set_option linter.unusedVariables false
attribute [local go_sem] Oper.semAt_some

theorem shr_bit (y j : Nat) (hy : y < 256) : (bits BinOp.and IntKind.u8 ((y : Int) / 2 ^ j) 1 == 1) = y.testBit j := by
  have e : (y : Int) / 2 ^ j = ((y / 2 ^ j : Nat) : Int) := by simp
  have hlt : y / 2 ^ j < 256 := Nat.lt_of_le_of_lt (Nat.div_le_self _ _) hy
  rw [e, show (1 : Int) = ((1 : Nat) : Int) from rfl, u8_and_nat _ 1 hlt (by decide), nat_mask1, Nat.testBit_eq_decide_div_mod_eq, Bool.eq_iff_iff]
  simp only [beq_iff_eq, decide_eq_true_eq]
  omega

theorem wf_i64 {n : Int} (h0 : -9223372036854775808 ≤ n) (h1 : n ≤ 9223372036854775807) : (Lit.int .i64 n).wf = true := by
  have e1 : IntKind.i64.min = -9223372036854775808 := by decide
  have e2 : IntKind.i64.max = 9223372036854775807 := by decide
  simp [Lit.wf]
  omega
theorem own_block {w : World} {base e n s : Nat} {v : Value} {xs : List Value} (h : w.ownsRow base e s v n xs) : ∀ k, v.ownBlock = some k → base ≤ k := by
  intro k hk
  rcases h.2 with ⟨rfl, _⟩ | ⟨g, cap, cur, rfl, h1, _⟩
  · cases hk
  · cases hk; exact h1

section
set_option maxRecDepth 100000
set_option maxHeartbeats 2000000
set_option maxRecDepth 100000 in
theorem rf_new (n : Int) (hn : (Lit.int .i64 n).wf = true) (w : World) : Calls Try.prog 50 #[.int .i64 n] w fun e w' => ∃ v, e = .returned v ∧ Sl .u8 w' v (List.replicate (sizeB n) 0) ∧ Below w.heap.size w w' := by
  obtain ⟨i0, hi, hz0, hz1, hz2⟩ := info_parts info_u8
  obtain ⟨s, hs⟩ : ∃ s, sizeB n = s := ⟨_, rfl⟩
  have HS := Lib.hid hs
  rw [hs]
  clear hs hn
  by_cases h1 : n < 1
  · have e : s = 0 := by rw [← HS.out, sizeB, if_pos (.inl h1)]
    subst e
    go_enter Try.func50, Try.ntmps50
    go_wp2
    go_ret
    exact ⟨_, rfl, Sl.nil _ _, Below.refl _ _⟩
  · by_cases h2 : 4096 < n
    · have e : s = 0 := by rw [← HS.out, sizeB, if_pos (.inr h2)]
      subst e
      go_enter Try.func50, Try.ntmps50
      go_wp2
      go_ret
      exact ⟨_, rfl, Sl.nil _ _, Below.refl _ _⟩
    · have e : (n + 7) / 8 = (s : Int) := by rw [← HS.out, sizeB, if_neg (by omega)]; omega
      have hs : s ≤ 512 := by omega
      go_enter Try.func50, Try.ntmps50
      go_wp2_with (at_make; refine wpList_make_full _ rfl _ _ 31 rfl w.heap.size 5 i0 (.int .u8 0) 1 Try.underlying31 hi hz0 hz1 .i64 .i64 _ _ s rfl rfl e e (by rw [hz2]; omega) (by unfold maxLen; omega) (by simp) ?_; intro w1 hown1 hgrow1)
      go_ret
      refine ⟨_, rfl, ?_, (Below.refl _ w).grown hgrow1 (Nat.le_refl _) (fun k e => by cases e)⟩
      rw [show (Value.int .u8 0).cells = #[.int .u8 0] from rfl, toList_madeCells_one, Nat.mul_one] at hown1
      exact Sl.of_owns (bs := List.replicate s 0) (by rw [List.length_replicate, List.map_replicate]; exact hown1)

set_option maxRecDepth 100000 in
theorem rf_has (v : Value) (bs : List Int) (i : Int) (hi : (Lit.int .i64 i).wf = true) (w : World) (hv : Sl .u8 w v bs) (hb : IsBytes bs) :
    Calls Try.prog 31 #[v, .int .i64 i] w fun e w' => e = .returned (.bool (hasB bs i)) ∧ w' = w := by
  obtain ⟨a, cap, rfl, hcc, hcm, hl, -⟩ := hv
  obtain ⟨L, hL⟩ : ∃ L, bs.length = L := ⟨_, rfl⟩
  have HL := Lib.hid hL
  have HR := Lib.hid (i64_bd hi)
  rw [hL] at hcc ⊢
  clear hL hi
  by_cases h : 0 ≤ i ∧ i / 8 < (L : Int)
  · obtain ⟨n, rfl⟩ := Int.eq_ofNat_of_zero_le h.1
    obtain ⟨x, hx⟩ : ∃ x, bs[n / 8]?.getD 0 = x := ⟨_, rfl⟩
    obtain ⟨k, hk⟩ : ∃ k, n / 8 = k := ⟨_, rfl⟩
    have hn : k < L := by omega
    obtain ⟨y, rfl, hy8⟩ : ∃ y : Nat, x = (y : Int) ∧ y < 256 := by
      obtain ⟨y, h1, h2⟩ := byte_of bs hb (n / 8)
      exact ⟨y, by rw [← hx, h1], h2⟩
    obtain ⟨b, o, rfl, hbw, hcs⟩ : ∃ b o, a = some ⟨b, o, none⟩ ∧ b < w.heap.size ∧ ∀ j, j < bs.length → w.cell? ⟨b, o + j, none⟩ = some (.int .u8 (bs[j]?.getD 0)) := by
      rcases hl with h | h
      · have := HL.out; rw [h] at this; simp at this; omega
      · exact h
    have c1 : w.cell? ⟨b, o + k, none⟩ = some (.int .u8 (y : Int)) := by
      rw [hcs k (by rw [HL.out]; exact hn), ← hk, hx]
    have hq : (n : Int) / 8 = (k : Int) := by omega
    have hres : hasB bs (n : Int) = y.testBit (n % 8) := by
      rw [has_nat]; unfold bitAt; rw [hx, Int.toNat_natCast]
    obtain ⟨r, hr⟩ : ∃ r, hasB bs (n : Int) = r := ⟨_, rfl⟩
    rw [hr] at hres ⊢
    have HRs := Lib.hid hres
    have hkL : (k : Int) < (L : Int) := by omega
    have hk0 : (k : Int) ≤ 1152921504606846975 := by have := HR.out; omega
    clear hx hk hn hcs hl h hb hres hr
    go_enter Try.func31, Try.ntmps31
    go_wp2
    go_ret
    refine ⟨congrArg (fun b => Ending.returned (Value.bool b)) ?_, rfl⟩
    rw [HRs.out]
    exact shr_bit y (n % 8) hy8
  · have hres : hasB bs i = false := by
      unfold hasB
      by_cases h0 : 0 ≤ i
      · have : bitAt bs i.toNat = false := by
          rw [Bool.eq_false_iff]; intro hh
          have := bit_in hh
          rw [HL.out] at this; omega
        rw [this, Bool.and_false]
      · rw [decide_eq_false h0, Bool.false_and]
    rw [hres]
    by_cases h0 : 0 ≤ i
    · obtain ⟨n, rfl⟩ := Int.eq_ofNat_of_zero_le h0
      obtain ⟨k, hk⟩ : ∃ k, (n : Int) / 8 = k := ⟨_, rfl⟩
      have hk2 : (L : Int) ≤ k := by omega
      have hk0 : (k : Int) ≤ 1152921504606846975 := by have := HR.out; omega
      have hk1 : 0 ≤ k := by omega
      have hlt : decide (k < (L : Int)) = false := decide_eq_false (by omega)
      clear hres hl h hb hk2
      go_enter Try.func31, Try.ntmps31
      go_wp2
      go_ret
      exact ⟨rfl, rfl⟩
    · clear hres hl h hb
      go_enter Try.func31, Try.ntmps31
      go_wp2
      go_ret
      exact ⟨rfl, rfl⟩

set_option maxRecDepth 100000 in
theorem rf_all (v : Value) (bs : List Int) (w : World) (hv : Sl .u8 w v bs) (hb : IsBytes bs) (hlen : bs.length ≤ 100000) :
    Calls Try.prog 20 #[v] w fun e w' => ∃ v', e = .returned v' ∧ w'.ownsRow w.heap.size 3 1 v' (allB bs).length (natV (allB bs)) ∧ Below w.heap.size w w' := by
  obtain ⟨i0, hi, hz0, hz1, hz2⟩ := info_parts info_int'
  have HV := Lib.hid hv
  obtain ⟨a, cap, rfl, _⟩ := hv
  obtain ⟨L, hL⟩ : ∃ L, bs.length = L := ⟨_, rfl⟩
  have HL := Lib.hid hL
  have HBs := Lib.hid hb
  rw [hL] at hlen HV ⊢
  clear hL hb
  go_enter Try.func20, Try.ntmps20
  go_wp2
  go_loopw [3, 4] (fun v i wr => ∃ k : Nat, k ≤ 8 * L ∧ i = .int .i64 (k : Int) ∧ Hid (wr.ownsRow w.heap.size 3 1 v (allTo bs k).length (natV (allTo bs k))) ∧ Hid (Below w.heap.size w wr)) (fun _ i _ => 8 * L - (intOf i).toNat)
  case atStart => exact ⟨0, Nat.zero_le _, rfl, World.ownsRow_nil _ _ _ _, Below.refl _ _⟩
  case round =>
    obtain ⟨k, hk, rfl, HO, HW⟩ := hrel
    by_cases hlt : k < 8 * L
    · have HH := Lib.hid (rf_has (.slice a L cap) bs (k : Int) (wf_i64 (by omega) (by omega)) wr (HV.out.below HW.out) HBs.out)
      rw [has_nat] at HH
      have HLT := Lib.hid hlt
      have hk8 : (k : Int) < 8 * (L : Int) := by omega
      have hkm : k ≤ 800000 := by omega
      have hlen2 : (allTo bs k).length ≤ 800000 := Nat.le_trans (allTo_len bs k) hkm
      obtain ⟨t, ht⟩ : ∃ t, bitAt bs k = t := ⟨_, rfl⟩
      rw [ht] at HH
      have HT : Hid (allTo bs (k + 1) = allTo bs k ++ if t then [k] else []) := by show _ = _; rw [allTo_succ, ht]
      have ho := HO.out
      clear hlt ht
      cases t with
      | true =>
        go_wp2_with (first | (go_at_call 31; refine HH.out.mono ?_; rintro e w' ⟨rfl, hw'⟩; obtain rfl := hw'.symm) | (at_builtin; refine wpList_append_own _ rfl _ _ 35 rfl w.heap.size 3 i0 (.int .i64 0) 1 8 Try.underlying35 hi hz0 hz1 hz2 rfl (by decide) _ _ _ rfl (ho.alloc _) ⟨wr.heap.size, 0, none⟩ 1 1 [.int .i64 (k : Int)] rfl rfl (cell_new1 _ _ _) (by simp [Value.oneCell']) (by unfold maxLen; omega) (by omega) (by have := HW.out.size; simp; omega) ?_; intro v' w2 hown' hgrow _))
        refine ⟨⟨k + 1, HLT.out, by simp, ?_, (HW.out.alloc HW.out.size _).grown hgrow (by have := HW.out.size; simp; omega) (own_block ho)⟩, by have := HLT.out; simp only [intOf]; omega⟩
        rw [show allTo bs (k + 1) = allTo bs k ++ [k] from by rw [HT.out]; simp, natV_snoc, List.length_append]
        exact hown'
      | false =>
        go_wp2_with (first | (go_at_call 31; refine HH.out.mono ?_; rintro e w' ⟨rfl, hw'⟩; obtain rfl := hw'.symm))
        refine ⟨⟨k + 1, HLT.out, by simp, ?_, HW⟩, by have := HLT.out; simp only [intOf]; omega⟩
        rw [HT.out]
        simpa using HO
    · obtain rfl : k = 8 * L := by omega
      have ho := HO.out
      have hk8 : ¬ (((8 * L : Nat) : Int) < 8 * (L : Int)) := by omega
      clear hk
      go_wp2
      go_ret
      refine ⟨_, rfl, ?_, HW.out⟩
      rw [← allTo_all, HL.out]
      exact ho

set_option maxRecDepth 100000 in
theorem rf9_good (v : Value) (bs : List Int) (n : Int) (hn : (Lit.int .i64 n).wf = true) (w : World) (hv : Sl .u8 w v bs) (hb : IsBytes bs) (hlen : bs.length ≤ 9223372036854775807) :
    Calls Try.prog 29 #[v, .int .i64 n] w fun e w' => e = .returned (.bool (goodB bs n)) ∧ Below w.heap.size w w' := by
  have HV := Lib.hid hv
  obtain ⟨a, cap, rfl, _⟩ := hv
  obtain ⟨L, hL⟩ : ∃ L, bs.length = L := ⟨_, rfl⟩
  have HL := Lib.hid hL
  have HBs := Lib.hid hb
  have HN := Lib.hid (rf_new n hn w)
  obtain ⟨s, hs⟩ : ∃ s, sizeB n = s := ⟨_, rfl⟩
  have HSZ := Lib.hid hs
  have HR := Lib.hid (i64_bd hn)
  rw [hL] at hlen HV ⊢
  rw [hs] at HN
  have hs512 : s ≤ 512 := by rw [← hs]; unfold sizeB; split <;> omega
  clear hL hb hs hn
  by_cases h : L = s
  · have hne : ((L : Int) != (s : Int)) = false := by simp; omega
    have hL512 : L ≤ 512 := by omega
    obtain ⟨m, hm⟩ : ∃ m : Nat, n.toNat = m := ⟨_, rfl⟩
    have HM := Lib.hid hm
    have hmax : ∀ (ts : Array TypeId) (t : TypeId) (W : World), (Builtin.max_ ts t #[.int .i64 0, .int .i64 n]).run Try.prog W = .ok (.int .i64 (m : Int)) W := fun ts t W => by
      rw [run_max_int2]
      congr 2
      split <;> omega
    have HQ : Hid (bs.length = sizeB n) := by show _ = _; rw [HL.out, HSZ.out, h]
    clear hm h
    go_enter Try.func29, Try.ntmps29
    go_wp2_with (go_at_call 50; refine HN.out.mono ?_; rintro e w1 ⟨v1, rfl, hs1, hB1⟩; obtain ⟨a1, c1, rfl, hq1, hq2, _⟩ := hs1; rw [List.length_replicate]; have HB1 := Lib.hid hB1; clear hB1)
    go_loopw [5] (fun i wr => ∃ k : Nat, m ≤ k ∧ i = .int .i64 (k : Int) ∧ Hid (∀ j, m ≤ j → j < k → bitAt bs j = false) ∧ Hid (Below w.heap.size w wr)) (fun i _ => 8 * L - (intOf i).toNat)
    case atStart => exact ⟨m, Nat.le_refl _, rfl, fun j h1 h2 => by omega, HB1⟩
    case round =>
      obtain ⟨k, hk, rfl, HO, HW⟩ := hrel
      by_cases hlt : k < 8 * L
      · have HH := Lib.hid (rf_has (.slice a L cap) bs (k : Int) (wf_i64 (by omega) (by omega)) wr (HV.out.below HW.out) HBs.out)
        rw [has_nat] at HH
        have HLT := Lib.hid hlt
        have hk8 : (k : Int) < 8 * (L : Int) := by omega
        have hkm : k ≤ 800000 := by omega
        obtain ⟨t, ht⟩ : ∃ t, bitAt bs k = t := ⟨_, rfl⟩
        have HT := Lib.hid ht
        rw [ht] at HH
        have HK := Lib.hid hk
        clear hlt ht hk
        cases t with
        | true =>
          have HG : Hid (goodB bs n = false) := good_no2 (y := k) (mem_all.2 HT.out) (by have := HM.out; have := HK.out; omega)
          go_wp2_with (first | (go_at_call 31; refine HH.out.mono ?_; rintro e w' ⟨rfl, hw'⟩; obtain rfl := hw'.symm))
          go_ret
          exact ⟨by rw [HG.out]; rfl, HW.out⟩
        | false =>
          go_wp2_with (first | (go_at_call 31; refine HH.out.mono ?_; rintro e w' ⟨rfl, hw'⟩; obtain rfl := hw'.symm))
          refine ⟨⟨k + 1, by have := HK.out; omega, by simp, fun j h1 h2 => ?_, HW⟩, by have := HLT.out; simp only [intOf]; omega⟩
          by_cases e : j = k
          · subst e; exact HT.out
          · exact HO.out j h1 (by omega)
      · have HG : Hid (goodB bs n = true) := by
          refine good_yes HQ.out fun y hy => ?_
          by_cases e : (y : Int) < n
          · exact e
          · exfalso
            have hb1 := mem_all.1 hy
            have hin := bit_in hb1
            rw [HL.out] at hin
            rw [HO.out y (by have := HM.out; omega) (by omega)] at hb1
            cases hb1
        have hk8 : ¬ ((k : Int) < 8 * (L : Int)) := by omega
        go_wp2
        go_ret
        exact ⟨by rw [HG.out]; rfl, HW.out⟩
  · have hne : ((L : Int) != (s : Int)) = true := by simp; omega
    have HG : Hid (goodB bs n = false) := good_no1 (by rw [HL.out, HSZ.out]; exact h)
    clear h
    go_enter Try.func29, Try.ntmps29
    go_wp2_with (go_at_call 50; refine HN.out.mono ?_; rintro e w1 ⟨v1, rfl, hs1, hB1⟩; obtain ⟨a1, c1, rfl, hq1, hq2, _⟩ := hs1; rw [List.length_replicate]; have HB1 := Lib.hid hB1; clear hB1)
    go_ret
    exact ⟨by rw [HG.out]; rfl, HB1.out⟩

set_option maxRecDepth 100000 in
/-- **Or**, the document's: the longer one first. -/
theorem rf_orO (u v : Value) (as_ bs : List Int) (w : World) (hu : Sl .u8 w u as_) (hv : Sl .u8 w v bs) (ha : IsBytes as_) (hb : IsBytes bs) (hla : as_.length ≤ 100000) (hlb : bs.length ≤ 100000) :
    Calls Try.prog 46 #[u, v] w fun e w' => ∃ v', e = .returned v' ∧ w'.ownsRow w.heap.size 5 1 v' (orB as_ bs).length ((orB as_ bs).map (Value.int .u8)) ∧ Below w.heap.size w w' := by
  have hmx : Try.prog.follows .mixedOrders = true := by kernel_rfl
  obtain ⟨a0, ca, rfl, -, -⟩ := Lies.of_sl hu
  obtain ⟨b0, cb, rfl, -, -⟩ := Lies.of_sl hv
  by_cases h : as_.length < bs.length
  · skip
    obtain ⟨p, hp⟩ : ∃ p, bs.length = p := ⟨_, rfl⟩
    obtain ⟨q, hq⟩ : ∃ q, as_.length = q := ⟨_, rfl⟩
    obtain ⟨v3, w3, HA, HO, HB⟩ := copy_lit w (.slice b0 bs.length cb) bs hv (by omega)
    have HS3 : Hid (Sl .u8 w3 v3 bs) := Sl.of_owns HO.out
    obtain ⟨a3, c3, rfl, -, -, -, -⟩ := HS3.out
    have HP := Lib.hid hp
    have HQ := Lib.hid hq
    have HSS : Hid (Lies w a0 q as_) := by
      have := (Lies.of_sl hu)
      obtain ⟨a', c', e, hl, _⟩ := this
      simp only [Value.slice.injEq] at e
      obtain ⟨rfl, _, rfl⟩ := e
      rw [hq] at hl
      exact hl
    have HLb := Lib.hid hb
    have HSb := Lib.hid ha
    have hqp : q ≤ p := by omega
    have hpm : p ≤ 100000 := by omega
    have hcond : (q : Int) < (p : Int) := by omega
    rw [hp] at HA HO HS3 ⊢
    rw [hq]
    have HO0 : Hid (w3.ownsRow w.heap.size 5 1 (.slice a3 p c3) p ((orK bs as_ p 0).map (Value.int .u8))) := by
      rw [orK_zero _ _ _ (by rw [HP.out]; omega), HP.out, Nat.sub_self, List.replicate_zero, List.append_nil]
      exact HO.out
    clear hp hq ha hb hla hlb h HO HS3 hu hv
    go_enter Try.func46, Try.ntmps46
    go_wp2_with (at_builtin; refine wpList_append_run (.tmp 14) (.tmp 15) 31 rfl rfl _ _ _ rfl rfl HA.out ?_)
    go_loopw [6] (fun i wr => ∃ k : Nat, k ≤ q ∧ i = .int .i64 (k : Int) ∧ Hid (wr.ownsRow w.heap.size 5 1 (.slice a3 p c3) p ((orK bs as_ p k).map (Value.int .u8))) ∧ Hid (Below w.heap.size w wr)) (fun i _ => q - (intOf i).toNat)
    case atStart => exact ⟨0, Nat.zero_le _, rfl, HO0, HB⟩
    case round =>
      obtain ⟨k, hk, rfl, HO, HW⟩ := hrel
      by_cases hlt : k < q
      · have hkm : k < p := by omega
        obtain ⟨g, o, rfl, hg, hcs⟩ : ∃ g o, a0 = some ⟨g, o, none⟩ ∧ g < w.heap.size ∧ ∀ j, j < q → w.cell? ⟨g, o + j, none⟩ = some (.int .u8 (as_[j]?.getD 0)) := by
          rcases HSS.out with h | h
          · omega
          · exact h
        have ho := HO.out
        rcases ho.2 with ⟨h', h0⟩ | ⟨g3, cap', cur, h', hg3, _⟩
        · exfalso; omega
        · simp only [Value.slice.injEq] at h'
          obtain ⟨rfl, _, rfl⟩ := h'
          obtain ⟨x, hx, hx8⟩ := byte_of bs HLb.out k
          obtain ⟨y, hy, hy8⟩ := byte_of as_ HSb.out k
          have c1 : wr.cell? ⟨g, o + k, none⟩ = some (.int .u8 (y : Int)) := by rw [HW.out.cell (p := ⟨g, o + k, none⟩) hg, hcs k hlt, hy]
          have c2 : wr.cell? ⟨g3, k, none⟩ = some (.int .u8 (x : Int)) := by
            rw [bi_cell ho k hkm, orK_get _ _ _ _ _ hkm, if_neg (by omega), hx]
          have f2 : wr.drew.frozen? ⟨g3, k, none⟩ = false := ho.frozenAt _
          have hor : bits .or .u8 (x : Int) (y : Int) = ((x ||| y : Nat) : Int) := u8_or_nat x y hx8 hy8
          obtain ⟨z, hz⟩ : ∃ z : Int, ((x ||| y : Nat) : Int) = z := ⟨_, rfl⟩
          rw [hz] at hor
          have HS : Hid ((wr.drew.setCell ⟨g3, k, none⟩ (.int .u8 z)).ownsRow w.heap.size 5 1 (.slice (some ⟨g3, 0, none⟩) p c3) p ((orK bs as_ p (k + 1)).map (Value.int .u8))) := by
            have ho' : wr.drew.ownsRow w.heap.size 5 1 (.slice (some ⟨g3, 0, none⟩) p c3) p ((orK bs as_ p k).map (Value.int .u8)) := ho
            have := (ho'.stored k (.int .u8 z)).1
            rw [orK_succ, hx, hy, orI_nat, hz, List.map_set]
            exact this
          have HG3 := Lib.hid hg3
          have HLT := Lib.hid hlt
          have g1 : (k : Int) < (q : Int) := by omega
          have g2 : (k : Int) < (p : Int) := by omega
          have hkm2 : k ≤ 100000 := by omega
          clear hz hx hy hcs hlt ho hg3
          go_wp2_with fail
          refine region_plan (fun x => x = wr.drew) 10 (.takes [0, 1, 2, 3, 4, 5, 6, 7, 8, 9] .leaf) hmx (by kernel_rfl) (by intro c x v a w h; cases x <;> exact h) rfl ?_
          repeat (rw [wpPlan_takes_cons]; simp only [nth_zero, nth_succ]; go_big_quiet_step (fail); refine wpQuiet_nil ?_)
          rw [wpPlan_takes_nil, wpPlan_leaf]
          simp only [List.drop_succ_cons, List.drop_zero]
          go_wp2_with fail
          exact ⟨⟨k + 1, HLT.out, by simp, HS, HW.out.drew.setCell (p := ⟨g3, k, none⟩) HG3.out _⟩, bi_lt HLT.out⟩
      · obtain rfl : k = q := by omega
        go_wp2_with fail
        go_ret
        refine ⟨_, rfl, ?_, HW.out⟩
        have e : orK bs as_ p k = orB as_ bs := by rw [← HQ.out]; rw [or_comm]; exact orK_all _ _ HLb.out _ (by have := HP.out; have := HQ.out; omega)
        have h1 := HO.out
        rw [e] at h1
        have hl : (orB as_ bs).length = p := by rw [or_length]; have := HP.out; have := HQ.out; omega
        rw [hl]
        exact h1
  · skip
    obtain ⟨p, hp⟩ : ∃ p, as_.length = p := ⟨_, rfl⟩
    obtain ⟨q, hq⟩ : ∃ q, bs.length = q := ⟨_, rfl⟩
    obtain ⟨v3, w3, HA, HO, HB⟩ := copy_lit w (.slice a0 as_.length ca) as_ hu (by omega)
    have HS3 : Hid (Sl .u8 w3 v3 as_) := Sl.of_owns HO.out
    obtain ⟨a3, c3, rfl, -, -, -, -⟩ := HS3.out
    have HP := Lib.hid hp
    have HQ := Lib.hid hq
    have HSS : Hid (Lies w b0 q bs) := by
      have := (Lies.of_sl hv)
      obtain ⟨a', c', e, hl, _⟩ := this
      simp only [Value.slice.injEq] at e
      obtain ⟨rfl, _, rfl⟩ := e
      rw [hq] at hl
      exact hl
    have HLb := Lib.hid ha
    have HSb := Lib.hid hb
    have hqp : q ≤ p := by omega
    have hpm : p ≤ 100000 := by omega
    have hcond : ¬ (p : Int) < (q : Int) := by omega
    rw [hp] at HA HO HS3 ⊢
    rw [hq]
    have HO0 : Hid (w3.ownsRow w.heap.size 5 1 (.slice a3 p c3) p ((orK as_ bs p 0).map (Value.int .u8))) := by
      rw [orK_zero _ _ _ (by rw [HP.out]; omega), HP.out, Nat.sub_self, List.replicate_zero, List.append_nil]
      exact HO.out
    clear hp hq ha hb hla hlb h HO HS3 hu hv
    go_enter Try.func46, Try.ntmps46
    go_wp2_with (at_builtin; refine wpList_append_run (.tmp 14) (.tmp 15) 31 rfl rfl _ _ _ rfl rfl HA.out ?_)
    go_loopw [6] (fun i wr => ∃ k : Nat, k ≤ q ∧ i = .int .i64 (k : Int) ∧ Hid (wr.ownsRow w.heap.size 5 1 (.slice a3 p c3) p ((orK as_ bs p k).map (Value.int .u8))) ∧ Hid (Below w.heap.size w wr)) (fun i _ => q - (intOf i).toNat)
    case atStart => exact ⟨0, Nat.zero_le _, rfl, HO0, HB⟩
    case round =>
      obtain ⟨k, hk, rfl, HO, HW⟩ := hrel
      by_cases hlt : k < q
      · have hkm : k < p := by omega
        obtain ⟨g, o, rfl, hg, hcs⟩ : ∃ g o, b0 = some ⟨g, o, none⟩ ∧ g < w.heap.size ∧ ∀ j, j < q → w.cell? ⟨g, o + j, none⟩ = some (.int .u8 (bs[j]?.getD 0)) := by
          rcases HSS.out with h | h
          · omega
          · exact h
        have ho := HO.out
        rcases ho.2 with ⟨h', h0⟩ | ⟨g3, cap', cur, h', hg3, _⟩
        · exfalso; omega
        · simp only [Value.slice.injEq] at h'
          obtain ⟨rfl, _, rfl⟩ := h'
          obtain ⟨x, hx, hx8⟩ := byte_of as_ HLb.out k
          obtain ⟨y, hy, hy8⟩ := byte_of bs HSb.out k
          have c1 : wr.cell? ⟨g, o + k, none⟩ = some (.int .u8 (y : Int)) := by rw [HW.out.cell (p := ⟨g, o + k, none⟩) hg, hcs k hlt, hy]
          have c2 : wr.cell? ⟨g3, k, none⟩ = some (.int .u8 (x : Int)) := by
            rw [bi_cell ho k hkm, orK_get _ _ _ _ _ hkm, if_neg (by omega), hx]
          have f2 : wr.drew.frozen? ⟨g3, k, none⟩ = false := ho.frozenAt _
          have hor : bits .or .u8 (x : Int) (y : Int) = ((x ||| y : Nat) : Int) := u8_or_nat x y hx8 hy8
          obtain ⟨z, hz⟩ : ∃ z : Int, ((x ||| y : Nat) : Int) = z := ⟨_, rfl⟩
          rw [hz] at hor
          have HS : Hid ((wr.drew.setCell ⟨g3, k, none⟩ (.int .u8 z)).ownsRow w.heap.size 5 1 (.slice (some ⟨g3, 0, none⟩) p c3) p ((orK as_ bs p (k + 1)).map (Value.int .u8))) := by
            have ho' : wr.drew.ownsRow w.heap.size 5 1 (.slice (some ⟨g3, 0, none⟩) p c3) p ((orK as_ bs p k).map (Value.int .u8)) := ho
            have := (ho'.stored k (.int .u8 z)).1
            rw [orK_succ, hx, hy, orI_nat, hz, List.map_set]
            exact this
          have HG3 := Lib.hid hg3
          have HLT := Lib.hid hlt
          have g1 : (k : Int) < (q : Int) := by omega
          have g2 : (k : Int) < (p : Int) := by omega
          have hkm2 : k ≤ 100000 := by omega
          clear hz hx hy hcs hlt ho hg3
          go_wp2_with fail
          refine region_plan (fun x => x = wr.drew) 10 (.takes [0, 1, 2, 3, 4, 5, 6, 7, 8, 9] .leaf) hmx (by kernel_rfl) (by intro c x v a w h; cases x <;> exact h) rfl ?_
          repeat (rw [wpPlan_takes_cons]; simp only [nth_zero, nth_succ]; go_big_quiet_step (fail); refine wpQuiet_nil ?_)
          rw [wpPlan_takes_nil, wpPlan_leaf]
          simp only [List.drop_succ_cons, List.drop_zero]
          go_wp2_with fail
          exact ⟨⟨k + 1, HLT.out, by simp, HS, HW.out.drew.setCell (p := ⟨g3, k, none⟩) HG3.out _⟩, bi_lt HLT.out⟩
      · obtain rfl : k = q := by omega
        go_wp2_with fail
        go_ret
        refine ⟨_, rfl, ?_, HW.out⟩
        have e : orK as_ bs p k = orB as_ bs := by rw [← HQ.out]; exact orK_all _ _ HLb.out _ (by have := HP.out; have := HQ.out; omega)
        have h1 := HO.out
        rw [e] at h1
        have hl : (orB as_ bs).length = p := by rw [or_length]; have := HP.out; have := HQ.out; omega
        rw [hl]
        exact h1
end
set_option maxRecDepth 100000 in
theorem rf_or (u v : Value) (as_ bs : List Int) (w : World) (hu : Sl .u8 w u as_) (hv : Sl .u8 w v bs) (ha : IsBytes as_) (hb : IsBytes bs) (hla : as_.length ≤ 100000) (hlb : bs.length ≤ 100000) :
    Calls Try.prog 46 #[u, v] w fun e w' => ∃ v', e = .returned v' ∧ Sl .u8 w' v' (orB as_ bs) ∧ Below w.heap.size w w' :=
  (rf_orO u v as_ bs w hu hv ha hb hla hlb).mono fun _ _ ⟨v', e, h, hB⟩ => ⟨v', e, Sl.of_owns h, hB⟩
end Go.Proofs.Ytiidfffedoekiaa
