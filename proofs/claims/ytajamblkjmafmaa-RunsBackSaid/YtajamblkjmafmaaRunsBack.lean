/- The blocks of the runs of numbers are these; the runs of numbers that rise lie apart; the runs of the blocks of runs that lie apart are these. -/
import Derived.Test.YtajamblkjmafmaaRuLt
import Derived.Test.YtajamblkjmafmaaRuRO
import Derived.Test.YtajamblkjmafmaaRuRG
import Derived.Test.YtajamblkjmafmaaRuRB
import Derived.Test.YtajamblkjmafmaaRuSm
import Derived.Test.YtajamblkjmafmaaRuWk
import Derived.Test.YtajamblkjmafmaaRuUp
import Derived.Test.YtajamblkjmafmaaArgSl
namespace Go.Proofs.Ytajamblkjmafmaa.runsBack
open Go.ChangeShapes Go.WideShapes Go.ChangeAt Go.RowKit
set_option linter.unusedVariables false
set_option linter.unusedSimpArgs false
attribute [-simp] Try.isAgg36 Try.zeroValue36
attribute [-go_sem] loadVar storeVar
attribute [local go_sem] loadVar_openR storeVar_openR zero_rns build_rns0 build_rns

set_option maxRecDepth 100000 in
set_option maxHeartbeats 2000000 in
theorem walk (v0 v1 : Value) (w : World) (w0 : Arg w 31 v0) (w1 : Arg w 23 v1) :
    Calls Try.prog 4 #[v0, v1] w fun e w' => e = .returned (.bool true) ∧ Below w.heap.size w w' := by
  obtain ⟨a, len, cap, xs, rfl, hl, hm, hs, hby⟩ := w0.bytes Try.underlying31 Try.underlying5 (by kernel_rfl)
  obtain ⟨m, hp⟩ := w1.rnt
  have HP := Lib.hid hp
  obtain ⟨pa, pc, rfl, hp1, hp2, -⟩ := hp
  obtain ⟨M, hM⟩ : ∃ M, m.length = M := ⟨_, rfl⟩
  rw [hM] at HP hp1 ⊢
  subst hl
  obtain ⟨n, hL⟩ : ∃ L, xs.length = L := ⟨_, rfl⟩
  rw [hL] at hs hm ⊢
  have HBY := Lib.hid hby
  have HN := Lib.hid hL
  have HM := Lib.hid hM
  have HWK := Lib.hid ru_wakes
  have HLA : Hid (n = 0 ∨ ∃ b off, a = some ⟨b, off, none⟩ ∧ ∀ x : World, Below w.heap.size w x → ∀ j, j < n → x.cell? ⟨b, off + j, none⟩ = some (.int .u8 (xs[j]?.getD 0))) := by
    obtain ⟨a', c', e, -, -, h3, -⟩ := hs
    cases e
    rcases h3 with h3 | ⟨b, o, rfl, h4, h5⟩
    · exact .inl (by rw [← hL, h3]; rfl)
    · exact .inr ⟨b, o, rfl, fun x hx j hj => (hx.cell (p := ⟨b, o + j, none⟩) h4).trans (h5 j (by rw [hL]; exact hj))⟩
  clear w0 w1 hby hs hL hM hp2 hm
  by_cases q1 : 300 < n
  · have e1 : decide ((n : Int) > 300) = true := by simp; omega
    go_enter Try.func4, Try.ntmps4
    go_wp2_with fail
    refine (HWK.out w).mono ?_
    rintro e x ⟨rfl, hb⟩
    go_wp2_with fail
    go_ret
    exact ⟨rfl, hb⟩
  · have e1 : decide ((n : Int) > 300) = false := by simp; omega
    by_cases q2 : 30 < M
    · have e2 : decide ((M : Int) > 30) = true := by simp; omega
      go_enter Try.func4, Try.ntmps4
      go_wp2_with fail
      refine (HWK.out w).mono ?_
      rintro e x ⟨rfl, hb⟩
      go_wp2_with fail
      go_ret
      exact ⟨rfl, hb⟩
    · have e2 : decide ((M : Int) > 30) = false := by simp; omega
      have HMM : Hid (m.length ≤ 30) := by show _ ≤ _; rw [HM.out]; omega
      have hn3 : n ≤ 300 := by omega
      clear q1 q2
      go_enter Try.func4, Try.ntmps4
      go_wp2_with fail
      clear e1 e2
      go_loopw [5, 7] (fun bv iv wr => ∃ k : Nat, k ≤ n ∧ iv = .int .i64 (k : Int) ∧ Hid (InO w.heap.size wr bv (xs.take k)) ∧ Hid (Below w.heap.size w wr)) (fun _ iv _ => n - (intOf iv).toNat)
      case atStart => exact ⟨0, Nat.zero_le _, rfl, InO.nil _ _, Below.refl _ _⟩
      case round =>
        obtain ⟨k, hk, rfl, HF, HB⟩ := hrel
        by_cases hlt : k < n
        · have g1 : (k : Int) < (n : Int) := by omega
          have HW : Hid (wrap64 ((k : Int) + 1) = (k : Int) + 1) := IntWalk.wrap64_in _ (by omega)
          obtain ⟨b, off, rfl, hC⟩ := HLA.out.resolve_left (by omega)
          obtain ⟨x, hx⟩ : ∃ x, xs[k]? = some x := ⟨_, List.getElem?_eq_getElem (by rw [HN.out]; exact hlt)⟩
          have c1 := hC wr HB.out k hlt
          have hxb := HBY.out k
          rw [hx] at c1 hxb
          simp only [Option.getD_some] at c1 hxb
          obtain ⟨hx0, hx1⟩ := hxb
          have HTK : Hid (xs.take (k + 1) = xs.take k ++ [x]) := by show _ = _; rw [List.take_add_one, hx]; rfl
          have HLT := Lib.hid hlt
          obtain ⟨W1, f2, W2, SB, HA, HF2, HB2, -⟩ := bl_more HF.out HB.out x (by rw [List.length_take]; omega)
          clear hx hC hlt HF HB
          go_wp2_with (first | (refine gate_build ?_; refine wpList_build_run 22 1 #[(0, .tmp 30)] rfl rfl [(0, _)] _ rfl SB ?_) | (at_builtin; refine wpList_append_run (.tmp 25) (.tmp 31) 22 rfl rfl _ _ _ rfl rfl (HA.out _) ?_))
          exact ⟨⟨k + 1, HLT.out, by simp, by show InO _ _ _ _; rw [HTK.out]; exact HF2.out, HB2⟩, by have := HLT.out; simp [intOf]; omega⟩
        · obtain rfl : k = n := by omega
          have hF := HF.out
          rw [List.take_of_length_le (by rw [HN.out]; exact Nat.le_refl _)] at hF
          obtain ⟨W1, rfl⟩ : ∃ W, W = wr := ⟨_, rfl⟩
          have HIN : Hid (Sl .i64 W1 u5 xs) := sl_own hF
          have HB1 : Hid (Below w.heap.size w W1) := HB.out
          clear hF HF HB hlt
          go_wp2_with fail
          go_loopw [6, 8, 9] (fun rv iv jv W => ∃ (v : Nat) (R : List Int), v ≤ 256 ∧ iv = .int .i64 (v : Int) ∧ Hid (InO W1.heap.size W rv R) ∧ Hid (rnUp R) ∧ Hid (∀ x ∈ R, x < (v : Int)) ∧ Hid (Below W1.heap.size W1 W)) (fun _ iv _ _ => 256 - (intOf iv).toNat)
          case atStart => exact ⟨0, [], Nat.zero_le _, rfl, InO.nil _ _, rnUp_nil, fun x hx => (by cases hx), Below.refl _ _⟩
          case round =>
            obtain ⟨v, R, hv, rfl, HR, HU, HLV, HB⟩ := hrel
            by_cases hlt : v < 256
            · have g1 : (v : Int) < 256 := by omega
              have HWV : Hid (wrap64 ((v : Int) + 1) = (v : Int) + 1) := IntWalk.wrap64_in _ (by omega)
              have HLT := Lib.hid hlt
              clear hlt hv
              go_wp2_with fail
              go_loopw [6, 9] (fun rv jv W => ∃ (i : Nat) (R : List Int), i ≤ k ∧ jv = .int .i64 (i : Int) ∧ Hid (InO W1.heap.size W rv R) ∧ Hid (rnUp R) ∧ Hid (∀ x ∈ R, x ≤ (v : Int)) ∧ Hid (Below W1.heap.size W1 W)) (fun _ jv _ => k - (intOf jv).toNat)
              case atStart => exact ⟨0, R, Nat.zero_le _, rfl, HR, HU, fun x hx => Int.le_of_lt (HLV.out x hx), HB⟩
              case round =>
                clear HR HU HLV HB
                obtain ⟨i, R, hi, rfl, HR, HU, HLE, HB⟩ := hrel
                by_cases hlt : i < k
                · have g2 : (i : Int) < (k : Int) := by omega
                  have HWI : Hid (wrap64 ((i : Int) + 1) = (i : Int) + 1) := IntWalk.wrap64_in _ (by omega)
                  obtain ⟨b, off, rfl, hC⟩ := HLA.out.resolve_left (by omega)
                  obtain ⟨x, hx⟩ : ∃ x, xs[i]? = some x := ⟨_, List.getElem?_eq_getElem (by rw [HN.out]; exact hlt)⟩
                  have c1 := hC wr (HB1.out.trans (HB.out.mono HB1.out.size)) i hlt
                  have hxb := HBY.out i
                  rw [hx] at c1 hxb
                  simp only [Option.getD_some] at c1 hxb
                  obtain ⟨hx0, hx1⟩ := hxb
                  have HLI := Lib.hid hlt
                  clear hx hC hlt
                  by_cases ex : x = (v : Int)
                  · subst ex
                    have e1 : ((v : Int) == (v : Int)) = true := by simp
                    by_cases h0 : R = []
                    · obtain ⟨ua, uc, hv⟩ := HR.out.len
                      rw [h0] at hv
                      subst hv
                      have HALL : Hid (∀ x ∈ R, x < (v : Int)) := by rw [h0]; exact fun x hx => by cases hx
                      clear h0
                      have HRL := rnUp_len HU.out
                      obtain ⟨WA, f2, WB, SB, HA, HF2, HB2, -⟩ := bl_more HR.out HB.out (v : Int) (by omega)
                      have HU2 := Lib.hid (rnUp_more HU.out HALL.out (by omega) (by omega))
                      have HLE2 : Hid (∀ z ∈ R ++ [(v : Int)], z ≤ (v : Int)) := fun z hz => by
                        rcases List.mem_append.1 hz with hz | hz
                        · exact HLE.out z hz
                        · simp at hz; omega
                      clear HR HB HU HLE HRL
                      go_wp2_with (first | (refine gate_build ?_; refine wpList_build_run 22 1 #[(0, .tmp 66)] rfl rfl [(0, _)] _ rfl SB ?_) | (at_builtin; refine wpList_append_run (.tmp 65) (.tmp 67) 22 rfl rfl _ _ _ rfl rfl (HA.out _) ?_))
                      exact ⟨⟨i + 1, _, HLI.out, by simp, HF2, HU2, HLE2, HB2⟩, by have := HLI.out; simp [intOf]; omega⟩
                    · obtain ⟨A, y, hA⟩ := snoc_of R h0
                      obtain ⟨K, hK⟩ : ∃ K, A.length = K := ⟨_, rfl⟩
                      obtain ⟨g, cg, hv, c2⟩ := InO.last (by rw [← hA]; exact HR.out) hK
                      have hKb : K ≤ 256 := by have := rnUp_len HU.out; rw [hA, List.length_append, List.length_singleton, hK] at this; omega
                      subst hv
                      have e3 : (((K + 1 : Nat) : Int) == 0) = false := by simp; omega
                      have e4 : ((K : Int) + 1 == 0) = false := by simp; omega
                      have g4 : (K : Int) + 1 - 1 = (K : Int) := by omega
                      have HWK1 : Hid (wrap64 ((K : Int) + 1 - 1) = (K : Int)) := by show _ = _; rw [g4]; exact IntWalk.wrap64_in _ (by omega)
                      by_cases hy : y = (v : Int)
                      · have e5 : (y != (v : Int)) = false := by simpa using hy
                        subst hy
                        clear h0 hA hK
                        go_wp2_with fail
                        exact ⟨⟨i + 1, R, HLI.out, by simp, HR, HU, HLE, HB⟩, by have := HLI.out; simp [intOf]; omega⟩
                      · have e5 : (y != (v : Int)) = true := by simpa using hy
                        have HALL : Hid (∀ x ∈ R, x < (v : Int)) := by
                          show ∀ x ∈ R, x < (v : Int)
                          have hu := HU.out
                          have hl := HLE.out
                          rw [hA] at hu hl ⊢
                          exact rnUp_all hu hl hy
                        clear h0 hA hK hy
                        have HRL := rnUp_len HU.out
                        obtain ⟨WA, f2, WB, SB, HA, HF2, HB2, -⟩ := bl_more HR.out HB.out (v : Int) (by omega)
                        have HU2 := Lib.hid (rnUp_more HU.out HALL.out (by omega) (by omega))
                        have HLE2 : Hid (∀ z ∈ R ++ [(v : Int)], z ≤ (v : Int)) := fun z hz => by
                          rcases List.mem_append.1 hz with hz | hz
                          · exact HLE.out z hz
                          · simp at hz; omega
                        clear HR HB HU HLE HRL
                        go_wp2_with (first | (refine gate_build ?_; refine wpList_build_run 22 1 #[(0, .tmp 66)] rfl rfl [(0, _)] _ rfl SB ?_) | (at_builtin; refine wpList_append_run (.tmp 65) (.tmp 67) 22 rfl rfl _ _ _ rfl rfl (HA.out _) ?_))
                        exact ⟨⟨i + 1, _, HLI.out, by simp, HF2, HU2, HLE2, HB2⟩, by have := HLI.out; simp [intOf]; omega⟩
                  · have e1 : (x == (v : Int)) = false := by simpa using ex
                    clear ex
                    go_wp2_with fail
                    exact ⟨⟨i + 1, R, HLI.out, by simp, HR, HU, HLE, HB⟩, by have := HLI.out; simp [intOf]; omega⟩
                · obtain rfl : i = k := by omega
                  go_wp2_with fail
                  exact ⟨⟨v + 1, R, HLT.out, by simp, HR, HU, fun x hx => by have := HLE.out x hx; omega, HB⟩, by have := HLT.out; simp [intOf]; omega⟩
            · obtain rfl : v = 256 := by omega
              have g1 : ¬ ((256 : Nat) : Int) < 256 := by omega
              have KIN : Hid (∀ z : World, Below wr.heap.size wr z → Sl .i64 z u5 xs) := fun z hz => HIN.out.below (HB.out.trans (hz.mono HB.out.size))
              have KR : Hid (∀ z : World, Below wr.heap.size wr z → Sl .i64 z u6 R) := fun z hz => (sl_own (InO.below HR.out hz))
              have KW : Hid (Below w.heap.size w wr) := HB1.out.trans (HB.out.mono HB1.out.size)
              have KM : Hid (∀ z : World, Below wr.heap.size wr z → Prt z (.slice pa M pc) m) := fun z hz => HP.out.below (KW.out.trans (hz.mono KW.out.size))
              have HX : Hid (∀ x ∈ xs, 0 ≤ x ∧ x < 256) := fun x hx => by
                obtain ⟨j, hj⟩ := List.getElem?_of_mem hx
                have := HBY.out j
                rw [hj] at this
                exact this
              have HX64 : Hid (∀ x ∈ xs, Is64 x) := fun x hx => by have := HX.out x hx; unfold Is64; omega
              have HR64 : Hid (∀ x ∈ R, Is64 x) := fun x hx => by have := HU.out.2 x hx; unfold Is64; omega
              have C1 := Lib.hid (ru_of (KIN.out _ (Below.refl _ _)) HX64.out (by rw [HN.out]; omega))
              clear HIN HR HB HB1 HLV hv HP
              go_wp2_with fail
              refine C1.out.mono ?_
              rintro e z1 ⟨u1, rfl, ho1, hb⟩
              have B1 := Lib.hid hb
              have C2 := Lib.hid (ru_blocks ho1.prt (by have := (rn_all xs).len; rw [HN.out] at this; exact Nat.le_trans this (by omega)))
              rw [rn_blocks_of (fun x hx => by have := HX.out x hx; omega) (by rw [HN.out]; omega)] at C2
              clear hb ho1 C1
              go_wp2_with fail
              refine C2.out.mono ?_
              rintro e z2 ⟨u2, rfl, ho2, hb⟩
              have B2 : Hid (Below wr.heap.size wr z2) := B1.out.trans (hb.mono B1.out.size)
              have C3 := Lib.hid (ints_same _ _ _ z2 (sl_own ho2) (KIN.out _ B2.out))
              clear hb ho2 C2 B1
              go_wp2_with fail
              refine C3.out.mono ?_
              rintro e z3 ⟨rfl, hb⟩
              have B3 : Hid (Below wr.heap.size wr z3) := B2.out.trans (hb.mono B2.out.size)
              have C4 := Lib.hid (ru_of (KR.out _ B3.out) HR64.out (by have := rnUp_len HU.out; omega))
              clear hb C3 B2
              go_wp2_with fail
              refine C4.out.mono ?_
              rintro e z4 ⟨u4, rfl, ho4, hb⟩
              have B4 : Hid (Below wr.heap.size wr z4) := B3.out.trans (hb.mono B3.out.size)
              have C5 := Lib.hid (ru_good ho4.prt 256 (by unfold Is64; omega) (by have := (rn_all R).len; have h2 := rnUp_len HU.out; exact Nat.le_trans this (by omega)))
              rw [rn_good_up R HU.out] at C5
              clear hb ho4 C4 B3
              go_wp2_with fail
              refine C5.out.mono ?_
              rintro e z5 ⟨rfl, hb⟩
              have B5 : Hid (Below wr.heap.size wr z5) := B4.out.trans (hb.mono B4.out.size)
              have C6 := Lib.hid (ru_good (KM.out _ B5.out) 200 (by unfold Is64; omega) (by have := HMM.out; omega))
              obtain ⟨t, ht⟩ : ∃ t, rnGood m 200 = t := ⟨_, rfl⟩
              rw [ht] at C6
              have HT := Lib.hid ht
              clear hb C5 B4 ht
              go_wp2_with fail
              refine C6.out.mono ?_
              rintro e z6 ⟨rfl, hb⟩
              have B6 : Hid (Below wr.heap.size wr z6) := B5.out.trans (hb.mono B5.out.size)
              clear hb C6 B5
              cases t with
              | false =>
                have C7 := Lib.hid (HWK.out z6)
                go_wp2_with fail
                refine C7.out.mono ?_
                rintro e z7 ⟨rfl, hb⟩
                have B7 : Below w.heap.size w z7 := KW.out.trans ((B6.out.trans (hb.mono B6.out.size)).mono KW.out.size)
                go_wp2_with fail
                go_ret
                exact ⟨rfl, B7⟩
              | true =>
                have C7 := Lib.hid (ru_blocks (KM.out _ B6.out) (by have := HMM.out; omega))
                have HBL := Lib.hid (rn_blocks_good (by omega) HT.out)
                have HBK := Lib.hid (rn_back (by omega) HT.out)
                have HOK := rn_ok_of (g := -1) (by omega) (by omega) HT.out
                have HB6 : Hid ((rnBlocks m).length ≤ 200 ∧ ∀ x ∈ rnBlocks m, Is64 x) := rn_blocks_small HT.out
                clear HOK
                go_wp2_with fail
                refine C7.out.mono ?_
                rintro e z7 ⟨u7, rfl, ho7, hb⟩
                have B7 : Hid (Below wr.heap.size wr z7) := B6.out.trans (hb.mono B6.out.size)
                have C8 := Lib.hid (ru_of (sl_own ho7) HB6.out.2 (by have := HB6.out.1; omega))
                rw [HBK.out] at C8
                clear hb ho7 C7 B6
                go_wp2_with fail
                refine C8.out.mono ?_
                rintro e z8 ⟨u8, rfl, ho8, hb⟩
                have B8 : Hid (Below wr.heap.size wr z8) := B7.out.trans (hb.mono B7.out.size)
                have C9 := Lib.hid (ru_same_t ho8.prt (KM.out _ B8.out) (by have := HMM.out; omega))
                clear hb ho8 C8 B7
                go_wp2_with fail
                refine C9.out.mono ?_
                rintro e z9 ⟨rfl, hb⟩
                have B9 : Hid (Below wr.heap.size wr z9) := B8.out.trans (hb.mono B8.out.size)
                have C10 := Lib.hid (HWK.out z9)
                clear hb C9 B8
                go_wp2_with fail
                refine C10.out.mono ?_
                rintro e z10 ⟨rfl, hb⟩
                have B10 : Below w.heap.size w z10 := KW.out.trans ((B9.out.trans (hb.mono B9.out.size)).mono KW.out.size)
                go_wp2_with fail
                go_ret
                exact ⟨rfl, B10⟩

set_option maxRecDepth 100000 in
theorem lifted (os : Os) (started : os.Started) (H : Type) (enc : TypeId × Value → H) :
    ReturnsInHanded {} Try.checked os 4 .any (Rows.runsBackSpec.pre6 enc Try.prog Try.f4 Rows.runsBackRow.domain false) (Rows.runsBackSpec.post enc Try.prog Try.f4 false true false false) := by
  refine returnsInHanded_of_change (C := Try.checked) own started (by kernel_rfl) Try.func4
    (ChangeSpec.witness6 (enc := enc) (C := Try.checked) false ⟨#[], #[.slice none 0 0, .slice none 0 0], []⟩ 8 (by kernel_rfl) (by kernel_rfl) (by kernel_rfl) (by kernel_rfl)) ?_
  intro W base args ds gs before hval0 hW hcnd _
  have hval : ∀ (j : Nat) t v, Try.f4.params[j]? = some t → args[j]? = some v → Value.okWide Try.prog W .any base t v := hval0
  have hW' := hW
  obtain ⟨p, q, hA0, hV, rfl, hfz, hnd⟩ := hW
  have hA : DataW.TrodAll enc Try.prog W 0 (fun _ => true) true Try.f4.params.toList args.toList ds p := hA0
  rw [Try.params4] at hA hval
  obtain ⟨v0, vs0, d0, ds0, p0, q0, hargs, rfl, rfl, h0, r0⟩ := trodAll_cons hA
  obtain ⟨v1, vs1, d1, ds1, p1, q1, rfl, rfl, rfl, h1, r1⟩ := trodAll_cons r0
  obtain ⟨rfl, rfl, rfl⟩ := trodAll_nil r1
  obtain rfl : args = #[v0, v1] := by cases args; simp_all
  obtain ⟨rfl, rfl⟩ := trodVars_none hV
  have lt0 : ∀ x ∈ p0, x.block < W.heap.size := by obtain ⟨m, hm⟩ := h0; exact DataW.trod_lt m _ _ _ hm
  have a0 := Arg.mk (hval 0 31 v0 rfl rfl) h0
  have lt1 : ∀ x ∈ p1, x.block < W.heap.size := by obtain ⟨m, hm⟩ := h1; exact DataW.trod_lt m _ _ _ hm
  have a1 := Arg.mk (hval 1 23 v1 rfl rfl) h1
  clear hA0 hval0
  refine (walk v0 v1 W a0 a1).mono fun e W' ⟨he, bel⟩ => ?_
  subst he
  exact ⟨_, rfl, _, _, _, [], _, [], hW', trodAll_mk1 (shut_bool Try.underlying4 _), (trodAll_cons_mk (Below.trod laidOut (by kernel_rfl) (of_decide_eq_true (by kernel_rfl)) h0 bel lt0) (trodAll_cons_mk (Below.trod laidOut (by kernel_rfl) (of_decide_eq_true (by kernel_rfl)) h1 bel lt1) trodAll_mk0)), rfl, bel.frame _, fun h => by cases h⟩

set_option maxRecDepth 100000 in
theorem over : Rows.runsBackRow.holds Try.pinned (OpenSpec.ofChange Rows.runsBackSpec) :=
  OpenClaim.holds_of_wide 4 Try.f4 rfl rfl rfl rfl rfl rfl rfl ⟨rfl, rfl, rfl, rfl, rfl⟩ rfl rfl rfl rfl rfl (by kernel_rfl) Try.func4 (by kernel_rfl)
    (of_decide_eq_true (by kernel_rfl)) (by unfold Func.isWrapper; first | (rw [if_pos (by decide +kernel)]; kernel_rfl) | (rw [if_neg (by decide +kernel)]; exact ⟨rfl, rfl⟩))
    (fun os started H enc _ => lifted os started H enc)

theorem proved : Rows.RunsBackSaid := over
#print axioms proved
end Go.Proofs.Ytajamblkjmafmaa.runsBack
