/- The runs of numbers have as many numbers as there are, none is empty, and none goes on where the one ahead ends. -/
import Derived.Test.YtajamblkjmafmaaRuUp
import Derived.Test.YtajamblkjmafmaaRuWk
import Derived.Test.YtajamblkjmafmaaRuOf
import Derived.Test.YtajamblkjmafmaaArgSl
namespace Go.Proofs.Ytajamblkjmafmaa.runsCounts
open Go.ChangeShapes Go.WideShapes Go.ChangeAt Go.RowKit
set_option linter.unusedVariables false
set_option linter.unusedSimpArgs false
attribute [-simp] Try.isAgg36 Try.zeroValue36
attribute [-go_sem] loadVar storeVar
attribute [local go_sem] loadVar_openR storeVar_openR zero_rns build_rns0 build_rns

set_option maxRecDepth 100000 in
set_option maxHeartbeats 2000000 in
theorem walk (v0 : Value) (w : World) (w0 : Arg w 33 v0) :
    Calls Try.prog 5 #[v0] w fun e w' => e = .returned (.bool true) ∧ Below w.heap.size w w' := by
  obtain ⟨a, len, cap, xs, rfl, hl, hm, hs, h6⟩ := w0.sl Try.underlying33 Try.underlying34 (by kernel_rfl)
  subst hl
  obtain ⟨n, hL⟩ : ∃ L, xs.length = L := ⟨_, rfl⟩
  rw [hL] at hs hm ⊢
  have HBY : Hid (∀ x ∈ xs, 0 ≤ x ∧ x ≤ 65535) := fun x hx => bounds_u16 (h6 x hx)
  have HN := Lib.hid hL
  have HWK := Lib.hid ru_wakes
  have HLA : Hid (n = 0 ∨ ∃ b off, a = some ⟨b, off, none⟩ ∧ ∀ x : World, Below w.heap.size w x → ∀ j, j < n → x.cell? ⟨b, off + j, none⟩ = some (.int .u16 (xs[j]?.getD 0))) := by
    obtain ⟨a', c', e, -, -, h3, -⟩ := hs
    cases e
    rcases h3 with h3 | ⟨b, o, rfl, h4, h5⟩
    · exact .inl (by rw [← hL, h3]; rfl)
    · exact .inr ⟨b, o, rfl, fun x hx j hj => (hx.cell (p := ⟨b, o + j, none⟩) h4).trans (h5 j (by rw [hL]; exact hj))⟩
  clear w0 h6 hs hL hm
  by_cases q1 : 300 < n
  · have e1 : decide ((n : Int) > 300) = true := by simp; omega
    go_enter Try.func5, Try.ntmps5
    go_wp2_with fail
    refine (HWK.out w).mono ?_
    rintro e x ⟨rfl, hb⟩
    go_wp2_with fail
    go_ret
    exact ⟨rfl, hb⟩
  · have e1 : decide ((n : Int) > 300) = false := by simp; omega
    have hn3 : n ≤ 300 := by omega
    clear q1
    go_enter Try.func5, Try.ntmps5
    go_wp2_with fail
    clear e1
    go_loopw [3, 4] (fun bv iv wr => ∃ k : Nat, k ≤ n ∧ iv = .int .i64 (k : Int) ∧ Hid (InO w.heap.size wr bv (xs.take k)) ∧ Hid (Below w.heap.size w wr)) (fun _ iv _ => n - (intOf iv).toNat)
    case atStart => exact ⟨0, Nat.zero_le _, rfl, InO.nil _ _, Below.refl _ _⟩
    case round =>
      obtain ⟨k, hk, rfl, HF, HB⟩ := hrel
      by_cases hlt : k < n
      · have g1 : (k : Int) < (n : Int) := by omega
        have HW : Hid (wrap64 ((k : Int) + 1) = (k : Int) + 1) := IntWalk.wrap64_in _ (by omega)
        obtain ⟨b, off, rfl, hC⟩ := HLA.out.resolve_left (by omega)
        obtain ⟨x, hx⟩ : ∃ x, xs[k]? = some x := ⟨_, List.getElem?_eq_getElem (by rw [HN.out]; exact hlt)⟩
        have c1 := hC wr HB.out k hlt
        obtain ⟨hx0, hx1⟩ := HBY.out x (List.mem_of_getElem? hx)
        rw [hx] at c1
        simp only [Option.getD_some] at c1
        have HTK : Hid (xs.take (k + 1) = xs.take k ++ [x]) := by show _ = _; rw [List.take_add_one, hx]; rfl
        have HLT := Lib.hid hlt
        obtain ⟨W1, f2, W2, SB, HA, HF2, HB2, -⟩ := bl_more HF.out HB.out x (by rw [List.length_take]; omega)
        clear hx hC hlt HF HB
        go_wp2_with (first | (refine gate_build ?_; refine wpList_build_run 22 1 #[(0, .tmp 24)] rfl rfl [(0, _)] _ rfl SB ?_) | (at_builtin; refine wpList_append_run (.tmp 19) (.tmp 25) 22 rfl rfl _ _ _ rfl rfl (HA.out _) ?_))
        exact ⟨⟨k + 1, HLT.out, by simp, by show InO _ _ _ _; rw [HTK.out]; exact HF2.out, HB2⟩, by have := HLT.out; simp [intOf]; omega⟩
      · obtain rfl : k = n := by omega
        have hF := HF.out
        rw [List.take_of_length_le (by rw [HN.out]; exact Nat.le_refl _)] at hF
        obtain ⟨W1, rfl⟩ : ∃ W, W = wr := ⟨_, rfl⟩
        have HIN : Hid (Sl .i64 W1 u3 xs) := sl_own hF
        have HB1 : Hid (Below w.heap.size w W1) := HB.out
        have C1 := Lib.hid (ru_of HIN.out (fun x hx => by have := HBY.out x hx; unfold Is64; omega) (by rw [HN.out]; omega))
        clear hF HF HB hlt HLA
        go_wp2_with fail
        refine C1.out.mono ?_
        rintro e W2 ⟨u1, rfl, ho, hb⟩
        have A := rn_all xs
        obtain ⟨r, hr⟩ : ∃ r, rnOf xs = r := ⟨_, rfl⟩
        have HR0 := Lib.hid hr
        rw [hr] at ho
        have HPR := Lib.hid ho.prt
        obtain ⟨ra, rc, hrv, -⟩ := ho.prt
        obtain ⟨N, hNr⟩ : ∃ N, r.length = N := ⟨_, rfl⟩
        rw [hNr] at hrv
        subst hrv
        have HNR := Lib.hid hNr
        have HB2 : Hid (Below w.heap.size w W2) := HB1.out.trans (hb.mono HB1.out.size)
        have HIN2 : Hid (Sl .i64 W2 u3 xs) := HIN.out.below hb
        obtain ⟨ia, ic, rfl, -, -, hi3, -⟩ := (show Sl .i64 W2 u3 xs from HIN2.out)
        have HII : Hid (k = 0 ∨ ∃ b off, ia = some ⟨b, off, none⟩ ∧ ∀ x : World, Below W2.heap.size W2 x → ∀ j, j < k → x.cell? ⟨b, off + j, none⟩ = some (.int .i64 (xs[j]?.getD 0))) := by
          rcases hi3 with h3 | ⟨b, o, rfl, h4, h5⟩
          · exact .inl (by rw [← HN.out, h3]; rfl)
          · exact .inr ⟨b, o, rfl, fun x hx j hj => (hx.cell (p := ⟨b, o + j, none⟩) h4).trans (h5 j (by rw [HN.out]; exact hj))⟩
        have HFL : Hid (rnFlat r = xs) := by show rnFlat r = xs; rw [← hr]; exact A.flat
        have HCN : Hid (∀ p ∈ r, 0 ≤ p.1 ∧ p.1 ≤ 65535 ∧ 1 ≤ p.2 ∧ p.2 ≤ 300) := fun p hp => by
          obtain ⟨h1, h2, h3⟩ := A.cnt p (by show p ∈ rnOf xs; rw [hr]; exact hp)
          have := HBY.out _ h3
          rw [HN.out] at h2
          omega
        have HAP : Hid (∀ (i : Nat) p q, r[i]? = some p → r[i + 1]? = some q → q.1 ≠ p.1 + p.2) := fun i p q h1 h2 => by
          have := HCN.out p (List.mem_of_getElem? h1)
          rcases A.apart i p q (by show (rnOf xs)[i]? = _; rw [hr]; exact h1) (by show (rnOf xs)[i + 1]? = _; rw [hr]; exact h2) with h | h
          · exact h
          · omega
        have HRN : Hid (N ≤ k) := by
          have h1 : (rnOf xs).length ≤ xs.length := A.len
          rw [hr, hNr, HN.out] at h1
          exact h1
        rw [HN.out]
        clear hi3 HIN2
        clear ho hb C1 HIN HB1 hr hNr A
        go_wp2_with fail
        go_loopw [6, 7, 8] (fun av iv jv W => ∃ i : Nat, i ≤ N ∧ iv = .int .i64 (i : Int) ∧ av = .int .i64 (((rnFlat (r.take i)).length : Nat) : Int) ∧ Hid (Below W2.heap.size W2 W)) (fun _ iv _ _ => N - (intOf iv).toNat)
        case atStart => exact ⟨0, Nat.zero_le _, rfl, rfl, Below.refl _ _⟩
        case round =>
          obtain ⟨i, hi, rfl, rfl, HB⟩ := hrel
          by_cases hlt : i < N
          · have g1 : (i : Int) < (N : Int) := by omega
            have hNk := HRN.out
            have HWI : Hid (wrap64 ((i : Int) + 1) = (i : Int) + 1) := IntWalk.wrap64_in _ (by omega)
            obtain ⟨p, hp⟩ : ∃ p, r[i]? = some p := ⟨_, List.getElem?_eq_getElem (by rw [HNR.out]; exact hlt)⟩
            have hcn := HCN.out p (List.mem_of_getElem? hp)
            have HSUC := Lib.hid (rnFlat_succ hp)
            have HGET := Lib.hid (fun k hk => rn_at (k := k) hp hk)
            rw [HFL.out] at HGET
            obtain ⟨f, c⟩ := p
            simp only at hcn HSUC HGET
            obtain ⟨hf0, hf1, hc0, hc1⟩ := hcn
            obtain ⟨m, rfl⟩ := Int.eq_ofNat_of_zero_le (show 0 ≤ c by omega)
            simp only [Int.toNat_natCast] at HSUC HGET
            obtain ⟨T, hT⟩ : ∃ T, (rnFlat (r.take i)).length = T := ⟨_, rfl⟩
            rw [hT] at HSUC HGET ⊢
            obtain ⟨bb, off, rfl, hbb, -⟩ := (HPR.out.below HB.out).at hp
            have CC : Hid (∀ x : World, Below W2.heap.size W2 x → x.cell? ⟨bb, off + i * 2, none⟩ = some (.int .i64 f) ∧ x.cell? ⟨bb, off + i * 2 + 1, none⟩ = some (.int .i64 (m : Int))) := fun x hx => by
              obtain ⟨b', o', e, -, h1, h2⟩ := (HPR.out.below hx).at hp
              cases e
              exact ⟨h1, h2⟩
            have c1 : ∀ y : Ext wr, y.1.cell? ⟨bb, off + i * 2, none⟩ = some (.int .i64 f) := fun y => (CC.out y.1 (HB.out.trans (y.2.mono HB.out.size))).1
            have c2 : ∀ y : Ext wr, y.1.cell? ⟨bb, off + i * 2 + 1, none⟩ = some (.int .i64 (m : Int)) := fun y => (CC.out y.1 (HB.out.trans (y.2.mono HB.out.size))).2
            have e3 : decide ((m : Int) < 1) = false := by simp; omega
            have HLT := Lib.hid hlt
            clear hT hbb hlt
            by_cases h0 : 0 < i
            · obtain ⟨q, rfl⟩ : ∃ q, i = q + 1 := ⟨i - 1, by omega⟩
              obtain ⟨p', hp'⟩ : ∃ p, r[q]? = some p := ⟨_, List.getElem?_eq_getElem (by rw [HNR.out]; have := HLT.out; omega)⟩
              have hcn' := HCN.out p' (List.mem_of_getElem? hp')
              have hne := HAP.out q p' _ hp' hp
              obtain ⟨f', c'⟩ := p'
              simp only at hcn' hne
              have HPQ : Hid (∀ x : World, Below W2.heap.size W2 x → x.cell? ⟨bb, off + q * 2, none⟩ = some (.int .i64 f') ∧ x.cell? ⟨bb, off + q * 2 + 1, none⟩ = some (.int .i64 c')) := fun x hx => by
                obtain ⟨b', o', e, -, h1, h2⟩ := (HPR.out.below hx).at hp'
                cases e
                exact ⟨h1, h2⟩
              have c3 : ∀ y : Ext wr, y.1.cell? ⟨bb, off + q * 2, none⟩ = some (.int .i64 f') := fun y => (HPQ.out y.1 (HB.out.trans (y.2.mono HB.out.size))).1
              have c4 : ∀ y : Ext wr, y.1.cell? ⟨bb, off + q * 2 + 1, none⟩ = some (.int .i64 c') := fun y => (HPQ.out y.1 (HB.out.trans (y.2.mono HB.out.size))).2
              have g5 : (q : Int) + 1 - 1 = (q : Int) := by omega
              have HWQ : Hid (wrap64 ((q : Int) + 1 - 1) = (q : Int)) := by show _ = _; rw [g5]; exact IntWalk.wrap64_in _ (by have := HLT.out; omega)
              have HWFC : Hid (wrap64 (f' + c') = f' + c') := IntWalk.wrap64_in _ (by omega)
              have e5 : (f == wrap64 (f' + c')) = false := by rw [HWFC.out]; simpa using hne
              have e5b : (f == f' + c') = false := by simpa using hne
              clear hp hp' hne h0
              go_wp2_with fail
              refine region_ext (by kernel_rfl) (by kernel_rfl) ?_
              repeat (go_big_quiet_step (fail))
              try (with_reducible refine wpQuiet_nil ?_)
              rintro ⟨y, hy⟩
              simp only
              have HBY2 : Hid (Below W2.heap.size W2 y) := HB.out.trans (hy.mono HB.out.size)
              clear HB hy
              go_wp2_with fail
              clear c1 c2 c3 c4
              go_loopw [6, 8] (fun av jv W => ∃ j : Nat, j ≤ m ∧ jv = .int .i64 (j : Int) ∧ av = .int .i64 (((T + j : Nat)) : Int) ∧ Hid (Below W2.heap.size W2 W)) (fun _ jv _ => m - (intOf jv).toNat)
              case atStart => exact ⟨0, Nat.zero_le _, rfl, by simp, HBY2⟩
              case round =>
                clear HBY2
                obtain ⟨j, hj, rfl, rfl, HBJ⟩ := hrel
                obtain ⟨c1, c2⟩ := CC.out wr HBJ.out
                by_cases hlt2 : j < m
                · have g2 : (j : Int) < (m : Int) := by omega
                  have HWJ : Hid (wrap64 ((j : Int) + 1) = (j : Int) + 1) := IntWalk.wrap64_in _ (by omega)
                  have HWF : Hid (wrap64 (f + (j : Int)) = f + (j : Int)) := IntWalk.wrap64_in _ (by omega)
                  have hg := HGET.out j hlt2
                  have hlx : T + j < k := by have := (List.getElem?_eq_some_iff.1 hg).1; rw [HN.out] at this; exact this
                  obtain ⟨ib, io, rfl, hI⟩ := HII.out.resolve_left (by omega)
                  obtain ⟨S, hS⟩ : ∃ S, T + j = S := ⟨_, rfl⟩
                  rw [hS] at hg hlx ⊢
                  have d1 : ∀ y : Ext wr, y.1.cell? ⟨bb, off + (q + 1) * 2, none⟩ = some (.int .i64 f) := fun y => (CC.out y.1 (HBJ.out.trans (y.2.mono HBJ.out.size))).1
                  have d3 : ∀ y : Ext wr, y.1.cell? ⟨ib, io + S, none⟩ = some (.int .i64 (f + (j : Int))) := fun y => by
                    have := hI y.1 (HBJ.out.trans (y.2.mono HBJ.out.size)) S hlx
                    rw [hg] at this
                    exact this
                  have e6 : decide ((S : Int) ≥ (k : Int)) = false := by simp; omega
                  have e6n : decide (k ≤ S) = false := by simp; omega
                  have e7 : (f + (j : Int) != f + (j : Int)) = false := by simp
                  have HWS : Hid (wrap64 ((S : Int) + 1) = (S : Int) + 1) := IntWalk.wrap64_in _ (by omega)
                  have HSS := Lib.hid hS
                  have HLT2 := Lib.hid hlt2
                  clear hg hI hS
                  go_wp2_with fail
                  refine region_ext (by kernel_rfl) (by kernel_rfl) ?_
                  repeat (go_big_quiet_step (fail))
                  try (with_reducible refine wpQuiet_nil ?_)
                  rintro ⟨y, hy⟩
                  simp only
                  have HBZ : Hid (Below W2.heap.size W2 y) := HBJ.out.trans (hy.mono HBJ.out.size)
                  clear d1 d3 hy c1 c2
                  go_wp2_with fail
                  exact ⟨⟨j + 1, HLT2.out, by simp, by have := HSS.out; simp; omega, HBZ⟩, by have := HLT2.out; simp [intOf]; omega⟩
                · obtain rfl : j = m := by omega
                  clear hlt2
                  go_wp2_with fail
                  exact ⟨⟨q + 1 + 1, HLT.out, by simp, by rw [HSUC.out], HBJ⟩, by have := HLT.out; simp [intOf]; omega⟩
            · obtain rfl : i = 0 := by omega
              simp only [Nat.zero_mul, Nat.add_zero] at c1 c2 CC
              clear hp h0
              go_wp2_with fail
              refine region_ext (by kernel_rfl) (by kernel_rfl) ?_
              repeat (go_big_quiet_step (fail))
              try (with_reducible refine wpQuiet_nil ?_)
              rintro ⟨y, hy⟩
              simp only
              have HBY2 : Hid (Below W2.heap.size W2 y) := HB.out.trans (hy.mono HB.out.size)
              clear HB hy
              go_wp2_with fail
              clear c1 c2 
              go_loopw [6, 8] (fun av jv W => ∃ j : Nat, j ≤ m ∧ jv = .int .i64 (j : Int) ∧ av = .int .i64 (((T + j : Nat)) : Int) ∧ Hid (Below W2.heap.size W2 W)) (fun _ jv _ => m - (intOf jv).toNat)
              case atStart => exact ⟨0, Nat.zero_le _, rfl, by simp, HBY2⟩
              case round =>
                clear HBY2
                obtain ⟨j, hj, rfl, rfl, HBJ⟩ := hrel
                obtain ⟨c1, c2⟩ := CC.out wr HBJ.out
                by_cases hlt2 : j < m
                · have g2 : (j : Int) < (m : Int) := by omega
                  have HWJ : Hid (wrap64 ((j : Int) + 1) = (j : Int) + 1) := IntWalk.wrap64_in _ (by omega)
                  have HWF : Hid (wrap64 (f + (j : Int)) = f + (j : Int)) := IntWalk.wrap64_in _ (by omega)
                  have hg := HGET.out j hlt2
                  have hlx : T + j < k := by have := (List.getElem?_eq_some_iff.1 hg).1; rw [HN.out] at this; exact this
                  obtain ⟨ib, io, rfl, hI⟩ := HII.out.resolve_left (by omega)
                  obtain ⟨S, hS⟩ : ∃ S, T + j = S := ⟨_, rfl⟩
                  rw [hS] at hg hlx ⊢
                  have d1 : ∀ y : Ext wr, y.1.cell? ⟨bb, off, none⟩ = some (.int .i64 f) := fun y => (CC.out y.1 (HBJ.out.trans (y.2.mono HBJ.out.size))).1
                  have d3 : ∀ y : Ext wr, y.1.cell? ⟨ib, io + S, none⟩ = some (.int .i64 (f + (j : Int))) := fun y => by
                    have := hI y.1 (HBJ.out.trans (y.2.mono HBJ.out.size)) S hlx
                    rw [hg] at this
                    exact this
                  have e6 : decide ((S : Int) ≥ (k : Int)) = false := by simp; omega
                  have e6n : decide (k ≤ S) = false := by simp; omega
                  have e7 : (f + (j : Int) != f + (j : Int)) = false := by simp
                  have HWS : Hid (wrap64 ((S : Int) + 1) = (S : Int) + 1) := IntWalk.wrap64_in _ (by omega)
                  have HSS := Lib.hid hS
                  have HLT2 := Lib.hid hlt2
                  clear hg hI hS
                  go_wp2_with fail
                  refine region_ext (by kernel_rfl) (by kernel_rfl) ?_
                  repeat (go_big_quiet_step (fail))
                  try (with_reducible refine wpQuiet_nil ?_)
                  rintro ⟨y, hy⟩
                  simp only
                  have HBZ : Hid (Below W2.heap.size W2 y) := HBJ.out.trans (hy.mono HBJ.out.size)
                  clear d1 d3 hy c1 c2
                  go_wp2_with fail
                  exact ⟨⟨j + 1, HLT2.out, by simp, by have := HSS.out; simp; omega, HBZ⟩, by have := HLT2.out; simp [intOf]; omega⟩
                · obtain rfl : j = m := by omega
                  clear hlt2
                  go_wp2_with fail
                  exact ⟨⟨0 + 1, HLT.out, by simp, by rw [HSUC.out], HBJ⟩, by have := HLT.out; simp [intOf]; omega⟩
          · obtain rfl : i = N := by omega
            have HAL : Hid ((rnFlat (r.take i)).length = k) := by
              show _ = _
              rw [List.take_of_length_le (by rw [HNR.out]; exact Nat.le_refl _), HFL.out, HN.out]
            rw [HAL.out]
            have e8 : ((k : Int) == (k : Int)) = true := by simp
            have C9 := Lib.hid (HWK.out wr)
            clear hlt
            go_wp2_with fail
            refine C9.out.mono ?_
            rintro e z ⟨rfl, hb⟩
            have B9 : Below w.heap.size w z := HB2.out.trans ((HB.out.trans (hb.mono HB.out.size)).mono HB2.out.size)
            go_wp2_with fail
            go_ret
            exact ⟨rfl, B9⟩

set_option maxRecDepth 100000 in
theorem lifted (os : Os) (started : os.Started) (H : Type) (enc : TypeId × Value → H) :
    ReturnsInHanded {} Try.checked os 5 .any (Rows.runsCountsSpec.pre6 enc Try.prog Try.f5 Rows.runsCountsRow.domain false) (Rows.runsCountsSpec.post enc Try.prog Try.f5 false true false false) := by
  refine returnsInHanded_of_change (C := Try.checked) own started (by kernel_rfl) Try.func5
    (ChangeSpec.witness6 (enc := enc) (C := Try.checked) false ⟨#[], #[.slice none 0 0], []⟩ 8 (by kernel_rfl) (by kernel_rfl) (by kernel_rfl) (by kernel_rfl)) ?_
  intro W base args ds gs before hval0 hW hcnd _
  have hval : ∀ (j : Nat) t v, Try.f5.params[j]? = some t → args[j]? = some v → Value.okWide Try.prog W .any base t v := hval0
  have hW' := hW
  obtain ⟨p, q, hA0, hV, rfl, hfz, hnd⟩ := hW
  have hA : DataW.TrodAll enc Try.prog W 0 (fun _ => true) true Try.f5.params.toList args.toList ds p := hA0
  rw [Try.params5] at hA hval
  obtain ⟨v0, vs0, d0, ds0, p0, q0, hargs, rfl, rfl, h0, r0⟩ := trodAll_cons hA
  obtain ⟨rfl, rfl, rfl⟩ := trodAll_nil r0
  obtain rfl : args = #[v0] := by cases args; simp_all
  obtain ⟨rfl, rfl⟩ := trodVars_none hV
  have lt0 : ∀ x ∈ p0, x.block < W.heap.size := by obtain ⟨m, hm⟩ := h0; exact DataW.trod_lt m _ _ _ hm
  have a0 := Arg.mk (hval 0 33 v0 rfl rfl) h0
  clear hA0 hval0
  refine (walk v0 W a0).mono fun e W' ⟨he, bel⟩ => ?_
  subst he
  exact ⟨_, rfl, _, _, _, [], _, [], hW', trodAll_mk1 (shut_bool Try.underlying4 _), (trodAll_cons_mk (Below.trod laidOut (by kernel_rfl) (of_decide_eq_true (by kernel_rfl)) h0 bel lt0) trodAll_mk0), rfl, bel.frame _, fun h => by cases h⟩

set_option maxRecDepth 100000 in
theorem over : Rows.runsCountsRow.holds Try.pinned (OpenSpec.ofChange Rows.runsCountsSpec) :=
  OpenClaim.holds_of_wide 5 Try.f5 rfl rfl rfl rfl rfl rfl rfl ⟨rfl, rfl, rfl, rfl, rfl⟩ rfl rfl rfl rfl rfl (by kernel_rfl) Try.func5 (by kernel_rfl)
    (of_decide_eq_true (by kernel_rfl)) (by unfold Func.isWrapper; first | (rw [if_pos (by decide +kernel)]; kernel_rfl) | (rw [if_neg (by decide +kernel)]; exact ⟨rfl, rfl⟩))
    (fun os started H enc _ => lifted os started H enc)

theorem proved : Rows.RunsCountsSaid := over
#print axioms proved
end Go.Proofs.Ytajamblkjmafmaa.runsCounts
