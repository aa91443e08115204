/- The statements' own comparison of runs. -/
import Derived.Test.YtajamblkjmafmaaRuPr
namespace Go.Proofs.Ytajamblkjmafmaa
open Go.RowKit
set_option linter.unusedVariables false
set_option linter.unusedSimpArgs false
attribute [-simp] Try.isAgg36 Try.zeroValue36
attribute [-go_sem] loadVar storeVar
attribute [local go_sem] loadVar_openR storeVar_openR zero_rns build_rns0 build_rns
theorem ru_take_eq {α : Type} {a b : List α} {k : Nat} {x y : α} (hx : a[k]? = some x) (hy : b[k]? = some y) (h : a.take k = b.take k) (e : x = y) : a.take (k + 1) = b.take (k + 1) := by
  rw [List.take_add_one, List.take_add_one, hx, hy, h, e]
theorem ru_ne_at {α : Type} {a b : List α} {k : Nat} {x y : α} (hx : a[k]? = some x) (hy : b[k]? = some y) (e : x ≠ y) : a ≠ b := fun h => by
  rw [h, hy] at hx
  cases hx
  exact e rfl

set_option maxRecDepth 100000 in
set_option maxHeartbeats 4000000 in
/-- **same**. -/
theorem ru_same {w : World} {u v : Value} {xs bs : List (Int × Int)} (hu : Prt w u xs) (hv : Prt w v bs) (hle : xs.length ≤ 1000000) :
    Calls Try.prog 7 #[u, v] w fun e w' => e = .returned (.bool (decide (xs = bs))) ∧ Below w.heap.size w w' := by
  have HU := Lib.hid hu
  have HV := Lib.hid hv
  obtain ⟨a, ca, rfl, hc1, hc2, -⟩ := hu
  obtain ⟨b, cb, rfl, hc3, hc4, -⟩ := hv
  obtain ⟨n, hn⟩ : ∃ n, xs.length = n := ⟨_, rfl⟩
  obtain ⟨m, hmm⟩ : ∃ n, bs.length = n := ⟨_, rfl⟩
  rw [hn] at HU hle ⊢
  rw [hmm] at HV ⊢
  have HN := Lib.hid hn
  have HM := Lib.hid hmm
  clear hn hmm hc1 hc2 hc3 hc4
  by_cases hl : n = m
  · subst hl
    have g0 : ((n : Int) != (n : Int)) = false := by simp
    go_enter Try.func7, Try.ntmps7
    go_wp2_with fail
    go_loopw [5] (fun iv wr => ∃ k : Nat, k ≤ n ∧ iv = .int .i64 (k : Int) ∧ Hid (xs.take k = bs.take k) ∧ Hid (Below w.heap.size w wr)) (fun iv _ => n - (intOf iv).toNat)
    case atStart => exact ⟨0, Nat.zero_le _, rfl, by simp [Hid], Below.refl _ _⟩
    case round =>
      obtain ⟨k, hk, rfl, HP, HB⟩ := hrel
      by_cases hlt : k < n
      · have q1 : (k : Int) < (n : Int) := by omega
        have HLT := Lib.hid hlt
        obtain ⟨⟨x0, y0⟩, hx⟩ : ∃ x, xs[k]? = some x := ⟨_, List.getElem?_eq_getElem (by rw [HN.out]; exact hlt)⟩
        obtain ⟨⟨x1, y1⟩, hy⟩ : ∃ y, bs[k]? = some y := ⟨_, List.getElem?_eq_getElem (by rw [HM.out]; exact hlt)⟩
        obtain ⟨ba, oa, rfl, h1, c1, c2⟩ := (HU.out.below HB.out).at hx
        obtain ⟨bb, ob, rfl, h2, c3, c4⟩ := (HV.out.below HB.out).at hy
        simp only at c1 c2 c3 c4
        have L1 : ∀ z : Ext wr, (loadVar 36 ⟨ba, oa + k * 2, none⟩).run Try.prog z.1 = .ok (.agg #[.int .i64 x0, .int .i64 y0]) z.1 := fun z => load_rns ((z.cell h1).trans c1) ((z.cell h1).trans c2)
        have L2 : ∀ z : Ext wr, (loadVar 36 ⟨bb, ob + k * 2, none⟩).run Try.prog z.1 = .ok (.agg #[.int .i64 x1, .int .i64 y1]) z.1 := fun z => load_rns ((z.cell h2).trans c3) ((z.cell h2).trans c4)
        have HX := Lib.hid hx
        have HY := Lib.hid hy
        clear hx hy hlt c1 c2 c3 c4 h1 h2
        by_cases e1 : x0 = x1
        · subst e1
          by_cases e2 : y0 = y1
          · subst e2
            have HQ : Hid (xs.take (k + 1) = bs.take (k + 1)) := ru_take_eq HX.out HY.out HP.out rfl
            go_wp2_with fail
            refine region_ext (by kernel_rfl) (by kernel_rfl) ?_
            repeat (go_big_quiet_step (fail))
            try (with_reducible refine wpQuiet_nil ?_)
            intro z
            have HZ : Hid (Below w.heap.size w z.1) := HB.out.trans (z.2.mono HB.out.size)
            clear L1 L2
            go_wp2_with fail
            exact ⟨⟨k + 1, HLT.out, by simp, HQ, HZ⟩, by have := HLT.out; simp [intOf]; omega⟩
          · have HE : Hid (decide (xs = bs) = false) := by show _ = _; rw [decide_eq_false_iff_not]; exact ru_ne_at HX.out HY.out (fun h => e2 (by cases h; rfl))
            go_wp2_with fail
            refine region_ext (by kernel_rfl) (by kernel_rfl) ?_
            repeat (go_big_quiet_step (fail))
            try (with_reducible refine wpQuiet_nil ?_)
            intro z
            have HZ : Hid (Below w.heap.size w z.1) := HB.out.trans (z.2.mono HB.out.size)
            clear L1 L2
            go_wp2_with fail
            go_ret
            rw [HE.out]
            exact ⟨rfl, HZ.out⟩
        · have HE : Hid (decide (xs = bs) = false) := by show _ = _; rw [decide_eq_false_iff_not]; exact ru_ne_at HX.out HY.out (fun h => e1 (by cases h; rfl))
          go_wp2_with fail
          refine region_ext (by kernel_rfl) (by kernel_rfl) ?_
          repeat (go_big_quiet_step (fail))
          try (with_reducible refine wpQuiet_nil ?_)
          intro z
          have HZ : Hid (Below w.heap.size w z.1) := HB.out.trans (z.2.mono HB.out.size)
          clear L1 L2
          go_wp2_with fail
          go_ret
          rw [HE.out]
          exact ⟨rfl, HZ.out⟩
      · obtain rfl : k = n := by omega
        have HE : Hid (decide (xs = bs) = true) := by
          show _ = _
          rw [decide_eq_true_eq]
          have := HP.out
          rw [List.take_of_length_le (by rw [HN.out]; exact Nat.le_refl _), List.take_of_length_le (by rw [HM.out]; exact Nat.le_refl _)] at this
          exact this
        clear hlt
        go_wp2_with fail
        go_ret
        rw [HE.out]
        exact ⟨rfl, HB.out⟩
  · have g0 : ((n : Int) != (m : Int)) = true := by simp; omega
    have HE : Hid (decide (xs = bs) = false) := by show _ = _; rw [decide_eq_false_iff_not]; intro h; rw [h, HM.out] at HN; exact hl HN.out.symm
    clear hl
    go_enter Try.func7, Try.ntmps7
    go_wp2_with fail
    go_ret
    rw [HE.out]
    exact ⟨rfl, Below.refl _ _⟩
theorem strQ_inj {xs ys : List Int} (hx : IsBytes xs) (hy : IsBytes ys) (h : strOfNums xs = strOfNums ys) : xs = ys := by
  have h1 : (strOfNums xs).data.toList = (strOfNums ys).data.toList := by rw [h]
  rw [strOfNums_data, strOfNums_data] at h1
  have hl : xs.length = ys.length := by have := congrArg List.length h1; simpa using this
  refine List.ext_getElem hl fun i h2 h3 => ?_
  have h4 := congrArg (fun l : List UInt8 => l[i]?) h1
  simp only [List.getElem?_map, List.getElem?_eq_getElem h2, List.getElem?_eq_getElem h3, Option.map_some, Option.some.injEq] at h4
  have bx := hx i
  have by_ := hy i
  rw [List.getElem?_eq_getElem h2, Option.getD_some] at bx
  rw [List.getElem?_eq_getElem h3, Option.getD_some] at by_
  have h5 := congrArg UInt8.toNat h4
  have e : ∀ n : Int, 0 ≤ n → n < 256 → (UInt8.ofNat n.toNat).toNat = n.toNat := fun n h0 h1 => by
    rw [UInt8.toNat_ofNat']
    omega
  rw [e _ bx.1 bx.2, e _ by_.1 by_.2] at h5
  have := bx.1
  have := by_.1
  omega
set_option maxRecDepth 100000 in
theorem ru_same_t {w : World} {u v : Value} {xs : List (Int × Int)} (hu : Prt w u xs) (hv : Prt w v xs) (hle : xs.length ≤ 1000000) :
    Calls Try.prog 7 #[u, v] w fun e w' => e = .returned (.bool true) ∧ Below w.heap.size w w' :=
  (ru_same hu hv hle).mono (fun e w' h => ⟨by rw [h.1, decide_eq_true (rfl : xs = xs)], h.2⟩)
end Go.Proofs.Ytajamblkjmafmaa
