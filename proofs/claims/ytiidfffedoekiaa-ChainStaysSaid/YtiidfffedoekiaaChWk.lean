/- The statements' own trial, and which snapshots they ask of. -/
import Derived.Test.YtiidfffedoekiaaChIx
import Derived.Test.YtiidfffedoekiaaChHo
import Derived.Test.YtiidfffedoekiaaChCg
import Derived.Test.YtiidfffedoekiaaChDr
import Derived.Test.YtiidfffedoekiaaChCt
import Derived.Test.YtiidfffedoekiaaChGd
import Derived.Test.YtiidfffedoekiaaKeep
namespace Go.Proofs.Ytiidfffedoekiaa
open Go.RowKit Go.Shelf
set_option linter.unusedVariables false
set_option linter.unusedSimpArgs false
attribute [-simp] Try.isAgg39 Try.zeroValue39 Try.isAgg42 Try.zeroValue42
attribute [-go_sem] loadVar storeVar
attribute [local go_sem] loadVar_openPS storeVar_openPS zero_sn zero_prs build_prs build_sn build_sn2

def fairL (l : List SN) : Bool := l.all (fun s => decide (s.ch.length ≤ 40) && decide (s.tb.length ≤ 80)) && decide (l.length ≤ 12)
theorem fair_lens {l : List SN} (h : fairL l = true) : Lens 1000 l ∧ l.length ≤ 12 ∧ ∀ s ∈ l, s.ch.length ≤ 40 ∧ s.tb.length ≤ 80 := by
  unfold fairL at h
  simp only [Bool.and_eq_true, List.all_eq_true, decide_eq_true_eq] at h
  exact ⟨⟨by omega, fun s hs => ⟨by have := h.1 s hs; omega, by have := h.1 s hs; omega⟩⟩, h.2, h.1⟩

set_option maxRecDepth 100000 in
set_option maxHeartbeats 4000000 in
theorem ch_fair {w : World} {v : Value} {l : List SN} (h : Snp w v l) :
    Calls Try.prog 9 #[v] w fun e w' => e = .returned (.bool (fairL l)) ∧ w' = w := by
  obtain ⟨r, h⟩ := h
  have HS := Lib.hid h
  obtain ⟨a, cap, rfl, h1, h2, -⟩ := h
  obtain ⟨len, hle⟩ : ∃ len, l.length = len := ⟨_, rfl⟩
  have HL := Lib.hid hle
  rw [hle] at HS h1 ⊢
  have hml : len ≤ 9223372036854775807 := by unfold maxLen at h2; omega
  clear h1 h2 hle
  go_enter Try.func9, Try.ntmps9
  go_wp2_with fail
  go_loopw [3] (fun iv wr => ∃ k : Nat, k ≤ len ∧ iv = .int .i64 (k : Int) ∧ wr = w ∧ Hid (∀ s ∈ l.take k, s.ch.length ≤ 40 ∧ s.tb.length ≤ 80)) (fun iv _ => len - (intOf iv).toNat)
  case atStart => exact ⟨0, Nat.zero_le _, rfl, rfl, fun s hs => by simp at hs⟩
  case round =>
    obtain ⟨k, hk, rfl, rfl, HP⟩ := hrel
    by_cases hlt : k < len
    · obtain ⟨s, hs⟩ : ∃ s, l[k]? = some s := ⟨_, List.getElem?_eq_getElem (by rw [HL.out]; exact hlt)⟩
      have hsn := take_at hs
      have hsm := List.mem_of_getElem? hs
      obtain ⟨b, off, q, rfl, hb, -, hq, c0, c1, c2⟩ := HS.out.at hs
      obtain ⟨i, ⟨x, n, c⟩, ⟨y, m, d⟩⟩ := q
      simp only [slV] at c0 c1 c2
      obtain rfl : n = s.ch.length := by obtain ⟨a, ca, e, -⟩ := hq.ch; simp only [slV, Value.slice.injEq] at e; omega
      obtain rfl : m = s.tb.length := by obtain ⟨a, ca, e, -⟩ := hq.tb; simp only [slV, Value.slice.injEq] at e; omega
      obtain ⟨n, hn⟩ : ∃ n, s.ch.length = n := ⟨_, rfl⟩
      obtain ⟨m, hm⟩ : ∃ m, s.tb.length = m := ⟨_, rfl⟩
      rw [hn] at c1
      rw [hm] at c2
      have g1 : (k : Int) < (len : Int) := by omega
      have HW : Hid (wrap64 ((k : Int) + 1) = (k : Int) + 1) := IntWalk.wrap64_in _ (by omega)
      have HLT := Lib.hid hlt
      by_cases q1 : 40 < n
      · have e1 : decide ((n : Int) > 40) = true := by simp; omega
        have g2 : (n : Int) > 40 := by omega
        have HE : Hid (fairL l = false) := by
          show _ = _
          unfold fairL
          rw [Bool.and_eq_false_iff]
          left
          rw [List.all_eq_false]
          exact ⟨s, hsm, by simp; omega⟩
        clear hs hsn hsm hb hq c0 hn hm hlt HP
        go_wp2_with fail
        refine bodyPost_ret (results_tmp rfl _ _ _) rfl ?_
        exact ⟨by rw [HE.out]; try rfl, rfl⟩
      · have e1 : decide ((n : Int) > 40) = false := by simp; omega
        have g2 : ¬ (n : Int) > 40 := by omega
        by_cases q2 : 80 < m
        · have e2 : decide ((m : Int) > 80) = true := by simp; omega
          have g3 : (m : Int) > 80 := by omega
          have HE : Hid (fairL l = false) := by
            show _ = _
            unfold fairL
            rw [Bool.and_eq_false_iff]
            left
            rw [List.all_eq_false]
            exact ⟨s, hsm, by simp; omega⟩
          clear hs hsn hsm hb hq c0 hn hm hlt HP
          go_wp2_with fail
          refine bodyPost_ret (results_tmp rfl _ _ _) rfl ?_
          exact ⟨by rw [HE.out]; try rfl, rfl⟩
        · have e2 : decide ((m : Int) > 80) = false := by simp; omega
          have g3 : ¬ (m : Int) > 80 := by omega
          have HP2 : Hid (∀ s ∈ l.take (k + 1), s.ch.length ≤ 40 ∧ s.tb.length ≤ 80) := fun t ht => by
            rw [hsn] at ht
            rcases List.mem_append.1 ht with ht | ht
            · exact HP.out t ht
            · rw [List.mem_singleton.1 ht]; omega
          clear hs hsn hsm hb hq c0 hn hm hlt HP
          go_wp2_with fail
          exact ⟨⟨k + 1, HLT.out, by first | simp | (rw [HW.out]; simp), trivial, HP2⟩, by have := HLT.out; first | (simp [intOf]; omega) | (rw [HW.out]; simp [intOf]; omega)⟩
    · obtain rfl : k = len := by omega
      have HE : Hid (fairL l = decide ((k : Int) ≤ 12)) := by
        have := HP.out
        rw [List.take_of_length_le (by rw [HL.out]; exact Nat.le_refl _)] at this
        show _ = _
        unfold fairL
        rw [HL.out, show (l.all fun s => decide (s.ch.length ≤ 40) && decide (s.tb.length ≤ 80)) = true from by
          rw [List.all_eq_true]; intro s hs; have := this s hs; simp; omega, Bool.true_and]
        congr 1
        simp
        omega
      clear HP
      go_wp2_with fail
      refine bodyPost_ret (results_tmp rfl _ _ _) rfl ?_
      exact ⟨by rw [HE.out]; try rfl, rfl⟩

/-! The trial's own three. -/
def threeL : List SN := [⟨1, [6], [(1, 0), (2, 1)]⟩, ⟨4, [12], [(2, 2), (3, 3)]⟩, ⟨5, [16], []⟩]
set_option maxRecDepth 100000 in
theorem slice_u81 (w : World) (x : Int) : (Instr.buildSlice 31 1 #[(0, .int .u8 x)]).run Try.prog w = .ok (.slice (some ⟨w.heap.size, 0, none⟩) 1 1) (w.alloc (.cells #[.int .u8 x] 5)) := by kernel_rfl
set_option maxRecDepth 100000 in
theorem slice_prs2C (w : World) (a b c d : Int) : (Instr.buildSlice 37 2 #[(0, .agg #[.int .i64 a, .int .i64 b]), (1, .agg #[.int .i64 c, .int .i64 d])]).run Try.prog w = .ok (.slice (some ⟨w.heap.size, 0, none⟩) 2 2) (w.alloc (.cells #[.int .i64 a, .int .i64 b, .int .i64 c, .int .i64 d] 42)) := by kernel_rfl
set_option maxRecDepth 100000 in
theorem slice_sn3 (w : World) (p q r : SV) : (Instr.buildSlice 22 3 #[(0, svV p), (1, svV q), (2, svV r)]).run Try.prog w = .ok (.slice (some ⟨w.heap.size, 0, none⟩) 3 3) (w.alloc (.cells (scs [p, q, r]).toArray 39)) := by kernel_rfl
theorem own_u81 (w : World) (x : Int) : (w.alloc (.cells #[.int .u8 x] 5)).ownsRow w.heap.size 5 1 (.slice (some ⟨w.heap.size, 0, none⟩) 1 1) 1 [.int .u8 x] := World.ownsRow_lit w #[.int .u8 x] 1 (Nat.le_refl _) (by simp [maxLen]) rfl
theorem own_prs2 (w : World) (a b c d : Int) (h : Is64s [(a, b), (c, d)]) : PrO w.heap.size (w.alloc (.cells #[.int .i64 a, .int .i64 b, .int .i64 c, .int .i64 d] 42)) (.slice (some ⟨w.heap.size, 0, none⟩) 2 2) [(a, b), (c, d)] :=
  ⟨World.ownsRow_lit w #[.int .i64 a, .int .i64 b, .int .i64 c, .int .i64 d] 2 (Nat.le_refl _) (by simp [maxLen]) rfl, h⟩
theorem bytes_one (x : Int) (h : 0 ≤ x ∧ x < 256) : IsBytes [x] := fun j => by
  match j with
  | 0 => exact h
  | j + 1 => simp

set_option maxRecDepth 100000 in
set_option maxHeartbeats 4000000 in
theorem ch_three (w : World) : Calls Try.prog 33 #[] w fun e w' => ∃ v, e = .returned v ∧ Snp w' v threeL ∧ Below w.heap.size w w' := by
  obtain ⟨W1, h1⟩ : ∃ W, w.alloc (.cells #[.int .u8 6] 5) = W := ⟨_, rfl⟩
  obtain ⟨W2, h2⟩ : ∃ W, W1.alloc (.cells #[.int .i64 1, .int .i64 0, .int .i64 2, .int .i64 1] 42) = W := ⟨_, rfl⟩
  obtain ⟨W3, h3⟩ : ∃ W, W2.alloc (.cells #[.int .u8 12] 5) = W := ⟨_, rfl⟩
  obtain ⟨W4, h4⟩ : ∃ W, W3.alloc (.cells #[.int .i64 2, .int .i64 2, .int .i64 3, .int .i64 3] 42) = W := ⟨_, rfl⟩
  obtain ⟨W5, h5⟩ : ∃ W, W4.alloc (.cells #[.int .u8 16] 5) = W := ⟨_, rfl⟩
  have s1 := slice_u81 w 6
  have s2 := slice_prs2C W1 1 0 2 1
  have s3 := slice_u81 W2 12
  have s4 := slice_prs2C W3 2 2 3 3
  have s5 := slice_u81 W4 16
  have s6 := slice_sn3 W5 (1, (some ⟨w.heap.size, 0, none⟩, 1, 1), (some ⟨W1.heap.size, 0, none⟩, 2, 2)) (4, (some ⟨W2.heap.size, 0, none⟩, 1, 1), (some ⟨W3.heap.size, 0, none⟩, 2, 2)) (5, (some ⟨W4.heap.size, 0, none⟩, 1, 1), (none, 0, 0))
  obtain ⟨W6, h6⟩ : ∃ W, W5.alloc (.cells (scs [(1, (some ⟨w.heap.size, 0, none⟩, 1, 1), (some ⟨W1.heap.size, 0, none⟩, 2, 2)), (4, (some ⟨W2.heap.size, 0, none⟩, 1, 1), (some ⟨W3.heap.size, 0, none⟩, 2, 2)), (5, (some ⟨W4.heap.size, 0, none⟩, 1, 1), (none, 0, 0))]).toArray 39) = W := ⟨_, rfl⟩
  have b1 : Below w.heap.size w W1 := by rw [← h1]; exact below_new _ _
  have b2 : Below W1.heap.size W1 W2 := by rw [← h2]; exact below_new _ _
  have b3 : Below W2.heap.size W2 W3 := by rw [← h3]; exact below_new _ _
  have b4 : Below W3.heap.size W3 W4 := by rw [← h4]; exact below_new _ _
  have b5 : Below W4.heap.size W4 W5 := by rw [← h5]; exact below_new _ _
  have b6 : Below W5.heap.size W5 W6 := by rw [← h6]; exact below_new _ _
  have o1 := own_u81 w 6
  have o2 := own_prs2 W1 1 0 2 1 (by intro p hp; simp at hp; rcases hp with rfl | rfl <;> simp [Is64])
  have o3 := own_u81 W2 12
  have o4 := own_prs2 W3 2 2 3 3 (by intro p hp; simp at hp; rcases hp with rfl | rfl <;> simp [Is64])
  have o5 := own_u81 W4 16
  have r6 := RowC.new W5 39 (scs [(1, (some ⟨w.heap.size, 0, none⟩, 1, 1), (some ⟨W1.heap.size, 0, none⟩, 2, 2)), (4, (some ⟨W2.heap.size, 0, none⟩, 1, 1), (some ⟨W3.heap.size, 0, none⟩, 2, 2)), (5, (some ⟨W4.heap.size, 0, none⟩, 1, 1), (none, 0, 0))])
  rw [h1] at s1 o1
  rw [h2] at s2 o2
  rw [h3] at s3 o3
  rw [h4] at s4 o4
  rw [h5] at s5 o5
  rw [h6] at s6 r6
  have b46 := b5.trans (b6.mono b5.size)
  have b36 := b4.trans (b46.mono b4.size)
  have b26 := b3.trans (b36.mono b3.size)
  have b16 := b2.trans (b26.mono b2.size)
  have b06 := b1.trans (b16.mono b1.size)
  have HSN : Hid (Snp W6 (.slice (some ⟨W5.heap.size, 0, none⟩) 3 3) threeL) := by
    refine ⟨[(1, (some ⟨w.heap.size, 0, none⟩, 1, 1), (some ⟨W1.heap.size, 0, none⟩, 2, 2)), (4, (some ⟨W2.heap.size, 0, none⟩, 1, 1), (some ⟨W3.heap.size, 0, none⟩, 2, 2)), (5, (some ⟨W4.heap.size, 0, none⟩, 1, 1), (none, 0, 0))], some ⟨W5.heap.size, 0, none⟩, 3, rfl, Nat.le_refl _, by decide, (fun e => by cases e), rfl, ?_, .inr ⟨W5.heap.size, 0, rfl, r6.lt, ?_⟩⟩
    · intro j q s hq hs
      match j with
      | 0 => cases hq; cases hs; exact ⟨rfl, (Sl.of_owns (bs := [6]) o1).below b16, (o2.prt).below b26, ⟨by simp [Is64], bytes_one 6 (by decide), o2.2⟩⟩
      | 1 => cases hq; cases hs; exact ⟨rfl, (Sl.of_owns (bs := [12]) o3).below b36, (o4.prt).below b46, ⟨by simp [Is64], bytes_one 12 (by decide), o4.2⟩⟩
      | 2 => cases hq; cases hs; exact ⟨rfl, (Sl.of_owns (bs := [16]) o5).below b6, Prt.nil _, ⟨by simp [Is64], bytes_one 16 (by decide), fun p hp => by cases hp⟩⟩
      | j + 3 => simp at hq
    · intro j q hq
      obtain ⟨f1, f2, f3⟩ := scs_get hq
      rw [Nat.zero_add]
      exact ⟨r6.cell _ _ f1, r6.cell _ _ f2, r6.cell _ _ f3⟩
  have HB := Lib.hid b06
  simp only [svV, slV] at s6
  clear o1 o2 o3 o4 o5 r6 b1 b2 b3 b4 b5 b6 b46 b36 b26 b16 b06 h1 h2 h3 h4 h5 h6
  have s1 := Lib.hid s1
  have s2 := Lib.hid s2
  have s3 := Lib.hid s3
  have s4 := Lib.hid s4
  have s5 := Lib.hid s5
  have s6 := Lib.hid s6
  go_enter Try.func33, Try.ntmps33
  go_wp2_with ((with_reducible refine gate_build ?_); first | (refine wpList_build_run _ _ _ rfl rfl [(0, .int .u8 6)] _ rfl s1.out ?_) | (refine wpList_build_run _ _ _ rfl rfl [(0, .agg #[.int .i64 1, .int .i64 0]), (1, .agg #[.int .i64 2, .int .i64 1])] _ rfl s2.out ?_) | (refine wpList_build_run _ _ _ rfl rfl [(0, .int .u8 12)] _ rfl s3.out ?_) | (refine wpList_build_run _ _ _ rfl rfl [(0, .agg #[.int .i64 2, .int .i64 2]), (1, .agg #[.int .i64 3, .int .i64 3])] _ rfl s4.out ?_) | (refine wpList_build_run _ _ _ rfl rfl [(0, .int .u8 16)] _ rfl s5.out ?_) | (refine wpList_build_run _ _ _ rfl rfl [(0, _), (1, _), (2, _)] _ rfl s6.out ?_))
  go_ret
  exact ⟨_, rfl, HSN.out, HB.out⟩
end Go.Proofs.Ytiidfffedoekiaa
