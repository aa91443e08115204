/- The guard that every statement on pools ends with; which states they ask of. -/
import Derived.Test.YtiidfffedoekiaaPoTk
namespace Go.Proofs.Ytiidfffedoekiaa
open Go.RowKit Go.Shelf Go.Lib Go.Sort
set_option linter.unusedVariables false
set_option linter.unusedSimpArgs false
attribute [-simp] Try.isAgg39 Try.zeroValue39 Try.isAgg42 Try.zeroValue42 Try.isAgg48 Try.zeroValue48
attribute [-go_sem] loadVar storeVar
set_option maxRecDepth 100000 in
theorem po_build_pair (a b : Int) (w : World) : (Instr.build 42 #[(0, .int .i64 a), (1, .int .i64 b)]).run Try.prog w = .ok (.agg #[.int .i64 a, .int .i64 b]) w := by kernel_rfl
set_option maxRecDepth 100000 in
theorem po_build_sn (y : Option Addr) (m d : Nat) (w : World) : (Instr.build 39 #[(2, .slice y m d)]).run Try.prog w = .ok (.agg #[.int .i64 0, .slice none 0 0, .slice y m d]) w := by kernel_rfl
set_option maxRecDepth 100000 in
theorem po_build_pl (a : Int) (y : Option Addr) (m d : Nat) (w : World) : (Instr.build 46 #[(0, .int .i64 a), (2, .slice y m d)]).run Try.prog w = .ok (.agg #[.int .i64 a, .int .i64 0, .slice y m d]) w := by kernel_rfl
set_option maxRecDepth 100000 in
theorem po_build_st (a : Int) (x y : Option Addr) (n c m d : Nat) (w : World) : (Instr.build 48 #[(1, .slice x n c), (3, .agg #[.int .i64 a, .int .i64 0, .slice y m d])]).run Try.prog w = .ok (.agg #[.slice none 0 0, .slice x n c, .int .i64 0, .int .i64 a, .int .i64 0, .slice y m d]) w := by kernel_rfl
attribute [local go_sem] loadVar_openQ storeVar_openQ zero_sn zero_prs zero_st po_build_pair po_build_sn po_build_pl po_build_st

set_option maxRecDepth 100000 in
theorem po_lit2 (w : World) (a b c d : Int) : (Instr.buildSlice 37 2 #[(0, .agg #[.int .i64 a, .int .i64 b]), (1, .agg #[.int .i64 c, .int .i64 d])]).run Try.prog w = .ok (.slice (some ⟨w.heap.size, 0, none⟩) 2 2) (w.alloc (.cells #[.int .i64 a, .int .i64 b, .int .i64 c, .int .i64 d] 42)) := by kernel_rfl
theorem po_is2 (x : World) (a b c d : Int) (h : Is64s [(a, b), (c, d)]) : Prt (x.alloc (.cells #[.int .i64 a, .int .i64 b, .int .i64 c, .int .i64 d] 42)) (.slice (some ⟨x.heap.size, 0, none⟩) 2 2) [(a, b), (c, d)] :=
  PrO.prt (N := x.heap.size) ⟨World.ownsRow_lit x #[.int .i64 a, .int .i64 b, .int .i64 c, .int .i64 d] 2 (Nat.le_refl _) (by simp [maxLen]) rfl, h⟩
set_option maxRecDepth 100000 in
theorem po_ints2 (w : World) (a b : Int) : (Instr.buildSlice 35 2 #[(0, .int .i64 a), (1, .int .i64 b)]).run Try.prog w = .ok (.slice (some ⟨w.heap.size, 0, none⟩) 2 2) (w.alloc (.cells #[.int .i64 a, .int .i64 b] 3)) := by kernel_rfl
set_option maxRecDepth 100000 in
theorem po_ints3 (w : World) (a b c : Int) : (Instr.buildSlice 35 3 #[(0, .int .i64 a), (1, .int .i64 b), (2, .int .i64 c)]).run Try.prog w = .ok (.slice (some ⟨w.heap.size, 0, none⟩) 3 3) (w.alloc (.cells #[.int .i64 a, .int .i64 b, .int .i64 c] 3)) := by kernel_rfl
theorem rise_ext : ∀ {a b : List Int}, a.Pairwise (· < ·) → b.Pairwise (· < ·) → (∀ x, x ∈ a ↔ x ∈ b) → a = b
  | [], [], _, _, _ => rfl
  | [], y :: b, _, _, h => absurd ((h y).2 (List.mem_cons_self ..)) (by simp)
  | x :: a, [], _, _, h => absurd ((h x).1 (List.mem_cons_self ..)) (by simp)
  | x :: a, y :: b, ha, hb, h => by
    obtain ⟨a1, a2⟩ := List.pairwise_cons.1 ha
    obtain ⟨b1, b2⟩ := List.pairwise_cons.1 hb
    have hxy : x = y := by
      rcases List.mem_cons.1 ((h x).1 (List.mem_cons_self ..)) with e | e
      · exact e
      · rcases List.mem_cons.1 ((h y).2 (List.mem_cons_self ..)) with e2 | e2
        · exact e2.symm
        · have := b1 x e; have := a1 y e2; omega
    subst hxy
    rw [rise_ext a2 b2 fun z => ?_]
    constructor
    · intro hz
      have := a1 z hz
      rcases List.mem_cons.1 ((h z).1 (List.mem_cons_of_mem _ hz)) with e | e
      · omega
      · exact e
    · intro hz
      have := b1 z hz
      rcases List.mem_cons.1 ((h z).2 (List.mem_cons_of_mem _ hz)) with e | e
      · omega
      · exact e
theorem wk_ats : pAts [⟨0, [], [(1, 2), (3, 0)]⟩] [(0, 4), (1, 255)] = [2, 0, 4] := by decide +kernel
theorem wk_used : pUsed [⟨0, [], [(1, 2), (3, 0)]⟩] [(0, 4), (1, 255)] = [0, 2, 4] := by
  refine rise_ext (used_rise _ _) (by decide) fun x => ?_
  rw [used_mem, wk_ats]
  simp only [List.mem_cons, List.not_mem_nil, or_false]
  constructor <;> (rintro (h | h | h) <;> simp [h])
theorem wk_fr : pFree [0, 2, 4] 6 = [1, 3, 5] := by decide +kernel
theorem wk_l2 : tkLst [1, 3, 5] 2 = [1, 3] := by decide +kernel
theorem wk_lens : Lens 200 [⟨0, [], [(1, 2), (3, 0)]⟩] := ⟨by decide, fun s hs => by
  simp at hs
  subst hs
  simp⟩

set_option maxRecDepth 100000 in
set_option maxHeartbeats 2000000 in
theorem po_wakes (w : World) : Calls Try.prog 25 #[] w fun e w' => e = .returned (.bool true) ∧ Below w.heap.size w w' := by
  obtain ⟨W1, h1⟩ : ∃ W, w.alloc (.cells #[.int .i64 1, .int .i64 2, .int .i64 3, .int .i64 0] 42) = W := ⟨_, rfl⟩
  obtain ⟨W2, h2⟩ : ∃ W, W1.alloc (.cells #[.int .i64 0, .slice none 0 0, .slice (some ⟨w.heap.size, 0, none⟩) 2 2] 39) = W := ⟨_, rfl⟩
  obtain ⟨W3, h3⟩ : ∃ W, W2.alloc (.cells #[.int .i64 0, .int .i64 4, .int .i64 1, .int .i64 255] 42) = W := ⟨_, rfl⟩
  obtain ⟨W4, h4⟩ : ∃ W, W3.alloc (.cells #[.slice none 0 0, .slice (some ⟨W1.heap.size, 0, none⟩) 1 1, .int .i64 0, .int .i64 2, .int .i64 0, .slice (some ⟨W2.heap.size, 0, none⟩) 2 2] 48) = W := ⟨_, rfl⟩
  have s1 := po_lit2 w 1 2 3 0
  have s2 : (Instr.buildSlice 22 1 #[(0, .agg #[.int .i64 0, .slice none 0 0, .slice (some ⟨w.heap.size, 0, none⟩) 2 2])]).run Try.prog W1 = .ok (.slice (some ⟨W1.heap.size, 0, none⟩) 1 1) (W1.alloc (.cells #[.int .i64 0, .slice none 0 0, .slice (some ⟨w.heap.size, 0, none⟩) 2 2] 39)) := slice_sn1 W1 (0, (none, 0, 0), (some ⟨w.heap.size, 0, none⟩, 2, 2))
  have s3 := po_lit2 W2 0 4 1 255
  have s4 : (storeVar 48 ⟨W3.heap.size, 0, none⟩ (.agg #[.slice none 0 0, .slice (some ⟨W1.heap.size, 0, none⟩) 1 1, .int .i64 0, .int .i64 2, .int .i64 0, .slice (some ⟨W2.heap.size, 0, none⟩) 2 2])).run Try.prog (W3.alloc (.cells #[.slice none 0 0, .slice none 0 0, .int .i64 0, .int .i64 0, .int .i64 0, .slice none 0 0] 48)) = .ok () (W3.alloc (.cells #[.slice none 0 0, .slice (some ⟨W1.heap.size, 0, none⟩) 1 1, .int .i64 0, .int .i64 2, .int .i64 0, .slice (some ⟨W2.heap.size, 0, none⟩) 2 2] 48)) := new_st W3 ⟨(none, 0, 0), (some ⟨W1.heap.size, 0, none⟩, 1, 1), 0, 2, 0, (some ⟨W2.heap.size, 0, none⟩, 2, 2)⟩
  have b1 : Below w.heap.size w W1 := by rw [← h1]; exact below_new _ _
  have b2 : Below W1.heap.size W1 W2 := by rw [← h2]; exact below_new _ _
  have b3 : Below W2.heap.size W2 W3 := by rw [← h3]; exact below_new _ _
  have b4 : Below W3.heap.size W3 W4 := by rw [← h4]; exact below_new _ _
  have p1 := po_is2 w 1 2 3 0 (by intro p hp; simp at hp; rcases hp with rfl | rfl <;> simp [Is64])
  have p3 := po_is2 W2 0 4 1 255 (by intro p hp; simp at hp; rcases hp with rfl | rfl <;> simp [Is64])
  have r2 : RowC (W1.alloc (.cells #[.int .i64 0, .slice none 0 0, .slice (some ⟨w.heap.size, 0, none⟩) 2 2] 39)) W1.heap.size 39 (scs [(0, (none, 0, 0), (some ⟨w.heap.size, 0, none⟩, 2, 2))]) := RowC.new W1 _ _
  have r4 : RowC (W3.alloc (.cells #[.slice none 0 0, .slice (some ⟨W1.heap.size, 0, none⟩) 1 1, .int .i64 0, .int .i64 2, .int .i64 0, .slice (some ⟨W2.heap.size, 0, none⟩) 2 2] 48)) W3.heap.size 48 (stL ⟨(none, 0, 0), (some ⟨W1.heap.size, 0, none⟩, 1, 1), 0, 2, 0, (some ⟨W2.heap.size, 0, none⟩, 2, 2)⟩) := RowC.new W3 _ _
  rw [h1] at s1 p1
  rw [h2] at s2 r2
  rw [h3] at s3 p3
  rw [h4] at s4 r4
  have b34 := b3.trans (b4.mono b3.size)
  have b24 := b2.trans (b34.mono b2.size)
  have b04 := b1.trans (b24.mono b1.size)
  have HSN : Snp W2 (.slice (some ⟨W1.heap.size, 0, none⟩) 1 1) [⟨0, [], [(1, 2), (3, 0)]⟩] := by
    refine ⟨[(0, (none, 0, 0), (some ⟨w.heap.size, 0, none⟩, 2, 2))], some ⟨W1.heap.size, 0, none⟩, 1, rfl, Nat.le_refl _, by decide, (fun e => by cases e), rfl, ?_, .inr ⟨W1.heap.size, 0, rfl, r2.lt, ?_⟩⟩
    · intro j q s hq hs
      match j with
      | 0 => cases hq; cases hs; exact ⟨rfl, Sl.nil _ _, p1.below b2, ⟨by simp [Is64], (fun j => by simp), p1.is⟩⟩
      | j + 1 => simp at hq
    · intro j q hq
      obtain ⟨f1, f2, f3⟩ := scs_get hq
      rw [Nat.zero_add]
      exact ⟨r2.cell _ _ f1, r2.cell _ _ f2, r2.cell _ _ f3⟩
  have HST : StIs W4 ⟨(none, 0, 0), (some ⟨W1.heap.size, 0, none⟩, 1, 1), 0, 2, 0, (some ⟨W2.heap.size, 0, none⟩, 2, 2)⟩ [⟨0, [], [(1, 2), (3, 0)]⟩] [(0, 4), (1, 255)] := ⟨HSN.below b34, p3.below b4⟩
  have LD : ∀ z : Ext W4, (loadVar 48 ⟨W3.heap.size, 0, none⟩).run Try.prog z.1 = .ok (.agg #[.slice none 0 0, .slice (some ⟨W1.heap.size, 0, none⟩) 1 1, .int .i64 0, .int .i64 2, .int .i64 0, .slice (some ⟨W2.heap.size, 0, none⟩) 2 2]) z.1 := fun z => load_stC (r4.below z.2)
  have HL := Lib.hid LD
  have HB := Lib.hid b04
  have HS4 := Lib.hid HST
  have ht1 := po_take HST wk_lens (by decide) 6 (by decide) 2
  rw [wk_used, wk_fr, wk_l2, show tkErr [1, 3, 5].length 2 = 0 from by decide] at ht1
  have HT1 : Hid (Calls Try.prog 28 #[.agg #[.slice none 0 0, .slice (some ⟨W1.heap.size, 0, none⟩) 1 1, .int .i64 0, .int .i64 2, .int .i64 0, .slice (some ⟨W2.heap.size, 0, none⟩) 2 2], .int .i64 6, .int .i64 2] W4 fun e w' => ∃ u : SlV, e = .returned (.tuple #[slV u, .int .i64 0]) ∧ InO W4.heap.size w' (slV u) [1, 3] ∧ Below W4.heap.size W4 w') := ht1
  have l0 := LD ⟨W4, Below.refl _ _⟩
  simp only at l0
  obtain ⟨D, hD⟩ : ∃ D, W3.heap.size = D := ⟨_, rfl⟩
  rw [hD] at HL l0 s4
  clear ht1 b1 b2 b3 b34 b24 b04 p1 p3 r2 r4 HSN HST LD
  have s1 := Lib.hid s1
  have s2 := Lib.hid s2
  have s3 := Lib.hid s3
  go_enter Try.func25, Try.ntmps25
  go_wp2_with ((with_reducible refine gate_build ?_); first | (refine wpList_build_run _ _ _ rfl rfl [(0, .agg #[.int .i64 1, .int .i64 2]), (1, .agg #[.int .i64 3, .int .i64 0])] _ rfl s1.out ?_) | (refine wpList_build_run _ _ _ rfl rfl [(0, .agg #[.int .i64 0, .slice none 0 0, .slice (some ⟨w.heap.size, 0, none⟩) 2 2])] _ rfl s2.out ?_) | (refine wpList_build_run _ _ _ rfl rfl [(0, .agg #[.int .i64 0, .int .i64 4]), (1, .agg #[.int .i64 1, .int .i64 255])] _ rfl s3.out ?_))
  clear s4 h1 h2 h3 h4
  go_wp2_with fail
  go_at_call 28
  refine HT1.out.mono ?_
  rintro e X1 ⟨⟨u0, u1, u2⟩, rfl, hi, hb⟩
  have E1 := Lib.hid hb
  have I1 := Lib.hid hi
  have hst1 := HS4.out.below hb
  have l1 := HL.out ⟨X1, hb⟩
  simp only at l1
  have ht2 := po_take hst1 wk_lens (by decide) 6 (by decide) 4
  rw [wk_used, wk_fr, show tkErr [1, 3, 5].length 4 = 12 from by decide] at ht2
  have HT2 : Hid (Calls Try.prog 28 #[.agg #[.slice none 0 0, .slice (some ⟨W1.heap.size, 0, none⟩) 1 1, .int .i64 0, .int .i64 2, .int .i64 0, .slice (some ⟨W2.heap.size, 0, none⟩) 2 2], .int .i64 6, .int .i64 4] X1 fun e w' => ∃ u : SlV, e = .returned (.tuple #[slV u, .int .i64 12]) ∧ InO X1.heap.size w' (slV u) (tkLst [1, 3, 5] 4) ∧ Below X1.heap.size X1 w') := ht2
  simp only [slV] at I1 ⊢
  clear hi hb hst1 ht2 HT1 l0
  go_wp2_with fail
  go_at_call 28
  refine HT2.out.mono ?_
  rintro e X2 ⟨⟨z0, z1, z2⟩, rfl, -, hb⟩
  have E2 : Hid (Below W4.heap.size W4 X2) := E1.out.trans (hb.mono E1.out.size)
  have I2 := Lib.hid (I1.out.below hb)
  have hst2 := HS4.out.below E2.out
  have l2 := HL.out ⟨X2, E2.out⟩
  simp only at l2
  have ht3 := po_used hst2 wk_lens (by decide)
  rw [wk_used] at ht3
  have HT3 : Hid (Calls Try.prog 26 #[.agg #[.slice none 0 0, .slice (some ⟨W1.heap.size, 0, none⟩) 1 1, .int .i64 0, .int .i64 2, .int .i64 0, .slice (some ⟨W2.heap.size, 0, none⟩) 2 2]] X2 fun e w' => ∃ u : SlV, e = .returned (slV u) ∧ InO X2.heap.size w' (slV u) [0, 2, 4] ∧ Below X2.heap.size X2 w') := ht3
  simp only [slV]
  clear hb hst2 ht3 HT2 l1 I1 E1
  go_wp2_with fail
  go_at_call 26
  refine HT3.out.mono ?_
  rintro e X3 ⟨⟨k0, k1, k2⟩, rfl, hi, hb⟩
  have E3 : Hid (Below W4.heap.size W4 X3) := E2.out.trans (hb.mono E2.out.size)
  have I3 := Lib.hid (I2.out.below hb)
  have t3 := po_ints3 X3 0 2 4
  obtain ⟨X4, h4⟩ : ∃ X, X3.alloc (.cells #[.int .i64 0, .int .i64 2, .int .i64 4] 3) = X := ⟨_, rfl⟩
  have b4 := below_new X3 (.cells #[.int .i64 0, .int .i64 2, .int .i64 4] 3)
  have o4 : Sl .i64 (X3.alloc (.cells #[.int .i64 0, .int .i64 2, .int .i64 4] 3)) (.slice (some ⟨X3.heap.size, 0, none⟩) 3 3) [0, 2, 4] := sl_own (base := X3.heap.size) (e := 3) (n := 3) (World.ownsRow_lit X3 #[.int .i64 0, .int .i64 2, .int .i64 4] 3 (Nat.le_refl _) (by simp [maxLen]) rfl)
  rw [h4] at t3 b4 o4
  have T3 := Lib.hid t3
  have HI1 := Lib.hid (ints_same _ _ _ X4 ((sl_own hi).below b4) o4)
  have E4 : Hid (Below W4.heap.size W4 X4) := E3.out.trans (b4.mono E3.out.size)
  have I4 := Lib.hid (I3.out.below b4)
  simp only [slV] at HI1 ⊢
  clear hi hb HT3 l2 I2 E2 t3 h4 b4 o4
  go_wp2_with ((with_reducible refine gate_build ?_); refine wpList_build_run _ _ _ rfl rfl [(0, .int .i64 0), (1, .int .i64 2), (2, .int .i64 4)] _ rfl T3.out ?_)
  go_at_call 18
  refine HI1.out.mono ?_
  rintro e X5 ⟨rfl, hb⟩
  have E5 : Hid (Below W4.heap.size W4 X5) := E4.out.trans (hb.mono E4.out.size)
  have I5 := Lib.hid (I4.out.below hb)
  have hst5 := HS4.out.below E5.out
  have l5 := HL.out ⟨X5, E5.out⟩
  simp only at l5
  have ht5 := po_free hst5 wk_lens (by decide) 6 (by decide)
  rw [wk_used, wk_fr] at ht5
  have HT5 : Hid (Calls Try.prog 27 #[.agg #[.slice none 0 0, .slice (some ⟨W1.heap.size, 0, none⟩) 1 1, .int .i64 0, .int .i64 2, .int .i64 0, .slice (some ⟨W2.heap.size, 0, none⟩) 2 2], .int .i64 6] X5 fun e w' => e = .returned (.int .i64 3) ∧ Below X5.heap.size X5 w') := ht5
  clear hb hst5 ht5 HI1 I3 I4 E3 E4 T3
  go_wp2_with fail
  go_at_call 27
  refine HT5.out.mono ?_
  rintro e X6 ⟨rfl, hb⟩
  have E6 : Hid (Below W4.heap.size W4 X6) := E5.out.trans (hb.mono E5.out.size)
  have t7 := po_ints2 X6 1 3
  obtain ⟨X7, h7⟩ : ∃ X, X6.alloc (.cells #[.int .i64 1, .int .i64 3] 3) = X := ⟨_, rfl⟩
  have b7 := below_new X6 (.cells #[.int .i64 1, .int .i64 3] 3)
  have o7 : Sl .i64 (X6.alloc (.cells #[.int .i64 1, .int .i64 3] 3)) (.slice (some ⟨X6.heap.size, 0, none⟩) 2 2) [1, 3] := sl_own (base := X6.heap.size) (e := 3) (n := 2) (World.ownsRow_lit X6 #[.int .i64 1, .int .i64 3] 2 (Nat.le_refl _) (by simp [maxLen]) rfl)
  rw [h7] at t7 b7 o7
  have T7 := Lib.hid t7
  have HI2 := Lib.hid (ints_same _ _ _ X7 ((sl_own ((I5.out.below hb).below b7))) o7)
  have E7 : Hid (Below W4.heap.size W4 X7) := E6.out.trans (b7.mono E6.out.size)
  try simp only [slV] at HI2
  clear hb HT5 l5 I5 E5 E6 t7 h7 b7 o7
  go_wp2_with ((with_reducible refine gate_build ?_); refine wpList_build_run _ _ _ rfl rfl [(0, .int .i64 1), (1, .int .i64 3)] _ rfl T7.out ?_)
  go_at_call 18
  refine HI2.out.mono ?_
  rintro e X8 ⟨rfl, hb⟩
  have E8 : Hid (Below W4.heap.size W4 X8) := E7.out.trans (hb.mono E7.out.size)
  have E9 : Hid (Below w.heap.size w X8) := HB.out.trans (E8.out.mono HB.out.size)
  clear hb HI2 T7 E7
  go_wp2_with fail
  go_ret
  exact ⟨rfl, E9.out⟩
end Go.Proofs.Ytiidfffedoekiaa
