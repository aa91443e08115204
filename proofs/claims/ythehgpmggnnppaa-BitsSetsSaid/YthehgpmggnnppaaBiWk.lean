/- The guard that every statement on bits ends with. -/
import Derived.Test.YthehgpmggnnppaaBiRef
import Derived.Test.YthehgpmggnnppaaInts
import Derived.Test.YthehgpmggnnppaaKeep
import Derived.Lib.SmallJoins
namespace Go.Proofs.Ythehgpmggnnppaa
open Go.RowKit Go.Shelf
set_option linter.unusedVariables false

theorem lit_sl (k : IntKind) (w : World) (t : TypeId) (xs : List Int) (hm : xs.length ≤ maxLen) : Sl k (w.alloc (.cells (xs.map (Value.int k)).toArray t)) (.slice (some ⟨w.heap.size, 0, none⟩) xs.length xs.length) xs := by
  refine Sl.at (off := 0) (Nat.le_refl _) hm (by simp) fun j hj => ?_
  rw [cell_of_row _ _ _ _ _ _ (World.alloc_heap_new w _)]
  simp [hj]
theorem nine : withB (List.replicate (sizeB 9) 0) 8 = [0, 1] := by decide +kernel
theorem nine_l : (List.replicate (sizeB 9) (0 : Int)).length ≤ 140737488355328 := by decide +kernel
theorem zeros_b (n : Nat) : IsBytes (List.replicate n 0) := fun j => by
  by_cases h : j < n
  · simp [h]
  · simp [h]
theorem b01 : IsBytes [0, 1] := fun j => by
  match j with
  | 0 => decide
  | 1 => decide
  | j + 2 => simp
theorem b3 : IsBytes [3] := fun j => by
  match j with
  | 0 => decide
  | j + 1 => simp
theorem has8 : hasB [0, 1] 8 = true := by decide +kernel
theorem has7 : hasB [0, 1] 7 = false := by decide +kernel
theorem cnt1 : (allB [0, 1]).length = 1 := by decide +kernel
theorem all3 : (allB (orB [0, 1] [3])).map (fun k : Nat => (k : Int)) = [0, 1, 8] := by decide +kernel
theorem good9 : goodB [0, 1] 9 = true := by decide +kernel
theorem good8 : goodB [0, 1] 8 = false := by decide +kernel

set_option maxRecDepth 100000 in
set_option maxHeartbeats 4000000 in
theorem bi_wakes (w : World) : Calls Try.prog 6 #[] w fun e w' => e = .returned (.bool true) ∧ Below w.heap.size w w' := by
  go_enter Try.func6, Try.ntmps6
  go_wp2_with fail
  refine (bi_new 9 w).mono ?_
  rintro e W1 ⟨v3, rfl, h4, b2⟩
  have B5 := Lib.hid b2
  clear b2
  have F6 := Lib.hid h4
  clear h4
  go_wp2_with fail
  refine (bi_with _ _ 8 (by decide) _ F6.out (zeros_b _) nine_l).mono ?_
  rintro e W7 ⟨v9, rfl, h10, b8⟩
  have F11 := Lib.hid (F6.out.below b8)
  have B12 := Lib.hid (B5.out.trans (b8.mono B5.out.size))
  clear F6 B5
  clear b8
  have F13 := Lib.hid h10
  clear h10
  have F14 := F13
  rw [nine] at F14
  clear F13
  clear F11
  obtain ⟨W15, h16⟩ : ∃ X, W7.alloc (.cells #[.int .u8 0, .int .u8 1] 5) = X := ⟨_, rfl⟩
  have b17 : Below W7.heap.size W7 W15 := by rw [← h16]; exact (Below.refl _ _).alloc (Nat.le_refl _) _
  have F18 : Hid (Sl .u8 W15 (.slice (some ⟨W7.heap.size, 0, none⟩) 2 2) [0, 1]) := by show Sl _ _ _ _; rw [← h16]; exact lit_sl .u8 W7 _ [0, 1] (by simp [maxLen])
  have F19 := Lib.hid (F14.out.below b17)
  have B20 := Lib.hid (B12.out.trans (b17.mono B12.out.size))
  clear F14 B12
  clear b17
  go_wp2_with fail
  clear h16
  refine (bytes_yes _ _ _ _ F19.out F18.out).mono ?_
  rintro e w9 ⟨rfl, h21⟩
  obtain rfl := h21.symm
  clear F18
  go_wp2_with fail
  refine (bi_has _ _ 8 (by decide) _ F19.out b01).mono ?_
  rintro e W22 ⟨rfl, b23⟩
  have F24 := Lib.hid (F19.out.below b23)
  have B25 := Lib.hid (B20.out.trans (b23.mono B20.out.size))
  clear F19 B20
  clear b23
  rw [has8]
  go_wp2_with fail
  refine (bi_has _ _ 7 (by decide) _ F24.out b01).mono ?_
  rintro e W26 ⟨rfl, b27⟩
  have F28 := Lib.hid (F24.out.below b27)
  have B29 := Lib.hid (B25.out.trans (b27.mono B25.out.size))
  clear F24 B25
  clear b27
  rw [has7]
  go_wp2_with fail
  refine (bi_count _ _ _ F28.out b01 (by simp)).mono ?_
  rintro e W30 ⟨rfl, b31⟩
  have F32 := Lib.hid (F28.out.below b31)
  have B33 := Lib.hid (B29.out.trans (b31.mono B29.out.size))
  clear F28 B29
  clear b31
  rw [cnt1]
  obtain ⟨W34, h35⟩ : ∃ X, W30.alloc (.cells #[.int .u8 3] 5) = X := ⟨_, rfl⟩
  have b36 : Below W30.heap.size W30 W34 := by rw [← h35]; exact (Below.refl _ _).alloc (Nat.le_refl _) _
  have F37 : Hid (Sl .u8 W34 (.slice (some ⟨W30.heap.size, 0, none⟩) 1 1) [3]) := by show Sl _ _ _ _; rw [← h35]; exact lit_sl .u8 W30 _ [3] (by simp [maxLen])
  have F38 := Lib.hid (F32.out.below b36)
  have B39 := Lib.hid (B33.out.trans (b36.mono B33.out.size))
  clear F32 B33
  clear b36
  go_wp2_with fail
  clear h35
  refine (bi_or _ _ _ _ _ F38.out F37.out b01 b3 (by simp) (by simp)).mono ?_
  rintro e W40 ⟨v42, rfl, h43, b41⟩
  have F44 := Lib.hid (F38.out.below b41)
  have F45 := Lib.hid (F37.out.below b41)
  have B46 := Lib.hid (B39.out.trans (b41.mono B39.out.size))
  clear F38 F37 B39
  clear b41
  have F47 := Lib.hid h43
  clear h43
  clear F45
  go_wp2_with fail
  refine (bi_all _ _ _ F47.out (or_bytes b01 b3) (by simp [or_length])).mono ?_
  rintro e W48 ⟨v50, rfl, h51, b49⟩
  have F52 := Lib.hid (F44.out.below b49)
  have F53 := Lib.hid (F47.out.below b49)
  have B54 := Lib.hid (B46.out.trans (b49.mono B46.out.size))
  clear F44 F47 B46
  clear b49
  have F55 := Lib.hid (sl_nat h51)
  clear h51
  clear F53
  have F56 := F55
  rw [all3] at F56
  clear F55
  obtain ⟨W57, h58⟩ : ∃ X, W48.alloc (.cells #[.int .i64 0, .int .i64 1, .int .i64 8] 3) = X := ⟨_, rfl⟩
  have b59 : Below W48.heap.size W48 W57 := by rw [← h58]; exact (Below.refl _ _).alloc (Nat.le_refl _) _
  have F60 : Hid (Sl .i64 W57 (.slice (some ⟨W48.heap.size, 0, none⟩) 3 3) [0, 1, 8]) := by show Sl _ _ _ _; rw [← h58]; exact lit_sl .i64 W48 _ [0, 1, 8] (by simp [maxLen])
  have F61 := Lib.hid (F52.out.below b59)
  have F62 := Lib.hid (F56.out.below b59)
  have B63 := Lib.hid (B54.out.trans (b59.mono B54.out.size))
  clear F52 F56 B54
  clear b59
  go_wp2_with fail
  clear h58
  refine (ints_same _ _ _ _ F62.out F60.out).mono ?_
  rintro e W64 ⟨rfl, b65⟩
  have F66 := Lib.hid (F61.out.below b65)
  have F67 := Lib.hid (F62.out.below b65)
  have F68 := Lib.hid (F60.out.below b65)
  have B69 := Lib.hid (B63.out.trans (b65.mono B63.out.size))
  clear F61 F62 F60 B63
  clear b65
  clear F68
  clear F67
  go_wp2_with fail
  refine (bi_good _ _ 9 _ F66.out b01 (by simp)).mono ?_
  rintro e W70 ⟨rfl, b71⟩
  have F72 := Lib.hid (F66.out.below b71)
  have B73 := Lib.hid (B69.out.trans (b71.mono B69.out.size))
  clear F66 B69
  clear b71
  rw [good9]
  go_wp2_with fail
  refine (bi_good _ _ 8 _ F72.out b01 (by simp)).mono ?_
  rintro e W74 ⟨rfl, b75⟩
  have F76 := Lib.hid (F72.out.below b75)
  have B77 := Lib.hid (B73.out.trans (b75.mono B73.out.size))
  clear F72 B73
  clear b75
  rw [good8]
  go_wp2_with fail
  go_ret
  exact ⟨rfl, B77.out⟩
end Go.Proofs.Ythehgpmggnnppaa
