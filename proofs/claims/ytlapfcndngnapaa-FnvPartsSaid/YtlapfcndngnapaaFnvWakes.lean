/- The guard that every statement on fnv ends with; the helper that brings a number into a range. -/
import Derived.Test.YtlapfcndngnapaaFnv
import Derived.Lib.SlBytesConst
import Derived.Lib.SmallJoins
namespace Go.Proofs.Ytlapfcndngnapaa
open Go.RowKit Go.Shelf
set_option linter.unusedVariables false

theorem bytes_nil : IsBytes [] := fun j => by simp
theorem bytes_a : IsBytes [97] := by
  intro j
  match j with
  | 0 => decide
  | j + 1 => simp
theorem check_nil : fnvMore fnvInit [] = 14695981039346656037 := rfl
theorem check_a : fnvMore fnvInit [97] = 12638187200555641996 := by decide +kernel

/-- A literal's row leads to its bytes, marked or not. -/
theorem sl_marked (w : World) (xs : List Int) (fr : Nat × Nat) (n : Nat) (hn : xs.length = n) (hm : n ≤ maxLen) : Sl .u8 (w.alloc (.cells (xs.map (Value.int .u8)).toArray 5 fr)) (.slice (some ⟨w.heap.size, 0, none⟩) n n) xs := by
  subst hn
  refine Sl.at (off := 0) (Nat.le_refl _) hm (by simp) fun j hj => ?_
  rw [World.cell?_alloc_mark]
  simp [hj]

set_option maxRecDepth 100000 in
set_option maxHeartbeats 2000000 in
theorem wakes_any (w : World) : Calls Try.prog 7 #[] w fun e w' => e = .returned (.bool true) ∧ Below w.heap.size w w' := by
  have kc := fun (w : World) (C : Array Value) (n c : Nat) => Lib.run_convert_bytes_const (P := Try.prog) w 23 5 C n c Try.underlying23 Try.underlying5
  have ha : ∀ W : World, Calls Try.prog 8 #[.slice (some ⟨W.heap.size, 0, none⟩) 1 1] (W.alloc (.cells #[.int .u8 97] 5 (1, 1 + 1))) fun e w' => e = .returned (.int .u64 12638187200555641996) ∧ Below W.heap.size W w' := by
    intro W
    have := check_any (.slice (some ⟨W.heap.size, 0, none⟩) 1 1) [97] _ (sl_marked W [97] (1, 1 + 1) 1 rfl (by decide)) bytes_a
    rw [check_a] at this
    exact this.mono fun e w' ⟨h1, h2⟩ => ⟨h1, ((Below.refl _ W).alloc (Nat.le_refl _) _).trans (h2.mono (by simp))⟩
  have hm : ∀ W : World, Calls Try.prog 10 #[.int .u64 14695981039346656037, .slice (some ⟨W.heap.size, 0, none⟩) 1 1] (W.alloc (.cells #[.int .u8 97] 5 (1, 1 + 1))) fun e w' => e = .returned (.int .u64 12638187200555641996) ∧ Below W.heap.size W w' := by
    intro W
    have := more_any fnvInit (.slice (some ⟨W.heap.size, 0, none⟩) 1 1) [97] _ isU64_init (sl_marked W [97] (1, 1 + 1) 1 rfl (by decide)) bytes_a
    rw [check_a] at this
    exact this.mono fun e w' ⟨h1, h2⟩ => ⟨h1, ((Below.refl _ W).alloc (Nat.le_refl _) _).trans (h2.mono (by simp))⟩
  have hn : ∀ W : World, Calls Try.prog 8 #[.slice none 0 0] W fun e w' => e = .returned (.int .u64 14695981039346656037) ∧ Below W.heap.size W w' := fun W => check_any _ [] W (Sl.nil _ _) bytes_nil
  have HN := Lib.hid hn
  have HA := Lib.hid ha
  have HM := Lib.hid hm
  clear hn ha hm
  go_enter Try.func7, Try.ntmps7
  go_wp2_with fail
  refine (HN.out _).mono ?_
  rintro e w1 ⟨rfl, hB⟩
  have HB1 := Lib.hid hB
  clear hB
  go_wp2_with fail
  refine (HA.out _).mono ?_
  rintro e w2 ⟨rfl, hB⟩
  have HB2 : Hid (Below w.heap.size w w2) := HB1.out.trans (hB.mono HB1.out.size)
  clear hB HB1
  go_wp2_with fail
  refine (HN.out _).mono ?_
  rintro e w3 ⟨rfl, hB⟩
  have HB3 : Hid (Below w.heap.size w w3) := HB2.out.trans (hB.mono HB2.out.size)
  clear hB HB2
  go_wp2_with fail
  refine (HM.out _).mono ?_
  rintro e w4 ⟨rfl, hB⟩
  have HB4 : Hid (Below w.heap.size w w4) := HB3.out.trans (hB.mono HB3.out.size)
  clear hB HB3
  go_wp2_with fail
  refine (HA.out _).mono ?_
  rintro e w5 ⟨rfl, hB⟩
  have HB5 : Hid (Below w.heap.size w w5) := HB4.out.trans (hB.mono HB4.out.size)
  clear hB HB4
  go_wp2_with fail
  go_ret
  exact ⟨rfl, HB5.out⟩
end Go.Proofs.Ytlapfcndngnapaa
