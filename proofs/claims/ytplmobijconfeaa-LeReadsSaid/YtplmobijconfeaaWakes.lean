/- The guard that every statement on le ends with holds: a few calls at fixed bytes. -/
import Derived.Test.YtplmobijconfeaaRef
namespace Go.Proofs.Ytplmobijconfeaa
open Go.RowKit Go.Shelf
set_option linter.unusedVariables false

theorem sl_new {W : World} {g : Nat} {xs : List Int} (h : W.heap[g]? = some (.cells (xs.map (Value.int .u8)).toArray 5 (0, 0))) (hm : xs.length ≤ maxLen) :
    Sl .u8 W (.slice (some ⟨g, 0, none⟩) xs.length xs.length) xs := by
  refine Sl.at (off := 0) (Nat.le_refl _) hm (Array.getElem?_eq_some_iff.1 h).1 fun j hj => ?_
  rw [cell_of_row _ _ _ _ _ _ h]
  simp [hj]

theorem row_new (w : World) (xs : List Int) : (w.alloc (.cells (xs.map (Value.int .u8)).toArray 5)).heap[w.heap.size]? = some (.cells (xs.map (Value.int .u8)).toArray 5 (0, 0)) := World.alloc_heap_new w _

theorem bytes4 : IsBytes [2, 1, 9, 9] := by
  intro j
  match j with
  | 0 => decide
  | 1 => decide
  | 2 => decide
  | 3 => decide
  | j + 4 => simp

theorem bytes2 : IsBytes [0, 1] := by
  intro j
  match j with
  | 0 => decide
  | 1 => decide
  | j + 2 => simp

set_option maxRecDepth 100000 in
set_option maxHeartbeats 2000000 in
theorem wakes_any (w : World) : Calls Try.prog 8 #[] w fun e w' => e = .returned (.bool true) ∧ Below w.heap.size w w' := by
  go_enter Try.func8, Try.ntmps8
  go_wp2_with fail
  refine (newReader_any (.slice (some ⟨w.heap.size, 0, none⟩) 4 4) [2, 1, 9, 9] (w.alloc (.cells #[.int .u8 2, .int .u8 1, .int .u8 9, .int .u8 9] 5)) (sl_new (row_new w [2, 1, 9, 9]) (by decide)) (by decide)).mono ?_
  rintro e w1 ⟨rb, rfl, hrb, hR, hB⟩
  have HR := Lib.hid hR
  have HB : Hid (Below w.heap.size w w1) := ((Below.refl _ w).alloc (Nat.le_refl _) _).trans (hB.mono (by simp))
  have Hrb : Hid (w.heap.size < rb) := Nat.lt_of_succ_lt (by simpa using hrb)
  clear hR hB hrb
  go_wp2_with fail
  have hn := num_yes rb [2, 1, 9, 9] 2 w1 HR.out bytes4 (by decide)
  rw [show getL (List.take 2 [2, 1, 9, 9]) = 258 from by decide] at hn
  refine hn.mono ?_
  clear hn
  rintro e w2 ⟨rfl, hR, hg⟩
  have HR2 : Hid (Rdr w2 w1.heap.size rb [9, 9]) := hR
  have HB2 : Hid (Below w.heap.size w w2) := HB.out.grown hg HB.out.size (fun k e => by cases e; exact Nat.le_of_lt Hrb.out)
  clear hR hg HR HB
  go_wp2_with fail
  refine (take_yes rb [9, 9] 1 w2 HR2.out (by decide) (by decide)).mono ?_
  rintro e w3 ⟨g, rfl, hgs, hrow, hR, hg⟩
  have HR3 : Hid (Rdr w3 w1.heap.size rb [9]) := hR
  have HB3 : Hid (Below w.heap.size w w3) := HB2.out.grown hg HB2.out.size (fun k e => by cases e; exact Nat.le_of_lt Hrb.out)
  have HW : Hid (w3.heap[g]? = some (.cells #[.int .u8 9] 5 (0, 0))) := hrow
  have HS : Hid (w.heap.size ≤ g) := Nat.le_trans HB2.out.size hgs
  clear hR hg hrow hgs HR2 HB2
  go_wp2_with fail
  refine (take_no rb [9] 2 w3 HR3.out (.inr (by decide))).mono ?_
  rintro e w' ⟨rfl, rfl⟩
  go_wp2_with fail
  refine (put_any 258 3 w' (by decide) (by decide)).mono ?_
  rintro e w4 ⟨v, rfl, ho, hB⟩
  have HV : Hid (Sl .u8 w4 v [2, 1, 0]) := Sl.of_owns (bs := [2, 1, 0]) ho
  have HW4 : Hid (w4.heap[g]? = some (.cells #[.int .u8 9] 5 (0, 0))) := (hB.block g (Array.getElem?_eq_some_iff.1 HW.out).1).trans HW.out
  have HR4 : Hid (Rdr w4 w1.heap.size rb [9]) := HR3.out.below (grown_below hB none)
  have HB4 : Hid (Below w.heap.size w w4) := HB3.out.trans (hB.mono HB3.out.size)
  clear ho hB HW HR3 HB3
  go_wp2_with fail
  refine (bytes_yes v _ [2, 1, 0] _ (HV.out.below ((Below.refl _ _).alloc (Nat.le_refl _) _)) (sl_new (row_new w4 [2, 1, 0]) (by decide))).mono ?_
  rintro e w' ⟨rfl, rfl⟩
  have HW5 : Hid ((w4.alloc (.cells #[.int .u8 2, .int .u8 1, .int .u8 0] 5)).heap[g]? = some (.cells #[.int .u8 9] 5 (0, 0))) := (Below.heap_alloc w4 _ g (Array.getElem?_eq_some_iff.1 HW4.out).1).trans HW4.out
  have HR5 : Hid (Rdr (w4.alloc (.cells #[.int .u8 2, .int .u8 1, .int .u8 0] 5)) w1.heap.size rb [9]) := HR4.out.below (World.grownBy_alloc w4 _ none)
  have HB5 : Hid (Below w.heap.size w (w4.alloc (.cells #[.int .u8 2, .int .u8 1, .int .u8 0] 5))) := HB4.out.alloc HB4.out.size _
  clear HV HW4 HR4 HB4
  have hrow := row_new (w4.alloc (.cells #[.int .u8 2, .int .u8 1, .int .u8 0] 5)) [0, 1]
  rw [World.size_alloc] at hrow
  have HQ := Lib.hid hrow
  clear hrow
  go_wp2_with fail
  have hg := get_any (.slice (some ⟨w4.heap.size + 1, 0, none⟩) 2 2) [0, 1] _ (sl_new HQ.out (by decide)) bytes2
  rw [show getL [0, 1] = 256 from by decide] at hg
  refine hg.mono ?_
  clear hg
  rintro e w6 ⟨rfl, hB⟩
  have hlt : (w4.alloc (.cells #[.int .u8 2, .int .u8 1, .int .u8 0] 5)).heap.size ≤ ((w4.alloc (.cells #[.int .u8 2, .int .u8 1, .int .u8 0] 5)).alloc (.cells #[.int .u8 0, .int .u8 1] 5)).heap.size := by simp
  have hB1 : Below (w4.alloc (.cells #[.int .u8 2, .int .u8 1, .int .u8 0] 5)).heap.size (w4.alloc (.cells #[.int .u8 2, .int .u8 1, .int .u8 0] 5)) w6 :=
    ((Below.refl _ _).alloc (Nat.le_refl _) _).trans (hB.mono hlt)
  have HR6 : Hid (Rdr w6 w1.heap.size rb [9]) := HR5.out.below (grown_below hB1 none)
  have HB6 : Hid (Below w.heap.size w w6) := HB5.out.trans (hB1.mono HB5.out.size)
  have hrow6 : w6.heap[g]? = some (.cells #[.int .u8 9] 5 (0, 0)) := (hB1.block g (Array.getElem?_eq_some_iff.1 HW5.out).1).trans HW5.out
  have c9 : w6.cell? ⟨g, 0, none⟩ = some (.int .u8 9) := by rw [cell_of_row _ _ _ _ _ _ hrow6]; rfl
  clear hB hB1 hlt hrow6 HR5 HB5 HW5 HQ
  go_wp2_with fail
  obtain ⟨b, off, cap, h0, h1, h2, h3, h4, h5⟩ := HR6.out
  refine (left_at rb b off _ cap w6 h0).mono ?_
  clear h0 h1 h2 h3 h4 h5
  rintro e w' ⟨rfl, rfl⟩
  go_wp2_with fail
  go_ret
  exact ⟨rfl, HB6.out⟩
end Go.Proofs.Ytplmobijconfeaa
