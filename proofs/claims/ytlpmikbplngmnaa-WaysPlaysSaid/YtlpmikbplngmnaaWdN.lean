/- The program's map of blocks in slots: a map that nobody made; a map that has been made since. -/
import Derived.Test.YtlpmikbplngmnaaWdG
import Derived.Test.YtlpmikbplngmnaaInts
namespace Go.Proofs.Ytlpmikbplngmnaa
open Go.RowKit Go.Shelf Go.Lib
set_option linter.unusedVariables false
set_option linter.unusedSimpArgs false
variable {P SB HB cap : Nat} {m : WM} {w : World} {f : Nat → Prop}
set_option maxRecDepth 100000 in
set_option maxHeartbeats 1000000 in
theorem nil_put (i b : Int) (d : Bool) : Calls Try.prog 13 #[.pointer none, .int .i64 i, .int .i64 b, .bool d] w fun e w' => e = .returned (.tuple #[]) ∧ w' = w := by
  have H := Lib.hid (wd_contentNil (w := w) i)
  have HS := Lib.hid (WyD.setNo (w := w) b (.pointer none) (.inl rfl))
  go_enter Try.func13, Try.ntmps13
  go_wp2_with fail
  refine H.out.mono ?_
  rintro e w' ⟨rfl, rfl⟩
  go_wp2_with fail
  refine HS.out.mono ?_
  rintro e w' ⟨rfl, rfl⟩
  go_wp2_with fail
  refine bodyPost_ret (results_none rfl _ _ _) rfl ?_
  exact ⟨rfl, rfl⟩
set_option maxRecDepth 100000 in
set_option maxHeartbeats 1000000 in
theorem nil_clean (i : Int) : Calls Try.prog 21 #[.pointer none, .int .i64 i] w fun e w' => e = .returned (.tuple #[]) ∧ w' = w := by
  have H := Lib.hid (wd_contentNil (w := w) i)
  go_enter Try.func21, Try.ntmps21
  go_wp2_with fail
  refine H.out.mono ?_
  rintro e w' ⟨rfl, rfl⟩
  go_wp2_with fail
  go_end0
  exact ⟨rfl, rfl⟩
set_option maxRecDepth 100000 in
set_option maxHeartbeats 1000000 in
theorem nil_drop (i : Int) : Calls Try.prog 23 #[.pointer none, .int .i64 i] w fun e w' => e = .returned (.tuple #[]) ∧ w' = w := by
  have H := Lib.hid (wd_contentNil (w := w) i)
  go_enter Try.func23, Try.ntmps23
  go_wp2_with fail
  refine H.out.mono ?_
  rintro e w' ⟨rfl, rfl⟩
  go_wp2_with fail
  go_end0
  exact ⟨rfl, rfl⟩
set_option maxRecDepth 100000 in
set_option maxHeartbeats 1000000 in
theorem nil_touch (i : Int) : Calls Try.prog 17 #[.pointer none, .int .i64 i] w fun e w' => e = .returned (.tuple #[]) ∧ w' = w := by
  have H := Lib.hid (wd_contentNil (w := w) i)
  go_enter Try.func17, Try.ntmps17
  go_wp2_with fail
  refine H.out.mono ?_
  rintro e w' ⟨rfl, rfl⟩
  go_wp2_with fail
  go_end0
  exact ⟨rfl, rfl⟩
set_option maxRecDepth 100000 in
set_option maxHeartbeats 1000000 in
theorem nil_find (b : Int) : Calls Try.prog 15 #[.pointer none, .int .i64 b] w fun e w' => e = .returned (.tuple #[.int .i64 0, .bool false]) ∧ w' = w := by
  have HS := Lib.hid (WyD.setNo (w := w) b (.pointer none) (.inl rfl))
  go_enter Try.func15, Try.ntmps15
  go_wp2_with fail
  refine HS.out.mono ?_
  rintro e w' ⟨rfl, rfl⟩
  go_wp2_with fail
  go_ret2
  exact ⟨rfl, rfl⟩
set_option maxRecDepth 100000 in
set_option maxHeartbeats 1000000 in
theorem nil_room (b : Int) : Calls Try.prog 11 #[.pointer none, .int .i64 b] w fun e w' => e = .returned (.tuple #[.int .i64 0, .bool false]) ∧ w' = w := by
  have HS := Lib.hid (WyD.setNo (w := w) b (.pointer none) (.inl rfl))
  go_enter Try.func11, Try.ntmps11
  go_wp2_with fail
  refine HS.out.mono ?_
  rintro e w' ⟨rfl, rfl⟩
  go_wp2_with fail
  go_ret2
  exact ⟨rfl, rfl⟩
set_option maxRecDepth 100000 in
set_option maxHeartbeats 1000000 in
theorem nil_dirtiest (b : Int) : Calls Try.prog 19 #[.pointer none, .int .i64 b] w fun e w' => e = .returned (.tuple #[.int .i64 0, .bool false]) ∧ w' = w := by
  have HS := Lib.hid (WyD.setNo (w := w) b (.pointer none) (.inl rfl))
  go_enter Try.func19, Try.ntmps19
  go_wp2_with fail
  refine HS.out.mono ?_
  rintro e w' ⟨rfl, rfl⟩
  go_wp2_with fail
  go_ret2
  exact ⟨rfl, rfl⟩
set_option maxRecDepth 100000 in
set_option maxHeartbeats 1000000 in
theorem nil_block (i : Int) : Calls Try.prog 28 #[.pointer none, .int .i64 i] w fun e w' => e = .returned (.tuple #[.int .i64 0, .bool false, .bool false]) ∧ w' = w := by
  go_enter Try.func28, Try.ntmps28
  go_wp2_with fail
  go_ret3
  exact ⟨rfl, rfl⟩
set_option maxRecDepth 100000 in
set_option maxHeartbeats 1000000 in
theorem nil_dirty : Calls Try.prog 27 #[.pointer none] w fun e w' => e = .returned (.slice none 0 0) ∧ w' = w := by
  go_enter Try.func27, Try.ntmps27
  go_wp2_with fail
  go_ret
  exact ⟨rfl, rfl⟩

def opN : Option Nat → Int
  | some i => (i : Int)
  | none => 0
theorem opP_eq (o : Option Nat) : opP o = .tuple #[.int .i64 (opN o), .bool o.isSome] := by cases o <;> rfl
/-- Where a map lies. -/
structure WPos where
  P : Nat
  SB : Nat
  HB : Nat
  cap : Nat
def WPos.v (q : WPos) : Value := .pointer (some ⟨q.P, 0, none⟩)
/-- A map that the program has made since w0, and that may be. -/
def WAt (w0 W : World) (q : WPos) (m : WM) : Prop := WmOk m ∧ ∃ f, WyD q.P q.SB q.HB q.cap m W f ∧ (∀ k, f k → w0.heap.size ≤ k) ∧ Below w0.heap.size w0 W
section
variable {w0 W W' : World} {q : WPos} {m : WM}
theorem WAt.ok (h : WAt w0 W q m) : WmOk m := h.1
theorem WAt.bel (h : WAt w0 W q m) : Below w0.heap.size w0 W := by obtain ⟨-, f, -, -, h⟩ := h; exact h
theorem WAt.below (h : WAt w0 W q m) (hb : Below W.heap.size W W') : WAt w0 W' q m := by
  obtain ⟨h1, f, h2, h3, h4⟩ := h
  exact ⟨h1, f, (WyD.isRes _ _ _ _ _).below h2 hb, h3, h4.trans (hb.mono h4.size)⟩
theorem WAt.turn {n : WM} {f : Nat → Prop} (hn : WmOk n) (h3 : ∀ k, f k → w0.heap.size ≤ k) (h4 : Below w0.heap.size w0 W) (h : WyD q.P q.SB q.HB q.cap n W' f) (ht : Turn f f W W') : WAt w0 W' q n :=
  ⟨hn, f, h, h3, h4.trans (ht.below h4.size h3)⟩
set_option maxRecDepth 100000 in
theorem WAt.new (hb : Below w0.heap.size w0 W) (st wy : Nat) (h1 : 1 ≤ st) (h2 : st ≤ 8) (h3 : 1 ≤ wy) (h4 : wy ≤ 4) :
    Calls Try.prog 9 #[.int .i64 (st : Int), .int .i64 (wy : Int)] W fun e w' => ∃ q : WPos, e = .returned (.tuple #[q.v, .int .i64 0]) ∧ WAt w0 w' q (mNew st wy) ∧ Below W.heap.size W w' :=
  (wd_newYes st wy h1 h2 h3 h4).mono fun e w' ⟨P, SB, HB, he, ⟨f, g1, g2⟩, g3⟩ => ⟨⟨P, SB, HB, st * wy⟩, he, ⟨new_ok h1 h2 h3 h4, f, g1, fun k hk => Nat.le_trans hb.size (g2 k hk), hb.trans (g3.mono hb.size)⟩, g3⟩
set_option maxRecDepth 100000 in
theorem WAt.room (h : WAt w0 W q m) (b : Int) (hb : b ≤ 9223372036854775807) :
    Calls Try.prog 11 #[q.v, .int .i64 b] W fun e w' => e = .returned (opP (mRoom m b).1) ∧ WAt w0 w' q (mRoom m b).2 := by
  obtain ⟨h1, f, h2, h3, h4⟩ := h
  exact (h2.room h1 b hb).mono fun e w' ⟨he, g1, g2⟩ => ⟨he, WAt.turn (h1.room b) h3 h4 g1 g2⟩
set_option maxRecDepth 100000 in
theorem WAt.dirtiest (h : WAt w0 W q m) (b : Int) (hb : b ≤ 9223372036854775807) :
    Calls Try.prog 19 #[q.v, .int .i64 b] W fun e w' => e = .returned (opP (mDirt m b).1) ∧ WAt w0 w' q (mDirt m b).2 := by
  obtain ⟨h1, f, h2, h3, h4⟩ := h
  exact (h2.dirtiest h1 b hb).mono fun e w' ⟨he, g1, g2⟩ => ⟨he, WAt.turn (h1.dirt b) h3 h4 g1 g2⟩
set_option maxRecDepth 100000 in
theorem WAt.find (h : WAt w0 W q m) (b : Int) (hb : b ≤ 9223372036854775807) :
    Calls Try.prog 15 #[q.v, .int .i64 b] W fun e w' => e = .returned (opP (mFind m b)) ∧ WAt w0 w' q m := by
  obtain ⟨h1, f, h2, h3, h4⟩ := h
  exact (h2.find h1 b hb).mono fun e w' ⟨he, g1⟩ => ⟨he, by subst g1; exact ⟨h1, f, h2, h3, h4⟩⟩
set_option maxRecDepth 100000 in
theorem WAt.put (h : WAt w0 W q m) (i b : Int) (d : Bool) (hb : b ≤ 9223372036854775807) :
    Calls Try.prog 13 #[q.v, .int .i64 i, .int .i64 b, .bool d] W fun e w' => e = .returned (.tuple #[]) ∧ WAt w0 w' q (mPut m i b d) := by
  obtain ⟨h1, f, h2, h3, h4⟩ := h
  exact (h2.put h1 i b d hb).mono fun e w' ⟨he, g1, g2⟩ => ⟨he, WAt.turn (h1.put i b d) h3 h4 g1 g2⟩
set_option maxRecDepth 100000 in
theorem WAt.clean (h : WAt w0 W q m) (i : Int) :
    Calls Try.prog 21 #[q.v, .int .i64 i] W fun e w' => e = .returned (.tuple #[]) ∧ WAt w0 w' q (mClean m i) := by
  obtain ⟨h1, f, h2, h3, h4⟩ := h
  exact (h2.clean h1.lens h1.size32 i).mono fun e w' ⟨he, g1, g2⟩ => ⟨he, WAt.turn (h1.clean i) h3 h4 g1 g2⟩
set_option maxRecDepth 100000 in
theorem WAt.drop (h : WAt w0 W q m) (i : Int) :
    Calls Try.prog 23 #[q.v, .int .i64 i] W fun e w' => e = .returned (.tuple #[]) ∧ WAt w0 w' q (mDrop m i) := by
  obtain ⟨h1, f, h2, h3, h4⟩ := h
  exact (h2.drop h1.lens h1.size32 i).mono fun e w' ⟨he, g1, g2⟩ => ⟨he, WAt.turn (h1.drop i) h3 h4 g1 g2⟩
set_option maxRecDepth 100000 in
theorem WAt.touch (h : WAt w0 W q m) (i : Int) :
    Calls Try.prog 17 #[q.v, .int .i64 i] W fun e w' => e = .returned (.tuple #[]) ∧ WAt w0 w' q (mTouch m i) := by
  obtain ⟨h1, f, h2, h3, h4⟩ := h
  exact (h2.touch h1 i).mono fun e w' ⟨he, g1, g2⟩ => ⟨he, WAt.turn (h1.touch i) h3 h4 g1 g2⟩
set_option maxRecDepth 100000 in
theorem WAt.block (h : WAt w0 W q m) (i : Int) :
    Calls Try.prog 28 #[q.v, .int .i64 i] W fun e w' => e = .returned (.tuple #[.int .i64 (bkOf m i).1, .bool (bkOf m i).2.1, .bool (bkOf m i).2.2]) ∧ WAt w0 w' q m ∧ Below W.heap.size W w' := by
  have h0 := h
  obtain ⟨h1, f, h2, h3, h4⟩ := h
  exact (h2.block h1 i).mono fun e w' ⟨he, g1⟩ => ⟨he, h0.below g1, g1⟩
set_option maxRecDepth 100000 in
theorem WAt.dirty (h : WAt w0 W q m) :
    Calls Try.prog 27 #[q.v] W fun e w' => ∃ u, e = .returned u ∧ Sl .i64 w' u (mDirty m) ∧ WAt w0 w' q m ∧ Below W.heap.size W w' := by
  have h0 := h
  obtain ⟨h1, f, h2, h3, h4⟩ := h
  exact (h2.dirty h1).mono fun e w' ⟨u, he, g1, g2⟩ => ⟨u, he, sl_own g1, h0.below g2, g2⟩
end
end Go.Proofs.Ytlpmikbplngmnaa
