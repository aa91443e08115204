/- Two maps that have been made, side by side. -/
import Derived.Test.YtlpmikbplngmnaaWdW
import Derived.Test.YtlpmikbplngmnaaWdS
namespace Go.Proofs.Ytlpmikbplngmnaa
open Go.RowKit Go.Shelf Go.Lib
set_option linter.unusedVariables false
set_option linter.unusedSimpArgs false
/-- Two things, apart from each other, made since w0. -/
def WP (R S : Res) (w0 W : World) : Prop := ∃ f, Sep R S W f ∧ (∀ k, f k → w0.heap.size ≤ k) ∧ Below w0.heap.size w0 W
section
variable {R R' S S' : Res} {w0 W W' : World} {g : FuncId} {args : Array Value}
theorem WP.bel (h : WP R S w0 W) : Below w0.heap.size w0 W := by obtain ⟨f, -, -, h⟩ := h; exact h
theorem WP.swap (h : WP R S w0 W) : WP S R w0 W := by obtain ⟨f, h1, h2, h3⟩ := h; exact ⟨f, h1.swap, h2, h3⟩
theorem WP.below (hR : IsRes R) (hS : IsRes S) (h : WP R S w0 W) (hb : Below W.heap.size W W') : WP R S w0 W' := by
  obtain ⟨f, h1, h2, h3⟩ := h
  exact ⟨f, (hR.sep hS).below h1 hb, h2, h3.trans (hb.mono h3.size)⟩
set_option maxRecDepth 100000 in
/-- A call that turns the first. -/
theorem WP.first (hR : IsRes R) (hS : IsRes S) (h : WP R S w0 W) {E : Ending → Prop}
    (hc : ∀ f, R W f → Calls Try.prog g args W fun e w' => E e ∧ R' w' f ∧ Turn f f W w') : Calls Try.prog g args W fun e w' => E e ∧ WP R' S w0 w' := by
  obtain ⟨f, h1, h2, h3⟩ := h
  refine (Sep.first (P' := R') (R := fun e _ => E e) hR hS h1 fun f1 hf1 => (hc f1 hf1).mono fun e w' h => ⟨h.1, f1, h.2.1, h.2.2⟩).mono ?_
  rintro e w' ⟨he, f', g1, g2⟩
  refine ⟨he, f', g1, fun k hk => ?_, h3.trans (g2.below h3.size h2)⟩
  rcases g2.new k hk with h' | h'
  · exact h2 k h'
  · exact Nat.le_trans h3.size h'
set_option maxRecDepth 100000 in
theorem WP.second (hR : IsRes R) (hS : IsRes S) (h : WP R S w0 W) {E : Ending → Prop}
    (hc : ∀ f, S W f → Calls Try.prog g args W fun e w' => E e ∧ S' w' f ∧ Turn f f W w') : Calls Try.prog g args W fun e w' => E e ∧ WP R S' w0 w' :=
  (WP.first hS hR h.swap hc).mono fun e w' h => ⟨h.1, h.2.swap⟩
set_option maxRecDepth 100000 in
/-- A call that reads the first. -/
theorem WP.look {Q : Ending → World → Prop} (h : WP R S w0 W) (hc : ∀ f, R W f → Calls Try.prog g args W Q) : Calls Try.prog g args W Q := by
  obtain ⟨f, ⟨f1, f2, h1, -⟩, -⟩ := h
  exact hc f1 h1
set_option maxRecDepth 100000 in
theorem WP.look2 {Q : Ending → World → Prop} (h : WP R S w0 W) (hc : ∀ f, S W f → Calls Try.prog g args W Q) : Calls Try.prog g args W Q := h.swap.look hc
/-- One more is made beside. -/
theorem WP.make {f1 f2 : Nat → Prop} (hR : IsRes R) (h1 : R W f1) (h2 : ∀ k, f1 k → w0.heap.size ≤ k) (h3 : Below w0.heap.size w0 W) (hb : Below W.heap.size W W') (h4 : S W' f2) (h5 : ∀ k, f2 k → W.heap.size ≤ k) : WP R S w0 W' :=
  ⟨_, ⟨f1, f2, hR.below h1 hb, h4, fun k a b => by have := hR.lt h1 k a; have := h5 k b; omega, rfl⟩, fun k hk => by
    rcases hk with hk | hk
    · exact h2 k hk
    · exact Nat.le_trans h3.size (h5 k hk), h3.trans (hb.mono h3.size)⟩
end
/-- Two maps of the program. -/
def W2 (w0 W : World) (p q : WPos) (A B : WM) : Prop := WP (WyD p.P p.SB p.HB p.cap A) (WyD q.P q.SB q.HB q.cap B) w0 W
section
variable {w0 W W' : World} {p q : WPos} {A B : WM}
theorem W2.bel (h : W2 w0 W p q A B) : Below w0.heap.size w0 W := WP.bel h
theorem W2.below (h : W2 w0 W p q A B) (hb : Below W.heap.size W W') : W2 w0 W' p q A B := WP.below (WyG.isRes _ _ _ _ _ _ _ _) (WyG.isRes _ _ _ _ _ _ _ _) h hb
set_option maxRecDepth 100000 in
theorem W2.new (h : WAt w0 W p A) (st wy : Nat) (h1 : 1 ≤ st) (h2 : st ≤ 8) (h3 : 1 ≤ wy) (h4 : wy ≤ 4) :
    Calls Try.prog 9 #[.int .i64 (st : Int), .int .i64 (wy : Int)] W fun e w' => ∃ q : WPos, e = .returned (.tuple #[q.v, .int .i64 0]) ∧ W2 w0 w' p q A (mNew st wy) := by
  obtain ⟨-, f, a1, a2, a3⟩ := h
  exact (wd_newYes st wy h1 h2 h3 h4).mono fun e w' ⟨P, SB, HB, he, ⟨f2, g1, g2⟩, g3⟩ => ⟨⟨P, SB, HB, st * wy⟩, he, WP.make (WyG.isRes _ _ _ _ _ _ _ _) a1 a2 a3 g3 g1 g2⟩
set_option maxRecDepth 100000 in
theorem W2.room1 (h : W2 w0 W p q A B) (ho : WmOk A) (b : Int) (hb : b ≤ 9223372036854775807) : Calls Try.prog 11 #[p.v, .int .i64 b] W fun e w' => e = .returned (opP (mRoom A b).1) ∧ W2 w0 w' p q (mRoom A b).2 B :=
  WP.first (WyG.isRes _ _ _ _ _ _ _ _) (WyG.isRes _ _ _ _ _ _ _ _) h (E := fun e => e = _) fun f hf => WyD.room hf ho b hb
set_option maxRecDepth 100000 in
theorem W2.room2 (h : W2 w0 W p q A B) (ho : WmOk B) (b : Int) (hb : b ≤ 9223372036854775807) : Calls Try.prog 11 #[q.v, .int .i64 b] W fun e w' => e = .returned (opP (mRoom B b).1) ∧ W2 w0 w' p q A (mRoom B b).2 :=
  WP.second (WyG.isRes _ _ _ _ _ _ _ _) (WyG.isRes _ _ _ _ _ _ _ _) h (E := fun e => e = _) fun f hf => WyD.room hf ho b hb
set_option maxRecDepth 100000 in
theorem W2.dirt1 (h : W2 w0 W p q A B) (ho : WmOk A) (b : Int) (hb : b ≤ 9223372036854775807) : Calls Try.prog 19 #[p.v, .int .i64 b] W fun e w' => e = .returned (opP (mDirt A b).1) ∧ W2 w0 w' p q (mDirt A b).2 B :=
  WP.first (WyG.isRes _ _ _ _ _ _ _ _) (WyG.isRes _ _ _ _ _ _ _ _) h (E := fun e => e = _) fun f hf => WyD.dirtiest hf ho b hb
set_option maxRecDepth 100000 in
theorem W2.dirt2 (h : W2 w0 W p q A B) (ho : WmOk B) (b : Int) (hb : b ≤ 9223372036854775807) : Calls Try.prog 19 #[q.v, .int .i64 b] W fun e w' => e = .returned (opP (mDirt B b).1) ∧ W2 w0 w' p q A (mDirt B b).2 :=
  WP.second (WyG.isRes _ _ _ _ _ _ _ _) (WyG.isRes _ _ _ _ _ _ _ _) h (E := fun e => e = _) fun f hf => WyD.dirtiest hf ho b hb
set_option maxRecDepth 100000 in
theorem W2.put1 (h : W2 w0 W p q A B) (ho : WmOk A) (i b : Int) (d : Bool) (hb : b ≤ 9223372036854775807) : Calls Try.prog 13 #[p.v, .int .i64 i, .int .i64 b, .bool d] W fun e w' => e = .returned (.tuple #[]) ∧ W2 w0 w' p q (mPut A i b d) B :=
  WP.first (WyG.isRes _ _ _ _ _ _ _ _) (WyG.isRes _ _ _ _ _ _ _ _) h (E := fun e => e = _) fun f hf => WyD.put hf ho i b d hb
set_option maxRecDepth 100000 in
theorem W2.put2 (h : W2 w0 W p q A B) (ho : WmOk B) (i b : Int) (d : Bool) (hb : b ≤ 9223372036854775807) : Calls Try.prog 13 #[q.v, .int .i64 i, .int .i64 b, .bool d] W fun e w' => e = .returned (.tuple #[]) ∧ W2 w0 w' p q A (mPut B i b d) :=
  WP.second (WyG.isRes _ _ _ _ _ _ _ _) (WyG.isRes _ _ _ _ _ _ _ _) h (E := fun e => e = _) fun f hf => WyD.put hf ho i b d hb
set_option maxRecDepth 100000 in
theorem W2.clean1 (h : W2 w0 W p q A B) (ho : WmOk A) (i : Int) : Calls Try.prog 21 #[p.v, .int .i64 i] W fun e w' => e = .returned (.tuple #[]) ∧ W2 w0 w' p q (mClean A i) B :=
  WP.first (WyG.isRes _ _ _ _ _ _ _ _) (WyG.isRes _ _ _ _ _ _ _ _) h (E := fun e => e = _) fun f hf => WyD.clean hf ho.lens ho.size32 i
set_option maxRecDepth 100000 in
theorem W2.clean2 (h : W2 w0 W p q A B) (ho : WmOk B) (i : Int) : Calls Try.prog 21 #[q.v, .int .i64 i] W fun e w' => e = .returned (.tuple #[]) ∧ W2 w0 w' p q A (mClean B i) :=
  WP.second (WyG.isRes _ _ _ _ _ _ _ _) (WyG.isRes _ _ _ _ _ _ _ _) h (E := fun e => e = _) fun f hf => WyD.clean hf ho.lens ho.size32 i
set_option maxRecDepth 100000 in
theorem W2.block1 (h : W2 w0 W p q A B) (ho : WmOk A) (i : Int) : Calls Try.prog 28 #[p.v, .int .i64 i] W fun e w' => e = .returned (.tuple #[.int .i64 (bkOf A i).1, .bool (bkOf A i).2.1, .bool (bkOf A i).2.2]) ∧ W2 w0 w' p q A B :=
  (WP.look h fun f hf => WyD.block hf ho i).mono fun e w' g => ⟨g.1, h.below g.2⟩
set_option maxRecDepth 100000 in
theorem W2.block2 (h : W2 w0 W p q A B) (ho : WmOk B) (i : Int) : Calls Try.prog 28 #[q.v, .int .i64 i] W fun e w' => e = .returned (.tuple #[.int .i64 (bkOf B i).1, .bool (bkOf B i).2.1, .bool (bkOf B i).2.2]) ∧ W2 w0 w' p q A B :=
  (WP.look2 h fun f hf => WyD.block hf ho i).mono fun e w' g => ⟨g.1, h.below g.2⟩
end
end Go.Proofs.Ytlpmikbplngmnaa
