/- A disk that a statement has made, and what else it has made. -/
import Derived.Test.YtompbjdhdjafgaaCrash
namespace Go.Proofs.Ytompbjdhdjafgaa
open Go.RowKit
set_option linter.unusedVariables false

/-- Since w0 a disk has been made, which holds D; the blocks own are no part of it. -/
def At (w0 W : World) (rb n : Nat) (D : Nat → Sec) (own : Nat → Prop) : Prop :=
  ∃ f, Disk W rb n f D ∧ (∀ k, f k → w0.heap.size ≤ k ∧ ¬ own k) ∧ (∀ k, own k → k < W.heap.size) ∧ Below w0.heap.size w0 W ∧ 0 < n

theorem At.bel {w0 W : World} {rb n : Nat} {D : Nat → Sec} {own : Nat → Prop} (h : At w0 W rb n D own) : Below w0.heap.size w0 W := by obtain ⟨f, h1, h2, h3, h4, h5⟩ := h; exact h4
theorem At.pos {w0 W : World} {rb n : Nat} {D : Nat → Sec} {own : Nat → Prop} (h : At w0 W rb n D own) : 0 < n := by obtain ⟨f, h1, h2, h3, h4, h5⟩ := h; exact h5
theorem At.size {w0 W : World} {rb n : Nat} {D : Nat → Sec} {own : Nat → Prop} (h : At w0 W rb n D own) : w0.heap.size ≤ W.heap.size := h.bel.size

/-- What is made beside it may be owned. -/
theorem At.below {w0 W W' : World} {rb n : Nat} {D : Nat → Sec} {own : Nat → Prop} (h : At w0 W rb n D own) (hb : Below W.heap.size W W') (own' : Nat → Prop) (ho : ∀ k, own' k → own k ∨ (W.heap.size ≤ k ∧ k < W'.heap.size)) : At w0 W' rb n D own' := by
  obtain ⟨f, h1, h2, h3, h4, h5⟩ := h
  refine ⟨f, h1.below h5 hb, fun k hk => ⟨(h2 k hk).1, fun h' => ?_⟩, fun k hk => ?_, h4.trans (hb.mono h4.size), h5⟩
  · rcases ho k h' with h' | ⟨h', _⟩
    · exact (h2 k hk).2 h'
    · have := h1.lt h5 k hk; omega
  · rcases ho k hk with h' | ⟨_, h'⟩
    · exact Nat.lt_of_lt_of_le (h3 k h') hb.size
    · exact h'
theorem At.beside {w0 W W' : World} {rb n : Nat} {D : Nat → Sec} {own : Nat → Prop} (h : At w0 W rb n D own) (hb : Below W.heap.size W W') : At w0 W' rb n D own := h.below hb own fun _ h => .inl h
/-- A cell of what is owned is written. -/
theorem At.own {w0 W : World} {rb n B : Nat} {D : Nat → Sec} {own : Nat → Prop} (h : At w0 W rb n D own) (hB : own B) (hw : w0.heap.size ≤ B) (W' : World) (hb : Below B W W') (hs : ∀ k, k ≠ B → W'.heap[k]? = W.heap[k]?) (hsz : W'.heap.size = W.heap.size) : At w0 W' rb n D own := by
  obtain ⟨f, h1, h2, h3, h4, h5⟩ := h
  exact ⟨f, h1.out (fun k hk => hs k (fun e => (h2 k hk).2 (e ▸ hB))), h2, fun k hk => by rw [hsz]; exact h3 k hk, h4.trans (hb.mono hw), h5⟩

theorem At.turned {w0 W W' : World} {rb n : Nat} {f : Nat → Prop} {D' : Nat → Sec} {own : Nat → Prop} (h2 : ∀ k, f k → w0.heap.size ≤ k ∧ ¬ own k) (h3 : ∀ k, own k → k < W.heap.size) (h4 : Below w0.heap.size w0 W) (h5 : 0 < n)
    (h : ∃ f', Disk W' rb n f' D' ∧ Turn f f' W W') : At w0 W' rb n D' own ∧ ∀ k, own k → W'.heap[k]? = W.heap[k]? := by
  obtain ⟨f', g1, g2⟩ := h
  refine ⟨⟨f', g1, fun k hk => ?_, fun k hk => Nat.lt_of_lt_of_le (h3 k hk) g2.size, h4.trans (g2.below h4.size (fun k hk => (h2 k hk).1)), h5⟩, fun k hk => g2.out k (h3 k hk) (fun h' => (h2 k h').2 hk)⟩
  rcases g2.new k hk with h' | h'
  · exact h2 k h'
  · exact ⟨Nat.le_trans h4.size h', fun ho => by have := h3 k ho; omega⟩

theorem At.new (n : Nat) (w0 w : World) (hb : Below w0.heap.size w0 w) (h1 : 1 ≤ n) (h2 : n ≤ 4096) (own : Nat → Prop) (ho : ∀ k, own k → k < w.heap.size) :
    Calls Try.prog 26 #[.int .i64 (n : Int)] w fun e w' => ∃ rb, e = .returned (.tuple #[.pointer (some ⟨rb, 0, none⟩), .int .i64 0]) ∧ At w0 w' rb n (fun _ => zsec) own ∧ ∀ k, own k → w'.heap[k]? = w.heap[k]? := by
  refine (new_yes n w h1 h2).mono ?_
  rintro e w' ⟨rb, rfl, ⟨f, g1, g2⟩, g3⟩
  exact ⟨rb, rfl, ⟨f, g1, fun k hk => ⟨Nat.le_trans hb.size (g2 k hk), fun h => by have := ho k h; have := g2 k hk; omega⟩, fun k hk => Nat.lt_of_lt_of_le (ho k hk) g3.size, hb.trans (g3.mono hb.size), by omega⟩, fun k hk => g3.block k (ho k hk)⟩

theorem At.write {w0 W : World} {rb n i : Nat} {D : Nat → Sec} {own : Nat → Prop} {b : List Value} (h : At w0 W rb n D own) (hi : i < n) (hb : IsBlk b) (hk : (D i).vs.length ≤ 255) :
    Calls Try.prog 31 #[.pointer (some ⟨rb, 0, none⟩), .int .i64 (i : Int), .agg b.toArray] W fun e w' => e = .returned (.int .i64 0) ∧ At w0 w' rb n (upd D i ((D i).add b)) own ∧ ∀ k, own k → w'.heap[k]? = W.heap[k]? := by
  obtain ⟨f, h1, h2, h3, h4, h5⟩ := h
  refine (write_yes rb n i f D b W h1 hi hb (by omega)).mono ?_
  rintro e w' ⟨rfl, g⟩
  exact ⟨rfl, At.turned h2 h3 h4 h5 g⟩
theorem At.writeNo {w0 W : World} {rb n : Nat} {i : Int} {D : Nat → Sec} {own : Nat → Prop} {b : List Value} (h : At w0 W rb n D own) (hi : ¬ (0 ≤ i ∧ i < (n : Int))) :
    Calls Try.prog 31 #[.pointer (some ⟨rb, 0, none⟩), .int .i64 i, .agg b.toArray] W fun e w' => e = .returned (.int .i64 1) ∧ Below W.heap.size W w' := by
  obtain ⟨f, h1, h2, h3, h4, h5⟩ := h
  exact write_no _ n i b W (fun w' hw => len_at rb n f D w' (h1.below h5 hw)) hi
theorem At.read {w0 W : World} {rb n i : Nat} {D : Nat → Sec} {own : Nat → Prop} (h : At w0 W rb n D own) (hi : i < n) :
    Calls Try.prog 35 #[.pointer (some ⟨rb, 0, none⟩), .int .i64 (i : Int)] W fun e w' => e = .returned (.tuple #[.agg (D i).look.toArray, .int .i64 0]) ∧ Below W.heap.size W w' := by
  obtain ⟨f, h1, h2, h3, h4, h5⟩ := h
  exact read_yes rb n i f D W h1 hi
theorem At.readNo {w0 W : World} {rb n : Nat} {i : Int} {D : Nat → Sec} {own : Nat → Prop} (h : At w0 W rb n D own) (hi : ¬ (0 ≤ i ∧ i < (n : Int))) :
    Calls Try.prog 35 #[.pointer (some ⟨rb, 0, none⟩), .int .i64 i] W fun e w' => e = .returned (.tuple #[.agg (fillB 0).toArray, .int .i64 1]) ∧ Below W.heap.size W w' := by
  obtain ⟨f, h1, h2, h3, h4, h5⟩ := h
  exact read_no _ n i W (fun w' hw => len_at rb n f D w' (h1.below h5 hw)) hi
theorem At.ok {w0 W : World} {rb n i : Nat} {D : Nat → Sec} {own : Nat → Prop} (h : At w0 W rb n D own) (hi : i < n) : (D i).Ok := by
  obtain ⟨f, h1, h2, h3, h4, h5⟩ := h
  exact h1.ok hi
theorem At.len {w0 W : World} {rb n : Nat} {D : Nat → Sec} {own : Nat → Prop} (h : At w0 W rb n D own) :
    Calls Try.prog 42 #[.pointer (some ⟨rb, 0, none⟩)] W fun e w' => e = .returned (.int .i64 (n : Int)) ∧ w' = W := by
  obtain ⟨f, h1, h2, h3, h4, h5⟩ := h
  exact len_at rb n f D W h1
theorem At.flush {w0 W : World} {rb n : Nat} {D : Nat → Sec} {own : Nat → Prop} (h : At w0 W rb n D own) :
    Calls Try.prog 37 #[.pointer (some ⟨rb, 0, none⟩)] W fun e w' => e = .returned (.int .i64 0) ∧ At w0 w' rb n (settled D (fun j => (D j).vs.length) (looseTo D n)) own ∧ ∀ k, own k → w'.heap[k]? = W.heap[k]? := by
  obtain ⟨f, h1, h2, h3, h4, h5⟩ := h
  refine (flush_at rb n f D W h1 h5).mono ?_
  rintro e w' ⟨rfl, g⟩
  exact ⟨rfl, At.turned h2 h3 h4 h5 g⟩
theorem At.crash {w0 W : World} {rb n : Nat} {D : Nat → Sec} {own : Nat → Prop} {v : Value} {bs : List Int} (h : At w0 W rb n D own) (hv : Sl .u8 W v bs) (hB : IsBytes bs) (hc : ∀ b off len cap, v = .slice (some ⟨b, off, none⟩) len cap → b < w0.heap.size ∨ own b) (hl : ∀ i, i < n → (D i).vs.length ≤ 1000000) :
    Calls Try.prog 40 #[.pointer (some ⟨rb, 0, none⟩), v] W fun e w' => e = .returned (.tuple #[]) ∧ At w0 w' rb n (settled D (crashG D bs) (looseTo D n)) own ∧ ∀ k, own k → w'.heap[k]? = W.heap[k]? := by
  obtain ⟨f, h1, h2, h3, h4, h5⟩ := h
  refine (crash_at rb n f D v bs W h1 h5 hv hB (fun _ b off len cap e hf => ?_) hl).mono ?_
  · rcases hc b off len cap e with h' | h'
    · have := (h2 b hf).1; omega
    · exact (h2 b hf).2 h'
  · rintro e w' ⟨rfl, g⟩
    exact ⟨rfl, At.turned h2 h3 h4 h5 g⟩
theorem Sl.same {k : IntKind} {w w' : World} {v : Value} {bs : List Int} (h : Sl k w v bs) (hs : w.heap.size ≤ w'.heap.size) (hb : ∀ b, v.ownBlock = some b → w'.heap[b]? = w.heap[b]?) : Sl k w' v bs := by
  obtain ⟨a, cap, rfl, h1, h2, h3, h4⟩ := h
  refine ⟨a, cap, rfl, h1, h2, ?_, h4⟩
  rcases h3 with h3 | ⟨b, off, rfl, h5, h6⟩
  · exact .inl h3
  · exact .inr ⟨b, off, rfl, Nat.lt_of_lt_of_le h5 hs, fun j hj => (World.cell?_of_block (a := ⟨b, off + j, none⟩) (hb b rfl)).trans (h6 j hj)⟩
/-- A block that holds a block is read. -/
theorem load_at {w : World} {B : Nat} {c : List Value} (h : w.heap[B]? = some (.cells c.toArray 38 (0, 0))) (hc : IsBlk c) : (loadVar 38 ⟨B, 0, none⟩).run Try.prog w = .ok (.agg c.toArray) w :=
  load_blk (fun j x hx => by rw [cell_of_row _ _ _ _ _ _ h]; simpa using hx) hc.length

end Go.Proofs.Ytompbjdhdjafgaa
