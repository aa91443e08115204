/- The disk and the document's own one, side by side. -/
import Derived.Test.YtagieoomekmjcaaRefCr
import Derived.Test.YtagieoomekmjcaaAt
namespace Go.Proofs.Ytagieoomekmjcaa
open Go.RowKit
set_option linter.unusedVariables false

/-- Since w0 both have been made, apart from each other, and from the blocks E; they hold D1 and D2. -/
def Both (w0 W : World) (rb rq n : Nat) (D1 D2 : Nat → Sec) (E : Nat → Prop) : Prop := ∃ f, At w0 W rb n D1 (fun k => f k ∨ E k) ∧ Ref W rq n f D2 ∧ ∀ k, f k → w0.heap.size ≤ k ∧ ¬ E k

section
variable {w0 W : World} {rb rq n : Nat} {D1 D2 : Nat → Sec} {E : Nat → Prop}

theorem Both.bel (h : Both w0 W rb rq n D1 D2 E) : Below w0.heap.size w0 W := by obtain ⟨f, h1, h2, h3⟩ := h; exact h1.bel
theorem Both.pos (h : Both w0 W rb rq n D1 D2 E) : 0 < n := by obtain ⟨f, h1, h2, h3⟩ := h; exact h1.pos
theorem Both.has_lt (h : Both w0 W rb rq n D1 D2 E) {k : Nat} (hk : E k) : k < W.heap.size := by obtain ⟨f, ⟨f1, a1, a2, a3, a4, a5⟩, h2, h3⟩ := h; exact a3 k (.inr hk)
theorem Both.with {W' : World} (h : Both w0 W rb rq n D1 D2 E) (hb : Below W.heap.size W W') (E' : Nat → Prop) (hE : ∀ k, E' k → E k ∨ (W.heap.size ≤ k ∧ k < W'.heap.size)) : Both w0 W' rb rq n D1 D2 E' := by
  obtain ⟨f, h1, h2, h3⟩ := h
  refine ⟨f, h1.below hb _ (fun k hk => ?_), h2.below h1.pos hb, fun k hk => ⟨(h3 k hk).1, fun h' => ?_⟩⟩
  · rcases hk with hk | hk
    · exact .inl (.inl hk)
    · exact (hE k hk).imp .inr id
  · rcases hE k h' with h' | h'
    · exact (h3 k hk).2 h'
    · have := h2.lt h1.pos k hk; omega
theorem Both.beside {W' : World} (h : Both w0 W rb rq n D1 D2 E) (hb : Below W.heap.size W W') : Both w0 W' rb rq n D1 D2 E := h.with hb E fun _ hk => .inl hk
theorem Both.turned {W' : World} {D2' : Nat → Sec} {f : Nat → Prop} (h1 : At w0 W rb n D1 (fun k => f k ∨ E k)) (h3 : ∀ k, f k → w0.heap.size ≤ k ∧ ¬ E k) (h : ∃ f', Ref W' rq n f' D2' ∧ Turn f f' W W') : Both w0 W' rb rq n D1 D2' E ∧ ∀ k, E k → W'.heap[k]? = W.heap[k]? := by
  obtain ⟨f', g1, g2⟩ := h
  obtain ⟨f1, a1, a2, a3, a4, a5⟩ := h1
  refine ⟨⟨f', ⟨f1, a1.out (fun k hk => g2.out k (a1.lt a5 k hk) (fun h' => (a2 k hk).2 (.inl h'))), fun k hk => ⟨(a2 k hk).1, fun h' => ?_⟩, fun k hk => ?_, a4.trans (g2.below a4.size (fun k hk => (h3 k hk).1)), a5⟩, g1, fun k hk => ?_⟩, fun k hk => g2.out k (a3 k (.inr hk)) (fun h' => (h3 k h').2 hk)⟩
  · rcases h' with h' | h'
    · rcases g2.new k h' with h' | h'
      · exact (a2 k hk).2 (.inl h')
      · have := a1.lt a5 k hk; omega
    · exact (a2 k hk).2 (.inr h')
  · rcases hk with hk | hk
    · exact g1.lt a5 k hk
    · exact Nat.lt_of_lt_of_le (a3 k (.inr hk)) g2.size
  · rcases g2.new k hk with h' | h'
    · exact h3 k h'
    · exact ⟨Nat.le_trans a4.size h', fun he => by have := a3 k (.inr he); omega⟩
theorem Both.own {W' : World} {D1' : Nat → Sec} {f : Nat → Prop} (h2 : Ref W rq n f D2) (h3 : ∀ k, f k → w0.heap.size ≤ k ∧ ¬ E k) (h : At w0 W' rb n D1' (fun k => f k ∨ E k) ∧ ∀ k, f k ∨ E k → W'.heap[k]? = W.heap[k]?) : Both w0 W' rb rq n D1' D2 E ∧ ∀ k, E k → W'.heap[k]? = W.heap[k]? :=
  ⟨⟨f, h.1, h2.out (fun k hk => h.2 k (.inl hk)), h3⟩, fun k hk => h.2 k (.inr hk)⟩

theorem Both.write {i : Nat} {b : List Value} (h : Both w0 W rb rq n D1 D2 E) (hi : i < n) (hb : IsBlk b) (hk : (D1 i).vs.length ≤ 255) :
    Calls Try.prog 12 #[.pointer (some ⟨rb, 0, none⟩), .int .i64 (i : Int), .agg b.toArray] W fun e w' => e = .returned (.int .i64 0) ∧ Both w0 w' rb rq n (upd D1 i ((D1 i).add b)) D2 E ∧ ∀ k, E k → w'.heap[k]? = W.heap[k]? := by
  obtain ⟨f, h1, h2, h3⟩ := h
  refine (h1.write hi hb hk).mono ?_
  rintro e w' ⟨rfl, g⟩
  exact ⟨rfl, Both.own h2 h3 g⟩
theorem Both.writeNo {i : Int} {b : List Value} (h : Both w0 W rb rq n D1 D2 E) (hi : ¬ (0 ≤ i ∧ i < (n : Int))) :
    Calls Try.prog 12 #[.pointer (some ⟨rb, 0, none⟩), .int .i64 i, .agg b.toArray] W fun e w' => e = .returned (.int .i64 1) ∧ Both w0 w' rb rq n D1 D2 E ∧ ∀ k, E k → w'.heap[k]? = W.heap[k]? := by
  have h' := h
  obtain ⟨f, h1, h2, h3⟩ := h
  refine (h1.writeNo hi).mono ?_
  rintro e w' ⟨rfl, g⟩
  exact ⟨rfl, h'.beside g, fun k hk => g.block k (h'.has_lt hk)⟩
theorem Both.read {i : Nat} (h : Both w0 W rb rq n D1 D2 E) (hi : i < n) :
    Calls Try.prog 16 #[.pointer (some ⟨rb, 0, none⟩), .int .i64 (i : Int)] W fun e w' => e = .returned (.tuple #[.agg (D1 i).look.toArray, .int .i64 0]) ∧ Below W.heap.size W w' := by
  obtain ⟨f, h1, h2, h3⟩ := h
  exact h1.read hi
theorem Both.readNo {i : Int} (h : Both w0 W rb rq n D1 D2 E) (hi : ¬ (0 ≤ i ∧ i < (n : Int))) :
    Calls Try.prog 16 #[.pointer (some ⟨rb, 0, none⟩), .int .i64 i] W fun e w' => e = .returned (.tuple #[.agg (fillB 0).toArray, .int .i64 1]) ∧ Below W.heap.size W w' := by
  obtain ⟨f, h1, h2, h3⟩ := h
  exact h1.readNo hi
theorem Both.ok {i : Nat} (h : Both w0 W rb rq n D1 D2 E) (hi : i < n) : (D1 i).Ok := by obtain ⟨f, h1, h2, h3⟩ := h; exact h1.ok hi
theorem Both.flush (h : Both w0 W rb rq n D1 D2 E) :
    Calls Try.prog 18 #[.pointer (some ⟨rb, 0, none⟩)] W fun e w' => e = .returned (.int .i64 0) ∧ Both w0 w' rb rq n (flTo D1 n) D2 E ∧ ∀ k, E k → w'.heap[k]? = W.heap[k]? := by
  obtain ⟨f, h1, h2, h3⟩ := h
  refine h1.flush.mono ?_
  rintro e w' ⟨rfl, g⟩
  rw [flTo_settled] at g
  exact ⟨rfl, Both.own h2 h3 g⟩
theorem Both.crash {W' : World} {v : Value} {bs : List Int} (h : Both w0 W rb rq n D1 D2 E) (hb : Below W.heap.size W W') (hv : Sl .u8 W' v bs) (hB : IsBytes bs) (hnew : ∀ k, v.ownBlock = some k → W.heap.size ≤ k ∧ k < W'.heap.size) (hl : ∀ i, i < n → (D1 i).vs.length ≤ 1000000) :
    Calls Try.prog 20 #[.pointer (some ⟨rb, 0, none⟩), v] W' fun e w' => e = .returned (.tuple #[]) ∧ Both w0 w' rb rq n (settled D1 (crashG D1 bs) (looseTo D1 n)) D2 E ∧ ∀ k, E k → w'.heap[k]? = W.heap[k]? := by
  have hlt : ∀ k, E k → k < W.heap.size := fun k hk => h.has_lt hk
  obtain ⟨f, h1, h2, h3⟩ := h
  have hA := h1.below hb (fun k => (f k ∨ E k) ∨ (W.heap.size ≤ k ∧ k < W'.heap.size)) (fun k hk => hk)
  refine (hA.crash hv hB (fun b off len cap e => .inr (.inr (hnew b (by rw [e]; rfl)))) hl).mono ?_
  rintro e w' ⟨rfl, ⟨f1, a1, a2, a3, a4, a5⟩, g2⟩
  exact ⟨rfl, ⟨f, ⟨f1, a1, fun k hk => ⟨(a2 k hk).1, fun h' => (a2 k hk).2 (.inl h')⟩, fun k hk => a3 k (.inl hk), a4, a5⟩, (h2.below a5 hb).out (fun k hk => g2 k (.inl (.inl hk))), h3⟩, fun k hk => (g2 k (.inl (.inr hk))).trans (hb.block k (hlt k hk))⟩
theorem Both.loose (h : Both w0 W rb rq n D1 D2 E) :
    Calls Try.prog 23 #[.pointer (some ⟨rb, 0, none⟩)] W fun e w' => ∃ v, e = .returned v ∧ Sl .i64 w' v ((looseTo D1 n).map fun i : Nat => (i : Int)) ∧ Below W.heap.size W w' := by
  obtain ⟨f, h1, h2, h3⟩ := h
  refine h1.loose.mono ?_
  rintro e w' ⟨v, rfl, g1, g2, -⟩
  exact ⟨v, rfl, sl_own (bs := (looseTo D1 n).map fun i : Nat => (i : Int)) (by rw [List.map_map]; exact g1), g2⟩
theorem Both.len (h : Both w0 W rb rq n D1 D2 E) :
    Calls Try.prog 25 #[.pointer (some ⟨rb, 0, none⟩)] W fun e w' => e = .returned (.int .i64 (n : Int)) ∧ w' = W := by
  obtain ⟨f, h1, h2, h3⟩ := h
  exact h1.len
theorem Both.has (h : Both w0 W rb rq n D1 D2 E) (i : Int) :
    Calls Try.prog 14 #[.pointer (some ⟨rq, 0, none⟩), .int .i64 i] W fun e w' => e = .returned (.bool (decide (0 ≤ i ∧ i < (n : Int)))) ∧ w' = W := by
  obtain ⟨f, h1, h2, h3⟩ := h
  exact refHas rq n f D2 i W h2
theorem Both.read2 {i : Nat} (h : Both w0 W rb rq n D1 D2 E) (hi : i < n) :
    Calls Try.prog 17 #[.pointer (some ⟨rq, 0, none⟩), .int .i64 (i : Int)] W fun e w' => e = .returned (.agg (D2 i).look.toArray) ∧ Below W.heap.size W w' := by
  obtain ⟨f, h1, h2, h3⟩ := h
  exact refRead rq n i f D2 W h2 hi
theorem Both.write2 {i : Nat} {b : List Value} (h : Both w0 W rb rq n D1 D2 E) (hi : i < n) (hb : IsBlk b) (hk : (D2 i).vs.length ≤ 255) :
    Calls Try.prog 15 #[.pointer (some ⟨rq, 0, none⟩), .int .i64 (i : Int), .agg b.toArray] W fun e w' => e = .returned (.tuple #[]) ∧ Both w0 w' rb rq n D1 (upd D2 i ((D2 i).add b)) E ∧ ∀ k, E k → w'.heap[k]? = W.heap[k]? := by
  obtain ⟨f, h1, h2, h3⟩ := h
  refine (refWrite rq n i f D2 b W h2 hi hb (by omega)).mono ?_
  rintro e w' ⟨rfl, g⟩
  refine ⟨rfl, Both.turned h1 h3 ?_⟩
  rw [show (D2 i).add b = ⟨(D2 i).c, (D2 i).vs ++ [b]⟩ by unfold Sec.add; rw [if_neg (by omega)]]
  exact g
theorem Both.flush2 (h : Both w0 W rb rq n D1 D2 E) :
    Calls Try.prog 19 #[.pointer (some ⟨rq, 0, none⟩)] W fun e w' => e = .returned (.tuple #[]) ∧ Both w0 w' rb rq n D1 (flTo D2 n) E ∧ ∀ k, E k → w'.heap[k]? = W.heap[k]? := by
  obtain ⟨f, h1, h2, h3⟩ := h
  refine (refFlush rq n f D2 W h2).mono ?_
  rintro e w' ⟨rfl, g⟩
  exact ⟨rfl, Both.turned h1 h3 g⟩
theorem Both.crash2 {v : Value} {bs : List Int} (h : Both w0 W rb rq n D1 D2 E) (hv : Sl .u8 w0 v bs) (hB : IsBytes bs) (hl : ∀ i, i < n → (D2 i).vs.length ≤ 1000000) :
    Calls Try.prog 21 #[.pointer (some ⟨rq, 0, none⟩), v] W fun e w' => e = .returned (.tuple #[]) ∧ Both w0 w' rb rq n D1 (settled D2 (crashG D2 bs) (looseTo D2 n)) E ∧ ∀ k, E k → w'.heap[k]? = W.heap[k]? := by
  have hb := h.bel
  obtain ⟨f, h1, h2, h3⟩ := h
  refine (refCrash rq n f D2 v bs W h2 h1.pos (hv.below hb) hB (fun hne b off len cap e hf => ?_) hl).mono ?_
  · obtain ⟨a, cap', e', _, _, g, _⟩ := hv
    rw [e] at e'
    simp only [Value.slice.injEq] at e'
    obtain ⟨rfl, _, _⟩ := e'
    rcases g with g | ⟨b', off', g1, g2, _⟩
    · exact hne g
    · cases g1
      have := (h3 b hf).1
      omega
  · rintro e w' ⟨rfl, g⟩
    exact ⟨rfl, Both.turned h1 h3 g⟩
theorem Both.loose2 (h : Both w0 W rb rq n D1 D2 E) :
    Calls Try.prog 24 #[.pointer (some ⟨rq, 0, none⟩)] W fun e w' => ∃ v, e = .returned v ∧ Sl .i64 w' v ((looseTo D2 n).map fun i : Nat => (i : Int)) ∧ Below W.heap.size W w' := by
  obtain ⟨f, h1, h2, h3⟩ := h
  refine (refLoose rq n f D2 W h2).mono ?_
  rintro e w' ⟨v, rfl, g1, g2, -⟩
  exact ⟨v, rfl, sl_own (bs := (looseTo D2 n).map fun i : Nat => (i : Int)) (by rw [List.map_map]; exact g1), g2⟩
/-- How many sectors it says. -/
theorem Both.cell (h : Both w0 W rb rq n D1 D2 E) : ∃ ss, W.cell? ⟨rq, 0, none⟩ = some (.slice (some ⟨ss, 0, none⟩) n n) ∧ rq < W.heap.size := by
  obtain ⟨f, h1, ⟨ss, vb, sv, h2, rfl⟩, h3⟩ := h
  exact ⟨ss, by rw [cell_of_row _ _ _ _ _ _ h2.head]; rfl, h2.lt h1.pos (.inl rfl)⟩
theorem Both.new (w0 w w1 : World) (h1 : At w0 w rb n D1 (fun _ => False)) (h : ∃ f, Ref w1 rq n f D2 ∧ ∀ k, f k → w.heap.size ≤ k) (hb : Below w.heap.size w w1) : Both w0 w1 rb rq n D1 D2 (fun _ => False) := by
  obtain ⟨f, g1, g2⟩ := h
  exact ⟨f, h1.below hb _ (fun k hk => .inr (by rcases hk with hk | hk; exact ⟨g2 k hk, g1.lt h1.pos k hk⟩; exact hk.elim)), g1, fun k hk => ⟨Nat.le_trans h1.size (g2 k hk), fun h => h⟩⟩
end

theorem flTo_few (D : Nat → Sec) (n j : Nat) (hj : j < n) : (flTo D n j).vs.length = 0 := by simp [flTo, hj]
end Go.Proofs.Ytagieoomekmjcaa
