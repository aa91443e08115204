/- Things in memory, each with its blocks; two side by side; since when they are, and what else has been made. -/
import Derived.Test.YtlpmikbplngmnaaAt
namespace Go.Proofs.Ytlpmikbplngmnaa
open Go.RowKit
set_option linter.unusedVariables false

/-- A thing in memory: what it says of a world, and which blocks are its own. -/
abbrev Res := World → (Nat → Prop) → Prop

structure IsRes (P : Res) : Prop where
  out : ∀ {w w' : World} {f : Nat → Prop}, P w f → (∀ k, f k → w'.heap[k]? = w.heap[k]?) → P w' f
  lt : ∀ {w : World} {f : Nat → Prop}, P w f → ∀ k, f k → k < w.heap.size
  cells : ∀ {w : World} {f : Nat → Prop}, P w f → ∀ k, f k → ∀ ob, w.heap[k]? = some ob → ob.isCells = true

section
variable {P P' Q Q' : Res} {w w' w0 W W' : World} {f : Nat → Prop} {own : Nat → Prop}

theorem IsRes.below (hP : IsRes P) (h : P w f) (hb : Below w.heap.size w w') : P w' f := hP.out h fun k hk => hb.block k (hP.lt h k hk)
theorem IsRes.grown {row : Option Nat} (hP : IsRes P) (h : P w f) (hg : w.grownBy w' row) (hr : ∀ r, row = some r → ∃ o : Obj, w.heap[r]? = some o ∧ o.isCells = false) : P w' f :=
  hP.out h fun k hk => hg.block k (hP.lt h k hk) fun e => by
    obtain ⟨o, ho, hc⟩ := hr k e.symm
    rw [hP.cells h k hk o ho] at hc
    cases hc

/-- Two, apart from each other. -/
def Sep (P Q : Res) : Res := fun w f => ∃ f1 f2, P w f1 ∧ Q w f2 ∧ (∀ k, f1 k → ¬ f2 k) ∧ f = fun k => f1 k ∨ f2 k

theorem IsRes.sep (hP : IsRes P) (hQ : IsRes Q) : IsRes (Sep P Q) where
  out := by
    rintro w w' f ⟨f1, f2, h1, h2, h3, rfl⟩ hk
    exact ⟨f1, f2, hP.out h1 (fun k h => hk k (.inl h)), hQ.out h2 (fun k h => hk k (.inr h)), h3, rfl⟩
  lt := by
    rintro w f ⟨f1, f2, h1, h2, h3, rfl⟩ k hk
    exact hk.elim (hP.lt h1 k) (hQ.lt h2 k)
  cells := by
    rintro w f ⟨f1, f2, h1, h2, h3, rfl⟩ k hk
    exact hk.elim (hP.cells h1 k) (hQ.cells h2 k)

theorem Sep.swap (h : Sep P Q w f) : Sep Q P w f := by
  obtain ⟨f1, f2, h1, h2, h3, rfl⟩ := h
  exact ⟨f2, f1, h2, h1, fun k a b => h3 k b a, by funext k; exact propext or_comm⟩

/-- What turns one of them. -/
theorem Turn.first (hP : IsRes P) (hQ : IsRes Q) {f1 f2 : Nat → Prop} (h1 : P w f1) (h2 : Q w f2) (h3 : ∀ k, f1 k → ¬ f2 k) (h : ∃ f1', P' w' f1' ∧ Turn f1 f1' w w') : ∃ f', Sep P' Q w' f' ∧ Turn (fun k => f1 k ∨ f2 k) f' w w' := by
  obtain ⟨f1', g1, g2⟩ := h
  refine ⟨_, ⟨f1', f2, g1, hQ.out h2 (fun k hk => g2.out k (hQ.lt h2 k hk) (fun h => h3 k h hk)), fun k a b => ?_, rfl⟩, ⟨g2.still, g2.others, fun k hk hn => g2.out k hk (fun h => hn (.inl h)), fun k hk => ?_⟩⟩
  · rcases g2.new k a with h | h
    · exact h3 k h b
    · have := hQ.lt h2 k b; omega
  · rcases hk with hk | hk
    · exact (g2.new k hk).imp .inl id
    · exact .inl (.inr hk)

set_option maxRecDepth 100000 in
theorem Sep.first {g : FuncId} {args : Array Value} {R : Ending → World → Prop} (hP : IsRes P) (hQ : IsRes Q) (h : Sep P Q w f)
    (hc : ∀ f1, P w f1 → Calls Try.prog g args w fun e w' => R e w' ∧ ∃ f1', P' w' f1' ∧ Turn f1 f1' w w') : Calls Try.prog g args w fun e w' => R e w' ∧ ∃ f', Sep P' Q w' f' ∧ Turn f f' w w' := by
  obtain ⟨f1, f2, h1, h2, h3, rfl⟩ := h
  exact (hc f1 h1).mono fun e w' ⟨hr, h⟩ => ⟨hr, Turn.first hP hQ h1 h2 h3 h⟩

set_option maxRecDepth 100000 in
theorem Sep.second {g : FuncId} {args : Array Value} {R : Ending → World → Prop} (hP : IsRes P) (hQ : IsRes Q) (h : Sep P Q w f)
    (hc : ∀ f2, Q w f2 → Calls Try.prog g args w fun e w' => R e w' ∧ ∃ f2', Q' w' f2' ∧ Turn f2 f2' w w') : Calls Try.prog g args w fun e w' => R e w' ∧ ∃ f', Sep P Q' w' f' ∧ Turn f f' w w' :=
  (Sep.first hQ hP h.swap hc).mono fun e w' ⟨hr, f', h1, h2⟩ => ⟨hr, f', h1.swap, h2⟩

/-- Since w0 it has been made; the blocks own are no part of it. -/
def AtR (P : Res) (w0 W : World) (own : Nat → Prop) : Prop := ∃ f, P W f ∧ (∀ k, f k → w0.heap.size ≤ k ∧ ¬ own k) ∧ (∀ k, own k → k < W.heap.size) ∧ Below w0.heap.size w0 W

theorem AtR.bel (h : AtR P w0 W own) : Below w0.heap.size w0 W := by obtain ⟨f, h1, h2, h3, h4⟩ := h; exact h4
theorem AtR.size (h : AtR P w0 W own) : w0.heap.size ≤ W.heap.size := h.bel.size
theorem AtR.lt (h : AtR P w0 W own) {B : Nat} (hB : own B) : B < W.heap.size := by obtain ⟨f, h1, h2, h3, h4⟩ := h; exact h3 B hB
/-- What is made beside it may be owned. -/
theorem AtR.below (hP : IsRes P) (h : AtR P w0 W own) (hb : Below W.heap.size W W') (own' : Nat → Prop) (ho : ∀ k, own' k → own k ∨ (W.heap.size ≤ k ∧ k < W'.heap.size)) : AtR P w0 W' own' := by
  obtain ⟨f, h1, h2, h3, h4⟩ := h
  refine ⟨f, hP.below h1 hb, fun k hk => ⟨(h2 k hk).1, fun h' => ?_⟩, fun k hk => ?_, h4.trans (hb.mono h4.size)⟩
  · rcases ho k h' with h' | ⟨h', _⟩
    · exact (h2 k hk).2 h'
    · have := hP.lt h1 k hk; omega
  · rcases ho k hk with h' | ⟨_, h'⟩
    · exact Nat.lt_of_lt_of_le (h3 k h') hb.size
    · exact h'
theorem AtR.beside (hP : IsRes P) (h : AtR P w0 W own) (hb : Below W.heap.size W W') : AtR P w0 W' own := h.below hP hb own fun _ h => .inl h
theorem AtR.less (h : AtR P w0 W own) (own' : Nat → Prop) (ho : ∀ k, own' k → own k) : AtR P w0 W own' := by
  obtain ⟨f, h1, h2, h3, h4⟩ := h
  exact ⟨f, h1, fun k hk => ⟨(h2 k hk).1, fun h' => (h2 k hk).2 (ho k h')⟩, fun k hk => h3 k (ho k hk), h4⟩
/-- A cell of what is owned is written. -/
theorem AtR.owned (hP : IsRes P) (h : AtR P w0 W own) {B : Nat} (hB : own B) (hw : w0.heap.size ≤ B) (W' : World) (hb : Below B W W') (hs : ∀ k, k < W.heap.size → k ≠ B → W'.heap[k]? = W.heap[k]?) (hsz : W'.heap.size = W.heap.size) : AtR P w0 W' own := by
  obtain ⟨f, h1, h2, h3, h4⟩ := h
  exact ⟨f, hP.out h1 (fun k hk => hs k (hP.lt h1 k hk) (fun e => (h2 k hk).2 (e ▸ hB))), h2, fun k hk => by rw [hsz]; exact h3 k hk, h4.trans (hb.mono hw)⟩
theorem AtR.setCell (hP : IsRes P) (h : AtR P w0 W own) {B k : Nat} (hB : own B) (hw : w0.heap.size ≤ B) (u : Value) : AtR P w0 (W.setCell ⟨B, k, none⟩ u) own :=
  h.owned hP hB hw _ ((Below.refl B W).setCell (p := ⟨B, k, none⟩) (Nat.le_refl _) u) (fun j _ hj => Below.heap_setCell _ _ _ j (fun e => hj e)) (size_setCell _ _ _)
theorem AtR.setCells (hP : IsRes P) (h : AtR P w0 W own) {B k : Nat} (hB : own B) (hw : w0.heap.size ≤ B) (u : List Value) : AtR P w0 (W.setCells B k u) own :=
  h.owned hP hB hw _ (below_setCells (Nat.le_refl _) _ _ _) (fun j hlt hj => World.heap_setCells_other _ _ _ _ hlt hj) (size_setCells _ _ _ _)

theorem AtR.turned (hP' : IsRes P') {f : Nat → Prop} (h2 : ∀ k, f k → w0.heap.size ≤ k ∧ ¬ own k) (h3 : ∀ k, own k → k < W.heap.size) (h4 : Below w0.heap.size w0 W)
    (h : ∃ f', P' W' f' ∧ Turn f f' W W') : AtR P' w0 W' own ∧ ∀ k, own k → W'.heap[k]? = W.heap[k]? := by
  obtain ⟨f', g1, g2⟩ := h
  refine ⟨⟨f', g1, fun k hk => ?_, fun k hk => Nat.lt_of_lt_of_le (h3 k hk) g2.size, h4.trans (g2.below h4.size (fun k hk => (h2 k hk).1))⟩, fun k hk => g2.out k (h3 k hk) (fun h' => (h2 k h').2 hk)⟩
  rcases g2.new k hk with h' | h'
  · exact h2 k h'
  · exact ⟨Nat.le_trans h4.size h', fun ho => by have := h3 k ho; omega⟩
set_option maxRecDepth 100000 in
/-- A call that turns it. -/
theorem AtR.call {g : FuncId} {args : Array Value} {R : Ending → World → Prop} (hP' : IsRes P') (h : AtR P w0 W own)
    (hc : ∀ f, P W f → (∀ k, f k → w0.heap.size ≤ k ∧ ¬ own k) → Calls Try.prog g args W fun e w' => R e w' ∧ ∃ f', P' w' f' ∧ Turn f f' W w') :
    Calls Try.prog g args W fun e w' => R e w' ∧ AtR P' w0 w' own ∧ ∀ k, own k → w'.heap[k]? = W.heap[k]? := by
  obtain ⟨f, h1, h2, h3, h4⟩ := h
  exact (hc f h1 h2).mono fun e w' ⟨hr, h⟩ => ⟨hr, AtR.turned hP' h2 h3 h4 h⟩
set_option maxRecDepth 100000 in
/-- A call that reads it. -/
theorem AtR.look {g : FuncId} {args : Array Value} {R : Ending → World → Prop} (h : AtR P w0 W own) (hc : ∀ f, P W f → Calls Try.prog g args W R) : Calls Try.prog g args W R := by
  obtain ⟨f, h1, h2, h3, h4⟩ := h
  exact hc f h1
set_option maxRecDepth 100000 in
/-- A call that makes it. -/
theorem AtR.made {g : FuncId} {args : Array Value} {R : Ending → World → Prop} (hP : IsRes P) (hb : Below w0.heap.size w0 W) (hown : ∀ k, own k → k < W.heap.size)
    (hc : Calls Try.prog g args W fun e w' => R e w' ∧ (∃ f, P w' f ∧ ∀ k, f k → W.heap.size ≤ k) ∧ Below W.heap.size W w') :
    Calls Try.prog g args W fun e w' => R e w' ∧ AtR P w0 w' own ∧ Below W.heap.size W w' :=
  hc.mono fun e w' ⟨hr, ⟨f, g1, g2⟩, g3⟩ => ⟨hr, ⟨f, g1, fun k hk => ⟨Nat.le_trans hb.size (g2 k hk), fun h => by have := hown k h; have := g2 k hk; omega⟩, fun k hk => Nat.lt_of_lt_of_le (hown k hk) g3.size, hb.trans (g3.mono hb.size)⟩, g3⟩
end

/-- A block of cells. -/
def RowR (B : Nat) (a : Array Value) (t : TypeId) : Res := fun w f => w.heap[B]? = some (.cells a t (0, 0)) ∧ f = fun k => k = B
theorem RowR.isRes (B : Nat) (a : Array Value) (t : TypeId) : IsRes (RowR B a t) where
  out := by rintro w w' f ⟨h1, rfl⟩ hk; exact ⟨(hk B rfl).trans h1, rfl⟩
  lt := by rintro w f ⟨h1, rfl⟩ k rfl; exact (Array.getElem?_eq_some_iff.1 h1).1
  cells := by rintro w f ⟨h1, rfl⟩ k rfl ob ho; rw [h1] at ho; cases ho; rfl
theorem heap_set_same {w : World} {B : Nat} {a : Array Value} {t : TypeId} (h : w.heap[B]? = some (.cells a t (0, 0))) (j : Nat) (v : Value) : (w.setCell ⟨B, j, none⟩ v).heap[B]? = some (.cells (a.setIfInBounds j v) t (0, 0)) := by
  obtain ⟨hlt, hk⟩ := Array.getElem?_eq_some_iff.1 h
  show (w.heap.modify B _)[B]? = _
  rw [Array.getElem?_eq_getElem (by rw [Array.size_modify]; exact hlt), Array.getElem_modify_self, hk]
  rfl
theorem turn_setCell (w : World) (B j : Nat) (v : Value) {f : Nat → Prop} (hB : f B) : Turn f f w (w.setCell ⟨B, j, none⟩ v) :=
  ⟨⟨rfl, rfl, rfl⟩, KeepsOthers.setCell _ _ _, fun k hk hn => Below.heap_setCell _ _ _ k (fun e => hn (e ▸ hB)), fun k hk => .inl hk⟩
/-- One of its cells is written, beside something else. -/
theorem Sep.set {R : Res} {B : Nat} {a : Array Value} {t : TypeId} {w : World} {f : Nat → Prop} (hR : IsRes R) (h : Sep (RowR B a t) R w f) (j : Nat) (v : Value) :
    Sep (RowR B (a.setIfInBounds j v) t) R (w.setCell ⟨B, j, none⟩ v) f ∧ Turn f f w (w.setCell ⟨B, j, none⟩ v) := by
  obtain ⟨f1, f2, ⟨h1, rfl⟩, h2, h3, rfl⟩ := h
  exact ⟨⟨_, f2, ⟨heap_set_same h1 j v, rfl⟩, hR.out h2 (fun k hk => Below.heap_setCell _ _ _ k (fun e => h3 k e hk)), h3, rfl⟩, turn_setCell w B j v (.inl rfl)⟩
theorem Sep.cell {R : Res} {B : Nat} {a : Array Value} {t : TypeId} {w : World} {f : Nat → Prop} (h : Sep (RowR B a t) R w f) (j : Nat) : w.cell? ⟨B, j, none⟩ = a[j]? := by
  obtain ⟨f1, f2, ⟨h1, rfl⟩, h2, h3, rfl⟩ := h
  exact cell_of_row _ _ _ _ _ _ h1
theorem Sep.frozen {R : Res} {B : Nat} {a : Array Value} {t : TypeId} {w : World} {f : Nat → Prop} (h : Sep (RowR B a t) R w f) (j : Nat) : w.frozen? ⟨B, j, none⟩ = false := by
  obtain ⟨f1, f2, ⟨h1, rfl⟩, h2, h3, rfl⟩ := h
  simp [World.frozen?, h1]

end Go.Proofs.Ytlpmikbplngmnaa
