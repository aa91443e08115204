/- What a method of a sector may turn: the sector's own cells, its versions' own block, and what is new. -/
import Derived.Test.YtlpmikbplngmnaaSec
import Derived.RangeFuncCalls
import Derived.RangeFuncWrites
import Derived.Deep.Upon
import Derived.Maps.AppendAt
namespace Go.Proofs.Ytlpmikbplngmnaa
open Go.RowKit
set_option linter.unusedVariables false

theorem keepsOthers_setCells (b : Nat) : ∀ (vs : List Value) (o : Nat) (w : World), KeepsOthers w (w.setCells b o vs)
  | [], _, w => KeepsOthers.refl w
  | v :: r, o, w => (KeepsOthers.setCell w _ v).trans (keepsOthers_setCells b r (o + 1) _)
theorem below_setCells {N b : Nat} (h : N ≤ b) : ∀ (vs : List Value) (o : Nat) (w : World), Below N w (w.setCells b o vs)
  | [], _, w => Below.refl N w
  | v :: r, o, w => ((Below.refl N w).setCell (p := ⟨b, o, none⟩) h v).trans (below_setCells h r (o + 1) _)
theorem size_setCells (b : Nat) : ∀ (vs : List Value) (o : Nat) (w : World), (w.setCells b o vs).heap.size = w.heap.size
  | [], _, w => rfl
  | v :: r, o, w => (size_setCells b r (o + 1) _).trans (by simp [World.setCell])

theorem grown_setCell (w : World) (p : Addr) (v : Value) : w.grownBy (w.setCell p v) (some p.block) :=
  ⟨rfl, rfl, rfl, by simp [World.setCell], fun k _ hne => Below.heap_setCell _ _ _ k (fun e => hne (by rw [e]))⟩
theorem size_setCell (w : World) (p : Addr) (v : Value) : (w.setCell p v).heap.size = w.heap.size := by simp [World.setCell]

theorem still_trans {a b c : World} (h : b.os = a.os ∧ b.tape = a.tape ∧ b.output = a.output) (k : c.os = b.os ∧ c.tape = b.tape ∧ c.output = b.output) : c.os = a.os ∧ c.tape = a.tape ∧ c.output = a.output :=
  ⟨k.1.trans h.1, k.2.1.trans h.2.1, k.2.2.trans h.2.2⟩
theorem still_setCells (b : Nat) (vs : List Value) (o : Nat) (w : World) : (w.setCells b o vs).os = w.os ∧ (w.setCells b o vs).tape = w.tape ∧ (w.setCells b o vs).output = w.output := by
  have := below_setCells (Nat.zero_le b) vs o w
  exact ⟨this.os, this.tape, this.output⟩

/-- From w to w' no more has turned than 65 cells of block sb from o on, the block of v, and what was not there. -/
structure Step (w w' : World) (sb o : Nat) (v : Value) : Prop where
  still : w'.os = w.os ∧ w'.tape = w.tape ∧ w'.output = w.output
  others : KeepsOthers w w'
  blocks : ∀ k, k < w.heap.size → k ≠ sb → some k ≠ v.ownBlock → w'.heap[k]? = w.heap[k]?
  cells : ∀ j, j < o ∨ o + 65 ≤ j → w'.cell? ⟨sb, j, none⟩ = w.cell? ⟨sb, j, none⟩
  there : ∀ i m, w.there sb i m → w'.there sb i m

theorem Step.size {w w' : World} {sb o : Nat} {v : Value} (h : Step w w' sb o v) : w.heap.size ≤ w'.heap.size := h.others.size
theorem Step.refl (w : World) (sb o : Nat) (v : Value) : Step w w sb o v := ⟨⟨rfl, rfl, rfl⟩, KeepsOthers.refl w, fun _ _ _ _ => rfl, fun _ _ => rfl, fun _ _ h => h⟩
theorem Step.trans {a b c : World} {sb o : Nat} {v : Value} (h : Step a b sb o v) (k : Step b c sb o v) : Step a c sb o v :=
  ⟨still_trans h.still k.still, h.others.trans k.others, fun i hi h1 h2 => (k.blocks i (Nat.lt_of_lt_of_le hi h.size) h1 h2).trans (h.blocks i hi h1 h2), fun j hj => (k.cells j hj).trans (h.cells j hj), fun i m ht => k.there i m (h.there i m ht)⟩
theorem Step.drew {a b : World} {sb o : Nat} {v : Value} (h : Step a b sb o v) : Step a b.drew sb o v := ⟨h.still, h.others.trans (KeepsOthers.drew b), h.blocks, h.cells, h.there⟩
theorem Step.alloc {a b : World} {sb o : Nat} {v : Value} (h : Step a b sb o v) (hsb : sb < b.heap.size) (ob : Obj) : Step a (b.alloc ob) sb o v :=
  h.trans ⟨⟨rfl, rfl, rfl⟩, KeepsOthers.alloc b ob, fun k hk _ _ => Below.heap_alloc b ob k hk, fun j _ => World.cell?_alloc_lt _ _ _ hsb, fun i m ht => World.there_alloc ht ob⟩
theorem Step.setCell {a b : World} {sb o j : Nat} {v : Value} (h : Step a b sb o v) (h1 : o ≤ j) (h2 : j < o + 65) (hs : (b.cell? ⟨sb, j, none⟩).isSome = true) (u : Value) : Step a (b.setCell ⟨sb, j, none⟩ u) sb o v :=
  h.trans ⟨⟨rfl, rfl, rfl⟩, KeepsOthers.setCell b _ u, fun k hk hne _ => Below.heap_setCell _ _ _ k (fun e => hne e), fun i hi => World.cell?_setCell_other b _ _ u (fun e => by cases e; omega), fun i m ht => World.there_setCells ht sb j [u]⟩
theorem Step.setCells {a b : World} {sb o : Nat} {v : Value} {c : List Value} (h : Step a b sb o v) (hsb : sb < b.heap.size) (hl : c.length = 64) : Step a (b.setCells sb o c) sb o v :=
  h.trans ⟨still_setCells sb c o b, keepsOthers_setCells sb c o b, fun k hk hne _ => World.heap_setCells_other b sb o c hk hne, fun i hi => World.cell?_setCells_out sb c o b _ (fun _ _ => by rw [hl]; show i < o ∨ o + 64 ≤ i; omega), fun i m ht => World.there_setCells ht sb o c⟩
theorem Step.grown {a b c : World} {sb o : Nat} {v : Value} (h : Step a b sb o v) (hg : b.grownBy c v.ownBlock) (hsb : sb < b.heap.size) (hne : v.ownBlock ≠ some sb) (hv : ∀ j ob, v.ownBlock = some j → b.heap[j]? = some ob → ob.isCells = true) : Step a c sb o v := by
  have hb : c.heap[sb]? = b.heap[sb]? := hg.block sb hsb (fun e => hne e.symm)
  exact h.trans ⟨⟨hg.os, hg.tape, hg.output⟩, KeepsOthers.of_grownBy hg hv, fun k hk _ h2 => hg.block k hk h2, fun i _ => World.cell?_of_block (a := ⟨sb, i, none⟩) hb,
    fun i m ht j hj => by rw [World.cell?_of_block (a := ⟨sb, i + j, none⟩) hb, World.frozen?_of_block (a := ⟨sb, i + j, none⟩) hb]; exact ht j hj⟩
/-- In the block of the versions itself. -/
theorem Step.own {a b : World} {sb o g i cap n : Nat} {c : List Value} (h : Step a b sb o (.slice (some ⟨g, 0, none⟩) n cap)) (hne : g ≠ sb) : Step a (b.setCells g i c) sb o (.slice (some ⟨g, 0, none⟩) n cap) :=
  h.trans ⟨still_setCells g c i b, keepsOthers_setCells g c i b, fun k hk _ h2 => World.heap_setCells_other b g i c hk (fun e => h2 (by rw [e]; rfl)), fun j _ => World.cell?_setCells_out g c i b _ (fun e _ => absurd e.symm hne), fun j m ht => World.there_setCells ht g i c⟩

theorem ownBlock_cells {w : World} {N e size n : Nat} {v : Value} {xs : List Value} (h : w.ownsRow N e size v n xs) : ∀ j ob, v.ownBlock = some j → w.heap[j]? = some ob → ob.isCells = true := by
  intro j ob hj hb
  rcases h.2 with ⟨rfl, _⟩ | ⟨g, cap, cur, rfl, _, h2, _⟩
  · simp [Value.ownBlock] at hj
  · obtain rfl : g = j := by simpa [Value.ownBlock] using hj
    rw [h2] at hb
    cases hb
    rfl

attribute [-go_sem] loadVar storeVar
end Go.Proofs.Ytlpmikbplngmnaa
