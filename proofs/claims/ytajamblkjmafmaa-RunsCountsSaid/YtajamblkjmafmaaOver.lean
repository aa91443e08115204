/- A range over a function whose iterator reads, between two rounds, what the body itself writes: the iterator's contract rests on the caller's own invariant. No program is named. -/
import Derived.RangeFuncNested
import Derived.RangeFuncBound
import Derived.RangeFuncCalls
import Derived.WalkKit
namespace Go.Proofs.Ytajamblkjmafmaa
open Go.RowKit
set_option linter.unusedVariables false

variable {F : Fence} {n : Nat} {P : Program}

/-- What an iterator owes to a caller whose rounds keep R: as long as R holds of what has come, the next one that comes is Ok; when none comes any more, S. -/
def SeqBy {α : Type} (F : Fence) (n : Nat) (P : Program) (g : Nat) (lb : Array Value) (encs : α → Array Value) (R : List α → World → Prop) (Ok : List α → α → Prop) (S : List α → Prop) (w : World) : Prop :=
  ∀ (l : Nat) (J Jx : List α → World → Prop) (W : World), Below w.heap.size w W → (∀ pre W, J pre W → R pre W) → AbidesFrom W.heap.size J → AbidesFrom W.heap.size Jx →
    (∀ pre x W1, J pre W1 → Ok pre x → YieldAt F (n - 1) P l (encs x) W1 fun e W' =>
      (e = .returned (.bool true) ∧ J (pre ++ [x]) W') ∨ (e = .returned (.bool false) ∧ Jx (pre ++ [x]) W')) →
    J [] W →
    CallsIn F n P g (#[.func (.yield l) #[] #[]] ++ lb) W fun e W' => (∃ v, e = .returned v) ∧ ((∃ xs, S xs ∧ J xs W') ∨ (∃ pre, Jx pre W'))

/-- The record of a loop at rest, and the block of its rounds' deferred calls. -/
structure Books (W : World) (B : Nat) (r : Loop) : Prop where
  loop : W.heap[B + 1]? = some (.loop r)
  defers : W.heap[B]? = some (.deferred (some []))

theorem Books.lt {W : World} {B : Nat} {r : Loop} (h : Books W B r) : B + 1 < W.heap.size := (Array.getElem?_eq_some_iff.1 h.loop).1

theorem Books.put {W : World} {B : Nat} {r : Loop} (h : Books W B r) (r' : Loop) : Books (W.putObj (B + 1) (.loop r')) B r' :=
  ⟨World.putObj_heap_same h.lt, (World.putObj_heap_other (by omega)).trans h.defers⟩

theorem Books.from {W W' : World} {B : Nat} {r : Loop} (h : Books W B r) (hk : KeepsFrom B W W') : Books W' B r :=
  ⟨hk.same _ _ (by omega) h.loop rfl, hk.same _ _ (Nat.le_refl _) h.defers rfl⟩

theorem Books.kept {W W' : World} {B : Nat} {r : Loop} {row : Option Nat} (h : Books W B r) (hg : W.grownBy W' row) (hr : ∀ k, row = some k → ∃ o : Obj, W.heap[k]? = some o ∧ o.isWalk = true) : Books W' B r :=
  ⟨(grownBy_keeps hg hr h.loop rfl).trans h.loop, (grownBy_keeps hg hr h.defers rfl).trans h.defers⟩

/-- **A loop over such an iterator.** -/
theorem wpIn_rangeFunc_by {α : Type} {g : Operand} {ps : Array Tmp} {assign body : Code} {Q : Exit → Act → World → Prop} {a : Act} {w : World}
    (hro : F.round = none) (h1 : 1 ≤ n) {gf : Nat} {lb : Array Value} (hg : a.eval g = .func (.func gf) #[] lb) (hFg : F.fn gf) (eg : ∀ args w, (callFunc gf args).run P w = .ok (.enter gf args) w)
    {encs : α → Array Value} {Ok : List α → α → Prop} {S : List α → Prop} {w0 : World} (I : List α → World → Prop) (Ix : Code → List α → World → Prop) (hseq : SeqBy F (n - 1) P gf lb encs I Ok S w0)
    (hb0 : Below w0.heap.size w0 w) (hps : ∀ x, (encs x).size = ps.size) (hI : OwnFrom w.heap.size I) (hIx : ∀ c, OwnFrom w.heap.size (Ix c)) (h0 : I [] w) (a₁ : α → Act)
    (hassign : ∀ (l : Nat) (x : α) (W : World) (K : Act → World → Prop), K (a₁ x) W →
      assign.wpIn (F.inRound l) (n - 1 - 1) P (Exit.then K (fun _ _ _ => False)) { tmps := (ps.zip (encs x)).foldl (fun t (p, v) => t.setIfInBounds p v) a.tmps, defers := [] } W)
    (hbody : ∀ (l : Nat) (pre : List α) (x : α) (W : World), I pre W → Ok pre x → body.wpIn (F.inRound l) (n - 1 - 1) P (ownPostG w.heap.size (fun _ _ => True) I Ix (pre ++ [x]) W) (a₁ x) W)
    (hdone : ∀ (D : Nat) (xs : List α) (W : World), w.heap.size ≤ D → S xs → I xs W → W.heap[D]? = some (.deferred (some [])) → Q .normal { a with defers := { target := .collected D, args := #[] } :: a.defers } W)
    (hstop : ∀ (D : Nat) (c : Code) (pre : List α) (W : World), w.heap.size ≤ D → Ix c pre W → W.heap[D]? = some (.deferred (some [])) → c.wpIn F n P Q { a with defers := { target := .collected D, args := #[] } :: a.defers } W) :
    (Code.rangeFunc g ps assign body).wpIn F n P Q a w := by
  refine wpIn_rangeFunc fun fn hfn => ?_
  rw [hro]
  -- the record, by its state and its jump
  let rc : LoopState → Option Code → Loop := fun st pe => { state := st, pending := pe, fn, tmps := a.tmps, params := ps, assign, body, defers := w.heap.size }
  obtain ⟨W1, hW1⟩ : ∃ W1, (w.alloc (.deferred (some []))).alloc (.loop (rc .ready none)) = W1 := ⟨_, rfl⟩
  have bk1 : Books W1 w.heap.size (rc .ready none) := by
    rw [← hW1]
    refine ⟨?_, (Below.heap_alloc _ _ _ (by simp)).trans (World.alloc_heap_new w _)⟩
    have := World.alloc_heap_new (w.alloc (.deferred (some []))) (.loop (rc .ready none))
    rwa [World.size_alloc] at this
  have hsz : w.heap.size ≤ W1.heap.size := by rw [← hW1]; simp; omega
  have bel : Below w0.heap.size w0 W1 := by
    rw [← hW1]; exact hb0.trans ((((Below.refl _ w).alloc (Nat.le_refl _) _).alloc (by simp) _).mono hb0.size)
  have I1 : I [] W1 := by rw [← hW1]; exact hI.alloc _ (hI.alloc _ h0)
  -- a turn of a block that holds a walk touches no book
  have walk : ∀ {A : World} {row : Option Nat}, (∀ r, row = some r → W1.heap.size ≤ r ∧ ∃ o : Obj, A.heap[r]? = some o ∧ o.isWalk = true) →
      (∀ r, row = some r → w.heap.size ≤ r ∧ ∃ o : Obj, A.heap[r]? = some o ∧ o.isCells = false) ∧ (∀ r, row = some r → ∃ o : Obj, A.heap[r]? = some o ∧ o.isWalk = true) := fun hr =>
    ⟨fun r e => by obtain ⟨h, o, ho, hw⟩ := hr r e; exact ⟨Nat.le_trans hsz h, o, ho, Obj.not_cells_of_walk hw⟩, fun r e => (hr r e).2⟩
  refine ⟨w.heap.size + 1, _, W1, { target := .fn (.func gf) lb, args := #[.func (.yield (w.heap.size + 1)) #[] #[]] }, W1, gf, #[.func (.yield (w.heap.size + 1)) #[] #[]] ++ lb, W1,
    hW1 ▸ run_enterLoop_outer fn _ _ _ _, by simp only [resolve, hg]; simp [go_sem], fun f' hf' => by simp [Target.leads] at hf'; subst hf'; exact hFg, by simp [invoke, go_sem, eg], fun _ => h1, ?_⟩
  refine (hseq (w.heap.size + 1) (fun pre W => I pre W ∧ Books W w.heap.size (rc .ready none)) (fun pre W => ∃ c, Ix c pre W ∧ Books W w.heap.size (rc .done (some c))) W1 bel (fun _ _ h => h.1)
    (fun s A B row hs hgr hr => ⟨hI s A B row hs.1 hgr (walk hr).1, hs.2.kept hgr (walk hr).2⟩)
    (fun s A B row hs hgr hr => by obtain ⟨c, hc, hb⟩ := hs; exact ⟨c, hIx c s A B row hc hgr (walk hr).1, hb.kept hgr (walk hr).2⟩) ?_ ⟨I1, bk1⟩).mono ?_
  · rintro pre x W ⟨hi, bk⟩ hok
    have hy := run_yield (P := P) (args := encs x) bk.loop (hps x)
    refine ⟨fn, _, assign, body, hy, roundIn_of_wpIn hfn (hassign _ x W _ ⟨_, run_beginRound bk.loop rfl, ?_⟩)⟩
    have bk2 := bk.put (rc .busy none)
    refine wpIn_mono (hbody _ pre x _ (hI.putObj _ hi (by omega) bk.loop rfl) hok) ?_
    -- however the round is left, the record is turned once more
    have out : ∀ (j : Option Code) (W3 : World), KeepsFrom w.heap.size (W.putObj (w.heap.size + 1) (.loop (rc .busy none))) W3 → (Instr.endRound (w.heap.size + 1) j).run P W3 = .ok (.bool j.isNone) (W3.putObj (w.heap.size + 1) (.loop (rc (if j.isNone then .ready else .done) j))) ∧
        W3.heap[w.heap.size + 1]? = some (.loop (rc .busy none)) ∧ Books (W3.putObj (w.heap.size + 1) (.loop (rc (if j.isNone then .ready else .done) j))) w.heap.size (rc (if j.isNone then .ready else .done) j) := fun j W3 hk =>
      ⟨run_endRound j (bk2.from hk).loop, (bk2.from hk).loop, (bk2.from hk).put _⟩
    rintro (_ | id | t | _ | ch | _) a3 W3 hp
    · obtain ⟨hk, -, hi3⟩ := hp
      obtain ⟨h2, h3, h4⟩ := out none W3 hk
      exact ⟨_, _, h2, .inl ⟨rfl, hI.putObj _ hi3 (by omega) h3 rfl, h4⟩⟩
    · obtain ⟨hk, hi3⟩ := hp
      obtain ⟨h2, h3, h4⟩ := out (some (.exit id)) W3 hk
      exact ⟨_, _, h2, .inr ⟨rfl, _, (hIx _).putObj _ hi3 (by omega) h3 rfl, h4⟩⟩
    · obtain ⟨hk, hi3⟩ := hp
      obtain ⟨h2, h3, h4⟩ := out (some (.goto t)) W3 hk
      exact ⟨_, _, h2, .inr ⟨rfl, _, (hIx _).putObj _ hi3 (by omega) h3 rfl, h4⟩⟩
    · obtain ⟨hk, hi3⟩ := hp
      obtain ⟨h2, h3, h4⟩ := out (some .ret) W3 hk
      exact ⟨_, _, h2, .inr ⟨rfl, _, (hIx _).putObj _ hi3 (by omega) h3 rfl, h4⟩⟩
    · exact hp.elim
    · exact hp.elim
  · rintro e W2 ⟨⟨v, rfl⟩, ⟨xs, hS, hi, bk⟩ | ⟨pre, c, hi, bk⟩⟩
    · exact ⟨none, _, run_endLoop bk.loop (by simp [rc]), hdone _ xs _ (Nat.le_refl _) hS (hI.putObj _ hi (by omega) bk.loop rfl) (bk.put _).defers⟩
    · exact ⟨some c, _, run_endLoop bk.loop (by simp [rc]), hstop _ c pre _ (Nat.le_refl _) ((hIx c).putObj _ hi (by omega) bk.loop rfl) (bk.put _).defers⟩
end Go.Proofs.Ytajamblkjmafmaa
