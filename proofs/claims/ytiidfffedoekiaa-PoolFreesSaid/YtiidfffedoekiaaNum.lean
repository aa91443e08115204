/- A range over a function whose rounds are numbered: the iterator's contract rests on the caller's own invariant; the loop's variables may be boxed. No program is named. -/
import Derived.Test.YtiidfffedoekiaaOver
namespace Go.Proofs.Ytiidfffedoekiaa
open Go.RowKit
set_option linter.unusedVariables false

variable {F : Fence} {n : Nat} {P : Program}

/-- What an iterator of m items owes to a caller whose rounds keep R. -/
def SeqNum (F : Fence) (n : Nat) (P : Program) (g : Nat) (lb : Array Value) (encs : Nat → Array Value) (R : World → Prop) (m : Nat) (w : World) : Prop :=
  ∀ (l : Nat) (J Jx : Nat → World → Prop) (W : World), Below w.heap.size w W → (∀ k W, J k W → R W) → AbidesFrom W.heap.size J → AbidesFrom W.heap.size Jx →
    (∀ k W1, k < m → J k W1 → YieldAt F (n - 1) P l (encs k) W1 fun e W' => (e = .returned (.bool true) ∧ J (k + 1) W') ∨ (e = .returned (.bool false) ∧ Jx (k + 1) W')) →
    J 0 W →
    CallsIn F n P g (#[.func (.yield l) #[] #[]] ++ lb) W fun e W' => (∃ v, e = .returned v) ∧ (J m W' ∨ (∃ k, k ≤ m ∧ Jx k W'))

/-- How a round may be left. -/
def numPost (B : Nat) (I : Nat → World → Prop) (Ix : Code → Nat → World → Prop) (k : Nat) (W : World) : Exit → Act → World → Prop
  | .normal, _, W' => KeepsFrom B W W' ∧ I k W'
  | .ret, _, W' => KeepsFrom B W W' ∧ Ix .ret k W'
  | .exit id, _, W' => KeepsFrom B W W' ∧ Ix (.exit id) k W'
  | .goto t, _, W' => KeepsFrom B W W' ∧ Ix (.goto t) k W'
  | .panic _, _, _ => False
  | .outgrown, _, _ => False

/-- **A loop over such an iterator.** -/
theorem wpIn_rangeFunc_num {g : Operand} {ps : Array Tmp} {assign body : Code} {Q : Exit → Act → World → Prop} {a : Act} {w : World}
    (hro : F.round = none) (h1 : 1 ≤ n) {gf : Nat} {lb : Array Value} (hg : a.eval g = .func (.func gf) #[] lb) (hFg : F.fn gf) (eg : ∀ args w, (callFunc gf args).run P w = .ok (.enter gf args) w)
    {encs : Nat → Array Value} {R : World → Prop} {m : Nat} {w0 : World} (hseq : SeqNum F (n - 1) P gf lb encs R m w0)
    (hb0 : Below w0.heap.size w0 w) (hps : ∀ x, (encs x).size = ps.size)
    (I : Nat → World → Prop) (Ix : Code → Nat → World → Prop) (hR : ∀ k W, I k W → R W) (hI : OwnFrom w.heap.size I) (hIx : ∀ c, OwnFrom w.heap.size (Ix c)) (h0 : I 0 w) (Ax : Nat → Act → World → Prop) (hAx : ∀ x a', OwnFrom w.heap.size (fun (_ : Unit) W => Ax x a' W))
    (hassign : ∀ (l : Nat) (k : Nat) (W : World) (K : Act → World → Prop), k < m → I k W → (∀ a' W', KeepsFrom w.heap.size W W' → I k W' → Ax k a' W' → K a' W') →
      assign.wpIn (F.inRound l) (n - 1 - 1) P (Exit.then K (fun _ _ _ => False)) { tmps := (ps.zip (encs k)).foldl (fun t (p, v) => t.setIfInBounds p v) a.tmps, defers := [] } W)
    (hbody : ∀ (l : Nat) (k : Nat) (a' : Act) (W : World), w.heap.size ≤ l → (∃ r, W.heap[l]? = some (.loop r)) → k < m → I k W → Ax k a' W → body.wpIn (F.inRound l) (n - 1 - 1) P (numPost w.heap.size I Ix (k + 1) W) a' W)
    (hdone : ∀ (D : Nat) (W : World), w.heap.size ≤ D → I m W → W.heap[D]? = some (.deferred (some [])) → Q .normal { a with defers := { target := .collected D, args := #[] } :: a.defers } W)
    (hstop : ∀ (D : Nat) (c : Code) (k : Nat) (W : World), w.heap.size ≤ D → k ≤ m → Ix c k W → W.heap[D]? = some (.deferred (some [])) → c.wpIn F n P Q { a with defers := { target := .collected D, args := #[] } :: a.defers } W) :
    (Code.rangeFunc g ps assign body).wpIn F n P Q a w := by
  refine wpIn_rangeFunc fun fn hfn => ?_
  rw [hro]
  let rc : LoopState → Option Code → Loop := fun st pe => { state := st, pending := pe, fn, tmps := a.tmps, params := ps, assign, body, defers := w.heap.size }
  obtain ⟨W1, hW1⟩ : ∃ W1, (w.alloc (.deferred (some []))).alloc (.loop (rc .ready none)) = W1 := ⟨_, rfl⟩
  have bk1 : Books W1 w.heap.size (rc .ready none) := by
    rw [← hW1]
    refine ⟨?_, (Below.heap_alloc _ _ _ (by simp)).trans (World.alloc_heap_new w _)⟩
    have := World.alloc_heap_new (w.alloc (.deferred (some []))) (.loop (rc .ready none))
    rwa [World.size_alloc] at this
  have hsz : w.heap.size ≤ W1.heap.size := by rw [← hW1]; simp; omega
  have bel : Below w0.heap.size w0 W1 := by
    rw [← hW1]; exact hb0.trans ((((Below.refl _ w).alloc (Nat.le_refl _) _).alloc (by simp) _).mono hb0.size)
  have I1 : I 0 W1 := by rw [← hW1]; exact hI.alloc _ (hI.alloc _ h0)
  have walk : ∀ {A : World} {row : Option Nat}, (∀ r, row = some r → W1.heap.size ≤ r ∧ ∃ o : Obj, A.heap[r]? = some o ∧ o.isWalk = true) →
      (∀ r, row = some r → w.heap.size ≤ r ∧ ∃ o : Obj, A.heap[r]? = some o ∧ o.isCells = false) ∧ (∀ r, row = some r → ∃ o : Obj, A.heap[r]? = some o ∧ o.isWalk = true) := fun hr =>
    ⟨fun r e => by obtain ⟨h, o, ho, hw⟩ := hr r e; exact ⟨Nat.le_trans hsz h, o, ho, Obj.not_cells_of_walk hw⟩, fun r e => (hr r e).2⟩
  refine ⟨w.heap.size + 1, _, W1, { target := .fn (.func gf) lb, args := #[.func (.yield (w.heap.size + 1)) #[] #[]] }, W1, gf, #[.func (.yield (w.heap.size + 1)) #[] #[]] ++ lb, W1,
    hW1 ▸ run_enterLoop_outer fn _ _ _ _, by simp only [resolve, hg]; simp [go_sem], fun f' hf' => by simp [Target.leads] at hf'; subst hf'; exact hFg, by simp [invoke, go_sem, eg], fun _ => h1, ?_⟩
  refine (hseq (w.heap.size + 1) (fun k W => I k W ∧ Books W w.heap.size (rc .ready none)) (fun k W => ∃ c, Ix c k W ∧ Books W w.heap.size (rc .done (some c))) W1 bel (fun _ _ h => hR _ _ h.1)
    (fun s A B row hs hgr hr => ⟨hI s A B row hs.1 hgr (walk hr).1, hs.2.kept hgr (walk hr).2⟩)
    (fun s A B row hs hgr hr => by obtain ⟨c, hc, hb⟩ := hs; exact ⟨c, hIx c s A B row hc hgr (walk hr).1, hb.kept hgr (walk hr).2⟩) ?_ ⟨I1, bk1⟩).mono ?_
  · rintro k W hkm ⟨hi, bk⟩
    have hy := run_yield (P := P) (args := encs k) bk.loop (hps k)
    refine ⟨fn, _, assign, body, hy, roundIn_of_wpIn hfn (hassign _ k W _ hkm hi ?_)⟩
    clear hy
    intro a' Wa hkf hia hax
    replace bk := bk.from hkf
    refine ⟨_, run_beginRound bk.loop rfl, ?_⟩
    have bk2 := bk.put (rc .busy none)
    refine wpIn_mono (hbody _ k a' _ (by omega) ⟨_, bk2.loop⟩ hkm (hI.putObj _ hia (by omega) bk.loop rfl) ((hAx k a').putObj (s := ()) _ hax (by omega) bk.loop rfl)) ?_
    have out : ∀ (j : Option Code) (W3 : World), KeepsFrom w.heap.size (Wa.putObj (w.heap.size + 1) (.loop (rc .busy none))) W3 → (Instr.endRound (w.heap.size + 1) j).run P W3 = .ok (.bool j.isNone) (W3.putObj (w.heap.size + 1) (.loop (rc (if j.isNone then .ready else .done) j))) ∧
        W3.heap[w.heap.size + 1]? = some (.loop (rc .busy none)) ∧ Books (W3.putObj (w.heap.size + 1) (.loop (rc (if j.isNone then .ready else .done) j))) w.heap.size (rc (if j.isNone then .ready else .done) j) := fun j W3 hk =>
      ⟨run_endRound j (bk2.from hk).loop, (bk2.from hk).loop, (bk2.from hk).put _⟩
    rintro (_ | id | t | _ | ch | _) a3 W3 hp
    · obtain ⟨hk, hi3⟩ := hp
      obtain ⟨h2, h3, h4⟩ := out none W3 hk
      exact ⟨_, _, h2, .inl ⟨rfl, hI.putObj _ hi3 (by omega) h3 rfl, h4⟩⟩
    · obtain ⟨hk, hi3⟩ := hp
      obtain ⟨h2, h3, h4⟩ := out (some (.exit id)) W3 hk
      exact ⟨_, _, h2, .inr ⟨rfl, _, (hIx _).putObj _ hi3 (by omega) h3 rfl, h4⟩⟩
    · obtain ⟨hk, hi3⟩ := hp
      obtain ⟨h2, h3, h4⟩ := out (some (.goto t)) W3 hk
      exact ⟨_, _, h2, .inr ⟨rfl, _, (hIx _).putObj _ hi3 (by omega) h3 rfl, h4⟩⟩
    · obtain ⟨hk, hi3⟩ := hp
      obtain ⟨h2, h3, h4⟩ := out (some .ret) W3 hk
      exact ⟨_, _, h2, .inr ⟨rfl, _, (hIx _).putObj _ hi3 (by omega) h3 rfl, h4⟩⟩
    · exact hp.elim
    · exact hp.elim
  · rintro e W2 ⟨⟨v, rfl⟩, ⟨hi, bk⟩ | ⟨k, hk, c, hi, bk⟩⟩
    · exact ⟨none, _, run_endLoop bk.loop (by simp [rc]), hdone _ _ (Nat.le_refl _) (hI.putObj _ hi (by omega) bk.loop rfl) (bk.put _).defers⟩
    · exact ⟨some c, _, run_endLoop bk.loop (by simp [rc]), hstop _ c k _ (Nat.le_refl _) hk ((hIx c).putObj _ hi (by omega) bk.loop rfl) (bk.put _).defers⟩
end Go.Proofs.Ytiidfffedoekiaa
