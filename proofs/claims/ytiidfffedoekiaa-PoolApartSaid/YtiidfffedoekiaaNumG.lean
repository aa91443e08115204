/- A range over a function whose rounds are numbered and whose iterator has memory of its own: a limit G, told at the first round, below which a round changes none of the iterator's blocks. No program is named. -/
import Derived.Test.YtiidfffedoekiaaNum
namespace Go.Proofs.Ytiidfffedoekiaa
open Go.RowKit
set_option linter.unusedVariables false

variable {F : Fence} {n : Nat} {P : Program}

/-- Blocks from B up to G lie as they lay. -/
def StayG (B G : Nat) (W W' : World) : Prop := W.heap.size ≤ W'.heap.size ∧ ∀ b, B ≤ b → b < G → W'.heap[b]? = W.heap[b]?
theorem StayG.refl (B G : Nat) (W : World) : StayG B G W W := ⟨Nat.le_refl _, fun _ _ _ => rfl⟩
theorem StayG.trans {B G : Nat} {X Y Z : World} (h : StayG B G X Y) (k : StayG B G Y Z) : StayG B G X Z := ⟨Nat.le_trans h.1 k.1, fun b h1 h2 => (k.2 b h1 h2).trans (h.2 b h1 h2)⟩
theorem StayG.put {B G l : Nat} {W : World} (o : Obj) (h : l < B) : StayG B G W (W.putObj l o) := ⟨by simp, fun b h1 h2 => World.putObj_heap_other (by omega)⟩
theorem StayG.grown {B G : Nat} {W W' : World} {row : Option Nat} (hg : W.grownBy W' row) (hG : G ≤ W.heap.size) (hr : ∀ r, row = some r → r < B ∨ G ≤ r) : StayG B G W W' := ⟨hg.size, fun b h1 h2 => hg.block b (by omega) (fun e => by have := hr b e.symm; omega)⟩
/-- What an iterator of m items owes to a caller whose rounds keep R. -/
def SeqNumG (F : Fence) (n : Nat) (P : Program) (g : Nat) (lb : Array Value) (encs : Nat → Array Value) (R : World → Prop) (m : Nat) (w : World) : Prop :=
  ∀ (l : Nat) (J Jx : Nat → Nat → World → Prop) (W : World), Below w.heap.size w W → (∀ G k W, J G k W → R W) → (∀ G, AbidesFrom W.heap.size (J G)) → (∀ G, AbidesFrom W.heap.size (Jx G)) →
    (∀ G k W1, W.heap.size ≤ G → G ≤ W1.heap.size → k < m → J G k W1 → YieldAt F (n - 1) P l (encs k) W1 fun e W' => StayG W.heap.size G W1 W' ∧ ((e = .returned (.bool true) ∧ J G (k + 1) W') ∨ (e = .returned (.bool false) ∧ Jx G (k + 1) W'))) →
    (∀ G, W.heap.size ≤ G → J G 0 W) →
    CallsIn F n P g (#[.func (.yield l) #[] #[]] ++ lb) W fun e W' => (∃ v, e = .returned v) ∧ ∃ G, W.heap.size ≤ G ∧ (J G m W' ∨ (∃ k, k ≤ m ∧ Jx G k W'))

/-- How a round may be left. -/
def numPostG (B G : Nat) (I : Nat → World → Prop) (Ix : Code → Nat → World → Prop) (k : Nat) (W : World) : Exit → Act → World → Prop
  | .normal, _, W' => (KeepsFrom B W W' ∧ StayG (B + 2) G W W') ∧ I k W'
  | .ret, _, W' => (KeepsFrom B W W' ∧ StayG (B + 2) G W W') ∧ Ix .ret k W'
  | .exit id, _, W' => (KeepsFrom B W W' ∧ StayG (B + 2) G W W') ∧ Ix (.exit id) k W'
  | .goto t, _, W' => (KeepsFrom B W W' ∧ StayG (B + 2) G W W') ∧ Ix (.goto t) k W'
  | .panic _, _, _ => False
  | .outgrown, _, _ => False

/-- **A loop over such an iterator.** -/
theorem wpIn_rangeFunc_numG {g : Operand} {ps : Array Tmp} {assign body : Code} {Q : Exit → Act → World → Prop} {a : Act} {w : World}
    (hro : F.round = none) (h1 : 1 ≤ n) {gf : Nat} {lb : Array Value} (hg : a.eval g = .func (.func gf) #[] lb) (hFg : F.fn gf) (eg : ∀ args w, (callFunc gf args).run P w = .ok (.enter gf args) w)
    {encs : Nat → Array Value} {R : World → Prop} {m : Nat} {w0 : World} (hseq : SeqNumG F (n - 1) P gf lb encs R m w0)
    (hb0 : Below w0.heap.size w0 w) (hps : ∀ x, (encs x).size = ps.size)
    (I : Nat → Nat → World → Prop) (Ix : Nat → Code → Nat → World → Prop) (hR : ∀ G k W, I G k W → R W) (hI : ∀ G, OwnFrom w.heap.size (I G)) (hIx : ∀ G c, OwnFrom w.heap.size (Ix G c)) (h0 : ∀ G, w.heap.size + 2 ≤ G → I G 0 w) (Ax : Nat → Act → World → Prop) (hAx : ∀ x a', OwnFrom w.heap.size (fun (_ : Unit) W => Ax x a' W))
    (hassign : ∀ (l : Nat) (G k : Nat) (W : World) (K : Act → World → Prop), w.heap.size + 2 ≤ G → G ≤ W.heap.size → k < m → I G k W → (∀ a' W', KeepsFrom w.heap.size W W' → StayG (w.heap.size + 2) G W W' → I G k W' → Ax k a' W' → K a' W') →
      assign.wpIn (F.inRound l) (n - 1 - 1) P (Exit.then K (fun _ _ _ => False)) { tmps := (ps.zip (encs k)).foldl (fun t (p, v) => t.setIfInBounds p v) a.tmps, defers := [] } W)
    (hbody : ∀ (l : Nat) (G k : Nat) (a' : Act) (W : World), w.heap.size ≤ l → (∃ r, W.heap[l]? = some (.loop r)) → w.heap.size + 2 ≤ G → G ≤ W.heap.size → k < m → I G k W → Ax k a' W → body.wpIn (F.inRound l) (n - 1 - 1) P (numPostG w.heap.size G (I G) (Ix G) (k + 1) W) a' W)
    (hdone : ∀ (D G : Nat) (W : World), w.heap.size ≤ D → w.heap.size + 2 ≤ G → I G m W → W.heap[D]? = some (.deferred (some [])) → Q .normal { a with defers := { target := .collected D, args := #[] } :: a.defers } W)
    (hstop : ∀ (D : Nat) (c : Code) (G k : Nat) (W : World), w.heap.size ≤ D → w.heap.size + 2 ≤ G → k ≤ m → Ix G c k W → W.heap[D]? = some (.deferred (some [])) → c.wpIn F n P Q { a with defers := { target := .collected D, args := #[] } :: a.defers } W) :
    (Code.rangeFunc g ps assign body).wpIn F n P Q a w := by
  refine wpIn_rangeFunc fun fn hfn => ?_
  rw [hro]
  let rc : LoopState → Option Code → Loop := fun st pe => { state := st, pending := pe, fn, tmps := a.tmps, params := ps, assign, body, defers := w.heap.size }
  obtain ⟨W1, hW1⟩ : ∃ W1, (w.alloc (.deferred (some []))).alloc (.loop (rc .ready none)) = W1 := ⟨_, rfl⟩
  have bk1 : Books W1 w.heap.size (rc .ready none) := by
    rw [← hW1]
    refine ⟨?_, (Below.heap_alloc _ _ _ (by simp)).trans (World.alloc_heap_new w _)⟩
    have := World.alloc_heap_new (w.alloc (.deferred (some []))) (.loop (rc .ready none))
    rwa [World.size_alloc] at this
  have hsz : w.heap.size ≤ W1.heap.size := by rw [← hW1]; simp; omega
  have bel : Below w0.heap.size w0 W1 := by
    rw [← hW1]; exact hb0.trans ((((Below.refl _ w).alloc (Nat.le_refl _) _).alloc (by simp) _).mono hb0.size)
  have hsz2 : W1.heap.size = w.heap.size + 2 := by rw [← hW1]; simp
  have I1 : ∀ G, w.heap.size + 2 ≤ G → I G 0 W1 := fun G hG => by rw [← hW1]; exact (hI G).alloc _ ((hI G).alloc _ (h0 G hG))
  have walk : ∀ {A : World} {row : Option Nat}, (∀ r, row = some r → W1.heap.size ≤ r ∧ ∃ o : Obj, A.heap[r]? = some o ∧ o.isWalk = true) →
      (∀ r, row = some r → w.heap.size ≤ r ∧ ∃ o : Obj, A.heap[r]? = some o ∧ o.isCells = false) ∧ (∀ r, row = some r → ∃ o : Obj, A.heap[r]? = some o ∧ o.isWalk = true) := fun hr =>
    ⟨fun r e => by obtain ⟨h, o, ho, hw⟩ := hr r e; exact ⟨Nat.le_trans hsz h, o, ho, Obj.not_cells_of_walk hw⟩, fun r e => (hr r e).2⟩
  refine ⟨w.heap.size + 1, _, W1, { target := .fn (.func gf) lb, args := #[.func (.yield (w.heap.size + 1)) #[] #[]] }, W1, gf, #[.func (.yield (w.heap.size + 1)) #[] #[]] ++ lb, W1,
    hW1 ▸ run_enterLoop_outer fn _ _ _ _, by simp only [resolve, hg]; simp [go_sem], fun f' hf' => by simp [Target.leads] at hf'; subst hf'; exact hFg, by simp [invoke, go_sem, eg], fun _ => h1, ?_⟩
  refine (hseq (w.heap.size + 1) (fun G k W => I G k W ∧ Books W w.heap.size (rc .ready none)) (fun G k W => ∃ c, Ix G c k W ∧ Books W w.heap.size (rc .done (some c))) W1 bel (fun _ _ _ h => hR _ _ _ h.1)
    (fun G s A B row hs hgr hr => ⟨hI G s A B row hs.1 hgr (walk hr).1, hs.2.kept hgr (walk hr).2⟩)
    (fun G s A B row hs hgr hr => by obtain ⟨c, hc, hb⟩ := hs; exact ⟨c, hIx G c s A B row hc hgr (walk hr).1, hb.kept hgr (walk hr).2⟩) ?_ (fun G hG => ⟨I1 G (by omega), bk1⟩)).mono ?_
  · rintro G k W hG hG2 hkm ⟨hi, bk⟩
    rw [hsz2] at hG ⊢
    have hy := run_yield (P := P) (args := encs k) bk.loop (hps k)
    refine ⟨fn, _, assign, body, hy, roundIn_of_wpIn hfn (hassign _ G k W _ hG hG2 hkm hi ?_)⟩
    clear hy
    intro a' Wa hkf hsta hia hax
    replace bk := bk.from hkf
    refine ⟨_, run_beginRound bk.loop rfl, ?_⟩
    have bk2 := bk.put (rc .busy none)
    refine wpIn_mono (hbody _ G k a' _ (by omega) ⟨_, bk2.loop⟩ hG (by simp; have := hsta.1; omega) hkm ((hI G).putObj _ hia (by omega) bk.loop rfl) ((hAx k a').putObj (s := ()) _ hax (by omega) bk.loop rfl)) ?_
    have out : ∀ (j : Option Code) (W3 : World), KeepsFrom w.heap.size (Wa.putObj (w.heap.size + 1) (.loop (rc .busy none))) W3 → (Instr.endRound (w.heap.size + 1) j).run P W3 = .ok (.bool j.isNone) (W3.putObj (w.heap.size + 1) (.loop (rc (if j.isNone then .ready else .done) j))) ∧
        W3.heap[w.heap.size + 1]? = some (.loop (rc .busy none)) ∧ Books (W3.putObj (w.heap.size + 1) (.loop (rc (if j.isNone then .ready else .done) j))) w.heap.size (rc (if j.isNone then .ready else .done) j) := fun j W3 hk =>
      ⟨run_endRound j (bk2.from hk).loop, (bk2.from hk).loop, (bk2.from hk).put _⟩
    rintro (_ | id | t | _ | ch | _) a3 W3 hp
    · obtain ⟨⟨hk, hst3⟩, hi3⟩ := hp
      have hS := (hsta.trans (StayG.put (l := w.heap.size + 1) (Obj.loop (rc .busy none)) (by omega))).trans hst3
      obtain ⟨h2, h3, h4⟩ := out none W3 hk
      exact ⟨_, _, h2, hS.trans (StayG.put _ (by omega)), .inl ⟨rfl, (hI G).putObj _ hi3 (by omega) h3 rfl, h4⟩⟩
    · obtain ⟨⟨hk, hst3⟩, hi3⟩ := hp
      have hS := (hsta.trans (StayG.put (l := w.heap.size + 1) (Obj.loop (rc .busy none)) (by omega))).trans hst3
      obtain ⟨h2, h3, h4⟩ := out (some (.exit id)) W3 hk
      exact ⟨_, _, h2, hS.trans (StayG.put _ (by omega)), .inr ⟨rfl, _, (hIx G _).putObj _ hi3 (by omega) h3 rfl, h4⟩⟩
    · obtain ⟨⟨hk, hst3⟩, hi3⟩ := hp
      have hS := (hsta.trans (StayG.put (l := w.heap.size + 1) (Obj.loop (rc .busy none)) (by omega))).trans hst3
      obtain ⟨h2, h3, h4⟩ := out (some (.goto t)) W3 hk
      exact ⟨_, _, h2, hS.trans (StayG.put _ (by omega)), .inr ⟨rfl, _, (hIx G _).putObj _ hi3 (by omega) h3 rfl, h4⟩⟩
    · obtain ⟨⟨hk, hst3⟩, hi3⟩ := hp
      have hS := (hsta.trans (StayG.put (l := w.heap.size + 1) (Obj.loop (rc .busy none)) (by omega))).trans hst3
      obtain ⟨h2, h3, h4⟩ := out (some .ret) W3 hk
      exact ⟨_, _, h2, hS.trans (StayG.put _ (by omega)), .inr ⟨rfl, _, (hIx G _).putObj _ hi3 (by omega) h3 rfl, h4⟩⟩
    · exact hp.elim
    · exact hp.elim
  · rintro e W2 ⟨⟨v, rfl⟩, G, hG, ⟨hi, bk⟩ | ⟨k, hk, c, hi, bk⟩⟩
    · exact ⟨none, _, run_endLoop bk.loop (by simp [rc]), hdone _ G _ (Nat.le_refl _) (by omega) ((hI G).putObj _ hi (by omega) bk.loop rfl) (bk.put _).defers⟩
    · exact ⟨some c, _, run_endLoop bk.loop (by simp [rc]), hstop _ c G k _ (Nat.le_refl _) (by omega) hk ((hIx G c).putObj _ hi (by omega) bk.loop rfl) (bk.put _).defers⟩
end Go.Proofs.Ytiidfffedoekiaa
