/- The developers' Cut. -/
import Derived.Test.YtnffaekbldcphaaPgChk
import Derived.Test.YtnffaekbldcphaaPgRefC
import Derived.Test.YtnffaekbldcphaaPgCnt
namespace Go.Proofs.Ytnffaekbldcphaa
open Go.RowKit Go.Shelf
set_option linter.unusedVariables false

/-- A region in order, in a round of a loop over a function: walked as it stands. -/
theorem list_round {l₀ n : Nat} {P : Program} {ops : Array Oper} {Q : Exit → Act → World → Prop} (hL : ¬ LetsOut Q) : ∀ (l : List Oper) (a : Act) (w : World), (∀ o ∈ l, ∀ c, o.op ≠ .defer c) → wpList P ops Q l a w → wpListIn (Fence.wide.inRound l₀) n P ops Q l a w
  | [], _, _, _, h => h
  | o :: rest, a, w, hd, h => by
    have hd' : ∀ o ∈ rest, ∀ c, o.op ≠ .defer c := fun o ho => hd o (List.mem_cons_of_mem _ ho)
    unfold wpList at h
    unfold wpListIn
    by_cases hw : Region.wanted o (yielded ops a.tmps) = true
    · rw [if_pos hw] at h ⊢
      rcases h with h | h
      · exact op_round (hd o List.mem_cons_self) (Oper.wp_mono (fun a' w' => list_round hL rest a' w' hd') h)
      · exact absurd h.2 hL
    · rw [if_neg hw] at h ⊢
      exact ⟨fun _ _ => trivial, list_round hL rest _ _ hd' h⟩
theorem region_seq_round {l₀ n id : Nat} {P : Program} {l : List Oper} {Q : Exit → Act → World → Prop} {a : Act} {w : World} (hL : ¬ LetsOut Q) (hd : noDefer l.toArray = true) (h : wpList P l.toArray Q l a w) : (Code.region id l.toArray false).wpIn (Fence.wide.inRound l₀) n P Q a w :=
  wpIn_region_lit (list_round hL l a w (fun o ho => by
    obtain ⟨i, hi⟩ := List.getElem?_of_mem ho
    exact noDefer_spec hd (i := i) (by simpa using hi)) h)
theorem letsOut_then {K : Act → World → Prop} {Q : Exit → Act → World → Prop} (h : ¬ LetsOut Q) : ¬ LetsOut (Exit.then K Q) := fun ⟨a, w, e⟩ => h ⟨a, w, e⟩

theorem row_slice {W : World} {base sz n : Nat} {e : TypeId} {v : Value} {xs : List Value} (h : W.ownsRow base e sz v n xs) : ∃ ra n c, v = .slice ra n c := by
  rcases h.2 with ⟨rfl, _⟩ | ⟨g, cap, cur, rfl, _⟩
  · exact ⟨_, _, _, rfl⟩
  · exact ⟨_, _, _, rfl⟩
theorem row_cells {W : World} {base sz n j : Nat} {e : TypeId} {v : Value} {xs : List Value} {o : Obj} (h : W.ownsRow base e sz v n xs) (hj : v.ownBlock = some j) (ho : W.heap[j]? = some o) : o.isCells = true := by
  rcases h.2 with ⟨rfl, _⟩ | ⟨g, cap, cur, rfl, _, hg, _⟩
  · simp [Value.ownBlock] at hj
  · obtain rfl : g = j := by simpa [Value.ownBlock] using hj
    rw [hg] at ho
    cases ho
    rfl

attribute [-go_sem] loadVar storeVar
attribute [local go_sem] Oper.semAt_some

end Go.Proofs.Ytnffaekbldcphaa
