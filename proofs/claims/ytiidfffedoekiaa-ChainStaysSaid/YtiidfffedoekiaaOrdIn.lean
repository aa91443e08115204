/- A region that draws its order, in an iterator of one's own: what only reads is taken ahead, then the rest as it stands, inside the wide fence. No program is named. -/
import Derived.Test.YtiidfffedoekiaaOrd
namespace Go.Proofs.Ytiidfffedoekiaa
open Go.RowKit
set_option linter.unusedVariables false

section
variable {P : Program} {ops : Array Oper} {Q : Exit → Act → World → Prop} {md : Region.Mode} {S : World → Prop} {m : Nat}

/-- None of these. -/
def NoExit : Exit → Act → World → Prop := fun _ _ _ => False
theorem op_wideN {o : Oper} {a : Act} {w : World} {K : Act → World → Prop} (hd : ∀ c, o.op ≠ .defer c) (h : o.wp P a w K NoExit) : o.wpIn Fence.wide m P a w K Q := by
  unfold Oper.wpIn
  refine ⟨fun _ _ => trivial, ?_⟩
  rw [Oper.semAt_eq _ _ _ hd]
  unfold Oper.wp at h
  generalize (execOp a.eval o).run P w = r at *
  cases r with
  | ok x w' =>
    cases x <;> simp only [Oper.upon, Oper.uponIn] at h ⊢ <;>
      first
        | exact h
        | exact ⟨fun e => by simp [Fence.wide] at e, callsIn_wide.2 (h.mono fun e w'' he => by cases e <;> first | exact he | exact he.elim | (obtain ⟨_, _, h'⟩ := he; exact h'.elim))⟩
        | exact ⟨fun e => by simp [Fence.wide] at e, fun c cs _ => let ⟨v, w', r, s⟩ := h c cs; ⟨v, w', r, stepsIn_wide.2 s⟩⟩
        | exact h.elim
  | halt x w' => cases x <;> simp only [Oper.upon, Oper.uponIn] at h ⊢ <;> first | exact h | exact h.elim
theorem opAt_wideN {i : Nat} {a : Act} {w : World} {K : Act → World → Prop} (hd : noDefer ops = true) (h : wpOp P ops NoExit i K a w) : wpOpIn Fence.wide m P ops Q i K a w := by
  unfold wpOp at h
  unfold wpOpIn
  cases ho : ops[i]? with
  | none => simpa [ho] using h
  | some o =>
    simp only [ho] at h ⊢
    by_cases hw : Region.wanted o (yielded ops a.tmps) = true
    · simp only [hw, if_true] at h ⊢
      rcases h with h | h
      · exact op_wideN (noDefer_spec hd ho) h
      · obtain ⟨_, _, _, h'⟩ := h; exact h'.elim
    · simp only [hw] at h ⊢
      exact ⟨fun _ _ => trivial, h⟩
theorem anyIn_of_M {n g : Nat} {L : Array Bool → Act → World → Prop} (hd : noDefer ops = true) (hL : ∀ listed a w, L listed a w → wpAnyIn Fence.wide m P md ops Q g listed a w) :
    ∀ (f : Nat) (listed : Array Bool) (a : Act) (w : World), wpAnyM P md ops NoExit S n L f listed a w → wpAnyIn Fence.wide m P md ops Q (f + g) listed a w
  | 0, listed, a, w, h => by rw [Nat.zero_add]; exact hL _ _ _ h
  | f + 1, listed, a, w, h => by
    rw [show f + 1 + g = (f + g) + 1 by omega]
    exact ⟨fun h0 => absurd h0 h.1, fun i hi => wpOpIn_mono (fun a' w' h' => anyIn_of_M hd hL f _ a' w' h'.2) (opAt_wideN hd (h.2 i hi).2)⟩
theorem anyIn_of_seq : ∀ (l : List Oper) (k : Nat) (listed : Array Bool) (a : Act) (w : World), (∀ j, l[j]? = ops[k + j]?) →
    Region.seqB md ops l.length k listed = true → wpListIn Fence.wide m P ops Q l a w → wpAnyIn Fence.wide m P md ops Q l.length listed a w
  | [], _, _, _, _, _, hB, h => ⟨by simpa [Region.seqB] using hB, h⟩
  | o :: l, k, listed, a, w, hl, hB, h => by
    have h0 : ops[k]? = some o := by simpa using (hl 0).symm
    simp only [List.length_cons, Region.seqB, Bool.and_eq_true, decide_eq_true_eq] at hB
    refine ⟨fun h1 => (by rw [hB.1] at h1; cases h1), fun i hi => ?_⟩
    rw [hB.1] at hi
    have hik : i = k := by simpa using hi
    subst hik
    have hw : wpOpIn Fence.wide m P ops Q i (wpListIn Fence.wide m P ops Q l) a w := by unfold wpOpIn; simp only [h0]; exact h
    exact wpOpIn_mono (fun a' w' h' => anyIn_of_seq l (i + 1) _ a' w' (fun j => by have := hl (j + 1); simpa [Nat.add_assoc, Nat.add_comm 1 j] using this) hB.2 h') hw
/-- What only reads, one by one. -/
def wpTakes (P : Program) (l : List Oper) (S : World → Prop) (K : Act → Prop) : List Nat → Act → Prop
  | [], a => K a
  | i :: is, a => wpQuiet P l.toArray S (fun a' => wpTakes P l S K is a') [nth l i] a
theorem wpTakes_nil {l : List Oper} {K : Act → Prop} {a : Act} : wpTakes P l S K [] a = K a := rfl
theorem wpTakes_cons {l : List Oper} {K : Act → Prop} {i : Nat} {is : List Nat} {a : Act} : wpTakes P l S K (i :: is) a = wpQuiet P l.toArray S (fun a' => wpTakes P l S K is a') [nth l i] a := rfl
theorem wpAnyM_takes {l : List Oper} {n : Nat} (hsel : Region.noSelect l.toArray = true) (hs : Region.sinkB md l.toArray n = true) (hc : Region.chainB md l.toArray n = true) (hn : n < l.length) (K : Act → World → Prop) :
    ∀ (is : List Nat) (f : Nat) (listed : Array Bool) (a : Act) (w : World), HeadInv md l.toArray n listed → planB md l n (Plan.takes is .leaf) f listed = true → S w → wpTakes P l S (fun a' => K a' w) is a →
      wpAnyM P md l.toArray NoExit S n (fun listed' a' w' => Region.seqB md l.toArray (l.length - n) n listed' = true ∧ K a' w') f listed a w := by
  have hn' : n < l.toArray.size := by simpa using hn
  intro is
  induction is with
  | nil =>
    intro f listed a w inv hB hS h
    have hB' : planB md l n .leaf f listed = true := hB
    simp only [planB, Bool.and_eq_true, decide_eq_true_eq] at hB'
    obtain ⟨rfl, hB'⟩ := hB'
    exact ⟨hB', h⟩
  | cons i is ih =>
    intro f listed a w inv hB hS h
    have hB' : planB md l n (.take i (Plan.takes is .leaf)) f listed = true := hB
    simp only [planB, Bool.and_eq_true, decide_eq_true_eq] at hB'
    obtain ⟨⟨⟨⟨⟨hf, hin⟩, hrd⟩, hr⟩, hfr⟩, hB'⟩ := hB'
    obtain ⟨f, rfl⟩ : ∃ g, f = g + 1 := ⟨f - 1, by omega⟩
    have ho : l.toArray[i]? = some (nth l i) := by simpa using nth_get l i (by omega)
    have hr' : i ∈ Region.ready md l.toArray listed := by simpa using hr
    simp only [wpTakes, wpQuiet] at h
    obtain ⟨v, hy, hK⟩ := yieldsIf_of_quiet (i := i) hrd ⟨w, hS⟩ h
    exact wpAnyM_first ho (Region.noSelect_spec hsel) (fun c a w h => h) hs hc hn' hin (fun listed a w hL => seqB_ready hL.1) f listed a w inv (Region.free_spec ho hfr) hr' hy hS
      (ih f _ _ w (inv.set hr' hin) (by simpa using hB') hS hK)
/-- **A REGION THAT DRAWS, in an iterator: some reads ahead, the rest in order.** -/
theorem region_takes_in {id : Nat} {a : Act} {w : World} {l : List Oper} (S : World → Prop) (n : Nat) (is : List Nat) (hm : P.follows .mixedOrders = true) (hd : noDefer l.toArray = true) (hB : planOk l n (Plan.takes is .leaf) = true) (hS : S w.drew)
    (h : wpTakes P l S (fun a' => wpListIn Fence.wide m P l.toArray Q (l.drop n) a' w.drew) is a) : (Code.region id l.toArray true).wpIn Fence.wide m P Q a w := by
  simp only [planOk, Bool.and_eq_true, decide_eq_true_eq] at hB
  obtain ⟨⟨⟨⟨hsel, hn⟩, hs⟩, hc⟩, hp⟩ := hB
  have inv0 : HeadInv .any l.toArray n (Array.replicate l.toArray.size false) :=
    ⟨by simp, fun j oj _ hl => (by rw [getD_replicate_false] at hl; cases hl), fun t _ ht => getD_in (by simpa using ht) (getD_replicate_false _ _)⟩
  have H := wpAnyM_takes (md := .any) hsel hs hc hn (fun a' w' => wpListIn Fence.wide m P l.toArray Q (l.drop n) a' w') is n _ a w.drew inv0 (by simpa using hp) hS h
  refine wpIn_region_any hm ?_
  have := anyIn_of_M (g := l.length - n) hd (fun listed a' w' hL => by
    have := anyIn_of_seq (m := m) (md := .any) (Q := Q) (l.drop n) n listed a' w' (fun j => by simp [List.getElem?_drop]) (by rw [List.length_drop]; exact hL.1) hL.2
    rwa [List.length_drop] at this) _ _ _ _ H
  rw [show n + (l.length - n) = l.toArray.size by simp; omega] at this
  exact this
end
end Go.Proofs.Ytiidfffedoekiaa
