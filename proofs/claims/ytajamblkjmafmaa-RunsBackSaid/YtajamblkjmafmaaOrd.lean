/- A region that draws its order, walked in an order of one's own choice: what only reads is taken ahead, under a condition that all else keeps; what makes or writes is carried out as it may come up. No program is named. -/
import Derived.OrdersHeld
import Derived.StillTail
import Derived.BigQuiet
import Derived.Below
import Derived.OwnWalk
import Derived.WalkKit
import Derived.Test.YtajamblkjmafmaaRegion
namespace Go.Proofs.Ytajamblkjmafmaa
open Go.RowKit
set_option linter.unusedVariables false

/-- What hands back a value, if anything. -/
def readOp : Op → Bool
  | .move _ | .assign _ | .pick .. | .load .. | .binOp .. | .unOp .. | .convert .. | .fieldAddr .. | .field .. | .indexAddr .. | .index .. | .extract .. | .build .. | .slice .. | .nilCheck _ => true
  | .call { callee := .builtin .len, .. } => true
  | _ => false

theorem andThen_value {α : Type} {s : Result α} {f : α → Value} {n : Next} {w' : World} (h : (s.andThen fun v w => Result.ok (Next.value (f v)) w) = .ok n w') : ∃ v, n = .value v := by
  cases s with
  | ok v w => simp [Result.andThen] at h; exact ⟨_, h.1.symm⟩
  | halt x w => simp [Result.andThen] at h

theorem andThen_any {α : Type} {s : Result α} {g : α → World → Result Next} {n : Next} {w' : World} (hg : ∀ a w n w', g a w = .ok n w' → ∃ v, n = .value v) (h : s.andThen g = .ok n w') : ∃ v, n = .value v := by
  cases s with
  | ok v w => exact hg _ _ _ _ h
  | halt x w => simp [Result.andThen] at h

section
variable {P : Program} {ops : Array Oper} {Q : Exit → Act → World → Prop} {md : Region.Mode} {S : World → Prop}

theorem readOp_value {o : Oper} {ρ : Operand → Value} {w w' : World} {n : Next} (h : readOp o.op = true) (hr : (execOp ρ o).run P w = .ok n w') : ∃ v, n = .value v := by
  obtain ⟨dst, op, ty, pos, aft, gd⟩ := o
  cases op
  case nilCheck x =>
    unfold execOp at hr
    dsimp only at hr
    revert hr
    split
    · intro hr; simp [runtimePanic] at hr
    · intro hr; simp [runtimePanic] at hr
    · intro hr; simp [runtimePanic] at hr
    · split
      · intro hr; simp [runtimePanic] at hr
      · intro hr
        simp only [Sem.run_bind] at hr
        refine andThen_any (fun a w n w' hr => andThen_any (fun a w n w' hr => ?_) hr) hr
        split at hr
        · simp [unsupported] at hr
        · simp at hr; exact ⟨_, hr.1.symm⟩
      · intro hr; simp at hr; exact ⟨_, hr.1.symm⟩
    · intro hr; simp at hr; exact ⟨_, hr.1.symm⟩
  case call c =>
    obtain ⟨callee, args, at_⟩ := c
    cases callee <;> simp [readOp] at h
    rename_i b
    cases b <;> simp at h
    simp only [execOp, Sem.run_bind, resolve, invoke, builtin, Sem.run_pure, Result.andThen_ok] at hr
    exact andThen_value (f := id) hr
  all_goals first
    | (simp [readOp] at h; done)
    | (simp only [execOp, Sem.run_bind, Sem.run_pure] at hr; exact andThen_value (f := id) hr)
    | (simp only [execOp, Sem.run_bind, Sem.run_pure] at hr; exact andThen_value hr)
    | (simp [execOp] at hr; exact ⟨_, hr.1.symm⟩)
    | skip

/-- What the quiet walk shows of an operation that only reads. -/
theorem yieldsIf_of_quiet {i : Nat} {o : Oper} {a : Act} {K : Act → Prop} (hrd : readOp o.op = true) (hne : ∃ w, S w) (h : if Region.wanted o (yielded ops a.tmps) then o.quiet P a S K else K (a.put o.dst undef)) :
    ∃ v, YieldsIf P ops S o v a ∧ K (a.put o.dst v) := by
  by_cases hw : Region.wanted o (yielded ops a.tmps) = true
  · rw [if_pos hw] at h
    obtain ⟨v, h1, h2⟩ := h
    refine ⟨v, .inl ⟨hw, fun w hS => ?_⟩, h2⟩
    have h3 := h1 w hS
    unfold Oper.quietAt at h3
    cases hr : (execOp a.eval o).run P w with
    | ok n w' =>
      obtain ⟨u, rfl⟩ := readOp_value hrd hr
      rw [hr] at h3
      obtain ⟨rfl, rfl⟩ := h3
      rfl
    | halt x w' => rw [hr] at h3; exact h3.elim
  · rw [if_neg hw] at h
    exact ⟨undef, .inr ⟨by simpa using hw, rfl⟩, h⟩

/-- The first part of a walk, in whatever order is picked: none from number n on comes up; S holds behind each; then L. -/
def wpAnyM (P : Program) (md : Region.Mode) (ops : Array Oper) (Q : Exit → Act → World → Prop) (S : World → Prop) (n : Nat) (L : Array Bool → Act → World → Prop) : Nat → Array Bool → Act → World → Prop
  | 0, listed, a, w => L listed a w
  | f + 1, listed, a, w => Region.ready md ops listed ≠ [] ∧ ∀ i ∈ Region.ready md ops listed, i < n ∧ wpOp P ops Q i (fun a' w' => S w' ∧ wpAnyM P md ops Q S n L f (listed.setIfInBounds i true) a' w') a w

theorem wpAny_of_M {n g : Nat} {L : Array Bool → Act → World → Prop} (hL : ∀ listed a w, L listed a w → wpAny P md ops Q g listed a w) :
    ∀ (f : Nat) (listed : Array Bool) (a : Act) (w : World), wpAnyM P md ops Q S n L f listed a w → wpAny P md ops Q (f + g) listed a w
  | 0, listed, a, w, h => by rw [Nat.zero_add]; exact hL _ _ _ h
  | f + 1, listed, a, w, h => by
    rw [show f + 1 + g = (f + g) + 1 by omega]
    exact ⟨fun h0 => absurd h0 h.1, fun i hi => wpOp_mono (fun a' w' h' => wpAny_of_M hL f _ a' w' h'.2) (h.2 i hi).2⟩

theorem wpAnyM_first {n i : Nat} {oi : Oper} {v : Value} {L : Array Bool → Act → World → Prop} (hi : ops[i]? = some oi) (hsel : ∀ (j : Nat) (o : Oper) cs b, ops[j]? = some o → o.op ≠ .select cs b)
    (hQ : ∀ c a w, Q (.panic c) (a.put oi.dst v) w → Q (.panic c) a w)
    (hs : Region.sinkB md ops n = true) (hc : Region.chainB md ops n = true) (hn : n < ops.size) (hin : i < n)
    (hdone : ∀ listed a w, L listed a w → ∀ j ∈ Region.ready md ops listed, n ≤ j) :
    ∀ (f : Nat) (listed : Array Bool) (a : Act) (w : World), HeadInv md ops n listed →
      (∀ j oj, ops[j]? = some oj → j ≠ i → listed.getD j true = false → (∀ e ∈ oj.after, Region.binds md e = true → e.on ≠ i) → oi.apart ops oj = true) →
      i ∈ Region.ready md ops listed → YieldsIf P ops S oi v a → S w →
      wpAnyM P md ops Q S n L f (listed.setIfInBounds i true) (a.put oi.dst v) w → wpAnyM P md ops Q S n L (f + 1) listed a w := by
  intro f
  induction f with
  | zero =>
    intro listed a w inv _ hr hy hS H
    have hun := (mem_ready.1 hr).1
    refine ⟨fun h => (by rw [h] at hr; cases hr), fun j hj => ?_⟩
    have hjn : j < n := by
      rcases Nat.lt_or_ge j n with h | h
      · exact h
      · exact absurd hj (tail_waits hs hc hn inv _ i rfl hin hun j h)
    refine ⟨hjn, ?_⟩
    by_cases hji : j = i
    · subst hji; exact hy.wpOp hi hS ⟨hS, H⟩
    · have := hdone _ _ _ H j (ready_mono hj hji)
      omega
  | succ f ih =>
    intro listed a w inv hfree hr hy hS H
    have hun := (mem_ready.1 hr).1
    refine ⟨fun h => (by rw [h] at hr; cases hr), fun j hj => ?_⟩
    have hjn : j < n := by
      rcases Nat.lt_or_ge j n with h | h
      · exact h
      · exact absurd hj (tail_waits hs hc hn inv _ i rfl hin hun j h)
    refine ⟨hjn, ?_⟩
    by_cases hji : j = i
    · subst hji; exact hy.wpOp hi hS ⟨hS, H⟩
    · have h1 := (H.2 j (ready_mono hj hji)).2
      obtain ⟨hjun, oj, hoj, hall⟩ := mem_ready.1 hj
      have hnot : ∀ e ∈ oj.after, Region.binds md e = true → e.on ≠ i := fun e he hb heq => by
        have h1 := hall e he hb
        rw [heq, getD_both hun] at h1
        cases h1
      have h2 := wpOp_putIf hoj (hfree j oj hoj hji hjun hnot) (fun cs b => hsel i oi cs b hi) (fun cs b => hsel j oj cs b hoj) hQ hy h1
      have hfree' : ∀ k ok, ops[k]? = some ok → k ≠ i → (listed.setIfInBounds j true).getD k true = false →
          (∀ e ∈ ok.after, Region.binds md e = true → e.on ≠ i) → oi.apart ops ok = true := fun k ok hk hki hun hno => by
        refine hfree k ok hk hki ?_ hno
        by_cases hjk : j = k
        · subst hjk; exact hjun
        · rw [getD_set_ne true hjk] at hun; exact hun
      refine wpOp_mono (fun a' w' h3 => ⟨h3.2.1, ih (listed.setIfInBounds j true) a' w' (inv.set hj hjn) hfree' (ready_mono hr (Ne.symm hji)) h3.1 h3.2.1 ?_⟩) h2
      rw [Array.setIfInBounds_comm _ _ hji]
      exact h3.2.2

/-- An order of one's own choice. -/
inductive Plan where
  | leaf
  | take (i : Nat) (next : Plan)
  | one (i : Nat) (next : Plan)
  | two (i j : Nat) (next1 next2 : Plan)

/-- Operation number i. -/
def nth : List Oper → Nat → Oper
  | [], _ => { dst := none, op := .move (.tmp 0), type := 0, pos := "", after := #[], guard := none }
  | o :: _, 0 => o
  | _ :: l, n + 1 => nth l n
theorem nth_zero (o : Oper) (l : List Oper) : nth (o :: l) 0 = o := rfl
theorem nth_succ (o : Oper) (l : List Oper) (n : Nat) : nth (o :: l) (n + 1) = nth l n := rfl
theorem nth_get : ∀ (l : List Oper) (i : Nat), i < l.length → l[i]? = some (nth l i)
  | [], _, h => by simp at h
  | o :: l, 0, _ => rfl
  | o :: l, n + 1, h => by rw [List.getElem?_cons_succ]; exact nth_get l n (by simpa using h)

/-- Where a part of the walk that carries out one operation has to come. -/
def planPost (S : World → Prop) (Q : Exit → Act → World → Prop) (K : Act → World → Prop) : Exit → Act → World → Prop
  | .normal, a, w => S w ∧ K a w
  | .ret, a, w => Q .ret a w
  | .exit i, a, w => Q (.exit i) a w
  | .goto t, a, w => Q (.goto t) a w
  | .panic c, a, w => Q (.panic c) a w
  | .outgrown, a, w => Q .outgrown a w

/-- The walk. -/
def wpPlan (P : Program) (l : List Oper) (Q : Exit → Act → World → Prop) (S : World → Prop) (n : Nat) : Plan → Act → World → Prop
  | .leaf, a, w => wpList P l.toArray Q (l.drop n) a w
  | .take i next, a, w => wpQuiet P l.toArray S (fun a' => wpPlan P l Q S n next a' w) [nth l i] a
  | .one i next, a, w => wpList P l.toArray (planPost S Q (wpPlan P l Q S n next)) [nth l i] a w
  | .two i j n1 n2, a, w => wpList P l.toArray (planPost S Q (wpPlan P l Q S n n1)) [nth l i] a w ∧ wpList P l.toArray (planPost S Q (wpPlan P l Q S n n2)) [nth l j] a w

/-- All of these ahead. -/
def Plan.takes : List Nat → Plan → Plan
  | [], p => p
  | i :: l, p => .take i (Plan.takes l p)

/-- May it be gone so? -/
def planB (md : Region.Mode) (l : List Oper) (n : Nat) : Plan → Nat → Array Bool → Bool
  | .leaf, f, listed => decide (f = 0) && Region.seqB md l.toArray (l.length - n) n listed
  | .take i next, f, listed => decide (0 < f) && decide (i < n) && readOp (nth l i).op && (Region.ready md l.toArray listed).contains i && Region.free md l.toArray listed i && planB md l n next (f - 1) (listed.setIfInBounds i true)
  | .one i next, f, listed => decide (0 < f) && decide (i < n) && decide (Region.ready md l.toArray listed = [i]) && planB md l n next (f - 1) (listed.setIfInBounds i true)
  | .two i j n1 n2, f, listed => decide (0 < f) && decide (i < n) && decide (j < n) && decide (Region.ready md l.toArray listed = [i, j]) && planB md l n n1 (f - 1) (listed.setIfInBounds i true) && planB md l n n2 (f - 1) (listed.setIfInBounds j true)

theorem wpPlan_leaf {l : List Oper} {n : Nat} {a : Act} {w : World} : wpPlan P l Q S n .leaf a w = wpList P l.toArray Q (l.drop n) a w := rfl
theorem wpPlan_take {l : List Oper} {n i : Nat} {p : Plan} {a : Act} {w : World} : wpPlan P l Q S n (.take i p) a w = wpQuiet P l.toArray S (fun a' => wpPlan P l Q S n p a' w) [nth l i] a := rfl
theorem wpPlan_one {l : List Oper} {n i : Nat} {p : Plan} {a : Act} {w : World} : wpPlan P l Q S n (.one i p) a w = wpList P l.toArray (planPost S Q (wpPlan P l Q S n p)) [nth l i] a w := rfl
theorem wpPlan_takes_nil {l : List Oper} {n : Nat} {p : Plan} {a : Act} {w : World} : wpPlan P l Q S n (.takes [] p) a w = wpPlan P l Q S n p a w := rfl
theorem wpPlan_takes_cons {l : List Oper} {n i : Nat} {is : List Nat} {p : Plan} {a : Act} {w : World} : wpPlan P l Q S n (.takes (i :: is) p) a w = wpQuiet P l.toArray S (fun a' => wpPlan P l Q S n (.takes is p) a' w) [nth l i] a := rfl

theorem wp_congrQ {o : Oper} {a : Act} {w : World} {K : Act → World → Prop} {Q' : Exit → Act → World → Prop} (hp : ∀ c a w, Q' (.panic c) a w → Q (.panic c) a w) (ho : ∀ a w, Q' .outgrown a w → Q .outgrown a w) (h : o.wp P a w K Q') : o.wp P a w K Q := by
  unfold Oper.wp at *
  generalize (execOp a.eval o).run P w = r at *
  cases r with
  | ok n w' =>
    cases n <;> simp only [Oper.upon] at h ⊢ <;>
      first
        | exact h
        | exact Calls.mono h (fun e w'' he => by cases e <;> first | exact he | exact hp _ _ _ he | (obtain ⟨a', w', h'⟩ := he; exact ⟨a', w', ho _ _ h'⟩))
  | halt x w' => cases x <;> simp only [Oper.upon] at h ⊢ <;> first | exact h | exact hp _ _ _ h | exact ho _ _ h

theorem wpOp_of_one {l : List Oper} {i : Nat} {K : Act → World → Prop} {a : Act} {w : World} (hi : i < l.length) (h : wpList P l.toArray (planPost S Q K) [nth l i] a w) :
    wpOp P l.toArray Q i (fun a' w' => S w' ∧ K a' w') a w := by
  have ho : l.toArray[i]? = some (nth l i) := by simpa using nth_get l i hi
  unfold wpOp
  simp only [ho]
  unfold wpList at h
  by_cases hw : Region.wanted (nth l i) (yielded l.toArray a.tmps) = true
  · rw [if_pos hw] at h ⊢
    rcases h with h | ⟨h1, a', w', h2⟩
    · exact .inl (wp_congrQ (fun _ _ _ h => h) (fun _ _ h => h) h)
    · exact .inr ⟨h1, a', w', h2⟩
  · rw [if_neg hw] at h ⊢
    exact h

theorem wpAnyM_plan {l : List Oper} {n : Nat} (hsel : Region.noSelect l.toArray = true) (hs : Region.sinkB md l.toArray n = true) (hc : Region.chainB md l.toArray n = true) (hn : n < l.length) (hQ : ∀ c (x : Option Tmp) v a w, Q (.panic c) (a.put x v) w → Q (.panic c) a w) :
    ∀ (p : Plan) (f : Nat) (listed : Array Bool) (a : Act) (w : World), HeadInv md l.toArray n listed → planB md l n p f listed = true → S w → wpPlan P l Q S n p a w →
      wpAnyM P md l.toArray Q S n (fun listed' a' w' => Region.seqB md l.toArray (l.length - n) n listed' = true ∧ wpList P l.toArray Q (l.drop n) a' w') f listed a w := by
  have hn' : n < l.toArray.size := by simpa using hn
  intro p
  induction p with
  | leaf =>
    intro f listed a w inv hB hS h
    simp only [planB, Bool.and_eq_true, decide_eq_true_eq] at hB
    obtain ⟨rfl, hB⟩ := hB
    exact ⟨hB, h⟩
  | take i next ih =>
    intro f listed a w inv hB hS h
    simp only [planB, Bool.and_eq_true, decide_eq_true_eq] at hB
    obtain ⟨⟨⟨⟨⟨hf, hin⟩, hrd⟩, hr⟩, hfr⟩, hB⟩ := hB
    obtain ⟨f, rfl⟩ : ∃ g, f = g + 1 := ⟨f - 1, by omega⟩
    have ho : l.toArray[i]? = some (nth l i) := by simpa using nth_get l i (by omega)
    have hr' : i ∈ Region.ready md l.toArray listed := by simpa using hr
    simp only [wpPlan, wpQuiet] at h
    obtain ⟨v, hy, hK⟩ := yieldsIf_of_quiet (i := i) hrd ⟨w, hS⟩ h
    exact wpAnyM_first ho (Region.noSelect_spec hsel) (fun c a w => hQ c _ v a w) hs hc hn' hin (fun listed a w hL => seqB_ready hL.1) f listed a w inv (Region.free_spec ho hfr) hr' hy hS
      (ih f _ _ w (inv.set hr' hin) (by simpa using hB) hS hK)
  | one i next ih =>
    intro f listed a w inv hB hS h
    simp only [planB, Bool.and_eq_true, decide_eq_true_eq] at hB
    obtain ⟨⟨⟨hf, hin⟩, hr⟩, hB⟩ := hB
    obtain ⟨f, rfl⟩ : ∃ g, f = g + 1 := ⟨f - 1, by omega⟩
    refine ⟨by rw [hr]; simp, fun j hj => ?_⟩
    have hj' := hj
    rw [hr] at hj
    obtain rfl : j = i := by simpa using hj
    exact ⟨hin, wpOp_mono (fun a' w' h' => ⟨h'.1, ih f _ _ w' (inv.set hj' hin) (by simpa using hB) h'.1 h'.2⟩) (wpOp_of_one (by omega) h)⟩
  | two i k n1 n2 ih1 ih2 =>
    intro f listed a w inv hB hS h
    simp only [planB, Bool.and_eq_true, decide_eq_true_eq] at hB
    obtain ⟨⟨⟨⟨⟨hf, hin⟩, hkn⟩, hr⟩, hB1⟩, hB2⟩ := hB
    obtain ⟨f, rfl⟩ : ∃ g, f = g + 1 := ⟨f - 1, by omega⟩
    obtain ⟨g1, g2⟩ := h
    refine ⟨by rw [hr]; simp, fun j hj => ?_⟩
    have hj' := hj
    rw [hr] at hj
    rcases (by simpa using hj : j = i ∨ j = k) with rfl | rfl
    · exact ⟨hin, wpOp_mono (fun a' w' h' => ⟨h'.1, ih1 f _ _ w' (inv.set hj' hin) (by simpa using hB1) h'.1 h'.2⟩) (wpOp_of_one (by omega) g1)⟩
    · exact ⟨hkn, wpOp_mono (fun a' w' h' => ⟨h'.1, ih2 f _ _ w' (inv.set hj' hkn) (by simpa using hB2) h'.1 h'.2⟩) (wpOp_of_one (by omega) g2)⟩

/-- May the region be gone so? -/
def planOk (l : List Oper) (n : Nat) (p : Plan) : Bool :=
  Region.noSelect l.toArray && decide (n < l.length) && Region.sinkB .any l.toArray n && Region.chainB .any l.toArray n && planB .any l n p n (Array.replicate l.length false)

theorem wpAny_plan {l : List Oper} {a : Act} {w : World} (S : World → Prop) (n : Nat) (p : Plan) (hB : planOk l n p = true) (hQ : ∀ c (x : Option Tmp) v a w, Q (.panic c) (a.put x v) w → Q (.panic c) a w) (hS : S w)
    (h : wpPlan P l Q S n p a w) : wpAny P .any l.toArray Q l.toArray.size (Array.replicate l.toArray.size false) a w := by
  simp only [planOk, Bool.and_eq_true, decide_eq_true_eq] at hB
  obtain ⟨⟨⟨⟨hsel, hn⟩, hs⟩, hc⟩, hp⟩ := hB
  have inv0 : HeadInv .any l.toArray n (Array.replicate l.toArray.size false) :=
    ⟨by simp, fun j oj _ hl => (by rw [getD_replicate_false] at hl; cases hl), fun t _ ht => getD_in (by simpa using ht) (getD_replicate_false _ _)⟩
  have H := wpAnyM_plan (md := .any) hsel hs hc hn hQ p n _ a w inv0 (by simpa using hp) hS h
  have := wpAny_of_M (g := l.length - n) (fun listed a' w' hL => by
    have := wpAny_of_seq (md := .any) (Q' := Q) (l.drop n) n listed a' w' (fun j => by simp [List.getElem?_drop]) (by rw [List.length_drop]; exact hL.1) hL.2
    rwa [List.length_drop] at this) _ _ _ _ H
  rw [show n + (l.length - n) = l.toArray.size by simp; omega] at this
  exact this

/-- **A REGION THAT DRAWS, in an order of one's own choice.** -/
theorem region_plan {id : Nat} {a : Act} {w : World} {l : List Oper} (S : World → Prop) (n : Nat) (p : Plan) (hm : P.follows .mixedOrders = true) (hB : planOk l n p = true) (hQ : ∀ c (x : Option Tmp) v a w, Q (.panic c) (a.put x v) w → Q (.panic c) a w) (hS : S w.drew)
    (h : wpPlan P l Q S n p a w.drew) : (Code.region id l.toArray true).wp P Q a w :=
  wp_region_any hm (wpAny_plan S n p hB hQ hS h)

/-- .. in a round of a loop over a function. -/
theorem region_plan_round {id fuel l₀ : Nat} {a : Act} {w : World} {l : List Oper} (S : World → Prop) (n : Nat) (p : Plan) (hL : ¬ LetsOut Q) (hd : noDefer l.toArray = true) (hm : P.follows .mixedOrders = true) (hB : planOk l n p = true) (hQ : ∀ c (x : Option Tmp) v a w, Q (.panic c) (a.put x v) w → Q (.panic c) a w) (hS : S w.drew)
    (h : wpPlan P l Q S n p a w.drew) : (Code.region id l.toArray true).wpIn (Fence.wide.inRound l₀) fuel P Q a w :=
  wpIn_region_any hm (any_round hL hd _ _ _ _ (wpAny_plan S n p hB hQ hS h))

/-- A slice literal whose run is known; a guard that lets it by is no bar. -/
theorem wpList_build_run {w w' : World} {ops : Array Oper} {rest : List Oper} {o : Oper} {a : Act} {Q : Exit → Act → World → Prop} (t : TypeId) (len : Nat) (parts : Array (Nat × Operand))
    (ho : o.op = .buildSlice t len parts) (hw : Region.wanted o (yielded ops a.tmps) = true) (vs : List (Nat × Value)) (v' : Value) (hs : (parts.toList.map fun (i, x) => (i, a.eval x)) = vs)
    (hrun : (Instr.buildSlice t len vs.toArray).run P w = .ok v' w') (h : wpList P ops Q rest (a.put o.dst v') w') : wpList P ops Q (o :: rest) a w := by
  unfold wpList
  rw [if_pos hw]
  refine .inl ?_
  have hs' : (parts.map fun (i, x) => (i, a.eval x)) = vs.toArray := by
    apply Array.toList_inj.1
    rw [Array.toList_map, hs]
  unfold Oper.wp
  simp only [execOp, ho, Sem.run_bind, hs', hrun, Result.andThen_ok, Sem.run_pure]
  exact h
/-- A gate for an arm: the next operation is a slice literal. -/
theorem gate_build {w : World} {ops : Array Oper} {rest : List Oper} {a : Act} {Q : Exit → Act → World → Prop} {dst : Option Tmp} {t ty : TypeId} {len : Nat} {parts : Array (Nat × Operand)} {pos : String} {after : Array Edge} {guard : Option (Nat × Bool)}
    (h : wpList P ops Q ({ dst := dst, op := .buildSlice t len parts, type := ty, pos := pos, after := after, guard := guard } :: rest) a w) :
    wpList P ops Q ({ dst := dst, op := .buildSlice t len parts, type := ty, pos := pos, after := after, guard := guard } :: rest) a w := h
/-- Where one operation has been carried out. -/
theorem planPost_mk {K : Act → World → Prop} {a : Act} {w : World} (h1 : S w) (h2 : K a w) : planPost S Q K .normal a w := ⟨h1, h2⟩
end
end Go.Proofs.Ytajamblkjmafmaa
