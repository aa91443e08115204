/- The document's Put. -/
import Derived.Test.YtiidfffedoekiaaTbRf1
namespace Go.Proofs.Ytiidfffedoekiaa
open Go.RowKit
set_option linter.unusedVariables false
set_option linter.unusedSimpArgs false
attribute [-simp] Try.isAgg42 Try.zeroValue42
attribute [-go_sem] loadVar storeVar
attribute [local go_sem] loadVar_openP storeVar_openP zero_prs build_prs0 build_prs

/-- A cut that is read alone. -/
theorem wpQuiet_slice_run {P : Program} {C : World → Prop} {ops : Array Oper} {rest : List Oper} {o : Oper} {a : Act} {Q : Act → Prop} (s : Operand) (t : TypeId) (lo hi : Option Operand)
    (ho : o.op = .slice t s lo hi none) (hw : Region.wanted o (yielded ops a.tmps) = true) (vs v' : Value) (l h : Option Value) (hs : a.eval s = vs) (hl : lo.map a.eval = l) (hh : hi.map a.eval = h)
    (hrun : ∀ x, C x → (Instr.sliceAt t vs l h none).run P x = .ok v' x) (hK : wpQuiet P ops C Q rest (a.put o.dst v')) : wpQuiet P ops C Q (o :: rest) a := by
  unfold wpQuiet
  rw [if_pos hw]
  refine ⟨v', fun x hx => ?_, hK⟩
  unfold Oper.quietAt
  simp [execOp, ho, hs, hl, hh, hrun x hx, Result.andThen]
  exact ⟨rfl, rfl⟩
theorem wpPlan_twoT {P : Program} {l : List Oper} {Q : Exit → Act → World → Prop} {S : World → Prop} {n i j : Nat} {p q : Plan} {a : Act} {w : World} : wpPlan P l Q S n (.two i j p q) a w = (wpList P l.toArray (planPost S Q (wpPlan P l Q S n p)) [nth l i] a w ∧ wpList P l.toArray (planPost S Q (wpPlan P l Q S n q)) [nth l j] a w) := rfl
theorem pr_setAt {N : Nat} {w : World} {g cap : Nat} {l : List (Int × Int)} {k : Nat} {x y z : Int} (h : PrO N w (.slice (some ⟨g, 0, none⟩) l.length cap) l) (hk : l[k]? = some (x, y)) (hz : Is64 z) :
    PrO N (w.setCell ⟨g, k * 2 + 1, none⟩ (.int .i64 z)) (.slice (some ⟨g, 0, none⟩) l.length cap) (l.set k (x, z)) ∧ w.grownBy (w.setCell ⟨g, k * 2 + 1, none⟩ (.int .i64 z)) (some g) := by
  have hlt := (List.getElem?_eq_some_iff.1 hk).1
  have hh := (h.1.stored (k * 2 + 1) (.int .i64 z)).1
  have e1 : (pcs l).set (k * 2 + 1) (.int .i64 z) = pcs (l.set k (x, z)) := by
    rw [← pcs_set (x, z) hlt]
    congr 1
    refine (List.ext_getElem? fun j => ?_)
    by_cases e : k * 2 = j
    · subst e
      rw [(pcs_get hk).1, List.getElem?_set_self (by rw [pcs_length]; omega)]
    · rw [List.getElem?_set_ne e]
  refine ⟨⟨?_, ?_⟩, grownBy_setCellJ w g _ _⟩
  · rw [e1] at hh
    rw [List.length_set]
    exact hh
  · intro q hq
    rcases List.mem_or_eq_of_mem_set hq with hq | rfl
    · exact h.2 q hq
    · exact ⟨(h.2 _ (List.mem_of_getElem? hk)).1, hz⟩

/-- An empty literal. -/
theorem lit_none (N : Nat) (x : World) (hN : N ≤ x.heap.size) : PrO N (x.alloc (.cells #[] 42)) (.slice (some ⟨x.heap.size, 0, none⟩) 0 0) [] := ⟨World.ownsRow_lit x #[] 0 hN (by simp [maxLen]) rfl, fun p hp => by cases hp⟩
theorem lit_one (N : Nat) (x : World) (hN : N ≤ x.heap.size) (b a : Int) (hb : Is64 b) (ha : Is64 a) : PrO N (x.alloc (.cells #[.int .i64 b, .int .i64 a] 42)) (.slice (some ⟨x.heap.size, 0, none⟩) 1 1) [(b, a)] := (PrO.one x (b, a) ⟨hb, ha⟩).weak hN

end Go.Proofs.Ytiidfffedoekiaa
