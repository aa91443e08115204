/- What the walk of a statement is told of its arguments. -/
import Derived.Test.YtlapfcndngnapaaRows
import Derived.Test.YtlapfcndngnapaaBytes
import Derived.WalkKit
import Derived.ProofKit
import Derived.OpenShut
import Derived.ShutString
import Derived.ChangeOld
import Derived.Below
namespace Go.Proofs.Ytlapfcndngnapaa
open Go.ChangeShapes Go.WideShapes Go.ChangeAt Go.RowKit
set_option linter.unusedVariables false

theorem own : ownKnob Try.prog.godebug = none := by kernel_rfl
theorem laidOut : laidOutB Try.prog = true := by kernel_rfl

/-- A slice of integers that came in: it is nil, or it leads to a row of numbers, each fitting its kind. -/
def IsRow (k : IntKind) (w : World) (a : Option Addr) (len cap : Nat) (zs : List Int) : Prop :=
  (a = none ∧ len = 0 ∧ cap = 0 ∧ zs = []) ∨
  ∃ x, a = some x ∧ len ≤ cap ∧ cap ≤ maxLen ∧ zs.length = cap ∧ (∀ i, i < zs.length → w.cell? (x.add i) = some (.int k (zs.getD i 0))) ∧ ∀ n ∈ zs, (Lit.int k n).wf = true

theorem sl_of_row {k : IntKind} {w : World} {a : Option Addr} {len cap : Nat} {zs : List Int} (h : IsRow k w a len cap zs) : (zs.take len).length = len ∧ Sl k w (.slice a len cap) (zs.take len) ∧ ∀ n ∈ zs, (Lit.int k n).wf = true := by
  rcases h with ⟨rfl, rfl, rfl, rfl⟩ | ⟨x, rfl, hl, hm, hz, hc, hw⟩
  · exact ⟨rfl, Sl.nil _ _, fun n hn => by cases hn⟩
  · have hlen : (zs.take len).length = len := by rw [List.length_take]; omega
    refine ⟨hlen, ⟨some x, cap, by rw [hlen], by omega, hm, ?_, fun e => by cases e⟩, hw⟩
    by_cases h0 : len = 0
    · subst h0; exact .inl rfl
    · obtain ⟨b, off, spot⟩ := x
      have hc0 := hc 0 (by omega)
      have hspot : spot = none := by simpa [Addr.add] using World.cell?_spot hc0
      subst hspot
      have hb : b < w.heap.size := by
        obtain ⟨o, ho, _⟩ := cells_of_cell hc0
        have := (Array.getElem?_eq_some_iff.1 ho).1
        simpa [Addr.add] using this
      refine .inr ⟨b, off, rfl, hb, fun j hj => ?_⟩
      rw [hlen] at hj
      have hj' := hc j (by omega)
      have hplain : (⟨b, off, none⟩ : Addr).add j = ⟨b, off + j, none⟩ := by unfold Addr.add; split <;> simp_all
      rw [hplain] at hj'
      rw [hj', take_get zs len j hj, List.getD_eq_getElem?_getD]

theorem Sl.form {k : IntKind} {w : World} {v : Value} {bs : List Int} {n : Nat} (h : Sl k w v bs) (hn : bs.length = n) : ∃ a cap, v = .slice a n cap ∧ Sl k w (.slice a n cap) bs := by
  subst hn
  obtain ⟨a, cap, rfl, r⟩ := h
  exact ⟨a, cap, rfl, a, cap, rfl, r⟩

theorem bytes_of_row {w : World} {a : Option Addr} {len cap : Nat} {zs : List Int} (h : IsRow .u8 w a len cap zs) : Sl .u8 w (.slice a len cap) (zs.take len) ∧ IsBytes (zs.take len) ∧ (zs.take len).length = len := by
  obtain ⟨h1, h2, h3⟩ := sl_of_row h
  exact ⟨h2, IsBytes.take (fun j => by have := range_u8 h3 j; omega) len, h1⟩
end Go.Proofs.Ytlapfcndngnapaa
