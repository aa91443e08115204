/- make of a slice whose run is known; a guard that lets it by is no bar. -/
import Derived.WalkKit
import Derived.Laws.OwnMore
namespace Go.Proofs.Ytajamblkjmafmaa
open Go.RowKit
set_option linter.unusedVariables false
theorem wpList_make_run {P : Program} {w w' : World} {ops : Array Oper} {rest : List Oper} {o : Oper} {a : Act} {Q : Exit → Act → World → Prop} (t : TypeId) (l c : Operand)
    (ho : o.op = .makeSlice t l c) (hw : Region.wanted o (yielded ops a.tmps) = true) (vl vc v' : Value) (hl : a.eval l = vl) (hc : a.eval c = vc)
    (hrun : (Instr.makeSlice t vl vc).run P w = .ok v' w') (h : wpList P ops Q rest (a.put o.dst v') w') : wpList P ops Q (o :: rest) a w := by
  unfold wpList
  rw [if_pos hw]
  refine .inl ?_
  unfold Oper.wp
  simp only [execOp, ho, Sem.run_bind, hl, hc, hrun, Result.andThen_ok, Sem.run_pure]
  exact h
/-- A gate for an arm: the next operation makes a slice. -/
theorem gate_make {P : Program} {w : World} {ops : Array Oper} {rest : List Oper} {a : Act} {Q : Exit → Act → World → Prop} {dst : Option Tmp} {t ty : TypeId} {l c : Operand} {pos : String} {after : Array Edge} {guard : Option (Nat × Bool)}
    (h : wpList P ops Q ({ dst := dst, op := .makeSlice t l c, type := ty, pos := pos, after := after, guard := guard } :: rest) a w) :
    wpList P ops Q ({ dst := dst, op := .makeSlice t l c, type := ty, pos := pos, after := after, guard := guard } :: rest) a w := h
/-- A struct's literal whose run is known; a guard that lets it by is no bar. -/
theorem wpList_struct_run {P : Program} {w w' : World} {ops : Array Oper} {rest : List Oper} {o : Oper} {a : Act} {Q : Exit → Act → World → Prop} (t : TypeId) (parts : Array (Nat × Operand))
    (ho : o.op = .build t parts) (hw : Region.wanted o (yielded ops a.tmps) = true) (vs : List (Nat × Value)) (v' : Value) (hs : (parts.toList.map fun (i, x) => (i, a.eval x)) = vs)
    (hrun : (Instr.build t vs.toArray).run P w = .ok v' w') (h : wpList P ops Q rest (a.put o.dst v') w') : wpList P ops Q (o :: rest) a w := by
  unfold wpList
  rw [if_pos hw]
  refine .inl ?_
  have hs' : (parts.map fun (i, x) => (i, a.eval x)) = vs.toArray := by
    apply Array.toList_inj.1
    rw [Array.toList_map, hs]
  unfold Oper.wp
  simp only [execOp, ho, Sem.run_bind, hs', hrun, Result.andThen_ok, Sem.run_pure]
  exact h
/-- A gate for an arm: the next operation is a struct's or an array's literal of type k. -/
theorem gate_struct (k : TypeId) {P : Program} {w : World} {ops : Array Oper} {rest : List Oper} {a : Act} {Q : Exit → Act → World → Prop} {dst : Option Tmp} {ty : TypeId} {parts : Array (Nat × Operand)} {pos : String} {after : Array Edge} {guard : Option (Nat × Bool)}
    (h : wpList P ops Q ({ dst := dst, op := .build k parts, type := ty, pos := pos, after := after, guard := guard } :: rest) a w) :
    wpList P ops Q ({ dst := dst, op := .build k parts, type := ty, pos := pos, after := after, guard := guard } :: rest) a w := h
end Go.Proofs.Ytajamblkjmafmaa
