/- Geometries; the document's answers about them. -/
import Derived.Test.YtnffaekbldcphaaPgCount
import Derived.Test.YtnffaekbldcphaaQuiet
namespace Go.Proofs.Ytnffaekbldcphaa
open Go.RowKit Go.Shelf
set_option linter.unusedVariables false

/-- A geometry: blocks, sets, ways, area, ring. -/
structure Geo where
  b : Int
  s : Int
  y : Int
  a : Int
  r : Int
def Geo.v (g : Geo) : Array Value := #[.int .i64 g.b, .int .i64 g.s, .int .i64 g.y, .int .i64 g.a, .int .i64 g.r]
def Geo.shape (g : Geo) : Prop := 1 ≤ g.b ∧ g.b ≤ 64 ∧ 1 ≤ g.s ∧ g.s ≤ 8 ∧ 1 ≤ g.y ∧ g.y ≤ 4 ∧ 0 ≤ g.a ∧ g.a ≤ 200
def Geo.slots (g : Geo) : Int := g.s * g.y
def Geo.bts (g : Geo) : Int := 10 + g.s * g.y + g.b + 8 * (4 + (g.b + 7) / 8 + g.b)
def Geo.pgs (g : Geo) : Int := cnt g.bts
def Geo.good (g : Geo) : Prop := g.shape ∧ g.pgs + 2 ≤ g.r ∧ g.r ≤ 256
instance (g : Geo) : Decidable g.shape := by unfold Geo.shape; infer_instance
instance (g : Geo) : Decidable g.good := by unfold Geo.good; infer_instance
def Geo.oB (g : Geo) : Int := if g.good then g.bts else 0
def Geo.oP (g : Geo) : Int := if g.good then g.pgs else 0
def Geo.oR (g : Geo) : Int := if g.good then 2 else 0
def Geo.oH (g : Geo) : Int := if g.good then 2 + g.r else 0
def Geo.oS (g : Geo) (i : Int) : Int := if g.good ∧ 0 ≤ i ∧ i < g.slots then 2 + g.r + g.pgs + i else 0
def Geo.oA (g : Geo) (i : Int) : Int := if g.good ∧ 0 ≤ i ∧ i < g.a then g.b + i else 0
def Geo.oF (g : Geo) : Int := if g.good then 2 + g.r + g.pgs + g.slots else 0
def Geo.oW (g : Geo) : Int := if g.good then g.b + g.a else 0
theorem Geo.bounds {g : Geo} (h : g.shape) : 1 ≤ g.slots ∧ g.slots ≤ 32 ∧ 52 ≤ g.bts ∧ g.bts ≤ 714 ∧ 2 ≤ g.pgs ∧ g.pgs ≤ 15 := by
  obtain ⟨h1, h2, h3, h4, h5, h6, h7, h8⟩ := h
  have m1 : 1 ≤ g.s * g.y := by have := Int.mul_le_mul h3 h5 (by omega) (by omega); simpa using this
  have m2 : g.s * g.y ≤ 32 := by have := Int.mul_le_mul h4 h6 (by omega) (by omega); simpa using this
  have b1 : 52 ≤ g.bts := by unfold Geo.bts; omega
  have b2 : g.bts ≤ 714 := by unfold Geo.bts; omega
  refine ⟨m1, m2, b1, b2, ?_, ?_⟩ <;> (unfold Geo.pgs cnt; rw [if_neg (by omega)]; omega)
/-- All that is told at once. -/
def Geo.sz (g : Geo) : Array Value := if g.good then #[.int .i64 g.bts, .int .i64 g.pgs, .int .i64 g.slots, .int .i64 2, .int .i64 (2 + g.r), .int .i64 (2 + g.r + g.pgs), .int .i64 (2 + g.r + g.pgs + g.slots), .int .i64 (g.b + g.a)] else #[.int .i64 0, .int .i64 0, .int .i64 0, .int .i64 0, .int .i64 0, .int .i64 0, .int .i64 0, .int .i64 0]

theorem rowG (w : World) (v : Array Value) (t : TypeId) {x : World} (hx : Below (w.alloc (.cells v t)).heap.size (w.alloc (.cells v t)) x) (j : Nat) : x.cell? ⟨w.heap.size, j, none⟩ = v[j]? :=
  cell_of_row x _ j _ _ _ ((hx.block _ (by simp)).trans (heap_alloc_new w _))
theorem below_newG (x : World) (o : Obj) : Below x.heap.size x (x.alloc o) := (Below.refl _ x).alloc (Nat.le_refl _) _

section
set_option maxRecDepth 100000
set_option maxHeartbeats 4000000
set_option maxRecDepth 100000 in
theorem refShape (g : Geo) (w : World) : Calls Try.prog 25 #[.agg g.v] w fun e w' => e = .returned (.bool (decide g.shape)) ∧ Below w.heap.size w w' := by
  have hB := below_newG w (.cells g.v 23)
  have hc := rowG w g.v 23 (Below.refl _ _)
  have HS : Hid (decide g.shape = decide (1 ≤ g.b ∧ g.b ≤ 64 ∧ 1 ≤ g.s ∧ g.s ≤ 8 ∧ 1 ≤ g.y ∧ g.y ≤ 4 ∧ 0 ≤ g.a ∧ g.a ≤ 200)) := rfl
  obtain ⟨W, hW⟩ : ∃ W, w.alloc (.cells g.v 23) = W := ⟨_, rfl⟩
  rw [hW] at hB hc
  have c0 := hc 0
  have c1 := hc 1
  have c2 := hc 2
  have c3 := hc 3
  have HB := Lib.hid hB
  clear hc hB
  obtain ⟨b, s, y, a, r⟩ := g
  simp only [Geo.v] at c0 c1 c2 c3 hW ⊢
  simp only [List.getElem?_toArray, List.getElem?_cons_zero, List.getElem?_cons_succ] at c0 c1 c2 c3
  go_enter Try.func25, Try.ntmps25
  go_wp2_with fail
  all_goals
    go_ret
    refine ⟨congrArg (fun x => Ending.returned (Value.bool x)) ?_, HB.out⟩
    rw [HS.out]
    first
      | exact (decide_eq_false (by omega)).symm
      | exact (decide_eq_true (by omega)).symm
      | (rw [decide_eq_decide]; omega)
end
end Go.Proofs.Ytnffaekbldcphaa
