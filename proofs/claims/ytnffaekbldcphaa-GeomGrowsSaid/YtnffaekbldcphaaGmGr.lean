/- What is more where a geometry has more of one thing: plain facts. -/
import Derived.Test.YtnffaekbldcphaaGmSl
namespace Go.Proofs.Ytnffaekbldcphaa
set_option linter.unusedVariables false

/-- The numbers of two geometries, by names. -/
structure Nums (g h : Geo) (Ba Bb Pa Pb Fa Fb Sa Sb : Int) : Prop where
  ba : g.oB = Ba
  bb : h.oB = Bb
  pa : g.oP = Pa
  pb : h.oP = Pb
  fa : g.oF = Fa
  fb : h.oF = Fb
  sa : g.oW = Sa
  sb : h.oW = Sb
  b1 : 0 ≤ Ba ∧ Ba ≤ 1000
  b2 : 0 ≤ Bb ∧ Bb ≤ 1000
  b3 : 0 ≤ Pa ∧ Pa ≤ 1000
  b4 : 0 ≤ Pb ∧ Pb ≤ 1000
  b5 : 0 ≤ Fa ∧ Fa ≤ 1000
  b6 : 0 ≤ Fb ∧ Fb ≤ 1000
  b7 : 0 ≤ Sa ∧ Sa ≤ 1000
  b8 : 0 ≤ Sb ∧ Sb ≤ 1000
theorem Geo.nums {g h : Geo} (hg : g.good) (hh : h.good) : Nums g h g.bts h.bts g.pgs h.pgs (2 + g.r + g.pgs + g.slots) (2 + h.r + h.pgs + h.slots) (g.b + g.a) (h.b + h.a) := by
  obtain ⟨b1, b2, b3, b4, b5, b6⟩ := Geo.bounds hg.1
  obtain ⟨c1, c2, c3, c4, c5, c6⟩ := Geo.bounds hh.1
  obtain ⟨g1, g2, g3, g4, g5, g6, g7, g8⟩ := hg.1
  obtain ⟨h1, h2, h3, h4, h5, h6, h7, h8⟩ := hh.1
  have g9 := hg.2
  have h9 := hh.2
  exact ⟨if_pos hg, if_pos hh, if_pos hg, if_pos hh, if_pos hg, if_pos hh, if_pos hg, if_pos hh, by omega, by omega, by omega, by omega, by omega, by omega, by omega, by omega⟩
theorem Geo.more0 {g h : Geo} (hg : g.good) (hh : h.good) (e : h = ⟨g.b + 1, g.s, g.y, g.a, g.r⟩) : g.bts + 9 ≤ h.bts ∧ h.bts ≤ g.bts + 17 ∧ g.pgs ≤ h.pgs ∧ h.b + h.a = g.b + g.a + 1 := by
  have f1 : h.bts = g.bts + 1 + 8 * ((g.b + 8) / 8 - (g.b + 7) / 8 + 1) := by rw [e]; unfold Geo.bts; simp only; omega
  have f2 : g.bts + 9 ≤ h.bts ∧ h.bts ≤ g.bts + 17 := by omega
  have f3 : g.pgs ≤ h.pgs := by unfold Geo.pgs cnt; split <;> split <;> omega
  refine ⟨f2.1, f2.2, f3, ?_⟩
  rw [e]; simp only; omega
theorem Geo.more1 {g h : Geo} {a : Int} (e : h = ⟨g.b, g.s, g.y, a, g.r⟩) : h.bts = g.bts ∧ 2 + h.r + h.pgs + h.slots = 2 + g.r + g.pgs + g.slots ∧ h.b + h.a = g.b + g.a + h.a - g.a := by
  subst e
  refine ⟨rfl, rfl, ?_⟩
  simp only; omega
theorem Geo.more2 {g h : Geo} {r : Int} (e : h = ⟨g.b, g.s, g.y, g.a, r⟩) : h.bts = g.bts ∧ 2 + h.r + h.pgs + h.slots = 2 + g.r + g.pgs + g.slots + h.r - g.r ∧ h.b + h.a = g.b + g.a := by
  subst e
  refine ⟨rfl, ?_, rfl⟩
  show 2 + r + g.pgs + g.slots = 2 + g.r + g.pgs + g.slots + r - g.r
  omega
theorem Geo.more3 {g h : Geo} (e : h = ⟨g.b, g.s + 1, g.y, g.a, g.r⟩) : h.bts = g.bts + g.y ∧ 2 + h.r + h.pgs + h.slots = 2 + g.r + g.pgs + g.slots + g.y + h.pgs - g.pgs := by
  have e0 : (g.s + 1) * g.y = g.s * g.y + g.y := by rw [Int.add_mul, Int.one_mul]
  have e1 : h.slots = g.slots + g.y := by rw [e]; exact e0
  have e3 : h.r = g.r := by rw [e]
  refine ⟨?_, by rw [e1, e3]; omega⟩
  rw [e]
  unfold Geo.bts
  simp only [e0]
  omega
end Go.Proofs.Ytnffaekbldcphaa
