/- States in memory: as they come in, as one value, boxed. -/
import Derived.Test.YtiidfffedoekiaaChSn
namespace Go.Proofs.Ytiidfffedoekiaa
open Go.RowKit
set_option linter.unusedVariables false

/-- A state's six cells. -/
structure PS where
  d : SlV
  sn : SlV
  nx : Int
  kd : Int
  id : Int
  pr : SlV
def stL (q : PS) : List Value := [slV q.d, slV q.sn, .int .i64 q.nx, .int .i64 q.kd, .int .i64 q.id, slV q.pr]
def stV (q : PS) : Value := .agg (stL q).toArray
/-- What they lead to. -/
structure StIs (W : World) (q : PS) (l : List SN) (ps : List (Int × Int)) : Prop where
  sn : Snp W (slV q.sn) l
  pr : Prt W (slV q.pr) ps
theorem StIs.below {W W' : World} {q : PS} {l : List SN} {ps : List (Int × Int)} (h : StIs W q l ps) (hB : Below W.heap.size W W') : StIs W' q l ps := ⟨h.sn.below hB, h.pr.below hB⟩
theorem loadVar_openQ (t : TypeId) (h : t ≠ 39) (h' : t ≠ 42) (h'' : t ≠ 48) (a : Addr) : loadVar t a = (do if ← isAgg t then pure (.agg (← loadCells a (← sizeOf t))) else load a) := rfl
theorem storeVar_openQ (t : TypeId) (h : t ≠ 39) (h' : t ≠ 42) (h'' : t ≠ 48) (a : Addr) (v : Value) : storeVar t a v = (do
    if v.cells.size ≠ (← sizeOf t) then stuck "storeVar: the value has not the size of the variable"
    storeCells a v.cells.toList) := rfl
set_option maxRecDepth 100000 in
theorem zero_st (w : World) : (zeroValue 48).run Try.prog w = .ok (.agg #[.slice none 0 0, .slice none 0 0, .int .i64 0, .int .i64 0, .int .i64 0, .slice none 0 0]) w := by kernel_rfl
set_option maxRecDepth 100000 in
theorem size_st : (Try.prog.info? 48).map (·.size) = some 6 := by kernel_rfl
set_option maxRecDepth 100000 in
theorem load_stC {x : World} {B : Nat} {q : PS} (hr : RowC x B 48 (stL q)) : (loadVar 48 ⟨B, 0, none⟩).run Try.prog x = .ok (stV q) x :=
  run_loadVar_mid x B 0 _ (stL q) _ hr.range Try.underlying48 rfl (by kernel_rfl)
set_option maxRecDepth 100000 in
theorem new_st (x : World) (q : PS) : (storeVar 48 ⟨x.heap.size, 0, none⟩ (stV q)).run Try.prog (x.alloc (.cells #[.slice none 0 0, .slice none 0 0, .int .i64 0, .int .i64 0, .int .i64 0, .slice none 0 0] 48)) = .ok () (x.alloc (.cells (stL q).toArray 48)) :=
  run_storeVar_new x _ _ (stL q).toArray size_st rfl (by kernel_rfl)
set_option maxRecDepth 100000 in
theorem snp_of_cells {W : World} {x : Addr} {len cap : Nat} (h1 : len ≤ cap) (h2 : cap ≤ maxLen) (h3 : ∀ i, i < cap → ∃ es, W.cells? 0 (x.add (i * Try.prog.cellsOf 39)) (Try.prog.cellsOf 39) = some es ∧ Cells W 39 es) :
    ∃ l, Snp W (.slice (some x) len cap) l := by
  rw [show Try.prog.cellsOf 39 = 3 from by kernel_rfl] at h3
  have h4 : ∀ i, i < cap → ∃ p : SV × SN, SnIs W p.1 p.2 ∧ W.cell? (x.add (i * 3)) = some (.int .i64 p.1.1) ∧ W.cell? ((x.add (i * 3)).add 1) = some (slV p.1.2.1) ∧ W.cell? ((x.add (i * 3)).add 2) = some (slV p.1.2.2) := by
    intro i hi
    obtain ⟨es, g1, g2⟩ := h3 i hi
    obtain ⟨q, s, hp, rfl⟩ := snap_of_cells g2
    have hm := (cells_many g1).2
    refine ⟨(q, s), hp, ?_, ?_, ?_⟩
    · obtain ⟨u, hu1, hu2⟩ := hm 0 (by omega)
      cases hu1
      rwa [show (x.add (i * 3)).add 0 = x.add (i * 3) by simp [Addr.add]] at hu2
    · obtain ⟨u, hu1, hu2⟩ := hm 1 (by omega)
      cases hu1
      exact hu2
    · obtain ⟨u, hu1, hu2⟩ := hm 2 (by omega)
      cases hu1
      exact hu2
  have h5 : ∀ i, ∃ p : SV × SN, i < cap → SnIs W p.1 p.2 ∧ W.cell? (x.add (i * 3)) = some (.int .i64 p.1.1) ∧ W.cell? ((x.add (i * 3)).add 1) = some (slV p.1.2.1) ∧ W.cell? ((x.add (i * 3)).add 2) = some (slV p.1.2.2) := fun i => by
    by_cases hi : i < cap
    · obtain ⟨s, hs⟩ := h4 i hi; exact ⟨s, fun _ => hs⟩
    · exact ⟨((0, (none, 0, 0), (none, 0, 0)), ⟨0, [], []⟩), fun h => absurd h hi⟩
  obtain ⟨f, hf⟩ := Classical.axiomOfChoice h5
  refine ⟨(List.range len).map fun i => (f i).2, (List.range len).map fun i => (f i).1, some x, cap, by simp, by simp; omega, h2, (fun e => by cases e), by simp, fun j q s hq hs => ?_, ?_⟩
  · have hjl : j < len := by have := (List.getElem?_eq_some_iff.1 hq).1; simpa using this
    simp [hjl] at hq hs
    subst hq hs
    exact (hf j (by omega)).1
  · by_cases h0 : len = 0
    · subst h0; exact .inl rfl
    · have hc0 := (hf 0 (by omega)).2.1
      rw [Nat.zero_mul, show x.add 0 = x by simp [Addr.add]] at hc0
      obtain ⟨b, off, rfl, hb⟩ := cell_plain hc0
      refine .inr ⟨b, off, rfl, hb, fun j s hj => ?_⟩
      have hjl : j < len := by have := (List.getElem?_eq_some_iff.1 hj).1; simpa using this
      simp [hjl] at hj
      subst hj
      have q := (hf j (by omega)).2
      simp only [add_plain] at q
      exact q
set_option maxRecDepth 100000 in
theorem Cells.snp {W : World} {cs : List Value} (h : Cells W 22 cs) : ∃ (q : SlV) (l : List SN), cs = [slV q] ∧ Snp W (slV q) l := by
  obtain ⟨a, len, cap, e, r⟩ := h.slice Try.underlying22
  subst e
  rcases r with ⟨rfl, rfl, rfl⟩ | ⟨x, rfl, h1, h2, h3⟩
  · exact ⟨(none, 0, 0), [], rfl, Snp.nil W⟩
  · refine ⟨(some x, len, cap), ?_⟩
    obtain ⟨l, hl⟩ := snp_of_cells h1 h2 h3
    exact ⟨l, rfl, hl⟩
set_option maxRecDepth 100000 in
theorem Arg.state {W : World} {v : Value} (h : Arg W 48 v) : ∃ q l ps, v = stV q ∧ StIs W q l ps := by
  obtain ⟨cs, rfl, hl, hcs⟩ := h.agg (.inl ⟨_, Try.underlying48⟩)
  obtain ⟨_, hj⟩ := hcs.struct Try.underlying48
  rw [show Try.prog.cellsOf 48 = 6 from by kernel_rfl] at hl
  have h0 : Cells W 35 ((cs.drop 0).take (Try.prog.cellsOf 35)) := hj 0 _ rfl
  have h1 : Cells W 22 ((cs.drop 1).take (Try.prog.cellsOf 22)) := hj 1 _ rfl
  have h2 : Cells W 3 ((cs.drop 2).take (Try.prog.cellsOf 3)) := hj 2 _ rfl
  have h3 : Cells W 46 ((cs.drop 3).take (Try.prog.cellsOf 46)) := hj 3 _ rfl
  obtain ⟨_, hk⟩ := h3.struct Try.underlying46
  rw [show Try.prog.cellsOf 46 = 3 from by kernel_rfl] at hk
  have k0 : Cells W 3 ((((cs.drop 3).take 3).drop 0).take (Try.prog.cellsOf 3)) := hk 0 _ rfl
  have k1 : Cells W 3 ((((cs.drop 3).take 3).drop 1).take (Try.prog.cellsOf 3)) := hk 1 _ rfl
  have k2 : Cells W 37 ((((cs.drop 3).take 3).drop 2).take (Try.prog.cellsOf 37)) := hk 2 _ rfl
  rw [show Try.prog.cellsOf 35 = 1 from by kernel_rfl] at h0
  rw [show Try.prog.cellsOf 22 = 1 from by kernel_rfl] at h1
  rw [show Try.prog.cellsOf 3 = 1 from by kernel_rfl] at h2 k0 k1
  rw [show Try.prog.cellsOf 37 = 1 from by kernel_rfl] at k2
  match cs, hl with
  | [x0, x1, x2, x3, x4, x5], _ =>
    obtain ⟨a, la, ca, e0, -⟩ := h0.slice Try.underlying35
    obtain ⟨q1, l, e1, hs⟩ := h1.snp
    obtain ⟨n2, e2, -⟩ := h2.int Try.underlying3
    obtain ⟨n3, e3, -⟩ := k0.int Try.underlying3
    obtain ⟨n4, e4, -⟩ := k1.int Try.underlying3
    obtain ⟨c, lc, cc, e5, r5⟩ := k2.slice Try.underlying37
    obtain ⟨ps, hp⟩ := prt_of r5
    simp at e0 e1 e2 e3 e4 e5
    subst e0 e1 e2 e3 e4 e5
    exact ⟨⟨(a, la, ca), q1, n2, n3, n4, (c, lc, cc)⟩, l, ps, rfl, hs, hp⟩
end Go.Proofs.Ytiidfffedoekiaa
