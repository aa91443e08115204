/- Rows of snapshots in memory: as they come in, and of one's own; appended, stored. -/
import Derived.Test.YtiidfffedoekiaaChMath
import Derived.Test.YtiidfffedoekiaaTbMrg
import Derived.Test.YtiidfffedoekiaaBiFn
namespace Go.Proofs.Ytiidfffedoekiaa
open Go.RowKit
set_option linter.unusedVariables false

/-- A snapshot's three cells. -/
abbrev SlV := Option Addr × Nat × Nat
def slV (x : SlV) : Value := .slice x.1 x.2.1 x.2.2
abbrev SV := Int × SlV × SlV
def svL (q : SV) : List Value := [.int .i64 q.1, slV q.2.1, slV q.2.2]
def svV (q : SV) : Value := .agg #[.int .i64 q.1, slV q.2.1, slV q.2.2]
def scs (l : List SV) : List Value := l.flatMap svL
theorem scs_nil : scs [] = [] := rfl
theorem scs_cons (p : SV) (l : List SV) : scs (p :: l) = .int .i64 p.1 :: slV p.2.1 :: slV p.2.2 :: scs l := rfl
theorem scs_append (a b : List SV) : scs (a ++ b) = scs a ++ scs b := by simp [scs]
theorem scs_length (l : List SV) : (scs l).length = l.length * 3 := by
  induction l with
  | nil => rfl
  | cons p l ih => rw [scs_cons]; simp only [List.length_cons, ih]; omega
theorem scs_get {l : List SV} {j : Nat} {p : SV} (h : l[j]? = some p) : (scs l)[j * 3]? = some (.int .i64 p.1) ∧ (scs l)[j * 3 + 1]? = some (slV p.2.1) ∧ (scs l)[j * 3 + 2]? = some (slV p.2.2) := by
  induction l generalizing j with
  | nil => simp at h
  | cons q l ih =>
    rw [scs_cons]
    cases j with
    | zero => simp at h; subst h; exact ⟨rfl, rfl, rfl⟩
    | succ j =>
      have := ih (j := j) (by simpa using h)
      rw [show (j + 1) * 3 = j * 3 + 1 + 1 + 1 by omega]
      simpa using this
theorem scs_set {l : List SV} {k : Nat} (p : SV) (h : k < l.length) : (((scs l).set (k * 3) (.int .i64 p.1)).set (k * 3 + 1) (slV p.2.1)).set (k * 3 + 2) (slV p.2.2) = scs (l.set k p) := by
  induction l generalizing k with
  | nil => simp at h
  | cons q l ih =>
    cases k with
    | zero => rfl
    | succ k =>
      rw [scs_cons, show (k + 1) * 3 = k * 3 + 1 + 1 + 1 by omega]
      simp only [List.set_cons_succ]
      rw [ih (by simpa using h), scs_cons]

/-- What a snapshot's cells lead to. -/
structure SnIs (W : World) (q : SV) (s : SN) : Prop where
  id : q.1 = s.id
  ch : Sl .u8 W (slV q.2.1) s.ch
  tb : Prt W (slV q.2.2) s.tb
  ok : s.Ok
theorem SnIs.below {W W' : World} {q : SV} {s : SN} (h : SnIs W q s) (hB : Below W.heap.size W W') : SnIs W' q s := ⟨h.id, h.ch.below hB, h.tb.below hB, h.ok⟩
/-- Snapshots that lie somewhere; r: their cells. -/
def SnR (W : World) (v : Value) (r : List SV) (l : List SN) : Prop := ∃ a cap, v = .slice a l.length cap ∧ l.length ≤ cap ∧ cap ≤ maxLen ∧ (a = none → cap = 0) ∧ r.length = l.length ∧ (∀ (j : Nat) (q : SV) (s : SN), r[j]? = some q → l[j]? = some s → SnIs W q s) ∧
  (l = [] ∨ ∃ b off, a = some ⟨b, off, none⟩ ∧ b < W.heap.size ∧ ∀ j q, r[j]? = some q → W.cell? ⟨b, off + j * 3, none⟩ = some (.int .i64 q.1) ∧ W.cell? ⟨b, off + j * 3 + 1, none⟩ = some (slV q.2.1) ∧ W.cell? ⟨b, off + j * 3 + 2, none⟩ = some (slV q.2.2))
def Snp (W : World) (v : Value) (l : List SN) : Prop := ∃ r, SnR W v r l
theorem SnR.below {W W' : World} {v : Value} {r : List SV} {l : List SN} (h : SnR W v r l) (hB : Below W.heap.size W W') : SnR W' v r l := by
  obtain ⟨a, cap, rfl, h1, h2, hz, hr, hs, h4⟩ := h
  refine ⟨a, cap, rfl, h1, h2, hz, hr, fun j q s hq hl => (hs j q s hq hl).below hB, ?_⟩
  rcases h4 with h4 | ⟨b, off, rfl, h5, h6⟩
  · exact .inl h4
  · exact .inr ⟨b, off, rfl, Nat.lt_of_lt_of_le h5 hB.size, fun j p hj => ⟨(hB.cell (p := ⟨b, off + j * 3, none⟩) h5).trans (h6 j p hj).1, (hB.cell (p := ⟨b, off + j * 3 + 1, none⟩) h5).trans (h6 j p hj).2.1, (hB.cell (p := ⟨b, off + j * 3 + 2, none⟩) h5).trans (h6 j p hj).2.2⟩⟩
theorem Snp.below {W W' : World} {v : Value} {l : List SN} (h : Snp W v l) (hB : Below W.heap.size W W') : Snp W' v l := h.imp fun _ h => h.below hB
theorem Snp.nil (W : World) : Snp W (.slice none 0 0) [] := ⟨[], none, 0, rfl, Nat.le_refl _, Nat.zero_le _, (fun _ => rfl), rfl, fun j q s h => (by cases h), .inl rfl⟩
theorem SnR.ok {W : World} {v : Value} {r : List SV} {l : List SN} (h : SnR W v r l) : ∀ s ∈ l, s.Ok := by
  obtain ⟨a, cap, rfl, h1, h2, hz, hr, hs, h4⟩ := h
  intro s hm
  obtain ⟨j, hj⟩ := List.getElem?_of_mem hm
  have hjl := (List.getElem?_eq_some_iff.1 hj).1
  exact (hs j _ s (List.getElem?_eq_getElem (by omega)) hj).ok
theorem Snp.ok {W : World} {v : Value} {l : List SN} (h : Snp W v l) : ∀ s ∈ l, s.Ok := by obtain ⟨r, h⟩ := h; exact h.ok
/-- One of them. -/
theorem SnR.at {W : World} {a : Option Addr} {n cap k : Nat} {r : List SV} {l : List SN} (h : SnR W (.slice a n cap) r l) {s : SN} (hk : l[k]? = some s) :
    ∃ b off q, a = some ⟨b, off, none⟩ ∧ b < W.heap.size ∧ r[k]? = some q ∧ SnIs W q s ∧ W.cell? ⟨b, off + k * 3, none⟩ = some (.int .i64 q.1) ∧ W.cell? ⟨b, off + k * 3 + 1, none⟩ = some (slV q.2.1) ∧ W.cell? ⟨b, off + k * 3 + 2, none⟩ = some (slV q.2.2) := by
  obtain ⟨a', cap', e, h1, h2, hz, hr, hs, h4⟩ := h
  cases e
  rcases h4 with rfl | ⟨b, off, rfl, h5, h6⟩
  · simp at hk
  · have hkl := (List.getElem?_eq_some_iff.1 hk).1
    have hq := List.getElem?_eq_getElem (l := r) (i := k) (by omega)
    exact ⟨b, off, _, rfl, h5, hq, hs k _ s hq hk, h6 k _ hq⟩

/-! A snapshot as one value. -/
theorem loadVar_openS (t : TypeId) (h : t ≠ 39) (a : Addr) : loadVar t a = (do if ← isAgg t then pure (.agg (← loadCells a (← sizeOf t))) else load a) := rfl
theorem storeVar_openS (t : TypeId) (h : t ≠ 39) (a : Addr) (v : Value) : storeVar t a v = (do
    if v.cells.size ≠ (← sizeOf t) then stuck "storeVar: the value has not the size of the variable"
    storeCells a v.cells.toList) := rfl
theorem loadVar_openPS (t : TypeId) (h : t ≠ 39) (h' : t ≠ 42) (a : Addr) : loadVar t a = (do if ← isAgg t then pure (.agg (← loadCells a (← sizeOf t))) else load a) := rfl
theorem storeVar_openPS (t : TypeId) (h : t ≠ 39) (h' : t ≠ 42) (a : Addr) (v : Value) : storeVar t a v = (do
    if v.cells.size ≠ (← sizeOf t) then stuck "storeVar: the value has not the size of the variable"
    storeCells a v.cells.toList) := rfl
set_option maxRecDepth 100000 in
theorem zero_sn (w : World) : (zeroValue 39).run Try.prog w = .ok (.agg #[.int .i64 0, .slice none 0 0, .slice none 0 0]) w := by kernel_rfl
set_option maxRecDepth 100000 in
theorem build_sn (a : Int) (x y : Option Addr) (n m c d : Nat) (w : World) : (Instr.build 39 #[(0, .int .i64 a), (1, .slice x n c), (2, .slice y m d)]).run Try.prog w = .ok (svV (a, (x, n, c), (y, m, d))) w := by kernel_rfl
set_option maxRecDepth 100000 in
theorem build_sn2 (a : Int) (x : Option Addr) (n c : Nat) (w : World) : (Instr.build 39 #[(0, .int .i64 a), (1, .slice x n c)]).run Try.prog w = .ok (svV (a, (x, n, c), (none, 0, 0))) w := by kernel_rfl
set_option maxRecDepth 100000 in
theorem size_sn : (Try.prog.info? 39).map (·.size) = some 3 := by kernel_rfl
set_option maxRecDepth 100000 in
theorem load_sn {W : World} {b off : Nat} {q : SV} (c1 : W.cell? ⟨b, off, none⟩ = some (.int .i64 q.1)) (c2 : W.cell? ⟨b, off + 1, none⟩ = some (slV q.2.1)) (c3 : W.cell? ⟨b, off + 2, none⟩ = some (slV q.2.2)) :
    (loadVar 39 ⟨b, off, none⟩).run Try.prog W = .ok (svV q) W :=
  run_loadVar_mid W b off _ (svL q) _ (fun j v hj => by
    match j with
    | 0 => cases hj; exact c1
    | 1 => cases hj; exact c2
    | 2 => cases hj; exact c3
    | j + 3 => simp [svL] at hj) Try.underlying39 rfl (by kernel_rfl)
set_option maxRecDepth 100000 in
theorem new_sn (x : World) (q : SV) : (storeVar 39 ⟨x.heap.size, 0, none⟩ (svV q)).run Try.prog (x.alloc (.cells #[.int .i64 0, .slice none 0 0, .slice none 0 0] 39)) = .ok () (x.alloc (.cells (svL q).toArray 39)) :=
  run_storeVar_new x _ _ (svL q).toArray size_sn rfl (by kernel_rfl)
set_option maxRecDepth 100000 in
theorem load_snC {x : World} {B : Nat} {q : SV} (hr : RowC x B 39 (svL q)) : (loadVar 39 ⟨B, 0, none⟩).run Try.prog x = .ok (svV q) x :=
  run_loadVar_mid x B 0 _ (svL q) _ hr.range Try.underlying39 rfl (by kernel_rfl)
set_option maxRecDepth 100000 in
theorem store_snC {x : World} {B : Nat} {old : List Value} (q : SV) (hr : RowC x B 39 old) (ho : old.length = 3) :
    ∃ y, (storeVar 39 ⟨B, 0, none⟩ (svV q)).run Try.prog x = .ok () y ∧ RowC y B 39 (svL q) ∧ x.grownBy y (some B) := by
  refine ⟨_, run_storeVar_row x B _ _ old.toArray (svL q).toArray hr size_sn (by simpa [svL] using ho) (by kernel_rfl), setRow_heap x B _ _ _ _ hr, ?_⟩
  exact ⟨rfl, rfl, rfl, by rw [setRow_size]; exact Nat.le_refl _, fun k _ hk => setRow_other x B k _ (fun e => hk (by rw [e]))⟩
set_option maxRecDepth 100000 in
theorem slice_sn1 (w : World) (q : SV) : (Instr.buildSlice 22 1 #[(0, svV q)]).run Try.prog w = .ok (.slice (some ⟨w.heap.size, 0, none⟩) 1 1) (w.alloc (.cells (svL q).toArray 39)) := by kernel_rfl

/-! Snapshots among the arguments. -/
set_option maxRecDepth 100000 in
theorem snap_of_cells {W : World} {cs : List Value} (h : Cells W 39 cs) : ∃ (q : SV) (s : SN), SnIs W q s ∧ cs = svL q := by
  obtain ⟨hl, hj⟩ := h.struct Try.underlying39
  rw [show Try.prog.cellsOf 39 = 3 from by kernel_rfl] at hl
  have h0 : Cells W 3 ((cs.drop 0).take (Try.prog.cellsOf 3)) := hj 0 _ rfl
  have h1 : Cells W 31 ((cs.drop 1).take (Try.prog.cellsOf 31)) := hj 1 _ rfl
  have h2 : Cells W 37 ((cs.drop 2).take (Try.prog.cellsOf 37)) := hj 2 _ rfl
  rw [show Try.prog.cellsOf 3 = 1 from by kernel_rfl] at h0
  rw [show Try.prog.cellsOf 31 = 1 from by kernel_rfl] at h1
  rw [show Try.prog.cellsOf 37 = 1 from by kernel_rfl] at h2
  match cs, hl with
  | [x, y, z], _ =>
    obtain ⟨a, e1, wa⟩ := h0.int Try.underlying3
    obtain ⟨b, lb, cb, bs, e2, -, -, s2, hb⟩ := h1.bytes Try.underlying31 Try.underlying5 (by kernel_rfl)
    obtain ⟨c, lc, cc, e3, r3⟩ := h2.slice Try.underlying37
    obtain ⟨l, hp⟩ := prt_of r3
    simp at e1 e2 e3
    subst e1 e2 e3
    exact ⟨(a, (b, lb, cb), (c, lc, cc)), ⟨a, bs, l⟩, ⟨rfl, s2, hp, ⟨bounds_i64 wa, hb, hp.is⟩⟩, rfl⟩
set_option maxRecDepth 100000 in
theorem Arg.snp {W : World} {v : Value} (h : Arg W 22 v) : ∃ l, Snp W v l := by
  obtain ⟨a, len, cap, rfl, r⟩ := h.slice Try.underlying22
  rcases r with ⟨rfl, rfl, rfl⟩ | ⟨x, rfl, h1, h2, h3⟩
  · exact ⟨[], Snp.nil W⟩
  · rw [show Try.prog.cellsOf 39 = 3 from by kernel_rfl] at h3
    have h4 : ∀ i, i < cap → ∃ p : SV × SN, SnIs W p.1 p.2 ∧ W.cell? (x.add (i * 3)) = some (.int .i64 p.1.1) ∧ W.cell? ((x.add (i * 3)).add 1) = some (slV p.1.2.1) ∧ W.cell? ((x.add (i * 3)).add 2) = some (slV p.1.2.2) := by
      intro i hi
      obtain ⟨es, g1, g2⟩ := h3 i hi
      obtain ⟨q, s, hp, rfl⟩ := snap_of_cells g2
      have hm := (cells_many g1).2
      refine ⟨(q, s), hp, ?_, ?_, ?_⟩
      · obtain ⟨u, hu1, hu2⟩ := hm 0 (by omega)
        cases hu1
        rwa [show (x.add (i * 3)).add 0 = x.add (i * 3) by simp [Addr.add]] at hu2
      · obtain ⟨u, hu1, hu2⟩ := hm 1 (by omega)
        cases hu1
        exact hu2
      · obtain ⟨u, hu1, hu2⟩ := hm 2 (by omega)
        cases hu1
        exact hu2
    have h5 : ∀ i, ∃ p : SV × SN, i < cap → SnIs W p.1 p.2 ∧ W.cell? (x.add (i * 3)) = some (.int .i64 p.1.1) ∧ W.cell? ((x.add (i * 3)).add 1) = some (slV p.1.2.1) ∧ W.cell? ((x.add (i * 3)).add 2) = some (slV p.1.2.2) := fun i => by
      by_cases hi : i < cap
      · obtain ⟨s, hs⟩ := h4 i hi; exact ⟨s, fun _ => hs⟩
      · exact ⟨((0, (none, 0, 0), (none, 0, 0)), ⟨0, [], []⟩), fun h => absurd h hi⟩
    obtain ⟨f, hf⟩ := Classical.axiomOfChoice h5
    refine ⟨(List.range len).map fun i => (f i).2, (List.range len).map fun i => (f i).1, some x, cap, by simp, by simp; omega, h2, (fun e => by cases e), by simp, fun j q s hq hs => ?_, ?_⟩
    · have hjl : j < len := by have := (List.getElem?_eq_some_iff.1 hq).1; simpa using this
      simp [hjl] at hq hs
      subst hq hs
      exact (hf j (by omega)).1
    · by_cases h0 : len = 0
      · subst h0; exact .inl rfl
      · have hc0 := (hf 0 (by omega)).2.1
        rw [Nat.zero_mul, show x.add 0 = x by simp [Addr.add]] at hc0
        obtain ⟨b, off, rfl, hb⟩ := cell_plain hc0
        refine .inr ⟨b, off, rfl, hb, fun j s hj => ?_⟩
        have hjl : j < len := by have := (List.getElem?_eq_some_iff.1 hj).1; simpa using this
        simp [hjl] at hj
        subst hj
        have q := (hf j (by omega)).2
        simp only [add_plain] at q
        exact q

/-! Snapshots of one's own. -/
structure SnF (N : Nat) (W : World) (q : SV) (s : SN) : Prop where
  id : q.1 = s.id
  ch : W.ownsRow N 5 1 (slV q.2.1) s.ch.length (s.ch.map (Value.int .u8))
  tb : PrO N W (slV q.2.2) s.tb
  ok : s.Ok
theorem SnF.below {N : Nat} {W W' : World} {q : SV} {s : SN} (h : SnF N W q s) (hB : Below W.heap.size W W') : SnF N W' q s := ⟨h.id, own_belowT h.ch hB, h.tb.below hB, h.ok⟩
theorem own_weak {N M e sz n : Nat} {W : World} {v : Value} {xs : List Value} (h : W.ownsRow N e sz v n xs) (hM : M ≤ N) : W.ownsRow M e sz v n xs := by
  refine ⟨h.1, ?_⟩
  rcases h.2 with h' | ⟨g, cap, cur, e, h1, h2⟩
  · exact .inl h'
  · exact .inr ⟨g, cap, cur, e, Nat.le_trans hM h1, h2⟩
theorem SnF.weak {N M : Nat} {W : World} {q : SV} {s : SN} (h : SnF N W q s) (hM : M ≤ N) : SnF M W q s := ⟨h.id, own_weak h.ch hM, h.tb.weak hM, h.ok⟩
theorem SnF.is {N : Nat} {W : World} {q : SV} {s : SN} (h : SnF N W q s) : SnIs W q s := ⟨h.id, Sl.of_owns h.ch, h.tb.prt, h.ok⟩
def SnO (N : Nat) (W : World) (v : Value) (l : List SN) : Prop := ∃ r : List SV, r.length = l.length ∧ W.ownsRow N 39 3 v l.length (scs r) ∧ ∀ (j : Nat) (q : SV) (s : SN), r[j]? = some q → l[j]? = some s → SnF N W q s
theorem SnO.nil (N : Nat) (W : World) : SnO N W (.slice none 0 0) [] := ⟨[], rfl, World.ownsRow_nil _ _ _ _, fun j q s h => by cases h⟩
theorem SnO.below {N : Nat} {W W' : World} {v : Value} {l : List SN} (h : SnO N W v l) (hB : Below W.heap.size W W') : SnO N W' v l := by
  obtain ⟨r, h1, h2, h3⟩ := h
  exact ⟨r, h1, own_belowT h2 hB, fun j q s a b => (h3 j q s a b).below hB⟩
theorem SnO.snp {N : Nat} {W : World} {v : Value} {l : List SN} (h : SnO N W v l) : Snp W v l := by
  obtain ⟨r, h1, h2, h3⟩ := h
  rcases h2.2 with ⟨rfl, h0⟩ | ⟨g, cap, cur, rfl, a1, a2, a3, a4, a5, a6⟩
  · obtain rfl : l = [] := List.eq_nil_of_length_eq_zero h0
    exact Snp.nil W
  · refine ⟨r, _, cap, rfl, a3, a4, (fun e => by cases e), h1, fun j q s a b => (h3 j q s a b).is, .inr ⟨g, 0, rfl, (Array.getElem?_eq_some_iff.1 a2).1, fun j p hj => ?_⟩⟩
    have hc := h2.cells (g := g) rfl
    obtain ⟨f1, f2, f3⟩ := scs_get hj
    have c1 := hc _ _ f1
    have c2 := hc _ _ f2
    have c3 := hc _ _ f3
    rw [Addr.add_mid] at c1 c2 c3
    exact ⟨c1, by simpa [Nat.add_assoc] using c2, by simpa [Nat.add_assoc] using c3⟩
theorem SnO.base {N : Nat} {W : World} {v : Value} {l : List SN} (h : SnO N W v l) : ∀ j, v.ownBlock = some j → N ≤ j ∧ j < W.heap.size := by
  obtain ⟨r, h1, h2, h3⟩ := h
  intro j hj
  rcases h2.2 with ⟨rfl, h0⟩ | ⟨g, cap, cur, rfl, a1, a2, -⟩
  · cases hj
  · cases hj
    exact ⟨a1, (Array.getElem?_eq_some_iff.1 a2).1⟩
theorem SnO.ok {N : Nat} {W : World} {v : Value} {l : List SN} (h : SnO N W v l) : ∀ s ∈ l, s.Ok := h.snp.ok
theorem SnO.ne {N B : Nat} {W : World} {v : Value} {l : List SN} {C : List Value} {t : TypeId} (h : SnO N W v l) (hB : RowC W B t C) (hne : 39 ≠ t) : v.ownBlock ≠ some B := by
  obtain ⟨r, h1, h2, h3⟩ := h
  exact row_ne h2 hB hne
set_option maxRecDepth 100000 in
theorem info_snT : (Try.prog.info? 39).map (fun i => (i.zero, i.size, i.bytes)) = some (some (.agg #[.int .i64 0, .slice none 0 0, .slice none 0 0]), 3, 56) := by kernel_rfl
theorem slice_one {v : Value} {k : IntKind} {W : World} {xs : List Int} (h : Sl k W v xs) : v.oneCell' = true := by
  obtain ⟨a, c, rfl, -⟩ := h; rfl
theorem SnF.ones {N : Nat} {W : World} {q : SV} {s : SN} (h : SnF N W q s) : ∀ u ∈ scs [q], u.oneCell' = true := by
  intro u hu
  have h1 := slice_one (Sl.of_owns h.ch)
  have h2 : (slV q.2.2).oneCell' = true := rfl
  simp [scs, svL] at hu
  rcases hu with rfl | rfl | rfl
  · rfl
  · exact h1
  · exact h2
/-- What lies within snapshots of one's own stays, whatever becomes of the row. -/
theorem SnF.kept {N M n : Nat} {W W' : World} {q : SV} {s : SN} {v : Value} {xs : List Value} (h : SnF N W q s) (hv : W.ownsRow M 39 3 v n xs) (hg : W.grownBy W' v.ownBlock) : SnF N W' q s :=
  ⟨h.id, h.ch.kept hg (rows_ne h.ch hv (by decide)), ⟨h.tb.1.kept hg (rows_ne h.tb.1 hv (by decide)), h.tb.2⟩, h.ok⟩
set_option maxRecDepth 100000 in
/-- One more. -/
theorem sn_append {N : Nat} {w : World} {v : Value} {l : List SN} {q : SV} {s : SN} (h : SnO N w v l) (hN : N ≤ w.heap.size) (hq : SnF N w q s) (hlen : l.length ≤ 900000) :
    ∃ v' w', (∀ ty, (Builtin.append_ #[22, 22] ty #[v, .slice (some ⟨w.heap.size, 0, none⟩) 1 1]).run Try.prog (w.alloc (.cells (svL q).toArray 39)) = .ok v' w') ∧ SnO N w' v' (l ++ [s]) ∧ w.grownBy w' v.ownBlock := by
  obtain ⟨i0, hi⟩ : ∃ i, Try.prog.info? 39 = some i := ⟨_, rfl⟩
  have hqq := info_snT
  rw [hi] at hqq
  have hz : (i0.zero, i0.size, i0.bytes) = (some (.agg #[.int .i64 0, .slice none 0 0, .slice none 0 0]), 3, 56) := Option.some.inj hqq
  have hz0 := congrArg (·.1) hz
  have hz1 := congrArg (·.2.1) hz
  have hz2 := congrArg (·.2.2) hz
  simp only at hz0 hz1 hz2
  obtain ⟨r, h1, h2, h3⟩ := h
  have hr : ∀ ty, ∃ v' w', (Builtin.append_ #[22, 22] ty #[v, .slice (some ⟨w.heap.size, 0, none⟩) 1 1]).run Try.prog (w.alloc (.cells (svL q).toArray 39)) = .ok v' w' ∧ w'.ownsRow N 39 3 v' (l.length + 1) (scs r ++ scs [q]) ∧ (w.alloc (.cells (svL q).toArray 39)).grownBy w' v.ownBlock := fun ty => by
    obtain ⟨v', w', g1, g2, g3, g4⟩ := run_append_own (P := Try.prog) (w.alloc (.cells (svL q).toArray 39)) N 22 ty 39 i0 (.agg #[.int .i64 0, .slice none 0 0, .slice none 0 0]) 3 56 Try.underlying22 hi hz0 hz1 hz2 rfl (by decide) v l.length _ (own_belowT h2 (below_new w _)) ⟨w.heap.size, 0, none⟩ 1 1 (scs [q]) rfl
      (fun j u hj => by
        rw [Addr.add_lit, Nat.zero_add]
        exact (RowC.new w 39 (svL q)).cell j u (by simpa [scs] using hj)) hq.ones (by unfold maxLen; omega) (by omega) (by simp; omega)
    exact ⟨v', w', g1, g2, g3⟩
  obtain ⟨v', w', g1, g2, g3⟩ := hr 0
  have hgg : w.grownBy w' v.ownBlock := grown_trans (grown_below (below_new w _) _) g3
  refine ⟨v', w', fun ty => ?_, ⟨r ++ [q], by simp [h1], ?_, fun j q' s' ha hb => ?_⟩, hgg⟩
  · rw [← g1]; rfl
  · rw [List.length_append, scs_append]; exact g2
  · by_cases hj : j < l.length
    · rw [List.getElem?_append_left (by omega)] at ha hb
      exact (h3 j q' s' ha hb).kept h2 hgg
    · obtain rfl : j = l.length := by have := (List.getElem?_eq_some_iff.1 hb).1; simp at this; omega
      rw [List.getElem?_append_right (Nat.le_refl _)] at hb
      rw [List.getElem?_append_right (by omega), h1] at ha
      simp at ha hb
      subst ha hb
      exact hq.kept h2 hgg
end Go.Proofs.Ytiidfffedoekiaa
