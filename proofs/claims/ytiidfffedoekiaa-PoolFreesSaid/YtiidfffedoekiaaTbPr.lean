/- Rows of pairs in memory: as they come in, and of one's own; appended, cut. -/
import Derived.Test.YtiidfffedoekiaaRowC
import Derived.Test.YtiidfffedoekiaaTbMath
import Derived.Test.YtiidfffedoekiaaInts
import Derived.Test.YtiidfffedoekiaaArgSl
import Derived.Test.YtiidfffedoekiaaOver
import Derived.Test.YtiidfffedoekiaaBytes
import Derived.Deep.MidRow
import Derived.Maps.AppendAt
import Derived.Deep.WholeRow
import Derived.Below
namespace Go.Proofs.Ytiidfffedoekiaa
open Go.RowKit
set_option linter.unusedVariables false

/-- The pairs' cells, one behind the other. -/
def pcs (l : List (Int × Int)) : List Value := l.flatMap fun p => [.int .i64 p.1, .int .i64 p.2]
theorem pcs_nil : pcs [] = [] := rfl
theorem pcs_cons (p : Int × Int) (l : List (Int × Int)) : pcs (p :: l) = .int .i64 p.1 :: .int .i64 p.2 :: pcs l := rfl
theorem pcs_append (a b : List (Int × Int)) : pcs (a ++ b) = pcs a ++ pcs b := by simp [pcs]
theorem pcs_length (l : List (Int × Int)) : (pcs l).length = l.length * 2 := by
  induction l with
  | nil => rfl
  | cons p l ih => rw [pcs_cons]; simp only [List.length_cons, ih]; omega
theorem pcs_get {l : List (Int × Int)} {j : Nat} {p : Int × Int} (h : l[j]? = some p) : (pcs l)[j * 2]? = some (.int .i64 p.1) ∧ (pcs l)[j * 2 + 1]? = some (.int .i64 p.2) := by
  induction l generalizing j with
  | nil => simp at h
  | cons q l ih =>
    rw [pcs_cons]
    cases j with
    | zero => simp at h; subst h; exact ⟨rfl, rfl⟩
    | succ j =>
      have := ih (j := j) (by simpa using h)
      rw [show (j + 1) * 2 = j * 2 + 1 + 1 by omega]
      simpa using this
theorem pcs_one {l : List (Int × Int)} : ∀ u ∈ pcs l, u.oneCell' = true := by
  intro u hu
  obtain ⟨p, hp, h⟩ := List.mem_flatMap.1 hu
  simp at h
  rcases h with rfl | rfl <;> rfl
theorem pcs_take (l : List (Int × Int)) (k : Nat) : (pcs l).take (k * 2) = pcs (l.take k) := by
  induction l generalizing k with
  | nil => simp [pcs]
  | cons p l ih =>
    cases k with
    | zero => simp [pcs]
    | succ k => rw [pcs_cons, show (k + 1) * 2 = k * 2 + 1 + 1 by omega, List.take_succ_cons, List.take_succ_cons, ih, List.take_succ_cons, pcs_cons]
theorem pcs_drop (l : List (Int × Int)) (k : Nat) : (pcs l).drop (k * 2) = pcs (l.drop k) := by
  induction l generalizing k with
  | nil => simp [pcs]
  | cons p l ih =>
    cases k with
    | zero => simp [pcs]
    | succ k => rw [pcs_cons, show (k + 1) * 2 = k * 2 + 1 + 1 by omega, List.drop_succ_cons, List.drop_succ_cons, ih, List.drop_succ_cons]
theorem pcs_set {l : List (Int × Int)} {k : Nat} (p : Int × Int) (h : k < l.length) : ((pcs l).set (k * 2) (.int .i64 p.1)).set (k * 2 + 1) (.int .i64 p.2) = pcs (l.set k p) := by
  induction l generalizing k with
  | nil => simp at h
  | cons q l ih =>
    cases k with
    | zero => rfl
    | succ k => rw [pcs_cons, show (k + 1) * 2 = k * 2 + 1 + 1 by omega, List.set_cons_succ, List.set_cons_succ, List.set_cons_succ, List.set_cons_succ, ih (by simpa using h), List.set_cons_succ, pcs_cons]
theorem pcs_of_cells {w : World} {b off : Nat} {l : List (Int × Int)} (h : ∀ j p, l[j]? = some p → w.cell? ⟨b, off + j * 2, none⟩ = some (.int .i64 p.1) ∧ w.cell? ⟨b, off + j * 2 + 1, none⟩ = some (.int .i64 p.2)) :
    ∀ j u, (pcs l)[j]? = some u → w.cell? ⟨b, off + j, none⟩ = some u := by
  intro j u hu
  have hj : j < l.length * 2 := by rw [← pcs_length]; exact (List.getElem?_eq_some_iff.1 hu).1
  have hk : j / 2 < l.length := by omega
  have hg := List.getElem?_eq_getElem hk
  obtain ⟨c1, c2⟩ := h _ _ hg
  obtain ⟨f1, f2⟩ := pcs_get hg
  rcases (show j = j / 2 * 2 ∨ j = j / 2 * 2 + 1 by omega) with e | e
  · rw [e] at hu ⊢
    rw [f1] at hu; cases hu
    exact c1
  · rw [e] at hu ⊢
    rw [f2] at hu; cases hu
    rw [show off + (j / 2 * 2 + 1) = off + j / 2 * 2 + 1 by omega]
    exact c2

/-- Pairs that lie somewhere. -/
def Prt (W : World) (v : Value) (l : List (Int × Int)) : Prop := ∃ a cap, v = .slice a l.length cap ∧ l.length ≤ cap ∧ cap ≤ maxLen ∧ Is64s l ∧ (a = none → cap = 0) ∧
  (l = [] ∨ ∃ b off, a = some ⟨b, off, none⟩ ∧ b < W.heap.size ∧ ∀ j p, l[j]? = some p → W.cell? ⟨b, off + j * 2, none⟩ = some (.int .i64 p.1) ∧ W.cell? ⟨b, off + j * 2 + 1, none⟩ = some (.int .i64 p.2))
theorem Prt.below {W W' : World} {v : Value} {l : List (Int × Int)} (h : Prt W v l) (hB : Below W.heap.size W W') : Prt W' v l := by
  obtain ⟨a, cap, rfl, h1, h2, h3, hz, h4⟩ := h
  refine ⟨a, cap, rfl, h1, h2, h3, hz, ?_⟩
  rcases h4 with h4 | ⟨b, off, rfl, h5, h6⟩
  · exact .inl h4
  · exact .inr ⟨b, off, rfl, Nat.lt_of_lt_of_le h5 hB.size, fun j p hj => ⟨(hB.cell (p := ⟨b, off + j * 2, none⟩) h5).trans (h6 j p hj).1, (hB.cell (p := ⟨b, off + j * 2 + 1, none⟩) h5).trans (h6 j p hj).2⟩⟩
theorem Prt.nil (W : World) : Prt W (.slice none 0 0) [] := ⟨none, 0, rfl, Nat.le_refl _, Nat.zero_le _, (fun p hp => by cases hp), (fun _ => rfl), .inl rfl⟩
theorem Prt.is {W : World} {v : Value} {l : List (Int × Int)} (h : Prt W v l) : Is64s l := by
  obtain ⟨a, cap, rfl, h1, h2, h3, -⟩ := h; exact h3
/-- One of them. -/
theorem Prt.at {W : World} {a : Option Addr} {n cap k : Nat} {l : List (Int × Int)} (h : Prt W (.slice a n cap) l) {p : Int × Int} (hk : l[k]? = some p) :
    ∃ b off, a = some ⟨b, off, none⟩ ∧ b < W.heap.size ∧ W.cell? ⟨b, off + k * 2, none⟩ = some (.int .i64 p.1) ∧ W.cell? ⟨b, off + k * 2 + 1, none⟩ = some (.int .i64 p.2) := by
  obtain ⟨a', cap', e, h1, h2, h3, hz, h4⟩ := h
  cases e
  rcases h4 with rfl | ⟨b, off, rfl, h5, h6⟩
  · simp at hk
  · exact ⟨b, off, rfl, h5, h6 k p hk⟩
set_option maxRecDepth 100000 in
theorem pair_of_cells10 {W : World} {cs : List Value} (h : Cells W 42 cs) : ∃ p : Int × Int, (Is64 p.1 ∧ Is64 p.2) ∧ cs = [.int .i64 p.1, .int .i64 p.2] := by
  obtain ⟨hl, hj⟩ := h.struct Try.underlying42
  rw [show Try.prog.cellsOf 42 = 2 from by kernel_rfl] at hl
  have h0 : Cells W 3 ((cs.drop 0).take (Try.prog.cellsOf 3)) := hj 0 _ rfl
  have h1 : Cells W 3 ((cs.drop 1).take (Try.prog.cellsOf 3)) := hj 1 _ rfl
  rw [show Try.prog.cellsOf 3 = 1 from by kernel_rfl] at h0 h1
  match cs, hl with
  | [x, y], _ =>
    obtain ⟨a, e1, wa⟩ := h0.int Try.underlying3
    obtain ⟨b, e2, wb⟩ := h1.int Try.underlying3
    simp at e1 e2
    subst e1 e2
    exact ⟨(a, b), ⟨bounds_i64 wa, bounds_i64 wb⟩, rfl⟩
set_option maxRecDepth 100000 in
theorem prt_of {W : World} {a : Option Addr} {len cap : Nat}
    (r : (a = none ∧ len = 0 ∧ cap = 0) ∨ ∃ x, a = some x ∧ len ≤ cap ∧ cap ≤ maxLen ∧ ∀ i, i < cap → ∃ es, W.cells? 0 (x.add (i * Try.prog.cellsOf 42)) (Try.prog.cellsOf 42) = some es ∧ Cells W 42 es) :
    ∃ l, Prt W (.slice a len cap) l := by
  rcases r with ⟨rfl, rfl, rfl⟩ | ⟨x, rfl, h1, h2, h3⟩
  · exact ⟨[], Prt.nil W⟩
  · rw [show Try.prog.cellsOf 42 = 2 from by kernel_rfl] at h3
    have h4 : ∀ i, i < cap → ∃ p : Int × Int, (Is64 p.1 ∧ Is64 p.2) ∧ W.cell? (x.add (i * 2)) = some (.int .i64 p.1) ∧ W.cell? ((x.add (i * 2)).add 1) = some (.int .i64 p.2) := by
      intro i hi
      obtain ⟨es, g1, g2⟩ := h3 i hi
      obtain ⟨p, hp, rfl⟩ := pair_of_cells10 g2
      have hm := (cells_many g1).2
      refine ⟨p, hp, ?_, ?_⟩
      · obtain ⟨u, hu1, hu2⟩ := hm 0 (by omega)
        cases hu1
        rwa [show (x.add (i * 2)).add 0 = x.add (i * 2) by simp [Addr.add]] at hu2
      · obtain ⟨u, hu1, hu2⟩ := hm 1 (by omega)
        cases hu1
        exact hu2
    have h5 : ∀ i, ∃ p : Int × Int, i < cap → (Is64 p.1 ∧ Is64 p.2) ∧ W.cell? (x.add (i * 2)) = some (.int .i64 p.1) ∧ W.cell? ((x.add (i * 2)).add 1) = some (.int .i64 p.2) := fun i => by
      by_cases hi : i < cap
      · obtain ⟨s, hs⟩ := h4 i hi; exact ⟨s, fun _ => hs⟩
      · exact ⟨(0, 0), fun h => absurd h hi⟩
    obtain ⟨f, hf⟩ := Classical.axiomOfChoice h5
    refine ⟨(List.range len).map f, some x, cap, by simp, by simp; omega, h2, fun s hs => ?_, (fun e => by cases e), ?_⟩
    · obtain ⟨i, hi, rfl⟩ := List.mem_map.1 hs
      exact (hf i (by have := List.mem_range.1 hi; omega)).1
    · by_cases h0 : len = 0
      · subst h0; exact .inl rfl
      · have hc0 := (hf 0 (by omega)).2.1
        rw [Nat.zero_mul, show x.add 0 = x by simp [Addr.add]] at hc0
        obtain ⟨b, off, rfl, hb⟩ := cell_plain hc0
        refine .inr ⟨b, off, rfl, hb, fun j s hj => ?_⟩
        have hjl : j < len := by have := (List.getElem?_eq_some_iff.1 hj).1; simpa using this
        have hs : s = f j := by rw [List.getElem?_map] at hj; simp [hjl] at hj; exact hj.symm
        subst hs
        have q := (hf j (by omega)).2
        simp only [add_plain] at q
        exact q
set_option maxRecDepth 100000 in
theorem Arg.prt {W : World} {v : Value} (h : Arg W 37 v) : ∃ l, Prt W v l := by
  obtain ⟨a, len, cap, rfl, r⟩ := h.slice Try.underlying37
  exact prt_of r

/-- Pairs of one's own, made since block N. -/
def PrO (N : Nat) (w : World) (v : Value) (l : List (Int × Int)) : Prop := w.ownsRow N 42 2 v l.length (pcs l) ∧ Is64s l
theorem PrO.nil (N : Nat) (w : World) : PrO N w (.slice none 0 0) [] := ⟨World.ownsRow_nil _ _ _ _, fun p hp => by cases hp⟩
theorem PrO.below {N : Nat} {w w' : World} {v : Value} {l : List (Int × Int)} (h : PrO N w v l) (hB : Below w.heap.size w w') : PrO N w' v l := ⟨own_belowT h.1 hB, h.2⟩
theorem PrO.prt {N : Nat} {w : World} {v : Value} {l : List (Int × Int)} (h : PrO N w v l) : Prt w v l := by
  rcases h.1.2 with ⟨rfl, h0⟩ | ⟨g, cap, cur, rfl, h1, h2, h3, h4, h5, h6⟩
  · obtain rfl : l = [] := List.eq_nil_of_length_eq_zero h0
    exact Prt.nil w
  · refine ⟨_, cap, rfl, h3, h4, h.2, (fun e => by cases e), .inr ⟨g, 0, rfl, (Array.getElem?_eq_some_iff.1 h2).1, fun j p hj => ?_⟩⟩
    have hc := h.1.cells (g := g) rfl
    obtain ⟨f1, f2⟩ := pcs_get hj
    have c1 := hc _ _ f1
    have c2 := hc _ _ f2
    rw [Addr.add_mid] at c1 c2
    exact ⟨c1, by simpa [Nat.add_assoc] using c2⟩
theorem PrO.one (w : World) (p : Int × Int) (hp : Is64 p.1 ∧ Is64 p.2) : PrO w.heap.size (w.alloc (.cells #[.int .i64 p.1, .int .i64 p.2] 42)) (.slice (some ⟨w.heap.size, 0, none⟩) 1 1) [p] :=
  ⟨World.ownsRow_lit w #[.int .i64 p.1, .int .i64 p.2] 1 (Nat.le_refl _) (by simp [maxLen]) rfl, fun q hq => by simp at hq; subst hq; exact hp⟩
theorem PrO.weak {N M : Nat} {w : World} {v : Value} {l : List (Int × Int)} (h : PrO N w v l) (hM : M ≤ N) : PrO M w v l := by
  refine ⟨⟨h.1.1, ?_⟩, h.2⟩
  rcases h.1.2 with h' | ⟨g, cap, cur, e, h1, h2⟩
  · exact .inl h'
  · exact .inr ⟨g, cap, cur, e, Nat.le_trans hM h1, h2⟩
set_option maxRecDepth 100000 in
theorem info_prs : (Try.prog.info? 42).map (fun i => (i.zero, i.size, i.bytes)) = some (some (.agg #[.int .i64 0, .int .i64 0]), 2, 16) := by kernel_rfl
set_option maxRecDepth 100000 in
theorem elem_prs : Try.prog.underlying 37 = some (.slice (Try.prog.elem 37)) := by kernel_rfl
set_option maxRecDepth 100000 in
theorem sizeOf_prs (W : World) : (sizeOf (Try.prog.elem 37)).run Try.prog W = .ok 2 W := by kernel_rfl
/-- The row that comes back is this one, or a new one. -/
def Same (w : World) (ob : Option Nat) (u : Value) : Prop := u.ownBlock = ob ∨ ∀ j, u.ownBlock = some j → w.heap.size ≤ j
set_option maxRecDepth 100000 in
theorem pr_append {N : Nat} {w : World} {v x : Value} {l m : List (Int × Int)} (h : PrO N w v l) (hx : Prt w x m) (hN : N ≤ w.heap.size) (hlen : l.length + m.length ≤ 1000000) :
    ∃ v' w', (∀ ty, (Builtin.append_ #[37, 37] ty #[v, x]).run Try.prog w = .ok v' w') ∧ PrO N w' v' (l ++ m) ∧ w.grownBy w' v.ownBlock ∧ Same w v.ownBlock v' := by
  obtain ⟨i0, hi⟩ : ∃ i, Try.prog.info? 42 = some i := ⟨_, rfl⟩
  have hq := info_prs
  rw [hi] at hq
  have hz : (i0.zero, i0.size, i0.bytes) = (some (.agg #[.int .i64 0, .int .i64 0]), 2, 16) := Option.some.inj hq
  have hz0 := congrArg (·.1) hz
  have hz1 := congrArg (·.2.1) hz
  have hz2 := congrArg (·.2.2) hz
  simp only at hz0 hz1 hz2
  have h64 : Is64s (l ++ m) := fun p hp => by
    rcases List.mem_append.1 hp with hp | hp
    · exact h.2 p hp
    · exact hx.is p hp
  obtain ⟨a, cap, rfl, h1, h2, -, h0, h4⟩ := hx
  have hml : m.length ≤ maxLen := by omega
  cases a with
  | none =>
    obtain rfl := h0 rfl
    obtain rfl : m = [] := List.eq_nil_of_length_eq_zero (by omega)
    refine ⟨v, w, fun ty => run_append_owned_none (P := Try.prog) (w := w) N 37 ty 42 i0 2 Try.underlying37 hi v l.length _ h.1, by simpa using h, World.grownBy.refl _ _, .inl rfl⟩
  | some ad =>
    have hnews : ∀ j u, (pcs m)[j]? = some u → w.cell? (ad.add j) = some u := by
      rcases h4 with rfl | ⟨b, off, e, h5, h6⟩
      · intro j u hu; simp [pcs] at hu
      · cases e
        intro j u hu
        rw [Addr.add_lit]
        exact pcs_of_cells h6 j u hu
    have hr : ∀ ty, ∃ v' w', (Builtin.append_ #[37, 37] ty #[v, .slice (some ad) m.length cap]).run Try.prog w = .ok v' w' ∧ w'.ownsRow N 42 2 v' (l.length + m.length) (pcs l ++ pcs m) ∧ w.grownBy w' v.ownBlock ∧ (v'.ownBlock = v.ownBlock ∨ v'.ownBlock = some w.heap.size) := fun ty => by
      obtain ⟨v', w', g1, g2, g3, -, g4⟩ := run_append_own_at (P := Try.prog) w N 37 ty 42 i0 (.agg #[.int .i64 0, .int .i64 0]) 2 16 Try.underlying37 hi hz0 hz1 hz2 rfl (by decide) v l.length _ h.1 ad m.length cap (pcs m) (pcs_length m) hnews pcs_one (by unfold maxLen; omega) (by omega) hN
      exact ⟨v', w', g1, g2, g3, g4⟩
    obtain ⟨v', w', g1, g2, g3, g4⟩ := hr 0
    have hsm : Same w v.ownBlock v' := by
      rcases g4 with g4 | g4
      · exact .inl g4
      · exact .inr fun j e => by rw [g4] at e; cases e; exact Nat.le_refl _
    refine ⟨v', w', fun ty => ?_, ⟨by rw [List.length_append, pcs_append]; exact g2, h64⟩, g3, hsm⟩
    rw [← g1]
    rfl
set_option maxRecDepth 100000 in
/-- The first ones. -/
theorem pr_hi {ra : Option Addr} {R rc K : Nat} {l : List (Int × Int)} {w0 : World} (h : Prt w0 (.slice ra R rc) l) (hK : K ≤ R) :
    (∀ W : World, (Instr.sliceAt 37 (.slice ra R rc) none (some (.int .i64 (K : Int))) none).run Try.prog W = .ok (.slice ra K rc) W) ∧ ∀ W : World, Prt W (.slice ra R rc) l → Prt W (.slice ra K rc) (l.take K) := by
  obtain ⟨a, cap, e, h1, h2, _, h0, h4⟩ := h
  simp only [Value.slice.injEq] at e
  obtain ⟨rfl, rfl, rfl⟩ := e
  refine ⟨fun W => ?_, fun W hW => ?_⟩
  · rw [run_sliceAt_slice (h := elem_prs), run_slice_h (ht := elem_prs) (kh := .i64) (h0 := by omega) (h2 := by omega), sizeOf_prs]
    simp only [Result.andThen, sliced, Int.toNat_natCast, Nat.zero_mul, add_none, ite_self, Nat.sub_zero]
  · obtain ⟨a, cap, e, h1, h2, h3, h0, h4⟩ := hW
    simp only [Value.slice.injEq] at e
    obtain ⟨rfl, _, rfl⟩ := e
    have htl : (l.take K).length = K := by rw [List.length_take]; omega
    refine ⟨ra, rc, by rw [htl], by omega, h2, fun p hp => h3 p (List.mem_of_mem_take hp), h0, ?_⟩
    rcases h4 with rfl | ⟨b, off, e, h5, h6⟩
    · exact .inl (by simp)
    · exact .inr ⟨b, off, e, h5, fun j p hj => h6 j p (by rw [List.getElem?_take] at hj; split at hj; exact hj; cases hj)⟩
set_option maxRecDepth 100000 in
/-- .. and all behind them. -/
theorem pr_lo {ra : Option Addr} {R rc K : Nat} {l : List (Int × Int)} {w0 : World} (h : Prt w0 (.slice ra R rc) l) (hK : K ≤ R) :
    ∃ ra', (∀ W : World, (Instr.sliceAt 37 (.slice ra R rc) (some (.int .i64 (K : Int))) none none).run Try.prog W = .ok (.slice ra' (R - K) (rc - K)) W) ∧ ∀ W : World, Prt W (.slice ra R rc) l → Prt W (.slice ra' (R - K) (rc - K)) (l.drop K) := by
  obtain ⟨a, cap, e, h1, h2, _, h0, h4⟩ := h
  simp only [Value.slice.injEq] at e
  obtain ⟨rfl, rfl, rfl⟩ := e
  refine ⟨if rc = K then ra else ra.map fun x => x.add (K * 2), fun W => ?_, fun W hW => ?_⟩
  · rw [run_sliceAt_slice (h := elem_prs), run_slice_l (ht := elem_prs) (kl := .i64) (h0 := by omega) (h1 := by omega), sizeOf_prs]
    simp only [Result.andThen, sliced, Int.toNat_natCast]
  · obtain ⟨a, cap, e, h1, h2, h3, h0, h4⟩ := hW
    simp only [Value.slice.injEq] at e
    obtain ⟨rfl, _, rfl⟩ := e
    refine ⟨_, rc - K, by rw [List.length_drop], by rw [List.length_drop]; omega, by omega, fun p hp => h3 p (List.mem_of_mem_drop hp), ?_, ?_⟩
    · split
      · intro e; have := h0 e; omega
      · intro e
        have : ra = none := by cases ra <;> simp_all
        have := h0 this
        omega
    · by_cases h0 : l.length = K
      · exact .inl (List.drop_of_length_le (by omega))
      · rcases h4 with rfl | ⟨b, off, rfl, h5, h6⟩
        · exact .inl (by simp)
        · refine .inr ⟨b, off + K * 2, ?_, h5, fun j p hj => ?_⟩
          · rw [if_neg (by omega)]
            simp [Addr.add]
          · rw [List.getElem?_drop] at hj
            have := h6 _ _ hj
            rw [show off + (K + j) * 2 = off + K * 2 + j * 2 by omega] at this
            exact this
/-! A pair as one value. -/
theorem loadVar_openP (t : TypeId) (h : t ≠ 42) (a : Addr) : loadVar t a = (do if ← isAgg t then pure (.agg (← loadCells a (← sizeOf t))) else load a) := rfl
theorem storeVar_openP (t : TypeId) (h : t ≠ 42) (a : Addr) (v : Value) : storeVar t a v = (do
    if v.cells.size ≠ (← sizeOf t) then stuck "storeVar: the value has not the size of the variable"
    storeCells a v.cells.toList) := rfl
set_option maxRecDepth 100000 in
theorem zero_prs (w : World) : (zeroValue 42).run Try.prog w = .ok (.agg #[.int .i64 0, .int .i64 0]) w := by kernel_rfl
set_option maxRecDepth 100000 in
theorem build_prs0 (w : World) : (Instr.build 42 #[]).run Try.prog w = .ok (.agg #[.int .i64 0, .int .i64 0]) w := by kernel_rfl
set_option maxRecDepth 100000 in
theorem build_prs (a b : Int) (w : World) : (Instr.build 42 #[(0, .int .i64 a), (1, .int .i64 b)]).run Try.prog w = .ok (.agg #[.int .i64 a, .int .i64 b]) w := by kernel_rfl
set_option maxRecDepth 100000 in
theorem size_prs : (Try.prog.info? 42).map (·.size) = some 2 := by kernel_rfl
def prL (a b : Int) : List Value := [.int .i64 a, .int .i64 b]
set_option maxRecDepth 100000 in
theorem load_prs {W : World} {b off : Nat} {x y : Int} (c1 : W.cell? ⟨b, off, none⟩ = some (.int .i64 x)) (c2 : W.cell? ⟨b, off + 1, none⟩ = some (.int .i64 y)) :
    (loadVar 42 ⟨b, off, none⟩).run Try.prog W = .ok (.agg #[.int .i64 x, .int .i64 y]) W :=
  run_loadVar_mid W b off _ (prL x y) _ (fun j v hj => by
    match j with
    | 0 => cases hj; exact c1
    | 1 => cases hj; exact c2
    | j + 2 => simp [prL] at hj) Try.underlying42 rfl (by kernel_rfl)
set_option maxRecDepth 100000 in
theorem new_prs (x : World) (a b : Int) : (storeVar 42 ⟨x.heap.size, 0, none⟩ (.agg #[.int .i64 a, .int .i64 b])).run Try.prog (x.alloc (.cells #[.int .i64 0, .int .i64 0] 42)) = .ok () (x.alloc (.cells #[.int .i64 a, .int .i64 b] 42)) :=
  run_storeVar_new x _ _ (prL a b).toArray size_prs rfl (by kernel_rfl)
set_option maxRecDepth 100000 in
theorem slice_prs (w : World) (a b : Int) : (Instr.buildSlice 37 1 #[(0, .agg #[.int .i64 a, .int .i64 b])]).run Try.prog w = .ok (.slice (some ⟨w.heap.size, 0, none⟩) 1 1) (w.alloc (.cells #[.int .i64 a, .int .i64 b] 42)) := by kernel_rfl
set_option maxRecDepth 100000 in
theorem slice_prs0 (w : World) : (Instr.buildSlice 37 0 #[]).run Try.prog w = .ok (.slice (some ⟨w.heap.size, 0, none⟩) 0 0) (w.alloc (.cells #[] 42)) := by kernel_rfl
end Go.Proofs.Ytiidfffedoekiaa
