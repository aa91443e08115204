/- Rows of runs in memory: as they come in, and of one's own; appended, the last one grown. -/
import Derived.Test.YtajamblkjmafmaaTbPr
import Derived.Test.YtajamblkjmafmaaInO
import Derived.Test.YtajamblkjmafmaaMake
import Derived.Test.YtajamblkjmafmaaQuiet
import Derived.Test.YtajamblkjmafmaaRuMath
import Derived.Deep.Upon
namespace Go.Proofs.Ytajamblkjmafmaa
open Go.RowKit
set_option linter.unusedVariables false
set_option linter.unusedSimpArgs false

set_option maxRecDepth 100000 in
theorem run_of_cells {W : World} {cs : List Value} (h : Cells W 36 cs) : ∃ p : Int × Int, (Is64 p.1 ∧ Is64 p.2) ∧ cs = [.int .i64 p.1, .int .i64 p.2] := by
  obtain ⟨hl, hj⟩ := h.struct Try.underlying36
  rw [show Try.prog.cellsOf 36 = 2 from by kernel_rfl] at hl
  have h0 : Cells W 3 ((cs.drop 0).take (Try.prog.cellsOf 3)) := hj 0 _ rfl
  have h1 : Cells W 3 ((cs.drop 1).take (Try.prog.cellsOf 3)) := hj 1 _ rfl
  rw [show Try.prog.cellsOf 3 = 1 from by kernel_rfl] at h0 h1
  match cs, hl with
  | [x, y], _ =>
    obtain ⟨a, e1, wa⟩ := h0.int Try.underlying3
    obtain ⟨b, e2, wb⟩ := h1.int Try.underlying3
    simp at e1 e2
    subst e1 e2
    exact ⟨(a, b), ⟨bounds_i64 wa, bounds_i64 wb⟩, rfl⟩
set_option maxRecDepth 100000 in
theorem rnt_of {W : World} {a : Option Addr} {len cap : Nat}
    (r : (a = none ∧ len = 0 ∧ cap = 0) ∨ ∃ x, a = some x ∧ len ≤ cap ∧ cap ≤ maxLen ∧ ∀ i, i < cap → ∃ es, W.cells? 0 (x.add (i * Try.prog.cellsOf 36)) (Try.prog.cellsOf 36) = some es ∧ Cells W 36 es) :
    ∃ l, Prt W (.slice a len cap) l := by
  rcases r with ⟨rfl, rfl, rfl⟩ | ⟨x, rfl, h1, h2, h3⟩
  · exact ⟨[], Prt.nil W⟩
  · rw [show Try.prog.cellsOf 36 = 2 from by kernel_rfl] at h3
    have h4 : ∀ i, i < cap → ∃ p : Int × Int, (Is64 p.1 ∧ Is64 p.2) ∧ W.cell? (x.add (i * 2)) = some (.int .i64 p.1) ∧ W.cell? ((x.add (i * 2)).add 1) = some (.int .i64 p.2) := by
      intro i hi
      obtain ⟨es, g1, g2⟩ := h3 i hi
      obtain ⟨p, hp, rfl⟩ := run_of_cells g2
      have hm := (cells_many g1).2
      refine ⟨p, hp, ?_, ?_⟩
      · obtain ⟨u, hu1, hu2⟩ := hm 0 (by omega)
        cases hu1
        rwa [show (x.add (i * 2)).add 0 = x.add (i * 2) by simp [Addr.add]] at hu2
      · obtain ⟨u, hu1, hu2⟩ := hm 1 (by omega)
        cases hu1
        exact hu2
    have h5 : ∀ i, ∃ p : Int × Int, i < cap → (Is64 p.1 ∧ Is64 p.2) ∧ W.cell? (x.add (i * 2)) = some (.int .i64 p.1) ∧ W.cell? ((x.add (i * 2)).add 1) = some (.int .i64 p.2) := fun i => by
      by_cases hi : i < cap
      · obtain ⟨s, hs⟩ := h4 i hi; exact ⟨s, fun _ => hs⟩
      · exact ⟨(0, 0), fun h => absurd h hi⟩
    obtain ⟨f, hf⟩ := Classical.axiomOfChoice h5
    refine ⟨(List.range len).map f, some x, cap, by simp, by simp; omega, h2, fun s hs => ?_, (fun e => by cases e), ?_⟩
    · obtain ⟨i, hi, rfl⟩ := List.mem_map.1 hs
      exact (hf i (by have := List.mem_range.1 hi; omega)).1
    · by_cases h0 : len = 0
      · subst h0; exact .inl rfl
      · have hc0 := (hf 0 (by omega)).2.1
        rw [Nat.zero_mul, show x.add 0 = x by simp [Addr.add]] at hc0
        obtain ⟨b, off, rfl, hb⟩ := cell_plain hc0
        refine .inr ⟨b, off, rfl, hb, fun j s hj => ?_⟩
        have hjl : j < len := by have := (List.getElem?_eq_some_iff.1 hj).1; simpa using this
        have hs : s = f j := by rw [List.getElem?_map] at hj; simp [hjl] at hj; exact hj.symm
        subst hs
        have q := (hf j (by omega)).2
        simp only [add_plain] at q
        exact q
set_option maxRecDepth 100000 in
theorem Arg.rnt {W : World} {v : Value} (h : Arg W 23 v) : ∃ l, Prt W v l := by
  obtain ⟨a, len, cap, rfl, r⟩ := h.slice Try.underlying23
  exact rnt_of r

/-- Pairs of one's own, made since block N. -/
def RnO (N : Nat) (w : World) (v : Value) (l : List (Int × Int)) : Prop := w.ownsRow N 36 2 v l.length (pcs l) ∧ Is64s l
theorem RnO.nil (N : Nat) (w : World) : RnO N w (.slice none 0 0) [] := ⟨World.ownsRow_nil _ _ _ _, fun p hp => by cases hp⟩
theorem RnO.below {N : Nat} {w w' : World} {v : Value} {l : List (Int × Int)} (h : RnO N w v l) (hB : Below w.heap.size w w') : RnO N w' v l := ⟨own_belowT h.1 hB, h.2⟩
theorem RnO.prt {N : Nat} {w : World} {v : Value} {l : List (Int × Int)} (h : RnO N w v l) : Prt w v l := by
  rcases h.1.2 with ⟨rfl, h0⟩ | ⟨g, cap, cur, rfl, h1, h2, h3, h4, h5, h6⟩
  · obtain rfl : l = [] := List.eq_nil_of_length_eq_zero h0
    exact Prt.nil w
  · refine ⟨_, cap, rfl, h3, h4, h.2, (fun e => by cases e), .inr ⟨g, 0, rfl, (Array.getElem?_eq_some_iff.1 h2).1, fun j p hj => ?_⟩⟩
    have hc := h.1.cells (g := g) rfl
    obtain ⟨f1, f2⟩ := pcs_get hj
    have c1 := hc _ _ f1
    have c2 := hc _ _ f2
    rw [Addr.add_mid] at c1 c2
    exact ⟨c1, by simpa [Nat.add_assoc] using c2⟩
theorem RnO.one (w : World) (p : Int × Int) (hp : Is64 p.1 ∧ Is64 p.2) : RnO w.heap.size (w.alloc (.cells #[.int .i64 p.1, .int .i64 p.2] 36)) (.slice (some ⟨w.heap.size, 0, none⟩) 1 1) [p] :=
  ⟨World.ownsRow_lit w #[.int .i64 p.1, .int .i64 p.2] 1 (Nat.le_refl _) (by simp [maxLen]) rfl, fun q hq => by simp at hq; subst hq; exact hp⟩
theorem RnO.weak {N M : Nat} {w : World} {v : Value} {l : List (Int × Int)} (h : RnO N w v l) (hM : M ≤ N) : RnO M w v l := by
  refine ⟨⟨h.1.1, ?_⟩, h.2⟩
  rcases h.1.2 with h' | ⟨g, cap, cur, e, h1, h2⟩
  · exact .inl h'
  · exact .inr ⟨g, cap, cur, e, Nat.le_trans hM h1, h2⟩
set_option maxRecDepth 100000 in
theorem info_rns : (Try.prog.info? 36).map (fun i => (i.zero, i.size, i.bytes)) = some (some (.agg #[.int .i64 0, .int .i64 0]), 2, 16) := by kernel_rfl
set_option maxRecDepth 100000 in
theorem elem_rns : Try.prog.underlying 23 = some (.slice (Try.prog.elem 23)) := by kernel_rfl
set_option maxRecDepth 100000 in
theorem sizeOf_rns (W : World) : (sizeOf (Try.prog.elem 23)).run Try.prog W = .ok 2 W := by kernel_rfl
set_option maxRecDepth 100000 in
theorem rn_append {N : Nat} {w : World} {v x : Value} {l m : List (Int × Int)} (h : RnO N w v l) (hx : Prt w x m) (hN : N ≤ w.heap.size) (hlen : l.length + m.length ≤ 1000000) :
    ∃ v' w', (∀ ty, (Builtin.append_ #[23, 23] ty #[v, x]).run Try.prog w = .ok v' w') ∧ RnO N w' v' (l ++ m) ∧ w.grownBy w' v.ownBlock ∧ Same w v.ownBlock v' := by
  obtain ⟨i0, hi⟩ : ∃ i, Try.prog.info? 36 = some i := ⟨_, rfl⟩
  have hq := info_rns
  rw [hi] at hq
  have hz : (i0.zero, i0.size, i0.bytes) = (some (.agg #[.int .i64 0, .int .i64 0]), 2, 16) := Option.some.inj hq
  have hz0 := congrArg (·.1) hz
  have hz1 := congrArg (·.2.1) hz
  have hz2 := congrArg (·.2.2) hz
  simp only at hz0 hz1 hz2
  have h64 : Is64s (l ++ m) := fun p hp => by
    rcases List.mem_append.1 hp with hp | hp
    · exact h.2 p hp
    · exact hx.is p hp
  obtain ⟨a, cap, rfl, h1, h2, -, h0, h4⟩ := hx
  have hml : m.length ≤ maxLen := by omega
  cases a with
  | none =>
    obtain rfl := h0 rfl
    obtain rfl : m = [] := List.eq_nil_of_length_eq_zero (by omega)
    refine ⟨v, w, fun ty => run_append_owned_none (P := Try.prog) (w := w) N 23 ty 36 i0 2 Try.underlying23 hi v l.length _ h.1, by simpa using h, World.grownBy.refl _ _, .inl rfl⟩
  | some ad =>
    have hnews : ∀ j u, (pcs m)[j]? = some u → w.cell? (ad.add j) = some u := by
      rcases h4 with rfl | ⟨b, off, e, h5, h6⟩
      · intro j u hu; simp [pcs] at hu
      · cases e
        intro j u hu
        rw [Addr.add_lit]
        exact pcs_of_cells h6 j u hu
    have hr : ∀ ty, ∃ v' w', (Builtin.append_ #[23, 23] ty #[v, .slice (some ad) m.length cap]).run Try.prog w = .ok v' w' ∧ w'.ownsRow N 36 2 v' (l.length + m.length) (pcs l ++ pcs m) ∧ w.grownBy w' v.ownBlock ∧ (v'.ownBlock = v.ownBlock ∨ v'.ownBlock = some w.heap.size) := fun ty => by
      obtain ⟨v', w', g1, g2, g3, -, g4⟩ := run_append_own_at (P := Try.prog) w N 23 ty 36 i0 (.agg #[.int .i64 0, .int .i64 0]) 2 16 Try.underlying23 hi hz0 hz1 hz2 rfl (by decide) v l.length _ h.1 ad m.length cap (pcs m) (pcs_length m) hnews pcs_one (by unfold maxLen; omega) (by omega) hN
      exact ⟨v', w', g1, g2, g3, g4⟩
    obtain ⟨v', w', g1, g2, g3, g4⟩ := hr 0
    have hsm : Same w v.ownBlock v' := by
      rcases g4 with g4 | g4
      · exact .inl g4
      · exact .inr fun j e => by rw [g4] at e; cases e; exact Nat.le_refl _
    refine ⟨v', w', fun ty => ?_, ⟨by rw [List.length_append, pcs_append]; exact g2, h64⟩, g3, hsm⟩
    rw [← g1]
    rfl
/-! A pair as one value. -/
theorem loadVar_openR (t : TypeId) (h : t ≠ 36) (a : Addr) : loadVar t a = (do if ← isAgg t then pure (.agg (← loadCells a (← sizeOf t))) else load a) := rfl
theorem storeVar_openR (t : TypeId) (h : t ≠ 36) (a : Addr) (v : Value) : storeVar t a v = (do
    if v.cells.size ≠ (← sizeOf t) then stuck "storeVar: the value has not the size of the variable"
    storeCells a v.cells.toList) := rfl
set_option maxRecDepth 100000 in
theorem zero_rns (w : World) : (zeroValue 36).run Try.prog w = .ok (.agg #[.int .i64 0, .int .i64 0]) w := by kernel_rfl
set_option maxRecDepth 100000 in
theorem build_rns0 (w : World) : (Instr.build 36 #[]).run Try.prog w = .ok (.agg #[.int .i64 0, .int .i64 0]) w := by kernel_rfl
set_option maxRecDepth 100000 in
theorem build_rns (a b : Int) (w : World) : (Instr.build 36 #[(0, .int .i64 a), (1, .int .i64 b)]).run Try.prog w = .ok (.agg #[.int .i64 a, .int .i64 b]) w := by kernel_rfl
set_option maxRecDepth 100000 in
theorem size_rns : (Try.prog.info? 36).map (·.size) = some 2 := by kernel_rfl
set_option maxRecDepth 100000 in
theorem load_rns {W : World} {b off : Nat} {x y : Int} (c1 : W.cell? ⟨b, off, none⟩ = some (.int .i64 x)) (c2 : W.cell? ⟨b, off + 1, none⟩ = some (.int .i64 y)) :
    (loadVar 36 ⟨b, off, none⟩).run Try.prog W = .ok (.agg #[.int .i64 x, .int .i64 y]) W :=
  run_loadVar_mid W b off _ (prL x y) _ (fun j v hj => by
    match j with
    | 0 => cases hj; exact c1
    | 1 => cases hj; exact c2
    | j + 2 => simp [prL] at hj) Try.underlying36 rfl (by kernel_rfl)
set_option maxRecDepth 100000 in
theorem new_rns (x : World) (a b : Int) : (storeVar 36 ⟨x.heap.size, 0, none⟩ (.agg #[.int .i64 a, .int .i64 b])).run Try.prog (x.alloc (.cells #[.int .i64 0, .int .i64 0] 36)) = .ok () (x.alloc (.cells #[.int .i64 a, .int .i64 b] 36)) :=
  run_storeVar_new x _ _ (prL a b).toArray size_rns rfl (by kernel_rfl)
set_option maxRecDepth 100000 in
theorem slice_rns (w : World) (a b : Int) : (Instr.buildSlice 23 1 #[(0, .agg #[.int .i64 a, .int .i64 b])]).run Try.prog w = .ok (.slice (some ⟨w.heap.size, 0, none⟩) 1 1) (w.alloc (.cells #[.int .i64 a, .int .i64 b] 36)) := by kernel_rfl
set_option maxRecDepth 100000 in
theorem slice_rns0 (w : World) : (Instr.buildSlice 23 0 #[]).run Try.prog w = .ok (.slice (some ⟨w.heap.size, 0, none⟩) 0 0) (w.alloc (.cells #[] 36)) := by kernel_rfl
theorem RnO.base {N : Nat} {w : World} {v : Value} {l : List (Int × Int)} (h : RnO N w v l) : ∀ j, v.ownBlock = some j → N ≤ j ∧ j < w.heap.size := by
  intro j hj
  rcases h.1.2 with ⟨rfl, h0⟩ | ⟨g, cap, cur, rfl, h1, h2, -⟩
  · cases hj
  · cases hj
    exact ⟨h1, (Array.getElem?_eq_some_iff.1 h2).1⟩
/-- Where a row that is not empty lies. -/
theorem RnO.open {N : Nat} {w : World} {v : Value} {l : List (Int × Int)} (h : RnO N w v l) (h0 : l ≠ []) : ∃ g cap cur, v = .slice (some ⟨g, 0, none⟩) l.length cap ∧ w.heap[g]? = some (.cells cur 36 (0, 0)) := by
  rcases h.1.2 with ⟨_, hz⟩ | ⟨g, cap, cur, e, _, hg, -⟩
  · exact absurd (List.eq_nil_of_length_eq_zero hz) h0
  · exact ⟨g, cap, cur, e, hg⟩
theorem rn_setAt {N : Nat} {w : World} {g cap : Nat} {l : List (Int × Int)} {k : Nat} {x y z : Int} (h : RnO N w (.slice (some ⟨g, 0, none⟩) l.length cap) l) (hk : l[k]? = some (x, y)) (hz : Is64 z) :
    RnO N (w.setCell ⟨g, k * 2 + 1, none⟩ (.int .i64 z)) (.slice (some ⟨g, 0, none⟩) l.length cap) (l.set k (x, z)) ∧ w.grownBy (w.setCell ⟨g, k * 2 + 1, none⟩ (.int .i64 z)) (some g) := by
  have hlt := (List.getElem?_eq_some_iff.1 hk).1
  have hh := (h.1.stored (k * 2 + 1) (.int .i64 z)).1
  have e1 : (pcs l).set (k * 2 + 1) (.int .i64 z) = pcs (l.set k (x, z)) := by
    rw [← pcs_set (x, z) hlt]
    congr 1
    refine (List.ext_getElem? fun j => ?_)
    by_cases e : k * 2 = j
    · subst e
      rw [(pcs_get hk).1, List.getElem?_set_self (by rw [pcs_length]; omega)]
    · rw [List.getElem?_set_ne e]
  refine ⟨⟨?_, ?_⟩, grownBy_setCellJ w g _ _⟩
  · rw [e1] at hh
    rw [List.length_set]
    exact hh
  · intro q hq
    rcases List.mem_or_eq_of_mem_set hq with hq | rfl
    · exact h.2 q hq
    · exact ⟨(h.2 _ (List.mem_of_getElem? hk)).1, hz⟩
theorem RnO.kept {N : Nat} {w w' : World} {v : Value} {l : List (Int × Int)} {row : Option Nat} (h : RnO N w v l) (hg : w.grownBy w' row) (hr : v.ownBlock = none ∨ v.ownBlock ≠ row) : RnO N w' v l := ⟨h.1.kept hg hr, h.2⟩
set_option maxRecDepth 100000 in
/-- One more run. -/
theorem rn_more {w wr : World} {v : Value} {out : List (Int × Int)} {x : Int} (HF : RnO w.heap.size wr v out) (HB : Below w.heap.size w wr) (hx : Is64 x) (hl : out.length ≤ 900000) :
    ∃ W1 f2 W2, (Instr.buildSlice 23 1 #[(0, .agg #[.int .i64 x, .int .i64 1])]).run Try.prog wr = .ok (.slice (some ⟨wr.heap.size, 0, none⟩) 1 1) W1 ∧
      Hid (∀ ty, (Builtin.append_ #[23, 23] ty #[v, .slice (some ⟨wr.heap.size, 0, none⟩) 1 1]).run Try.prog W1 = .ok f2 W2) ∧ Hid (RnO w.heap.size W2 f2 (out ++ [(x, 1)])) ∧ Hid (Below w.heap.size w W2) := by
  have SB := slice_rns wr x 1
  obtain ⟨W1, hW1⟩ : ∃ W, wr.alloc (.cells #[.int .i64 x, .int .i64 1] 36) = W := ⟨_, rfl⟩
  have hb1 : Below wr.heap.size wr W1 := by rw [← hW1]; exact below_new _ _
  have ho1 : RnO wr.heap.size W1 (.slice (some ⟨wr.heap.size, 0, none⟩) 1 1) [(x, 1)] := by rw [← hW1]; exact RnO.one wr (x, 1) ⟨hx, by unfold Is64; omega⟩
  have HB1 : Below w.heap.size w W1 := HB.trans (hb1.mono HB.size)
  obtain ⟨f2, W2, hr2, hf2, hg2, -⟩ := rn_append (HF.below hb1) ho1.prt HB1.size (by rw [List.length_singleton]; omega)
  have HB2 : Below w.heap.size w W2 := HB1.grown hg2 HB1.size (fun j e => (HF.base j e).1)
  rw [hW1] at SB
  exact ⟨W1, f2, W2, SB, hr2, hf2, HB2⟩
/-- The last run one longer. -/
theorem rn_grow {w wr : World} {v : Value} {A : List (Int × Int)} {f c : Int} {K : Nat} (hF : RnO w.heap.size wr v (A ++ [(f, c)])) (HB : Below w.heap.size w wr) (hc : Is64 (c + 1)) (hK : A.length = K) :
    ∃ g cap W3, v = .slice (some ⟨g, 0, none⟩) (K + 1) cap ∧ wr.cell? ⟨g, K * 2 + 1, none⟩ = some (.int .i64 c) ∧ wr.frozen? ⟨g, K * 2 + 1, none⟩ = false ∧
      wr.setCell ⟨g, K * 2 + 1, none⟩ (.int .i64 (c + 1)) = W3 ∧ Hid (RnO w.heap.size W3 v (A ++ [(f, c + 1)])) ∧ Hid (Below w.heap.size w W3) := by
  obtain ⟨g, cap, cur, hv, hg⟩ := hF.open (by simp)
  have hAl : (A ++ [(f, c)]).length = K + 1 := by rw [List.length_append, hK]; rfl
  have hget : (A ++ [(f, c)])[K]? = some (f, c) := by rw [← hK]; simp
  have hset : (A ++ [(f, c)]).set K (f, c + 1) = A ++ [(f, c + 1)] := by rw [← hK]; simp
  subst hv
  obtain ⟨hS, hG⟩ := rn_setAt hF hget (z := c + 1) hc
  have d1 : wr.cell? ⟨g, K * 2 + 1, none⟩ = some (.int .i64 c) := by
    have := hF.1.cells (g := g) rfl _ _ (pcs_get hget).2
    rwa [Addr.add_mid, Nat.zero_add] at this
  have d2 : wr.frozen? ⟨g, K * 2 + 1, none⟩ = false := by simp [World.frozen?, hg]
  obtain ⟨W3, hW3⟩ : ∃ W3, wr.setCell ⟨g, K * 2 + 1, none⟩ (.int .i64 (c + 1)) = W3 := ⟨_, rfl⟩
  rw [hW3, hset] at hS
  rw [hW3] at hG
  rw [hAl] at hS ⊢
  exact ⟨g, cap, W3, rfl, d1, d2, hW3, hS, HB.grown hG HB.size (fun j e => by cases e; exact (hF.base g rfl).1)⟩
end Go.Proofs.Ytajamblkjmafmaa
