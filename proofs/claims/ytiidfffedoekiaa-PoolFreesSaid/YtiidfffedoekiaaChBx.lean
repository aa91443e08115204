/- Boxes beside a range over snapshots: what stays of them. -/
import Derived.Test.YtiidfffedoekiaaChSp
import Derived.RangeFuncBox
namespace Go.Proofs.Ytiidfffedoekiaa
open Go.RowKit Go.Shelf
set_option linter.unusedVariables false

theorem rowC_own {x y : World} {B N : Nat} {t : TypeId} {C : List Value} {row : Option Nat} (h : RowC x B t C) (hg : x.grownBy y row) (hr : ∀ r, row = some r → N ≤ r ∧ ∃ o : Obj, x.heap[r]? = some o ∧ o.isCells = false) : RowC y B t C :=
  (hg.block B h.lt (fun e => by
    obtain ⟨-, o, ho, hc⟩ := hr B e.symm
    rw [show x.heap[B]? = _ from h] at ho
    cases ho
    cases hc)).trans h
theorem below_own {N : Nat} {w x y : World} {row : Option Nat} (h : Below N w x) (hN : N ≤ w.heap.size) (hg : x.grownBy y row) (hr : ∀ r, row = some r → w.heap.size ≤ r ∧ ∃ o : Obj, x.heap[r]? = some o ∧ o.isCells = false) : Below N w y :=
  h.grown hg (Nat.le_trans hN h.size) (fun k e => Nat.le_trans hN (hr k e).1)
theorem keepsFrom_cells {B : Nat} {x y : World} {b : Nat} {C : List Value} {t : TypeId} (h : RowC x b t C) (hg : x.grownBy y (some b)) : KeepsFrom B x y := ⟨hg.size, fun k o hk ho hc => by
  refine (hg.block k (Array.getElem?_eq_some_iff.1 ho).1 (fun e => ?_)).trans ho
  obtain rfl : b = k := by cases e; rfl
  rw [show x.heap[b]? = _ from h] at ho
  cases ho
  cases hc⟩
theorem keepsFrom_below {B : Nat} {x y : World} (h : Below x.heap.size x y) : KeepsFrom B x y := ⟨h.size, fun k o _ ho _ => (h.block k (Array.getElem?_eq_some_iff.1 ho).1).trans ho⟩
theorem keepsFrom_trans {B : Nat} {x y z : World} (h : KeepsFrom B x y) (k : KeepsFrom B y z) : KeepsFrom B x z := ⟨Nat.le_trans h.size k.size, fun j o hj ho hc => k.same j o hj (h.same j o hj ho hc) hc⟩
theorem keepsFrom_row {B N e sz n : Nat} {x y : World} {v : Value} {xs : List Value} (h : x.ownsRow N e sz v n xs) (hg : x.grownBy y v.ownBlock) : KeepsFrom B x y := ⟨hg.size, fun k o hk ho hc => by
  refine (hg.block k (Array.getElem?_eq_some_iff.1 ho).1 (fun e => ?_)).trans ho
  rcases h.2 with ⟨rfl, _⟩ | ⟨g, cap, cur, rfl, _, hgg, _⟩
  · cases e
  · obtain rfl : g = k := by cases e; rfl
    rw [hgg] at ho
    cases ho
    cases hc⟩
theorem set_other {x : World} {B B' : Nat} {t : TypeId} {C : List Value} (h : RowC x B t C) (hne : B ≠ B') (j : Nat) (v : Value) : RowC (x.setCell ⟨B', j, none⟩ v) B t C := h.grown (grownBy_setCellJ x B' j v) (fun e => hne (by cases e; rfl))
theorem set_below {N B' : Nat} {w x : World} (h : Below N w x) (hB : N ≤ B') (j : Nat) (v : Value) : Below N w (x.setCell ⟨B', j, none⟩ v) := h.setCell (p := ⟨B', j, none⟩) hB v

/-- The boxes of span, and all that lay ahead. -/
structure SpX (N B : Nat) (i j : Int) (v : Value) (w W : World) : Prop where
  bl : RowC W B 22 [v]
  bi : RowC W (B + 1) 3 [.int .i64 i]
  bj : RowC W (B + 2) 3 [.int .i64 j]
  be : Below N w W
theorem SpX.own {N B : Nat} {i j : Int} {v : Value} {w x y : World} {row : Option Nat} {M : Nat} (h : SpX N B i j v w x) (hN : N ≤ w.heap.size) (hg : x.grownBy y row) (hM : w.heap.size ≤ M) (hr : ∀ r, row = some r → M ≤ r ∧ ∃ o : Obj, x.heap[r]? = some o ∧ o.isCells = false) : SpX N B i j v w y :=
  ⟨rowC_own h.bl hg hr, rowC_own h.bi hg hr, rowC_own h.bj hg hr, below_own h.be hN hg (fun r e => ⟨Nat.le_trans hM (hr r e).1, (hr r e).2⟩)⟩
theorem SpX.set {N B B' : Nat} {i j : Int} {v : Value} {w x : World} (h : SpX N B i j v w x) (hN : N ≤ B') (h1 : B' < B ∨ B + 2 < B') (k : Nat) (u : Value) : SpX N B i j v w (x.setCell ⟨B', k, none⟩ u) :=
  ⟨set_other h.bl (by omega) k u, set_other h.bi (by omega) k u, set_other h.bj (by omega) k u, set_below h.be hN k u⟩
theorem SpX.grown {N B B' : Nat} {i j : Int} {v : Value} {w x y : World} (h : SpX N B i j v w x) (hN : N ≤ B') (hx : N ≤ x.heap.size) (h1 : B' < B ∨ B + 2 < B') (hg : x.grownBy y (some B')) : SpX N B i j v w y :=
  ⟨h.bl.grown hg (by simp; omega), h.bi.grown hg (by simp; omega), h.bj.grown hg (by simp; omega), h.be.grown hg hx (fun k e => by cases e; exact hN)⟩
theorem SpX.below {N B : Nat} {i j : Int} {v : Value} {w x y : World} (h : SpX N B i j v w x) (hx : N ≤ x.heap.size) (hb : Below x.heap.size x y) : SpX N B i j v w y :=
  ⟨h.bl.below hb, h.bi.below hb, h.bj.below hb, h.be.trans (hb.mono hx)⟩
theorem SpX.alloc {N B : Nat} {i j : Int} {v : Value} {w x : World} (h : SpX N B i j v w x) (hx : N ≤ x.heap.size) (o : Obj) : SpX N B i j v w (x.alloc o) := h.below hx (below_new x o)
theorem SpX.spb {B : Nat} {i j : Int} {v : Value} {w W : World} {r : List SV} {l : List SN} {N : Nat} (h : SpX N B i j v w W) (hN : w.heap.size = N) (hs : SnR w v r l) : SpB (B + 1) (B + 2) B i j v r l W :=
  ⟨h.bi.cell 0 _ rfl, h.bj.cell 0 _ rfl, h.bl.cell 0 _ rfl, hs.below (by rw [hN]; exact h.be)⟩
/-- The three boxes, new. -/
theorem SpX.new {N : Nat} {w x : World} (i j : Int) (v : Value) (hb : Below N w x) (hN : N ≤ x.heap.size) :
    SpX N x.heap.size i j v w (((x.alloc (.cells #[v] 22)).alloc (.cells #[.int .i64 i] 3)).alloc (.cells #[.int .i64 j] 3)) := by
  have r1 := RowC.new x 22 [v]
  have r2 := RowC.new (x.alloc (.cells #[v] 22)) 3 [.int .i64 i]
  have r3 := RowC.new ((x.alloc (.cells #[v] 22)).alloc (.cells #[.int .i64 i] 3)) 3 [.int .i64 j]
  simp only [World.size_alloc] at r2 r3
  refine ⟨(r1.below (below_new _ _)).below (below_new _ _), r2.below (below_new _ _), r3, ?_⟩
  exact ((hb.alloc hN _).alloc (by simp; omega) _).alloc (by simp; omega) _
/-- The item that comes. -/
theorem encS_at {r : List SV} {k : Nat} {q : SV} (lo : Nat) (h : r[lo + k]? = some q) : encS r lo k = #[.int .i64 ((lo + k : Nat) : Int), svV q] := by unfold encS; rw [h]; rfl
theorem snR_at {W : World} {v : Value} {r : List SV} {l : List SN} (h : SnR W v r l) {k : Nat} (hk : k < l.length) : ∃ q s, r[k]? = some q ∧ l[k]? = some s ∧ SnIs W q s := by
  obtain ⟨a, cap, rfl, h1, h2, hz, hr, hs, h4⟩ := h
  have a1 := List.getElem?_eq_getElem (l := r) (i := k) (by omega)
  have a2 := List.getElem?_eq_getElem hk
  exact ⟨_, _, a1, a2, hs k _ _ a1 a2⟩
theorem letsOut_num {B : Nat} {I : Nat → World → Prop} {Ix : Code → Nat → World → Prop} {k : Nat} {W : World} : ¬ LetsOut (numPost B I Ix k W) := fun ⟨a, w, e⟩ => e
theorem list_roundC {l₀ n : Nat} {P : Program} {ops : Array Oper} {Q : Exit → Act → World → Prop} (hL : ¬ LetsOut Q) : ∀ (l : List Oper) (a : Act) (w : World), (∀ o ∈ l, ∀ c, o.op ≠ .defer c) → wpList P ops Q l a w → wpListIn (Fence.wide.inRound l₀) n P ops Q l a w
  | [], _, _, _, h => h
  | o :: rest, a, w, hd, h => by
    have hd' : ∀ o ∈ rest, ∀ c, o.op ≠ .defer c := fun o ho => hd o (List.mem_cons_of_mem _ ho)
    unfold wpList at h
    unfold wpListIn
    by_cases hw : Region.wanted o (yielded ops a.tmps) = true
    · rw [if_pos hw] at h ⊢
      rcases h with h | h
      · exact op_round (hd o List.mem_cons_self) (Oper.wp_mono (fun a' w' => list_roundC hL rest a' w' hd') h)
      · exact absurd h.2 hL
    · rw [if_neg hw] at h ⊢
      exact ⟨fun _ _ => trivial, list_roundC hL rest _ _ hd' h⟩
theorem region_seq_roundC {l₀ n id : Nat} {P : Program} {l : List Oper} {Q : Exit → Act → World → Prop} {a : Act} {w : World} (hL : ¬ LetsOut Q) (hd : noDefer l.toArray = true) (h : wpList P l.toArray Q l a w) : (Code.region id l.toArray false).wpIn (Fence.wide.inRound l₀) n P Q a w :=
  wpIn_region_lit (list_roundC hL l a w (fun o ho => by
    obtain ⟨i, hi⟩ := List.getElem?_of_mem ho
    exact noDefer_spec hd (i := i) (by simpa using hi)) h)
theorem letsOut_thenC {K : Act → World → Prop} {Q : Exit → Act → World → Prop} (h : ¬ LetsOut Q) : ¬ LetsOut (Exit.then K Q) := fun ⟨a, w, e⟩ => h ⟨a, w, e⟩
theorem results_two {P : Program} {fn : Func} {p u : Tmp} {ty tu : TypeId} {tmps : Array Value} {w : World} {ad au : Addr} {v x : Value} (h : fn.results = #[.cell p ty, .cell u tu]) (ha : tmps.getD p undef = .pointer (some ad)) (hb : tmps.getD u undef = .pointer (some au)) (hl : (loadVar ty ad).run P w = .ok v w) (hk : (loadVar tu au).run P w = .ok x w) :
    (results fn tmps).run P w = .ok (.tuple #[v, x]) w := by
  have e : (asAddr (.pointer (some ad))).run P w = .ok ad w := by simp [asAddr]
  have e' : (asAddr (.pointer (some au))).run P w = .ok au w := by simp [asAddr]
  have ha' : tmps[p]?.getD undef = .pointer (some ad) := by simpa using ha
  have hb' : tmps[u]?.getD undef = .pointer (some au) := by simpa using hb
  simp [results, h, Sem.run_bind, Result.andThen, ha', hb', e, e', hl, hk]
theorem row_own {N e sz n M : Nat} {x y : World} {v : Value} {xs : List Value} {row : Option Nat} (h : x.ownsRow N e sz v n xs) (hg : x.grownBy y row) (hr : ∀ r, row = some r → M ≤ r ∧ ∃ o : Obj, x.heap[r]? = some o ∧ o.isCells = false) : y.ownsRow N e sz v n xs := by
  refine ⟨h.1, ?_⟩
  rcases h.2 with h' | ⟨g, cap, cur, rfl, a1, a2, a3⟩
  · exact .inl h'
  · refine .inr ⟨g, cap, cur, rfl, a1, (hg.block g (Array.getElem?_eq_some_iff.1 a2).1 (fun e => ?_)).trans a2, a3⟩
    obtain ⟨-, o, ho, hc⟩ := hr g e.symm
    rw [a2] at ho
    cases ho
    cases hc
theorem SnF.own {N M : Nat} {x y : World} {q : SV} {s : SN} {row : Option Nat} (h : SnF N x q s) (hg : x.grownBy y row) (hr : ∀ r, row = some r → M ≤ r ∧ ∃ o : Obj, x.heap[r]? = some o ∧ o.isCells = false) : SnF N y q s :=
  ⟨h.id, row_own h.ch hg hr, ⟨row_own h.tb.1 hg hr, h.tb.2⟩, h.ok⟩
theorem SnO.own {N M : Nat} {x y : World} {v : Value} {l : List SN} {row : Option Nat} (h : SnO N x v l) (hg : x.grownBy y row) (hr : ∀ r, row = some r → M ≤ r ∧ ∃ o : Obj, x.heap[r]? = some o ∧ o.isCells = false) : SnO N y v l := by
  obtain ⟨r, h1, h2, h3⟩ := h
  exact ⟨r, h1, row_own h2 hg hr, fun j q s a b => (h3 j q s a b).own hg hr⟩
theorem own_slV {N e sz n : Nat} {x : World} {v : Value} {xs : List Value} (h : x.ownsRow N e sz v n xs) : ∃ q : SlV, v = slV q ∧ q.2.1 = n := by
  rcases h.2 with ⟨rfl, rfl⟩ | ⟨g, cap, cur, rfl, -⟩
  · exact ⟨(none, 0, 0), rfl, rfl⟩
  · exact ⟨(_, _, _), rfl, rfl⟩
/-- A store into a box leaves rows of other elements. -/
theorem own_setB {N e sz n B : Nat} {x : World} {v : Value} {xs C : List Value} {t : TypeId} (h : x.ownsRow N e sz v n xs) (hB : RowC x B t C) (hne : e ≠ t) (j : Nat) (u : Value) : (x.setCell ⟨B, j, none⟩ u).ownsRow N e sz v n xs := h.kept (grownBy_setCellJ x B j u) (.inr (row_ne h hB hne))
set_option maxRecDepth 100000 in
theorem load_int1 {x : World} {B : Nat} {z : Int} (h : RowC x B 3 [.int .i64 z]) : (loadVar 3 ⟨B, 0, none⟩).run Try.prog x = .ok (.int .i64 z) x := by
  have c := h.cell 0 _ rfl
  simp [go_sem, c]
set_option maxRecDepth 100000 in
theorem load_bool1 {x : World} {B : Nat} {z : Bool} (h : RowC x B 4 [.bool z]) : (loadVar 4 ⟨B, 0, none⟩).run Try.prog x = .ok (.bool z) x := by
  have c := h.cell 0 _ rfl
  simp [go_sem, c]
set_option maxRecDepth 100000 in
theorem load_sl1 {x : World} {B : Nat} {t : TypeId} {q : SlV} (h : RowC x B t [slV q]) (ht : t = 22 ∨ t = 31 ∨ t = 35) : (loadVar t ⟨B, 0, none⟩).run Try.prog x = .ok (slV q) x := by
  have c := h.cell 0 _ rfl
  rcases ht with rfl | rfl | rfl <;> simp [go_sem, c]
theorem hiOf_all (l : List SN) : hiOf l (l.length : Int) = l.length := by unfold hiOf; rw [if_neg (by omega)]
theorem loOf_zero : loOf 0 = 0 := rfl
end Go.Proofs.Ytiidfffedoekiaa
