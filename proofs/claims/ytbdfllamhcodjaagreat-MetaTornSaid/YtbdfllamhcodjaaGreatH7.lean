/- The ground of the proofs, part 7. -/
import Derived.Test.YtbdfllamhcodjaaGreatH6
/- For the statements of layer 8: new rigs; what is read cell by cell. -/
namespace Go.Proofs.YtbdfllamhcodjaaGreat
open Go.RowKit Go.Shelf
set_option linter.unusedVariables false
theorem newS_rd8 (n0 n1 i : Nat) : (newS n0 n1).rd i = List.replicate 64 0 := by
  unfold RS.rd
  show byt (zsec.look) = _
  show byt (fillB 0) = _
  exact byt_fill 0
theorem supOf_zeros (n0 n1 : Nat) : supOf n0 n1 (List.replicate 64 0) = none := by
  unfold supOf
  rw [if_neg (fun h => by have := h.1; rw [decOk_zeros] at this; cases this)]
theorem opn_none {S : RS} (h : ∀ i, i < 2 → i < S.n0 → S.rd i = List.replicate 64 0) : S.opn = none := by
  have h0 : ∀ i, i < 2 → S.supAt i = none := fun i hi => by
    unfold RS.supAt
    split
    · next hn => rw [h i hi hn, supOf_zeros]
    · rfl
  unfold RS.opn
  rw [h0 0 (by omega), h0 1 (by omega)]
  rfl
theorem newS_opn (n0 n1 : Nat) : (newS n0 n1).opn = none := opn_none fun i _ _ => newS_rd8 n0 n1 i
theorem newS_rdy {n0 n1 : Nat} (h0 : n0 ≤ 4096) (h1 : n1 ≤ 4096) : (newS n0 n1).Rdy := ⟨h0, h1, Int.le_refl _, by show (0 : Int) ≤ 500000; omega, by show (-1 : Int) ≤ 1000000; omega, few_newS _ _ _, newS_bb _ _⟩
theorem Geo.least {g : Geo} (h : g.good) : 9 ≤ g.oF := by
  have hN := Geo.nats h
  have := hN.f
  have := hN.c1
  have := hN.p1
  have := hN.s1
  omega
set_option maxRecDepth 100000 in
theorem field_szs (a b c d e f h j : Int) (w : World) : (Instr.field 39 (.agg (szL a b c d e f h j).toArray) 0).run Tryz.prog w = .ok (.int .i64 a) w := by kernel_rfl
/-- Both superblocks overwritten with zeros: none is told. -/
theorem Sit.wipe {S : RS} {M : MS} {k : Nat} (h : Sit S M k) (hk : k ≤ 200) : S.writeE 0 ((0 : Nat) : Int) = 0 ∧ (S.write 0 ((0 : Nat) : Int) (fillB 0)).writeE 0 ((1 : Nat) : Int) = 0 ∧ S.Fit ∧ (S.write 0 ((0 : Nat) : Int) (fillB 0)).Fit ∧ S.Few 100 ∧ (S.write 0 ((0 : Nat) : Int) (fillB 0)).Few 100 ∧
    ((S.write 0 ((0 : Nat) : Int) (fillB 0)).write 0 ((1 : Nat) : Int) (fillB 0)).Rdy ∧ ((S.write 0 ((0 : Nat) : Int) (fillB 0)).write 0 ((1 : Nat) : Int) (fillB 0)).Up ∧ 2 ≤ ((S.write 0 ((0 : Nat) : Int) (fillB 0)).write 0 ((1 : Nat) : Int) (fillB 0)).n0 ∧ ((S.write 0 ((0 : Nat) : Int) (fillB 0)).write 0 ((1 : Nat) : Int) (fillB 0)).opn = none := by
  obtain ⟨p, q, us, hI⟩ := h.inv
  have hr := hI.room
  have hz : BB (fillB 0) := BB.fill (by omega)
  have hl : ∀ s : Sec, s.vs.length ≤ 255 → byt (s.add (fillB 0)).look = List.replicate 64 0 := fun s hs => by rw [Sec.look_add hs]; exact byt_fill 0
  obtain ⟨s1, c1⟩ := S.write0 (i := 0) (by omega) (fillB 0)
  have d1 : S.writeE 0 ((0 : Nat) : Int) = 0 ∧ (S.write 0 ((0 : Nat) : Int) (fillB 0)).D0 = upd S.D0 0 ((S.D0 0).add (fillB 0)) := by
    rcases c1 with ⟨_, a, b⟩ | ⟨a, _, _⟩
    · exact ⟨a, b⟩
    · rw [h.up.ok] at a; cases a
  have u1 := (h.up.write 0 ((0 : Nat) : Int) (fillB 0)).1
  have f1 := RS.few_write h.few (by omega) 0 ((0 : Nat) : Int) (fillB 0)
  obtain ⟨s2, c2⟩ := (S.write 0 ((0 : Nat) : Int) (fillB 0)).write0 (i := 1) (by rw [s1.n0]; omega) (fillB 0)
  have d2 : (S.write 0 ((0 : Nat) : Int) (fillB 0)).writeE 0 ((1 : Nat) : Int) = 0 ∧ ((S.write 0 ((0 : Nat) : Int) (fillB 0)).write 0 ((1 : Nat) : Int) (fillB 0)).D0 = upd (S.write 0 ((0 : Nat) : Int) (fillB 0)).D0 1 (((S.write 0 ((0 : Nat) : Int) (fillB 0)).D0 1).add (fillB 0)) := by
    rcases c2 with ⟨_, a, b⟩ | ⟨a, _, _⟩
    · exact ⟨a, b⟩
    · rw [u1.ok] at a; cases a
  have u2 := (u1.write 0 ((1 : Nat) : Int) (fillB 0)).1
  have f2 := RS.few_write f1 (by omega) 0 ((1 : Nat) : Int) (fillB 0)
  obtain ⟨w1, w2, w3⟩ := S.write_wyM 0 ((0 : Nat) : Int) (fillB 0)
  obtain ⟨v1, v2, v3⟩ := (S.write 0 ((0 : Nat) : Int) (fillB 0)).write_wyM 0 ((1 : Nat) : Int) (fillB 0)
  have hd0 := h.d0
  have hd1 := h.d1
  have hv0 := hI.dry 0 (by omega)
  have hv1 := hI.dry 1 (by omega)
  refine ⟨d1.1, d2.1, RS.fit (by rw [h.up.fuse]; omega) h.d0 (by omega), RS.fit (by rw [u1.fuse]; omega) (by omega) (by omega), h.few.mono (by omega), f1.mono (by omega), ⟨by rw [s2.n0, s1.n0]; exact h.n0, by rw [s2.n1, s1.n1]; exact h.n1, by omega, by omega, by rw [u2.fuse]; omega, f2.mono (by omega), (h.bb.write 0 _ hz).write 0 _ hz⟩, u2, by rw [s2.n0, s1.n0]; omega, opn_none fun i hi hn => ?_⟩
  unfold RS.rd
  rw [d2.2]
  rcases (show i = 0 ∨ i = 1 by omega) with e | e
  · subst e
    rw [upd_other _ _ (by omega), d1.2, upd_same]
    exact hl _ (by rw [hv0]; exact Nat.zero_le _)
  · subst e
    rw [upd_same, d1.2, upd_other _ _ (by omega)]
    exact hl _ (by rw [hv1]; exact Nat.zero_le _)
/-- An element of slices of pairs. -/
theorem PrsS.elem {w : World} {a : Option Addr} {n cap : Nat} {L : List (List (Int × Int))} (h : PrsS w (.slice a n cap) L) (hne : L ≠ []) : ∃ b off, a = some ⟨b, off, none⟩ ∧ L.length = n ∧ n ≤ cap ∧ n ≤ maxLen ∧
    ∀ (i : Nat) (ps : List (Int × Int)), L[i]? = some ps → ∃ ra rc, ∀ x, Below w.heap.size w x → x.cell? ⟨b, off + i, none⟩ = some (.slice ra ps.length rc) ∧ Prs x (.slice ra ps.length rc) ps := by
  obtain ⟨a', cap', e, h1, h2, h3⟩ := h
  simp only [Value.slice.injEq] at e
  obtain ⟨rfl, rfl, rfl⟩ := e
  rcases h3 with h3 | ⟨b, off, rfl, hb, hc⟩
  · exact absurd h3 hne
  · refine ⟨b, off, rfl, rfl, h1, Nat.le_trans h1 h2, fun i ps hi => ?_⟩
    obtain ⟨u, hu, hP⟩ := hc i ps hi
    obtain ⟨ra, rc, rfl, _⟩ := id hP
    exact ⟨ra, rc, fun x hx => ⟨(hx.cell (p := ⟨b, off + i, none⟩) hb).trans hu, hP.below hx⟩⟩
/-- Worlds in which a block is as it was. -/
def KeepB (B : Nat) (W : World) : Type := {x : World // x.heap[B]? = W.heap[B]?}
instance (B : Nat) (W : World) : Nonempty (KeepB B W) := ⟨⟨W, rfl⟩⟩
theorem KeepB.row {B : Nat} {W : World} {t : TypeId} {C : List Value} (z : KeepB B W) (h : RowC W B t C) : RowC z.1 B t C := z.2.trans h
theorem Sit.wiped {S : RS} {M : MS} {k : Nat} (h : Sit S M k) (hk : k ≤ 200) : S.writeE 0 0 = 0 ∧ (S.write 0 0 (fillB 0)).writeE 0 1 = 0 ∧ S.Fit ∧ (S.write 0 0 (fillB 0)).Fit ∧ S.Few 255 ∧ (S.write 0 0 (fillB 0)).Few 255 ∧
    ((S.write 0 0 (fillB 0)).write 0 1 (fillB 0)).Rdy ∧ ((S.write 0 0 (fillB 0)).write 0 1 (fillB 0)).Up ∧ 2 ≤ ((S.write 0 0 (fillB 0)).write 0 1 (fillB 0)).n0 ∧ ((S.write 0 0 (fillB 0)).write 0 1 (fillB 0)).opn = none := by
  obtain ⟨a, b, c, d, e, f, r, u, o⟩ := h.wipe hk
  exact ⟨a, b, c, d, e.mono (by omega), f.mono (by omega), r, u, o⟩
def Keep2 (B Z : Nat) (W : World) : Type := {x : World // x.heap[B]? = W.heap[B]? ∧ x.heap[Z]? = W.heap[Z]?}
instance (B Z : Nat) (W : World) : Nonempty (Keep2 B Z W) := ⟨⟨W, rfl, rfl⟩⟩
/-- Where commits that are cut stand. -/
def TornI (R : MetaRes) (g : Geo) (B rb p0 p1 : Nat) (w wr : World) (k : Nat) (mp vn : Value) : Prop := ∃ m S M own, mp = .pointer (some ⟨m, 0, none⟩) ∧ own B ∧ MAt R w wr rb p0 p1 m S M own ∧ KeptV own wr vn M.b ∧ RowC wr B 23 g.cs ∧ Sit S M k ∧ M.g = g
theorem tornR {n k : Nat} {C : Nat → Prop} (hw : wrap64 ((k : Int) + 1) = (k : Int) + 1) (hk : k < n) (hC : C (k + 1)) : ∃ k' : Nat, k' ≤ n ∧ Value.int .i64 (wrap64 ((k : Int) + 1)) = Value.int .i64 (k' : Int) ∧ Hid (C k') := ⟨k + 1, hk, by rw [hw]; simp, hC⟩
/-- Where commits one behind the other stand. -/
def LongI (R : MetaRes) (g : Geo) (B rb p0 p1 m : Nat) (w wr : World) (k : Nat) (vb : Value) : Prop := ∃ S M own, own B ∧ MAt R w wr rb p0 p1 m S M own ∧ KeptV own wr vb M.b ∧ RowC wr B 23 g.cs ∧ Sit S M k ∧ M.g = g
end Go.Proofs.YtbdfllamhcodjaaGreat

/- Plain facts for the law of rooms: pages that differ. No program. -/
namespace Go.Proofs.YtbdfllamhcodjaaGreat
open Go.RowKit
set_option linter.unusedVariables false

/-- A page's part of some bytes. -/
def seg (b : List Int) (p : Nat) : List Int := (b.drop (48 * p)).take 48
/-- How many of the first `k` differ. -/
def difN (b c : List Int) (k : Nat) : Nat := ((List.range k).filter fun i => decide (seg b i ≠ seg c i)).length
theorem difN_succ (b c : List Int) (k : Nat) : difN b c (k + 1) = difN b c k + if seg b k = seg c k then 0 else 1 := by
  unfold difN
  rw [List.range_succ, List.filter_append, List.length_append]
  congr 1
  by_cases h : seg b k = seg c k
  · rw [if_pos h]
    simp [h]
  · rw [if_neg h]
    simp [h]
theorem difN_le (b c : List Int) (k : Nat) : difN b c k ≤ k := by
  have := List.length_filter_le (fun i => decide (seg b i ≠ seg c i)) (List.range k)
  rw [List.length_range] at this
  exact this
theorem piece_eq {b c : List Int} (h : b.length = c.length) (p : Nat) : piece b p = piece c p ↔ seg b p = seg c p := by
  have hl : (seg b p).length = (seg c p).length := by simp [seg, h]
  constructor
  · intro e
    exact (List.append_inj e hl).1
  · intro e
    show seg b p ++ List.replicate (48 - (seg b p).length) 0 = seg c p ++ List.replicate (48 - (seg c p).length) 0
    rw [e]
theorem dif_length {b c : List Int} (h : c.length = b.length) : (difL (cutL b) (cutL c)).length = difN b c (nPcs b) := by
  have hn : nPcs c = nPcs b := by unfold nPcs; rw [h]
  unfold difL difN
  rw [List.length_map, cutL_length, hn]
  congr 1
  refine List.filter_congr fun i hi => ?_
  have hi' : i < nPcs b := List.mem_range.1 hi
  rw [cutL_get b hi', cutL_get c (by rw [hn]; exact hi')]
  refine decide_eq_decide.2 ?_
  refine not_congr ?_
  rw [Option.some.injEq, ← piece_eq h.symm i]
  exact eq_comm
/-- `b[from:to]` is a page's part. -/
theorem seg_cut (b : List Int) (p : Nat) {t : Nat} (ht : t = min b.length (48 * (p + 1))) : (b.take t).drop (48 * p) = seg b p := by
  unfold seg
  rw [List.drop_take, ht]
  by_cases h : b.length ≤ 48 * (p + 1)
  · rw [Nat.min_eq_left h, List.take_of_length_le (by simp), List.take_of_length_le (by simp; omega)]
  · rw [Nat.min_eq_right (by omega)]
    congr 1
    omega
theorem seg_cut' (b : List Int) (p : Nat) {t : Nat} (ht : t = min b.length (48 * (p + 1))) : (b.drop (48 * p)).take (t - 48 * p) = seg b p := by
  rw [← List.drop_take]
  exact seg_cut b p ht
section
variable {S : RS} {M : MS} {k : Nat} {b : List Int}
theorem Sit.dif (h : Sit S M k) (hl : b.length = M.b.length) : (M.dif b).length = difN M.b b M.g.P := by
  obtain ⟨p, q, us, hI⟩ := h.inv
  show (difL (cutL M.b) (cutL b)).length = _
  rw [dif_length hl, hI.pcs]
theorem MS.next_none (h : (M.dif b).length = 0) : M.next b = M ∧ S.cmt M b = (S, 0) := by
  have e : M.dif b = [] := List.eq_nil_of_length_eq_zero h
  refine ⟨by unfold MS.next; rw [if_pos e], ?_⟩
  show S.bat (M.bats b) = _
  unfold MS.bats
  rw [if_pos e]
  rfl
theorem MS.next_fits {d : Nat} (h : (M.dif b).length = d) (h0 : 0 < d) (hf : (d : Int) + 1 ≤ M.room) : (M.next b).room = M.room - d - 1 := by
  have e : M.dif b ≠ [] := fun e => by rw [e] at h; simp at h; omega
  have hn : ¬ M.full b := by unfold MS.full; rw [h]; omega
  unfold MS.next
  rw [if_neg e, if_neg hn]
  show M.g.r - ((M.used + (M.dif b).length + 1 : Nat) : Int) = _
  unfold MS.room
  rw [h]
  omega
theorem MS.next_full {d : Nat} (h : (M.dif b).length = d) (h0 : 0 < d) (hf : ¬ (d : Int) + 1 ≤ M.room) : (M.next b).room = M.g.r - d - 1 := by
  have e : M.dif b ≠ [] := fun e => by rw [e] at h; simp at h; omega
  have hn : M.full b := by unfold MS.full; rw [h]; omega
  unfold MS.next
  rw [if_neg e, if_pos hn]
  show M.g.r - ((0 + (M.ckpt.dif b).length + 1 : Nat) : Int) = _
  have e2 : M.ckpt.dif b = M.dif b := rfl
  rw [e2, h]
  omega
end
end Go.Proofs.YtbdfllamhcodjaaGreat

/- Bounds of a page's part. -/
namespace Go.Proofs.YtbdfllamhcodjaaGreat
open Go.RowKit
set_option linter.unusedVariables false
theorem rooms_num {nb p : Nat} (hb : nb ≤ 714) (hp : p < (nb + 47) / 48) : ∃ K H : Nat, 48 * p = K ∧ min nb (48 * (p + 1)) = H ∧ (K < H ∧ H ≤ nb ∧ K ≤ 720 ∧ H ≤ 720) ∧ min (nb : Int) (((p : Int) + 1) * 48) = (H : Int) ∧
    wrap64 ((p : Int) * 48) = (K : Int) ∧ wrap64 ((p : Int) + 1) = (p : Int) + 1 ∧ wrap64 (((p : Int) + 1) * 48) = ((p : Int) + 1) * 48 ∧ decide ((H : Int) < (K : Int)) = false ∧ decide ((nb : Int) < (H : Int)) = false := by
  refine ⟨48 * p, min nb (48 * (p + 1)), rfl, rfl, by omega, by omega, ?_, IntWalk.wrap64_in _ (by omega), IntWalk.wrap64_in _ (by omega), ?_, ?_⟩
  · rw [show (p : Int) * 48 = ((48 * p : Nat) : Int) by omega]
    exact IntWalk.wrap64_in _ (by omega)
  · exact decide_eq_false (by omega)
  · exact decide_eq_false (by omega)
set_option maxRecDepth 100000 in
theorem rooms_min {n : Nat} {a b : Int} (h : min a b = (n : Int)) (ts : Array TypeId) (t : TypeId) (W : World) : (Builtin.min_ ts t #[.int .i64 a, .int .i64 b]).run Tryz.prog W = .ok (.int .i64 (n : Int)) W := by
  have e : (if b < a then b else a) = (n : Int) := by split <;> omega
  rw [run_min_int2, e]
theorem sl_mid_at {ra : Option Addr} {R rc K H : Nat} {rest : List Int} {W : World} (hW : Sl .u8 W (.slice ra R rc) rest) (hK : K < H) (hH : H ≤ R) (hc : R ≤ rc) : Sl .u8 W (.slice (ra.map fun x => x.add K) (H - K) (rc - K)) ((rest.drop K).take (H - K)) := by
  have h := sl_lo_at hW (K := K) (by omega)
  rw [if_neg (by omega)] at h
  exact (sl_hi h (by omega)).2 W h
end Go.Proofs.YtbdfllamhcodjaaGreat

/- A geometry that comes in. -/
namespace Go.Proofs.YtbdfllamhcodjaaGreat
open Go.ChangeShapes Go.WideShapes Go.ChangeAt Go.RowKit
set_option linter.unusedVariables false

set_option maxRecDepth 100000 in
theorem under_geo : ∃ fs, Tryz.prog.underlying 23 = some (.struct fs) ∧ (fs[0]?).map (fun f => (f.offset, f.type)) = some (0, 3) ∧ (fs[1]?).map (fun f => (f.offset, f.type)) = some (1, 3) ∧ (fs[2]?).map (fun f => (f.offset, f.type)) = some (2, 3) ∧ (fs[3]?).map (fun f => (f.offset, f.type)) = some (3, 3) ∧ (fs[4]?).map (fun f => (f.offset, f.type)) = some (4, 3) :=
  ⟨_, Tryz.underlying23, rfl, rfl, rfl, rfl, rfl⟩
set_option maxRecDepth 100000 in
theorem geo_of_cells {W : World} {cs : List Value} (h : Cells W 23 cs) : ∃ g : Geo, g.In ∧ cs = g.cs := by
  obtain ⟨fs, hu, f0, f1, f2, f3, f4⟩ := under_geo
  obtain ⟨hl, hf⟩ := h.struct hu
  rw [show Tryz.prog.cellsOf 23 = 5 from by kernel_rfl] at hl
  have field : ∀ (j o : Nat) t, (fs[j]?).map (fun f => (f.offset, f.type)) = some (o, t) → Cells W t ((cs.drop o).take (Tryz.prog.cellsOf t)) := by
    intro j o t hj
    obtain ⟨f, hf1, hf2⟩ := Option.map_eq_some_iff.1 hj
    cases hf2
    exact hf j f hf1
  obtain ⟨x0, x1, x2, x3, x4, rfl⟩ : ∃ x0 x1 x2 x3 x4, cs = [x0, x1, x2, x3, x4] := by
    match cs, hl with
    | [x0, x1, x2, x3, x4], _ => exact ⟨x0, x1, x2, x3, x4, rfl⟩
  have g0 := field 0 0 _ f0
  have g1 := field 1 1 _ f1
  have g2 := field 2 2 _ f2
  have g3 := field 3 3 _ f3
  have g4 := field 4 4 _ f4
  rw [show Tryz.prog.cellsOf 3 = 1 from by kernel_rfl] at g0 g1 g2 g3 g4
  obtain ⟨n0, e0, w0⟩ := g0.int Tryz.underlying3
  obtain ⟨n1, e1, w1⟩ := g1.int Tryz.underlying3
  obtain ⟨n2, e2, w2⟩ := g2.int Tryz.underlying3
  obtain ⟨n3, e3, w3⟩ := g3.int Tryz.underlying3
  obtain ⟨n4, e4, w4⟩ := g4.int Tryz.underlying3
  simp at e0 e1 e2 e3 e4
  subst e0 e1 e2 e3 e4
  refine ⟨⟨n0, n1, n2, n3, n4⟩, ?_, rfl⟩
  intro n hn
  simp only [List.mem_cons, List.mem_nil_iff, or_false] at hn
  rcases hn with rfl | rfl | rfl | rfl | rfl
  · exact bounds_i64 w0
  · exact bounds_i64 w1
  · exact bounds_i64 w2
  · exact bounds_i64 w3
  · exact bounds_i64 w4
theorem Arg.geo {W : World} {v : Value} (h : Arg W 23 v) : ∃ g : Geo, g.In ∧ v = .agg g.v := by
  obtain ⟨fs, hu, _⟩ := under_geo
  obtain ⟨cs, rfl, _, hc⟩ := h.agg (.inl ⟨fs, hu⟩)
  obtain ⟨g, hg, rfl⟩ := geo_of_cells hc
  exact ⟨g, hg, rfl⟩
end Go.Proofs.YtbdfllamhcodjaaGreat

/- Marked sectors and blocks among the arguments. -/
namespace Go.Proofs.YtbdfllamhcodjaaGreat
open Go.ChangeShapes Go.WideShapes Go.ChangeAt Go.RowKit
set_option linter.unusedVariables false

theorem wf_iff (k : IntKind) (n : Int) : (Lit.int k n).wf = true ↔ k.min ≤ n ∧ n ≤ k.max := by simp [Lit.wf]
section
variable {W : World} {t e : TypeId} {cs : List Value} {v : Value}
end
end Go.Proofs.YtbdfllamhcodjaaGreat

namespace Go.Proofs.YtbdfllamhcodjaaGreat
open Go.RowKit Go.Shelf
set_option linter.unusedVariables false
theorem loadVar_openM (t : TypeId) (h : t ≠ 23 ∧ t ≠ 60 ∧ t ≠ 39) (a : Addr) : loadVar t a = (do if ← isAgg t then pure (.agg (← loadCells a (← sizeOf t))) else load a) := rfl
theorem storeVar_openM (t : TypeId) (h : t ≠ 23 ∧ t ≠ 60 ∧ t ≠ 39) (a : Addr) (v : Value) : storeVar t a v = (do
    if v.cells.size ≠ (← sizeOf t) then stuck "storeVar: the value has not the size of the variable"
    storeCells a v.cells.toList) := rfl
set_option maxRecDepth 100000 in
theorem build_geo0 (w : World) : (Instr.build 23 #[]).run Tryz.prog w = .ok (.agg (Geo.mk 0 0 0 0 0).v) w := by kernel_rfl
end Go.Proofs.YtbdfllamhcodjaaGreat
