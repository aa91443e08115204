/- RingPlays: what comes in, the rigs made, crashes, writes, a log laid over a log. -/
import Derived.Test.YtfmgaakbfphpbaaRgPl
namespace Go.Proofs.Ytfmgaakbfphpbaa
open Go.RowKit
set_option linter.unusedVariables false

theorem own_same {x x' : World} {N e sz n : Nat} {v : Value} {xs : List Value} (h : x.ownsRow N e sz v n xs) (hs : ∀ j, v.ownBlock = some j → x'.heap[j]? = x.heap[j]?) : x'.ownsRow N e sz v n xs := by
  refine ⟨h.1, ?_⟩
  rcases h.2 with h' | ⟨g, cap, cur, rfl, a1, a2, a3⟩
  · exact .inl h'
  · exact .inr ⟨g, cap, cur, rfl, a1, (hs g rfl).trans a2, a3⟩
set_option maxRecDepth 100000 in
theorem Arg.three {W : World} {t e : TypeId} {v : Value} {k : IntKind} (h : Arg W t v) (hu : Try.prog.underlying t = some (.array 3 e)) (he : Try.prog.underlying e = some (.int k)) (hc : Try.prog.cellsOf e = 1) (hs : Try.prog.cellsOf t = 3) :
    ∃ a b c, v = .agg #[.int k a, .int k b, .int k c] ∧ (Lit.int k a).wf = true ∧ (Lit.int k b).wf = true ∧ (Lit.int k c).wf = true := by
  obtain ⟨cs, rfl, hl, hcs⟩ := h.agg (.inr ⟨_, _, hu⟩)
  obtain ⟨_, hj⟩ := hcs.array hu
  rw [hs] at hl
  rw [hc] at hj
  match cs, hl with
  | [x, y, z], _ =>
    obtain ⟨a, e1, wa⟩ := (hj 0 (by omega)).int he
    obtain ⟨b, e2, wb⟩ := (hj 1 (by omega)).int he
    obtain ⟨c, e3, wc⟩ := (hj 2 (by omega)).int he
    simp at e1 e2 e3
    subst e1 e2 e3
    exact ⟨a, b, c, rfl, wa, wb, wc⟩
/-- The developers' rig has been made, or there is none. -/
def ND (w0 W : World) (n0 : Int) (v : Value) : Prop := (v = .pointer none ∧ n0 < 1 ∧ Below w0.heap.size w0 W) ∨ (∃ rb p0 p1, 1 ≤ n0 ∧ v = .pointer (some ⟨rb, 0, none⟩) ∧ RAt w0 W rb p0 p1 (newS n0.toNat 1) (fun _ => False))
theorem ND.bel {w0 W : World} {n0 : Int} {v : Value} (h : ND w0 W n0 v) : Below w0.heap.size w0 W := by
  rcases h with ⟨_, _, h⟩ | ⟨rb, p0, p1, _, _, h⟩
  · exact h
  · exact AtR.bel h
set_option maxRecDepth 100000 in
theorem new_dev (n0 : Int) (hn : n0 ≤ 60) (w0 W : World) (hb : Below w0.heap.size w0 W) : Calls Try.prog 10 #[.int .i64 n0, .int .i64 1] W fun e w' => ∃ v E, e = .returned (.tuple #[v, .int .i64 E]) ∧ ND w0 w' n0 v := by
  by_cases h : n0 < 1
  · exact (rigNew_no n0 1 W (.inl (.inl h))).mono fun e w' ⟨h1, h2⟩ => ⟨_, _, h1, .inl ⟨rfl, h, hb.trans (h2.mono hb.size)⟩⟩
  · obtain ⟨m, rfl⟩ : ∃ m : Nat, n0 = (m : Int) := ⟨n0.toNat, by omega⟩
    exact (RAt.new m 1 w0 W hb (by omega) (by omega) (by omega) (by omega) (fun _ => False) (fun _ h => h.elim)).mono fun e w' ⟨rb, p0, p1, h1, h2, _⟩ => ⟨_, _, h1, .inr ⟨rb, p0, p1, by omega, rfl, h2⟩⟩
set_option maxRecDepth 100000 in
theorem new_ref (n0 : Int) (hn : n0 ≤ 60) (w0 W : World) {v1 : Value} (h : ND w0 W n0 v1) : Calls Try.prog 11 #[.int .i64 n0, .int .i64 1] W fun e w' => ∃ v E, e = .returned (.tuple #[v, .int .i64 E]) ∧ ∃ o N, v1 = rv o ∧ v = qv o ∧ N ≤ 60 ∧ (o = none → N = 0) ∧ OAt w0 w' o (newS N 1) (newS N 1) (fun _ => False) := by
  have hb := h.bel
  rcases h with ⟨rfl, hlt, _⟩ | ⟨rb, p0, p1, hge, rfl, hr⟩
  · exact (rigQ_no n0 1 W (.inl (.inl hlt))).mono fun e w' ⟨h1, h2⟩ => ⟨_, _, h1, none, 0, rfl, rfl, by omega, fun _ => rfl, hb.trans (h2.mono hb.size), fun _ h => h.elim⟩
  · obtain ⟨m, rfl⟩ : ∃ m : Nat, n0 = (m : Int) := ⟨n0.toNat, by omega⟩
    have hm : (m : Int).toNat = m := by omega
    rw [hm] at hr
    refine (rigQ_yes m 1 W (by omega) (by omega) (by omega) (by omega)).mono ?_
    rintro e w' ⟨rq, q0, q1, h1, h2, h3⟩
    exact ⟨_, _, h1, some ⟨rb, p0, p1, rq, q0, q1⟩, m, rfl, rfl, by omega, fun h => (by cases h), BAt.new m 1 w0 W w' rb p0 p1 rq q0 q1 hr h2 h3⟩
section
variable {w W W' : World} {o : Option PP} {S T S' : RS} {own : Nat → Prop} {N k : Nat}
theorem RS.Pq.crash (h : S.Pq N k) (b0 b1 : List Int) : (S.crash b0 b1).Pq N k := ⟨(S.crash_up b0 b1).1, h.bb.crash b0 b1, h.n0, RS.few_crash S b0 b1 k, h.d0, h.d1⟩
theorem RS.Pq.write (h : S.Pq N k) (hk : k ≤ 240) (i : Int) {v : Int} (hv : 0 ≤ v ∧ v < 256) : (S.write 0 i (fillB v)).Pq N (k + 2) := by
  have hw := S.write_way 0 i (fillB v)
  have d0 := h.d0
  have d1 := h.d1
  refine ⟨(h.up.write 0 i _).1, h.bb.write 0 i (BB.fill hv), ?_, (RS.few_write h.few (by omega) 0 i _).mono (by omega), by omega, by omega⟩
  rw [← h.n0]
  unfold RS.write
  split
  · split
    · exact (RS.put_rest S.after 0 i.toNat _).2.2.2.1.trans S.after_same.1
    · exact S.after_same.1
  · rfl
theorem RS.Pq.fit (h : S.Pq N k) (hk : k ≤ 240) : S.Fit := RS.fit (by rw [h.up.fuse]; decide) h.d0 (by have := h.d1; omega)
set_option maxRecDepth 100000 in
theorem crash_dev {v0 : Value} {bs : List Int} (h : OAt w W o S T own) (hv : Sl .u8 w v0 bs) (hb : IsBytes bs) (hS : S.Pq N k) (hk : k ≤ 240) :
    Calls Try.prog 18 #[rv o, v0, .slice none 0 0] W fun e w' => e = .returned (.tuple #[]) ∧ OAt w w' o (S.crash bs []) T own ∧ ∀ k, own k → w'.heap[k]? = W.heap[k]? := by
  cases o with
  | none => exact (nil_crash v0 (.slice none 0 0) W).mono fun e w' ⟨h1, h2⟩ => ⟨h1, by rw [h2]; exact h, by rw [h2]; exact fun _ _ => rfl⟩
  | some p =>
    refine BAt.crash (b0 := bs) (b1 := []) (show BAt w W p S T own from h) (hv.below h.bel) (Sl.nil _ _) hb (fun j => by simp) (fun hn b off len cap e => ?_) (fun h => absurd rfl h) (hS.few.mono (by omega))
    obtain ⟨a, c, e1, _, _, h3, _⟩ := hv
    rcases h3 with h3 | ⟨b', off', h3, h4, _⟩
    · exact absurd h3 hn
    · rw [e] at e1
      simp only [Value.slice.injEq] at e1
      rw [← e1.1] at h3
      cases h3
      exact .inl h4
set_option maxRecDepth 100000 in
theorem crash_ref {p : PP} {v0 : Value} {bs : List Int} (h : OAt w W (some p) T S own) (hv : Sl .u8 w v0 bs) (hb : IsBytes bs) (hS : S.Pq N k) (hk : k ≤ 240) :
    Calls Try.prog 19 #[.pointer (some ⟨p.rq, 0, none⟩), v0, .slice none 0 0] W fun e w' => e = .returned (.tuple #[]) ∧ OAt w w' (some p) T (S.crash bs []) own ∧ ∀ k, own k → w'.heap[k]? = W.heap[k]? := by
  refine BAt.crash2 (b0 := bs) (b1 := []) (show BAt w W p T S own from h) (hv.below (OAt.bel h)) (Sl.nil _ _) hb (fun j => by simp) (fun hn b off len cap e => ?_) (fun h => absurd rfl h) (hS.few.mono (by omega))
  obtain ⟨a, c, e1, _, _, h3, _⟩ := hv
  rcases h3 with h3 | ⟨b', off', h3, h4, _⟩
  · exact absurd h3 hn
  · rw [e] at e1
    simp only [Value.slice.injEq] at e1
    rw [← e1.1] at h3
    cases h3
    exact .inl h4
/-- Cells laid over an own block's cells. -/
theorem OAt.row {B : Nat} {t : TypeId} {C : List Value} (h : OAt w W o S T own) (hB : own B) (hr : RowC W B t C) (hw : w.heap.size ≤ B) (cs : Array Value) : OAt w (W.setRow B cs) o S T own := by
  have hbl : Below B W (W.setRow B cs) := (Below.refl B W).grown (row := some B) ⟨rfl, rfl, rfl, by rw [setRow_size]; exact Nat.le_refl _, fun k _ hk => setRow_other W B k _ (fun e => hk (by rw [e]))⟩ (Nat.le_of_lt hr.lt) (fun j e => by cases e; exact Nat.le_refl _)
  cases o with
  | none => exact ⟨h.1.trans (hbl.mono hw), fun k hk => by rw [setRow_size]; exact h.2 k hk⟩
  | some p => exact AtR.owned (bothRes p S T) (show BAt w W p S T own from h) hB hw _ hbl (fun k _ hk => setRow_other W B k _ hk) (setRow_size _ _ _)
set_option maxRecDepth 100000 in
theorem over_logD {B a : Nat} {old : List Value} {v : Value} {q : Int} (h : OAt w W o S T own) (hB : own B) (hw : w.heap.size ≤ B) (hr : RowC W B 48 old) (ho : old.length = 3) (hv : v.oneCell' = true) :
    ∃ y, (storeVar 48 ⟨B, 0, none⟩ (.agg (logD v a q).toArray)).run Try.prog W = .ok () y ∧ RowC y B 48 (logD v a q) ∧ OAt w y o S T own ∧ W.grownBy y (some B) := by
  refine ⟨_, run_storeVar_row W B _ _ old.toArray (logD v a q).toArray hr size_logD (by simpa [logD] using ho) (by simp [logD, hv]; exact ⟨rfl, rfl⟩), setRow_heap W B _ _ _ _ hr, h.row hB hr hw _, ?_⟩
  exact ⟨rfl, rfl, rfl, by rw [setRow_size]; exact Nat.le_refl _, fun k _ hk => setRow_other W B k _ (fun e => hk (by rw [e]))⟩
set_option maxRecDepth 100000 in
theorem over_log {B a : Nat} {old : List Value} {v : Value} {q e : Int} (h : OAt w W o S T own) (hB : own B) (hw : w.heap.size ≤ B) (hr : RowC W B 53 old) (ho : old.length = 4) (hv : v.oneCell' = true) :
    ∃ y, (storeVar 53 ⟨B, 0, none⟩ (.agg (logC v a q e).toArray)).run Try.prog W = .ok () y ∧ RowC y B 53 (logC v a q e) ∧ OAt w y o S T own ∧ W.grownBy y (some B) := by
  refine ⟨_, run_storeVar_row W B _ _ old.toArray (logC v a q e).toArray hr size_log (by simpa [logC] using ho) (by simp [logC, hv]; exact ⟨rfl, rfl, rfl⟩), setRow_heap W B _ _ _ _ hr, h.row hB hr hw _, ?_⟩
  exact ⟨rfl, rfl, rfl, by rw [setRow_size]; exact Nat.le_refl _, fun k _ hk => setRow_other W B k _ (fun e => hk (by rw [e]))⟩
set_option maxRecDepth 100000 in
theorem new_logC (x : World) (v : Value) (a : Nat) (q e : Int) (hv : v.oneCell' = true) : ∃ y, (storeVar 53 ⟨x.heap.size, 0, none⟩ (.agg (logC v a q e).toArray)).run Try.prog (x.alloc (.cells #[.slice none 0 0, .int .i64 0, .int .u32 0, .int .i64 0] 53)) = .ok () y ∧ RowC y x.heap.size 53 (logC v a q e) ∧ Below x.heap.size x y :=
  ⟨_, store_newL (a' := v) (b' := .int .i64 (a : Int)) (c' := .int .u32 q) (d' := .int .i64 e) ⟨hv, rfl, rfl, rfl⟩, RowC.new x _ _, below_new x _⟩
end
end Go.Proofs.Ytfmgaakbfphpbaa
