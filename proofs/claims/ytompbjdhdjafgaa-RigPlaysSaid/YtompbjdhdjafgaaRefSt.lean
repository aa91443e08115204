/- The document's own disk: what a write turns. -/
import Derived.Test.YtompbjdhdjafgaaRefNew
namespace Go.Proofs.Ytompbjdhdjafgaa
open Go.RowKit
set_option linter.unusedVariables false

theorem RefAt.setV {w x : World} {rq ss vb n i : Nat} {sv : Nat → Value} {D : Nat → Sec} {v' : Value} {vs' : List (List Value)} (h : RefAt w rq ss vb n sv D) (hi : i < n) (hb : Below w.heap.size w x) (hvs : ∀ u ∈ vs', IsBlk u) (ho : x.ownsRow w.heap.size 38 64 v' vs'.length vs'.flatten) :
    RefAt (x.setCell ⟨vb, i, none⟩ v') rq ss vb n (upd sv i v') (upd D i ⟨(D i).c, vs'⟩) ∧ Turn (rfoot rq ss vb n sv) (rfoot rq ss vb n (upd sv i v')) w (x.setCell ⟨vb, i, none⟩ v') := by
  have hn : 0 < n := by omega
  have hx : RefAt x rq ss vb n sv D := h.kept fun k hk => hb.block k (h.lt hn hk)
  have lq := h.lt hn (.inl rfl)
  have ls := h.lt hn (.inr (.inl rfl))
  have lv := h.lt hn (.inr (.inr (.inl rfl)))
  have hnew : ∀ k, v'.ownBlock = some k → w.heap.size ≤ k := fun k hk => (ho.lt k hk).1
  have heq : ∀ k, k ≠ vb → (x.setCell ⟨vb, i, none⟩ v').heap[k]? = x.heap[k]? := fun k hk => Below.heap_setCell _ _ _ k hk
  refine ⟨⟨(heq rq h.d2).trans hx.head, h.d1, h.d2, h.d3, h.max, fun j hj => ?_, fun j hj => ?_, there_same hx.thereS (heq ss h.d3), fun j hj => ?_, World.there_setCells hx.thereV vb i [v'], fun j hj => ?_, fun j hj => ?_, fun j hj => ?_, fun j hj => ?_⟩, ?_⟩
  · by_cases e : j = i
    · subst e; rw [upd_same]; exact ⟨(h.ok j hj).1, hvs⟩
    · rw [upd_other _ _ e]; exact h.ok j hj
  · by_cases e : j = i
    · subst e; rw [upd_same]; exact rangeAt_same (hx.cont j hj) (heq ss h.d3)
    · rw [upd_other _ _ e]; exact rangeAt_same (hx.cont j hj) (heq ss h.d3)
  · by_cases e : j = i
    · subst e; rw [upd_same]; exact World.cell?_setCell_same' _ _ _ (by rw [hx.ver j hj]; rfl)
    · rw [upd_other _ _ e, World.cell?_setCell_other _ _ _ _ (fun e' => e (by cases e'; rfl))]; exact hx.ver j hj
  · by_cases e : j = i
    · subst e; rw [upd_same, upd_same]; exact ownsRow_same (ho.mono (Nat.zero_le _)) (fun g hg => heq g (by have := hnew g hg; omega))
    · rw [upd_other _ _ e, upd_other _ _ e]; exact ownsRow_same (hx.row j hj) (fun g hg => heq g (fun e' => h.a3 j hj (by rw [hg, e'])))
  · by_cases e : j = i
    · subst e; rw [upd_same]; exact fun e' => by have := hnew _ e'; omega
    · rw [upd_other _ _ e]; exact h.a1 j hj
  · by_cases e : j = i
    · subst e; rw [upd_same]; exact fun e' => by have := hnew _ e'; omega
    · rw [upd_other _ _ e]; exact h.a2 j hj
  · by_cases e : j = i
    · subst e; rw [upd_same]; exact fun e' => by have := hnew _ e'; omega
    · rw [upd_other _ _ e]; exact h.a3 j hj
  · have t0 : Turn (rfoot rq ss vb n sv) (rfoot rq ss vb n sv) w x := Turn.of_below hb
    refine ⟨t0.still, t0.others.trans (KeepsOthers.setCell x _ v'), fun k hk hf => (heq k (fun e => hf (.inr (.inr (.inl e))))).trans (hb.block k hk), ?_⟩
    rintro k (e | e | e | ⟨j, hj, hk⟩)
    · exact .inl (.inl e)
    · exact .inl (.inr (.inl e))
    · exact .inl (.inr (.inr (.inl e)))
    · by_cases e : j = i
      · subst e; rw [upd_same] at hk; exact .inr (hnew k hk)
      · rw [upd_other _ _ e] at hk; exact .inl (.inr (.inr (.inr ⟨j, hj, hk⟩)))

theorem RefAt.setS {w x : World} {rq ss vb n i : Nat} {sv : Nat → Value} {D : Nat → Sec} {b : List Value} (h : RefAt w rq ss vb n sv D) (hi : i < n) (hb : Below w.heap.size w x) (hB : IsBlk b) :
    RefAt (x.setCells ss (i * 64) b) rq ss vb n sv (upd D i ⟨b, (D i).vs⟩) ∧ Turn (rfoot rq ss vb n sv) (rfoot rq ss vb n sv) w (x.setCells ss (i * 64) b) := by
  have hn : 0 < n := by omega
  have hx : RefAt x rq ss vb n sv D := h.kept fun k hk => hb.block k (h.lt hn hk)
  have hl := hB.length
  have heq : ∀ k, k < x.heap.size → k ≠ ss → (x.setCells ss (i * 64) b).heap[k]? = x.heap[k]? := fun k hk hne => World.heap_setCells_other x ss (i * 64) b hk hne
  have lt : ∀ k, rfoot rq ss vb n sv k → k < x.heap.size := fun k hk => hx.lt hn hk
  refine ⟨⟨(heq rq (lt rq (.inl rfl)) h.d1).trans hx.head, h.d1, h.d2, h.d3, h.max, fun j hj => ?_, fun j hj => ?_, World.there_setCells hx.thereS ss (i * 64) b, fun j hj => (World.cell?_of_block (a := ⟨vb, j, none⟩) (heq vb (lt vb (.inr (.inr (.inl rfl)))) h.d3.symm)).trans (hx.ver j hj),
    there_same hx.thereV (heq vb (lt vb (.inr (.inr (.inl rfl)))) h.d3.symm), fun j hj => ?_, h.a1, h.a2, h.a3⟩, ?_⟩
  · by_cases e : j = i
    · subst e; rw [upd_same]; exact ⟨hB, (h.ok j hj).2⟩
    · rw [upd_other _ _ e]; exact h.ok j hj
  · by_cases e : j = i
    · subst e; rw [upd_same]
      exact World.rangeAt_setCells_same x ss (j * 64) b (fun m hm => by
        have := hx.thereS (j * 64 + m) (by rw [hl] at hm; omega)
        rwa [Nat.zero_add] at this)
    · rw [upd_other _ _ e]
      exact World.rangeAt_setCells_apart (hx.cont j hj) ss (i * 64) b (by rw [hl, (h.ok j hj).1.length]; omega)
  · have hr : (upd D i ⟨b, (D i).vs⟩ j).vs = (D j).vs := by
      by_cases e : j = i
      · subst e; rw [upd_same]
      · rw [upd_other _ _ e]
    rw [hr]
    exact ownsRow_same (hx.row j hj) (fun g hg => heq g (lt g (.inr (.inr (.inr ⟨j, hj, hg⟩)))) (fun e' => h.a2 j hj (by rw [hg, e'])))
  · have t0 : Turn (rfoot rq ss vb n sv) (rfoot rq ss vb n sv) w x := Turn.of_below hb
    exact ⟨still_trans t0.still (still_setCells ss b (i * 64) x), t0.others.trans (keepsOthers_setCells ss b (i * 64) x), fun k hk hf => (heq k (Nat.lt_of_lt_of_le hk hb.size) (fun e => hf (.inr (.inl e)))).trans (hb.block k hk), fun k hk => .inl hk⟩

/-- Versions appended to versions. -/
theorem append_vs (N : Nat) (w : World) (v u : Value) (vs us : List (List Value)) (hown : w.ownsRow N 38 64 v vs.length vs.flatten) (hu : w.ownsRow 0 38 64 u us.length us.flatten) (hok : ∀ x ∈ us, IsBlk x) (hlen : vs.length + us.length ≤ 1000000) (hN : N ≤ w.heap.size) :
    ∃ v' w', (Builtin.append_ #[54, 54] 54 #[v, u]).run Try.prog w = .ok v' w' ∧ w'.ownsRow N 38 64 v' (vs ++ us).length (vs ++ us).flatten ∧ w.grownBy w' v.ownBlock ∧ (v'.ownBlock = v.ownBlock ∨ v'.ownBlock = some w.heap.size) := by
  obtain ⟨i0, hi, hz0, hz1, hz2⟩ := info_parts info_blk3
  rcases hu.2 with ⟨rfl, h0⟩ | ⟨g, cap, cur, rfl, _⟩
  · obtain rfl := List.eq_nil_of_length_eq_zero h0
    exact ⟨v, w, run_append_owned_none (P := Try.prog) (w := w) N 54 54 38 i0 64 Try.underlying54 hi v vs.length _ hown, by simpa using hown, World.grownBy.refl _ _, .inl rfl⟩
  · obtain ⟨v', w', hr, h1, h2, _, h3⟩ := run_append_own_at (P := Try.prog) w N 54 54 38 i0 (.agg zarr) 64 64 Try.underlying54 hi hz0 hz1 hz2 zarr_size (by omega) v vs.length vs.flatten hown
      ⟨g, 0, none⟩ us.length cap us.flatten hu.1 (hu.cells rfl) (fun x hx => by obtain ⟨y, hy, hxy⟩ := List.mem_flatten.1 hx; exact (hok y hy).one x hxy) (by unfold maxLen; omega) (by omega) hN
    exact ⟨v', w', hr, by simpa using h1, h2, h3⟩

theorem slice_zero (w : World) : (Instr.buildSlice 54 0 #[]).run Try.prog w = .ok (.slice (some ⟨w.heap.size, 0, none⟩) 0 0) (w.alloc (.cells #[] 38)) := by
  obtain ⟨i0, hi, hz0, hz1, hz2⟩ := info_parts info_blk
  have hu : Try.prog.underlying 54 = some (.slice 38) := by kernel_rfl
  simp [Instr.buildSlice, run_underlying hu, sizeOf, typeInfo, hi, Instr.fill, newRow]
  rw [show Array.range 0 = #[] by decide, Array.map_empty]
end Go.Proofs.Ytompbjdhdjafgaa
