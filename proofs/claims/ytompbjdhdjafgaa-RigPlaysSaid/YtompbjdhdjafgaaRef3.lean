/- The document's own disk in memory; Has, Read. -/
import Derived.Test.YtompbjdhdjafgaaLook
namespace Go.Proofs.Ytompbjdhdjafgaa
open Go.RowKit
set_option linter.unusedVariables false
attribute [-simp] Try.isAgg38 Try.zeroValue38
attribute [-go_sem] loadVar storeVar
attribute [local go_sem] zero_blk build_blk loadVar_open storeVar_open

/-- Its blocks. -/
def rfoot (rq ss vb n : Nat) (sv : Nat → Value) (k : Nat) : Prop := k = rq ∨ k = ss ∨ k = vb ∨ ∃ i, i < n ∧ (sv i).ownBlock = some k

structure RefAt (w : World) (rq ss vb n : Nat) (sv : Nat → Value) (D : Nat → Sec) : Prop where
  head : w.heap[rq]? = some (.cells #[.slice (some ⟨ss, 0, none⟩) n n, .slice (some ⟨vb, 0, none⟩) n n] 57 (0, 0))
  d1 : rq ≠ ss
  d2 : rq ≠ vb
  d3 : ss ≠ vb
  max : n ≤ 4096
  ok : ∀ i, i < n → (D i).Ok
  cont : ∀ i, i < n → w.rangeAt ss (i * 64) (D i).c
  thereS : w.there ss 0 (n * 64)
  ver : ∀ i, i < n → w.cell? ⟨vb, i, none⟩ = some (sv i)
  thereV : w.there vb 0 n
  row : ∀ i, i < n → w.ownsRow 0 38 64 (sv i) (D i).vs.length (D i).vs.flatten
  a1 : ∀ i, i < n → (sv i).ownBlock ≠ some rq
  a2 : ∀ i, i < n → (sv i).ownBlock ≠ some ss
  a3 : ∀ i, i < n → (sv i).ownBlock ≠ some vb

def Ref (w : World) (rq n : Nat) (f : Nat → Prop) (D : Nat → Sec) : Prop := ∃ ss vb sv, RefAt w rq ss vb n sv D ∧ f = rfoot rq ss vb n sv

theorem ownsRow_same {w w' : World} {N e size n : Nat} {v : Value} {xs : List Value} (h : w.ownsRow N e size v n xs) (h2 : ∀ g, v.ownBlock = some g → w'.heap[g]? = w.heap[g]?) : w'.ownsRow N e size v n xs := by
  refine ⟨h.1, ?_⟩
  rcases h.2 with h' | ⟨g, cap, cur, rfl, a1, a2, a3⟩
  · exact .inl h'
  · exact .inr ⟨g, cap, cur, rfl, a1, (h2 g rfl).trans a2, a3⟩
theorem rangeAt_same {w w' : World} {b o : Nat} {c : List Value} (h : w.rangeAt b o c) (hb : w'.heap[b]? = w.heap[b]?) : w'.rangeAt b o c := fun j x hx => (World.cell?_of_block (a := ⟨b, o + j, none⟩) hb).trans (h j x hx)
theorem there_same {w w' : World} {b o n : Nat} (h : w.there b o n) (hb : w'.heap[b]? = w.heap[b]?) : w'.there b o n := fun j hj =>
  ⟨by rw [World.cell?_of_block (a := ⟨b, o + j, none⟩) hb]; exact (h j hj).1, by rw [World.frozen?_of_block (a := ⟨b, o + j, none⟩) hb]; exact (h j hj).2⟩

theorem RefAt.kept {w w' : World} {rq ss vb n : Nat} {sv : Nat → Value} {D : Nat → Sec} (h : RefAt w rq ss vb n sv D) (hk : ∀ k, rfoot rq ss vb n sv k → w'.heap[k]? = w.heap[k]?) : RefAt w' rq ss vb n sv D :=
  ⟨(hk rq (.inl rfl)).trans h.head, h.d1, h.d2, h.d3, h.max, h.ok, fun i hi => rangeAt_same (h.cont i hi) (hk ss (.inr (.inl rfl))), there_same h.thereS (hk ss (.inr (.inl rfl))),
    fun i hi => (World.cell?_of_block (a := ⟨vb, i, none⟩) (hk vb (.inr (.inr (.inl rfl))))).trans (h.ver i hi), there_same h.thereV (hk vb (.inr (.inr (.inl rfl)))),
    fun i hi => ownsRow_same (h.row i hi) (fun g hg => hk g (.inr (.inr (.inr ⟨i, hi, hg⟩)))), h.a1, h.a2, h.a3⟩
theorem RefAt.lt {w : World} {rq ss vb n : Nat} {sv : Nat → Value} {D : Nat → Sec} (h : RefAt w rq ss vb n sv D) (hn : 0 < n) {k : Nat} (hk : rfoot rq ss vb n sv k) : k < w.heap.size := by
  rcases hk with rfl | rfl | rfl | ⟨i, hi, hk⟩
  · exact (Array.getElem?_eq_some_iff.1 h.head).1
  · obtain ⟨u, hu⟩ := Option.isSome_iff_exists.1 (h.thereS 0 (by omega)).1
    exact World.block_lt_of_cell? w _ hu
  · exact World.block_lt_of_cell? w _ (h.ver 0 hn)
  · exact ((h.row i hi).lt k hk).2
theorem Ref.out {w w' : World} {rq n : Nat} {f : Nat → Prop} {D : Nat → Sec} (h : Ref w rq n f D) (hk : ∀ k, f k → w'.heap[k]? = w.heap[k]?) : Ref w' rq n f D := by
  obtain ⟨ss, vb, sv, h, rfl⟩ := h
  exact ⟨ss, vb, sv, h.kept hk, rfl⟩
theorem Ref.lt {w : World} {rq n : Nat} {f : Nat → Prop} {D : Nat → Sec} (h : Ref w rq n f D) (hn : 0 < n) : ∀ k, f k → k < w.heap.size := by
  obtain ⟨ss, vb, sv, h, rfl⟩ := h
  exact fun k hk => h.lt hn hk
theorem Ref.below {w w' : World} {rq n : Nat} {f : Nat → Prop} {D : Nat → Sec} (h : Ref w rq n f D) (hn : 0 < n) (hb : Below w.heap.size w w') : Ref w' rq n f D := h.out fun k hk => hb.block k (h.lt hn k hk)

/-- A row of versions: its value, and where each stands. -/
theorem row_form {w : World} {v : Value} {vs : List (List Value)} (hok : ∀ u ∈ vs, IsBlk u) (h : w.ownsRow 0 38 64 v vs.length vs.flatten) : ∃ a cap, v = .slice a vs.length cap ∧ vs.length ≤ cap ∧ cap ≤ maxLen ∧ (a = none → cap = 0 ∧ vs = []) ∧ (∀ x, a = some x → ∃ g, x = ⟨g, 0, none⟩ ∧ v.ownBlock = some g ∧ g < w.heap.size ∧ ∀ k u, vs[k]? = some u → w.rangeAt g (k * 64) u) := by
  rcases h.2 with ⟨rfl, h0⟩ | ⟨g, cap, cur, rfl, h1, h2, h3, h4, h5, h6⟩
  · exact ⟨none, 0, by rw [h0], by omega, by simp [maxLen], fun _ => ⟨rfl, List.eq_nil_of_length_eq_zero h0⟩, (fun x e => by cases e)⟩
  · refine ⟨some ⟨g, 0, none⟩, cap, rfl, h3, h4, (fun e => by cases e), fun x e => ?_⟩
    cases e
    refine ⟨g, rfl, rfl, (Array.getElem?_eq_some_iff.1 h2).1, fun k u hu j x hx => ?_⟩
    have hk : k < vs.length := (List.getElem?_eq_some_iff.1 hu).1
    have hj : j < 64 := by have := (List.getElem?_eq_some_iff.1 hx).1; rw [(hok u (List.mem_of_getElem? hu)).length] at this; exact this
    have hf := flat_get hok hu j hj
    rw [cell_of_row _ _ _ _ _ _ h2, ← Array.getElem?_toList]
    rw [← h6, List.getElem?_take, if_pos (by omega)] at hf
    rw [hf, hx]

set_option maxRecDepth 100000 in
set_option maxHeartbeats 1000000 in
/-- **Has**. -/
theorem refHas (rq n : Nat) (f : Nat → Prop) (D : Nat → Sec) (i : Int) (w : World) (h : Ref w rq n f D) :
    Calls Try.prog 45 #[.pointer (some ⟨rq, 0, none⟩), .int .i64 i] w fun e w' => e = .returned (.bool (decide (0 ≤ i ∧ i < (n : Int)))) ∧ w' = w := by
  obtain ⟨ss, vb, sv, h, rfl⟩ := h
  have c0 : w.cell? ⟨rq, 0, none⟩ = some (.slice (some ⟨ss, 0, none⟩) n n) := by rw [cell_of_row _ _ _ _ _ _ h.head]; rfl
  clear h
  by_cases h0 : 0 ≤ i
  · have g0 : decide (0 ≤ i) = true := by simpa using h0
    have HE : Hid (decide (i < (n : Int)) = decide (0 ≤ i ∧ i < (n : Int))) := by show _ = _; simp [h0]
    go_enter Try.func45, Try.ntmps45
    go_wp2
    go_ret
    exact ⟨by rw [← HE.out]; rfl, rfl⟩
  · have g0 : decide (0 ≤ i) = false := by simpa using h0
    have HE : Hid (false = decide (0 ≤ i ∧ i < (n : Int))) := by show _ = _; simp [h0]
    go_enter Try.func45, Try.ntmps45
    go_wp2
    go_ret
    exact ⟨rfl, rfl⟩

set_option maxRecDepth 100000 in
set_option maxHeartbeats 1000000 in
/-- **Read**. -/
theorem refRead (rq n i : Nat) (f : Nat → Prop) (D : Nat → Sec) (w : World) (h : Ref w rq n f D) (hi : i < n) :
    Calls Try.prog 36 #[.pointer (some ⟨rq, 0, none⟩), .int .i64 (i : Int)] w fun e w' => e = .returned (.agg (D i).look.toArray) ∧ Below w.heap.size w w' := by
  obtain ⟨ss, vb, sv, h, rfl⟩ := h
  obtain ⟨a, cap, hf, hcap, hmax, hnone, hsome⟩ := row_form (h.ok i hi).2 (h.row i hi)
  obtain ⟨W, hW⟩ : ∃ W, w.alloc (.cells zarr 38) = W := ⟨_, rfl⟩
  have hB : Below w.heap.size w W := by rw [← hW]; exact (Below.refl _ w).alloc (Nat.le_refl _) _
  have hW' : RefAt W rq ss vb n sv D := h.kept fun k hk => hB.block k (h.lt (by omega) hk)
  have c0 : W.cell? ⟨rq, 0, none⟩ = some (.slice (some ⟨ss, 0, none⟩) n n) := by rw [cell_of_row _ _ _ _ _ _ hW'.head]; rfl
  have c1 : W.cell? ⟨rq, 1, none⟩ = some (.slice (some ⟨vb, 0, none⟩) n n) := by rw [cell_of_row _ _ _ _ _ _ hW'.head]; rfl
  have c2 := hW'.ver i hi
  rw [hf] at c2
  have hok := (h.ok i hi).look
  have HB : Hid (Below w.heap.size w (w.alloc (.cells (D i).look.toArray 38))) := (Below.refl _ w).alloc (Nat.le_refl _) _
  have S : (storeVar 38 ⟨w.heap.size, 0, none⟩ (.agg (D i).look.toArray)).run Try.prog W = .ok () (w.alloc (.cells (D i).look.toArray 38)) := by rw [← hW]; exact store_new zarr_size hok
  have R : (loadVar 38 ⟨w.heap.size, 0, none⟩).run Try.prog (w.alloc (.cells (D i).look.toArray 38)) = .ok (.agg (D i).look.toArray) (w.alloc (.cells (D i).look.toArray 38)) := load_new (by simpa using hok.length)
  have g1 : (i : Int) < (n : Int) := by omega
  by_cases hn : (D i).vs = []
  · have L : (loadVar 38 ⟨ss, i * 64, none⟩).run Try.prog W = .ok (.agg (D i).look.toArray) W := by rw [Sec.look_none hn]; exact load_blk (hW'.cont i hi) (h.ok i hi).1.length
    have h0 : (D i).vs.length = 0 := by rw [hn]; rfl
    rw [h0] at c2
    obtain ⟨u, hu⟩ : ∃ u, (D i).look = u := ⟨_, rfl⟩
    rw [hu] at HB S R L ⊢
    clear hB hW' h hf hcap hmax hnone hsome hok hn h0 hi hu
    go_enter Try.func36, Try.ntmps36
    go_wp2_with (with_reducible (rw [hW]; clear hW))
    refine bodyPost_ret (results_cell rfl rfl R) rfl ⟨rfl, HB.out⟩
  · obtain ⟨m, hm⟩ : ∃ m, (D i).vs.length = m + 1 := ⟨(D i).vs.length - 1, by have := List.length_pos_iff.2 hn; omega⟩
    obtain ⟨g, rfl, hg⟩ : ∃ g, a = some ⟨g, 0, none⟩ ∧ ∀ k u, (D i).vs[k]? = some u → w.rangeAt g (k * 64) u := by
      cases a with
      | none => exact absurd (hnone rfl).2 hn
      | some x => obtain ⟨g, rfl, _, _, h4⟩ := hsome x rfl; exact ⟨g, rfl, h4⟩
    have hu : (D i).vs[m]? = some (D i).look := by
      have := Sec.look_some hn
      rw [hm, Nat.add_sub_cancel] at this
      rw [List.getElem?_eq_getElem (by omega)] at this ⊢
      rw [this]; rfl
    have L : (loadVar 38 ⟨g, m * 64, none⟩).run Try.prog W = .ok (.agg (D i).look.toArray) W := load_blk (by rw [← hW]; exact World.rangeAt_alloc (hg m _ hu) _) hok.length
    rw [hm] at c2 hcap
    have hw1 : Hid (wrap64 (m : Int) = (m : Int)) := IntWalk.wrap64_in _ (by unfold maxLen at hmax; omega)
    obtain ⟨u, hue⟩ : ∃ u, (D i).look = u := ⟨_, rfl⟩
    rw [hue] at HB S R L ⊢
    have hw2 := hw1.out
    have g2 : decide ((0 : Int) < (m : Int) + 1) = true := by simp
    clear hB hW' h hf hcap hmax hnone hsome hok hn hi hue hu hm hg hw1
    go_enter Try.func36, Try.ntmps36
    go_wp2_with (with_reducible (rw [hW]; clear hW))
    refine bodyPost_ret (results_cell rfl rfl R) rfl ⟨rfl, HB.out⟩
end Go.Proofs.Ytompbjdhdjafgaa
