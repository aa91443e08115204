/- A sector of the package disk in memory; what its methods come to. -/
import Derived.Test.YtompbjdhdjafgaaState
import Derived.Test.YtompbjdhdjafgaaOrd
namespace Go.Proofs.Ytompbjdhdjafgaa
open Go.RowKit
set_option linter.unusedVariables false
attribute [-simp] Try.isAgg38 Try.zeroValue38
attribute [-go_sem] loadVar storeVar
attribute [local go_sem] zero_blk build_blk loadVar_open storeVar_open

/-- The sector s at offset o of block sb; its versions' slice is v, made at or beyond N. -/
structure SecAt (w : World) (N sb o : Nat) (s : Sec) (v : Value) : Prop where
  ok : s.Ok
  cont : w.rangeAt sb o s.c
  ver : w.cell? ⟨sb, o + 64, none⟩ = some v
  there : w.there sb o 65
  row : w.ownsRow N 38 64 v s.vs.length s.vs.flatten
  apart : v.ownBlock ≠ some sb

theorem SecAt.lt {w : World} {N sb o : Nat} {s : Sec} {v : Value} (h : SecAt w N sb o s v) : sb < w.heap.size := World.block_lt_of_cell? w _ h.ver

theorem SecAt.form {w : World} {N sb o : Nat} {s : Sec} {v : Value} (h : SecAt w N sb o s v) : ∃ a cap, v = .slice a s.vs.length cap ∧ s.vs.length ≤ cap ∧ cap ≤ maxLen ∧ (s.vs ≠ [] → ∃ g, a = some ⟨g, 0, none⟩ ∧ g ≠ sb ∧ g < w.heap.size ∧ N ≤ g ∧ ∀ k u, s.vs[k]? = some u → w.rangeAt g (k * 64) u) := by
  have hap := h.apart
  rcases h.row.2 with ⟨rfl, h0⟩ | ⟨g, cap, cur, rfl, h1, h2, h3, h4, h5, h6⟩
  · exact ⟨none, 0, by rw [h0], by omega, by simp [maxLen], fun hn => absurd (List.eq_nil_of_length_eq_zero h0) hn⟩
  · refine ⟨some ⟨g, 0, none⟩, cap, rfl, h3, h4, fun _ => ⟨g, rfl, fun e => hap (by rw [e]; rfl), (Array.getElem?_eq_some_iff.1 h2).1, h1, fun k u hu j x hx => ?_⟩⟩
    have hk : k < s.vs.length := (List.getElem?_eq_some_iff.1 hu).1
    have hj : j < 64 := by have := (List.getElem?_eq_some_iff.1 hx).1; rw [(h.ok.2 u (List.mem_of_getElem? hu)).length] at this; exact this
    have hf := flat_get h.ok.2 hu j hj
    rw [cell_of_row _ _ _ _ _ _ h2, ← Array.getElem?_toList]
    rw [← h6, List.getElem?_take, if_pos (by omega)] at hf
    rw [hf, hx]

set_option maxRecDepth 100000 in
set_option maxHeartbeats 1000000 in
theorem yields_at (N sb o : Nat) (s : Sec) (v : Value) (w : World) (h : SecAt w N sb o s v) :
    Calls Try.prog 46 #[.pointer (some ⟨sb, o, none⟩)] w fun e w' => e = .returned (.agg s.look.toArray) ∧ Below w.heap.size w w' := by
  obtain ⟨a, cap, rfl, hcap, hmax, hv⟩ := h.form
  obtain ⟨W, hW⟩ : ∃ W, w.alloc (.cells zarr 38) = W := ⟨_, rfl⟩
  have hsz : w.heap.size < W.heap.size := by rw [← hW]; simp
  have c1 : W.cell? ⟨sb, o + 64, none⟩ = some (.slice a s.vs.length cap) := by rw [← hW, World.cell?_alloc_lt _ _ _ h.lt]; exact h.ver
  have hB : Below w.heap.size w (w.alloc (.cells s.look.toArray 38)) := (Below.refl _ w).alloc (Nat.le_refl _) _
  have hok := h.ok.look
  by_cases hn : s.vs = []
  · have hl : s.look = s.c := Sec.look_none hn
    rw [hl] at hB hok ⊢
    have h0 : s.vs.length = 0 := by rw [hn]; rfl
    have L : (loadVar 38 ⟨sb, o, none⟩).run Try.prog W = .ok (.agg s.c.toArray) W := by rw [← hW]; exact load_blk (World.rangeAt_alloc h.cont _) h.ok.1.length
    have S : (storeVar 38 ⟨w.heap.size, 0, none⟩ (.agg s.c.toArray)).run Try.prog W = .ok () (w.alloc (.cells s.c.toArray 38)) := by rw [← hW]; exact store_new zarr_size h.ok.1
    have R : (loadVar 38 ⟨w.heap.size, 0, none⟩).run Try.prog (w.alloc (.cells s.c.toArray 38)) = .ok (.agg s.c.toArray) (w.alloc (.cells s.c.toArray 38)) := load_new (by simpa using h.ok.1.length)
    have HB := Lib.hid hB
    rw [h0] at c1
    clear hB hok hl hn h0 hv h hsz hcap hmax
    go_enter Try.func46, Try.ntmps46
    go_wp2_with (with_reducible (rw [hW]; clear hW))
    refine bodyPost_ret (results_cell rfl rfl R) rfl ⟨rfl, HB.out⟩
  · obtain ⟨g, rfl, hg1, hg2, hg3, hv⟩ := hv hn
    obtain ⟨m, hm⟩ : ∃ m, s.vs.length = m + 1 := ⟨s.vs.length - 1, by have := List.length_pos_iff.2 hn; omega⟩
    have hu : s.vs[m]? = some s.look := by
      have := Sec.look_some hn
      rw [hm, Nat.add_sub_cancel] at this
      rw [List.getElem?_eq_getElem (by omega)] at this ⊢
      rw [this]; rfl
    have hr := hv m _ hu
    obtain ⟨u, hul⟩ : ∃ u, s.look = u := ⟨_, rfl⟩
    rw [hul] at hr hB hok hu ⊢
    have L : (loadVar 38 ⟨g, m * 64, none⟩).run Try.prog W.drew = .ok (.agg u.toArray) W.drew := by rw [← hW]; exact load_blk (by simpa using World.rangeAt_alloc hr _) hok.length
    have S : (storeVar 38 ⟨w.heap.size, 0, none⟩ (.agg u.toArray)).run Try.prog W.drew = .ok () (w.alloc (.cells u.toArray 38)).drew := by rw [← hW]; exact store_new (w := w.drew) zarr_size hok
    have R : (loadVar 38 ⟨w.heap.size, 0, none⟩).run Try.prog (w.alloc (.cells u.toArray 38)).drew = .ok (.agg u.toArray) (w.alloc (.cells u.toArray 38)).drew := load_new (w := w.drew) (by simpa using hok.length)
    have HB := Lib.hid hB
    have hmx : Try.prog.follows .mixedOrders = true := by kernel_rfl
    rw [hm] at c1 hcap
    have HM1 : Hid (m + 1 ≤ maxLen) := by show _ ≤ _; omega
    clear hB hok hul hn hm hu hr hv h hsz hg1 hg2 hg3 hcap hmax
    go_enter Try.func46, Try.ntmps46
    go_wp2_with (with_reducible (rw [hW]; clear hW))
    have hm1 : (m : Int) + 1 ≤ 9223372036854775807 := by have := HM1.out; unfold maxLen at this; omega
    refine region_plan (fun x => x = W.drew) 12 (.takes [0, 1, 2, 3, 4, 5, 6, 7, 8, 9, 10, 11] .leaf) hmx (by kernel_rfl) (by intro c x v a w h; cases x <;> exact h) rfl ?_
    repeat (rw [wpPlan_takes_cons]; simp only [nth_zero, nth_succ]; go_big_quiet_step (fail); refine wpQuiet_nil ?_)
    rw [wpPlan_takes_nil, wpPlan_leaf]
    simp only [List.drop_succ_cons, List.drop_zero]
    go_wp2_with fail
    refine bodyPost_ret (results_cell rfl rfl R) rfl ⟨rfl, HB.out.drew⟩
end Go.Proofs.Ytompbjdhdjafgaa
