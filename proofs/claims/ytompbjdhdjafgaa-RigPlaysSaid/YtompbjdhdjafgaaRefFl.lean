/- The document's own disk: Flush. -/
import Derived.Test.YtompbjdhdjafgaaRefWr
import Derived.Test.YtompbjdhdjafgaaLook
namespace Go.Proofs.Ytompbjdhdjafgaa
open Go.RowKit
set_option linter.unusedVariables false
attribute [-simp] Try.isAgg38 Try.zeroValue38
attribute [-go_sem] loadVar storeVar
attribute [local go_sem] zero_blk build_blk loadVar_open storeVar_open

/-- Of the first k sectors the last versions. -/
def flTo (D : Nat → Sec) (k : Nat) : Nat → Sec := fun j => if j < k then ⟨(D j).look, []⟩ else D j
theorem flTo_zero (D : Nat → Sec) : flTo D 0 = D := by funext j; simp [flTo]
theorem flTo_succ (D : Nat → Sec) (k : Nat) : flTo D (k + 1) = upd (flTo D k) k ⟨(D k).look, []⟩ := by
  funext j
  by_cases e : j = k
  · subst e; rw [upd_same]; simp [flTo]
  · rw [upd_other _ _ e]
    unfold flTo
    by_cases h : j < k
    · rw [if_pos (by omega), if_pos h]
    · rw [if_neg (by omega), if_neg h]
theorem flTo_at (D : Nat → Sec) (k : Nat) : flTo D k k = D k := by simp [flTo]
/-- It is what Flush of the disk makes. -/
theorem flTo_settled (D : Nat → Sec) (n : Nat) : settled D (fun j => (D j).vs.length) (looseTo D n) = flTo D n := by
  funext j
  unfold flTo
  by_cases h : j < n
  · rw [if_pos h]
    have h1 := flushed_none D n j h
    have h2 := flushed_c D n j h
    cases e : settled D (fun j => (D j).vs.length) (looseTo D n) j with
    | mk c vs => rw [e] at h1 h2; simp only at h1 h2; rw [h1, h2]
  · rw [if_neg h, settled_not (fun hm => h (looseTo_lt hm))]

/-- What is so far. -/
def RPart (w : World) (rq ss vb n : Nat) (f : Nat → Prop) (D' : Nat → Sec) (W : World) : Prop := ∃ sv, RefAt W rq ss vb n sv D' ∧ Turn f (rfoot rq ss vb n sv) w W

set_option maxRecDepth 100000 in
set_option maxHeartbeats 4000000 in
/-- **Flush**. -/
theorem refFlush (rq n : Nat) (f : Nat → Prop) (D : Nat → Sec) (w : World) (h : Ref w rq n f D) :
    Calls Try.prog 38 #[.pointer (some ⟨rq, 0, none⟩)] w fun e w' => e = .returned (.tuple #[]) ∧ ∃ f', Ref w' rq n f' (flTo D n) ∧ Turn f f' w w' := by
  obtain ⟨ss, vb, sv0, h, rfl⟩ := h
  have HM : Hid (n ≤ maxLen) := Nat.le_trans h.max (by unfold maxLen; omega)
  have HP : Hid (RPart w rq ss vb n (rfoot rq ss vb n sv0) (flTo D 0) w) := by rw [flTo_zero]; exact ⟨sv0, h, Turn.refl _ _⟩
  clear h
  have hmx : Try.prog.follows .mixedOrders = true := by kernel_rfl
  go_enter Try.func38, Try.ntmps38
  go_wp2
  go_loopw [2] (fun i wr => ∃ k : Nat, k ≤ n ∧ i = .int .i64 k ∧ RPart w rq ss vb n (rfoot rq ss vb n sv0) (flTo D k) wr) (fun i _ => n - (intOf i).toNat)
  case atStart => exact ⟨0, Nat.zero_le _, rfl, HP.out⟩
  case round =>
    obtain ⟨k, hk, rfl, sv, hR, hT⟩ := hrel
    have c0 : wr.cell? ⟨rq, 0, none⟩ = some (.slice (some ⟨ss, 0, none⟩) n n) := by rw [cell_of_row _ _ _ _ _ _ hR.head]; rfl
    by_cases hlt : k < n
    · have hn : 0 < n := by omega
      have key : ∀ x : Ext wr, RefAt x.1 rq ss vb n sv (flTo D k) := fun x => hR.kept fun q hq => x.2.block q (hR.lt hn hq)
      have hC0 : ∀ x : Ext wr, x.1.cell? ⟨rq, 0, none⟩ = some (.slice (some ⟨ss, 0, none⟩) n n) := fun x => by rw [cell_of_row _ _ _ _ _ _ (key x).head]; rfl
      have HRd := Lib.hid (refRead rq n k _ _ wr.drew ⟨ss, vb, sv, key ⟨wr.drew, (Below.refl _ wr).drew⟩, rfl⟩ hlt)
      rw [flTo_at] at HRd
      have hok : IsBlk (D k).look := by have := (hR.ok k hlt).look; rwa [flTo_at] at this
      obtain ⟨u, hu⟩ : ∃ u, (D k).look = u := ⟨_, rfl⟩
      rw [hu] at HRd hok
      have HSt : Hid (∀ x : Ext wr, ∃ x2, (storeVar 38 ⟨ss, k * 64, none⟩ (.agg u.toArray)).run Try.prog x.1 = .ok () x2 ∧ x2.cell? ⟨rq, 1, none⟩ = some (.slice (some ⟨vb, 0, none⟩) n n) ∧ (∃ v, x2.cell? ⟨vb, k, none⟩ = some v) ∧ x2.frozen? ⟨vb, k, none⟩ = false ∧ RPart w rq ss vb n (rfoot rq ss vb n sv0) (flTo D (k + 1)) (x2.setCell ⟨vb, k, none⟩ (.slice none 0 0))) := by
        intro x
        have hx := key x
        obtain ⟨g1, g2⟩ := hR.setS hlt x.2 hok
        refine ⟨_, store_blk (fun j hj => ?_) hok, ?_, ⟨_, g1.ver k hlt⟩, ?_, ?_⟩
        · have := hx.thereS (k * 64 + j) (by omega)
          rwa [Nat.zero_add] at this
        · rw [cell_of_row _ _ _ _ _ _ g1.head]; rfl
        · have := (g1.thereV k hlt).2; rwa [Nat.zero_add] at this
        · obtain ⟨q1, q2⟩ := g1.setV (v' := .slice none 0 0) (vs' := []) hlt (Below.refl _ _) (by simp) (World.ownsRow_nil _ _ _ _)
          refine ⟨_, ?_, (hT.trans g2).trans q2⟩
          rw [flTo_succ, hu]
          have e : upd (upd (flTo D k) k ⟨u, (flTo D k k).vs⟩) k ⟨(upd (flTo D k) k ⟨u, (flTo D k k).vs⟩ k).c, []⟩ = upd (flTo D k) k ⟨u, []⟩ := by
            funext j
            by_cases ej : j = k
            · subst ej; rw [upd_same, upd_same, upd_same]
            · rw [upd_other _ _ ej, upd_other _ _ ej, upd_other _ _ ej]
          rw [← e]; exact q1
      have g1 : (k : Int) < (n : Int) := by omega
      have HLT := Lib.hid hlt
      have HW : Hid (wrap64 ((k : Int) + 1) = (k : Int) + 1) := IntWalk.wrap64_in _ (by have := HM.out; unfold maxLen at this; omega)
      clear hlt hk hR hT key hn hok hu
      go_wp2_with fail
      refine region_plan (fun x => ∃ y : Ext wr, x = y.1) 8 (.takes [0, 1, 2, 3, 4, 5, 6] (.one 7 .leaf)) hmx (by kernel_rfl) (by intro c x v a w h; cases x <;> exact h) ⟨⟨wr.drew, (Below.refl _ wr).drew⟩, rfl⟩ ?_
      repeat (rw [wpPlan_takes_cons]; simp only [nth_zero, nth_succ]; go_big_quiet_step (fail); refine wpQuiet_nil ?_)
      rw [wpPlan_takes_nil, wpPlan_one]
      simp only [nth_zero, nth_succ]
      go_wp2_with fail
      refine HRd.out.mono ?_
      rintro e x1 ⟨rfl, hb⟩
      have X1 : Hid (Below wr.heap.size wr x1) := (Below.refl _ wr).drew.trans hb
      clear hb
      go_wp2_with fail
      refine planPost_mk ⟨⟨x1, X1.out⟩, rfl⟩ ?_
      rw [wpPlan_leaf]
      simp only [List.drop_succ_cons, List.drop_zero]
      obtain ⟨x2, s1, s2, ⟨v, s3⟩, s4, s5⟩ := HSt.out ⟨x1, X1.out⟩
      have S5 := Lib.hid s5
      clear s5
      go_wp2_with fail
      exact ⟨next_rel (C := fun k => RPart w rq ss vb n (rfoot rq ss vb n sv0) (flTo D k) _) HW.out HLT.out S5.out, next_lt HW.out HLT.out⟩
    · obtain rfl : k = n := by omega
      have HE : Hid (∃ f', Ref wr rq k f' (flTo D k) ∧ Turn (rfoot rq ss vb k sv0) f' w wr) := ⟨_, ⟨ss, vb, sv, hR, rfl⟩, hT⟩
      clear hR hT hk
      go_wp2_with fail
      go_end0
      exact ⟨rfl, HE.out⟩
end Go.Proofs.Ytompbjdhdjafgaa
