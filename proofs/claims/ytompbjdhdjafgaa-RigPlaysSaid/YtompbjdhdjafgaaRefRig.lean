/- The document's own rig. -/
import Derived.Test.YtompbjdhdjafgaaRefCr
import Derived.Test.YtompbjdhdjafgaaRUp
namespace Go.Proofs.Ytompbjdhdjafgaa
open Go.RowKit
set_option linter.unusedVariables false
attribute [-simp] Try.isAgg38 Try.zeroValue38
attribute [-go_sem] loadVar storeVar
attribute [local go_sem] zero_blk build_blk loadVar_open storeVar_open

/-- The document's own disk. -/
def RefD (q n : Nat) (D : Nat → Sec) : Res := fun w f => Ref w q n f D ∧ 0 < n
theorem RefD.isRes (q n : Nat) (D : Nat → Sec) : IsRes (RefD q n D) where
  out := fun h hk => ⟨h.1.out hk, h.2⟩
  lt := fun h => h.1.lt h.2
  cells := by
    rintro w f ⟨⟨ss, vb, sv, h, rfl⟩, hn⟩ k hk ob ho
    rcases hk with rfl | rfl | rfl | ⟨i, hi, hk⟩
    · rw [h.head] at ho; cases ho; rfl
    · obtain ⟨u, hu⟩ := Option.isSome_iff_exists.1 (h.thereS 0 (by omega)).1
      obtain ⟨o, h1, h2⟩ := cells_of_cell hu
      rw [h1] at ho; cases ho; exact h2
    · obtain ⟨o, h1, h2⟩ := cells_of_cell (h.ver 0 hn)
      rw [h1] at ho; cases ho; exact h2
    · exact ownBlock_cells (h.row i hi) k ob hk ho

def RS.disks2 (q0 q1 : Nat) (S : RS) : Res := Sep (RefD q0 S.n0 S.D0) (RefD q1 S.n1 S.D1)
theorem RS.disks2_isRes (q0 q1 : Nat) (S : RS) : IsRes (S.disks2 q0 q1) := (RefD.isRes _ _ _).sep (RefD.isRes _ _ _)
/-- The document's own rig at block rq. -/
def RigQ (rq q0 q1 : Nat) (S : RS) : Res := Sep (RowR rq (S.head q0 q1) 52) (S.disks2 q0 q1)
theorem RigQ.isRes (rq q0 q1 : Nat) (S : RS) : IsRes (RigQ rq q0 q1 S) := (RowR.isRes _ _ _).sep (S.disks2_isRes q0 q1)

section
variable {rq q0 q1 : Nat} {S : RS} {w : World} {f : Nat → Prop}
theorem RigQ.d0 (h : RigQ rq q0 q1 S w f) : ∃ g, Ref w q0 S.n0 g S.D0 ∧ 0 < S.n0 := by
  obtain ⟨f1, f2, _, ⟨f3, f4, h1, h2, _⟩, _⟩ := h
  exact ⟨f3, h1⟩
theorem RigQ.d1 (h : RigQ rq q0 q1 S w f) : ∃ g, Ref w q1 S.n1 g S.D1 ∧ 0 < S.n1 := by
  obtain ⟨f1, f2, _, ⟨f3, f4, h1, h2, _⟩, _⟩ := h
  exact ⟨f4, h2⟩
theorem RigQ.beside {w' : World} (h : RigQ rq q0 q1 S w f) (hb : Below w.heap.size w w') : RigQ rq q0 q1 S w' f := (RigQ.isRes rq q0 q1 S).below h hb

set_option maxRecDepth 100000 in
set_option maxHeartbeats 1000000 in
/-- **has**. -/
theorem RigQ.has (h : RigQ rq q0 q1 S w f) (dev i : Int) :
    Calls Try.prog 32 #[.pointer (some ⟨rq, 0, none⟩), .int .i64 dev, .int .i64 i] w fun e w' => e = .returned (.bool (S.has dev i)) ∧ w' = w := by
  have c0 : w.cell? ⟨rq, 0, none⟩ = some (.pointer (some ⟨q0, 0, none⟩)) := h.cell 0
  have c1 : w.cell? ⟨rq, 1, none⟩ = some (.pointer (some ⟨q1, 0, none⟩)) := h.cell 1
  by_cases h0 : dev = 0
  · subst h0
    obtain ⟨g, hd, _⟩ := h.d0
    have H := Lib.hid (refHas q0 S.n0 g S.D0 i w hd)
    have HE : Hid (decide (0 ≤ i ∧ i < (S.n0 : Int)) = S.has 0 i) := rfl
    rw [HE.out] at H
    clear h hd
    go_enter Try.func32, Try.ntmps32
    go_wp2_with fail
    refine H.out.mono ?_
    rintro e w' ⟨rfl, rfl⟩
    go_wp2_with fail
    go_ret
    exact ⟨rfl, rfl⟩
  · by_cases h1 : dev = 1
    · subst h1
      obtain ⟨g, hd, _⟩ := h.d1
      have H := Lib.hid (refHas q1 S.n1 g S.D1 i w hd)
      have HE : Hid (decide (0 ≤ i ∧ i < (S.n1 : Int)) = S.has 1 i) := rfl
      rw [HE.out] at H
      clear h hd h0
      go_enter Try.func32, Try.ntmps32
      go_wp2_with fail
      refine H.out.mono ?_
      rintro e w' ⟨rfl, rfl⟩
      go_wp2_with fail
      go_ret
      exact ⟨rfl, rfl⟩
    · have HE : Hid (S.has dev i = false) := by
        show _ = _
        unfold RS.has RS.len
        rw [if_neg h0, if_neg h1]
        simp
      by_cases h2 : 0 ≤ dev
      · have g1 : decide (0 ≤ dev) = true := by simpa using h2
        have g2 : decide (dev ≤ 1) = false := by simp; omega
        have g3 : ¬ dev ≤ 1 := by omega
        clear h0 h1 c0 c1
        go_enter Try.func32, Try.ntmps32
        go_wp2
        go_ret
        exact ⟨by rw [HE.out]; rfl, rfl⟩
      · have g1 : decide (0 ≤ dev) = false := by simpa using h2
        clear h0 h1 c0 c1
        go_enter Try.func32, Try.ntmps32
        go_wp2
        go_ret
        exact ⟨by rw [HE.out]; rfl, rfl⟩

set_option maxRecDepth 100000 in
set_option maxHeartbeats 2000000 in
/-- **through**. -/
theorem RigQ.through (h : RigQ rq q0 q1 S w f) (hS : S.Fit) :
    Calls Try.prog 33 #[.pointer (some ⟨rq, 0, none⟩)] w fun e w' => e = .returned (.bool S.ok) ∧ ∃ f', RigQ rq q0 q1 S.after w' f' ∧ Turn f f' w w' := by
  have hR := S.disks2_isRes q0 q1
  have c2 : w.cell? ⟨rq, 2, none⟩ = some (.int .i64 S.fuse) := h.cell 2
  have c3 : w.cell? ⟨rq, 3, none⟩ = some (.bool S.down) := h.cell 3
  have c4 : w.cell? ⟨rq, 4, none⟩ = some (.int .i64 S.done) := h.cell 4
  have r2 := h.frozen 2
  have r3 := h.frozen 3
  have r4 := h.frozen 4
  have HF := Lib.hid hS.fuse
  have HD := hS.done
  have H := Lib.hid h
  obtain ⟨fu, hfu⟩ : ∃ x, S.fuse = x := ⟨_, rfl⟩
  obtain ⟨dn, hdn⟩ : ∃ x, S.done = x := ⟨_, rfl⟩
  obtain ⟨dw, hdw⟩ : ∃ x, S.down = x := ⟨_, rfl⟩
  have EF := Lib.hid hfu
  have ED := Lib.hid hdn
  have EW := Lib.hid hdw
  rw [hfu] at c2 HF
  rw [hdn] at c4 HD
  rw [hdw] at c3
  clear h hS hfu hdn hdw
  cases dw with
  | true =>
    have HE : Hid (S.ok = false) := by show _ = _; simp [RS.ok, EW.out]
    have HA : Hid (S = S.after) := by show _ = _; unfold RS.after; rw [if_neg (by rw [HE.out]; simp)]; cases S; simp at *; exact EW.out
    go_enter Try.func33, Try.ntmps33
    go_wp2
    go_ret
    rw [HE.out, ← HA.out]
    exact ⟨rfl, f, H.out, Turn.refl _ _⟩
  | false =>
    by_cases h0 : fu = 0
    · subst h0
      have HE : Hid (S.ok = false) := by show _ = _; simp [RS.ok, EF.out]
      have HA : Hid ({ S with down := true } = S.after) := by show _ = _; unfold RS.after; rw [if_neg (by rw [HE.out]; simp)]
      go_enter Try.func33, Try.ntmps33
      go_wp2
      go_ret
      obtain ⟨g1, g2⟩ := H.out.set hR 3 (.bool true)
      rw [HE.out, ← HA.out]
      exact ⟨rfl, f, g1, g2⟩
    · have q0 : (fu == 0) = false := by simpa using h0
      have HE : Hid (S.ok = true) := by show _ = _; simp [RS.ok, EW.out, EF.out, h0]
      by_cases h1 : 0 < fu
      · have HA : Hid ({ S with fuse := fu - 1, done := dn + 1 } = S.after) := by show _ = _; unfold RS.after; rw [if_pos HE.out, EF.out, ED.out, if_pos h1]
        have HF1 := HF.out h1
        have r2' : (w.setCell ⟨rq, 2, none⟩ (.int .i64 (fu - 1))).frozen? ⟨rq, 4, none⟩ = false := by rw [World.frozen?_setCell]; exact r4
        clear HF
        go_enter Try.func33, Try.ntmps33
        go_wp2
        go_ret
        obtain ⟨g1, g2⟩ := H.out.set hR 2 (.int .i64 (fu - 1))
        obtain ⟨g3, g4⟩ := g1.set hR 4 (.int .i64 (dn + 1))
        rw [HE.out, ← HA.out]
        exact ⟨rfl, f, g3, g2.trans g4⟩
      · have HA : Hid ({ S with done := dn + 1 } = S.after) := by show _ = _; unfold RS.after; rw [if_pos HE.out, EF.out, ED.out, if_neg h1]
        clear HF
        go_enter Try.func33, Try.ntmps33
        go_wp2
        go_ret
        obtain ⟨g1, g2⟩ := H.out.set hR 4 (.int .i64 (dn + 1))
        rw [HE.out, ← HA.out]
        exact ⟨rfl, f, g1, g2⟩

/-- Which disk. -/
theorem RS.has_dev {dev i : Int} (h : S.has dev i = true) : (dev = 0 ∨ dev = 1) ∧ ∃ k : Nat, i = (k : Int) ∧ k < S.len dev := RS.has_lt h
theorem RigQ.putOf (h : RigQ rq q0 q1 S w f) {dev i : Int} {b : List Value} (hi : S.has dev i = true) (hb : IsBlk b) (hm : S.Few 255) :
    Calls Try.prog 34 #[.pointer (some ⟨dsk q0 q1 dev.toNat, 0, none⟩), .int .i64 i, .agg b.toArray] w fun e w' => e = .returned (.tuple #[]) ∧ ∃ f', RigQ rq q0 q1 (S.put dev i.toNat b) w' f' ∧ Turn f f' w w' := by
  obtain ⟨hd, k, rfl, hk⟩ := RS.has_lt hi
  have hadd : ∀ s : Sec, s.vs.length ≤ 255 → (⟨s.c, s.vs ++ [b]⟩ : Sec) = s.add b := fun s hs => by unfold Sec.add; rw [if_neg (by omega)]
  rcases hd with rfl | rfl
  · have hk' : k < S.n0 := hk
    refine Sep.second (R := fun e _ => e = .returned (.tuple #[])) (RowR.isRes _ _ _) (S.disks2_isRes q0 q1) h (Q' := (S.put 0 k b).disks2 q0 q1) fun f2 h2 => ?_
    refine Sep.first (R := fun e _ => e = .returned (.tuple #[])) (RefD.isRes _ _ _) (RefD.isRes _ _ _) h2 fun f3 h3 => ?_
    refine (refWrite q0 S.n0 k f3 S.D0 b w h3.1 hk' hb (by have := hm.1 k hk'; omega)).mono ?_
    rintro e w' ⟨rfl, f', g1, g2⟩
    rw [hadd _ (hm.1 k hk')] at g1
    exact ⟨rfl, f', ⟨g1, h3.2⟩, g2⟩
  · have hk' : k < S.n1 := hk
    refine Sep.second (R := fun e _ => e = .returned (.tuple #[])) (RowR.isRes _ _ _) (S.disks2_isRes q0 q1) h (Q' := (S.put 1 k b).disks2 q0 q1) fun f2 h2 => ?_
    refine Sep.second (R := fun e _ => e = .returned (.tuple #[])) (RefD.isRes _ _ _) (RefD.isRes _ _ _) h2 fun f3 h3 => ?_
    refine (refWrite q1 S.n1 k f3 S.D1 b w h3.1 hk' hb (by have := hm.2 k hk'; omega)).mono ?_
    rintro e w' ⟨rfl, f', g1, g2⟩
    rw [hadd _ (hm.2 k hk')] at g1
    exact ⟨rfl, f', ⟨g1, h3.2⟩, g2⟩
theorem RigQ.flOf (h : RigQ rq q0 q1 S w f) {dev : Int} (hd : dev = 0 ∨ dev = 1) :
    Calls Try.prog 38 #[.pointer (some ⟨dsk q0 q1 dev.toNat, 0, none⟩)] w fun e w' => e = .returned (.tuple #[]) ∧ ∃ f', RigQ rq q0 q1 (S.fl dev) w' f' ∧ Turn f f' w w' := by
  rcases hd with rfl | rfl
  · refine Sep.second (R := fun e _ => e = .returned (.tuple #[])) (RowR.isRes _ _ _) (S.disks2_isRes q0 q1) h (Q' := (S.fl 0).disks2 q0 q1) fun f2 h2 => ?_
    refine Sep.first (R := fun e _ => e = .returned (.tuple #[])) (RefD.isRes _ _ _) (RefD.isRes _ _ _) h2 fun f3 h3 => ?_
    refine (refFlush q0 S.n0 f3 S.D0 w h3.1).mono ?_
    rintro e w' ⟨rfl, f', g1, g2⟩
    exact ⟨rfl, f', ⟨g1, h3.2⟩, g2⟩
  · refine Sep.second (R := fun e _ => e = .returned (.tuple #[])) (RowR.isRes _ _ _) (S.disks2_isRes q0 q1) h (Q' := (S.fl 1).disks2 q0 q1) fun f2 h2 => ?_
    refine Sep.second (R := fun e _ => e = .returned (.tuple #[])) (RefD.isRes _ _ _) (RefD.isRes _ _ _) h2 fun f3 h3 => ?_
    refine (refFlush q1 S.n1 f3 S.D1 w h3.1).mono ?_
    rintro e w' ⟨rfl, f', g1, g2⟩
    exact ⟨rfl, f', ⟨g1, h3.2⟩, g2⟩
theorem RigQ.readOf (h : RigQ rq q0 q1 S w f) {dev i : Int} (hi : S.has dev i = true) :
    Calls Try.prog 36 #[.pointer (some ⟨dsk q0 q1 dev.toNat, 0, none⟩), .int .i64 i] w fun e w' => e = .returned (.agg (S.look dev i.toNat).toArray) ∧ Below w.heap.size w w' := by
  obtain ⟨hd, k, rfl, hk⟩ := RS.has_lt hi
  rcases hd with rfl | rfl
  · obtain ⟨g, h1, _⟩ := h.d0; exact refRead q0 S.n0 k g S.D0 w h1 hk
  · obtain ⟨g, h1, _⟩ := h.d1; exact refRead q1 S.n1 k g S.D1 w h1 hk
theorem RigQ.okLook (h : RigQ rq q0 q1 S w f) {dev i : Int} (hi : S.has dev i = true) : IsBlk (S.look dev i.toNat) := by
  obtain ⟨hd, k, rfl, hk⟩ := RS.has_lt hi
  rcases hd with rfl | rfl
  · obtain ⟨g, ⟨ss, vb, sv, h1, rfl⟩, _⟩ := h.d0; exact (h1.ok k hk).look
  · obtain ⟨g, ⟨ss, vb, sv, h1, rfl⟩, _⟩ := h.d1; exact (h1.ok k hk).look
end
end Go.Proofs.Ytompbjdhdjafgaa
