/- A rig in memory; which disk it has; one more goes through. -/
import Derived.Test.YtompbjdhdjafgaaRes
namespace Go.Proofs.Ytompbjdhdjafgaa
open Go.RowKit Go.Shelf
set_option linter.unusedVariables false
attribute [-simp] Try.isAgg38 Try.zeroValue38
attribute [-go_sem] loadVar storeVar
attribute [local go_sem] zero_blk build_blk loadVar_open storeVar_open
attribute [local go_sem] Oper.semAt_some

/-- What a rig holds. -/
structure RS where
  n0 : Nat
  n1 : Nat
  D0 : Nat → Sec
  D1 : Nat → Sec
  fuse : Int
  down : Bool
  done : Int

/-- Where its disks are. -/
def RS.head (p0 p1 : Nat) (S : RS) : Array Value := #[.pointer (some ⟨p0, 0, none⟩), .pointer (some ⟨p1, 0, none⟩), .int .i64 S.fuse, .bool S.down, .int .i64 S.done]
def RS.disks (p0 p1 : Nat) (S : RS) : Res := Sep (DskR p0 S.n0 S.D0) (DskR p1 S.n1 S.D1)
theorem RS.disks_isRes (p0 p1 : Nat) (S : RS) : IsRes (S.disks p0 p1) := (DskR.isRes _ _ _).sep (DskR.isRes _ _ _)
/-- A rig at block rb. -/
def RigR (rb p0 p1 : Nat) (S : RS) : Res := Sep (RowR rb (S.head p0 p1) 67) (S.disks p0 p1)
theorem RigR.isRes (rb p0 p1 : Nat) (S : RS) : IsRes (RigR rb p0 p1 S) := (RowR.isRes _ _ _).sep (S.disks_isRes p0 p1)

/-- Does one more go through? What it is then. -/
def RS.ok (S : RS) : Bool := !S.down && decide (S.fuse ≠ 0)
def RS.after (S : RS) : RS := if S.ok = true then { S with fuse := if 0 < S.fuse then S.fuse - 1 else S.fuse, done := S.done + 1 } else { S with down := true }
structure RS.Fit (S : RS) : Prop where
  fuse : 0 < S.fuse → wrap64 (S.fuse - 1) = S.fuse - 1
  done : wrap64 (S.done + 1) = S.done + 1

set_option maxRecDepth 100000 in
set_option maxHeartbeats 2000000 in
/-- **passes**. -/
theorem passes_at (rb p0 p1 : Nat) (S : RS) (f : Nat → Prop) (w : World) (h : RigR rb p0 p1 S w f) (hS : S.Fit) :
    Calls Try.prog 30 #[.pointer (some ⟨rb, 0, none⟩)] w fun e w' => e = .returned (.bool S.ok) ∧ ∃ f', RigR rb p0 p1 S.after w' f' ∧ Turn f f' w w' := by
  have hR := S.disks_isRes p0 p1
  have c2 : w.cell? ⟨rb, 2, none⟩ = some (.int .i64 S.fuse) := h.cell 2
  have c3 : w.cell? ⟨rb, 3, none⟩ = some (.bool S.down) := h.cell 3
  have c4 : w.cell? ⟨rb, 4, none⟩ = some (.int .i64 S.done) := h.cell 4
  have r2 := h.frozen 2
  have r3 := h.frozen 3
  have r4 := h.frozen 4
  have HF := Lib.hid hS.fuse
  have HD := hS.done
  have H := Lib.hid h
  obtain ⟨fu, hfu⟩ : ∃ x, S.fuse = x := ⟨_, rfl⟩
  obtain ⟨dn, hdn⟩ : ∃ x, S.done = x := ⟨_, rfl⟩
  obtain ⟨dw, hdw⟩ : ∃ x, S.down = x := ⟨_, rfl⟩
  have EF := Lib.hid hfu
  have ED := Lib.hid hdn
  have EW := Lib.hid hdw
  rw [hfu] at c2 HF
  rw [hdn] at c4 HD
  rw [hdw] at c3
  clear h hS hfu hdn hdw
  by_cases h0 : fu = 0
  · subst h0
    have HE : Hid (S.ok = false) := by show _ = _; simp [RS.ok, EF.out]
    have HA : Hid ({ S with down := true } = S.after) := by show _ = _; unfold RS.after; rw [if_neg (by rw [HE.out]; simp)]
    go_enter Try.func30, Try.ntmps30
    go_wp2
    go_ret
    obtain ⟨g1, g2⟩ := H.out.set hR 3 (.bool true)
    rw [HE.out, ← HA.out]
    exact ⟨rfl, f, g1, g2⟩
  · have q0 : (fu == 0) = false := by simpa using h0
    cases dw with
    | true =>
      have HE : Hid (S.ok = false) := by show _ = _; simp [RS.ok, EW.out]
      have HA : Hid (S = S.after) := by show _ = _; unfold RS.after; rw [if_neg (by rw [HE.out]; simp)]; cases S; simp at *; exact EW.out
      go_enter Try.func30, Try.ntmps30
      go_wp2
      go_ret
      rw [HE.out, ← HA.out]
      exact ⟨rfl, f, H.out, Turn.refl _ _⟩
    | false =>
      have HE : Hid (S.ok = true) := by show _ = _; simp [RS.ok, EW.out, EF.out, h0]
      by_cases h1 : 0 < fu
      · have HA : Hid ({ S with fuse := fu - 1, done := dn + 1 } = S.after) := by show _ = _; unfold RS.after; rw [if_pos HE.out, EF.out, ED.out, if_pos h1]
        have HF1 := HF.out h1
        have r2' : (w.setCell ⟨rb, 2, none⟩ (.int .i64 (fu - 1))).frozen? ⟨rb, 4, none⟩ = false := by rw [World.frozen?_setCell]; exact r4
        clear HF
        go_enter Try.func30, Try.ntmps30
        go_wp2
        go_ret
        obtain ⟨g1, g2⟩ := H.out.set hR 2 (.int .i64 (fu - 1))
        obtain ⟨g3, g4⟩ := g1.set hR 4 (.int .i64 (dn + 1))
        rw [HE.out, ← HA.out]
        exact ⟨rfl, f, g3, g2.trans g4⟩
      · have HA : Hid ({ S with done := dn + 1 } = S.after) := by show _ = _; unfold RS.after; rw [if_pos HE.out, EF.out, ED.out, if_neg h1]
        clear HF
        go_enter Try.func30, Try.ntmps30
        go_wp2
        go_ret
        obtain ⟨g1, g2⟩ := H.out.set hR 4 (.int .i64 (dn + 1))
        rw [HE.out, ← HA.out]
        exact ⟨rfl, f, g1, g2⟩
end Go.Proofs.Ytompbjdhdjafgaa
