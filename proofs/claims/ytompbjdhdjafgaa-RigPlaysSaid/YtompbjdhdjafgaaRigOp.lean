/- What a rig's methods come to. -/
import Derived.Test.YtompbjdhdjafgaaRigDk
import Derived.Test.YtompbjdhdjafgaaRefFl
namespace Go.Proofs.Ytompbjdhdjafgaa
open Go.RowKit Go.Shelf
set_option linter.unusedVariables false
attribute [-simp] Try.isAgg38 Try.zeroValue38
attribute [-go_sem] loadVar storeVar
attribute [local go_sem] zero_blk build_blk loadVar_open storeVar_open

/-- How many sectors; which there are; what one yields. -/
def RS.len (S : RS) (dev : Int) : Nat := if dev = 0 then S.n0 else if dev = 1 then S.n1 else 0
def RS.has (S : RS) (dev i : Int) : Bool := decide (0 ≤ i ∧ i < (S.len dev : Int))
def RS.look (S : RS) (dev : Int) (i : Nat) : List Value := if dev = 0 then (S.D0 i).look else (S.D1 i).look
/-- One version more; all flushed; a crash. -/
def RS.put (S : RS) (dev : Int) (i : Nat) (b : List Value) : RS := if dev = 0 then { S with D0 := upd S.D0 i ((S.D0 i).add b) } else { S with D1 := upd S.D1 i ((S.D1 i).add b) }
def RS.fl (S : RS) (dev : Int) : RS := if dev = 0 then { S with D0 := flTo S.D0 S.n0 } else { S with D1 := flTo S.D1 S.n1 }
noncomputable def RS.crash (S : RS) (b0 b1 : List Int) : RS := { S with D0 := settled S.D0 (crashG S.D0 b0) (looseTo S.D0 S.n0), D1 := settled S.D1 (crashG S.D1 b1) (looseTo S.D1 S.n1), fuse := -1, down := false }
def RS.read (S : RS) (dev i : Int) : List Value := if S.has dev i = true ∧ S.down = false then S.look dev i.toNat else fillB 0
def RS.readE (S : RS) (dev i : Int) : Int := if S.has dev i = true then (if S.down = true then 14 else 0) else 1
def RS.write (S : RS) (dev i : Int) (b : List Value) : RS := if S.has dev i = true then (if S.ok = true then S.after.put dev i.toNat b else S.after) else S
def RS.writeE (S : RS) (dev i : Int) : Int := if S.has dev i = true then (if S.ok = true then 0 else 14) else 1
def RS.flush (S : RS) (dev : Int) : RS := if dev = 0 ∨ dev = 1 then (if S.ok = true then S.after.fl dev else S.after) else S
def RS.flushE (S : RS) (dev : Int) : Int := if dev = 0 ∨ dev = 1 then (if S.ok = true then 0 else 14) else 1

theorem RS.after_same (S : RS) : S.after.n0 = S.n0 ∧ S.after.n1 = S.n1 ∧ S.after.D0 = S.D0 ∧ S.after.D1 = S.D1 := by unfold RS.after; split <;> exact ⟨rfl, rfl, rfl, rfl⟩
theorem RS.after_len (S : RS) (dev : Int) : S.after.len dev = S.len dev := by unfold RS.len; rw [S.after_same.1, S.after_same.2.1]

section
variable {rb p0 p1 : Nat} {S : RS} {w : World} {f : Nat → Prop}
theorem RigR.d0 (h : RigR rb p0 p1 S w f) : ∃ g, Disk w p0 S.n0 g S.D0 ∧ 0 < S.n0 := by
  obtain ⟨f1, f2, _, ⟨f3, f4, h1, h2, _⟩, _⟩ := h
  exact ⟨f3, h1⟩
theorem RigR.d1 (h : RigR rb p0 p1 S w f) : ∃ g, Disk w p1 S.n1 g S.D1 ∧ 0 < S.n1 := by
  obtain ⟨f1, f2, _, ⟨f3, f4, h1, h2, _⟩, _⟩ := h
  exact ⟨f4, h2⟩
theorem RigR.rb_lt (h : RigR rb p0 p1 S w f) : rb < w.heap.size := by
  obtain ⟨f1, f2, ⟨h1, _⟩, _⟩ := h
  exact (Array.getElem?_eq_some_iff.1 h1).1
theorem dk_cases (p0 p1 : Nat) (dev : Int) : (dev = 0 ∧ dk p0 p1 dev = some ⟨p0, 0, none⟩) ∨ (dev = 1 ∧ dk p0 p1 dev = some ⟨p1, 0, none⟩) ∨ (dev ≠ 0 ∧ dev ≠ 1 ∧ dk p0 p1 dev = none) := by
  by_cases h0 : dev = 0
  · exact .inl ⟨h0, by rw [h0]; rfl⟩
  · by_cases h1 : dev = 1
    · exact .inr (.inl ⟨h1, by rw [h1]; rfl⟩)
    · exact .inr (.inr ⟨h0, h1, by unfold dk; rw [if_neg h0, if_neg h1]⟩)

theorem RigR.disk (h : RigR rb p0 p1 S w f) (dev : Int) :
    Calls Try.prog 28 #[.pointer (some ⟨rb, 0, none⟩), .int .i64 dev] w fun e w' => e = .returned (.pointer (dk p0 p1 dev)) ∧ Below w.heap.size w w' :=
  disk_in rb p0 p1 dev w h.rb_lt (h.cell 0) (h.cell 1)
theorem RigR.lenOf (h : RigR rb p0 p1 S w f) (dev : Int) :
    Calls Try.prog 42 #[.pointer (dk p0 p1 dev)] w fun e w' => e = .returned (.int .i64 (S.len dev : Int)) ∧ w' = w := by
  rcases dk_cases p0 p1 dev with ⟨rfl, e⟩ | ⟨rfl, e⟩ | ⟨e0, e1, e⟩ <;> rw [e]
  · obtain ⟨g, h1, _⟩ := h.d0; exact len_at p0 S.n0 g S.D0 w h1
  · obtain ⟨g, h1, _⟩ := h.d1; exact len_at p1 S.n1 g S.D1 w h1
  · have : S.len dev = 0 := by unfold RS.len; rw [if_neg e0, if_neg e1]
    rw [this]; exact len_nil w
theorem RigR.hasOf (h : RigR rb p0 p1 S w f) (dev i : Int) :
    Calls Try.prog 29 #[.pointer (dk p0 p1 dev), .int .i64 i] w fun e w' => e = .returned (.bool (S.has dev i)) ∧ w' = w :=
  has_rig _ _ i w (h.lenOf dev)
theorem RS.has_lt {dev i : Int} (h : S.has dev i = true) : (dev = 0 ∨ dev = 1) ∧ ∃ k : Nat, i = (k : Int) ∧ k < S.len dev := by
  unfold RS.has at h
  have h := of_decide_eq_true h
  obtain ⟨k, rfl⟩ := Int.eq_ofNat_of_zero_le h.1
  refine ⟨?_, k, rfl, by omega⟩
  by_cases h0 : dev = 0
  · exact .inl h0
  · by_cases h1 : dev = 1
    · exact .inr h1
    · have : S.len dev = 0 := by unfold RS.len; rw [if_neg h0, if_neg h1]
      omega
/-- The disks' own methods, at a rig. -/
theorem RigR.readOf (h : RigR rb p0 p1 S w f) {dev i : Int} (hi : S.has dev i = true) :
    Calls Try.prog 35 #[.pointer (dk p0 p1 dev), .int .i64 i] w fun e w' => e = .returned (.tuple #[.agg (S.look dev i.toNat).toArray, .int .i64 0]) ∧ Below w.heap.size w w' := by
  obtain ⟨hd, k, rfl, hk⟩ := RS.has_lt hi
  rcases hd with rfl | rfl
  · obtain ⟨g, h1, _⟩ := h.d0; exact read_yes p0 S.n0 k g S.D0 w h1 hk
  · obtain ⟨g, h1, _⟩ := h.d1; exact read_yes p1 S.n1 k g S.D1 w h1 hk
theorem RigR.okLook (h : RigR rb p0 p1 S w f) {dev i : Int} (hi : S.has dev i = true) : IsBlk (S.look dev i.toNat) := by
  obtain ⟨hd, k, rfl, hk⟩ := RS.has_lt hi
  rcases hd with rfl | rfl
  · obtain ⟨g, h1, _⟩ := h.d0; exact (h1.ok hk).look
  · obtain ⟨g, h1, _⟩ := h.d1; exact (h1.ok hk).look
/-- No sector has more versions than that. -/
def RS.Few (S : RS) (m : Nat) : Prop := (∀ i, i < S.n0 → (S.D0 i).vs.length ≤ m) ∧ (∀ i, i < S.n1 → (S.D1 i).vs.length ≤ m)
theorem RS.Few.mono {m m' : Nat} (h : S.Few m) (hm : m ≤ m') : S.Few m' := ⟨fun i hi => Nat.le_trans (h.1 i hi) hm, fun i hi => Nat.le_trans (h.2 i hi) hm⟩
theorem RS.after_few {m : Nat} (h : S.Few m) : S.after.Few m := by
  unfold RS.after
  split <;> exact h
theorem RigR.putOf (h : RigR rb p0 p1 S w f) {dev i : Int} {b : List Value} (hi : S.has dev i = true) (hb : IsBlk b) (hm : S.Few 255) :
    Calls Try.prog 31 #[.pointer (dk p0 p1 dev), .int .i64 i, .agg b.toArray] w fun e w' => e = .returned (.int .i64 0) ∧ ∃ f', RigR rb p0 p1 (S.put dev i.toNat b) w' f' ∧ Turn f f' w w' := by
  obtain ⟨hd, k, rfl, hk⟩ := RS.has_lt hi
  rcases hd with rfl | rfl
  · have hk' : k < S.n0 := hk
    refine Sep.second (R := fun e _ => e = .returned (.int .i64 0)) (RowR.isRes _ _ _) (S.disks_isRes p0 p1) h (Q' := (S.put 0 k b).disks p0 p1) fun f2 h2 => ?_
    refine Sep.first (R := fun e _ => e = .returned (.int .i64 0)) (DskR.isRes _ _ _) (DskR.isRes _ _ _) h2 fun f3 h3 => ?_
    refine (write_yes p0 S.n0 k f3 S.D0 b w h3.1 hk' hb (by have := hm.1 k hk'; omega)).mono ?_
    rintro e w' ⟨rfl, f', g1, g2⟩
    exact ⟨rfl, f', ⟨g1, h3.2⟩, g2⟩
  · have hk' : k < S.n1 := hk
    refine Sep.second (R := fun e _ => e = .returned (.int .i64 0)) (RowR.isRes _ _ _) (S.disks_isRes p0 p1) h (Q' := (S.put 1 k b).disks p0 p1) fun f2 h2 => ?_
    refine Sep.second (R := fun e _ => e = .returned (.int .i64 0)) (DskR.isRes _ _ _) (DskR.isRes _ _ _) h2 fun f3 h3 => ?_
    refine (write_yes p1 S.n1 k f3 S.D1 b w h3.1 hk' hb (by have := hm.2 k hk'; omega)).mono ?_
    rintro e w' ⟨rfl, f', g1, g2⟩
    exact ⟨rfl, f', ⟨g1, h3.2⟩, g2⟩
theorem RigR.flOf (h : RigR rb p0 p1 S w f) {dev : Int} (hd : dev = 0 ∨ dev = 1) :
    Calls Try.prog 37 #[.pointer (dk p0 p1 dev)] w fun e w' => e = .returned (.int .i64 0) ∧ ∃ f', RigR rb p0 p1 (S.fl dev) w' f' ∧ Turn f f' w w' := by
  rcases hd with rfl | rfl
  · refine Sep.second (R := fun e _ => e = .returned (.int .i64 0)) (RowR.isRes _ _ _) (S.disks_isRes p0 p1) h (Q' := (S.fl 0).disks p0 p1) fun f2 h2 => ?_
    refine Sep.first (R := fun e _ => e = .returned (.int .i64 0)) (DskR.isRes _ _ _) (DskR.isRes _ _ _) h2 fun f3 h3 => ?_
    refine (flush_at p0 S.n0 f3 S.D0 w h3.1 h3.2).mono ?_
    rintro e w' ⟨rfl, f', g1, g2⟩
    rw [flTo_settled] at g1
    exact ⟨rfl, f', ⟨g1, h3.2⟩, g2⟩
  · refine Sep.second (R := fun e _ => e = .returned (.int .i64 0)) (RowR.isRes _ _ _) (S.disks_isRes p0 p1) h (Q' := (S.fl 1).disks p0 p1) fun f2 h2 => ?_
    refine Sep.second (R := fun e _ => e = .returned (.int .i64 0)) (DskR.isRes _ _ _) (DskR.isRes _ _ _) h2 fun f3 h3 => ?_
    refine (flush_at p1 S.n1 f3 S.D1 w h3.1 h3.2).mono ?_
    rintro e w' ⟨rfl, f', g1, g2⟩
    rw [flTo_settled] at g1
    exact ⟨rfl, f', ⟨g1, h3.2⟩, g2⟩
end
end Go.Proofs.Ytompbjdhdjafgaa
