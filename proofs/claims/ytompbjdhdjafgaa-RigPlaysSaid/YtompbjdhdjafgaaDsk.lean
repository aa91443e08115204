/- A disk in memory; New, Len, has, Read, Write. -/
import Derived.RangeFuncBox
import Derived.Test.YtompbjdhdjafgaaAdd
namespace Go.Proofs.Ytompbjdhdjafgaa
open Go.RowKit
set_option linter.unusedVariables false
attribute [-simp] Try.isAgg38 Try.zeroValue38
attribute [-go_sem] loadVar storeVar
attribute [local go_sem] zero_blk build_blk loadVar_open storeVar_open

/-- The blocks of a disk. -/
def foot (rb sb n : Nat) (sv : Nat → Value) (k : Nat) : Prop := k = rb ∨ k = sb ∨ ∃ i, i < n ∧ (sv i).ownBlock = some k

structure DskAt (w : World) (rb sb n : Nat) (sv : Nat → Value) (D : Nat → Sec) : Prop where
  head : Boxed w rb 85 (.slice (some ⟨sb, 0, none⟩) n n)
  ne : rb ≠ sb
  max : n ≤ 4096
  secs : ∀ i, i < n → SecAt w 0 sb (i * 65) (D i) (sv i)
  far : ∀ i, i < n → (sv i).ownBlock ≠ some rb
  apart : ∀ i j, i < n → j < n → i ≠ j → ∀ k, (sv i).ownBlock = some k → (sv j).ownBlock ≠ some k

/-- A disk at block rb; f: its blocks. -/
def Disk (w : World) (rb n : Nat) (f : Nat → Prop) (D : Nat → Sec) : Prop := ∃ sb sv, DskAt w rb sb n sv D ∧ f = foot rb sb n sv

/-- No more has turned than the blocks f, and what is new; f' is made of f and of what is new. -/
structure Turn (f f' : Nat → Prop) (w w' : World) : Prop where
  still : w'.os = w.os ∧ w'.tape = w.tape ∧ w'.output = w.output
  others : KeepsOthers w w'
  out : ∀ k, k < w.heap.size → ¬ f k → w'.heap[k]? = w.heap[k]?
  new : ∀ k, f' k → f k ∨ w.heap.size ≤ k

theorem Turn.size {f f' : Nat → Prop} {w w' : World} (h : Turn f f' w w') : w.heap.size ≤ w'.heap.size := h.others.size
theorem Turn.refl (f : Nat → Prop) (w : World) : Turn f f w w := ⟨⟨rfl, rfl, rfl⟩, KeepsOthers.refl w, fun _ _ _ => rfl, fun k h => .inl h⟩
theorem Turn.trans {f f' f'' : Nat → Prop} {a b c : World} (h : Turn f f' a b) (k : Turn f' f'' b c) : Turn f f'' a c :=
  ⟨still_trans h.still k.still, h.others.trans k.others, fun i hi hn => (k.out i (Nat.lt_of_lt_of_le hi h.size) (fun hf => (h.new i hf).elim hn (fun h' => absurd h' (Nat.not_le.2 hi)))).trans (h.out i hi hn),
    fun i hi => (k.new i hi).elim (h.new i) (fun h' => .inr (Nat.le_trans h.size h'))⟩

theorem SecAt.kept {w w' : World} {N sb o : Nat} {s : Sec} {v : Value} (h : SecAt w N sb o s v) (h1 : w'.heap[sb]? = w.heap[sb]?) (h2 : ∀ g, v.ownBlock = some g → w'.heap[g]? = w.heap[g]?) : SecAt w' N sb o s v := by
  refine ⟨h.ok, fun j x hx => (World.cell?_of_block (a := ⟨sb, o + j, none⟩) h1).trans (h.cont j x hx), (World.cell?_of_block (a := ⟨sb, o + 64, none⟩) h1).trans h.ver,
    fun j hj => ⟨by rw [World.cell?_of_block (a := ⟨sb, o + j, none⟩) h1]; exact (h.there j hj).1, by rw [World.frozen?_of_block (a := ⟨sb, o + j, none⟩) h1]; exact (h.there j hj).2⟩, ⟨h.row.1, ?_⟩, h.apart⟩
  rcases h.row.2 with h' | ⟨g, cap, cur, rfl, a1, a2, a3⟩
  · exact .inl h'
  · exact .inr ⟨g, cap, cur, rfl, a1, (h2 g rfl).trans a2, a3⟩

theorem DskAt.kept {w w' : World} {rb sb n : Nat} {sv : Nat → Value} {D : Nat → Sec} (h : DskAt w rb sb n sv D) (hk : ∀ k, foot rb sb n sv k → w'.heap[k]? = w.heap[k]?) : DskAt w' rb sb n sv D :=
  ⟨(hk rb (.inl rfl)).trans h.head, h.ne, h.max, fun i hi => (h.secs i hi).kept (hk sb (.inr (.inl rfl))) (fun g hg => hk g (.inr (.inr ⟨i, hi, hg⟩))), h.far, h.apart⟩

theorem DskAt.lt {w : World} {rb sb n : Nat} {sv : Nat → Value} {D : Nat → Sec} (h : DskAt w rb sb n sv D) (hn : 0 < n) {k : Nat} (hk : foot rb sb n sv k) : k < w.heap.size := by
  rcases hk with rfl | rfl | ⟨i, hi, hk⟩
  · exact h.head.lt
  · exact (h.secs 0 hn).lt
  · exact ((h.secs i hi).row.lt k hk).2

theorem DskAt.isCells {w : World} {rb sb n : Nat} {sv : Nat → Value} {D : Nat → Sec} (h : DskAt w rb sb n sv D) (hn : 0 < n) {k : Nat} (hk : foot rb sb n sv k) {ob : Obj} (ho : w.heap[k]? = some ob) : ob.isCells = true := by
  rcases hk with rfl | rfl | ⟨i, hi, hk⟩
  · rw [show w.heap[k]? = _ from h.head] at ho; cases ho; rfl
  · have := (h.secs 0 hn).ver
    obtain ⟨o, h1, h2⟩ := cells_of_cell this
    rw [h1] at ho; cases ho; exact h2
  · exact ownBlock_cells (h.secs i hi).row k ob hk ho

/-- One sector is turned. -/
theorem DskAt.step {w w' : World} {rb sb n i : Nat} {sv : Nat → Value} {D : Nat → Sec} {s' : Sec} {v' : Value} (h : DskAt w rb sb n sv D) (hi : i < n) (hs : Step w w' sb (i * 65) (sv i)) (hs' : SecAt w' 0 sb (i * 65) s' v')
    (hv : v'.ownBlock = none ∨ v'.ownBlock = (sv i).ownBlock ∨ ∃ k, v'.ownBlock = some k ∧ w.heap.size ≤ k) : DskAt w' rb sb n (upd sv i v') (upd D i s') := by
  have hlt : ∀ j, j < n → ∀ k, (sv j).ownBlock = some k → k < w.heap.size := fun j hj k hk => ((h.secs j hj).row.lt k hk).2
  have hfar : ∀ j, j < n → (upd sv i v' j).ownBlock ≠ some rb := fun j hj => by
    by_cases e : j = i
    · subst e
      rw [upd_same]
      rcases hv with e | e | ⟨k, e, hk⟩ <;> rw [e]
      · simp
      · exact h.far j hj
      · have := h.head.lt; simp; omega
    · rw [upd_other _ _ e]; exact h.far j hj
  refine ⟨(hs.blocks rb h.head.lt h.ne (fun e => h.far i hi e.symm)).trans h.head, h.ne, h.max, fun j hj => ?_, hfar, fun a b ha hb hab k hka hkb => ?_⟩
  · by_cases e : j = i
    · subst e; rw [upd_same, upd_same]; exact hs'
    · rw [upd_other _ _ e, upd_other _ _ e]
      have hj' := h.secs j hj
      have hr : j * 65 + 65 ≤ i * 65 ∨ i * 65 + 65 ≤ j * 65 := by omega
      refine ⟨hj'.ok, fun m x hx => ?_, (hs.cells _ (by omega)).trans hj'.ver, hs.there _ _ hj'.there, ⟨hj'.row.1, ?_⟩, hj'.apart⟩
      · have hm : m < 64 := by have := (List.getElem?_eq_some_iff.1 hx).1; rw [hj'.ok.1.length] at this; exact this
        exact (hs.cells _ (by omega)).trans (hj'.cont m x hx)
      · rcases hj'.row.2 with h' | ⟨g, cap, cur, hg, a1, a2, a3⟩
        · exact .inl h'
        · refine .inr ⟨g, cap, cur, hg, a1, ?_, a3⟩
          have hg' : (sv j).ownBlock = some g := by rw [hg]; rfl
          rw [hs.blocks g (hlt j hj g hg') (fun e' => hj'.apart (by rw [hg', e'])) (fun e' => h.apart j i hj hi e g hg' e'.symm)]
          exact a2
  · have key : ∀ j, j < n → j ≠ i → ∀ k, v'.ownBlock = some k → (sv j).ownBlock ≠ some k := fun j hj hji k hk hk' => by
      rcases hv with e | e | ⟨k', e, hk2⟩
      · rw [e] at hk; cases hk
      · rw [e] at hk; exact h.apart j i hj hi hji k hk' hk
      · rw [e] at hk; cases hk; have := hlt j hj _ hk'; omega
    by_cases e1 : a = i
    · by_cases e2 : b = i
      · omega
      · subst e1
        rw [upd_same] at hka
        rw [upd_other _ _ e2] at hkb
        exact key b hb e2 k hka hkb
    · rw [upd_other _ _ e1] at hka
      by_cases e2 : b = i
      · subst e2
        rw [upd_same] at hkb
        exact key a ha e1 k hkb hka
      · rw [upd_other _ _ e2] at hkb
        exact h.apart a b ha hb hab k hka hkb

theorem DskAt.turn {w w' : World} {rb sb n i : Nat} {sv : Nat → Value} {D : Nat → Sec} {v' : Value} (h : DskAt w rb sb n sv D) (hi : i < n) (hs : Step w w' sb (i * 65) (sv i))
    (hv : v'.ownBlock = none ∨ v'.ownBlock = (sv i).ownBlock ∨ ∃ k, v'.ownBlock = some k ∧ w.heap.size ≤ k) : Turn (foot rb sb n sv) (foot rb sb n (upd sv i v')) w w' := by
  refine ⟨hs.still, hs.others, fun k hk hn => hs.blocks k hk (fun e => hn (.inr (.inl e))) (fun e => hn (.inr (.inr ⟨i, hi, e.symm⟩))), fun k hk => ?_⟩
  rcases hk with rfl | rfl | ⟨j, hj, hk⟩
  · exact .inl (.inl rfl)
  · exact .inl (.inr (.inl rfl))
  · by_cases e : j = i
    · subst e
      rw [upd_same] at hk
      rcases hv with e | e | ⟨k', e, hk2⟩
      · rw [e] at hk; cases hk
      · rw [e] at hk; exact .inl (.inr (.inr ⟨j, hj, hk⟩))
      · rw [e] at hk; cases hk; exact .inr hk2
    · rw [upd_other _ _ e] at hk
      exact .inl (.inr (.inr ⟨j, hj, hk⟩))

/-- What turns elsewhere does not touch it. -/
theorem Disk.out {w w' : World} {rb n : Nat} {f : Nat → Prop} {D : Nat → Sec} (h : Disk w rb n f D) (hk : ∀ k, f k → w'.heap[k]? = w.heap[k]?) : Disk w' rb n f D := by
  obtain ⟨sb, sv, h, rfl⟩ := h
  exact ⟨sb, sv, h.kept hk, rfl⟩
theorem Disk.lt {w : World} {rb n : Nat} {f : Nat → Prop} {D : Nat → Sec} (h : Disk w rb n f D) (hn : 0 < n) : ∀ k, f k → k < w.heap.size := by
  obtain ⟨sb, sv, h, rfl⟩ := h
  exact fun k hk => h.lt hn hk
theorem Disk.below {w w' : World} {rb n : Nat} {f : Nat → Prop} {D : Nat → Sec} (h : Disk w rb n f D) (hn : 0 < n) (hb : Below w.heap.size w w') : Disk w' rb n f D :=
  h.out fun k hk => hb.block k (h.lt hn k hk)
theorem Disk.max {w : World} {rb n : Nat} {f : Nat → Prop} {D : Nat → Sec} (h : Disk w rb n f D) : n ≤ 4096 := by obtain ⟨sb, sv, h, rfl⟩ := h; exact h.max
theorem Disk.ok {w : World} {rb n : Nat} {f : Nat → Prop} {D : Nat → Sec} (h : Disk w rb n f D) {i : Nat} (hi : i < n) : (D i).Ok := by obtain ⟨sb, sv, h, rfl⟩ := h; exact (h.secs i hi).ok

set_option maxRecDepth 100000 in
set_option maxHeartbeats 1000000 in
theorem len_at (rb n : Nat) (f : Nat → Prop) (D : Nat → Sec) (w : World) (h : Disk w rb n f D) :
    Calls Try.prog 42 #[.pointer (some ⟨rb, 0, none⟩)] w fun e w' => e = .returned (.int .i64 (n : Int)) ∧ w' = w := by
  obtain ⟨sb, sv, h, rfl⟩ := h
  have c1 := h.head.cell
  clear h
  go_enter Try.func42, Try.ntmps42
  go_wp2
  go_ret
  exact ⟨rfl, rfl⟩

set_option maxRecDepth 100000 in
set_option maxHeartbeats 1000000 in
theorem len_nil (w : World) :
    Calls Try.prog 42 #[.pointer none] w fun e w' => e = .returned (.int .i64 0) ∧ w' = w := by
  go_enter Try.func42, Try.ntmps42
  go_wp2
  go_ret
  exact ⟨rfl, rfl⟩

set_option maxRecDepth 100000 in
set_option maxHeartbeats 1000000 in
theorem has_of (p : Option Addr) (n : Nat) (i : Int) (w : World) (hl : Calls Try.prog 42 #[.pointer p] w fun e w' => e = .returned (.int .i64 (n : Int)) ∧ w' = w) :
    Calls Try.prog 43 #[.pointer p, .int .i64 i] w fun e w' => e = .returned (.bool (decide (0 ≤ i ∧ i < (n : Int)))) ∧ w' = w := by
  have HL := Lib.hid hl
  clear hl
  by_cases h0 : 0 ≤ i
  · have g0 : decide (0 ≤ i) = true := by simpa using h0
    have HE : Hid (decide (i < (n : Int)) = decide (0 ≤ i ∧ i < (n : Int))) := by show _ = _; simp [h0]
    go_enter Try.func43, Try.ntmps43
    go_wp2_with fail
    refine HL.out.mono ?_
    rintro e w' ⟨rfl, rfl⟩
    go_wp2_with fail
    go_ret
    exact ⟨by rw [← HE.out]; rfl, rfl⟩
  · have g0 : decide (0 ≤ i) = false := by simpa using h0
    have HE : Hid (false = decide (0 ≤ i ∧ i < (n : Int))) := by show _ = _; simp [h0]
    go_enter Try.func43, Try.ntmps43
    go_wp2_with fail
    go_ret
    exact ⟨rfl, rfl⟩
end Go.Proofs.Ytompbjdhdjafgaa
