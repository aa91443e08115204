/- The loose sectors, one by one. -/
import Derived.RangeFuncNested
import Derived.RangeFuncBound
import Derived.RangeFuncCalls
import Derived.RangeFuncLeaves
import Derived.Shelf.Abstract
import Derived.Shelf.RegionOpen
import Derived.OwnWalkIn
import Derived.TacticsInMore
import Derived.LoopNIn
import Derived.LoopIn
import Derived.Test.YtompbjdhdjafgaaNew
import Derived.Test.YtompbjdhdjafgaaOver
namespace Go.Proofs.Ytompbjdhdjafgaa
open Go.RowKit Go.Shelf
set_option linter.unusedVariables false
attribute [-simp] Try.isAgg38 Try.zeroValue38
attribute [-go_sem] loadVar storeVar
attribute [local go_sem] zero_blk build_blk loadVar_open storeVar_open
attribute [local go_sem] Oper.semAt_some

/-- The loose ones below k. -/
def looseTo (D : Nat → Sec) (k : Nat) : List Nat := (List.range k).filter fun i => !(D i).vs.isEmpty
theorem looseTo_yes {D : Nat → Sec} {k : Nat} (h : (D k).vs ≠ []) : looseTo D (k + 1) = looseTo D k ++ [k] := by
  unfold looseTo
  rw [List.range_succ, List.filter_append]
  simp [h]
theorem looseTo_no {D : Nat → Sec} {k : Nat} (h : (D k).vs = []) : looseTo D (k + 1) = looseTo D k := by
  unfold looseTo
  rw [List.range_succ, List.filter_append]
  simp [h]
theorem looseTo_lt {D : Nat → Sec} {k i : Nat} (h : i ∈ looseTo D k) : i < k := by
  have := (List.mem_filter.1 h).1
  simpa using this
theorem looseTo_loose {D : Nat → Sec} {k i : Nat} (h : i ∈ looseTo D k) : (D i).vs ≠ [] := by
  have := (List.mem_filter.1 h).2
  simpa using this
theorem looseTo_prefix (D : Nat → Sec) (k : Nat) : ∀ d, looseTo D k <+: looseTo D (k + d)
  | 0 => List.prefix_refl _
  | d + 1 => by
    refine (looseTo_prefix D k d).trans ?_
    by_cases h : (D (k + d)).vs = []
    · rw [← Nat.add_assoc, looseTo_no h]; exact List.prefix_refl _
    · rw [← Nat.add_assoc, looseTo_yes h]; exact List.prefix_append _ _
theorem mem_looseTo {D : Nat → Sec} {k i : Nat} (hi : i < k) (h : (D i).vs ≠ []) : i ∈ looseTo D k := by
  unfold looseTo
  rw [List.mem_filter]
  exact ⟨by simpa using hi, by simpa using h⟩

theorem looseTo_length (D : Nat → Sec) (k : Nat) : (looseTo D k).length ≤ k := by
  have := List.length_filter_le (fun i => !(D i).vs.isEmpty) (List.range k)
  simpa [looseTo] using this
/-- What comes: the sector's number, and where it stands. -/
def encL (sb : Nat) (i : Nat) : Array Value := #[.int .i64 (i : Int), .pointer (some ⟨sb, i * 65, none⟩)]

/-- Between two rounds: the variable d, and sectors of which those that have not come have as many versions as at first. -/
def LooseR (Bd rb sb n : Nat) (D0 : Nat → Sec) (pre : List Nat) (W : World) : Prop :=
  Boxed W Bd 62 (.pointer (some ⟨rb, 0, none⟩)) ∧ ∃ sv D, DskAt W rb sb n sv D ∧ ∀ i, i < n → i ∉ pre → (D i).vs.length = (D0 i).vs.length
/-- Which one comes. -/
def LooseOk (n : Nat) (D0 : Nat → Sec) (pre : List Nat) (x : Nat) : Prop := ∃ k, k < n ∧ pre = looseTo D0 k ∧ x = k ∧ (D0 k).vs ≠ []

set_option maxRecDepth 100000 in
set_option maxHeartbeats 2000000 in
theorem loose1_in (Bd rb sb n : Nat) (D0 : Nat → Sec) (l : Nat) (J Jx : List Nat → World → Prop) (hR : ∀ pre W, J pre W → LooseR Bd rb sb n D0 pre W)
    (hY : ∀ pre x W, J pre W → LooseOk n D0 pre x → YieldAt Fence.wide 1 Try.prog l (encL sb x) W fun e W' =>
      (e = .returned (.bool true) ∧ J (pre ++ [x]) W') ∨ (e = .returned (.bool false) ∧ Jx (pre ++ [x]) W'))
    (W : World) (h0 : J [] W) :
    CallsIn Fence.wide 2 Try.prog 51 #[.func (.yield l) #[] #[], .pointer (some ⟨Bd, 0, none⟩)] W fun e W' => (∃ v, e = .returned v) ∧
      ((∃ xs, xs = looseTo D0 n ∧ J xs W') ∨ (∃ pre, Jx pre W')) := by
  refine callsIn_of_wp Try.func51 rfl trivial ?_ rfl
  simp only [Try.ntmps51, List.size_toArray, List.length_cons, List.length_nil, Nat.reduceAdd, Nat.reduceSub, Array.replicate_succ, Array.replicate_zero, List.push_toArray, List.append_toArray, List.nil_append, List.cons_append]
  obtain ⟨hbx, sv, D, hd, hD⟩ := hR _ _ h0
  have hbc := hbx.cell
  have HL := Lib.hid (len_at rb n _ D W ⟨sb, sv, hd, rfl⟩)
  clear hbx hd hD
  gi_wp2_with (refine ⟨trivial, ?_⟩; gi_at_call 42; refine (callsIn_wide.2 HL.out).mono ?_; rintro e w' ⟨rfl, rfl⟩)
  clear hbc HL
  gi_loopw [7] (fun i wr => ∃ k : Nat, k ≤ n ∧ i = .int .i64 k ∧ J (looseTo D0 k) wr) (fun i _ => n - (intOf i).toNat)
  case atStart => exact ⟨0, Nat.zero_le _, rfl, h0⟩
  case round =>
    obtain ⟨k, hk, rfl, hJs⟩ := hrel
    by_cases hlt : k < n
    · obtain ⟨hbx, sv, D, hd, hD⟩ := hR _ _ hJs
      have hbc := hbx.cell
      have hhc := hd.head.cell
      have hlen := hD k hlt (fun hm => by have := looseTo_lt hm; omega)
      have hver := (hd.secs k hlt).ver
      obtain ⟨a, cap, hf, -⟩ := (hd.secs k hlt).form
      rw [hf, hlen] at hver
      have hb1 : (k : Int) < (n : Int) := by omega
      have HW : Hid (wrap64 ((k : Int) + 1) = (k : Int) + 1) := IntWalk.wrap64_in _ (by have := hd.max; omega)
      clear hbx hd hD hlen hf
      by_cases hv : (D0 k).vs = []
      · have hz : (D0 k).vs.length = 0 := by rw [hv]; rfl
        rw [hz] at hver
        have hnext := looseTo_no hv
        have HN := Lib.hid hnext
        clear hv hz hnext
        gi_wp2
        refine ⟨fun _ h => (by cases h), ?_⟩
        gi_wp2
        go_roundw
        case rel => exact next_rel (C := fun k => J (looseTo D0 k) wr) HW.out hlt (by rw [HN.out]; exact hJs)
        case measure =>
            exact next_lt HW.out hlt
      · obtain ⟨fn, tmps, assign, body, hy, hYr⟩ := hY _ k wr hJs ⟨k, hlt, rfl, rfl, hv⟩
        dsimp only [encL] at hy
        obtain ⟨m, hm⟩ : ∃ m, (D0 k).vs.length = m := ⟨_, rfl⟩
        have hm0 : (0 : Int) < (m : Int) := by have := List.length_pos_iff.2 hv; omega
        rw [hm] at hver
        have hnext := looseTo_yes hv
        have HN := Lib.hid hnext
        clear hv hm hnext
        gi_wp2
        refine hYr.mono ?_
        rintro e W3 (⟨rfl, hJ3⟩ | ⟨rfl, hJx3⟩)
        · gi_wp2
          go_roundw
          case rel => exact next_rel (C := fun k => J (looseTo D0 k) W3) HW.out hlt (by rw [HN.out]; exact hJ3)
          case measure =>
            exact next_lt HW.out hlt
        · gi_wp2
          refine bodyPost_ret (results_none rfl _ _ _) rfl ?_
          exact ⟨⟨_, rfl⟩, .inr ⟨_, hJx3⟩⟩
    · obtain rfl : k = n := by omega
      gi_wp2
      go_end0
      exact ⟨⟨_, rfl⟩, .inl ⟨_, rfl, hJs⟩⟩
end Go.Proofs.Ytompbjdhdjafgaa
