/- The disk with a number. -/
import Derived.Test.YtompbjdhdjafgaaRigIt
namespace Go.Proofs.Ytompbjdhdjafgaa
open Go.RowKit Go.Shelf
set_option linter.unusedVariables false
attribute [-simp] Try.isAgg38 Try.zeroValue38
attribute [-go_sem] loadVar storeVar
attribute [local go_sem] zero_blk build_blk loadVar_open storeVar_open
attribute [local go_sem] Oper.semAt_some

/-- Which disk has this number. -/
def dk (p0 p1 : Nat) (dev : Int) : Option Addr := if dev = 0 then some ⟨p0, 0, none⟩ else if dev = 1 then some ⟨p1, 0, none⟩ else none

set_option maxRecDepth 100000 in
set_option maxHeartbeats 2000000 in
/-- **disk**. -/
theorem disk_in (rb p0 p1 : Nat) (dev : Int) (w : World) (hlt : rb < w.heap.size) (hc0 : w.cell? ⟨rb, 0, none⟩ = some (.pointer (some ⟨p0, 0, none⟩))) (hc1 : w.cell? ⟨rb, 1, none⟩ = some (.pointer (some ⟨p1, 0, none⟩))) :
    Calls Try.prog 28 #[.pointer (some ⟨rb, 0, none⟩), .int .i64 dev] w fun e w' => e = .returned (.pointer (dk p0 p1 dev)) ∧ Below w.heap.size w w' := by
  refine (callsIn_wide (n := 3)).1 ?_
  refine callsIn_of_wp_marks Try.func28 rfl trivial ?_ rfl
  simp only [Try.ntmps28, List.size_toArray, List.length_cons, List.length_nil, Nat.reduceAdd, Nat.reduceSub, Array.replicate_succ, Array.replicate_zero, List.push_toArray, List.append_toArray, List.nil_append, List.cons_append]
  have C0 := Lib.hid hc0
  have C1 := Lib.hid hc1
  have HLT := Lib.hid hlt
  clear hc0 hc1 hlt
  gi_wp2_with (refine ⟨trivial, ?_⟩; gi_at_call 39; refine (disks_in _ _ trivial rfl _ _).mono ?_; rintro e w' ⟨rfl, rfl⟩)
  obtain ⟨W0, hW0⟩ : ∃ W0, ((w.alloc (.cells #[.int .i64 dev] 3)).alloc (.cells #[.pointer none] 62)).alloc (.cells #[.pointer (some ⟨rb, 0, none⟩)] 26) = W0 := ⟨_, rfl⟩
  have bv : Boxed W0 w.heap.size 3 (.int .i64 dev) := by rw [← hW0]; exact ((Boxed.new w _ _).alloc _).alloc _
  have br : Boxed W0 (w.heap.size + 1) 62 (.pointer none) := by
    rw [← hW0]
    have := (Boxed.new (w.alloc (.cells #[.int .i64 dev] 3)) 62 (.pointer none)).alloc (.cells #[.pointer (some ⟨rb, 0, none⟩)] 26)
    rwa [World.size_alloc] at this
  have bd : Boxed W0 (w.heap.size + 1 + 1) 26 (.pointer (some ⟨rb, 0, none⟩)) := by
    rw [← hW0]
    have := Boxed.new ((w.alloc (.cells #[.int .i64 dev] 3)).alloc (.cells #[.pointer none] 62)) 26 (.pointer (some ⟨rb, 0, none⟩))
    rwa [World.size_alloc, World.size_alloc] at this
  have hB0 : Below w.heap.size w W0 := by rw [← hW0]; exact (((Below.refl _ w).alloc (Nat.le_refl _) _).alloc (by simp) _).alloc (by simp; omega) _
  have hsz0 : W0.heap.size = w.heap.size + 3 := by rw [← hW0]; simp
  rw [hW0]
  clear hW0
  refine wpIn_rangeFunc_by (n := 3) rfl (by omega) (gf := 49) (lb := #[.pointer (some ⟨w.heap.size + 1 + 1, 0, none⟩)]) rfl trivial (enters_of Try.func49 (by kernel_rfl) rfl)
    (fun pre W => Boxed W w.heap.size 3 (.int .i64 dev) ∧ Boxed W (w.heap.size + 1) 62 (.pointer none) ∧ Boxed W (w.heap.size + 1 + 1) 26 (.pointer (some ⟨rb, 0, none⟩)) ∧ Below w.heap.size w W ∧ ∀ y : Nat, y ∈ pre → (y : Int) ≠ dev)
    (fun c pre W => c = .ret ∧ Boxed W (w.heap.size + 1) 62 (.pointer (dk p0 p1 dev)) ∧ Below w.heap.size w W)
    ((disks_by (w.heap.size + 1 + 1) rb p0 p1 W0).mono fun pre W hI => ⟨hI.2.2.1, (hI.2.2.2.1.cell (p := ⟨rb, 0, none⟩) HLT.out).trans C0.out, (hI.2.2.2.1.cell (p := ⟨rb, 1, none⟩) HLT.out).trans C1.out⟩)
    (Below.refl _ _) (fun _ => rfl)
    ((boxed_from _ _ (fun _ => .int .i64 dev) _).and ((boxed_from _ _ (fun _ => .pointer none) _).and ((boxed_from _ _ (fun _ => .pointer (some ⟨rb, 0, none⟩)) _).and ((ownFrom_below (Nat.le_refl _) (by omega)).and (fun s W W' row hs hg hr => hs)))))
    (fun c => OwnFrom.and (fun s W W' row hs hg hr => hs) ((boxed_from _ _ (fun _ => .pointer (dk p0 p1 dev)) _).and (ownFrom_below (Nat.le_refl _) (by omega))))
    ⟨bv, br, bd, hB0, fun y hy => by cases hy⟩ ?a1 ?assign ?body ?done ?stop
  case assign =>
    intro l x W K hK
    dsimp only [encD]
    gi_wp2
    exact hK
  case body =>
    rintro l pre x W ⟨hbv, hbr, hbd, hB, hne⟩ hok
    have d1 := hbv.cell
    have d2 := hbr.cell
    have d3 := hbr.frozen
    have HBV := Lib.hid hbv
    have HBR := Lib.hid hbr
    have HBD := Lib.hid hbd
    have HB := Lib.hid hB
    have HNE := Lib.hid hne
    have HOK := Lib.hid hok
    obtain ⟨p, hp⟩ : ∃ p, dsk p0 p1 x = p := ⟨_, rfl⟩
    have HP := Lib.hid hp
    rw [hp]
    clear hbv hbr hbd hB hne hok hp
    by_cases q : (x : Int) = dev
    · have q1 : ((x : Int) == dev) = true := by simpa using q
      have HQ := Lib.hid q
      clear q
      gi_wp2
      have e : dk p0 p1 dev = some ⟨p, 0, none⟩ := by
        rw [← HQ.out, ← HP.out]
        rcases HOK.out with ⟨_, rfl⟩ | ⟨_, rfl⟩ <;> simp [dk, dsk]
      rw [e]
      exact ⟨(KeepsOthers.setCell _ _ _).from _, rfl, HBR.out.set _, HB.out.setCell (p := ⟨w.heap.size + 1, 0, none⟩) (by simp) _⟩
    · have q1 : ((x : Int) == dev) = false := by simpa using q
      have HQ := Lib.hid q
      clear q
      gi_wp2
      refine ⟨(KeepsOthers.refl _).from _, trivial, HBV.out, HBR.out, HBD.out, HB.out, fun y hy => ?_⟩
      rcases List.mem_append.1 hy with hy | hy
      · exact HNE.out y hy
      · rw [List.mem_singleton.1 hy]; exact HQ.out
  case done =>
    rintro Dd xs W hDd rfl ⟨hbv, hbr, hbd, hB, hne⟩ hK
    have d2 := hbr.cell
    have d3 := hbr.frozen
    have e : dk p0 p1 dev = none := by
      have h0 := hne 0 (by simp)
      have h1 := hne 1 (by simp)
      unfold dk
      rw [if_neg (fun h => h0 (by simp [h])), if_neg (fun h => h1 (by simp [h]))]
    have HE := Lib.hid e
    clear e
    gi_wp2
    have hK' := (KeepsOthers.setCell W ⟨w.heap.size + 1, 0, none⟩ (.pointer none)).same Dd _ hK rfl
    refine ⟨by simp, .inl ⟨_, _, rfl, run_takeDeferred hK', ?_⟩⟩
    have hc5 := cell_kept (hbr.set (.pointer none)).cell (grownBy_putObj' _ Dd (.deferred none)) (fun r e => by cases e; exact ⟨_, hK', rfl⟩)
    refine ⟨.pointer none, ?_, by rw [HE.out], (hB.setCell (p := ⟨w.heap.size + 1, 0, none⟩) (by simp) _).trans (belowK_b (w := w) (Nat.le_refl _) _ Dd _ _ (by omega) hK' rfl rfl)⟩
    simp [results, Try.f28, go_sem, hc5]
  case stop =>
    rintro Dd c pre W hDd ⟨rfl, hbr, hB⟩ hK
    gi_wp2
    refine ⟨by simp, .inl ⟨_, _, rfl, run_takeDeferred hK, ?_⟩⟩
    have hc5 := cell_kept hbr.cell (grownBy_putObj' _ Dd (.deferred none)) (fun r e => by cases e; exact ⟨_, hK, rfl⟩)
    refine ⟨.pointer (dk p0 p1 dev), ?_, rfl, hB.trans (belowK_b (w := w) (Nat.le_refl _) W Dd _ _ (by omega) hK rfl rfl)⟩
    simp [results, Try.f28, go_sem, hc5]

set_option maxRecDepth 100000 in
set_option maxHeartbeats 2000000 in
/-- **disk**, of a nil rig. -/
theorem disk_nil (dev : Int) (w : World) :
    Calls Try.prog 28 #[.pointer none, .int .i64 dev] w fun e w' => e = .returned (.pointer none) ∧ Below w.heap.size w w' := by
  refine (callsIn_wide (n := 3)).1 ?_
  refine callsIn_of_wp_marks Try.func28 rfl trivial ?_ rfl
  simp only [Try.ntmps28, List.size_toArray, List.length_cons, List.length_nil, Nat.reduceAdd, Nat.reduceSub, Array.replicate_succ, Array.replicate_zero, List.push_toArray, List.append_toArray, List.nil_append, List.cons_append]
  gi_wp2_with (refine ⟨trivial, ?_⟩; gi_at_call 39; refine (disks_in _ _ trivial rfl _ _).mono ?_; rintro e w' ⟨rfl, rfl⟩)
  obtain ⟨W0, hW0⟩ : ∃ W0, ((w.alloc (.cells #[.int .i64 dev] 3)).alloc (.cells #[.pointer none] 62)).alloc (.cells #[.pointer none] 26) = W0 := ⟨_, rfl⟩
  have br : Boxed W0 (w.heap.size + 1) 62 (.pointer none) := by
    rw [← hW0]
    have := (Boxed.new (w.alloc (.cells #[.int .i64 dev] 3)) 62 (.pointer none)).alloc (.cells #[.pointer none] 26)
    rwa [World.size_alloc] at this
  have bd : Boxed W0 (w.heap.size + 1 + 1) 26 (.pointer none) := by
    rw [← hW0]
    have := Boxed.new ((w.alloc (.cells #[.int .i64 dev] 3)).alloc (.cells #[.pointer none] 62)) 26 (.pointer none)
    rwa [World.size_alloc, World.size_alloc] at this
  have hB0 : Below w.heap.size w W0 := by rw [← hW0]; exact (((Below.refl _ w).alloc (Nat.le_refl _) _).alloc (by simp) _).alloc (by simp; omega) _
  have hsz0 : W0.heap.size = w.heap.size + 3 := by rw [← hW0]; simp
  rw [hW0]
  clear hW0
  refine wpIn_rangeFunc_by (n := 3) rfl (by omega) (gf := 49) (lb := #[.pointer (some ⟨w.heap.size + 1 + 1, 0, none⟩)]) rfl trivial (enters_of Try.func49 (by kernel_rfl) rfl)
    (fun pre W => Boxed W (w.heap.size + 1) 62 (.pointer none) ∧ Boxed W (w.heap.size + 1 + 1) 26 (.pointer none) ∧ Below w.heap.size w W)
    (fun _ _ _ => False)
    ((disks_nil_by (w.heap.size + 1 + 1) (encD 0 0) W0).mono fun pre W hI => hI.2.1)
    (Below.refl _ _) (fun _ => rfl)
    ((boxed_from _ _ (fun _ => .pointer none) _).and ((boxed_from _ _ (fun _ => .pointer none) _).and (ownFrom_below (Nat.le_refl _) (by omega))))
    (fun _ _ _ _ _ h _ _ => h.elim) ⟨br, bd, hB0⟩ ?a1 ?assign ?body ?done ?stop
  case assign =>
    intro l x W K hK
    dsimp only [encD]
    gi_wp2
    exact hK
  case body =>
    rintro l pre x W _ h
    exact h.elim
  case done =>
    rintro Dd xs W hDd rfl ⟨hbr, hbd, hB⟩ hK
    have d2 := hbr.cell
    have d3 := hbr.frozen
    gi_wp2
    have hK' := (KeepsOthers.setCell W ⟨w.heap.size + 1, 0, none⟩ (.pointer none)).same Dd _ hK rfl
    refine ⟨by simp, .inl ⟨_, _, rfl, run_takeDeferred hK', ?_⟩⟩
    have hc5 := cell_kept (hbr.set (.pointer none)).cell (grownBy_putObj' _ Dd (.deferred none)) (fun r e => by cases e; exact ⟨_, hK', rfl⟩)
    refine ⟨.pointer none, ?_, rfl, (hB.setCell (p := ⟨w.heap.size + 1, 0, none⟩) (by simp) _).trans (belowK_b (w := w) (Nat.le_refl _) _ Dd _ _ (by omega) hK' rfl rfl)⟩
    simp [results, Try.f28, go_sem, hc5]
  case stop =>
    rintro D c pre W _ h _
    exact h.elim

set_option maxRecDepth 100000 in
set_option maxHeartbeats 1000000 in
/-- **has**. -/
theorem has_rig (p : Option Addr) (n : Nat) (i : Int) (w : World) (hl : Calls Try.prog 42 #[.pointer p] w fun e w' => e = .returned (.int .i64 (n : Int)) ∧ w' = w) :
    Calls Try.prog 29 #[.pointer p, .int .i64 i] w fun e w' => e = .returned (.bool (decide (0 ≤ i ∧ i < (n : Int)))) ∧ w' = w := by
  have HL := Lib.hid hl
  clear hl
  by_cases h0 : 0 ≤ i
  · have g0 : decide (0 ≤ i) = true := by simpa using h0
    have HE : Hid (decide (i < (n : Int)) = decide (0 ≤ i ∧ i < (n : Int))) := by show _ = _; simp [h0]
    go_enter Try.func29, Try.ntmps29
    go_wp2_with fail
    refine HL.out.mono ?_
    rintro e w' ⟨rfl, rfl⟩
    go_wp2_with fail
    go_ret
    exact ⟨by rw [← HE.out]; rfl, rfl⟩
  · have g0 : decide (0 ≤ i) = false := by simpa using h0
    have HE : Hid (false = decide (0 ≤ i ∧ i < (n : Int))) := by show _ = _; simp [h0]
    go_enter Try.func29, Try.ntmps29
    go_wp2_with fail
    go_ret
    exact ⟨rfl, rfl⟩
end Go.Proofs.Ytompbjdhdjafgaa
