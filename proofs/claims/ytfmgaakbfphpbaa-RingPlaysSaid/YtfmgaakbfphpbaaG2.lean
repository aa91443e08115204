/- The ground of the proofs, part 2: RigDk Look Ref3 RefNew RefSt RefWr RefFl RigOp RigMt RigRd RigCr Fill RAt RUp RgApp RgTorn RgWrs RgSt Args ArgSl RgPrs RgLay RgEnd PgCount PgBod Iter Get Put Ref. -/
import Derived.Test.YtfmgaakbfphpbaaG1
import Derived.LoopTactic
import Derived.Test.YtfmgaakbfphpbaaRows
import Derived.Test.YtfmgaakbfphpbaaProg
import Derived.WalkKit
import Derived.ProofKit
import Derived.OpenShut
import Derived.ShutString
import Derived.ChangeOld
import Derived.Below
import Derived.Deep.Slices
import Derived.Lib.SmallJoins
import Derived.Lib.Hide
import Derived.RangeFuncOwn
import Derived.Maps.AppendAt
import Derived.RangeFuncNested
import Derived.RangeFuncBound
import Derived.RangeFuncCalls
import Derived.RangeFuncLeaves
import Derived.Shelf.Abstract
import Derived.Shelf.RegionOpen
import Derived.OwnWalkIn
import Derived.TacticsInMore
import Derived.LoopNIn
import Derived.LoopIn
import Derived.RangeFuncBox
/- The disk with a number. -/
namespace Go.Proofs.Ytfmgaakbfphpbaa
open Go.RowKit Go.Shelf
set_option linter.unusedVariables false
attribute [-simp] Try.isAgg59 Try.zeroValue59
attribute [-go_sem] loadVar storeVar
attribute [local go_sem] zero_blk build_blk loadVar_open storeVar_open
attribute [local go_sem] Oper.semAt_some

/-- Which disk has this number. -/
def dk (p0 p1 : Nat) (dev : Int) : Option Addr := if dev = 0 then some ⟨p0, 0, none⟩ else if dev = 1 then some ⟨p1, 0, none⟩ else none

set_option maxRecDepth 100000 in
set_option maxHeartbeats 2000000 in
/-- **disk**. -/
theorem disk_in (rb p0 p1 : Nat) (dev : Int) (w : World) (hlt : rb < w.heap.size) (hc0 : w.cell? ⟨rb, 0, none⟩ = some (.pointer (some ⟨p0, 0, none⟩))) (hc1 : w.cell? ⟨rb, 1, none⟩ = some (.pointer (some ⟨p1, 0, none⟩))) :
    Calls Try.prog 44 #[.pointer (some ⟨rb, 0, none⟩), .int .i64 dev] w fun e w' => e = .returned (.pointer (dk p0 p1 dev)) ∧ Below w.heap.size w w' := by
  refine (callsIn_wide (n := 3)).1 ?_
  refine callsIn_of_wp_marks Try.func44 rfl trivial ?_ rfl
  simp only [Try.ntmps44, List.size_toArray, List.length_cons, List.length_nil, Nat.reduceAdd, Nat.reduceSub, Array.replicate_succ, Array.replicate_zero, List.push_toArray, List.append_toArray, List.nil_append, List.cons_append]
  have C0 := Lib.hid hc0
  have C1 := Lib.hid hc1
  have HLT := Lib.hid hlt
  clear hc0 hc1 hlt
  gi_wp2_with (refine ⟨trivial, ?_⟩; gi_at_call 41; refine (disks_in _ _ trivial rfl _ _).mono ?_; rintro e w' ⟨rfl, rfl⟩)
  obtain ⟨W0, hW0⟩ : ∃ W0, ((w.alloc (.cells #[.int .i64 dev] 3)).alloc (.cells #[.pointer none] 86)).alloc (.cells #[.pointer (some ⟨rb, 0, none⟩)] 26) = W0 := ⟨_, rfl⟩
  have bv : Boxed W0 w.heap.size 3 (.int .i64 dev) := by rw [← hW0]; exact ((Boxed.new w _ _).alloc _).alloc _
  have br : Boxed W0 (w.heap.size + 1) 86 (.pointer none) := by
    rw [← hW0]
    have := (Boxed.new (w.alloc (.cells #[.int .i64 dev] 3)) 86 (.pointer none)).alloc (.cells #[.pointer (some ⟨rb, 0, none⟩)] 26)
    rwa [World.size_alloc] at this
  have bd : Boxed W0 (w.heap.size + 1 + 1) 26 (.pointer (some ⟨rb, 0, none⟩)) := by
    rw [← hW0]
    have := Boxed.new ((w.alloc (.cells #[.int .i64 dev] 3)).alloc (.cells #[.pointer none] 86)) 26 (.pointer (some ⟨rb, 0, none⟩))
    rwa [World.size_alloc, World.size_alloc] at this
  have hB0 : Below w.heap.size w W0 := by rw [← hW0]; exact (((Below.refl _ w).alloc (Nat.le_refl _) _).alloc (by simp) _).alloc (by simp; omega) _
  have hsz0 : W0.heap.size = w.heap.size + 3 := by rw [← hW0]; simp
  rw [hW0]
  clear hW0
  refine wpIn_rangeFunc_by (n := 3) rfl (by omega) (gf := 61) (lb := #[.pointer (some ⟨w.heap.size + 1 + 1, 0, none⟩)]) rfl trivial (enters_of Try.func61 (by kernel_rfl) rfl)
    (fun pre W => Boxed W w.heap.size 3 (.int .i64 dev) ∧ Boxed W (w.heap.size + 1) 86 (.pointer none) ∧ Boxed W (w.heap.size + 1 + 1) 26 (.pointer (some ⟨rb, 0, none⟩)) ∧ Below w.heap.size w W ∧ ∀ y : Nat, y ∈ pre → (y : Int) ≠ dev)
    (fun c pre W => c = .ret ∧ Boxed W (w.heap.size + 1) 86 (.pointer (dk p0 p1 dev)) ∧ Below w.heap.size w W)
    ((disks_by (w.heap.size + 1 + 1) rb p0 p1 W0).mono fun pre W hI => ⟨hI.2.2.1, (hI.2.2.2.1.cell (p := ⟨rb, 0, none⟩) HLT.out).trans C0.out, (hI.2.2.2.1.cell (p := ⟨rb, 1, none⟩) HLT.out).trans C1.out⟩)
    (Below.refl _ _) (fun _ => rfl)
    ((boxed_from _ _ (fun _ => .int .i64 dev) _).and ((boxed_from _ _ (fun _ => .pointer none) _).and ((boxed_from _ _ (fun _ => .pointer (some ⟨rb, 0, none⟩)) _).and ((ownFrom_below (Nat.le_refl _) (by omega)).and (fun s W W' row hs hg hr => hs)))))
    (fun c => OwnFrom.and (fun s W W' row hs hg hr => hs) ((boxed_from _ _ (fun _ => .pointer (dk p0 p1 dev)) _).and (ownFrom_below (Nat.le_refl _) (by omega))))
    ⟨bv, br, bd, hB0, fun y hy => by cases hy⟩ ?a1 ?assign ?body ?done ?stop
  case assign =>
    intro l x W K hK
    dsimp only [encD]
    gi_wp2
    exact hK
  case body =>
    rintro l pre x W ⟨hbv, hbr, hbd, hB, hne⟩ hok
    have d1 := hbv.cell
    have d2 := hbr.cell
    have d3 := hbr.frozen
    have HBV := Lib.hid hbv
    have HBR := Lib.hid hbr
    have HBD := Lib.hid hbd
    have HB := Lib.hid hB
    have HNE := Lib.hid hne
    have HOK := Lib.hid hok
    obtain ⟨p, hp⟩ : ∃ p, dsk p0 p1 x = p := ⟨_, rfl⟩
    have HP := Lib.hid hp
    rw [hp]
    clear hbv hbr hbd hB hne hok hp
    by_cases q : (x : Int) = dev
    · have q1 : ((x : Int) == dev) = true := by simpa using q
      have HQ := Lib.hid q
      clear q
      gi_wp2
      have e : dk p0 p1 dev = some ⟨p, 0, none⟩ := by
        rw [← HQ.out, ← HP.out]
        rcases HOK.out with ⟨_, rfl⟩ | ⟨_, rfl⟩ <;> simp [dk, dsk]
      rw [e]
      exact ⟨(KeepsOthers.setCell _ _ _).from _, rfl, HBR.out.set _, HB.out.setCell (p := ⟨w.heap.size + 1, 0, none⟩) (by simp) _⟩
    · have q1 : ((x : Int) == dev) = false := by simpa using q
      have HQ := Lib.hid q
      clear q
      gi_wp2
      refine ⟨(KeepsOthers.refl _).from _, trivial, HBV.out, HBR.out, HBD.out, HB.out, fun y hy => ?_⟩
      rcases List.mem_append.1 hy with hy | hy
      · exact HNE.out y hy
      · rw [List.mem_singleton.1 hy]; exact HQ.out
  case done =>
    rintro Dd xs W hDd rfl ⟨hbv, hbr, hbd, hB, hne⟩ hK
    have d2 := hbr.cell
    have d3 := hbr.frozen
    have e : dk p0 p1 dev = none := by
      have h0 := hne 0 (by simp)
      have h1 := hne 1 (by simp)
      unfold dk
      rw [if_neg (fun h => h0 (by simp [h])), if_neg (fun h => h1 (by simp [h]))]
    have HE := Lib.hid e
    clear e
    gi_wp2
    have hK' := (KeepsOthers.setCell W ⟨w.heap.size + 1, 0, none⟩ (.pointer none)).same Dd _ hK rfl
    refine ⟨by simp, .inl ⟨_, _, rfl, run_takeDeferred hK', ?_⟩⟩
    have hc5 := cell_kept (hbr.set (.pointer none)).cell (grownBy_putObj' _ Dd (.deferred none)) (fun r e => by cases e; exact ⟨_, hK', rfl⟩)
    refine ⟨.pointer none, ?_, by rw [HE.out], (hB.setCell (p := ⟨w.heap.size + 1, 0, none⟩) (by simp) _).trans (belowK_b (w := w) (Nat.le_refl _) _ Dd _ _ (by omega) hK' rfl rfl)⟩
    simp [results, Try.f44, go_sem, hc5]
  case stop =>
    rintro Dd c pre W hDd ⟨rfl, hbr, hB⟩ hK
    gi_wp2
    refine ⟨by simp, .inl ⟨_, _, rfl, run_takeDeferred hK, ?_⟩⟩
    have hc5 := cell_kept hbr.cell (grownBy_putObj' _ Dd (.deferred none)) (fun r e => by cases e; exact ⟨_, hK, rfl⟩)
    refine ⟨.pointer (dk p0 p1 dev), ?_, rfl, hB.trans (belowK_b (w := w) (Nat.le_refl _) W Dd _ _ (by omega) hK rfl rfl)⟩
    simp [results, Try.f44, go_sem, hc5]

set_option maxRecDepth 100000 in
set_option maxHeartbeats 2000000 in
/-- **disk**, of a nil rig. -/
theorem disk_nil (dev : Int) (w : World) :
    Calls Try.prog 44 #[.pointer none, .int .i64 dev] w fun e w' => e = .returned (.pointer none) ∧ Below w.heap.size w w' := by
  refine (callsIn_wide (n := 3)).1 ?_
  refine callsIn_of_wp_marks Try.func44 rfl trivial ?_ rfl
  simp only [Try.ntmps44, List.size_toArray, List.length_cons, List.length_nil, Nat.reduceAdd, Nat.reduceSub, Array.replicate_succ, Array.replicate_zero, List.push_toArray, List.append_toArray, List.nil_append, List.cons_append]
  gi_wp2_with (refine ⟨trivial, ?_⟩; gi_at_call 41; refine (disks_in _ _ trivial rfl _ _).mono ?_; rintro e w' ⟨rfl, rfl⟩)
  obtain ⟨W0, hW0⟩ : ∃ W0, ((w.alloc (.cells #[.int .i64 dev] 3)).alloc (.cells #[.pointer none] 86)).alloc (.cells #[.pointer none] 26) = W0 := ⟨_, rfl⟩
  have br : Boxed W0 (w.heap.size + 1) 86 (.pointer none) := by
    rw [← hW0]
    have := (Boxed.new (w.alloc (.cells #[.int .i64 dev] 3)) 86 (.pointer none)).alloc (.cells #[.pointer none] 26)
    rwa [World.size_alloc] at this
  have bd : Boxed W0 (w.heap.size + 1 + 1) 26 (.pointer none) := by
    rw [← hW0]
    have := Boxed.new ((w.alloc (.cells #[.int .i64 dev] 3)).alloc (.cells #[.pointer none] 86)) 26 (.pointer none)
    rwa [World.size_alloc, World.size_alloc] at this
  have hB0 : Below w.heap.size w W0 := by rw [← hW0]; exact (((Below.refl _ w).alloc (Nat.le_refl _) _).alloc (by simp) _).alloc (by simp; omega) _
  have hsz0 : W0.heap.size = w.heap.size + 3 := by rw [← hW0]; simp
  rw [hW0]
  clear hW0
  refine wpIn_rangeFunc_by (n := 3) rfl (by omega) (gf := 61) (lb := #[.pointer (some ⟨w.heap.size + 1 + 1, 0, none⟩)]) rfl trivial (enters_of Try.func61 (by kernel_rfl) rfl)
    (fun pre W => Boxed W (w.heap.size + 1) 86 (.pointer none) ∧ Boxed W (w.heap.size + 1 + 1) 26 (.pointer none) ∧ Below w.heap.size w W)
    (fun _ _ _ => False)
    ((disks_nil_by (w.heap.size + 1 + 1) (encD 0 0) W0).mono fun pre W hI => hI.2.1)
    (Below.refl _ _) (fun _ => rfl)
    ((boxed_from _ _ (fun _ => .pointer none) _).and ((boxed_from _ _ (fun _ => .pointer none) _).and (ownFrom_below (Nat.le_refl _) (by omega))))
    (fun _ _ _ _ _ h _ _ => h.elim) ⟨br, bd, hB0⟩ ?a1 ?assign ?body ?done ?stop
  case assign =>
    intro l x W K hK
    dsimp only [encD]
    gi_wp2
    exact hK
  case body =>
    rintro l pre x W _ h
    exact h.elim
  case done =>
    rintro Dd xs W hDd rfl ⟨hbr, hbd, hB⟩ hK
    have d2 := hbr.cell
    have d3 := hbr.frozen
    gi_wp2
    have hK' := (KeepsOthers.setCell W ⟨w.heap.size + 1, 0, none⟩ (.pointer none)).same Dd _ hK rfl
    refine ⟨by simp, .inl ⟨_, _, rfl, run_takeDeferred hK', ?_⟩⟩
    have hc5 := cell_kept (hbr.set (.pointer none)).cell (grownBy_putObj' _ Dd (.deferred none)) (fun r e => by cases e; exact ⟨_, hK', rfl⟩)
    refine ⟨.pointer none, ?_, rfl, (hB.setCell (p := ⟨w.heap.size + 1, 0, none⟩) (by simp) _).trans (belowK_b (w := w) (Nat.le_refl _) _ Dd _ _ (by omega) hK' rfl rfl)⟩
    simp [results, Try.f44, go_sem, hc5]
  case stop =>
    rintro D c pre W _ h _
    exact h.elim

set_option maxRecDepth 100000 in
set_option maxHeartbeats 1000000 in
/-- **has**. -/
theorem has_rig (p : Option Addr) (n : Nat) (i : Int) (w : World) (hl : Calls Try.prog 65 #[.pointer p] w fun e w' => e = .returned (.int .i64 (n : Int)) ∧ w' = w) :
    Calls Try.prog 45 #[.pointer p, .int .i64 i] w fun e w' => e = .returned (.bool (decide (0 ≤ i ∧ i < (n : Int)))) ∧ w' = w := by
  have HL := Lib.hid hl
  clear hl
  by_cases h0 : 0 ≤ i
  · have g0 : decide (0 ≤ i) = true := by simpa using h0
    have HE : Hid (decide (i < (n : Int)) = decide (0 ≤ i ∧ i < (n : Int))) := by show _ = _; simp [h0]
    go_enter Try.func45, Try.ntmps45
    go_wp2_with fail
    refine HL.out.mono ?_
    rintro e w' ⟨rfl, rfl⟩
    go_wp2_with fail
    go_ret
    exact ⟨by rw [← HE.out]; rfl, rfl⟩
  · have g0 : decide (0 ≤ i) = false := by simpa using h0
    have HE : Hid (false = decide (0 ≤ i ∧ i < (n : Int))) := by show _ = _; simp [h0]
    go_enter Try.func45, Try.ntmps45
    go_wp2_with fail
    go_ret
    exact ⟨rfl, rfl⟩
end Go.Proofs.Ytfmgaakbfphpbaa

/- What flushes and crashes leave to be read. -/
namespace Go.Proofs.Ytfmgaakbfphpbaa
open Go.RowKit
set_option linter.unusedVariables false

/-- What a flush leaves to be read. -/
theorem flushed_look (D : Nat → Sec) (n j : Nat) (hj : j < n) : (settled D (fun j => (D j).vs.length) (looseTo D n) j).look = (D j).look := by
  by_cases h : (D j).vs = []
  · rw [settled_not (fun hm => looseTo_loose hm h)]
  · rw [settled_yes (mem_looseTo hj h), Sec.look_some h]
    have hp := List.length_pos_iff.2 h
    unfold Sec.settle Sec.look
    simp only [List.getLast?_nil, Option.getD_none]
    rw [if_neg (by omega)]
theorem flushed_few (D : Nat → Sec) (n j : Nat) : (settled D (fun j => (D j).vs.length) (looseTo D n) j).vs.length ≤ (D j).vs.length := by
  by_cases h : j ∈ looseTo D n
  · rw [settled_yes h]; simp [Sec.settle]
  · rw [settled_not h]; exact Nat.le_refl _
theorem add_look (s : Sec) (b : List Value) (h : s.vs.length ≤ 255) : (s.add b).look = b := by
  unfold Sec.add Sec.look
  rw [if_neg (by omega)]
  simp
theorem add_more (s : Sec) (b : List Value) (h : s.vs.length ≤ 255) : (s.add b).vs.length = s.vs.length + 1 := by
  unfold Sec.add
  rw [if_neg (by omega)]
  simp

/-- Behind a flush no sector has versions, and each contains what it yielded. -/
theorem flushed_none (D : Nat → Sec) (n j : Nat) (hj : j < n) : (settled D (fun j => (D j).vs.length) (looseTo D n) j).vs = [] := by
  by_cases h : (D j).vs = []
  · rw [settled_not (fun hm => looseTo_loose hm h)]; exact h
  · rw [settled_yes (mem_looseTo hj h)]; rfl
theorem flushed_c (D : Nat → Sec) (n j : Nat) (hj : j < n) : (settled D (fun j => (D j).vs.length) (looseTo D n) j).c = (D j).look := by
  rw [← flushed_look D n j hj, Sec.look_none (flushed_none D n j hj)]
theorem tight_of {D : Nat → Sec} {n : Nat} (h : ∀ j, j < n → (D j).vs = []) : looseTo D n = [] := by
  unfold looseTo
  rw [List.filter_eq_nil_iff]
  intro j hj
  rw [h j (by simpa using hj)]
  simp
theorem settled_none (D : Nat → Sec) (g : Nat → Nat) (n j : Nat) (hj : j < n) : (settled D g (looseTo D n) j).vs = [] := by
  by_cases h : (D j).vs = []
  · rw [settled_not (fun hm => looseTo_loose hm h)]; exact h
  · rw [settled_yes (mem_looseTo hj h)]; rfl
/-- Behind a crash a sector yields what it contained, or one of its versions. -/
theorem settled_either (D : Nat → Sec) (g : Nat → Nat) (n j : Nat) (hj : j < n) : (settled D g (looseTo D n) j).look = (D j).c ∨ (settled D g (looseTo D n) j).look ∈ (D j).vs := by
  rw [Sec.look_none (settled_none D g n j hj)]
  by_cases h : (D j).vs = []
  · rw [settled_not (fun hm => looseTo_loose hm h)]; exact .inl rfl
  · rw [settled_yes (mem_looseTo hj h)]
    unfold Sec.settle
    dsimp only
    split
    · exact .inl rfl
    · cases e : (D j).vs[g j - 1]? with
      | none => exact .inl rfl
      | some v => exact .inr (List.mem_of_getElem? e)

end Go.Proofs.Ytfmgaakbfphpbaa

/- The document's own disk in memory; Has, Read. -/
namespace Go.Proofs.Ytfmgaakbfphpbaa
open Go.RowKit
set_option linter.unusedVariables false
attribute [-simp] Try.isAgg59 Try.zeroValue59
attribute [-go_sem] loadVar storeVar
attribute [local go_sem] zero_blk build_blk loadVar_open storeVar_open

/-- Its blocks. -/
def rfoot (rq ss vb n : Nat) (sv : Nat → Value) (k : Nat) : Prop := k = rq ∨ k = ss ∨ k = vb ∨ ∃ i, i < n ∧ (sv i).ownBlock = some k

structure RefAt (w : World) (rq ss vb n : Nat) (sv : Nat → Value) (D : Nat → Sec) : Prop where
  head : w.heap[rq]? = some (.cells #[.slice (some ⟨ss, 0, none⟩) n n, .slice (some ⟨vb, 0, none⟩) n n] 65 (0, 0))
  d1 : rq ≠ ss
  d2 : rq ≠ vb
  d3 : ss ≠ vb
  max : n ≤ 4096
  ok : ∀ i, i < n → (D i).Ok
  cont : ∀ i, i < n → w.rangeAt ss (i * 64) (D i).c
  thereS : w.there ss 0 (n * 64)
  ver : ∀ i, i < n → w.cell? ⟨vb, i, none⟩ = some (sv i)
  thereV : w.there vb 0 n
  row : ∀ i, i < n → w.ownsRow 0 59 64 (sv i) (D i).vs.length (D i).vs.flatten
  a1 : ∀ i, i < n → (sv i).ownBlock ≠ some rq
  a2 : ∀ i, i < n → (sv i).ownBlock ≠ some ss
  a3 : ∀ i, i < n → (sv i).ownBlock ≠ some vb

def Ref (w : World) (rq n : Nat) (f : Nat → Prop) (D : Nat → Sec) : Prop := ∃ ss vb sv, RefAt w rq ss vb n sv D ∧ f = rfoot rq ss vb n sv

theorem ownsRow_same {w w' : World} {N e size n : Nat} {v : Value} {xs : List Value} (h : w.ownsRow N e size v n xs) (h2 : ∀ g, v.ownBlock = some g → w'.heap[g]? = w.heap[g]?) : w'.ownsRow N e size v n xs := by
  refine ⟨h.1, ?_⟩
  rcases h.2 with h' | ⟨g, cap, cur, rfl, a1, a2, a3⟩
  · exact .inl h'
  · exact .inr ⟨g, cap, cur, rfl, a1, (h2 g rfl).trans a2, a3⟩
theorem rangeAt_same {w w' : World} {b o : Nat} {c : List Value} (h : w.rangeAt b o c) (hb : w'.heap[b]? = w.heap[b]?) : w'.rangeAt b o c := fun j x hx => (World.cell?_of_block (a := ⟨b, o + j, none⟩) hb).trans (h j x hx)
theorem there_same {w w' : World} {b o n : Nat} (h : w.there b o n) (hb : w'.heap[b]? = w.heap[b]?) : w'.there b o n := fun j hj =>
  ⟨by rw [World.cell?_of_block (a := ⟨b, o + j, none⟩) hb]; exact (h j hj).1, by rw [World.frozen?_of_block (a := ⟨b, o + j, none⟩) hb]; exact (h j hj).2⟩

theorem RefAt.kept {w w' : World} {rq ss vb n : Nat} {sv : Nat → Value} {D : Nat → Sec} (h : RefAt w rq ss vb n sv D) (hk : ∀ k, rfoot rq ss vb n sv k → w'.heap[k]? = w.heap[k]?) : RefAt w' rq ss vb n sv D :=
  ⟨(hk rq (.inl rfl)).trans h.head, h.d1, h.d2, h.d3, h.max, h.ok, fun i hi => rangeAt_same (h.cont i hi) (hk ss (.inr (.inl rfl))), there_same h.thereS (hk ss (.inr (.inl rfl))),
    fun i hi => (World.cell?_of_block (a := ⟨vb, i, none⟩) (hk vb (.inr (.inr (.inl rfl))))).trans (h.ver i hi), there_same h.thereV (hk vb (.inr (.inr (.inl rfl)))),
    fun i hi => ownsRow_same (h.row i hi) (fun g hg => hk g (.inr (.inr (.inr ⟨i, hi, hg⟩)))), h.a1, h.a2, h.a3⟩
theorem RefAt.lt {w : World} {rq ss vb n : Nat} {sv : Nat → Value} {D : Nat → Sec} (h : RefAt w rq ss vb n sv D) (hn : 0 < n) {k : Nat} (hk : rfoot rq ss vb n sv k) : k < w.heap.size := by
  rcases hk with rfl | rfl | rfl | ⟨i, hi, hk⟩
  · exact (Array.getElem?_eq_some_iff.1 h.head).1
  · obtain ⟨u, hu⟩ := Option.isSome_iff_exists.1 (h.thereS 0 (by omega)).1
    exact World.block_lt_of_cell? w _ hu
  · exact World.block_lt_of_cell? w _ (h.ver 0 hn)
  · exact ((h.row i hi).lt k hk).2
theorem Ref.out {w w' : World} {rq n : Nat} {f : Nat → Prop} {D : Nat → Sec} (h : Ref w rq n f D) (hk : ∀ k, f k → w'.heap[k]? = w.heap[k]?) : Ref w' rq n f D := by
  obtain ⟨ss, vb, sv, h, rfl⟩ := h
  exact ⟨ss, vb, sv, h.kept hk, rfl⟩
theorem Ref.lt {w : World} {rq n : Nat} {f : Nat → Prop} {D : Nat → Sec} (h : Ref w rq n f D) (hn : 0 < n) : ∀ k, f k → k < w.heap.size := by
  obtain ⟨ss, vb, sv, h, rfl⟩ := h
  exact fun k hk => h.lt hn hk
theorem Ref.below {w w' : World} {rq n : Nat} {f : Nat → Prop} {D : Nat → Sec} (h : Ref w rq n f D) (hn : 0 < n) (hb : Below w.heap.size w w') : Ref w' rq n f D := h.out fun k hk => hb.block k (h.lt hn k hk)

/-- A row of versions: its value, and where each stands. -/
theorem row_form {w : World} {v : Value} {vs : List (List Value)} (hok : ∀ u ∈ vs, IsBlk u) (h : w.ownsRow 0 59 64 v vs.length vs.flatten) : ∃ a cap, v = .slice a vs.length cap ∧ vs.length ≤ cap ∧ cap ≤ maxLen ∧ (a = none → cap = 0 ∧ vs = []) ∧ (∀ x, a = some x → ∃ g, x = ⟨g, 0, none⟩ ∧ v.ownBlock = some g ∧ g < w.heap.size ∧ ∀ k u, vs[k]? = some u → w.rangeAt g (k * 64) u) := by
  rcases h.2 with ⟨rfl, h0⟩ | ⟨g, cap, cur, rfl, h1, h2, h3, h4, h5, h6⟩
  · exact ⟨none, 0, by rw [h0], by omega, by simp [maxLen], fun _ => ⟨rfl, List.eq_nil_of_length_eq_zero h0⟩, (fun x e => by cases e)⟩
  · refine ⟨some ⟨g, 0, none⟩, cap, rfl, h3, h4, (fun e => by cases e), fun x e => ?_⟩
    cases e
    refine ⟨g, rfl, rfl, (Array.getElem?_eq_some_iff.1 h2).1, fun k u hu j x hx => ?_⟩
    have hk : k < vs.length := (List.getElem?_eq_some_iff.1 hu).1
    have hj : j < 64 := by have := (List.getElem?_eq_some_iff.1 hx).1; rw [(hok u (List.mem_of_getElem? hu)).length] at this; exact this
    have hf := flat_get hok hu j hj
    rw [cell_of_row _ _ _ _ _ _ h2, ← Array.getElem?_toList]
    rw [← h6, List.getElem?_take, if_pos (by omega)] at hf
    rw [hf, hx]

set_option maxRecDepth 100000 in
set_option maxHeartbeats 1000000 in
/-- **Has**. -/
theorem refHas (rq n : Nat) (f : Nat → Prop) (D : Nat → Sec) (i : Int) (w : World) (h : Ref w rq n f D) :
    Calls Try.prog 68 #[.pointer (some ⟨rq, 0, none⟩), .int .i64 i] w fun e w' => e = .returned (.bool (decide (0 ≤ i ∧ i < (n : Int)))) ∧ w' = w := by
  obtain ⟨ss, vb, sv, h, rfl⟩ := h
  have c0 : w.cell? ⟨rq, 0, none⟩ = some (.slice (some ⟨ss, 0, none⟩) n n) := by rw [cell_of_row _ _ _ _ _ _ h.head]; rfl
  clear h
  by_cases h0 : 0 ≤ i
  · have g0 : decide (0 ≤ i) = true := by simpa using h0
    have HE : Hid (decide (i < (n : Int)) = decide (0 ≤ i ∧ i < (n : Int))) := by show _ = _; simp [h0]
    go_enter Try.func68, Try.ntmps68
    go_wp2
    go_ret
    exact ⟨by rw [← HE.out]; rfl, rfl⟩
  · have g0 : decide (0 ≤ i) = false := by simpa using h0
    have HE : Hid (false = decide (0 ≤ i ∧ i < (n : Int))) := by show _ = _; simp [h0]
    go_enter Try.func68, Try.ntmps68
    go_wp2
    go_ret
    exact ⟨rfl, rfl⟩

set_option maxRecDepth 100000 in
set_option maxHeartbeats 1000000 in
/-- **Read**. -/
theorem refRead (rq n i : Nat) (f : Nat → Prop) (D : Nat → Sec) (w : World) (h : Ref w rq n f D) (hi : i < n) :
    Calls Try.prog 24 #[.pointer (some ⟨rq, 0, none⟩), .int .i64 (i : Int)] w fun e w' => e = .returned (.agg (D i).look.toArray) ∧ Below w.heap.size w w' := by
  obtain ⟨ss, vb, sv, h, rfl⟩ := h
  obtain ⟨a, cap, hf, hcap, hmax, hnone, hsome⟩ := row_form (h.ok i hi).2 (h.row i hi)
  obtain ⟨W, hW⟩ : ∃ W, w.alloc (.cells zarr 59) = W := ⟨_, rfl⟩
  have hB : Below w.heap.size w W := by rw [← hW]; exact (Below.refl _ w).alloc (Nat.le_refl _) _
  have hW' : RefAt W rq ss vb n sv D := h.kept fun k hk => hB.block k (h.lt (by omega) hk)
  have c0 : W.cell? ⟨rq, 0, none⟩ = some (.slice (some ⟨ss, 0, none⟩) n n) := by rw [cell_of_row _ _ _ _ _ _ hW'.head]; rfl
  have c1 : W.cell? ⟨rq, 1, none⟩ = some (.slice (some ⟨vb, 0, none⟩) n n) := by rw [cell_of_row _ _ _ _ _ _ hW'.head]; rfl
  have c2 := hW'.ver i hi
  rw [hf] at c2
  have hok := (h.ok i hi).look
  have HB : Hid (Below w.heap.size w (w.alloc (.cells (D i).look.toArray 59))) := (Below.refl _ w).alloc (Nat.le_refl _) _
  have S : (storeVar 59 ⟨w.heap.size, 0, none⟩ (.agg (D i).look.toArray)).run Try.prog W = .ok () (w.alloc (.cells (D i).look.toArray 59)) := by rw [← hW]; exact store_new zarr_size hok
  have R : (loadVar 59 ⟨w.heap.size, 0, none⟩).run Try.prog (w.alloc (.cells (D i).look.toArray 59)) = .ok (.agg (D i).look.toArray) (w.alloc (.cells (D i).look.toArray 59)) := load_new (by simpa using hok.length)
  have g1 : (i : Int) < (n : Int) := by omega
  by_cases hn : (D i).vs = []
  · have L : (loadVar 59 ⟨ss, i * 64, none⟩).run Try.prog W = .ok (.agg (D i).look.toArray) W := by rw [Sec.look_none hn]; exact load_blk (hW'.cont i hi) (h.ok i hi).1.length
    have h0 : (D i).vs.length = 0 := by rw [hn]; rfl
    rw [h0] at c2
    obtain ⟨u, hu⟩ : ∃ u, (D i).look = u := ⟨_, rfl⟩
    rw [hu] at HB S R L ⊢
    clear hB hW' h hf hcap hmax hnone hsome hok hn h0 hi hu
    go_enter Try.func24, Try.ntmps24
    go_wp2_with (with_reducible (rw [hW]; clear hW))
    refine bodyPost_ret (results_cell rfl rfl R) rfl ⟨rfl, HB.out⟩
  · obtain ⟨m, hm⟩ : ∃ m, (D i).vs.length = m + 1 := ⟨(D i).vs.length - 1, by have := List.length_pos_iff.2 hn; omega⟩
    obtain ⟨g, rfl, hg⟩ : ∃ g, a = some ⟨g, 0, none⟩ ∧ ∀ k u, (D i).vs[k]? = some u → w.rangeAt g (k * 64) u := by
      cases a with
      | none => exact absurd (hnone rfl).2 hn
      | some x => obtain ⟨g, rfl, _, _, h4⟩ := hsome x rfl; exact ⟨g, rfl, h4⟩
    have hu : (D i).vs[m]? = some (D i).look := by
      have := Sec.look_some hn
      rw [hm, Nat.add_sub_cancel] at this
      rw [List.getElem?_eq_getElem (by omega)] at this ⊢
      rw [this]; rfl
    have L : (loadVar 59 ⟨g, m * 64, none⟩).run Try.prog W = .ok (.agg (D i).look.toArray) W := load_blk (by rw [← hW]; exact World.rangeAt_alloc (hg m _ hu) _) hok.length
    rw [hm] at c2 hcap
    have hw1 : Hid (wrap64 (m : Int) = (m : Int)) := IntWalk.wrap64_in _ (by unfold maxLen at hmax; omega)
    obtain ⟨u, hue⟩ : ∃ u, (D i).look = u := ⟨_, rfl⟩
    rw [hue] at HB S R L ⊢
    have hw2 := hw1.out
    have g2 : decide ((0 : Int) < (m : Int) + 1) = true := by simp
    clear hB hW' h hf hcap hmax hnone hsome hok hn hi hue hu hm hg hw1
    go_enter Try.func24, Try.ntmps24
    go_wp2_with (with_reducible (rw [hW]; clear hW))
    refine bodyPost_ret (results_cell rfl rfl R) rfl ⟨rfl, HB.out⟩
end Go.Proofs.Ytfmgaakbfphpbaa

/- The document's own disk: New. -/
namespace Go.Proofs.Ytfmgaakbfphpbaa
open Go.RowKit
set_option linter.unusedVariables false
attribute [-simp] Try.isAgg59 Try.zeroValue59
attribute [-go_sem] loadVar storeVar
attribute [local go_sem] zero_blk build_blk loadVar_open storeVar_open

set_option maxRecDepth 100000 in
theorem info_vs : (Try.prog.info? 62).map (fun i => (i.zero, i.size, i.bytes)) = some (some (.slice none 0 0), 1, 24) := by kernel_rfl

/-- Zeros are a disk. -/
theorem ref_zero {w : World} {rq ss vb n : Nat} (hr : w.heap[rq]? = some (.cells #[.slice (some ⟨ss, 0, none⟩) n n, .slice (some ⟨vb, 0, none⟩) n n] 65 (0, 0))) (hs : w.heap[ss]? = some (.cells (madeCells zarr (n * 64)) 59 (0, 0)))
    (hv : w.heap[vb]? = some (.cells (madeCells #[.slice none 0 0] (n * 1)) 62 (0, 0))) (d1 : rq ≠ ss) (d2 : rq ≠ vb) (d3 : ss ≠ vb) (hn : n ≤ 4096) :
    RefAt w rq ss vb n (fun _ => .slice none 0 0) (fun _ => zsec) := by
  have hc : ∀ i j, i < n → j < 64 → w.cell? ⟨ss, i * 64 + j, none⟩ = zarr[j]? := fun i j hi hj => by
    rw [cell_of_row _ _ _ _ _ _ hs]; exact made_get zarr 64 zarr_size (by omega) n i j hi hj
  have hcv : ∀ i, i < n → w.cell? ⟨vb, i, none⟩ = some (.slice none 0 0) := fun i hi => by
    have := made_get #[Value.slice none 0 0] 1 rfl (by omega) n i 0 hi (by omega)
    rw [cell_of_row _ _ _ _ _ _ hv]
    rw [Nat.mul_one, Nat.add_zero] at this
    simpa using this
  refine ⟨hr, d1, d2, d3, hn, fun _ _ => zsec_ok, fun i hi j x hx => ?_, fun j hj => ⟨?_, by simp [World.frozen?, hs]⟩, hcv, fun j hj => ⟨?_, by simp [World.frozen?, hv]⟩, fun _ _ => World.ownsRow_nil _ _ _ _, fun _ _ => by simp [Value.ownBlock], fun _ _ => by simp [Value.ownBlock], fun _ _ => by simp [Value.ownBlock]⟩
  · have hj : j < 64 := by have := (List.getElem?_eq_some_iff.1 hx).1; rw [zsec_ok.1.length] at this; exact this
    rw [hc i j hi hj, ← hx]
    show (fillB 0).toArray[j]? = (fillB 0)[j]?
    rw [List.getElem?_toArray]
  · have h1 := hc (j / 64) (j % 64) (by omega) (by omega)
    rw [show j / 64 * 64 + j % 64 = j by omega] at h1
    rw [Nat.zero_add, h1, Array.getElem?_eq_getElem (by rw [zarr_size]; omega)]; rfl
  · rw [Nat.zero_add, hcv j hj]; rfl

theorem new_end {w W W' : World} {ss vb n : Nat} (hs : W.heap[ss]? = some (.cells (madeCells zarr (n * 64)) 59 (0, 0))) (hv : W.heap[vb]? = some (.cells (madeCells #[.slice none 0 0] (n * 1)) 62 (0, 0)))
    (hne : ss ≠ vb) (b1 : w.heap.size ≤ ss) (b2 : w.heap.size ≤ vb) (hB : Below w.heap.size w W) (hn : n ≤ 4096)
    (hW' : W' = W.alloc (.cells #[.slice (some ⟨ss, 0, none⟩) n n, .slice (some ⟨vb, 0, none⟩) n n] 65 (0, 0))) :
    (∃ f, Ref W' W.heap.size n f (fun _ => zsec) ∧ ∀ k, f k → w.heap.size ≤ k) ∧ Below w.heap.size w W' := by
  subst hW'
  have l1 := (Array.getElem?_eq_some_iff.1 hs).1
  have l2 := (Array.getElem?_eq_some_iff.1 hv).1
  have hsz : w.heap.size ≤ W.heap.size := by omega
  refine ⟨⟨_, ⟨ss, vb, fun _ => .slice none 0 0, ref_zero ?_ ?_ ?_ (by omega) (by omega) hne hn, rfl⟩, ?_⟩, hB.alloc hsz _⟩
  · show (W.heap.push _)[W.heap.size]? = _; simp
  · rw [Below.heap_alloc _ _ _ l1]; exact hs
  · rw [Below.heap_alloc _ _ _ l2]; exact hv
  · rintro k (rfl | rfl | rfl | ⟨i, hi, hk⟩)
    · exact hsz
    · exact b1
    · exact b2
    · simp [Value.ownBlock] at hk

set_option maxRecDepth 100000 in
set_option maxHeartbeats 1000000 in
theorem refNew_no (n : Int) (w : World) (h : n < 1 ∨ 4096 < n) :
    Calls Try.prog 29 #[.int .i64 n] w fun e w' => e = .returned (.tuple #[.pointer none, .int .i64 1]) ∧ w' = w := by
  by_cases h1 : n < 1
  · have g1 : decide (n < 1) = true := by simpa using h1
    clear h
    go_enter Try.func29, Try.ntmps29
    go_wp2_with fail
    go_ret2
    exact ⟨rfl, rfl⟩
  · have g1 : decide (n < 1) = false := by simpa using h1
    have g2 : decide (4096 < n) = true := by simp; omega
    clear h h1
    go_enter Try.func29, Try.ntmps29
    go_wp2_with fail
    go_ret2
    exact ⟨rfl, rfl⟩

set_option maxRecDepth 100000 in
set_option maxHeartbeats 1000000 in
/-- **New**. -/
theorem refNew_yes (n : Nat) (w : World) (h1 : 1 ≤ n) (h2 : n ≤ 4096) :
    Calls Try.prog 29 #[.int .i64 (n : Int)] w fun e w' => ∃ rq, e = .returned (.tuple #[.pointer (some ⟨rq, 0, none⟩), .int .i64 0]) ∧ (∃ f, Ref w' rq n f (fun _ => zsec) ∧ ∀ k, f k → w.heap.size ≤ k) ∧ Below w.heap.size w w' := by
  obtain ⟨i0, hi, hz0, hz1, hz2⟩ := info_parts info_blk
  obtain ⟨i1, hj, hy0, hy1, hy2⟩ := info_parts info_vs
  have g1 : decide ((n : Int) < 1) = false := by simp; omega
  have g2 : decide (4096 < (n : Int)) = false := by simp; omega
  have hmx : Try.prog.follows .mixedOrders = true := by kernel_rfl
  go_enter Try.func29, Try.ntmps29
  go_wp2_with fail
  refine region_plan (fun _ => True) 4 (.takes [0, 2] (.two 1 3 (.one 3 .leaf) (.one 1 .leaf))) hmx (by kernel_rfl) (by intro c x v a w h; cases x <;> exact h) trivial ?_
  haveI : Nonempty {x : World // True} := ⟨⟨w, trivial⟩⟩
  repeat (rw [wpPlan_takes_cons]; simp only [nth_zero, nth_succ]; go_big_quiet_step (fail); refine wpQuiet_nil ?_)
  rw [wpPlan_takes_nil]
  refine ⟨?_, ?_⟩
  · simp only [nth_zero, nth_succ]
    go_wp2_with (first | (at_make; refine wpList_make_full _ rfl _ _ 62 rfl w.heap.size 59 i0 (.agg zarr) 64 Try.underlying62 hi hz0 hz1 .i64 .i64 _ _ n rfl rfl rfl rfl (by rw [hz2]; omega) (by unfold maxLen; omega) (by simp) ?_; intro w1 hown1 hgrow1))
    refine planPost_mk trivial ?_
    rw [wpPlan_one]
    simp only [nth_zero, nth_succ]
    go_wp2_with (first | (at_make; refine wpList_make_full _ rfl _ _ 63 rfl w.heap.size 62 i1 (.slice none 0 0) 1 Try.underlying63 hj hy0 hy1 .i64 .i64 _ _ n rfl rfl rfl rfl (by rw [hy2]; omega) (by unfold maxLen; omega) (by have := hgrow1.size; simp at this; omega) ?_; intro w2 hown2 hgrow2))
    refine planPost_mk trivial ?_
    rw [wpPlan_leaf]
    simp only [List.drop_succ_cons, List.drop_zero]
    go_wp2_with fail
    have hr1 := ownsRow_full hown1
    have hr2 := ownsRow_full hown2
    rw [Array.toArray_toList] at hr1 hr2
    have hl1 := (Array.getElem?_eq_some_iff.1 hr1).1
    have hB := (((Below.refl w.heap.size w).drew).grown hgrow1 (Nat.le_refl _) (fun k e => by cases e)).grown hgrow2 (by have := hgrow1.size; simp at this; omega) (fun k e => by cases e)
    have hE := new_end (w := w) (W := w2) (ss := w.heap.size) (vb := w1.heap.size) (n := n) (by rw [hgrow2.block w.heap.size hl1 (by simp)]; exact hr1) hr2 (by have : w.heap.size < w1.heap.size := hl1; omega) (Nat.le_refl _) (by have : w.heap.size < w1.heap.size := hl1; omega) hB h2 rfl
    go_ret2
    exact ⟨_, rfl, hE⟩
  · simp only [nth_zero, nth_succ]
    go_wp2_with (first | (at_make; refine wpList_make_full _ rfl _ _ 63 rfl w.heap.size 62 i1 (.slice none 0 0) 1 Try.underlying63 hj hy0 hy1 .i64 .i64 _ _ n rfl rfl rfl rfl (by rw [hy2]; omega) (by unfold maxLen; omega) (by simp) ?_; intro w1 hown1 hgrow1))
    refine planPost_mk trivial ?_
    rw [wpPlan_one]
    simp only [nth_zero, nth_succ]
    go_wp2_with (first | (at_make; refine wpList_make_full _ rfl _ _ 62 rfl w.heap.size 59 i0 (.agg zarr) 64 Try.underlying62 hi hz0 hz1 .i64 .i64 _ _ n rfl rfl rfl rfl (by rw [hz2]; omega) (by unfold maxLen; omega) (by have := hgrow1.size; simp at this; omega) ?_; intro w2 hown2 hgrow2))
    refine planPost_mk trivial ?_
    rw [wpPlan_leaf]
    simp only [List.drop_succ_cons, List.drop_zero]
    go_wp2_with fail
    have hr1 := ownsRow_full hown1
    have hr2 := ownsRow_full hown2
    rw [Array.toArray_toList] at hr1 hr2
    have hl1 := (Array.getElem?_eq_some_iff.1 hr1).1
    have hB := (((Below.refl w.heap.size w).drew).grown hgrow1 (Nat.le_refl _) (fun k e => by cases e)).grown hgrow2 (by have := hgrow1.size; simp at this; omega) (fun k e => by cases e)
    have hE := new_end (w := w) (W := w2) (ss := w1.heap.size) (vb := w.heap.size) (n := n) hr2 (by rw [hgrow2.block w.heap.size hl1 (by simp)]; exact hr1) (by have : w.heap.size < w1.heap.size := hl1; omega) (by have : w.heap.size < w1.heap.size := hl1; omega) (Nat.le_refl _) hB h2 rfl
    go_ret2
    exact ⟨_, rfl, hE⟩
end Go.Proofs.Ytfmgaakbfphpbaa

/- The document's own disk: what a write turns. -/
namespace Go.Proofs.Ytfmgaakbfphpbaa
open Go.RowKit
set_option linter.unusedVariables false

theorem RefAt.setV {w x : World} {rq ss vb n i : Nat} {sv : Nat → Value} {D : Nat → Sec} {v' : Value} {vs' : List (List Value)} (h : RefAt w rq ss vb n sv D) (hi : i < n) (hb : Below w.heap.size w x) (hvs : ∀ u ∈ vs', IsBlk u) (ho : x.ownsRow w.heap.size 59 64 v' vs'.length vs'.flatten) :
    RefAt (x.setCell ⟨vb, i, none⟩ v') rq ss vb n (upd sv i v') (upd D i ⟨(D i).c, vs'⟩) ∧ Turn (rfoot rq ss vb n sv) (rfoot rq ss vb n (upd sv i v')) w (x.setCell ⟨vb, i, none⟩ v') := by
  have hn : 0 < n := by omega
  have hx : RefAt x rq ss vb n sv D := h.kept fun k hk => hb.block k (h.lt hn hk)
  have lq := h.lt hn (.inl rfl)
  have ls := h.lt hn (.inr (.inl rfl))
  have lv := h.lt hn (.inr (.inr (.inl rfl)))
  have hnew : ∀ k, v'.ownBlock = some k → w.heap.size ≤ k := fun k hk => (ho.lt k hk).1
  have heq : ∀ k, k ≠ vb → (x.setCell ⟨vb, i, none⟩ v').heap[k]? = x.heap[k]? := fun k hk => Below.heap_setCell _ _ _ k hk
  refine ⟨⟨(heq rq h.d2).trans hx.head, h.d1, h.d2, h.d3, h.max, fun j hj => ?_, fun j hj => ?_, there_same hx.thereS (heq ss h.d3), fun j hj => ?_, World.there_setCells hx.thereV vb i [v'], fun j hj => ?_, fun j hj => ?_, fun j hj => ?_, fun j hj => ?_⟩, ?_⟩
  · by_cases e : j = i
    · subst e; rw [upd_same]; exact ⟨(h.ok j hj).1, hvs⟩
    · rw [upd_other _ _ e]; exact h.ok j hj
  · by_cases e : j = i
    · subst e; rw [upd_same]; exact rangeAt_same (hx.cont j hj) (heq ss h.d3)
    · rw [upd_other _ _ e]; exact rangeAt_same (hx.cont j hj) (heq ss h.d3)
  · by_cases e : j = i
    · subst e; rw [upd_same]; exact World.cell?_setCell_same' _ _ _ (by rw [hx.ver j hj]; rfl)
    · rw [upd_other _ _ e, World.cell?_setCell_other _ _ _ _ (fun e' => e (by cases e'; rfl))]; exact hx.ver j hj
  · by_cases e : j = i
    · subst e; rw [upd_same, upd_same]; exact ownsRow_same (ho.mono (Nat.zero_le _)) (fun g hg => heq g (by have := hnew g hg; omega))
    · rw [upd_other _ _ e, upd_other _ _ e]; exact ownsRow_same (hx.row j hj) (fun g hg => heq g (fun e' => h.a3 j hj (by rw [hg, e'])))
  · by_cases e : j = i
    · subst e; rw [upd_same]; exact fun e' => by have := hnew _ e'; omega
    · rw [upd_other _ _ e]; exact h.a1 j hj
  · by_cases e : j = i
    · subst e; rw [upd_same]; exact fun e' => by have := hnew _ e'; omega
    · rw [upd_other _ _ e]; exact h.a2 j hj
  · by_cases e : j = i
    · subst e; rw [upd_same]; exact fun e' => by have := hnew _ e'; omega
    · rw [upd_other _ _ e]; exact h.a3 j hj
  · have t0 : Turn (rfoot rq ss vb n sv) (rfoot rq ss vb n sv) w x := Turn.of_below hb
    refine ⟨t0.still, t0.others.trans (KeepsOthers.setCell x _ v'), fun k hk hf => (heq k (fun e => hf (.inr (.inr (.inl e))))).trans (hb.block k hk), ?_⟩
    rintro k (e | e | e | ⟨j, hj, hk⟩)
    · exact .inl (.inl e)
    · exact .inl (.inr (.inl e))
    · exact .inl (.inr (.inr (.inl e)))
    · by_cases e : j = i
      · subst e; rw [upd_same] at hk; exact .inr (hnew k hk)
      · rw [upd_other _ _ e] at hk; exact .inl (.inr (.inr (.inr ⟨j, hj, hk⟩)))

theorem RefAt.setS {w x : World} {rq ss vb n i : Nat} {sv : Nat → Value} {D : Nat → Sec} {b : List Value} (h : RefAt w rq ss vb n sv D) (hi : i < n) (hb : Below w.heap.size w x) (hB : IsBlk b) :
    RefAt (x.setCells ss (i * 64) b) rq ss vb n sv (upd D i ⟨b, (D i).vs⟩) ∧ Turn (rfoot rq ss vb n sv) (rfoot rq ss vb n sv) w (x.setCells ss (i * 64) b) := by
  have hn : 0 < n := by omega
  have hx : RefAt x rq ss vb n sv D := h.kept fun k hk => hb.block k (h.lt hn hk)
  have hl := hB.length
  have heq : ∀ k, k < x.heap.size → k ≠ ss → (x.setCells ss (i * 64) b).heap[k]? = x.heap[k]? := fun k hk hne => World.heap_setCells_other x ss (i * 64) b hk hne
  have lt : ∀ k, rfoot rq ss vb n sv k → k < x.heap.size := fun k hk => hx.lt hn hk
  refine ⟨⟨(heq rq (lt rq (.inl rfl)) h.d1).trans hx.head, h.d1, h.d2, h.d3, h.max, fun j hj => ?_, fun j hj => ?_, World.there_setCells hx.thereS ss (i * 64) b, fun j hj => (World.cell?_of_block (a := ⟨vb, j, none⟩) (heq vb (lt vb (.inr (.inr (.inl rfl)))) h.d3.symm)).trans (hx.ver j hj),
    there_same hx.thereV (heq vb (lt vb (.inr (.inr (.inl rfl)))) h.d3.symm), fun j hj => ?_, h.a1, h.a2, h.a3⟩, ?_⟩
  · by_cases e : j = i
    · subst e; rw [upd_same]; exact ⟨hB, (h.ok j hj).2⟩
    · rw [upd_other _ _ e]; exact h.ok j hj
  · by_cases e : j = i
    · subst e; rw [upd_same]
      exact World.rangeAt_setCells_same x ss (j * 64) b (fun m hm => by
        have := hx.thereS (j * 64 + m) (by rw [hl] at hm; omega)
        rwa [Nat.zero_add] at this)
    · rw [upd_other _ _ e]
      exact World.rangeAt_setCells_apart (hx.cont j hj) ss (i * 64) b (by rw [hl, (h.ok j hj).1.length]; omega)
  · have hr : (upd D i ⟨b, (D i).vs⟩ j).vs = (D j).vs := by
      by_cases e : j = i
      · subst e; rw [upd_same]
      · rw [upd_other _ _ e]
    rw [hr]
    exact ownsRow_same (hx.row j hj) (fun g hg => heq g (lt g (.inr (.inr (.inr ⟨j, hj, hg⟩)))) (fun e' => h.a2 j hj (by rw [hg, e'])))
  · have t0 : Turn (rfoot rq ss vb n sv) (rfoot rq ss vb n sv) w x := Turn.of_below hb
    exact ⟨still_trans t0.still (still_setCells ss b (i * 64) x), t0.others.trans (keepsOthers_setCells ss b (i * 64) x), fun k hk hf => (heq k (Nat.lt_of_lt_of_le hk hb.size) (fun e => hf (.inr (.inl e)))).trans (hb.block k hk), fun k hk => .inl hk⟩

set_option maxRecDepth 100000 in
/-- Versions appended to versions. -/
theorem append_vs (N : Nat) (w : World) (v u : Value) (vs us : List (List Value)) (hown : w.ownsRow N 59 64 v vs.length vs.flatten) (hu : w.ownsRow 0 59 64 u us.length us.flatten) (hok : ∀ x ∈ us, IsBlk x) (hlen : vs.length + us.length ≤ 1000000) (hN : N ≤ w.heap.size) :
    ∃ v' w', (Builtin.append_ #[62, 62] 62 #[v, u]).run Try.prog w = .ok v' w' ∧ w'.ownsRow N 59 64 v' (vs ++ us).length (vs ++ us).flatten ∧ w.grownBy w' v.ownBlock ∧ (v'.ownBlock = v.ownBlock ∨ v'.ownBlock = some w.heap.size) := by
  obtain ⟨i0, hi, hz0, hz1, hz2⟩ := info_parts info_blk3
  rcases hu.2 with ⟨rfl, h0⟩ | ⟨g, cap, cur, rfl, _⟩
  · obtain rfl := List.eq_nil_of_length_eq_zero h0
    exact ⟨v, w, run_append_owned_none (P := Try.prog) (w := w) N 62 62 59 i0 64 Try.underlying62 hi v vs.length _ hown, by simpa using hown, World.grownBy.refl _ _, .inl rfl⟩
  · obtain ⟨v', w', hr, h1, h2, _, h3⟩ := run_append_own_at (P := Try.prog) w N 62 62 59 i0 (.agg zarr) 64 64 Try.underlying62 hi hz0 hz1 hz2 zarr_size (by omega) v vs.length vs.flatten hown
      ⟨g, 0, none⟩ us.length cap us.flatten hu.1 (hu.cells rfl) (fun x hx => by obtain ⟨y, hy, hxy⟩ := List.mem_flatten.1 hx; exact (hok y hy).one x hxy) (by unfold maxLen; omega) (by omega) hN
    exact ⟨v', w', hr, by simpa using h1, h2, h3⟩

set_option maxRecDepth 100000 in
theorem slice_zero (w : World) : (Instr.buildSlice 62 0 #[]).run Try.prog w = .ok (.slice (some ⟨w.heap.size, 0, none⟩) 0 0) (w.alloc (.cells #[] 59)) := by
  obtain ⟨i0, hi, hz0, hz1, hz2⟩ := info_parts info_blk
  have hu : Try.prog.underlying 62 = some (.slice 59) := by kernel_rfl
  simp [Instr.buildSlice, run_underlying hu, sizeOf, typeInfo, hi, Instr.fill, newRow]
  rw [show Array.range 0 = #[] by decide, Array.map_empty]
end Go.Proofs.Ytfmgaakbfphpbaa

/- The document's own disk: Write. -/
namespace Go.Proofs.Ytfmgaakbfphpbaa
open Go.RowKit
set_option linter.unusedVariables false
attribute [-simp] Try.isAgg59 Try.zeroValue59
attribute [-go_sem] loadVar storeVar
attribute [local go_sem] zero_blk build_blk loadVar_open storeVar_open

/-- A row of its own, made since W. -/
def Own (W x : World) (v : Value) (vs : List (List Value)) : Prop := x.ownsRow W.heap.size 59 64 v vs.length vs.flatten
/-- A block of its own, made since W. -/
def One (W x : World) (B : Nat) (b : List Value) : Prop := W.heap.size ≤ B ∧ B < x.heap.size ∧ x.rangeAt B 0 b

theorem One.alloc {W x : World} {B : Nat} {b : List Value} (h : One W x B b) (o : Obj) : One W (x.alloc o) B b := ⟨h.1, by have := h.2.1; simp; omega, World.rangeAt_alloc h.2.2 o⟩
theorem one_new {W x : World} (hb : Below W.heap.size W x) {b : List Value} (hB : IsBlk b) : One W (x.alloc (.cells b.toArray 59)) x.heap.size b :=
  ⟨hb.size, by simp, fun j u hj => by rw [cell_of_row _ _ _ _ _ _ (heap_alloc_new x _)]; simpa using hj⟩
theorem own_new {W x : World} (hb : Below W.heap.size W x) : Own W (x.alloc (.cells #[] 59)) (.slice (some ⟨x.heap.size, 0, none⟩) 0 0) [] :=
  World.ownsRow_lit x #[] 0 hb.size (by unfold maxLen; omega) rfl

set_option maxRecDepth 100000 in
theorem Own.append {W x : World} {v u : Value} {vs us : List (List Value)} (h : Own W x v vs) (hb : Below W.heap.size W x) (hu : x.ownsRow 0 59 64 u us.length us.flatten) (hok : ∀ x ∈ us, IsBlk x) (hlen : vs.length + us.length ≤ 1000000) :
    ∃ v' x', (Builtin.append_ #[62, 62] 62 #[v, u]).run Try.prog x = .ok v' x' ∧ Own W x' v' (vs ++ us) ∧ Below W.heap.size W x' ∧ ∀ B b, One W x B b → v.ownBlock ≠ some B → One W x' B b := by
  obtain ⟨v', x', h1, h2, h3, h4⟩ := append_vs W.heap.size x v u vs us h hu hok hlen hb.size
  refine ⟨v', x', h1, h2, hb.grown h3 hb.size (fun k hk => (h.lt k hk).1), fun B b hB hne => ⟨hB.1, Nat.lt_of_lt_of_le hB.2.1 h3.size, fun j x hx => h3.cell (hB.2.2 j x hx) (fun e => hne e.symm)⟩⟩
set_option maxRecDepth 100000 in
theorem Own.push {W x : World} {v : Value} {vs : List (List Value)} {B : Nat} {b : List Value} (h : Own W x v vs) (hb : Below W.heap.size W x) (hB : One W x B b) (hok : IsBlk b) (hlen : vs.length ≤ 1000000) :
    ∃ v' x', (Builtin.append_ #[62, 62] 62 #[v, .slice (some ⟨B, 0, none⟩) 1 1]).run Try.prog x = .ok v' x' ∧ Own W x' v' (vs ++ [b]) ∧ Below W.heap.size W x' := by
  obtain ⟨v', x', h1, h2, h3, h4⟩ := append_blk W.heap.size x v vs b B h hok hB.2.2 hlen hb.size
  exact ⟨v', x', h1, h2, hb.grown h3 hb.size (fun k hk => (h.lt k hk).1)⟩
theorem Own.form {W x : World} {v : Value} {vs : List (List Value)} (h : Own W x v vs) : ∃ a cap, v = .slice a vs.length cap := by
  rcases h.2 with ⟨rfl, h0⟩ | ⟨g, cap, cur, rfl, _⟩
  · exact ⟨none, 0, by rw [h0]⟩
  · exact ⟨_, _, rfl⟩

set_option maxRecDepth 100000 in
set_option maxHeartbeats 2000000 in
/-- **Write**. -/
theorem refWrite (rq n i : Nat) (f : Nat → Prop) (D : Nat → Sec) (b : List Value) (w : World) (h : Ref w rq n f D) (hi : i < n) (hb : IsBlk b) (hlen : (D i).vs.length ≤ 500000) :
    Calls Try.prog 50 #[.pointer (some ⟨rq, 0, none⟩), .int .i64 (i : Int), .agg b.toArray] w fun e w' => e = .returned (.tuple #[]) ∧ ∃ f', Ref w' rq n f' (upd D i ⟨(D i).c, (D i).vs ++ [b]⟩) ∧ Turn f f' w w' := by
  obtain ⟨ss, vb, sv, h, rfl⟩ := h
  have hn : 0 < n := by omega
  obtain ⟨W, hW⟩ : ∃ W, w.alloc (.cells b.toArray 59) = W := ⟨_, rfl⟩
  have hsz : W.heap.size = w.heap.size + 1 := by rw [← hW]; simp
  have hB0 : Below w.heap.size w W := by rw [← hW]; exact (Below.refl _ w).alloc (Nat.le_refl _) _
  have h' : RefAt W rq ss vb n sv D := h.kept fun k hk => hB0.block k (h.lt hn hk)
  have r1 : W.rangeAt w.heap.size 0 b := by
    rw [← hW]; intro j x hx
    rw [cell_of_row _ _ _ _ _ _ (heap_alloc_new w _)]; simpa using hx
  -- whatever is made since
  have key : ∀ x : Ext W, RefAt x.1 rq ss vb n sv D := fun x => h'.kept fun k hk => x.2.block k (h'.lt hn hk)
  have hC0 : ∀ x : Ext W, x.1.cell? ⟨rq, 1, none⟩ = some (.slice (some ⟨vb, 0, none⟩) n n) := fun x => by rw [cell_of_row _ _ _ _ _ _ (key x).head]; rfl
  have hC1 : ∀ x : Ext W, x.1.cell? ⟨vb, i, none⟩ = some (sv i) := fun x => (key x).ver i hi
  have hL : ∀ x : Ext W, (loadVar 59 ⟨w.heap.size, 0, none⟩).run Try.prog x.1 = .ok (.agg b.toArray) x.1 := fun x => load_blk (rangeAt_same r1 (x.2.block _ (by omega))) hb.length
  have hF : ∀ x : Ext W, x.1.frozen? ⟨vb, i, none⟩ = false := fun x => by have := ((key x).thereV i hi).2; rwa [Nat.zero_add] at this
  have K0 : Hid (∃ y : Ext W, W.drew = y.1) := ⟨⟨W.drew, (Below.refl _ W).drew⟩, rfl⟩
  have HE : Hid (∀ x : World, (Instr.buildSlice 62 0 #[]).run Try.prog x = .ok (.slice (some ⟨x.heap.size, 0, none⟩) 0 0) (x.alloc (.cells #[] 59))) := slice_zero
  have HO : Hid (∀ x : World, (Instr.buildSlice 62 1 #[(0, .agg b.toArray)]).run Try.prog x = .ok (.slice (some ⟨x.heap.size, 0, none⟩) 1 1) (x.alloc (.cells b.toArray 59))) := fun x => slice_one x b hb.length
  have HAl : Hid (∀ (x : World) (o : Obj), (∃ y : Ext W, x = y.1) → ∃ y : Ext W, x.alloc o = y.1) := by
    rintro x o ⟨y, rfl⟩
    exact ⟨⟨y.1.alloc o, y.2.alloc y.2.size o⟩, rfl⟩
  have HEn : Hid (∀ x : World, (∃ y : Ext W, x = y.1) → Own W (x.alloc (.cells #[] 59)) (.slice (some ⟨x.heap.size, 0, none⟩) 0 0) []) := by rintro x ⟨y, rfl⟩; exact own_new y.2
  have HOn : Hid (∀ x : World, (∃ y : Ext W, x = y.1) → One W (x.alloc (.cells b.toArray 59)) x.heap.size b) := by rintro x ⟨y, rfl⟩; exact one_new y.2 hb
  have HCp : Hid (∀ (x : World) (B0 : Nat), (∃ y : Ext W, x = y.1) → Own W x (.slice (some ⟨B0, 0, none⟩) 0 0) [] →
      ∃ v' x', (Builtin.append_ #[62, 62] 62 #[.slice (some ⟨B0, 0, none⟩) 0 0, sv i]).run Try.prog x = .ok v' x' ∧ Own W x' v' (D i).vs ∧ (∃ y : Ext W, x' = y.1) ∧ ∀ B b, One W x B b → B0 ≠ B → One W x' B b) := by
    rintro x B0 ⟨y, rfl⟩ ho
    obtain ⟨v', x', h1, h2, h3, h4⟩ := ho.append y.2 ((key y).row i hi) (h.ok i hi).2 (by simp; omega)
    exact ⟨v', x', h1, by simpa using h2, ⟨⟨x', h3⟩, rfl⟩, fun B b hB hne => h4 B b hB (by simp [Value.ownBlock]; exact hne)⟩
  have HPu : Hid (∀ (x : World) (v : Value) (B : Nat), (∃ y : Ext W, x = y.1) → Own W x v (D i).vs → One W x B b →
      ∃ a cap x', (Builtin.append_ #[62, 62] 62 #[v, .slice (some ⟨B, 0, none⟩) 1 1]).run Try.prog x = .ok (.slice a ((D i).vs.length + 1) cap) x' ∧ Own W x' (.slice a ((D i).vs.length + 1) cap) ((D i).vs ++ [b]) ∧ ∃ y : Ext W, x' = y.1) := by
    rintro x v B ⟨y, rfl⟩ ho hB
    obtain ⟨v', x', h1, h2, h3⟩ := ho.push y.2 hB hb (by omega)
    obtain ⟨a, cap, hv⟩ := h2.form
    rw [List.length_append, List.length_singleton] at hv
    subst hv
    exact ⟨a, cap, x', h1, h2, ⟨x', h3⟩, rfl⟩
  have HEnd : Hid (∀ (x : World) (v : Value), (∃ y : Ext W, x = y.1) → Own W x v ((D i).vs ++ [b]) → ∃ f', Ref (x.setCell ⟨vb, i, none⟩ v) rq n f' (upd D i ⟨(D i).c, (D i).vs ++ [b]⟩) ∧ Turn (rfoot rq ss vb n sv) f' w (x.setCell ⟨vb, i, none⟩ v)) := by
    rintro x v ⟨y, rfl⟩ ho
    obtain ⟨g1, g2⟩ := h'.setV hi y.2 (fun u hu => by rcases List.mem_append.1 hu with hu | hu; exact (h.ok i hi).2 u hu; simp at hu; exact hu ▸ hb) ho
    exact ⟨_, ⟨ss, vb, _, g1, rfl⟩, (Turn.of_below hB0).trans g2⟩
  have g1 : (i : Int) < (n : Int) := by omega
  have hmx : Try.prog.follows .mixedOrders = true := by kernel_rfl
  obtain ⟨u, hu⟩ : ∃ u, sv i = u := ⟨_, rfl⟩
  rw [hu] at hC1 HCp
  have hCu := hC1
  clear h h' hB0 r1 key hu hlen hsz
  go_enter Try.func50, Try.ntmps50
  go_wp2_with (with_reducible (rw [hW]; clear hW))
  refine region_plan (fun x => ∃ y : Ext W, x = y.1) 17 (.takes [0, 1, 2, 3, 4, 6, 7, 8, 9, 10, 11, 12, 14] (.two 5 15 (.two 13 15 (.one 15 (.one 16 .leaf)) (.one 13 (.one 16 .leaf))) (.one 5 (.one 13 (.one 16 .leaf))))) hmx (by kernel_rfl) (by intro c x v a w h; cases x <;> exact h) K0.out ?_
  repeat (rw [wpPlan_takes_cons]; simp only [nth_zero, nth_succ]; go_big_quiet_step (fail); refine wpQuiet_nil ?_)
  rw [wpPlan_takes_nil]
  refine ⟨?_, ?_⟩
  · obtain ⟨x1, hx1⟩ : ∃ x, W.drew.alloc (.cells #[] 59) = x := ⟨_, rfl⟩
    have k1 : Hid (∃ y : Ext W, x1 = y.1) := by rw [← hx1]; exact HAl.out _ _ K0.out
    have o1 : Hid (Own W x1 (.slice (some ⟨W.heap.size, 0, none⟩) 0 0) []) := by rw [← hx1]; exact HEn.out _ K0.out
    have s1 : Hid (W.heap.size < x1.heap.size) := by rw [← hx1]; show _ < _; simp
    simp only [nth_zero, nth_succ]
    (with_reducible refine gate_build ?_)
    refine wpList_build_run _ _ _ rfl rfl [] _ rfl (HE.out _) ?_
    rw [hx1]
    go_wp2_with fail
    refine planPost_mk k1.out ?_
    clear hx1
    refine ⟨?_, ?_⟩
    · obtain ⟨v1, x2, r2, o2, k2, t2⟩ := HCp.out x1 _ k1.out o1.out
      have R2 := Lib.hid r2
      have K2 := Lib.hid k2
      obtain ⟨x3, hx3⟩ : ∃ x, x2.alloc (.cells b.toArray 59) = x := ⟨_, rfl⟩
      have k3 : Hid (∃ y : Ext W, x3 = y.1) := by rw [← hx3]; exact HAl.out _ _ k2
      have o3 : Hid (Own W x3 v1 (D i).vs) := by rw [← hx3]; exact World.ownsRow.alloc o2 _
      have n3 : Hid (One W x3 x2.heap.size b) := by rw [← hx3]; exact HOn.out _ k2
      obtain ⟨a4, cap4, x4, r4, q4, k4⟩ := HPu.out x3 v1 _ k3.out o3.out n3.out
      have R4 := Lib.hid r4
      have o4 := Lib.hid q4
      replace k4 := Lib.hid k4
      clear r2 k2 o2 t2 r4 q4
      simp only [nth_zero, nth_succ]
      refine wpList_append_run (.tmp 11) (.tmp 18) 62 rfl rfl _ _ _ rfl rfl R2.out ?_
      go_wp2_with fail
      refine planPost_mk K2.out ?_
      rw [wpPlan_one]
      simp only [nth_zero, nth_succ]
      (with_reducible refine gate_build ?_)
      refine wpList_build_run _ _ _ rfl rfl [(0, .agg b.toArray)] _ rfl (HO.out _) ?_
      rw [hx3]
      go_wp2_with fail
      refine planPost_mk k3.out ?_
      clear hx3
      rw [wpPlan_one]
      simp only [nth_zero, nth_succ]
      refine wpList_append_run (.tmp 19) (.tmp 21) 62 rfl rfl _ _ _ rfl rfl R4.out ?_
      go_wp2_with fail
      refine planPost_mk k4.out ?_
      rw [wpPlan_leaf]
      simp only [List.drop_succ_cons, List.drop_zero]
      have c4 : x4.cell? ⟨vb, i, none⟩ = some u := by obtain ⟨y, rfl⟩ := k4.out; exact hC1 y
      have f4 : x4.frozen? ⟨vb, i, none⟩ = false := by obtain ⟨y, rfl⟩ := k4.out; exact hF y
      go_wp2_with fail
      go_end0
      exact ⟨rfl, HEnd.out _ _ k4.out o4.out⟩
    · obtain ⟨x2, hx2⟩ : ∃ x, x1.alloc (.cells b.toArray 59) = x := ⟨_, rfl⟩
      have k2 : Hid (∃ y : Ext W, x2 = y.1) := by rw [← hx2]; exact HAl.out _ _ k1.out
      have o2 : Hid (Own W x2 (.slice (some ⟨W.heap.size, 0, none⟩) 0 0) []) := by rw [← hx2]; exact World.ownsRow.alloc o1.out _
      have n2 : Hid (One W x2 x1.heap.size b) := by rw [← hx2]; exact HOn.out _ k1.out
      obtain ⟨v1, x3, r3, o3, k3, t3⟩ := HCp.out x2 _ k2.out o2.out
      have n3 := t3 _ _ n2.out (Nat.ne_of_lt s1.out)
      obtain ⟨a4, cap4, x4, r4, q4, k4⟩ := HPu.out x3 v1 _ k3 o3 n3
      have R3 := Lib.hid r3
      have K3 := Lib.hid k3
      have R4 := Lib.hid r4
      have o4 := Lib.hid q4
      replace k4 := Lib.hid k4
      clear r3 k3 o3 t3 n3 r4 q4
      simp only [nth_zero, nth_succ]
      (with_reducible refine gate_build ?_)
      refine wpList_build_run _ _ _ rfl rfl [(0, .agg b.toArray)] _ rfl (HO.out _) ?_
      rw [hx2]
      go_wp2_with fail
      refine planPost_mk k2.out ?_
      clear hx2
      rw [wpPlan_one]
      simp only [nth_zero, nth_succ]
      refine wpList_append_run (.tmp 11) (.tmp 18) 62 rfl rfl _ _ _ rfl rfl R3.out ?_
      go_wp2_with fail
      refine planPost_mk K3.out ?_
      rw [wpPlan_one]
      simp only [nth_zero, nth_succ]
      refine wpList_append_run (.tmp 19) (.tmp 21) 62 rfl rfl _ _ _ rfl rfl R4.out ?_
      go_wp2_with fail
      refine planPost_mk k4.out ?_
      rw [wpPlan_leaf]
      simp only [List.drop_succ_cons, List.drop_zero]
      have c4 : x4.cell? ⟨vb, i, none⟩ = some u := by obtain ⟨y, rfl⟩ := k4.out; exact hC1 y
      have f4 : x4.frozen? ⟨vb, i, none⟩ = false := by obtain ⟨y, rfl⟩ := k4.out; exact hF y
      go_wp2_with fail
      go_end0
      exact ⟨rfl, HEnd.out _ _ k4.out o4.out⟩
  · obtain ⟨x1, hx1⟩ : ∃ x, W.drew.alloc (.cells b.toArray 59) = x := ⟨_, rfl⟩
    have k1 : Hid (∃ y : Ext W, x1 = y.1) := by rw [← hx1]; exact HAl.out _ _ K0.out
    have n1 : Hid (One W x1 W.heap.size b) := by rw [← hx1]; exact HOn.out _ K0.out
    obtain ⟨x2, hx2⟩ : ∃ x, x1.alloc (.cells #[] 59) = x := ⟨_, rfl⟩
    have k2 : Hid (∃ y : Ext W, x2 = y.1) := by rw [← hx2]; exact HAl.out _ _ k1.out
    have o2 : Hid (Own W x2 (.slice (some ⟨x1.heap.size, 0, none⟩) 0 0) []) := by rw [← hx2]; exact HEn.out _ k1.out
    have n2 : Hid (One W x2 W.heap.size b) := by rw [← hx2]; exact n1.out.alloc _
    obtain ⟨v1, x3, r3, o3, k3, t3⟩ := HCp.out x2 _ k2.out o2.out
    have n3 := t3 _ _ n2.out (Nat.ne_of_gt n1.out.2.1)
    obtain ⟨a4, cap4, x4, r4, q4, k4⟩ := HPu.out x3 v1 _ k3 o3 n3
    have R3 := Lib.hid r3
    have K3 := Lib.hid k3
    have R4 := Lib.hid r4
    have o4 := Lib.hid q4
    replace k4 := Lib.hid k4
    clear r3 k3 o3 t3 n3 r4 q4
    simp only [nth_zero, nth_succ]
    (with_reducible refine gate_build ?_)
    refine wpList_build_run _ _ _ rfl rfl [(0, .agg b.toArray)] _ rfl (HO.out _) ?_
    rw [hx1]
    go_wp2_with fail
    refine planPost_mk k1.out ?_
    clear hx1
    rw [wpPlan_one]
    simp only [nth_zero, nth_succ]
    (with_reducible refine gate_build ?_)
    refine wpList_build_run _ _ _ rfl rfl [] _ rfl (HE.out _) ?_
    rw [hx2]
    go_wp2_with fail
    refine planPost_mk k2.out ?_
    clear hx2
    rw [wpPlan_one]
    simp only [nth_zero, nth_succ]
    refine wpList_append_run (.tmp 11) (.tmp 18) 62 rfl rfl _ _ _ rfl rfl R3.out ?_
    go_wp2_with fail
    refine planPost_mk K3.out ?_
    rw [wpPlan_one]
    simp only [nth_zero, nth_succ]
    refine wpList_append_run (.tmp 19) (.tmp 21) 62 rfl rfl _ _ _ rfl rfl R4.out ?_
    go_wp2_with fail
    refine planPost_mk k4.out ?_
    rw [wpPlan_leaf]
    simp only [List.drop_succ_cons, List.drop_zero]
    have c4 : x4.cell? ⟨vb, i, none⟩ = some u := by obtain ⟨y, rfl⟩ := k4.out; exact hC1 y
    have f4 : x4.frozen? ⟨vb, i, none⟩ = false := by obtain ⟨y, rfl⟩ := k4.out; exact hF y
    go_wp2_with fail
    go_end0
    exact ⟨rfl, HEnd.out _ _ k4.out o4.out⟩
end Go.Proofs.Ytfmgaakbfphpbaa

/- The document's own disk: Flush. -/
namespace Go.Proofs.Ytfmgaakbfphpbaa
open Go.RowKit
set_option linter.unusedVariables false
attribute [-simp] Try.isAgg59 Try.zeroValue59
attribute [-go_sem] loadVar storeVar
attribute [local go_sem] zero_blk build_blk loadVar_open storeVar_open

/-- Of the first k sectors the last versions. -/
def flTo (D : Nat → Sec) (k : Nat) : Nat → Sec := fun j => if j < k then ⟨(D j).look, []⟩ else D j
theorem flTo_zero (D : Nat → Sec) : flTo D 0 = D := by funext j; simp [flTo]
theorem flTo_succ (D : Nat → Sec) (k : Nat) : flTo D (k + 1) = upd (flTo D k) k ⟨(D k).look, []⟩ := by
  funext j
  by_cases e : j = k
  · subst e; rw [upd_same]; simp [flTo]
  · rw [upd_other _ _ e]
    unfold flTo
    by_cases h : j < k
    · rw [if_pos (by omega), if_pos h]
    · rw [if_neg (by omega), if_neg h]
theorem flTo_at (D : Nat → Sec) (k : Nat) : flTo D k k = D k := by simp [flTo]
/-- It is what Flush of the disk makes. -/
theorem flTo_settled (D : Nat → Sec) (n : Nat) : settled D (fun j => (D j).vs.length) (looseTo D n) = flTo D n := by
  funext j
  unfold flTo
  by_cases h : j < n
  · rw [if_pos h]
    have h1 := flushed_none D n j h
    have h2 := flushed_c D n j h
    cases e : settled D (fun j => (D j).vs.length) (looseTo D n) j with
    | mk c vs => rw [e] at h1 h2; simp only at h1 h2; rw [h1, h2]
  · rw [if_neg h, settled_not (fun hm => h (looseTo_lt hm))]

/-- What is so far. -/
def RPart (w : World) (rq ss vb n : Nat) (f : Nat → Prop) (D' : Nat → Sec) (W : World) : Prop := ∃ sv, RefAt W rq ss vb n sv D' ∧ Turn f (rfoot rq ss vb n sv) w W

set_option maxRecDepth 100000 in
set_option maxHeartbeats 4000000 in
/-- **Flush**. -/
theorem refFlush (rq n : Nat) (f : Nat → Prop) (D : Nat → Sec) (w : World) (h : Ref w rq n f D) :
    Calls Try.prog 55 #[.pointer (some ⟨rq, 0, none⟩)] w fun e w' => e = .returned (.tuple #[]) ∧ ∃ f', Ref w' rq n f' (flTo D n) ∧ Turn f f' w w' := by
  obtain ⟨ss, vb, sv0, h, rfl⟩ := h
  have HM : Hid (n ≤ maxLen) := Nat.le_trans h.max (by unfold maxLen; omega)
  have HP : Hid (RPart w rq ss vb n (rfoot rq ss vb n sv0) (flTo D 0) w) := by rw [flTo_zero]; exact ⟨sv0, h, Turn.refl _ _⟩
  clear h
  have hmx : Try.prog.follows .mixedOrders = true := by kernel_rfl
  go_enter Try.func55, Try.ntmps55
  go_wp2
  go_loopw [2] (fun i wr => ∃ k : Nat, k ≤ n ∧ i = .int .i64 k ∧ RPart w rq ss vb n (rfoot rq ss vb n sv0) (flTo D k) wr) (fun i _ => n - (intOf i).toNat)
  case atStart => exact ⟨0, Nat.zero_le _, rfl, HP.out⟩
  case round =>
    obtain ⟨k, hk, rfl, sv, hR, hT⟩ := hrel
    have c0 : wr.cell? ⟨rq, 0, none⟩ = some (.slice (some ⟨ss, 0, none⟩) n n) := by rw [cell_of_row _ _ _ _ _ _ hR.head]; rfl
    by_cases hlt : k < n
    · have hn : 0 < n := by omega
      have key : ∀ x : Ext wr, RefAt x.1 rq ss vb n sv (flTo D k) := fun x => hR.kept fun q hq => x.2.block q (hR.lt hn hq)
      have hC0 : ∀ x : Ext wr, x.1.cell? ⟨rq, 0, none⟩ = some (.slice (some ⟨ss, 0, none⟩) n n) := fun x => by rw [cell_of_row _ _ _ _ _ _ (key x).head]; rfl
      have HRd := Lib.hid (refRead rq n k _ _ wr.drew ⟨ss, vb, sv, key ⟨wr.drew, (Below.refl _ wr).drew⟩, rfl⟩ hlt)
      rw [flTo_at] at HRd
      have hok : IsBlk (D k).look := by have := (hR.ok k hlt).look; rwa [flTo_at] at this
      obtain ⟨u, hu⟩ : ∃ u, (D k).look = u := ⟨_, rfl⟩
      rw [hu] at HRd hok
      have HSt : Hid (∀ x : Ext wr, ∃ x2, (storeVar 59 ⟨ss, k * 64, none⟩ (.agg u.toArray)).run Try.prog x.1 = .ok () x2 ∧ x2.cell? ⟨rq, 1, none⟩ = some (.slice (some ⟨vb, 0, none⟩) n n) ∧ (∃ v, x2.cell? ⟨vb, k, none⟩ = some v) ∧ x2.frozen? ⟨vb, k, none⟩ = false ∧ RPart w rq ss vb n (rfoot rq ss vb n sv0) (flTo D (k + 1)) (x2.setCell ⟨vb, k, none⟩ (.slice none 0 0))) := by
        intro x
        have hx := key x
        obtain ⟨g1, g2⟩ := hR.setS hlt x.2 hok
        refine ⟨_, store_blk (fun j hj => ?_) hok, ?_, ⟨_, g1.ver k hlt⟩, ?_, ?_⟩
        · have := hx.thereS (k * 64 + j) (by omega)
          rwa [Nat.zero_add] at this
        · rw [cell_of_row _ _ _ _ _ _ g1.head]; rfl
        · have := (g1.thereV k hlt).2; rwa [Nat.zero_add] at this
        · obtain ⟨q1, q2⟩ := g1.setV (v' := .slice none 0 0) (vs' := []) hlt (Below.refl _ _) (by simp) (World.ownsRow_nil _ _ _ _)
          refine ⟨_, ?_, (hT.trans g2).trans q2⟩
          rw [flTo_succ, hu]
          have e : upd (upd (flTo D k) k ⟨u, (flTo D k k).vs⟩) k ⟨(upd (flTo D k) k ⟨u, (flTo D k k).vs⟩ k).c, []⟩ = upd (flTo D k) k ⟨u, []⟩ := by
            funext j
            by_cases ej : j = k
            · subst ej; rw [upd_same, upd_same, upd_same]
            · rw [upd_other _ _ ej, upd_other _ _ ej, upd_other _ _ ej]
          rw [← e]; exact q1
      have g1 : (k : Int) < (n : Int) := by omega
      have HLT := Lib.hid hlt
      have HW : Hid (wrap64 ((k : Int) + 1) = (k : Int) + 1) := IntWalk.wrap64_in _ (by have := HM.out; unfold maxLen at this; omega)
      clear hlt hk hR hT key hn hok hu
      go_wp2_with fail
      refine region_plan (fun x => ∃ y : Ext wr, x = y.1) 8 (.takes [0, 1, 2, 3, 4, 5, 6] (.one 7 .leaf)) hmx (by kernel_rfl) (by intro c x v a w h; cases x <;> exact h) ⟨⟨wr.drew, (Below.refl _ wr).drew⟩, rfl⟩ ?_
      repeat (rw [wpPlan_takes_cons]; simp only [nth_zero, nth_succ]; go_big_quiet_step (fail); refine wpQuiet_nil ?_)
      rw [wpPlan_takes_nil, wpPlan_one]
      simp only [nth_zero, nth_succ]
      go_wp2_with fail
      refine HRd.out.mono ?_
      rintro e x1 ⟨rfl, hb⟩
      have X1 : Hid (Below wr.heap.size wr x1) := (Below.refl _ wr).drew.trans hb
      clear hb
      go_wp2_with fail
      refine planPost_mk ⟨⟨x1, X1.out⟩, rfl⟩ ?_
      rw [wpPlan_leaf]
      simp only [List.drop_succ_cons, List.drop_zero]
      obtain ⟨x2, s1, s2, ⟨v, s3⟩, s4, s5⟩ := HSt.out ⟨x1, X1.out⟩
      have S5 := Lib.hid s5
      clear s5
      go_wp2_with fail
      exact ⟨next_rel (C := fun k => RPart w rq ss vb n (rfoot rq ss vb n sv0) (flTo D k) _) HW.out HLT.out S5.out, next_lt HW.out HLT.out⟩
    · obtain rfl : k = n := by omega
      have HE : Hid (∃ f', Ref wr rq k f' (flTo D k) ∧ Turn (rfoot rq ss vb k sv0) f' w wr) := ⟨_, ⟨ss, vb, sv, hR, rfl⟩, hT⟩
      clear hR hT hk
      go_wp2_with fail
      go_end0
      exact ⟨rfl, HE.out⟩
end Go.Proofs.Ytfmgaakbfphpbaa

/- What a rig's methods come to. -/
namespace Go.Proofs.Ytfmgaakbfphpbaa
open Go.RowKit Go.Shelf
set_option linter.unusedVariables false
attribute [-simp] Try.isAgg59 Try.zeroValue59
attribute [-go_sem] loadVar storeVar
attribute [local go_sem] zero_blk build_blk loadVar_open storeVar_open

/-- How many sectors; which there are; what one yields. -/
def RS.len (S : RS) (dev : Int) : Nat := if dev = 0 then S.n0 else if dev = 1 then S.n1 else 0
def RS.has (S : RS) (dev i : Int) : Bool := decide (0 ≤ i ∧ i < (S.len dev : Int))
def RS.look (S : RS) (dev : Int) (i : Nat) : List Value := if dev = 0 then (S.D0 i).look else (S.D1 i).look
/-- One version more; all flushed; a crash. -/
def RS.put (S : RS) (dev : Int) (i : Nat) (b : List Value) : RS := if dev = 0 then { S with D0 := upd S.D0 i ((S.D0 i).add b) } else { S with D1 := upd S.D1 i ((S.D1 i).add b) }
def RS.fl (S : RS) (dev : Int) : RS := if dev = 0 then { S with D0 := flTo S.D0 S.n0 } else { S with D1 := flTo S.D1 S.n1 }
noncomputable def RS.crash (S : RS) (b0 b1 : List Int) : RS := { S with D0 := settled S.D0 (crashG S.D0 b0) (looseTo S.D0 S.n0), D1 := settled S.D1 (crashG S.D1 b1) (looseTo S.D1 S.n1), fuse := -1, down := false }
def RS.read (S : RS) (dev i : Int) : List Value := if S.has dev i = true ∧ S.down = false then S.look dev i.toNat else fillB 0
def RS.readE (S : RS) (dev i : Int) : Int := if S.has dev i = true then (if S.down = true then 14 else 0) else 1
def RS.write (S : RS) (dev i : Int) (b : List Value) : RS := if S.has dev i = true then (if S.ok = true then S.after.put dev i.toNat b else S.after) else S
def RS.writeE (S : RS) (dev i : Int) : Int := if S.has dev i = true then (if S.ok = true then 0 else 14) else 1
def RS.flush (S : RS) (dev : Int) : RS := if dev = 0 ∨ dev = 1 then (if S.ok = true then S.after.fl dev else S.after) else S
def RS.flushE (S : RS) (dev : Int) : Int := if dev = 0 ∨ dev = 1 then (if S.ok = true then 0 else 14) else 1

theorem RS.after_same (S : RS) : S.after.n0 = S.n0 ∧ S.after.n1 = S.n1 ∧ S.after.D0 = S.D0 ∧ S.after.D1 = S.D1 := by unfold RS.after; split <;> exact ⟨rfl, rfl, rfl, rfl⟩
theorem RS.after_len (S : RS) (dev : Int) : S.after.len dev = S.len dev := by unfold RS.len; rw [S.after_same.1, S.after_same.2.1]

section
variable {rb p0 p1 : Nat} {S : RS} {w : World} {f : Nat → Prop}
theorem RigR.d0 (h : RigR rb p0 p1 S w f) : ∃ g, Disk w p0 S.n0 g S.D0 ∧ 0 < S.n0 := by
  obtain ⟨f1, f2, _, ⟨f3, f4, h1, h2, _⟩, _⟩ := h
  exact ⟨f3, h1⟩
theorem RigR.d1 (h : RigR rb p0 p1 S w f) : ∃ g, Disk w p1 S.n1 g S.D1 ∧ 0 < S.n1 := by
  obtain ⟨f1, f2, _, ⟨f3, f4, h1, h2, _⟩, _⟩ := h
  exact ⟨f4, h2⟩
theorem RigR.rb_lt (h : RigR rb p0 p1 S w f) : rb < w.heap.size := by
  obtain ⟨f1, f2, ⟨h1, _⟩, _⟩ := h
  exact (Array.getElem?_eq_some_iff.1 h1).1
theorem dk_cases (p0 p1 : Nat) (dev : Int) : (dev = 0 ∧ dk p0 p1 dev = some ⟨p0, 0, none⟩) ∨ (dev = 1 ∧ dk p0 p1 dev = some ⟨p1, 0, none⟩) ∨ (dev ≠ 0 ∧ dev ≠ 1 ∧ dk p0 p1 dev = none) := by
  by_cases h0 : dev = 0
  · exact .inl ⟨h0, by rw [h0]; rfl⟩
  · by_cases h1 : dev = 1
    · exact .inr (.inl ⟨h1, by rw [h1]; rfl⟩)
    · exact .inr (.inr ⟨h0, h1, by unfold dk; rw [if_neg h0, if_neg h1]⟩)

set_option maxRecDepth 100000 in
theorem RigR.disk (h : RigR rb p0 p1 S w f) (dev : Int) :
    Calls Try.prog 44 #[.pointer (some ⟨rb, 0, none⟩), .int .i64 dev] w fun e w' => e = .returned (.pointer (dk p0 p1 dev)) ∧ Below w.heap.size w w' :=
  disk_in rb p0 p1 dev w h.rb_lt (h.cell 0) (h.cell 1)
set_option maxRecDepth 100000 in
theorem RigR.lenOf (h : RigR rb p0 p1 S w f) (dev : Int) :
    Calls Try.prog 65 #[.pointer (dk p0 p1 dev)] w fun e w' => e = .returned (.int .i64 (S.len dev : Int)) ∧ w' = w := by
  rcases dk_cases p0 p1 dev with ⟨rfl, e⟩ | ⟨rfl, e⟩ | ⟨e0, e1, e⟩ <;> rw [e]
  · obtain ⟨g, h1, _⟩ := h.d0; exact len_at p0 S.n0 g S.D0 w h1
  · obtain ⟨g, h1, _⟩ := h.d1; exact len_at p1 S.n1 g S.D1 w h1
  · have : S.len dev = 0 := by unfold RS.len; rw [if_neg e0, if_neg e1]
    rw [this]; exact len_nil w
set_option maxRecDepth 100000 in
theorem RigR.hasOf (h : RigR rb p0 p1 S w f) (dev i : Int) :
    Calls Try.prog 45 #[.pointer (dk p0 p1 dev), .int .i64 i] w fun e w' => e = .returned (.bool (S.has dev i)) ∧ w' = w :=
  has_rig _ _ i w (h.lenOf dev)
theorem RS.has_lt {dev i : Int} (h : S.has dev i = true) : (dev = 0 ∨ dev = 1) ∧ ∃ k : Nat, i = (k : Int) ∧ k < S.len dev := by
  unfold RS.has at h
  have h := of_decide_eq_true h
  obtain ⟨k, rfl⟩ := Int.eq_ofNat_of_zero_le h.1
  refine ⟨?_, k, rfl, by omega⟩
  by_cases h0 : dev = 0
  · exact .inl h0
  · by_cases h1 : dev = 1
    · exact .inr h1
    · have : S.len dev = 0 := by unfold RS.len; rw [if_neg h0, if_neg h1]
      omega
set_option maxRecDepth 100000 in
/-- The disks' own methods, at a rig. -/
theorem RigR.readOf (h : RigR rb p0 p1 S w f) {dev i : Int} (hi : S.has dev i = true) :
    Calls Try.prog 51 #[.pointer (dk p0 p1 dev), .int .i64 i] w fun e w' => e = .returned (.tuple #[.agg (S.look dev i.toNat).toArray, .int .i64 0]) ∧ Below w.heap.size w w' := by
  obtain ⟨hd, k, rfl, hk⟩ := RS.has_lt hi
  rcases hd with rfl | rfl
  · obtain ⟨g, h1, _⟩ := h.d0; exact read_yes p0 S.n0 k g S.D0 w h1 hk
  · obtain ⟨g, h1, _⟩ := h.d1; exact read_yes p1 S.n1 k g S.D1 w h1 hk
theorem RigR.okLook (h : RigR rb p0 p1 S w f) {dev i : Int} (hi : S.has dev i = true) : IsBlk (S.look dev i.toNat) := by
  obtain ⟨hd, k, rfl, hk⟩ := RS.has_lt hi
  rcases hd with rfl | rfl
  · obtain ⟨g, h1, _⟩ := h.d0; exact (h1.ok hk).look
  · obtain ⟨g, h1, _⟩ := h.d1; exact (h1.ok hk).look
/-- No sector has more versions than that. -/
def RS.Few (S : RS) (m : Nat) : Prop := (∀ i, i < S.n0 → (S.D0 i).vs.length ≤ m) ∧ (∀ i, i < S.n1 → (S.D1 i).vs.length ≤ m)
theorem RS.Few.mono {m m' : Nat} (h : S.Few m) (hm : m ≤ m') : S.Few m' := ⟨fun i hi => Nat.le_trans (h.1 i hi) hm, fun i hi => Nat.le_trans (h.2 i hi) hm⟩
theorem RS.after_few {m : Nat} (h : S.Few m) : S.after.Few m := by
  unfold RS.after
  split <;> exact h
set_option maxRecDepth 100000 in
theorem RigR.putOf (h : RigR rb p0 p1 S w f) {dev i : Int} {b : List Value} (hi : S.has dev i = true) (hb : IsBlk b) (hm : S.Few 255) :
    Calls Try.prog 47 #[.pointer (dk p0 p1 dev), .int .i64 i, .agg b.toArray] w fun e w' => e = .returned (.int .i64 0) ∧ ∃ f', RigR rb p0 p1 (S.put dev i.toNat b) w' f' ∧ Turn f f' w w' := by
  obtain ⟨hd, k, rfl, hk⟩ := RS.has_lt hi
  rcases hd with rfl | rfl
  · have hk' : k < S.n0 := hk
    refine Sep.second (R := fun e _ => e = .returned (.int .i64 0)) (RowR.isRes _ _ _) (S.disks_isRes p0 p1) h (Q' := (S.put 0 k b).disks p0 p1) fun f2 h2 => ?_
    refine Sep.first (R := fun e _ => e = .returned (.int .i64 0)) (DskR.isRes _ _ _) (DskR.isRes _ _ _) h2 fun f3 h3 => ?_
    refine (write_yes p0 S.n0 k f3 S.D0 b w h3.1 hk' hb (by have := hm.1 k hk'; omega)).mono ?_
    rintro e w' ⟨rfl, f', g1, g2⟩
    exact ⟨rfl, f', ⟨g1, h3.2⟩, g2⟩
  · have hk' : k < S.n1 := hk
    refine Sep.second (R := fun e _ => e = .returned (.int .i64 0)) (RowR.isRes _ _ _) (S.disks_isRes p0 p1) h (Q' := (S.put 1 k b).disks p0 p1) fun f2 h2 => ?_
    refine Sep.second (R := fun e _ => e = .returned (.int .i64 0)) (DskR.isRes _ _ _) (DskR.isRes _ _ _) h2 fun f3 h3 => ?_
    refine (write_yes p1 S.n1 k f3 S.D1 b w h3.1 hk' hb (by have := hm.2 k hk'; omega)).mono ?_
    rintro e w' ⟨rfl, f', g1, g2⟩
    exact ⟨rfl, f', ⟨g1, h3.2⟩, g2⟩
set_option maxRecDepth 100000 in
theorem RigR.flOf (h : RigR rb p0 p1 S w f) {dev : Int} (hd : dev = 0 ∨ dev = 1) :
    Calls Try.prog 73 #[.pointer (dk p0 p1 dev)] w fun e w' => e = .returned (.int .i64 0) ∧ ∃ f', RigR rb p0 p1 (S.fl dev) w' f' ∧ Turn f f' w w' := by
  rcases hd with rfl | rfl
  · refine Sep.second (R := fun e _ => e = .returned (.int .i64 0)) (RowR.isRes _ _ _) (S.disks_isRes p0 p1) h (Q' := (S.fl 0).disks p0 p1) fun f2 h2 => ?_
    refine Sep.first (R := fun e _ => e = .returned (.int .i64 0)) (DskR.isRes _ _ _) (DskR.isRes _ _ _) h2 fun f3 h3 => ?_
    refine (flush_at p0 S.n0 f3 S.D0 w h3.1 h3.2).mono ?_
    rintro e w' ⟨rfl, f', g1, g2⟩
    rw [flTo_settled] at g1
    exact ⟨rfl, f', ⟨g1, h3.2⟩, g2⟩
  · refine Sep.second (R := fun e _ => e = .returned (.int .i64 0)) (RowR.isRes _ _ _) (S.disks_isRes p0 p1) h (Q' := (S.fl 1).disks p0 p1) fun f2 h2 => ?_
    refine Sep.second (R := fun e _ => e = .returned (.int .i64 0)) (DskR.isRes _ _ _) (DskR.isRes _ _ _) h2 fun f3 h3 => ?_
    refine (flush_at p1 S.n1 f3 S.D1 w h3.1 h3.2).mono ?_
    rintro e w' ⟨rfl, f', g1, g2⟩
    rw [flTo_settled] at g1
    exact ⟨rfl, f', ⟨g1, h3.2⟩, g2⟩
end
end Go.Proofs.Ytfmgaakbfphpbaa

/- What a rig's methods come to. -/
namespace Go.Proofs.Ytfmgaakbfphpbaa
open Go.RowKit Go.Shelf
set_option linter.unusedVariables false
attribute [-simp] Try.isAgg59 Try.zeroValue59
attribute [-go_sem] loadVar storeVar
attribute [local go_sem] zero_blk build_blk loadVar_open storeVar_open

section
variable {rb p0 p1 : Nat} {S : RS} {w : World} {f : Nat → Prop}

theorem RigR.beside {w' : World} (h : RigR rb p0 p1 S w f) (hb : Below w.heap.size w w') : RigR rb p0 p1 S w' f := (RigR.isRes rb p0 p1 S).below h hb

set_option maxRecDepth 100000 in
set_option maxHeartbeats 1000000 in
/-- **Len**. -/
theorem RigR.len (h : RigR rb p0 p1 S w f) (dev : Int) :
    Calls Try.prog 52 #[.pointer (some ⟨rb, 0, none⟩), .int .i64 dev] w fun e w' => e = .returned (.int .i64 (S.len dev : Int)) ∧ Below w.heap.size w w' := by
  have H1 := Lib.hid (h.disk dev)
  have H := Lib.hid h
  clear h
  go_enter Try.func52, Try.ntmps52
  go_wp2_with fail
  refine H1.out.mono ?_
  rintro e x1 ⟨rfl, hb⟩
  have HB := Lib.hid hb
  have H2 := Lib.hid ((H.out.beside hb).lenOf dev)
  clear hb
  go_wp2_with fail
  refine H2.out.mono ?_
  rintro e w' ⟨rfl, rfl⟩
  go_wp2_with fail
  go_ret
  exact ⟨rfl, HB.out⟩

set_option maxRecDepth 100000 in
set_option maxHeartbeats 1000000 in
/-- **Arm**. -/
theorem RigR.arm (h : RigR rb p0 p1 S w f) (n : Int) :
    Calls Try.prog 26 #[.pointer (some ⟨rb, 0, none⟩), .int .i64 n] w fun e w' => e = .returned (.tuple #[]) ∧ ∃ f', RigR rb p0 p1 { S with fuse := n } w' f' ∧ Turn f f' w w' := by
  have c2 : w.cell? ⟨rb, 2, none⟩ = some (.int .i64 S.fuse) := h.cell 2
  have r2 := h.frozen 2
  have H := Lib.hid h
  clear h
  go_enter Try.func26, Try.ntmps26
  go_wp2
  go_end0
  obtain ⟨g1, g2⟩ := H.out.set (S.disks_isRes p0 p1) 2 (.int .i64 n)
  exact ⟨rfl, f, g1, g2⟩

set_option maxRecDepth 100000 in
set_option maxHeartbeats 1000000 in
/-- **Flush**. -/
theorem RigR.flush (h : RigR rb p0 p1 S w f) (hS : S.Fit) (dev : Int) :
    Calls Try.prog 54 #[.pointer (some ⟨rb, 0, none⟩), .int .i64 dev] w fun e w' => e = .returned (.int .i64 (S.flushE dev)) ∧ ∃ f', RigR rb p0 p1 (S.flush dev) w' f' ∧ Turn f f' w w' := by
  have H1 := Lib.hid (h.disk dev)
  have H := Lib.hid h
  have HS := Lib.hid hS
  clear h hS
  by_cases hd : dev = 0 ∨ dev = 1
  · obtain ⟨p, hp⟩ : ∃ p, dk p0 p1 dev = some ⟨p, 0, none⟩ := by rcases dk_cases p0 p1 dev with ⟨_, e⟩ | ⟨_, e⟩ | ⟨e0, e1, _⟩; exact ⟨_, e⟩; exact ⟨_, e⟩; exact absurd hd (by simp [e0, e1])
    have HP := Lib.hid hp
    rw [hp] at H1
    have HD := Lib.hid hd
    by_cases hok : S.ok = true
    · have hE : Hid (S.flushE dev = 0 ∧ S.flush dev = S.after.fl dev) := by refine (?_ : _ ∧ _); unfold RS.flushE RS.flush; rw [if_pos hd, if_pos hok, if_pos hd, if_pos hok]; exact ⟨rfl, rfl⟩
      have HK := Lib.hid hok
      clear hp hd hok
      go_enter Try.func54, Try.ntmps54
      go_wp2_with fail
      go_at_call 44
      refine H1.out.mono ?_
      rintro e x1 ⟨rfl, hb⟩
      have HB := Lib.hid hb
      have H2 := Lib.hid (passes_at rb p0 p1 S f x1 (H.out.beside hb) HS.out)
      rw [HK.out] at H2
      clear hb
      go_wp2_with fail
      go_at_call 46
      refine H2.out.mono ?_
      rintro e x2 ⟨rfl, f2, g1, g2⟩
      have H3 := Lib.hid (g1.flOf HD.out)
      rw [HP.out] at H3
      have HT := Lib.hid g2
      clear g1 g2
      go_wp2_with fail
      go_at_call 73
      refine H3.out.mono ?_
      rintro e x3 ⟨rfl, f3, g1, g2⟩
      have HR := Lib.hid g1
      have HU := Lib.hid g2
      clear g1 g2
      go_wp2_with fail
      go_ret
      rw [hE.out.1, hE.out.2]
      exact ⟨rfl, f3, HR.out, (Turn.of_below HB.out).trans (HT.out.trans HU.out)⟩
    · have hok : S.ok = false := by simpa using hok
      have hE : Hid (S.flushE dev = 14 ∧ S.flush dev = S.after) := by refine (?_ : _ ∧ _); unfold RS.flushE RS.flush; rw [if_pos hd, if_neg (by simp [hok]), if_pos hd, if_neg (by simp [hok])]; exact ⟨rfl, rfl⟩
      have HK := Lib.hid hok
      clear hp hd hok
      go_enter Try.func54, Try.ntmps54
      go_wp2_with fail
      go_at_call 44
      refine H1.out.mono ?_
      rintro e x1 ⟨rfl, hb⟩
      have HB := Lib.hid hb
      have H2 := Lib.hid (passes_at rb p0 p1 S f x1 (H.out.beside hb) HS.out)
      rw [HK.out] at H2
      clear hb
      go_wp2_with fail
      go_at_call 46
      refine H2.out.mono ?_
      rintro e x2 ⟨rfl, f2, g1, g2⟩
      have HR := Lib.hid g1
      have HT := Lib.hid g2
      clear g1 g2
      go_wp2_with fail
      go_ret
      rw [hE.out.1, hE.out.2]
      exact ⟨rfl, f2, HR.out, (Turn.of_below HB.out).trans HT.out⟩
  · have hp : dk p0 p1 dev = none := by unfold dk; rw [if_neg (fun h => hd (.inl h)), if_neg (fun h => hd (.inr h))]
    rw [hp] at H1
    have hE : Hid (S.flushE dev = 1 ∧ S.flush dev = S) := by refine (?_ : _ ∧ _); unfold RS.flushE RS.flush; rw [if_neg hd, if_neg hd]; exact ⟨rfl, rfl⟩
    clear hp hd
    go_enter Try.func54, Try.ntmps54
    go_wp2_with fail
    go_at_call 44
    refine H1.out.mono ?_
    rintro e x1 ⟨rfl, hb⟩
    have HB := Lib.hid hb
    clear hb
    go_wp2_with fail
    go_ret
    rw [hE.out.1, hE.out.2]
    exact ⟨rfl, f, H.out.beside HB.out, Turn.of_below HB.out⟩

set_option maxRecDepth 100000 in
set_option maxHeartbeats 1000000 in
/-- **Write**. -/
theorem RigR.write (h : RigR rb p0 p1 S w f) (hS : S.Fit) (hm : S.Few 255) (dev i : Int) {b : List Value} (hb : IsBlk b) :
    Calls Try.prog 20 #[.pointer (some ⟨rb, 0, none⟩), .int .i64 dev, .int .i64 i, .agg b.toArray] w fun e w' => e = .returned (.int .i64 (S.writeE dev i)) ∧ ∃ f', RigR rb p0 p1 (S.write dev i b) w' f' ∧ Turn f f' w w' := by
  obtain ⟨W, hW⟩ : ∃ W, w.alloc (.cells b.toArray 59) = W := ⟨_, rfl⟩
  have hB : Below w.heap.size w W := by rw [← hW]; exact (Below.refl _ w).alloc (Nat.le_refl _) _
  have K : Hid (W.heap[w.heap.size]? = some (.cells b.toArray 59 (0, 0))) := by rw [← hW]; exact heap_alloc_new w _
  have hlt : ∀ k, f k → k < w.heap.size := (RigR.isRes rb p0 p1 S).lt h
  have H := Lib.hid (h.beside hB)
  have H1 := Lib.hid (H.out.disk dev)
  have HB0 := Lib.hid hB
  have HS := Lib.hid hS
  have HM := Lib.hid hm
  have HBL := Lib.hid hb
  have HLT := Lib.hid hlt
  clear h hS hm hb hB hlt
  obtain ⟨p, hp⟩ : ∃ p, dk p0 p1 dev = p := ⟨_, rfl⟩
  have HP := Lib.hid hp
  rw [hp] at H1
  clear hp
  have H2 : Hid (∀ x : World, Below W.heap.size W x → Calls Try.prog 45 #[.pointer p, .int .i64 i] x fun e w' => e = .returned (.bool (S.has dev i)) ∧ w' = x) := fun x hx => by
    have := (H.out.beside hx).hasOf dev i
    rw [HP.out] at this
    exact this
  by_cases hh : S.has dev i = true
  · have HH := Lib.hid hh
    rw [hh] at H2
    by_cases hok : S.ok = true
    · have hE : Hid (S.writeE dev i = 0 ∧ S.write dev i b = S.after.put dev i.toNat b) := by refine (?_ : _ ∧ _); unfold RS.writeE RS.write; rw [if_pos hh, if_pos hok, if_pos hh, if_pos hok]; exact ⟨rfl, rfl⟩
      have HK := Lib.hid hok
      clear hh hok
      go_enter Try.func20, Try.ntmps20
      go_wp2_with (with_reducible (rw [hW]; clear hW))
      go_at_call 44
      refine H1.out.mono ?_
      rintro e x1 ⟨rfl, hb⟩
      have HB := Lib.hid hb
      clear hb
      go_wp2_with fail
      go_at_call 45
      refine (H2.out x1 HB.out).mono ?_
      rintro e w' ⟨rfl, hx⟩
      obtain rfl := hx.symm
      clear hx
      have H3 := Lib.hid (passes_at rb p0 p1 S f x1 (H.out.beside HB.out) HS.out)
      rw [HK.out] at H3
      go_wp2_with fail
      go_at_call 46
      refine H3.out.mono ?_
      rintro e x2 ⟨rfl, f2, g1, g2⟩
      have L2 : (loadVar 59 ⟨w.heap.size, 0, none⟩).run Try.prog x2 = .ok (.agg b.toArray) x2 := by
        have hz := (Array.getElem?_eq_some_iff.1 K.out).1
        refine load_at ?_ HBL.out
        rw [g2.out _ (Nat.lt_of_lt_of_le hz HB.out.size) (fun hf => by have := HLT.out _ hf; omega)]
        exact (HB.out.block _ hz).trans K.out
      have H4 : Hid (Calls Try.prog 47 #[.pointer p, .int .i64 i, .agg b.toArray] x2 fun e w' => e = .returned (.int .i64 0) ∧ ∃ f', RigR rb p0 p1 (S.after.put dev i.toNat b) w' f' ∧ Turn f2 f' x2 w') := by
        have := g1.putOf (dev := dev) (i := i) (b := b) (by unfold RS.has; rw [S.after_len]; exact HH.out) HBL.out (RS.after_few HM.out)
        rw [HP.out] at this
        exact this
      have HT := Lib.hid g2
      clear g1 g2
      go_wp2_with fail
      go_at_call 47
      refine H4.out.mono ?_
      rintro e x3 ⟨rfl, f3, g1, g2⟩
      have HR := Lib.hid g1
      have HU := Lib.hid g2
      clear g1 g2 L2
      go_wp2_with fail
      go_ret
      rw [hE.out.1, hE.out.2]
      exact ⟨rfl, f3, HR.out, (Turn.of_below (HB0.out.trans (HB.out.mono HB0.out.size))).trans (HT.out.trans HU.out)⟩
    · have hok : S.ok = false := by simpa using hok
      have hE : Hid (S.writeE dev i = 14 ∧ S.write dev i b = S.after) := by refine (?_ : _ ∧ _); unfold RS.writeE RS.write; rw [if_pos hh, if_neg (by simp [hok]), if_pos hh, if_neg (by simp [hok])]; exact ⟨rfl, rfl⟩
      have HK := Lib.hid hok
      clear hh hok
      go_enter Try.func20, Try.ntmps20
      go_wp2_with (with_reducible (rw [hW]; clear hW))
      go_at_call 44
      refine H1.out.mono ?_
      rintro e x1 ⟨rfl, hb⟩
      have HB := Lib.hid hb
      clear hb
      go_wp2_with fail
      go_at_call 45
      refine (H2.out x1 HB.out).mono ?_
      rintro e w' ⟨rfl, hx⟩
      obtain rfl := hx.symm
      clear hx
      have H3 := Lib.hid (passes_at rb p0 p1 S f x1 (H.out.beside HB.out) HS.out)
      rw [HK.out] at H3
      go_wp2_with fail
      go_at_call 46
      refine H3.out.mono ?_
      rintro e x2 ⟨rfl, f2, g1, g2⟩
      have HR := Lib.hid g1
      have HT := Lib.hid g2
      clear g1 g2
      go_wp2_with fail
      go_ret
      rw [hE.out.1, hE.out.2]
      exact ⟨rfl, f2, HR.out, (Turn.of_below (HB0.out.trans (HB.out.mono HB0.out.size))).trans HT.out⟩
  · have hh : S.has dev i = false := by simpa using hh
    rw [hh] at H2
    have hE : Hid (S.writeE dev i = 1 ∧ S.write dev i b = S) := by refine (?_ : _ ∧ _); unfold RS.writeE RS.write; rw [if_neg (by simp [hh]), if_neg (by simp [hh])]; exact ⟨rfl, rfl⟩
    clear hh
    go_enter Try.func20, Try.ntmps20
    go_wp2_with (with_reducible (rw [hW]; clear hW))
    go_at_call 44
    refine H1.out.mono ?_
    rintro e x1 ⟨rfl, hb⟩
    have HB := Lib.hid hb
    clear hb
    go_wp2_with fail
    go_at_call 45
    refine (H2.out x1 HB.out).mono ?_
    rintro e w' ⟨rfl, hx⟩
    obtain rfl := hx.symm
    clear hx
    go_wp2_with fail
    go_ret
    rw [hE.out.1, hE.out.2]
    exact ⟨rfl, f, H.out.beside HB.out, Turn.of_below (HB0.out.trans (HB.out.mono HB0.out.size))⟩
end
end Go.Proofs.Ytfmgaakbfphpbaa

/- Read, New; a nil rig. -/
namespace Go.Proofs.Ytfmgaakbfphpbaa
open Go.RowKit Go.Shelf
set_option linter.unusedVariables false
attribute [-simp] Try.isAgg59 Try.zeroValue59
attribute [-go_sem] loadVar storeVar
attribute [local go_sem] zero_blk build_blk loadVar_open storeVar_open

set_option maxRecDepth 100000 in
/-- A result's own cell. -/
theorem own_cell {w x : World} {u : List Value} {z : Array Value} (hw : x.heap[w.heap.size]? = some (.cells z 59 (0, 0))) (hz : z.size = 64) (hb : Below w.heap.size w x) (hu : IsBlk u) :
    ∃ x', (storeVar 59 ⟨w.heap.size, 0, none⟩ (.agg u.toArray)).run Try.prog x = .ok () x' ∧ (loadVar 59 ⟨w.heap.size, 0, none⟩).run Try.prog x' = .ok (.agg u.toArray) x' ∧ Below w.heap.size w x' := by
  have ht : x.there w.heap.size 0 64 := fun j hj => by
    have hcell := cell_of_row x w.heap.size (0 + j) z _ _ hw
    refine ⟨?_, ?_⟩
    · rw [hcell]; simp [hz]; omega
    · simp [World.frozen?, hw]
  have hs := store_blk ht hu
  refine ⟨_, hs, load_blk (World.rangeAt_setCells_same x _ 0 u (by rw [hu.length]; exact ht)) hu.length, ?_⟩
  exact hb.trans (below_setCells (Nat.le_refl _) _ _ _)

section
variable {rb p0 p1 : Nat} {S : RS} {w : World} {f : Nat → Prop}

set_option maxRecDepth 100000 in
set_option maxHeartbeats 1000000 in
/-- **Read**. -/
theorem RigR.read (h : RigR rb p0 p1 S w f) (dev i : Int) :
    Calls Try.prog 23 #[.pointer (some ⟨rb, 0, none⟩), .int .i64 dev, .int .i64 i] w fun e w' => e = .returned (.tuple #[.agg (S.read dev i).toArray, .int .i64 (S.readE dev i)]) ∧ Below w.heap.size w w' := by
  obtain ⟨W, hW⟩ : ∃ W, w.alloc (.cells zarr 59) = W := ⟨_, rfl⟩
  have hB : Below w.heap.size w W := by rw [← hW]; exact (Below.refl _ w).alloc (Nat.le_refl _) _
  have K : Hid (W.heap[w.heap.size]? = some (.cells zarr 59 (0, 0)) ∧ w.heap.size < W.heap.size) := by rw [← hW]; exact ⟨heap_alloc_new w _, by simp⟩
  have H := Lib.hid (h.beside hB)
  have H1 := Lib.hid (H.out.disk dev)
  have HB0 := Lib.hid hB
  clear h hB
  obtain ⟨p, hp⟩ : ∃ p, dk p0 p1 dev = p := ⟨_, rfl⟩
  have HP := Lib.hid hp
  rw [hp] at H1
  clear hp
  have H2 : Hid (∀ x : World, Below W.heap.size W x → Calls Try.prog 45 #[.pointer p, .int .i64 i] x fun e w' => e = .returned (.bool (S.has dev i)) ∧ w' = x) := fun x hx => by
    have := (H.out.beside hx).hasOf dev i
    rw [HP.out] at this
    exact this
  have SZ : Hid (∀ x u, Below W.heap.size W x → IsBlk u → ∃ x', (storeVar 59 ⟨w.heap.size, 0, none⟩ (.agg u.toArray)).run Try.prog x = .ok () x' ∧ (loadVar 59 ⟨w.heap.size, 0, none⟩).run Try.prog x' = .ok (.agg u.toArray) x' ∧ Below w.heap.size w x') := fun x u hx hu =>
    own_cell ((hx.block _ K.out.2).trans K.out.1) zarr_size (HB0.out.trans (hx.mono HB0.out.size)) hu
  by_cases hh : S.has dev i = true
  · have HH := Lib.hid hh
    rw [hh] at H2
    cases hdw : S.down with
    | true =>
      have hE : Hid (S.readE dev i = 14 ∧ S.read dev i = fillB 0) := by refine (?_ : _ ∧ _); unfold RS.readE RS.read; rw [if_pos hh, if_pos hdw, if_neg (by simp [hdw])]; exact ⟨rfl, rfl⟩
      have HD := Lib.hid hdw
      clear hh hdw
      go_enter Try.func23, Try.ntmps23
      go_wp2_with (with_reducible (rw [hW]; clear hW))
      go_at_call 44
      refine H1.out.mono ?_
      rintro e x1 ⟨rfl, hb⟩
      have HB := Lib.hid hb
      clear hb
      go_wp2_with fail
      go_at_call 45
      refine (H2.out x1 HB.out).mono ?_
      rintro e w' ⟨rfl, hx⟩
      obtain rfl := hx.symm
      clear hx
      have c3 : x1.cell? ⟨rb, 3, none⟩ = some (.bool true) := by rw [← HD.out]; exact (H.out.beside HB.out).cell 3
      obtain ⟨x2, st, ld, hb2⟩ := SZ.out x1 (fillB 0) HB.out (isBlk_fill 0)
      have st' : (storeVar 59 ⟨w.heap.size, 0, none⟩ (.agg zarr)).run Try.prog x1 = .ok () x2 := st
      have HB2 := Lib.hid hb2
      clear st hb2
      go_wp2_with fail
      rw [hE.out.1, hE.out.2]
      exact bodyPost_ret (results_cell2 rfl rfl ld) rfl ⟨rfl, HB2.out⟩
    | false =>
      have hE : Hid (S.readE dev i = 0 ∧ S.read dev i = S.look dev i.toNat) := by refine (?_ : _ ∧ _); unfold RS.readE RS.read; rw [if_pos hh, if_neg (by simp [hdw]), if_pos ⟨hh, hdw⟩]; exact ⟨rfl, rfl⟩
      have HD := Lib.hid hdw
      obtain ⟨u, hu⟩ : ∃ u, S.look dev i.toNat = u := ⟨_, rfl⟩
      have HU : Hid (IsBlk u) := by rw [← hu]; exact H.out.okLook HH.out
      have H3 : Hid (∀ x : World, Below W.heap.size W x → Calls Try.prog 51 #[.pointer p, .int .i64 i] x fun e w' => e = .returned (.tuple #[.agg u.toArray, .int .i64 0]) ∧ Below x.heap.size x w') := fun x hx => by
        have := (H.out.beside hx).readOf HH.out
        rw [HP.out, hu] at this
        exact this
      rw [hu] at hE
      clear hh hdw hu
      go_enter Try.func23, Try.ntmps23
      go_wp2_with (with_reducible (rw [hW]; clear hW))
      go_at_call 44
      refine H1.out.mono ?_
      rintro e x1 ⟨rfl, hb⟩
      have HB := Lib.hid hb
      clear hb
      go_wp2_with fail
      go_at_call 45
      refine (H2.out x1 HB.out).mono ?_
      rintro e w' ⟨rfl, hx⟩
      obtain rfl := hx.symm
      clear hx
      have c3 : x1.cell? ⟨rb, 3, none⟩ = some (.bool false) := by rw [← HD.out]; exact (H.out.beside HB.out).cell 3
      go_wp2_with fail
      go_at_call 51
      refine (H3.out x1 HB.out).mono ?_
      rintro e x2 ⟨rfl, hb⟩
      obtain ⟨x3, st, ld, hb2⟩ := SZ.out x2 u (HB.out.trans (hb.mono HB.out.size)) HU.out
      have HB2 := Lib.hid hb2
      clear hb hb2 c3
      go_wp2_with fail
      rw [hE.out.1, hE.out.2]
      exact bodyPost_ret (results_cell2 rfl rfl ld) rfl ⟨rfl, HB2.out⟩
  · have hh : S.has dev i = false := by simpa using hh
    rw [hh] at H2
    have hE : Hid (S.readE dev i = 1 ∧ S.read dev i = fillB 0) := by refine (?_ : _ ∧ _); unfold RS.readE RS.read; rw [if_neg (by simp [hh]), if_neg (by simp [hh])]; exact ⟨rfl, rfl⟩
    clear hh
    go_enter Try.func23, Try.ntmps23
    go_wp2_with (with_reducible (rw [hW]; clear hW))
    go_at_call 44
    refine H1.out.mono ?_
    rintro e x1 ⟨rfl, hb⟩
    have HB := Lib.hid hb
    clear hb
    go_wp2_with fail
    go_at_call 45
    refine (H2.out x1 HB.out).mono ?_
    rintro e w' ⟨rfl, hx⟩
    obtain rfl := hx.symm
    clear hx
    obtain ⟨x2, st, ld, hb2⟩ := SZ.out x1 (fillB 0) HB.out (isBlk_fill 0)
    have st' : (storeVar 59 ⟨w.heap.size, 0, none⟩ (.agg zarr)).run Try.prog x1 = .ok () x2 := st
    have HB2 := Lib.hid hb2
    clear st hb2
    go_wp2_with fail
    rw [hE.out.1, hE.out.2]
    exact bodyPost_ret (results_cell2 rfl rfl ld) rfl ⟨rfl, HB2.out⟩
end

/-- A rig that was just made. -/
def newS (n0 n1 : Nat) : RS := ⟨n0, n1, fun _ => zsec, fun _ => zsec, -1, false, 0⟩

set_option maxRecDepth 100000 in
set_option maxHeartbeats 1000000 in
/-- **New**. -/
theorem rigNew_yes (n0 n1 : Nat) (w : World) (h01 : 1 ≤ n0) (h02 : n0 ≤ 4096) (h11 : 1 ≤ n1) (h12 : n1 ≤ 4096) :
    Calls Try.prog 10 #[.int .i64 (n0 : Int), .int .i64 (n1 : Int)] w fun e w' => ∃ rb p0 p1, e = .returned (.tuple #[.pointer (some ⟨rb, 0, none⟩), .int .i64 0]) ∧ (∃ f, RigR rb p0 p1 (newS n0 n1) w' f ∧ ∀ k, f k → w.heap.size ≤ k) ∧ Below w.heap.size w w' := by
  have H0 := Lib.hid (new_yes n0 w h01 h02)
  have H1 := Lib.hid (fun x => new_yes n1 x h11 h12)
  have HP : Hid (0 < n0 ∧ 0 < n1) := ⟨by omega, by omega⟩
  clear h01 h02 h11 h12
  go_enter Try.func10, Try.ntmps10
  go_wp2_with fail
  go_at_call 28
  refine H0.out.mono ?_
  rintro e x1 ⟨p0, rfl, ⟨f0, g1, g2⟩, g3⟩
  have A1 := Lib.hid g1
  have A2 := Lib.hid g2
  have A3 := Lib.hid g3
  clear g1 g2 g3
  go_wp2_with fail
  go_at_call 28
  refine (H1.out x1).mono ?_
  rintro e x2 ⟨p1, rfl, ⟨f1, g1, g2⟩, g3⟩
  have B1 := Lib.hid g1
  have B2 := Lib.hid g2
  have B3 := Lib.hid g3
  clear g1 g2 g3
  go_wp2_with fail
  go_ret2
  have hA : ∀ k, f0 k → k < x1.heap.size := A1.out.lt HP.out.1
  have hB : ∀ k, f1 k → k < x2.heap.size := B1.out.lt HP.out.2
  have hz1 := A3.out.size
  have hz2 := B3.out.size
  have hal : ∀ o : Obj, Below x2.heap.size x2 (x2.alloc o) := fun o => (Below.refl _ x2).alloc (Nat.le_refl _) o
  refine ⟨_, p0, p1, rfl, ⟨_, ⟨fun k => k = x2.heap.size, fun k => f0 k ∨ f1 k, ⟨heap_alloc_new x2 _, rfl⟩, ⟨f0, f1, ⟨(A1.out.below HP.out.1 B3.out).below HP.out.1 (hal _), HP.out.1⟩, ⟨B1.out.below HP.out.2 (hal _), HP.out.2⟩, fun k a b => ?_, rfl⟩, fun k a b => ?_, rfl⟩, fun k hk => ?_⟩, ?_⟩
  · have := hA k a; have := B2.out k b; omega
  · subst a
    rcases b with b | b
    · have := hA _ b; omega
    · have := hB _ b; omega
  · rcases hk with rfl | hk | hk
    · omega
    · exact A2.out k hk
    · have := B2.out k hk; omega
  · exact (A3.out.trans (B3.out.mono A3.out.size)).trans ((hal _).mono (by omega))

set_option maxRecDepth 100000 in
set_option maxHeartbeats 1000000 in
/-- **New**, of no sizes that there are. -/
theorem rigNew_no (n0 n1 : Int) (w : World) (h : (n0 < 1 ∨ 4096 < n0) ∨ (n1 < 1 ∨ 4096 < n1)) :
    Calls Try.prog 10 #[.int .i64 n0, .int .i64 n1] w fun e w' => e = .returned (.tuple #[.pointer none, .int .i64 1]) ∧ Below w.heap.size w w' := by
  by_cases h0 : n0 < 1 ∨ 4096 < n0
  · have H0 := Lib.hid (new_no n0 w h0)
    clear h h0
    go_enter Try.func10, Try.ntmps10
    go_wp2_with fail
    go_at_call 28
    refine H0.out.mono ?_
    rintro e x1 ⟨rfl, hx⟩
    obtain rfl := hx.symm
    clear hx
    go_wp2_with fail
    go_ret2
    exact ⟨rfl, Below.refl _ _⟩
  · have h1 : n1 < 1 ∨ 4096 < n1 := h.resolve_left h0
    obtain ⟨m, rfl⟩ : ∃ m : Nat, n0 = (m : Int) := ⟨n0.toNat, by omega⟩
    have H0 := Lib.hid (new_yes m w (by omega) (by omega))
    have H1 := Lib.hid (fun x => new_no n1 x h1)
    clear h h0 h1
    go_enter Try.func10, Try.ntmps10
    go_wp2_with fail
    go_at_call 28
    refine H0.out.mono ?_
    rintro e x1 ⟨p0, rfl, -, g3⟩
    have A3 := Lib.hid g3
    clear g3
    go_wp2_with fail
    go_at_call 28
    refine (H1.out x1).mono ?_
    rintro e x2 ⟨rfl, hx⟩
    obtain rfl := hx.symm
    clear hx
    go_wp2_with fail
    go_ret2
    exact ⟨rfl, A3.out⟩
end Go.Proofs.Ytfmgaakbfphpbaa

/- Crash. -/
namespace Go.Proofs.Ytfmgaakbfphpbaa
open Go.RowKit Go.Shelf
set_option linter.unusedVariables false
attribute [-simp] Try.isAgg59 Try.zeroValue59
attribute [-go_sem] loadVar storeVar
attribute [local go_sem] zero_blk build_blk loadVar_open storeVar_open
attribute [local go_sem] Oper.semAt_some

theorem Sl.stay {k : IntKind} {w w' : World} {v : Value} {bs : List Int} (h : Sl k w v bs) (hs : w.heap.size ≤ w'.heap.size) (hb : bs ≠ [] → ∀ b off len cap, v = .slice (some ⟨b, off, none⟩) len cap → b < w.heap.size → w'.heap[b]? = w.heap[b]?) : Sl k w' v bs := by
  obtain ⟨a, cap, rfl, h1, h2, h3, h4⟩ := h
  refine ⟨a, cap, rfl, h1, h2, ?_, h4⟩
  rcases h3 with h3 | ⟨b, off, rfl, h5, h6⟩
  · exact .inl h3
  · by_cases hn : bs = []
    · exact .inl hn
    · exact .inr ⟨b, off, rfl, Nat.lt_of_lt_of_le h5 hs, fun j hj => (World.cell?_of_block (a := ⟨b, off + j, none⟩) (hb hn b off _ _ rfl h5)).trans (h6 j hj)⟩
theorem Sl.lt_of {k : IntKind} {w : World} {v : Value} {bs : List Int} (h : Sl k w v bs) (hn : bs ≠ []) {b off len cap : Nat} (e : v = .slice (some ⟨b, off, none⟩) len cap) : b < w.heap.size := by
  obtain ⟨a, cap', rfl, _, _, h3, _⟩ := h
  rcases h3 with h3 | ⟨b', off', rfl, h5, _⟩
  · exact absurd h3 hn
  · simp only [Value.slice.injEq, Option.some.injEq, Addr.mk.injEq] at e
    rw [← e.1.1]; exact h5

set_option maxRecDepth 100000 in
theorem Sep.firstC {P P' Q : Res} {w : World} {f : Nat → Prop} {g : FuncId} {args : Array Value} {R : Ending → World → Prop} (hP : IsRes P) (hQ : IsRes Q) (h : Sep P Q w f)
    (hc : ∀ f1, P w f1 → (∀ k, f1 k → f k) → Calls Try.prog g args w fun e w' => R e w' ∧ ∃ f1', P' w' f1' ∧ Turn f1 f1' w w') : Calls Try.prog g args w fun e w' => R e w' ∧ ∃ f', Sep P' Q w' f' ∧ Turn f f' w w' := by
  obtain ⟨f1, f2, h1, h2, h3, rfl⟩ := h
  exact (hc f1 h1 (fun k hk => .inl hk)).mono fun e w' ⟨hr, h⟩ => ⟨hr, Turn.first hP hQ h1 h2 h3 h⟩
set_option maxRecDepth 100000 in
theorem Sep.secondC {P Q Q' : Res} {w : World} {f : Nat → Prop} {g : FuncId} {args : Array Value} {R : Ending → World → Prop} (hP : IsRes P) (hQ : IsRes Q) (h : Sep P Q w f)
    (hc : ∀ f2, Q w f2 → (∀ k, f2 k → f k) → Calls Try.prog g args w fun e w' => R e w' ∧ ∃ f2', Q' w' f2' ∧ Turn f2 f2' w w') : Calls Try.prog g args w fun e w' => R e w' ∧ ∃ f', Sep P Q' w' f' ∧ Turn f f' w w' :=
  (Sep.firstC hQ hP h.swap hc).mono fun e w' ⟨hr, f', h1, h2⟩ => ⟨hr, f', h1.swap, h2⟩

/-- One disk crashes. -/
noncomputable def RS.cr0 (S : RS) (b : List Int) : RS := { S with D0 := settled S.D0 (crashG S.D0 b) (looseTo S.D0 S.n0) }
noncomputable def RS.cr1 (S : RS) (b : List Int) : RS := { S with D1 := settled S.D1 (crashG S.D1 b) (looseTo S.D1 S.n1) }
section
variable {rb p0 p1 : Nat} {S : RS} {w : World} {f : Nat → Prop} {v : Value} {b : List Int}
set_option maxRecDepth 100000 in
theorem RigR.crash0 (h : RigR rb p0 p1 S w f) (hv : Sl .u8 w v b) (hB : IsBytes b) (hc : b ≠ [] → Clear f v) (hm : S.Few 1000000) :
    Calls Try.prog 42 #[.pointer (some ⟨p0, 0, none⟩), v] w fun e w' => e = .returned (.tuple #[]) ∧ ∃ f', RigR rb p0 p1 (S.cr0 b) w' f' ∧ Turn f f' w w' := by
  refine Sep.secondC (R := fun e _ => e = .returned (.tuple #[])) (RowR.isRes _ _ _) (S.disks_isRes p0 p1) h (Q' := (S.cr0 b).disks p0 p1) fun f2 h2 hs2 => ?_
  refine Sep.firstC (R := fun e _ => e = .returned (.tuple #[])) (DskR.isRes _ _ _) (DskR.isRes _ _ _) h2 fun f3 h3 hs3 => ?_
  refine (crash_at p0 S.n0 f3 S.D0 v b w h3.1 h3.2 hv hB (fun hn x off len cap e hf => hc hn x off len cap e (hs2 _ (hs3 _ hf))) hm.1).mono ?_
  rintro e w' ⟨rfl, f', g1, g2⟩
  exact ⟨rfl, f', ⟨g1, h3.2⟩, g2⟩
set_option maxRecDepth 100000 in
theorem RigR.crash1 (h : RigR rb p0 p1 S w f) (hv : Sl .u8 w v b) (hB : IsBytes b) (hc : b ≠ [] → Clear f v) (hm : S.Few 1000000) :
    Calls Try.prog 42 #[.pointer (some ⟨p1, 0, none⟩), v] w fun e w' => e = .returned (.tuple #[]) ∧ ∃ f', RigR rb p0 p1 (S.cr1 b) w' f' ∧ Turn f f' w w' := by
  refine Sep.secondC (R := fun e _ => e = .returned (.tuple #[])) (RowR.isRes _ _ _) (S.disks_isRes p0 p1) h (Q' := (S.cr1 b).disks p0 p1) fun f2 h2 hs2 => ?_
  refine Sep.secondC (R := fun e _ => e = .returned (.tuple #[])) (DskR.isRes _ _ _) (DskR.isRes _ _ _) h2 fun f3 h3 hs3 => ?_
  refine (crash_at p1 S.n1 f3 S.D1 v b w h3.1 h3.2 hv hB (fun hn x off len cap e hf => hc hn x off len cap e (hs2 _ (hs3 _ hf))) hm.2).mono ?_
  rintro e w' ⟨rfl, f', g1, g2⟩
  exact ⟨rfl, f', ⟨g1, h3.2⟩, g2⟩
end

/-- What has come. -/
noncomputable def RS.cr (S : RS) (b0 b1 : List Int) : List Nat → RS
  | [] => S
  | [_] => S.cr0 b0
  | _ => (S.cr0 b0).cr1 b1
theorem RS.cr0_few {S : RS} {m : Nat} (h : S.Few m) (b : List Int) : (S.cr0 b).Few m := ⟨fun i hi => by
  show (settled S.D0 _ _ i).vs.length ≤ m
  rw [settled_none S.D0 _ S.n0 i hi]; exact Nat.zero_le _, h.2⟩
/-- Between two rounds. -/
def CrashI (w : World) (f : Nat → Prop) (rb p0 p1 : Nat) (S : RS) (b0 b1 : List Int) (pre : List Nat) (W : World) : Prop := ∃ f', RigR rb p0 p1 (S.cr b0 b1 pre) W f' ∧ Turn f f' w W

theorem crashI_own (w : World) (f : Nat → Prop) (rb p0 p1 : Nat) (S : RS) (b0 b1 : List Int) (N : Nat) (hN : w.heap.size ≤ N) : OwnFrom N (CrashI w f rb p0 p1 S b0 b1) := by
  rintro pre W W' row ⟨f', h1, h2⟩ hg hr
  exact ⟨f', (RigR.isRes _ _ _ _).grown h1 hg (fun r e => (hr r e).2), h2.kept hg (fun r e => Nat.le_trans hN (hr r e).1)⟩

theorem row_own {β : Type} (B : Nat) (t : TypeId) (a : Array Value) (N : Nat) : OwnFrom (β := β) N (fun _ W => W.heap[B]? = some (.cells a t (0, 0))) := by
  rintro s W W' row h hg hr
  refine (hg.block B (Array.getElem?_eq_some_iff.1 h).1 fun e => ?_).trans h
  obtain ⟨_, o, ho, hc⟩ := hr B e.symm
  rw [h] at ho; cases ho; cases hc

set_option maxRecDepth 100000 in
set_option maxHeartbeats 4000000 in
/-- **Crash**. -/
theorem RigR.crash {rb p0 p1 : Nat} {S : RS} {w : World} {f : Nat → Prop} {v0 v1 : Value} {b0 b1 : List Int} (h : RigR rb p0 p1 S w f) (hv0 : Sl .u8 w v0 b0) (hv1 : Sl .u8 w v1 b1) (hB0 : IsBytes b0) (hB1 : IsBytes b1) (hc0 : b0 ≠ [] → Clear f v0) (hc1 : b1 ≠ [] → Clear f v1) (hm : S.Few 1000000) :
    Calls Try.prog 18 #[.pointer (some ⟨rb, 0, none⟩), v0, v1] w fun e w' => e = .returned (.tuple #[]) ∧ ∃ f', RigR rb p0 p1 (S.crash b0 b1) w' f' ∧ Turn f f' w w' := by
  obtain ⟨a0, cap0, rfl, -, -, -, -⟩ := id hv0
  obtain ⟨a1, cap1, rfl, -, -, -, -⟩ := id hv1
  obtain ⟨L0, hL0⟩ : ∃ L, b0.length = L := ⟨_, rfl⟩
  obtain ⟨L1, hL1⟩ : ∃ L, b1.length = L := ⟨_, rfl⟩
  rw [hL0] at hv0 hc0 ⊢
  rw [hL1] at hv1 hc1 ⊢
  have H := Lib.hid h
  have HV0 := Lib.hid hv0
  have HV1 := Lib.hid hv1
  have HB0 := Lib.hid hB0
  have HB1 := Lib.hid hB1
  have HC0 := Lib.hid hc0
  have HC1 := Lib.hid hc1
  have HM := Lib.hid hm
  clear h hv0 hv1 hB0 hB1 hc0 hc1 hm hL0 hL1
  refine (callsIn_wide (n := 3)).1 ?_
  refine callsIn_of_wp_marks Try.func18 rfl trivial ?_ rfl
  simp only [Try.ntmps18, List.size_toArray, List.length_cons, List.length_nil, Nat.reduceAdd, Nat.reduceSub, Array.replicate_succ, Array.replicate_zero, List.push_toArray, List.append_toArray, List.nil_append, List.cons_append]
  gi_wp2_with (refine ⟨trivial, ?_⟩; gi_at_call 41; refine (disks_in _ _ trivial rfl _ _).mono ?_; rintro e w' ⟨rfl, rfl⟩)
  obtain ⟨W0, hW0⟩ : ∃ W0, (w.alloc (.cells #[.slice a0 L0 cap0, .slice a1 L1 cap1] 114)).alloc (.cells #[.pointer (some ⟨rb, 0, none⟩)] 26) = W0 := ⟨_, rfl⟩
  have br : W0.heap[w.heap.size]? = some (.cells #[.slice a0 L0 cap0, .slice a1 L1 cap1] 114 (0, 0)) := by rw [← hW0, Below.heap_alloc _ _ _ (by simp)]; exact heap_alloc_new w _
  have bd : Boxed W0 (w.heap.size + 1) 26 (.pointer (some ⟨rb, 0, none⟩)) := by
    rw [← hW0]
    have := Boxed.new (w.alloc (.cells #[.slice a0 L0 cap0, .slice a1 L1 cap1] 114)) 26 (.pointer (some ⟨rb, 0, none⟩))
    rwa [World.size_alloc] at this
  have hB0 : Below w.heap.size w W0 := by rw [← hW0]; exact ((Below.refl _ w).alloc (Nat.le_refl _) _).alloc (by simp) _
  have hsz0 : W0.heap.size = w.heap.size + 2 := by rw [← hW0]; simp
  rw [hW0]
  clear hW0
  have P0 : CrashI W0 f rb p0 p1 S b0 b1 [] W0 := ⟨f, H.out.beside hB0, Turn.refl _ _⟩
  have HF : Hid (∀ k, f k → k < w.heap.size) := (RigR.isRes rb p0 p1 S).lt H.out
  have HSZ := Lib.hid hsz0
  have HBZ := Lib.hid hB0
  -- what the two crashes come to
  have stay : ∀ {v : Value} {b : List Int} {f' : Nat → Prop} {W : World}, Sl .u8 w v b → (b ≠ [] → Clear f v) → Turn f f' W0 W → Sl .u8 W v b ∧ (b ≠ [] → Clear f' v) := fun {v b f' W} hs hc ht =>
    ⟨(hs.below hB0).stay ht.size (fun hn x off len cap e hx => ht.out x hx (hc hn x off len cap e)), fun hn x off len cap e hf => (ht.new x hf).elim (hc hn x off len cap e) (fun h => by have := hs.lt_of hn e; omega)⟩
  have beyond : ∀ {f' f'' : Nat → Prop} {W w' : World} {k : Nat}, Turn f f' W0 W → Turn f' f'' W w' → w.heap.size ≤ k → k < W0.heap.size → w'.heap[k]? = W.heap[k]? := fun {f' f'' W w' k} ht hu h1 h2 =>
    hu.out k (Nat.lt_of_lt_of_le h2 ht.size) (fun h => (ht.new k h).elim (fun h => by have := HF.out k h; omega) (fun h => by omega))
  have STEP : Hid (∀ (pre : List Nat) (x : Nat) (W : World), DisksOk pre x → CrashI W0 f rb p0 p1 S b0 b1 pre W → Boxed W (w.heap.size + 1) 26 (.pointer (some ⟨rb, 0, none⟩)) → W.heap[w.heap.size]? = some (.cells #[.slice a0 L0 cap0, .slice a1 L1 cap1] 114 (0, 0)) →
      Calls Try.prog 42 #[.pointer (some ⟨dsk p0 p1 x, 0, none⟩), if x = 0 then .slice a0 L0 cap0 else .slice a1 L1 cap1] W fun e w' => e = .returned (.tuple #[]) ∧ CrashI W0 f rb p0 p1 S b0 b1 (pre ++ [x]) w' ∧ KeepsOthers W w' ∧ Boxed w' (w.heap.size + 1) 26 (.pointer (some ⟨rb, 0, none⟩)) ∧ w'.heap[w.heap.size]? = some (.cells #[.slice a0 L0 cap0, .slice a1 L1 cap1] 114 (0, 0))) := by
    rintro pre x W hok ⟨f', g1, g2⟩ hbd hbr
    rcases hok with ⟨rfl, rfl⟩ | ⟨rfl, rfl⟩
    · obtain ⟨s1, s2⟩ := stay HV0.out HC0.out g2
      refine (RigR.crash0 (S := S) g1 s1 HB0.out s2 HM.out).mono ?_
      rintro e w' ⟨rfl, f'', g3, g4⟩
      exact ⟨rfl, ⟨f'', g3, g2.trans g4⟩, g4.others, (beyond g2 g4 (by omega) (by omega)).trans hbd, (beyond g2 g4 (by omega) (by omega)).trans hbr⟩
    · obtain ⟨s1, s2⟩ := stay HV1.out HC1.out g2
      refine (RigR.crash1 (S := S.cr0 b0) g1 s1 HB1.out s2 (RS.cr0_few HM.out b0)).mono ?_
      rintro e w' ⟨rfl, f'', g3, g4⟩
      exact ⟨rfl, ⟨f'', g3, g2.trans g4⟩, g4.others, (beyond g2 g4 (by omega) (by omega)).trans hbd, (beyond g2 g4 (by omega) (by omega)).trans hbr⟩
  clear stay beyond
  refine wpIn_rangeFunc_by (n := 3) rfl (by omega) (gf := 61) (lb := #[.pointer (some ⟨w.heap.size + 1, 0, none⟩)]) rfl trivial (enters_of Try.func61 (by kernel_rfl) rfl)
    (fun pre W => Boxed W (w.heap.size + 1) 26 (.pointer (some ⟨rb, 0, none⟩)) ∧ W.heap[w.heap.size]? = some (.cells #[.slice a0 L0 cap0, .slice a1 L1 cap1] 114 (0, 0)) ∧ CrashI W0 f rb p0 p1 S b0 b1 pre W)
    (fun _ _ _ => False)
    ((disks_by (w.heap.size + 1) rb p0 p1 W0).mono fun pre W hI => ⟨hI.1, by obtain ⟨f', g1, _⟩ := hI.2.2; exact g1.cell 0, by obtain ⟨f', g1, _⟩ := hI.2.2; exact g1.cell 1⟩)
    (Below.refl _ _) (fun _ => rfl)
    ((boxed_from _ _ (fun _ => .pointer (some ⟨rb, 0, none⟩)) _).and ((row_own _ _ _ _).and (crashI_own W0 f rb p0 p1 S b0 b1 _ (Nat.le_refl _))))
    (fun _ _ _ _ _ h _ _ => h.elim) ⟨bd, br, P0⟩ ?a1 ?assign ?body ?done ?stop
  case assign =>
    intro l x W K hK
    dsimp only [encD]
    gi_wp2
    exact hK
  case body =>
    rintro l pre x W ⟨hbd, hbr, hI⟩ hok
    have HS := Lib.hid (STEP.out pre x W hok hI hbd hbr)
    have c0 : W.cell? ⟨w.heap.size, 0, none⟩ = some (.slice a0 L0 cap0) := by rw [cell_of_row _ _ _ _ _ _ hbr]; rfl
    have c1 : W.cell? ⟨w.heap.size, 1, none⟩ = some (.slice a1 L1 cap1) := by rw [cell_of_row _ _ _ _ _ _ hbr]; rfl
    have c1' : W.cell? ⟨w.heap.size, 0 + 1, none⟩ = some (.slice a1 L1 cap1) := c1
    clear hI hbd hbr
    rcases hok with ⟨rfl, rfl⟩ | ⟨rfl, rfl⟩
    · rw [if_pos rfl] at HS
      gi_wp2_with (refine ⟨trivial, ?_⟩; gi_at_call 42; refine (CallsIn.inRound l (callsIn_wide.2 HS.out)).mono ?_; rintro e w' ⟨rfl, e1, e2, e3, e4⟩)
      exact ⟨e2.from _, trivial, e3, e4, e1⟩
    · rw [if_neg (by omega)] at HS
      gi_wp2_with (refine ⟨trivial, ?_⟩; gi_at_call 42; refine (CallsIn.inRound l (callsIn_wide.2 HS.out)).mono ?_; rintro e w' ⟨rfl, e1, e2, e3, e4⟩)
      exact ⟨e2.from _, trivial, e3, e4, e1⟩
  case done =>
    rintro Dd xs W hDd rfl ⟨hbd, hbr, f', g1, g2⟩ hK
    have q2 : W.cell? ⟨rb, 2, none⟩ = some (.int .i64 S.fuse) := g1.cell 2
    have q3 : W.cell? ⟨rb, 3, none⟩ = some (.bool S.down) := g1.cell 3
    have r2 := g1.frozen 2
    have r3 := g1.frozen 3
    have G1 := Lib.hid g1
    have G2 := Lib.hid g2
    clear g1 g2 hbd hbr
    gi_wp2
    have hK' := (KeepsOthers.setCell (W.setCell ⟨rb, 2, none⟩ (.int .i64 (-1))) ⟨rb, 3, none⟩ (.bool false)).same Dd _ ((KeepsOthers.setCell W ⟨rb, 2, none⟩ (.int .i64 (-1))).same Dd _ hK rfl) rfl
    refine ⟨by simp, .inl ⟨_, _, rfl, run_takeDeferred hK', ?_⟩⟩
    obtain ⟨g3, g4⟩ := G1.out.set (RS.disks_isRes p0 p1 _) 2 (.int .i64 (-1))
    obtain ⟨g5, g6⟩ := g3.set (RS.disks_isRes p0 p1 _) 3 (.bool false)
    have hgr := grownBy_putObj' ((W.setCell ⟨rb, 2, none⟩ (.int .i64 (-1))).setCell ⟨rb, 3, none⟩ (.bool false)) Dd (.deferred none)
    have hT := (Turn.of_below (f := f) HBZ.out).trans ((G2.out.trans g4).trans g6)
    exact ⟨_, results_none rfl _ _ _, rfl, f', (RigR.isRes rb p0 p1 (S.crash b0 b1)).grown g5 hgr (fun r e => by cases e; exact ⟨_, hK', rfl⟩), hT.kept hgr (fun r e => by cases e; have := HSZ.out; omega)⟩
  case stop =>
    rintro D c pre W _ h _
    exact h.elim
end Go.Proofs.Ytfmgaakbfphpbaa

/- revetmentkeep.Fill, revetmentkeep.Ints. -/
namespace Go.Proofs.Ytfmgaakbfphpbaa
open Go.RowKit
set_option linter.unusedVariables false
attribute [-simp] Try.isAgg59 Try.zeroValue59
attribute [-go_sem] loadVar storeVar
attribute [local go_sem] zero_blk build_blk loadVar_open storeVar_open

/-- The first k bytes are laid. -/
def fillTo (v : Int) (k : Nat) : List Value := List.replicate k (.int .u8 v) ++ List.replicate (64 - k) (.int .u8 0)
theorem fillTo_length (v : Int) (k : Nat) (h : k ≤ 64) : (fillTo v k).length = 64 := by simp [fillTo]; omega
theorem fillTo_zero (v : Int) : (fillTo v 0).toArray = zarr := by simp [fillTo, zarr, fillB]
theorem fillTo_all (v : Int) : fillTo v 64 = fillB v := by simp [fillTo, fillB]
theorem fillTo_get (v : Int) (k : Nat) (h : k < 64) : (fillTo v k)[k]? = some (.int .u8 0) := by
  unfold fillTo
  rw [List.getElem?_append_right (by simp), List.length_replicate, Nat.sub_self]
  rw [List.getElem?_replicate, if_pos (by omega)]
theorem fillTo_next (v : Int) (k : Nat) (h : k < 64) : (fillTo v k).set k (.int .u8 v) = fillTo v (k + 1) := by
  unfold fillTo
  rw [List.set_append_right _ _ (by simp), show 64 - k = (64 - (k + 1)) + 1 by omega, List.replicate_succ (n := 64 - (k + 1))]
  simp [List.replicate_succ']

set_option maxRecDepth 100000 in
set_option maxHeartbeats 2000000 in
/-- **Fill**. -/
theorem fill_any (v : Int) (w : World) : Calls Try.prog 21 #[.int .u8 v] w fun e w' => e = .returned (.agg (fillB v).toArray) ∧ Below w.heap.size w w' := by
  obtain ⟨W, hW⟩ : ∃ W, w.alloc (.cells zarr 59) = W := ⟨_, rfl⟩
  have hsz : W.heap.size = w.heap.size + 1 := by rw [← hW]; simp
  have HB : Hid (Below w.heap.size w W) := by rw [← hW]; exact (Below.refl _ w).alloc (Nat.le_refl _) _
  have HSZ := Lib.hid hsz
  have hblk : W.heap[w.heap.size]? = some (.cells zarr 59 (0, 0)) := by rw [← hW]; exact heap_alloc_new w _
  have HBK := Lib.hid hblk
  clear hsz hblk
  go_enter Try.func21, Try.ntmps21
  go_wp2_with fail
  clear hW
  go_loopw [4] (fun i wr => ∃ k : Nat, k ≤ 64 ∧ i = .int .i64 k ∧ wr = W.alloc (.cells (fillTo v k).toArray 59)) (fun i _ => 64 - (intOf i).toNat)
  case atStart => exact ⟨0, Nat.zero_le _, rfl, by rw [fillTo_zero]⟩
  case round =>
    obtain ⟨k, hk, rfl, rfl⟩ := hrel
    by_cases hlt : k < 64
    · have c1 : (W.alloc (.cells (fillTo v k).toArray 59)).cell? ⟨W.heap.size, k, none⟩ = some (.int .u8 0) := by
        rw [cell_of_row _ _ _ _ _ _ (heap_alloc_new W _)]; simpa using fillTo_get v k hlt
      have f1 : (W.alloc (.cells (fillTo v k).toArray 59)).frozen? ⟨W.heap.size, k, none⟩ = false := by
        unfold World.frozen?
        rw [heap_alloc_new W _]
        simp
      have g1 : (k : Int) < 64 := by omega
      have HN := Lib.hid (fillTo_next v k hlt)
      have HLT := Lib.hid hlt
      clear hlt hk
      go_wp2
      exact ⟨⟨k + 1, HLT.out, by simp, by rw [HN.out]⟩, by have := HLT.out; simp [intOf]; omega⟩
    · obtain rfl : k = 64 := by omega
      rw [fillTo_all]
      obtain ⟨W2, hW2⟩ : ∃ W2, W.alloc (.cells (fillB v).toArray 59) = W2 := ⟨_, rfl⟩
      have L : (loadVar 59 ⟨W.heap.size, 0, none⟩).run Try.prog W2 = .ok (.agg (fillB v).toArray) W2 := by rw [← hW2]; exact load_new (by simp [(isBlk_fill v).length])
      have hblk : W2.heap[w.heap.size]? = some (.cells zarr 59 (0, 0)) := by rw [← hW2, Below.heap_alloc _ _ _ (by have := HSZ.out; omega)]; exact HBK.out
      have ht : W2.there w.heap.size 0 64 := fun j hj => by
        have hcell := cell_of_row W2 w.heap.size (0 + j) zarr _ _ hblk
        refine ⟨?_, ?_⟩
        · rw [hcell]; simp [zarr_size]; omega
        · simp [World.frozen?, hblk]
      obtain ⟨W3, hW3⟩ : ∃ W3, W2.setCells w.heap.size 0 (fillB v) = W3 := ⟨_, rfl⟩
      have S : (storeVar 59 ⟨w.heap.size, 0, none⟩ (.agg (fillB v).toArray)).run Try.prog W2 = .ok () W3 := by rw [← hW3]; exact store_blk ht (isBlk_fill v)
      have R : (loadVar 59 ⟨w.heap.size, 0, none⟩).run Try.prog W3 = .ok (.agg (fillB v).toArray) W3 := by
        rw [← hW3]; exact load_blk (World.rangeAt_setCells_same W2 _ 0 (fillB v) (by rw [(isBlk_fill v).length]; exact ht)) (isBlk_fill v).length
      have HB3 : Hid (Below w.heap.size w W3) := by
        have h2 : Below w.heap.size w W2 := by rw [← hW2]; exact HB.out.alloc HB.out.size _
        have h3 : Below w.heap.size W2 W3 := by
          rw [← hW3]
          exact below_setCells (Nat.le_refl _) _ _ _
        exact h2.trans h3
      have g1 : ¬ ((64 : Int) < 64) := by omega
      clear hblk ht hW3 hk hlt
      go_wp2_with fail
      exact bodyPost_ret (results_cell rfl rfl R) rfl ⟨rfl, HB3.out⟩
end Go.Proofs.Ytfmgaakbfphpbaa

/- A rig that a statement has made, and what else it has made. -/
namespace Go.Proofs.Ytfmgaakbfphpbaa
open Go.RowKit
set_option linter.unusedVariables false

/-- Since w0 a rig has been made, which holds S; the blocks own are no part of it. -/
abbrev RAt (w0 W : World) (rb p0 p1 : Nat) (S : RS) (own : Nat → Prop) : Prop := AtR (RigR rb p0 p1 S) w0 W own

theorem RS.fit {S : RS} (h1 : S.fuse ≤ 9223372036854775807) (h2 : 0 ≤ S.done) (h3 : S.done ≤ 1000000) : S.Fit := ⟨fun h => IntWalk.wrap64_in _ (by omega), IntWalk.wrap64_in _ (by omega)⟩

section
variable {w0 W W' : World} {rb p0 p1 : Nat} {S : RS} {own : Nat → Prop}
theorem RAt.beside (h : RAt w0 W rb p0 p1 S own) (hb : Below W.heap.size W W') : RAt w0 W' rb p0 p1 S own := AtR.beside (RigR.isRes _ _ _ _) h hb
theorem RAt.below (h : RAt w0 W rb p0 p1 S own) (hb : Below W.heap.size W W') (own' : Nat → Prop) (ho : ∀ k, own' k → own k ∨ (W.heap.size ≤ k ∧ k < W'.heap.size)) : RAt w0 W' rb p0 p1 S own' := AtR.below (RigR.isRes _ _ _ _) h hb own' ho
set_option maxRecDepth 100000 in
theorem RAt.new (n0 n1 : Nat) (w0 w : World) (hb : Below w0.heap.size w0 w) (h01 : 1 ≤ n0) (h02 : n0 ≤ 4096) (h11 : 1 ≤ n1) (h12 : n1 ≤ 4096) (own : Nat → Prop) (ho : ∀ k, own k → k < w.heap.size) :
    Calls Try.prog 10 #[.int .i64 (n0 : Int), .int .i64 (n1 : Int)] w fun e w' => ∃ rb p0 p1, e = .returned (.tuple #[.pointer (some ⟨rb, 0, none⟩), .int .i64 0]) ∧ RAt w0 w' rb p0 p1 (newS n0 n1) own ∧ Below w.heap.size w w' := by
  refine (rigNew_yes n0 n1 w h01 h02 h11 h12).mono ?_
  rintro e w' ⟨rb, p0, p1, rfl, ⟨f, g1, g2⟩, g3⟩
  exact ⟨rb, p0, p1, rfl, ⟨f, g1, fun k hk => ⟨Nat.le_trans hb.size (g2 k hk), fun h => by have := ho k h; have := g2 k hk; omega⟩, fun k hk => Nat.lt_of_lt_of_le (ho k hk) g3.size, hb.trans (g3.mono hb.size)⟩, g3⟩
set_option maxRecDepth 100000 in
theorem RAt.write (h : RAt w0 W rb p0 p1 S own) (hS : S.Fit) (hm : S.Few 255) (dev i : Int) {b : List Value} (hb : IsBlk b) :
    Calls Try.prog 20 #[.pointer (some ⟨rb, 0, none⟩), .int .i64 dev, .int .i64 i, .agg b.toArray] W fun e w' => e = .returned (.int .i64 (S.writeE dev i)) ∧ RAt w0 w' rb p0 p1 (S.write dev i b) own ∧ ∀ k, own k → w'.heap[k]? = W.heap[k]? :=
  AtR.call (R := fun e _ => e = .returned (.int .i64 (S.writeE dev i))) (RigR.isRes _ _ _ _) h fun f hf _ => hf.write hS hm dev i hb
set_option maxRecDepth 100000 in
theorem RAt.flush (h : RAt w0 W rb p0 p1 S own) (hS : S.Fit) (dev : Int) :
    Calls Try.prog 54 #[.pointer (some ⟨rb, 0, none⟩), .int .i64 dev] W fun e w' => e = .returned (.int .i64 (S.flushE dev)) ∧ RAt w0 w' rb p0 p1 (S.flush dev) own ∧ ∀ k, own k → w'.heap[k]? = W.heap[k]? :=
  AtR.call (R := fun e _ => e = .returned (.int .i64 (S.flushE dev))) (RigR.isRes _ _ _ _) h fun f hf _ => hf.flush hS dev
set_option maxRecDepth 100000 in
theorem RAt.arm (h : RAt w0 W rb p0 p1 S own) (n : Int) :
    Calls Try.prog 26 #[.pointer (some ⟨rb, 0, none⟩), .int .i64 n] W fun e w' => e = .returned (.tuple #[]) ∧ RAt w0 w' rb p0 p1 { S with fuse := n } own ∧ ∀ k, own k → w'.heap[k]? = W.heap[k]? :=
  AtR.call (R := fun e _ => e = .returned (.tuple #[])) (RigR.isRes _ _ _ _) h fun f hf _ => hf.arm n
set_option maxRecDepth 100000 in
theorem RAt.read (h : RAt w0 W rb p0 p1 S own) (dev i : Int) :
    Calls Try.prog 23 #[.pointer (some ⟨rb, 0, none⟩), .int .i64 dev, .int .i64 i] W fun e w' => e = .returned (.tuple #[.agg (S.read dev i).toArray, .int .i64 (S.readE dev i)]) ∧ Below W.heap.size W w' :=
  AtR.look h fun f hf => hf.read dev i
set_option maxRecDepth 100000 in
theorem RAt.len (h : RAt w0 W rb p0 p1 S own) (dev : Int) :
    Calls Try.prog 52 #[.pointer (some ⟨rb, 0, none⟩), .int .i64 dev] W fun e w' => e = .returned (.int .i64 (S.len dev : Int)) ∧ Below W.heap.size W w' :=
  AtR.look h fun f hf => hf.len dev
set_option maxRecDepth 100000 in
theorem RAt.crash {v0 v1 : Value} {b0 b1 : List Int} (h : RAt w0 W rb p0 p1 S own) (hv0 : Sl .u8 W v0 b0) (hv1 : Sl .u8 W v1 b1) (hB0 : IsBytes b0) (hB1 : IsBytes b1)
    (hc0 : b0 ≠ [] → ∀ b off len cap, v0 = .slice (some ⟨b, off, none⟩) len cap → b < w0.heap.size ∨ own b) (hc1 : b1 ≠ [] → ∀ b off len cap, v1 = .slice (some ⟨b, off, none⟩) len cap → b < w0.heap.size ∨ own b) (hm : S.Few 1000000) :
    Calls Try.prog 18 #[.pointer (some ⟨rb, 0, none⟩), v0, v1] W fun e w' => e = .returned (.tuple #[]) ∧ RAt w0 w' rb p0 p1 (S.crash b0 b1) own ∧ ∀ k, own k → w'.heap[k]? = W.heap[k]? :=
  AtR.call (R := fun e _ => e = .returned (.tuple #[])) (RigR.isRes _ _ _ _) h fun f hf hk => by
    refine hf.crash hv0 hv1 hB0 hB1 (fun hn b off len cap e hfb => ?_) (fun hn b off len cap e hfb => ?_) hm
    · rcases hc0 hn b off len cap e with h' | h'
      · have := (hk b hfb).1; omega
      · exact (hk b hfb).2 h'
    · rcases hc1 hn b off len cap e with h' | h'
      · have := (hk b hfb).1; omega
      · exact (hk b hfb).2 h'
theorem RAt.okRead (h : RAt w0 W rb p0 p1 S own) (dev i : Int) : IsBlk (S.read dev i) := by
  obtain ⟨f, h1, _⟩ := h
  unfold RS.read
  split
  · next hh => exact h1.okLook hh.1
  · exact isBlk_fill 0
end
end Go.Proofs.Ytfmgaakbfphpbaa

/- Rigs without a fuse; how many versions there are. -/
namespace Go.Proofs.Ytfmgaakbfphpbaa
open Go.RowKit
set_option linter.unusedVariables false

/-- It is up, and has no fuse. -/
structure RS.Up (S : RS) : Prop where
  fuse : S.fuse = -1
  down : S.down = false
theorem RS.Up.ok {S : RS} (h : S.Up) : S.ok = true := by unfold RS.ok; rw [h.down, h.fuse]; rfl
theorem RS.Up.after {S : RS} (h : S.Up) : S.after = { S with done := S.done + 1 } := by
  unfold RS.after
  rw [if_pos h.ok, if_neg (by rw [h.fuse]; omega)]
theorem RS.put_rest (S : RS) (dev : Int) (i : Nat) (b : List Value) : (S.put dev i b).fuse = S.fuse ∧ (S.put dev i b).down = S.down ∧ (S.put dev i b).done = S.done ∧ (S.put dev i b).n0 = S.n0 ∧ (S.put dev i b).n1 = S.n1 := by
  unfold RS.put; split <;> exact ⟨rfl, rfl, rfl, rfl, rfl⟩
theorem RS.fl_rest (S : RS) (dev : Int) : (S.fl dev).fuse = S.fuse ∧ (S.fl dev).down = S.down ∧ (S.fl dev).done = S.done ∧ (S.fl dev).n0 = S.n0 ∧ (S.fl dev).n1 = S.n1 := by
  unfold RS.fl; split <;> exact ⟨rfl, rfl, rfl, rfl, rfl⟩
theorem RS.Up.write {S : RS} (h : S.Up) (dev i : Int) (b : List Value) : (S.write dev i b).Up ∧ ((S.writeE dev i = 0 ∧ (S.write dev i b).done = S.done + 1) ∨ (S.writeE dev i = 1 ∧ (S.write dev i b).done = S.done)) := by
  unfold RS.write RS.writeE
  split
  · rw [if_pos h.ok, if_pos h.ok, h.after]
    have := RS.put_rest { S with done := S.done + 1 } dev i.toNat b
    exact ⟨⟨this.1.trans h.fuse, this.2.1.trans h.down⟩, .inl ⟨rfl, this.2.2.1⟩⟩
  · exact ⟨h, .inr ⟨rfl, rfl⟩⟩
theorem RS.Up.flush {S : RS} (h : S.Up) (dev : Int) : (S.flush dev).Up ∧ ((S.flushE dev = 0 ∧ (S.flush dev).done = S.done + 1) ∨ (S.flushE dev = 1 ∧ (S.flush dev).done = S.done)) := by
  unfold RS.flush RS.flushE
  split
  · rw [if_pos h.ok, if_pos h.ok, h.after]
    have := RS.fl_rest { S with done := S.done + 1 } dev
    exact ⟨⟨this.1.trans h.fuse, this.2.1.trans h.down⟩, .inl ⟨rfl, this.2.2.1⟩⟩
  · exact ⟨h, .inr ⟨rfl, rfl⟩⟩
theorem RS.crash_up (S : RS) (b0 b1 : List Int) : (S.crash b0 b1).Up ∧ (S.crash b0 b1).done = S.done := ⟨⟨rfl, rfl⟩, rfl⟩
theorem newS_up (n0 n1 : Nat) : (newS n0 n1).Up := ⟨rfl, rfl⟩

theorem upd_few {D : Nat → Sec} {n m k : Nat} {b : List Value} (h : ∀ i, i < n → (D i).vs.length ≤ m) (hk : k < n) (hm : m ≤ 254) : ∀ i, i < n → (upd D k ((D k).add b) i).vs.length ≤ m + 1 := fun i hi => by
  by_cases e : i = k
  · subst e; rw [upd_same, add_more _ _ (by have := h i hi; omega)]; have := h i hi; omega
  · rw [upd_other _ _ e]; exact Nat.le_succ_of_le (h i hi)
theorem RS.few_put {S : RS} {m : Nat} (h : S.Few m) (hm : m ≤ 254) {dev i : Int} (hi : S.has dev i = true) (b : List Value) : (S.put dev i.toNat b).Few (m + 1) := by
  obtain ⟨hd, k, rfl, hk⟩ := RS.has_lt hi
  rcases hd with rfl | rfl
  · exact ⟨upd_few h.1 (by exact hk) hm, fun i hi => Nat.le_succ_of_le (h.2 i hi)⟩
  · exact ⟨fun i hi => Nat.le_succ_of_le (h.1 i hi), upd_few h.2 (by exact hk) hm⟩
theorem RS.few_write {S : RS} {m : Nat} (h : S.Few m) (hm : m ≤ 254) (dev i : Int) (b : List Value) : (S.write dev i b).Few (m + 1) := by
  unfold RS.write
  split
  · next hh =>
    split
    · exact RS.few_put (RS.after_few h) hm (by unfold RS.has; rw [S.after_len]; exact hh) b
    · exact (RS.after_few h).mono (by omega)
  · exact h.mono (by omega)
theorem RS.few_fl {S : RS} {m : Nat} (h : S.Few m) (dev : Int) : (S.fl dev).Few m := by
  unfold RS.fl
  split
  · exact ⟨fun i hi => by show (flTo S.D0 S.n0 i).vs.length ≤ m; unfold flTo; rw [if_pos (by exact hi)]; exact Nat.zero_le _, h.2⟩
  · exact ⟨h.1, fun i hi => by show (flTo S.D1 S.n1 i).vs.length ≤ m; unfold flTo; rw [if_pos (by exact hi)]; exact Nat.zero_le _⟩
theorem RS.few_flush {S : RS} {m : Nat} (h : S.Few m) (dev : Int) : (S.flush dev).Few m := by
  unfold RS.flush
  split
  · split
    · exact RS.few_fl (RS.after_few h) dev
    · exact RS.after_few h
  · exact h
theorem RS.few_crash (S : RS) (b0 b1 : List Int) (m : Nat) : (S.crash b0 b1).Few m :=
  ⟨fun i hi => by show (settled S.D0 _ _ i).vs.length ≤ m; rw [settled_none S.D0 _ S.n0 i hi]; exact Nat.zero_le _, fun i hi => by show (settled S.D1 _ _ i).vs.length ≤ m; rw [settled_none S.D1 _ S.n1 i hi]; exact Nat.zero_le _⟩
theorem few_newS (n0 n1 m : Nat) : (newS n0 n1).Few m := ⟨fun i _ => Nat.zero_le _, fun i _ => Nat.zero_le _⟩
end Go.Proofs.Ytfmgaakbfphpbaa

/- A transaction that is written into a rig: what the fast disk is then, and behind a crash. -/
namespace Go.Proofs.Ytfmgaakbfphpbaa
open Go.RowKit
set_option linter.unusedVariables false

/-- The bytes of cells; what a sector yields. -/
def byt (c : List Value) : List Int := c.map intOf
theorem byt_u8s (bs : List Int) : byt (u8s bs) = bs := by
  unfold byt u8s
  rw [List.map_map, show intOf ∘ Value.int .u8 = id from by funext x; rfl, List.map_id]
def RS.rd (S : RS) (i : Nat) : List Int := byt (S.D0 i).look

/-- Writes one behind the other, till one is refused. -/
def RS.wrs (S : RS) : List (Nat × List Value) → RS × Bool
  | [] => (S, true)
  | (i, b) :: l => if S.writeE 0 (i : Int) = 0 then (S.write 0 (i : Int) b).wrs l else (S.write 0 (i : Int) b, false)
def adds (D : Nat → Sec) : List (Nat × List Value) → Nat → Sec
  | [] => D
  | (i, b) :: l => adds (upd D i ((D i).add b)) l
theorem adds_not {i : Nat} : ∀ (l : List (Nat × List Value)) (D : Nat → Sec), i ∉ l.map (·.1) → adds D l i = D i
  | [], D, _ => rfl
  | (j, b) :: l, D, h => by
    simp only [List.map_cons, List.mem_cons, not_or] at h
    show adds (upd D j _) l i = _
    rw [adds_not l _ h.2, upd_other _ _ h.1]
theorem adds_mem {i : Nat} {b : List Value} : ∀ (l : List (Nat × List Value)) (D : Nat → Sec), (l.map (·.1)).Nodup → (i, b) ∈ l → adds D l i = (D i).add b
  | [], D, _, h => by simp at h
  | (j, c) :: l, D, hn, h => by
    simp only [List.map_cons, List.nodup_cons] at hn
    show adds (upd D j _) l i = _
    rcases List.mem_cons.1 h with e | h
    · cases e
      rw [adds_not l _ hn.1, upd_same]
    · have hne : i ≠ j := fun e => hn.1 (e ▸ List.mem_map_of_mem h)
      rw [adds_mem l _ hn.2 h, upd_other _ _ hne]
/-- The same rig but for the fast disk, its fuse, and what it counts. -/
structure Same0 (S T : RS) : Prop where
  n0 : T.n0 = S.n0
  n1 : T.n1 = S.n1
  D1 : T.D1 = S.D1
theorem Same0.refl (S : RS) : Same0 S S := ⟨rfl, rfl, rfl⟩
theorem Same0.trans {A B C : RS} (h : Same0 A B) (k : Same0 B C) : Same0 A C := ⟨k.n0.trans h.n0, k.n1.trans h.n1, k.D1.trans h.D1⟩
theorem RS.has0 {S : RS} {i : Nat} (h : i < S.n0) : S.has 0 (i : Int) = true := by
  unfold RS.has RS.len
  rw [if_pos rfl]
  exact decide_eq_true ⟨by omega, by omega⟩
/-- One write. -/
theorem RS.write0 (S : RS) {i : Nat} (h : i < S.n0) (b : List Value) : Same0 S (S.write 0 (i : Int) b) ∧ ((S.ok = true ∧ S.writeE 0 (i : Int) = 0 ∧ (S.write 0 (i : Int) b).D0 = upd S.D0 i ((S.D0 i).add b)) ∨ (S.ok = false ∧ S.writeE 0 (i : Int) = 14 ∧ (S.write 0 (i : Int) b).D0 = S.D0)) := by
  have hh := RS.has0 h
  obtain ⟨e0, e1, e2, e3⟩ := S.after_same
  unfold RS.write RS.writeE
  rw [if_pos hh, if_pos hh]
  by_cases hok : S.ok = true
  · rw [if_pos hok, if_pos hok]
    refine ⟨?_, .inl ⟨hok, rfl, ?_⟩⟩
    · unfold RS.put
      rw [if_pos rfl]
      exact ⟨e0, e1, e3⟩
    · unfold RS.put
      rw [if_pos rfl]
      show upd S.after.D0 _ ((S.after.D0 _).add b) = _
      rw [e2]
      rfl
  · rw [if_neg hok, if_neg hok]
    exact ⟨⟨e0, e1, e3⟩, .inr ⟨by simpa using hok, rfl, e2⟩⟩
theorem RS.flush0 (S : RS) : Same0 S (S.flush 0) ∧ ((S.ok = true ∧ S.flushE 0 = 0 ∧ (S.flush 0).D0 = flTo S.D0 S.n0) ∨ (S.ok = false ∧ S.flushE 0 = 14 ∧ (S.flush 0).D0 = S.D0)) := by
  obtain ⟨e0, e1, e2, e3⟩ := S.after_same
  have a1 : S.flush 0 = if S.ok = true then S.after.fl 0 else S.after := by unfold RS.flush; rw [if_pos (Or.inl rfl)]
  have a2 : S.flushE 0 = if S.ok = true then 0 else 14 := by unfold RS.flushE; rw [if_pos (Or.inl rfl)]
  rw [a1, a2]
  by_cases hok : S.ok = true
  · rw [if_pos hok, if_pos hok]
    refine ⟨?_, .inl ⟨hok, rfl, ?_⟩⟩
    · unfold RS.fl
      rw [if_pos rfl]
      exact ⟨e0, e1, e3⟩
    · unfold RS.fl
      rw [if_pos rfl]
      show flTo S.after.D0 S.after.n0 = _
      rw [e2, e0]
  · rw [if_neg hok, if_neg hok]
    exact ⟨⟨e0, e1, e3⟩, .inr ⟨by simpa using hok, rfl, e2⟩⟩
theorem RS.wrs_spec : ∀ (l : List (Nat × List Value)) (S : RS), (∀ x ∈ l, x.1 < S.n0) → Same0 S (S.wrs l).1 ∧ ∃ m, m ≤ l.length ∧ (S.wrs l).1.D0 = adds S.D0 (l.take m) ∧ ((S.wrs l).2 = true → m = l.length)
  | [], S, _ => ⟨Same0.refl S, 0, Nat.le_refl _, rfl, fun _ => rfl⟩
  | (i, b) :: l, S, h => by
    have hi : i < S.n0 := h (i, b) List.mem_cons_self
    obtain ⟨h1, h2⟩ := S.write0 hi b
    unfold RS.wrs
    rcases h2 with ⟨hok, he, hD⟩ | ⟨hok, he, hD⟩
    · rw [if_pos he]
      obtain ⟨g1, m, g2, g3, g4⟩ := RS.wrs_spec l (S.write 0 (i : Int) b) (fun x hx => by rw [h1.n0]; exact h x (List.mem_cons_of_mem _ hx))
      refine ⟨h1.trans g1, m + 1, by simpa using g2, ?_, fun hh => by rw [g4 hh]; rfl⟩
      rw [g3, hD]
      rfl
    · rw [if_neg (by rw [he]; omega)]
      exact ⟨h1, 0, Nat.zero_le _, hD, fun hh => by simp at hh⟩
theorem RS.Up.wrs : ∀ (l : List (Nat × List Value)) {S : RS}, S.Up → (∀ x ∈ l, x.1 < S.n0) → (S.wrs l).2 = true ∧ (S.wrs l).1.Up
  | [], S, hu, _ => ⟨rfl, hu⟩
  | (i, b) :: l, S, hu, h => by
    have hi : i < S.n0 := h (i, b) List.mem_cons_self
    obtain ⟨h1, h2⟩ := S.write0 hi b
    unfold RS.wrs
    rcases h2 with ⟨hok, he, hD⟩ | ⟨hok, he, hD⟩
    · rw [if_pos he]
      exact RS.Up.wrs l (hu.write 0 (i : Int) b).1 (fun x hx => by rw [h1.n0]; exact h x (List.mem_cons_of_mem _ hx))
    · rw [hu.ok] at hok
      cases hok

/-- What is written for a transaction, and where. -/
def txnW (frm count at0 : Nat) (seq : Int) (t : List Img) : List (Nat × List Value) := (txnB seq t).zipIdx.map fun x => (frm + (at0 + x.2) % count, u8s x.1)
theorem txnW_length (frm count at0 : Nat) (seq : Int) (t : List Img) : (txnW frm count at0 seq t).length = t.length + 1 := by simp [txnW, txnB_length]
theorem txnW_get {frm count at0 : Nat} {seq : Int} {t : List Img} {k : Nat} {b : List Int} (h : (txnB seq t)[k]? = some b) : (txnW frm count at0 seq t)[k]? = some (frm + (at0 + k) % count, u8s b) := by
  unfold txnW
  rw [List.getElem?_map, List.getElem?_zipIdx, h]
  simp
theorem txnW_fst (frm count at0 : Nat) (seq : Int) (t : List Img) : (txnW frm count at0 seq t).map (·.1) = (List.range (t.length + 1)).map fun k => frm + (at0 + k) % count := by
  apply List.ext_getElem?
  intro k
  rw [List.getElem?_map, List.getElem?_map]
  by_cases hk : k < t.length + 1
  · rw [List.getElem?_range hk]
    have : k < (txnB seq t).length := by rw [txnB_length]; exact hk
    rw [txnW_get (List.getElem?_eq_getElem this)]
    rfl
  · rw [List.getElem?_eq_none (by rw [txnW_length]; omega), List.getElem?_eq_none (by simp; omega)]
    rfl
theorem mod_inj {a count j k : Nat} (hj : j < count) (hk : k < count) (h : (a + j) % count = (a + k) % count) : j = k := by
  have h1 := Nat.div_add_mod (a + j) count
  have h2 := Nat.div_add_mod (a + k) count
  rw [h] at h1
  rcases Nat.lt_trichotomy ((a + j) / count) ((a + k) / count) with h3 | h3 | h3
  · have := Nat.mul_le_mul_left count (show (a + j) / count + 1 ≤ (a + k) / count from h3)
    rw [Nat.mul_succ] at this
    omega
  · rw [h3] at h1
    omega
  · have := Nat.mul_le_mul_left count (show (a + k) / count + 1 ≤ (a + j) / count from h3)
    rw [Nat.mul_succ] at this
    omega
theorem txnW_nodup {frm count at0 : Nat} {seq : Int} {t : List Img} (h : t.length + 1 ≤ count) : ((txnW frm count at0 seq t).map (·.1)).Nodup := by
  rw [txnW_fst]
  unfold List.Nodup
  rw [List.pairwise_map]
  refine List.Pairwise.imp_of_mem (fun {j k} hj hk hne e => ?_) List.nodup_range
  have hj := List.mem_range.1 hj
  have hk := List.mem_range.1 hk
  exact hne (mod_inj (a := at0) (count := count) (by omega) (by omega) (by omega))
/-- **Append**, on the rig's state. -/
def RS.app (S : RS) (frm count at0 : Nat) (seq : Int) (t : List Img) : RS × Int :=
  if (S.wrs ((txnW frm count at0 seq t).take t.length)).2 = false then ((S.wrs ((txnW frm count at0 seq t).take t.length)).1, 14)
  else if (S.wrs ((txnW frm count at0 seq t).take t.length)).1.flushE 0 ≠ 0 then ((S.wrs ((txnW frm count at0 seq t).take t.length)).1.flush 0, 14)
  else if (((S.wrs ((txnW frm count at0 seq t).take t.length)).1.flush 0).wrs ((txnW frm count at0 seq t).drop t.length)).2 = false then ((((S.wrs ((txnW frm count at0 seq t).take t.length)).1.flush 0).wrs ((txnW frm count at0 seq t).drop t.length)).1, 14)
  else if (((S.wrs ((txnW frm count at0 seq t).take t.length)).1.flush 0).wrs ((txnW frm count at0 seq t).drop t.length)).1.flushE 0 ≠ 0 then ((((S.wrs ((txnW frm count at0 seq t).take t.length)).1.flush 0).wrs ((txnW frm count at0 seq t).drop t.length)).1.flush 0, 14)
  else ((((S.wrs ((txnW frm count at0 seq t).take t.length)).1.flush 0).wrs ((txnW frm count at0 seq t).drop t.length)).1.flush 0, 0)
end Go.Proofs.Ytfmgaakbfphpbaa

/- What an Append leaves, done or cut, and what a crash leaves of it. -/
namespace Go.Proofs.Ytfmgaakbfphpbaa
open Go.RowKit
set_option linter.unusedVariables false

structure Same0n (S T : RS) : Prop where
  n0 : T.n0 = S.n0
  n1 : T.n1 = S.n1
section
variable {S : RS} {frm count at0 : Nat} {seq : Int} {t : List Img}
/-- Place k. -/
def plc (frm count at0 k : Nat) : Nat := frm + (at0 + k) % count
/-- The images are flushed. -/
def fledD (S : RS) (frm count at0 : Nat) (seq : Int) (t : List Img) : Nat → Sec := flTo (adds S.D0 ((txnW frm count at0 seq t).take t.length)) S.n0
theorem txnW_lt (hc : 0 < count) (hn : frm + count ≤ S.n0) : ∀ x ∈ txnW frm count at0 seq t, x.1 < S.n0 := fun x hx => by
  have : x.1 ∈ (txnW frm count at0 seq t).map (·.1) := List.mem_map_of_mem hx
  rw [txnW_fst] at this
  obtain ⟨k, _, e⟩ := List.mem_map.1 this
  rw [← e]
  have := Nat.mod_lt (at0 + k) hc
  omega
theorem RS.app_cases (hc : 0 < count) (hn : frm + count ≤ S.n0) : Same0 S (S.app frm count at0 seq t).1 ∧
    (((S.app frm count at0 seq t).2 = 14 ∧ ∃ m, m ≤ t.length ∧ (S.app frm count at0 seq t).1.D0 = adds S.D0 (((txnW frm count at0 seq t).take t.length).take m)) ∨
     ((S.app frm count at0 seq t).2 = 14 ∧ (S.app frm count at0 seq t).1.D0 = fledD S frm count at0 seq t) ∨
     ((S.app frm count at0 seq t).2 = 14 ∧ (S.app frm count at0 seq t).1.D0 = adds (fledD S frm count at0 seq t) ((txnW frm count at0 seq t).drop t.length)) ∨
     ((S.app frm count at0 seq t).2 = 0 ∧ (S.app frm count at0 seq t).1.D0 = flTo (adds (fledD S frm count at0 seq t) ((txnW frm count at0 seq t).drop t.length)) S.n0)) := by
  have hlt := txnW_lt (S := S) (at0 := at0) (seq := seq) (t := t) hc hn
  have hL := txnW_length frm count at0 seq t
  obtain ⟨s1, m, m1, m2, m3⟩ := RS.wrs_spec ((txnW frm count at0 seq t).take t.length) S (fun x hx => hlt x (List.mem_of_mem_take hx))
  have hm : m ≤ t.length := by rw [List.length_take] at m1; omega
  unfold RS.app
  generalize hR : S.wrs ((txnW frm count at0 seq t).take t.length) = R at *
  by_cases h1 : R.2 = false
  · rw [if_pos h1]
    exact ⟨s1, .inl ⟨rfl, m, hm, m2⟩⟩
  · rw [if_neg h1]
    have hmn : m = t.length := by
      have := m3 (by simpa using h1)
      rw [List.length_take] at this
      omega
    have hall : ((txnW frm count at0 seq t).take t.length).take m = (txnW frm count at0 seq t).take t.length := by rw [hmn, List.take_take, Nat.min_self]
    rw [hall] at m2
    obtain ⟨s2, f2⟩ := R.1.flush0
    rcases f2 with ⟨-, fe, fD⟩ | ⟨-, fe, fD⟩
    · rw [if_neg (by rw [fe]; simp)]
      have hF : (R.1.flush 0).D0 = fledD S frm count at0 seq t := by rw [fD, m2, s1.n0]; rfl
      have s12 := s1.trans s2
      obtain ⟨s3, m', k1, k2, k3⟩ := RS.wrs_spec ((txnW frm count at0 seq t).drop t.length) (R.1.flush 0) (fun x hx => by rw [s12.n0]; exact hlt x (List.mem_of_mem_drop hx))
      generalize hQ : (R.1.flush 0).wrs ((txnW frm count at0 seq t).drop t.length) = Q at *
      rw [hF] at k2
      have hdl : ((txnW frm count at0 seq t).drop t.length).length = 1 := by rw [List.length_drop, hL]; omega
      have s13 := s12.trans s3
      have hcase : Q.1.D0 = fledD S frm count at0 seq t ∨ Q.1.D0 = adds (fledD S frm count at0 seq t) ((txnW frm count at0 seq t).drop t.length) := by
        rcases Nat.eq_zero_or_pos m' with h | h
        · left; rw [k2, h, List.take_zero]; rfl
        · right; rw [k2, List.take_of_length_le (by omega)]
      by_cases h2 : Q.2 = false
      · rw [if_pos h2]
        refine ⟨s13, ?_⟩
        rcases hcase with h | h
        · exact .inr (.inl ⟨rfl, h⟩)
        · exact .inr (.inr (.inl ⟨rfl, h⟩))
      · rw [if_neg h2]
        have hfull : Q.1.D0 = adds (fledD S frm count at0 seq t) ((txnW frm count at0 seq t).drop t.length) := by
          rw [k2, List.take_of_length_le (by have := k3 (by simpa using h2); omega)]
        obtain ⟨s4, f4⟩ := Q.1.flush0
        rcases f4 with ⟨-, ge, gD⟩ | ⟨-, ge, gD⟩
        · rw [if_neg (by rw [ge]; simp)]
          exact ⟨s13.trans s4, .inr (.inr (.inr ⟨rfl, by show (Q.1.flush 0).D0 = _; rw [gD, hfull, s13.n0]⟩))⟩
        · rw [if_pos (by rw [ge]; omega)]
          exact ⟨s13.trans s4, .inr (.inr (.inl ⟨rfl, by show (Q.1.flush 0).D0 = _; rw [gD, hfull]⟩))⟩
    · rw [if_pos (by rw [fe]; omega)]
      exact ⟨s1.trans s2, .inl ⟨rfl, t.length, Nat.le_refl _, by show (R.1.flush 0).D0 = _; rw [fD, m2, List.take_take, Nat.min_self]⟩⟩
theorem RS.app_up (hu : S.Up) (hc : 0 < count) (hn : frm + count ≤ S.n0) : (S.app frm count at0 seq t).2 = 0 ∧ (S.app frm count at0 seq t).1.Up := by
  have hlt := txnW_lt (S := S) (at0 := at0) (seq := seq) (t := t) hc hn
  obtain ⟨s1, -⟩ := RS.wrs_spec ((txnW frm count at0 seq t).take t.length) S (fun x hx => hlt x (List.mem_of_mem_take hx))
  obtain ⟨u1, u2⟩ := RS.Up.wrs ((txnW frm count at0 seq t).take t.length) hu (fun x hx => hlt x (List.mem_of_mem_take hx))
  obtain ⟨u3, u4⟩ := u2.flush 0
  have g0 : ∀ T : RS, T.Up → T.flushE 0 = 0 := fun T hT => by
    rcases T.flush0.2 with ⟨_, h, _⟩ | ⟨h, _, _⟩
    · exact h
    · rw [hT.ok] at h; cases h
  have s2 := (S.wrs ((txnW frm count at0 seq t).take t.length)).1.flush0.1
  obtain ⟨u5, u6⟩ := RS.Up.wrs ((txnW frm count at0 seq t).drop t.length) u3 (fun x hx => by rw [(s1.trans s2).n0]; exact hlt x (List.mem_of_mem_drop hx))
  unfold RS.app
  rw [if_neg (by rw [u1]; simp), if_neg (by rw [g0 _ u2]; simp), if_neg (by rw [u5]; simp), if_neg (by rw [g0 _ u6]; simp)]
  exact ⟨rfl, (u6.flush 0).1⟩
/-- What a sector may contain behind a crash. -/
def Sec.may (s : Sec) (c : List Value) : Prop := c = s.c ∨ c ∈ s.vs
theorem Sec.add_few {s : Sec} (h : s.vs.length ≤ 255) (b : List Value) : s.add b = ⟨s.c, s.vs ++ [b]⟩ := by unfold Sec.add; rw [if_neg (by omega)]
theorem Sec.look_add {s : Sec} (h : s.vs.length ≤ 255) (b : List Value) : (s.add b).look = b := by rw [Sec.add_few h]; unfold Sec.look; simp
theorem look_c {s : Sec} (h : s.vs = []) : s.look = s.c := by unfold Sec.look; rw [h]; rfl
theorem plc_lt (hc : 0 < count) (hn : frm + count ≤ S.n0) (k : Nat) : plc frm count at0 k < S.n0 := by
  unfold plc
  have := Nat.mod_lt (at0 + k) hc
  omega
theorem plc_inj {j k : Nat} (hj : j < count) (hk : k < count) (h : plc frm count at0 j = plc frm count at0 k) : j = k := by
  unfold plc at h
  exact mod_inj (a := at0) hj hk (by omega)
theorem img_mem {k m : Nat} {b : List Int} (hb : (txnB seq t)[k]? = some b) (hk : k < m) (hkn : k < t.length) : (plc frm count at0 k, u8s b) ∈ ((txnW frm count at0 seq t).take t.length).take m := by
  refine List.mem_of_getElem? (i := k) ?_
  rw [List.getElem?_take, if_pos hk, List.getElem?_take, if_pos hkn]
  exact txnW_get hb
theorem img_not {k m : Nat} (h : t.length + 1 ≤ count) (hk : k ≤ t.length) (hm : m ≤ k ∨ k = t.length) : plc frm count at0 k ∉ (((txnW frm count at0 seq t).take t.length).take m).map (·.1) := fun hmem => by
  obtain ⟨x, hx, e⟩ := List.mem_map.1 hmem
  obtain ⟨j, hj⟩ := List.getElem?_of_mem hx
  rw [List.getElem?_take] at hj
  by_cases h1 : j < m
  · rw [if_pos h1, List.getElem?_take] at hj
    by_cases h2 : j < t.length
    · rw [if_pos h2] at hj
      have h3 : j < (txnB seq t).length := by rw [txnB_length]; omega
      rw [txnW_get (List.getElem?_eq_getElem h3)] at hj
      cases hj
      have := plc_inj (frm := frm) (at0 := at0) (count := count) (j := j) (k := k) (by omega) (by omega) e
      omega
    · rw [if_neg h2] at hj; cases hj
  · rw [if_neg h1] at hj; cases hj
theorem far_not {i m : Nat} (hi : ∀ k, k ≤ t.length → i ≠ plc frm count at0 k) : i ∉ (((txnW frm count at0 seq t).take t.length).take m).map (·.1) ∧ i ∉ ((txnW frm count at0 seq t).drop t.length).map (·.1) := by
  have key : i ∉ (txnW frm count at0 seq t).map (·.1) := fun hmem => by
    rw [txnW_fst] at hmem
    obtain ⟨k, hk, e⟩ := List.mem_map.1 hmem
    have := List.mem_range.1 hk
    exact hi k (by omega) e.symm
  refine ⟨fun h => key ?_, fun h => key ?_⟩
  · obtain ⟨x, hx, e⟩ := List.mem_map.1 h
    exact e ▸ List.mem_map_of_mem (List.mem_of_mem_take (List.mem_of_mem_take hx))
  · obtain ⟨x, hx, e⟩ := List.mem_map.1 h
    exact e ▸ List.mem_map_of_mem (List.mem_of_mem_drop hx)
theorem com_eq {b : List Int} (hb : (txnB seq t)[t.length]? = some b) : (txnW frm count at0 seq t).drop t.length = [(plc frm count at0 t.length, u8s b)] := by
  have hL := txnW_length frm count at0 seq t
  rw [List.drop_eq_getElem_cons (by omega), List.drop_of_length_le (by omega)]
  have := txnW_get (frm := frm) (count := count) (at0 := at0) hb
  rw [List.getElem?_eq_getElem (by omega)] at this
  rw [Option.some.inj this]
  rfl
theorem txnB_last (seq : Int) (t : List Img) : (txnB seq t)[t.length]? = some (comSct seq t.length).bytes := by
  unfold txnB
  rw [List.getElem?_append_right (by simp)]
  simp
/-- The images are flushed: sector by sector. -/
theorem fled_img (hc : t.length + 1 ≤ count) (hn : frm + count ≤ S.n0) (hf : ∀ i, i < S.n0 → (S.D0 i).vs.length ≤ 255) {k : Nat} {b : List Int} (hb : (txnB seq t)[k]? = some b) (hk : k < t.length) : fledD S frm count at0 seq t (plc frm count at0 k) = ⟨u8s b, []⟩ := by
  have hlt := plc_lt (S := S) (at0 := at0) (show 0 < count by omega) hn k
  have hnd : (((txnW frm count at0 seq t).take t.length).map (·.1)).Nodup := by rw [List.map_take]; exact (txnW_nodup hc).sublist (List.take_sublist _ _)
  have hm : (plc frm count at0 k, u8s b) ∈ (txnW frm count at0 seq t).take t.length := by
    have := img_mem (frm := frm) (count := count) (at0 := at0) (m := t.length) hb hk hk
    rwa [List.take_take, Nat.min_self] at this
  unfold fledD flTo
  rw [if_pos hlt, adds_mem _ _ hnd hm, Sec.look_add (hf _ hlt)]
theorem fled_else {i : Nat} (hi : i < S.n0) (hno : i ∉ ((txnW frm count at0 seq t).take t.length).map (·.1)) : fledD S frm count at0 seq t i = ⟨(S.D0 i).look, []⟩ := by
  unfold fledD flTo
  rw [if_pos hi, adds_not _ _ hno]
theorem take_self_not {k : Nat} (h : t.length + 1 ≤ count) (hk : k = t.length) : plc frm count at0 k ∉ ((txnW frm count at0 seq t).take t.length).map (·.1) := by
  have := img_not (frm := frm) (at0 := at0) (seq := seq) (m := t.length) h (Nat.le_of_eq hk) (.inr hk)
  rwa [List.take_take, Nat.min_self] at this
theorem take_far_not {i : Nat} (hi : ∀ k, k ≤ t.length → i ≠ plc frm count at0 k) : i ∉ ((txnW frm count at0 seq t).take t.length).map (·.1) := by
  have := (far_not (seq := seq) (m := t.length) hi).1
  rwa [List.take_take, Nat.min_self] at this

/-- **An Append that is done.** -/
theorem RS.app_done (he : (S.app frm count at0 seq t).2 = 0) (hc : t.length + 1 ≤ count) (hn : frm + count ≤ S.n0) (hf : ∀ i, i < S.n0 → (S.D0 i).vs.length ≤ 255) :
    (∀ i, i < S.n0 → ((S.app frm count at0 seq t).1.D0 i).vs = []) ∧
    (∀ k b, (txnB seq t)[k]? = some b → (S.app frm count at0 seq t).1.rd (plc frm count at0 k) = b ∧ (S.app frm count at0 seq t).1.D0 (plc frm count at0 k) = ⟨u8s b, []⟩) ∧
    (∀ i, i < S.n0 → (∀ k, k ≤ t.length → i ≠ plc frm count at0 k) → (S.app frm count at0 seq t).1.D0 i = ⟨(S.D0 i).look, []⟩) := by
  have hD : (S.app frm count at0 seq t).1.D0 = flTo (adds (fledD S frm count at0 seq t) ((txnW frm count at0 seq t).drop t.length)) S.n0 := by
    rcases (RS.app_cases (S := S) (frm := frm) (at0 := at0) (seq := seq) (t := t) (show 0 < count by omega) hn).2 with h | h | h | h
    · rw [he] at h; exact absurd h.1 (by omega)
    · rw [he] at h; exact absurd h.1 (by omega)
    · rw [he] at h; exact absurd h.1 (by omega)
    · exact h.2
  rw [com_eq (txnB_last seq t)] at hD
  have hat : ∀ i, i < S.n0 → (S.app frm count at0 seq t).1.D0 i = ⟨(upd (fledD S frm count at0 seq t) (plc frm count at0 t.length) ((fledD S frm count at0 seq t (plc frm count at0 t.length)).add (u8s (comSct seq t.length).bytes)) i).look, []⟩ := fun i hi => by
    rw [hD]
    unfold flTo
    rw [if_pos hi]
    rfl
  have key : ∀ k b, (txnB seq t)[k]? = some b → (S.app frm count at0 seq t).1.D0 (plc frm count at0 k) = ⟨u8s b, []⟩ := fun k b hb => by
    have hk : k < t.length + 1 := by
      have := (List.getElem?_eq_some_iff.1 hb).1
      rwa [txnB_length] at this
    have hlt := plc_lt (S := S) (at0 := at0) (show 0 < count by omega) hn k
    rw [hat _ hlt]
    by_cases hkn : k = t.length
    · subst hkn
      rw [txnB_last] at hb
      cases hb
      rw [upd_same, fled_else hlt (take_self_not hc rfl), Sec.look_add (Nat.zero_le _)]
    · rw [upd_other _ _ (fun e => hkn (plc_inj (frm := frm) (at0 := at0) (count := count) (by omega) (by omega) e)), fled_img hc hn hf hb (by omega)]
      rfl
  refine ⟨fun i hi => by rw [hat i hi], fun k b hb => ⟨?_, key k b hb⟩, fun i hi hno => ?_⟩
  · unfold RS.rd
    rw [key k b hb]
    exact byt_u8s b
  · rw [hat i hi, upd_other _ _ (hno t.length (Nat.le_refl _)), fled_else hi (take_far_not hno)]
    rfl

theorem crash_may (T : RS) (b0 b1 : List Int) {i : Nat} (hi : i < T.n0) : ∃ c, (T.crash b0 b1).D0 i = ⟨c, []⟩ ∧ (T.D0 i).may c := by
  have h1 := settled_none T.D0 (crashG T.D0 b0) T.n0 i hi
  have h2 := settled_either T.D0 (crashG T.D0 b0) T.n0 i hi
  refine ⟨(settled T.D0 (crashG T.D0 b0) (looseTo T.D0 T.n0) i).look, ?_, h2⟩
  show settled T.D0 (crashG T.D0 b0) (looseTo T.D0 T.n0) i = _
  rw [look_c h1]
  cases hs : settled T.D0 (crashG T.D0 b0) (looseTo T.D0 T.n0) i with
  | mk c vs =>
    rw [hs] at h1
    subst h1
    rfl
theorem Sec.eta {s : Sec} (h : s.vs = []) : s = ⟨s.look, []⟩ := by
  rw [look_c h]
  cases s
  simp at h
  rw [h]
/-- What the sectors may contain behind an Append that is cut. -/
theorem RS.app_may (hc : t.length + 1 ≤ count) (hn : frm + count ≤ S.n0) (hS : ∀ i, i < S.n0 → (S.D0 i).vs = []) :
    (∀ i c, i < S.n0 → (∀ k, k ≤ t.length → i ≠ plc frm count at0 k) → ((S.app frm count at0 seq t).1.D0 i).may c → c = (S.D0 i).look) ∧
    ((∀ k b c, (txnB seq t)[k]? = some b → k < t.length → ((S.app frm count at0 seq t).1.D0 (plc frm count at0 k)).may c → c = (S.D0 (plc frm count at0 k)).look ∨ c = u8s b) ∧
     (∀ c, ((S.app frm count at0 seq t).1.D0 (plc frm count at0 t.length)).may c → c = (S.D0 (plc frm count at0 t.length)).look ∨
        (c = u8s (comSct seq t.length).bytes ∧ ∀ k b c', (txnB seq t)[k]? = some b → k < t.length → ((S.app frm count at0 seq t).1.D0 (plc frm count at0 k)).may c' → c' = u8s b))) := by
  have hf : ∀ i, i < S.n0 → (S.D0 i).vs.length ≤ 255 := fun i hi => by rw [hS i hi]; exact Nat.zero_le _
  have hone : ∀ {c d : List Value}, Sec.may ⟨d, []⟩ c → c = d := fun h => by
    rcases h with h | h
    · exact h
    · simp at h
  rcases (RS.app_cases (S := S) (frm := frm) (at0 := at0) (seq := seq) (t := t) (show 0 < count by omega) hn).2 with ⟨he, m, hm, hD⟩ | ⟨he, hD⟩ | ⟨he, hD⟩ | ⟨he, hD⟩
  · rw [hD]
    refine ⟨fun i c hi hno hmay => ?_, fun k b c hb hk hmay => ?_, fun c hmay => ?_⟩
    · rw [adds_not _ _ (far_not hno).1, Sec.eta (hS i hi)] at hmay
      exact hone hmay
    · have hlt := plc_lt (S := S) (at0 := at0) (show 0 < count by omega) hn k
      by_cases hkm : k < m
      · have hnd : ((((txnW frm count at0 seq t).take t.length).take m).map (·.1)).Nodup := by rw [List.map_take, List.map_take]; exact ((txnW_nodup hc).sublist (List.take_sublist _ _)).sublist (List.take_sublist _ _)
        rw [adds_mem _ _ hnd (img_mem hb hkm hk), Sec.add_few (hf _ hlt), hS _ hlt] at hmay
        rcases hmay with h | h
        · left; rw [h, look_c (hS _ hlt)]
        · right; simpa using h
      · rw [adds_not _ _ (img_not hc (by omega) (.inl (by omega))), Sec.eta (hS _ hlt)] at hmay
        exact .inl (hone hmay)
    · have hlt := plc_lt (S := S) (at0 := at0) (show 0 < count by omega) hn t.length
      rw [adds_not _ _ (img_not hc (Nat.le_refl _) (.inr rfl)), Sec.eta (hS _ hlt)] at hmay
      exact .inl (hone hmay)
  · rw [hD]
    refine ⟨fun i c hi hno hmay => ?_, fun k b c hb hk hmay => ?_, fun c hmay => ?_⟩
    · rw [fled_else hi (take_far_not hno)] at hmay
      exact hone hmay
    · rw [fled_img hc hn hf hb hk] at hmay
      exact .inr (hone hmay)
    · rw [fled_else (plc_lt (S := S) (at0 := at0) (show 0 < count by omega) hn t.length) (take_self_not hc rfl)] at hmay
      exact .inl (hone hmay)
  · rw [com_eq (txnB_last seq t)] at hD
    have hD' : (S.app frm count at0 seq t).1.D0 = upd (fledD S frm count at0 seq t) (plc frm count at0 t.length) ((fledD S frm count at0 seq t (plc frm count at0 t.length)).add (u8s (comSct seq t.length).bytes)) := hD
    rw [hD']
    have himg : ∀ k b c, (txnB seq t)[k]? = some b → k < t.length → (upd (fledD S frm count at0 seq t) (plc frm count at0 t.length) ((fledD S frm count at0 seq t (plc frm count at0 t.length)).add (u8s (comSct seq t.length).bytes)) (plc frm count at0 k)).may c → c = u8s b := fun k b c hb hk hmay => by
      rw [upd_other _ _ (fun e => by have := plc_inj (frm := frm) (at0 := at0) (count := count) (j := k) (k := t.length) (by omega) (by omega) e; omega), fled_img hc hn hf hb hk] at hmay
      exact hone hmay
    refine ⟨fun i c hi hno hmay => ?_, fun k b c hb hk hmay => .inr (himg k b c hb hk hmay), fun c hmay => ?_⟩
    · rw [upd_other _ _ (hno t.length (Nat.le_refl _)), fled_else hi (take_far_not hno)] at hmay
      exact hone hmay
    · rw [upd_same, fled_else (plc_lt (S := S) (at0 := at0) (show 0 < count by omega) hn t.length) (take_self_not hc rfl), Sec.add_few (Nat.zero_le _)] at hmay
      rcases hmay with h | h
      · exact .inl h
      · exact .inr ⟨by simpa using h, himg⟩
  · obtain ⟨d1, d2, d3⟩ := RS.app_done he hc hn hf
    refine ⟨fun i c hi hno hmay => ?_, fun k b c hb hk hmay => ?_, fun c hmay => ?_⟩
    · rw [d3 i hi hno] at hmay
      exact hone hmay
    · rw [(d2 k b hb).2] at hmay
      exact .inr (hone hmay)
    · rw [(d2 t.length _ (txnB_last seq t)).2] at hmay
      refine .inr ⟨hone hmay, fun k b c' hb hk hmay' => ?_⟩
      rw [(d2 k b hb).2] at hmay'
      exact hone hmay'
/-- **What a crash leaves of an Append.** -/
theorem RS.app_torn (hc : t.length + 1 ≤ count) (hn : frm + count ≤ S.n0) (hS : ∀ i, i < S.n0 → (S.D0 i).vs = []) (b0 b1 : List Int) :
    Same0n S ((S.app frm count at0 seq t).1.crash b0 b1) ∧ (∀ i, i < S.n0 → (((S.app frm count at0 seq t).1.crash b0 b1).D0 i).vs = []) ∧
    (∀ i, i < S.n0 → (∀ k, k ≤ t.length → i ≠ plc frm count at0 k) → ((S.app frm count at0 seq t).1.crash b0 b1).D0 i = S.D0 i) ∧
    ((∀ k b, (txnB seq t)[k]? = some b → ((S.app frm count at0 seq t).1.crash b0 b1).rd (plc frm count at0 k) = b) ∨
     ((S.app frm count at0 seq t).2 ≠ 0 ∧ (∀ k b, (txnB seq t)[k]? = some b → k < t.length → ((S.app frm count at0 seq t).1.crash b0 b1).rd (plc frm count at0 k) = S.rd (plc frm count at0 k) ∨ ((S.app frm count at0 seq t).1.crash b0 b1).rd (plc frm count at0 k) = b) ∧
        ((S.app frm count at0 seq t).1.crash b0 b1).rd (plc frm count at0 t.length) = S.rd (plc frm count at0 t.length))) := by
  obtain ⟨s1, hcs⟩ := RS.app_cases (S := S) (frm := frm) (at0 := at0) (seq := seq) (t := t) (show 0 < count by omega) hn
  obtain ⟨m1, m2, m3⟩ := RS.app_may (at0 := at0) (seq := seq) hc hn hS
  have hcr := fun i (hi : i < S.n0) => crash_may (S.app frm count at0 seq t).1 b0 b1 (i := i) (by rw [s1.n0]; exact hi)
  have hpl := fun k => plc_lt (S := S) (at0 := at0) (show 0 < count by omega) hn k
  refine ⟨⟨s1.n0, s1.n1⟩, fun i hi => ?_, fun i hi hno => ?_, ?_⟩
  · obtain ⟨c, e, _⟩ := hcr i hi
    rw [e]
  · obtain ⟨c, e, h⟩ := hcr i hi
    rw [e, m1 i c hi hno h, ← Sec.eta (hS i hi)]
  · obtain ⟨c, e, h⟩ := hcr _ (hpl t.length)
    have rd_of : ∀ {k : Nat} {c : List Value}, ((S.app frm count at0 seq t).1.crash b0 b1).D0 (plc frm count at0 k) = ⟨c, []⟩ → ((S.app frm count at0 seq t).1.crash b0 b1).rd (plc frm count at0 k) = byt c := fun h => by
      unfold RS.rd
      rw [h]
      rfl
    have himgs : ∀ k b, (txnB seq t)[k]? = some b → k < t.length → ((S.app frm count at0 seq t).1.crash b0 b1).rd (plc frm count at0 k) = S.rd (plc frm count at0 k) ∨ ((S.app frm count at0 seq t).1.crash b0 b1).rd (plc frm count at0 k) = b := fun k b hb hk => by
      obtain ⟨c, e, h⟩ := hcr _ (hpl k)
      rw [rd_of e]
      rcases m2 k b c hb hk h with h | h
      · left; rw [h]; rfl
      · right; rw [h]; exact byt_u8s b
    by_cases he : (S.app frm count at0 seq t).2 = 0
    · obtain ⟨d1, d2, d3⟩ := RS.app_done he hc hn (fun i hi => by rw [hS i hi]; exact Nat.zero_le _)
      refine .inl fun k b hb => ?_
      obtain ⟨c, e, h⟩ := hcr _ (hpl k)
      rw [(d2 k b hb).2] at h
      rw [rd_of e]
      rcases h with h | h
      · rw [h]; exact byt_u8s b
      · simp at h
    · rcases m3 c h with h3 | ⟨h3, h4⟩
      · exact .inr ⟨he, himgs, by rw [rd_of e, h3]; rfl⟩
      · refine .inl fun k b hb => ?_
        have hk : k < t.length + 1 := by
          have := (List.getElem?_eq_some_iff.1 hb).1
          rwa [txnB_length] at this
        by_cases hkn : k = t.length
        · subst hkn
          rw [txnB_last] at hb
          cases hb
          rw [rd_of e, h3]
          exact byt_u8s _
        · obtain ⟨c', e', h'⟩ := hcr _ (hpl k)
          rw [rd_of e', h4 k b c' hb (by omega) h']
          exact byt_u8s b
end
end Go.Proofs.Ytfmgaakbfphpbaa

/- A transaction written step by step, on a rig without a fuse. -/
namespace Go.Proofs.Ytfmgaakbfphpbaa
open Go.RowKit
set_option linter.unusedVariables false

theorem RS.wrs_snoc : ∀ (l : List (Nat × List Value)) (S : RS) (i : Nat) (b : List Value), (S.wrs l).2 = true → (S.wrs (l ++ [(i, b)])).1 = (S.wrs l).1.write 0 (i : Int) b
  | [], S, i, b, _ => by
    show (S.wrs [(i, b)]).1 = S.write 0 (i : Int) b
    unfold RS.wrs
    split <;> rfl
  | (j, c) :: l, S, i, b, h => by
    unfold RS.wrs at h
    show (S.wrs ((j, c) :: (l ++ [(i, b)]))).1 = _
    unfold RS.wrs
    split at h
    · rename_i h0
      rw [if_pos h0, if_pos h0]
      exact RS.wrs_snoc l _ i b h
    · simp at h
theorem RS.Up.wrs_done : ∀ (l : List (Nat × List Value)) {S : RS}, S.Up → S.done ≤ (S.wrs l).1.done ∧ (S.wrs l).1.done ≤ S.done + l.length
  | [], S, _ => ⟨Int.le_refl _, by show S.done ≤ S.done + ((0 : Nat) : Int); omega⟩
  | (i, b) :: l, S, hu => by
    have h1 := (hu.write 0 (i : Int) b)
    have h2 := RS.Up.wrs_done l h1.1
    unfold RS.wrs
    simp only [List.length_cons]
    split
    · rcases h1.2 with ⟨_, e⟩ | ⟨_, e⟩ <;> rw [e] at h2 <;> constructor <;> omega
    · rcases h1.2 with ⟨_, e⟩ | ⟨_, e⟩ <;> simp only [e] <;> constructor <;> omega
theorem RS.wrs_few {l : List (Nat × List Value)} {S : RS} {m : Nat} (h : S.Few m) (hm : m ≤ 254) (hin : ∀ x ∈ l, x.1 < S.n0) (hnd : (l.map (·.1)).Nodup) : (S.wrs l).1.Few (m + 1) := by
  obtain ⟨hs, k, hk, hD, _⟩ := S.wrs_spec l hin
  refine ⟨fun i hi => ?_, fun i hi => ?_⟩
  · rw [hs.n0] at hi
    rw [hD]
    have h0 := h.1 i hi
    by_cases hmem : i ∈ (l.take k).map (·.1)
    · obtain ⟨⟨j, b⟩, hx, e⟩ := List.mem_map.1 hmem
      subst e
      rw [adds_mem (l.take k) S.D0 (List.Nodup.sublist (List.Sublist.map _ (List.take_sublist k l)) hnd) hx]
      show ((S.D0 j).add b).vs.length ≤ _
      rw [add_more _ _ (by have : (S.D0 j).vs.length ≤ m := h0; omega)]
      have : (S.D0 j).vs.length ≤ m := h0
      omega
    · rw [adds_not _ _ hmem]
      omega
  · rw [hs.n1] at hi
    rw [hs.D1]
    exact Nat.le_succ_of_le (h.2 i hi)

/-- The state when so many of a transaction's sectors are written. -/
def RS.appTo (S : RS) (F C A : Nat) (seq : Int) (t : List Img) (k : Nat) : RS :=
  if k ≤ t.length then (S.wrs ((txnW F C A seq t).take k)).1 else (((S.wrs ((txnW F C A seq t).take t.length)).1.flush 0).wrs ((txnW F C A seq t).drop t.length)).1
structure RS.Way (S0 : RS) (m : Nat) (S : RS) : Prop where
  up : S.Up
  n0 : S.n0 = S0.n0
  d0 : S0.done ≤ S.done
  d1 : S.done ≤ S0.done + 400
  few : S.Few m
section
variable {S : RS} {F C A : Nat} {seq : Int} {t : List Img} {m : Nat}
theorem txnW_in (hF : F + C ≤ S.n0) (h0 : 0 < C) : ∀ x ∈ txnW F C A seq t, x.1 < S.n0 := by
  intro x hx
  obtain ⟨k, hk⟩ := List.mem_iff_getElem?.1 hx
  have hlt : k < (txnB seq t).length := by
    rcases Nat.lt_or_ge k (txnB seq t).length with h | h
    · exact h
    · rw [List.getElem?_eq_none (by rw [txnW_length, ← txnB_length seq t]; exact h)] at hk
      simp at hk
  rw [txnW_get (List.getElem?_eq_getElem hlt)] at hk
  cases hk
  show F + (A + k) % C < S.n0
  have := Nat.mod_lt (A + k) h0
  omega
theorem RS.appTo_way (hu : S.Up) (hF : F + C ≤ S.n0) (hC : C ≤ 256) (ht : t.length + 1 ≤ C) (hf : S.Few m) (hm : m ≤ 250) (k : Nat) : RS.Way S (m + 2) (S.appTo F C A seq t k) := by
  have hin := txnW_in (seq := seq) (t := t) (A := A) hF (by omega)
  have hnd := txnW_nodup (frm := F) (at0 := A) (seq := seq) ht
  have hl := txnW_length F C A seq t
  have hw : ∀ j, RS.Way S (m + 1) (S.wrs ((txnW F C A seq t).take j)).1 ∧ (S.wrs ((txnW F C A seq t).take j)).1.done ≤ S.done + j := fun j => by
    have h1 : ∀ x ∈ (txnW F C A seq t).take j, x.1 < S.n0 := fun x hx => hin x (List.mem_of_mem_take hx)
    have hd := RS.Up.wrs_done ((txnW F C A seq t).take j) hu
    have hll : ((txnW F C A seq t).take j).length ≤ 256 := by rw [List.length_take, hl]; omega
    have hlj : ((txnW F C A seq t).take j).length ≤ j := by rw [List.length_take]; omega
    exact ⟨⟨(RS.Up.wrs _ hu h1).2, (S.wrs_spec _ h1).1.n0, hd.1, by omega, RS.wrs_few hf (by omega) h1 (List.Nodup.sublist (List.Sublist.map _ (List.take_sublist j _)) hnd)⟩, by omega⟩
  unfold RS.appTo
  by_cases hk : k ≤ t.length
  · rw [if_pos hk]
    obtain ⟨w, _⟩ := hw k
    exact ⟨w.up, w.n0, w.d0, w.d1, w.few.mono (by omega)⟩
  · rw [if_neg hk]
    obtain ⟨w, wd⟩ := hw t.length
    generalize hT : (S.wrs ((txnW F C A seq t).take t.length)).1 = T at *
    have hn : (T.flush 0).n0 = S.n0 := (T.flush0).1.n0.trans w.n0
    have h1 : ∀ x ∈ (txnW F C A seq t).drop t.length, x.1 < (T.flush 0).n0 := fun x hx => by rw [hn]; exact hin x (List.mem_of_mem_drop hx)
    have hd := RS.Up.wrs_done ((txnW F C A seq t).drop t.length) (w.up.flush 0).1
    have hll : ((txnW F C A seq t).drop t.length).length ≤ 1 := by rw [List.length_drop, hl]; omega
    have hfl : T.done ≤ (T.flush 0).done ∧ (T.flush 0).done ≤ T.done + 1 := by
      rcases (w.up.flush 0).2 with ⟨_, e⟩ | ⟨_, e⟩ <;> rw [e] <;> constructor <;> omega
    have h2 := w.d0
    have h3 : (t.length : Int) ≤ 256 := by omega
    exact ⟨(RS.Up.wrs _ (w.up.flush 0).1 h1).2, ((RS.wrs_spec _ (T.flush 0) h1).1.n0).trans hn, by omega, by omega, RS.wrs_few (RS.few_flush w.few 0) (by omega) h1 (List.Nodup.sublist (List.Sublist.map _ (List.drop_sublist _ _)) hnd)⟩
theorem RS.appTo_zero : S.appTo F C A seq t 0 = S := by
  unfold RS.appTo
  rw [if_pos (Nat.zero_le _)]
  rfl
theorem RS.appTo_img (hu : S.Up) (hF : F + C ≤ S.n0) (h0 : 0 < C) {k : Nat} {x : Img} (hx : t[k]? = some x) : S.appTo F C A seq t (k + 1) = (S.appTo F C A seq t k).write 0 ((F + (A + k) % C : Nat) : Int) (u8s (imgSct seq x).bytes) := by
  have hk : k < t.length := (List.getElem?_eq_some_iff.1 hx).1
  unfold RS.appTo
  rw [if_pos (by omega), if_pos (by omega)]
  have hb : (txnB seq t)[k]? = some (imgSct seq x).bytes := by
    unfold txnB
    rw [List.getElem?_append_left (by simpa using hk), List.getElem?_map, hx]
    rfl
  have hg := txnW_get (frm := F) (count := C) (at0 := A) hb
  rw [List.take_add_one, hg]
  exact RS.wrs_snoc _ S _ _ (RS.Up.wrs _ hu fun x hx => txnW_in hF h0 x (List.mem_of_mem_take hx)).1
theorem RS.appTo_com : S.appTo F C A seq t (t.length + 1) = ((S.appTo F C A seq t t.length).flush 0).write 0 ((F + (A + t.length) % C : Nat) : Int) (u8s (comSct seq t.length).bytes) := by
  unfold RS.appTo
  rw [if_neg (by omega), if_pos (Nat.le_refl _)]
  have hb : (txnB seq t)[t.length]? = some (comSct seq t.length).bytes := by
    unfold txnB
    rw [List.getElem?_append_right (by simp)]
    simp
  have hg := txnW_get (frm := F) (count := C) (at0 := A) hb
  have hd : (txnW F C A seq t).drop t.length = [(F + (A + t.length) % C, u8s (comSct seq t.length).bytes)] := by
    obtain ⟨h1, h2⟩ := List.getElem?_eq_some_iff.1 hg
    rw [List.drop_eq_getElem_cons h1, h2, List.drop_eq_nil_of_le (by rw [txnW_length]; omega)]
  rw [hd]
  exact RS.wrs_snoc [] _ _ _ rfl
theorem RS.app_to (hu : S.Up) (hF : F + C ≤ S.n0) (hC : C ≤ 256) (ht : t.length + 1 ≤ C) (hf : S.Few m) (hm : m ≤ 250) : S.app F C A seq t = ((S.appTo F C A seq t (t.length + 1)).flush 0, 0) := by
  have hin := txnW_in (seq := seq) (t := t) (A := A) hF (by omega)
  have w1 := RS.appTo_way (seq := seq) (A := A) hu hF hC ht hf hm t.length
  have w2 := RS.appTo_way (seq := seq) (A := A) hu hF hC ht hf hm (t.length + 1)
  unfold RS.appTo at w1 w2
  rw [if_pos (Nat.le_refl _)] at w1
  rw [if_neg (by omega)] at w2
  have f1 : ∀ {T : RS}, T.Up → T.flushE 0 = 0 := fun {T} h => by
    unfold RS.flushE
    rw [if_pos (.inl rfl), if_pos h.ok]
  have a1 := (RS.Up.wrs ((txnW F C A seq t).take t.length) hu fun x hx => hin x (List.mem_of_mem_take hx)).1
  have a2 := (RS.Up.wrs ((txnW F C A seq t).drop t.length) (w1.up.flush 0).1 fun x hx => by
    rw [(RS.flush0 _).1.n0, w1.n0]
    exact hin x (List.mem_of_mem_drop hx)).1
  unfold RS.app RS.appTo
  rw [if_neg (by rw [a1]; simp), if_neg (by rw [f1 w1.up]; simp), if_neg (by rw [a2]; simp), if_neg (by rw [f1 w2.up]; simp), if_neg (by omega)]
end
end Go.Proofs.Ytfmgaakbfphpbaa

/- Blocks written one behind the other, then a flush, on a rig with a fuse or without. -/
namespace Go.Proofs.Ytfmgaakbfphpbaa
open Go.RowKit
set_option linter.unusedVariables false

/-- What is written from a place on, and where. -/
def wsAt (F C P : Nat) (L : List (List Int)) : List (Nat × List Value) := L.zipIdx.map fun x => (F + (P + x.2) % C, u8s x.1)
theorem wsAt_length (F C P : Nat) (L : List (List Int)) : (wsAt F C P L).length = L.length := by simp [wsAt]
theorem wsAt_get? (F C P : Nat) (L : List (List Int)) (k : Nat) : (wsAt F C P L)[k]? = L[k]?.map fun b => (F + (P + k) % C, u8s b) := by
  unfold wsAt
  rw [List.getElem?_map, List.getElem?_zipIdx]
  cases L[k]? with
  | none => rfl
  | some b => simp
theorem txnW_take (F C A n : Nat) (seq : Int) (t : List Img) : (txnW F C A seq t).take n = wsAt F C A ((txnB seq t).take n) := by
  apply List.ext_getElem?
  intro k
  rw [wsAt_get?]
  by_cases h : k < n
  · rw [List.getElem?_take_of_lt h, List.getElem?_take_of_lt h]
    exact wsAt_get? F C A (txnB seq t) k
  · rw [List.getElem?_eq_none (by rw [List.length_take]; omega), List.getElem?_eq_none (by rw [List.length_take]; omega)]
    rfl
theorem txnW_drop (F C A n : Nat) (seq : Int) (t : List Img) : (txnW F C A seq t).drop n = wsAt F C (A + n) ((txnB seq t).drop n) := by
  apply List.ext_getElem?
  intro k
  rw [wsAt_get?, List.getElem?_drop, List.getElem?_drop, show A + n + k = A + (n + k) by omega]
  exact wsAt_get? F C A (txnB seq t) (n + k)
theorem wsAt_nodup {F C P : Nat} {L : List (List Int)} (h : L.length ≤ C) : ((wsAt F C P L).map (·.1)).Nodup := by
  have e : (wsAt F C P L).map (·.1) = (List.range L.length).map fun k => F + (P + k) % C := by
    apply List.ext_getElem?
    intro k
    rw [List.getElem?_map, List.getElem?_map, wsAt_get?]
    by_cases hk : k < L.length
    · rw [List.getElem?_range hk, List.getElem?_eq_getElem hk]
      rfl
    · rw [List.getElem?_eq_none (by omega), List.getElem?_eq_none (by simp; omega)]
      rfl
  rw [e]
  unfold List.Nodup
  rw [List.pairwise_map]
  refine List.Pairwise.imp_of_mem (fun {j k} hj hk hne e => ?_) List.nodup_range
  have hj := List.mem_range.1 hj
  have hk := List.mem_range.1 hk
  exact hne (mod_inj (a := P) (count := C) (by omega) (by omega) (by omega))
theorem wsAt_in {F C P n0 : Nat} {L : List (List Int)} (h0 : 0 < C) (hF : F + C ≤ n0) : ∀ x ∈ wsAt F C P L, x.1 < n0 := by
  intro x hx
  obtain ⟨k, hk⟩ := List.mem_iff_getElem?.1 hx
  rw [wsAt_get?] at hk
  cases hl : L[k]? with
  | none => rw [hl] at hk; simp at hk
  | some b =>
    rw [hl] at hk
    cases hk
    show F + (P + k) % C < n0
    have := Nat.mod_lt (P + k) h0
    omega

theorem RS.wrs_last : ∀ (l : List (Nat × List Value)) (S : RS) (i : Nat) (b : List Value), (S.wrs l).2 = true → S.wrs (l ++ [(i, b)]) = ((S.wrs l).1.write 0 (i : Int) b, decide ((S.wrs l).1.writeE 0 (i : Int) = 0))
  | [], S, i, b, _ => by
    show S.wrs [(i, b)] = (S.write 0 (i : Int) b, decide (S.writeE 0 (i : Int) = 0))
    unfold RS.wrs
    split
    · next h => rw [decide_eq_true h]; rfl
    · next h => rw [decide_eq_false h]
  | (j, c) :: l, S, i, b, h => by
    unfold RS.wrs at h
    show S.wrs ((j, c) :: (l ++ [(i, b)])) = _
    unfold RS.wrs
    split at h
    · rename_i h0
      rw [if_pos h0, if_pos h0]
      exact RS.wrs_last l _ i b h
    · simp at h
theorem RS.wrs_stop : ∀ (l l' : List (Nat × List Value)) (S : RS), (S.wrs l).2 = false → S.wrs (l ++ l') = S.wrs l
  | [], l', S, h => by simp [RS.wrs] at h
  | (j, c) :: l, l', S, h => by
    unfold RS.wrs at h
    show S.wrs ((j, c) :: (l ++ l')) = _
    unfold RS.wrs
    split at h
    · rename_i h0
      rw [if_pos h0, if_pos h0]
      exact RS.wrs_stop l l' _ h
    · rename_i h0
      rw [if_neg h0, if_neg h0]
theorem RS.after_way (S : RS) : S.after.fuse ≤ S.fuse ∧ S.done ≤ S.after.done ∧ S.after.done ≤ S.done + 1 := by
  unfold RS.after
  split
  · refine ⟨?_, ?_, ?_⟩
    · show (if 0 < S.fuse then S.fuse - 1 else S.fuse) ≤ S.fuse
      split <;> omega
    · show S.done ≤ S.done + 1; omega
    · exact Int.le_refl _
  · exact ⟨Int.le_refl _, Int.le_refl _, by show S.done ≤ S.done + 1; omega⟩
theorem RS.write_way (S : RS) (dev i : Int) (b : List Value) : (S.write dev i b).fuse ≤ S.fuse ∧ S.done ≤ (S.write dev i b).done ∧ (S.write dev i b).done ≤ S.done + 1 := by
  have h := S.after_way
  unfold RS.write
  split
  · split
    · have := S.after.put_rest dev i.toNat b
      rw [this.1, this.2.2.1]
      exact h
    · exact h
  · exact ⟨Int.le_refl _, Int.le_refl _, by omega⟩
theorem RS.flush_way (S : RS) (dev : Int) : (S.flush dev).fuse ≤ S.fuse ∧ S.done ≤ (S.flush dev).done ∧ (S.flush dev).done ≤ S.done + 1 := by
  have h := S.after_way
  unfold RS.flush
  split
  · split
    · have := S.after.fl_rest dev
      rw [this.1, this.2.2.1]
      exact h
    · exact h
  · exact ⟨Int.le_refl _, Int.le_refl _, by omega⟩
theorem RS.wrs_way : ∀ (l : List (Nat × List Value)) (S : RS), (S.wrs l).1.fuse ≤ S.fuse ∧ S.done ≤ (S.wrs l).1.done ∧ (S.wrs l).1.done ≤ S.done + l.length
  | [], S => ⟨Int.le_refl _, Int.le_refl _, by show S.done ≤ S.done + ((0 : Nat) : Int); omega⟩
  | (i, b) :: l, S => by
    have h1 := S.write_way 0 (i : Int) b
    have h2 := RS.wrs_way l (S.write 0 (i : Int) b)
    unfold RS.wrs
    simp only [List.length_cons]
    split
    · refine ⟨?_, ?_, ?_⟩ <;> omega
    · refine ⟨?_, ?_, ?_⟩ <;> simp only <;> omega
theorem RS.flushE0 (S : RS) : S.flushE 0 = 0 ∨ S.flushE 0 = 14 := by
  rcases (S.flush0).2 with ⟨_, e, _⟩ | ⟨_, e, _⟩
  · exact .inl e
  · exact .inr e
/-- Writes, then a flush. -/
def RS.st (S : RS) (l : List (Nat × List Value)) : RS × Int := if (S.wrs l).2 = false then ((S.wrs l).1, 14) else ((S.wrs l).1.flush 0, (S.wrs l).1.flushE 0)
theorem RS.app_st (S : RS) (F C A : Nat) (seq : Int) (t : List Img) : S.app F C A seq t =
    if (S.st (wsAt F C A ((txnB seq t).take t.length))).2 = 0 then (S.st (wsAt F C A ((txnB seq t).take t.length))).1.st (wsAt F C (A + t.length) ((txnB seq t).drop t.length)) else S.st (wsAt F C A ((txnB seq t).take t.length)) := by
  rw [← txnW_take, ← txnW_drop]
  unfold RS.app
  by_cases h1 : (S.wrs ((txnW F C A seq t).take t.length)).2 = false
  · have e1 : S.st ((txnW F C A seq t).take t.length) = ((S.wrs ((txnW F C A seq t).take t.length)).1, 14) := by unfold RS.st; rw [if_pos h1]
    rw [if_pos h1, e1, if_neg (by omega)]
  · have e1 : S.st ((txnW F C A seq t).take t.length) = ((S.wrs ((txnW F C A seq t).take t.length)).1.flush 0, (S.wrs ((txnW F C A seq t).take t.length)).1.flushE 0) := by unfold RS.st; rw [if_neg h1]
    rw [if_neg h1, e1]
    by_cases h2 : (S.wrs ((txnW F C A seq t).take t.length)).1.flushE 0 = 0
    · rw [if_neg (by omega), if_pos h2]
      simp only
      generalize (S.wrs ((txnW F C A seq t).take t.length)).1.flush 0 = T
      unfold RS.st
      by_cases h3 : (T.wrs ((txnW F C A seq t).drop t.length)).2 = false
      · rw [if_pos h3, if_pos h3]
      · rw [if_neg h3, if_neg h3]
        rcases RS.flushE0 (T.wrs ((txnW F C A seq t).drop t.length)).1 with e | e
        · rw [if_neg (by omega), e]
        · rw [if_pos (by omega), e]
    · have e := (RS.flushE0 (S.wrs ((txnW F C A seq t).take t.length)).1).resolve_left h2
      rw [if_pos h2, if_neg h2, e]
theorem RS.st_spec {S : RS} {l : List (Nat × List Value)} (hin : ∀ x ∈ l, x.1 < S.n0) (hnd : (l.map (·.1)).Nodup) {m : Nat} (hf : S.Few m) (hm : m ≤ 254) :
    (S.st l).1.n0 = S.n0 ∧ (S.st l).1.fuse ≤ S.fuse ∧ S.done ≤ (S.st l).1.done ∧ (S.st l).1.done ≤ S.done + l.length + 1 ∧ (S.st l).1.Few (m + 1) ∧ ((S.st l).2 = 0 ∨ (S.st l).2 = 14) := by
  obtain ⟨h1, _⟩ := S.wrs_spec l hin
  obtain ⟨w1, w2, w3⟩ := RS.wrs_way l S
  have hfw := RS.wrs_few hf hm hin hnd
  unfold RS.st
  split
  · exact ⟨h1.n0, w1, w2, by show (S.wrs l).1.done ≤ _; omega, hfw, .inr rfl⟩
  · obtain ⟨v1, v2, v3⟩ := (S.wrs l).1.flush_way 0
    exact ⟨((S.wrs l).1.flush0).1.n0.trans h1.n0, by simp only; omega, by simp only; omega, by simp only; omega, RS.few_flush hfw 0, RS.flushE0 _⟩
end Go.Proofs.Ytfmgaakbfphpbaa

/- What the walk of a statement is told of its arguments, whatever their types: cell by cell. -/
namespace Go.Proofs.Ytfmgaakbfphpbaa
open Go.ChangeShapes Go.WideShapes Go.ChangeAt Go.RowKit
set_option linter.unusedVariables false

set_option maxRecDepth 100000 in
theorem own : ownKnob Try.prog.godebug = none := by kernel_rfl
set_option maxRecDepth 100000 in
theorem laidOut : laidOutB Try.prog = true := by kernel_rfl

/-- These cells read as a value of this type. -/
def Cells (W : World) (t : TypeId) (cs : List Value) : Prop :=
  ∃ (H : Type) (enc : TypeId × Value → H) (fuel : Nat) (x : DataW H × List MemPlace), DataW.trod enc Try.prog W 0 (fun _ => true) true fuel t cs = some x
/-- An argument. -/
def Arg (W : World) (t : TypeId) (v : Value) : Prop := (∃ base, Value.okWide Try.prog W .any base t v) ∧ Cells W t v.cells.toList

set_option maxRecDepth 100000 in
theorem Arg.mk {H : Type} {enc : TypeId × Value → H} {W : World} {base : Nat} {t : TypeId} {v : Value} {d : DataW H} {p : List MemPlace} (h : Value.okWide Try.prog W .any base t v) (k : DataW.Trod enc Try.prog W 0 (fun _ => true) true t v d p) : Arg W t v := by
  obtain ⟨fuel, hf⟩ := k
  exact ⟨⟨base, h⟩, H, enc, fuel, _, hf⟩

section
variable {W : World} {t e : TypeId} {cs : List Value} {v : Value}

set_option maxRecDepth 100000 in
theorem Cells.int {k : IntKind} (h : Cells W t cs) (hu : Try.prog.underlying t = some (.int k)) : ∃ n, cs = [.int k n] ∧ (Lit.int k n).wf = true := by
  obtain ⟨H, enc, fuel, x, hx⟩ := h
  obtain ⟨a, e1, e2, wa⟩ := DataW.trod_int hu hx
  exact ⟨a, e1, wa⟩
set_option maxRecDepth 100000 in
theorem Cells.bool (h : Cells W t cs) (hu : Try.prog.underlying t = some .bool) : ∃ b, cs = [.bool b] := by
  obtain ⟨H, enc, fuel, x, hx⟩ := h
  obtain ⟨a, e1, e2⟩ := DataW.trod_bool hu hx
  exact ⟨a, e1⟩
set_option maxRecDepth 100000 in
theorem Cells.string (h : Cells W t cs) (hu : Try.prog.underlying t = some .string) : ∃ s, cs = [.string s] ∧ s.size ≤ maxLen := by
  obtain ⟨H, enc, fuel, x, hx⟩ := h
  cases fuel with
  | zero => simp [DataW.trod] at hx
  | succ m =>
    unfold DataW.trod at hx
    rw [hu] at hx
    split at hx <;> simp_all
set_option maxRecDepth 100000 in
theorem Cells.slice (h : Cells W t cs) (hu : Try.prog.underlying t = some (.slice e)) : ∃ a len cap, cs = [.slice a len cap] ∧
    ((a = none ∧ len = 0 ∧ cap = 0) ∨ ∃ x, a = some x ∧ len ≤ cap ∧ cap ≤ maxLen ∧ ∀ i, i < cap → ∃ es, W.cells? 0 (x.add (i * Try.prog.cellsOf e)) (Try.prog.cellsOf e) = some es ∧ Cells W e es) := by
  obtain ⟨H, enc, fuel, x, hx⟩ := h
  rcases Go.Deep.open_slice hu hx with ⟨rfl, rfl⟩ | ⟨a, len, cap, m, n, D, Pl, rfl, _, h1, h2, rfl, rfl, h3⟩
  · exact ⟨_, _, _, rfl, .inl ⟨rfl, rfl, rfl⟩⟩
  · refine ⟨_, _, _, rfl, .inr ⟨a, rfl, h1, h2, fun i hi => ?_⟩⟩
    obtain ⟨es, g1, g2⟩ := h3 i (by simpa using hi)
    exact ⟨es, g1, H, enc, n, _, g2⟩
set_option maxRecDepth 100000 in
theorem Cells.struct {fs : Array Field} (h : Cells W t cs) (hu : Try.prog.underlying t = some (.struct fs)) : cs.length = Try.prog.cellsOf t ∧
    ∀ (j : Nat) f, fs[j]? = some f → Cells W f.type ((cs.drop f.offset).take (Try.prog.cellsOf f.type)) := by
  obtain ⟨H, enc, fuel, x, hx⟩ := h
  obtain ⟨xs, n, _, rfl, hl, hlen, hf⟩ := DataW.trod_struct hu hx
  refine ⟨hl, fun j f hj => ?_⟩
  have h1 := hf j f hj
  have h2 : j < xs.length := by
    rw [hlen]
    exact (Array.getElem?_eq_some_iff.1 hj).1
  rw [List.getElem?_eq_getElem h2] at h1
  exact ⟨H, enc, n, _, h1⟩
set_option maxRecDepth 100000 in
theorem Cells.array {n : Nat} (h : Cells W t cs) (hu : Try.prog.underlying t = some (.array n e)) : cs.length = Try.prog.cellsOf t ∧
    ∀ i, i < n → Cells W e ((cs.drop (i * Try.prog.cellsOf e)).take (Try.prog.cellsOf e)) := by
  obtain ⟨H, enc, fuel, x, hx⟩ := h
  obtain ⟨xs, m, _, rfl, hl, hlen, hf⟩ := DataW.trod_array hu hx
  refine ⟨hl, fun j hj => ?_⟩
  have h1 := hf j hj
  rw [List.getElem?_eq_getElem (by omega)] at h1
  exact ⟨H, enc, m, _, h1⟩

set_option maxRecDepth 100000 in
theorem Arg.int {k : IntKind} (h : Arg W t v) (hu : Try.prog.underlying t = some (.int k)) : ∃ n, v = .int k n ∧ (Lit.int k n).wf = true := by
  obtain ⟨⟨base, ho⟩, hc⟩ := h
  obtain ⟨n, rfl⟩ := okWide_int hu ho
  obtain ⟨m, e1, wm⟩ := hc.int hu
  simp [Value.cells] at e1
  subst e1
  exact ⟨_, rfl, wm⟩
set_option maxRecDepth 100000 in
theorem Arg.bool (h : Arg W t v) (hu : Try.prog.underlying t = some .bool) : ∃ b, v = .bool b := by
  obtain ⟨⟨base, ho⟩, hc⟩ := h
  exact okWide_bool hu ho
set_option maxRecDepth 100000 in
theorem Arg.string (h : Arg W t v) (hu : Try.prog.underlying t = some .string) : ∃ s, v = .string s ∧ s.size ≤ maxLen := by
  obtain ⟨⟨base, ho⟩, hc⟩ := h
  obtain ⟨s, rfl⟩ := okWide_string hu ho
  obtain ⟨m, e1, wm⟩ := hc.string hu
  simp [Value.cells] at e1
  subst e1
  exact ⟨_, rfl, wm⟩
set_option maxRecDepth 100000 in
theorem Arg.slice (h : Arg W t v) (hu : Try.prog.underlying t = some (.slice e)) : ∃ a len cap, v = .slice a len cap ∧
    ((a = none ∧ len = 0 ∧ cap = 0) ∨ ∃ x, a = some x ∧ len ≤ cap ∧ cap ≤ maxLen ∧ ∀ i, i < cap → ∃ es, W.cells? 0 (x.add (i * Try.prog.cellsOf e)) (Try.prog.cellsOf e) = some es ∧ Cells W e es) := by
  obtain ⟨⟨base, ho⟩, hc⟩ := h
  obtain ⟨a, len, cap, rfl⟩ := okWide_slice hu ho
  obtain ⟨a', len', cap', e1, r⟩ := hc.slice hu
  simp [Value.cells] at e1
  obtain ⟨rfl, rfl, rfl⟩ := e1
  exact ⟨_, _, _, rfl, r⟩
set_option maxRecDepth 100000 in
theorem Arg.agg (h : Arg W t v) (hu : (∃ fs, Try.prog.underlying t = some (.struct fs)) ∨ ∃ n e, Try.prog.underlying t = some (.array n e)) : ∃ cs : List Value, v = .agg cs.toArray ∧ cs.length = Try.prog.cellsOf t ∧ Cells W t cs := by
  obtain ⟨⟨base, ho⟩, hc⟩ := h
  have : ∃ cs : Array Value, v = .agg cs ∧ cs.size = Try.prog.cellsOf t := by
    rcases hu with ⟨fs, hu⟩ | ⟨n, e, hu⟩
    · exact okWide_struct hu ho
    · simp only [Value.okWide, hu] at ho
      obtain ⟨cs, h1, h2, _⟩ := ho
      exact ⟨cs, h1, h2⟩
  obtain ⟨⟨cs⟩, rfl, hs⟩ := this
  exact ⟨cs, rfl, by simpa using hs, by simpa [Value.cells] using hc⟩
end

/-- One cell, read. -/
theorem cells_one {W : World} {x : Addr} {es : List Value} (h : W.cells? 0 x 1 = some es) : ∃ v, es = [v] ∧ W.cell? x = some v := by
  unfold World.cells? at h
  rw [if_pos (Nat.zero_le _)] at h
  simp only [List.range_one, List.mapM_cons, List.mapM_nil] at h
  have e : x.add 0 = x := by simp [Addr.add]
  rw [e] at h
  cases hc : W.cell? x with
  | none => rw [hc] at h; cases h
  | some v => rw [hc] at h; exact ⟨v, by simpa using h.symm, rfl⟩

/-- Several cells, read. -/
theorem cells_many {W : World} {x : Addr} {n : Nat} {es : List Value} (h : W.cells? 0 x n = some es) : es.length = n ∧ ∀ i, i < n → ∃ v, es[i]? = some v ∧ W.cell? (x.add i) = some v := by
  unfold World.cells? at h
  rw [if_pos (Nat.zero_le _)] at h
  have hl : es.length = n := by simpa using mapM_some_length h
  refine ⟨hl, fun i hi => ?_⟩
  have := mapM_some_get h i i (by simp [hi])
  rw [List.getElem?_eq_getElem (by omega)] at this
  exact ⟨es[i], by rw [List.getElem?_eq_getElem (by omega)], this⟩

theorem cell_plain {W : World} {x : Addr} {v : Value} (h : W.cell? x = some v) : ∃ b off, x = ⟨b, off, none⟩ ∧ b < W.heap.size := by
  obtain ⟨b, off, spot⟩ := x
  have : spot = none := World.cell?_spot h
  subst this
  obtain ⟨o, ho, _⟩ := cells_of_cell h
  exact ⟨b, off, rfl, (Array.getElem?_eq_some_iff.1 ho).1⟩

theorem add_plain (b off j : Nat) : (⟨b, off, none⟩ : Addr).add j = ⟨b, off + j, none⟩ := by unfold Addr.add; split <;> simp_all
end Go.Proofs.Ytfmgaakbfphpbaa

/- Slices of integers among the arguments; small arrays. -/
namespace Go.Proofs.Ytfmgaakbfphpbaa
open Go.ChangeShapes Go.WideShapes Go.ChangeAt Go.RowKit
set_option linter.unusedVariables false

set_option maxRecDepth 100000 in
theorem sl_of_cells {k : IntKind} {W : World} {e : TypeId} {a : Option Addr} {len cap : Nat} (he : Try.prog.underlying e = some (.int k)) (hc : Try.prog.cellsOf e = 1)
    (h : (a = none ∧ len = 0 ∧ cap = 0) ∨ ∃ x, a = some x ∧ len ≤ cap ∧ cap ≤ maxLen ∧ ∀ i, i < cap → ∃ es, W.cells? 0 (x.add (i * Try.prog.cellsOf e)) (Try.prog.cellsOf e) = some es ∧ Cells W e es) :
    ∃ xs : List Int, xs.length = len ∧ len ≤ maxLen ∧ Sl k W (.slice a len cap) xs ∧ ∀ n ∈ xs, (Lit.int k n).wf = true := by
  rcases h with ⟨rfl, rfl, rfl⟩ | ⟨x, rfl, h1, h2, h3⟩
  · exact ⟨[], rfl, Nat.zero_le _, Sl.nil _ _, fun n hn => by cases hn⟩
  · rw [hc] at h3
    have h4 : ∀ i, i < cap → ∃ n, W.cell? (x.add i) = some (.int k n) ∧ (Lit.int k n).wf = true := by
      intro i hi
      obtain ⟨es, g1, g2⟩ := h3 i hi
      rw [Nat.mul_one] at g1
      obtain ⟨v, rfl, hv⟩ := cells_one g1
      obtain ⟨n, e1, wn⟩ := g2.int he
      simp at e1
      subst e1
      exact ⟨n, hv, wn⟩
    have h5 : ∀ i, ∃ n, i < cap → W.cell? (x.add i) = some (.int k n) ∧ (Lit.int k n).wf = true := fun i => by
      by_cases hi : i < cap
      · obtain ⟨n, hn⟩ := h4 i hi; exact ⟨n, fun _ => hn⟩
      · exact ⟨0, fun h => absurd h hi⟩
    obtain ⟨f, hf⟩ := Classical.axiomOfChoice h5
    refine ⟨(List.range len).map f, by simp, by omega, ?_, ?_⟩
    · refine ⟨some x, cap, by simp, by simp; omega, h2, ?_, fun e => by cases e⟩
      by_cases h0 : len = 0
      · subst h0; exact .inl rfl
      · obtain ⟨hc0, _⟩ := hf 0 (by omega)
        have e0 : x.add 0 = x := by simp [Addr.add]
        rw [e0] at hc0
        obtain ⟨b, off, rfl, hb⟩ := cell_plain hc0
        refine .inr ⟨b, off, rfl, hb, fun j hj => ?_⟩
        simp at hj
        have := (hf j (by omega)).1
        rw [add_plain] at this
        rw [this]
        simp [hj]
    · intro n hn
      obtain ⟨i, hi, rfl⟩ := List.mem_map.1 hn
      exact (hf i (by have := List.mem_range.1 hi; omega)).2

section
variable {W : World} {t e : TypeId} {v : Value} {k : IntKind}
set_option maxRecDepth 100000 in
theorem Arg.sl (h : Arg W t v) (hu : Try.prog.underlying t = some (.slice e)) (he : Try.prog.underlying e = some (.int k)) (hc : Try.prog.cellsOf e = 1) :
    ∃ a len cap, ∃ xs : List Int, v = .slice a len cap ∧ xs.length = len ∧ len ≤ maxLen ∧ Sl k W (.slice a len cap) xs ∧ ∀ n ∈ xs, (Lit.int k n).wf = true := by
  obtain ⟨a, len, cap, rfl, r⟩ := h.slice hu
  obtain ⟨xs, r⟩ := sl_of_cells he hc r
  exact ⟨a, len, cap, xs, rfl, r⟩
set_option maxRecDepth 100000 in
theorem Cells.sl {cs : List Value} (h : Cells W t cs) (hu : Try.prog.underlying t = some (.slice e)) (he : Try.prog.underlying e = some (.int k)) (hc : Try.prog.cellsOf e = 1) :
    ∃ a len cap, ∃ xs : List Int, cs = [.slice a len cap] ∧ xs.length = len ∧ len ≤ maxLen ∧ Sl k W (.slice a len cap) xs ∧ ∀ n ∈ xs, (Lit.int k n).wf = true := by
  obtain ⟨a, len, cap, rfl, r⟩ := h.slice hu
  obtain ⟨xs, r⟩ := sl_of_cells he hc r
  exact ⟨a, len, cap, xs, rfl, r⟩
set_option maxRecDepth 100000 in
theorem Arg.bytes (h : Arg W t v) (hu : Try.prog.underlying t = some (.slice e)) (he : Try.prog.underlying e = some (.int .u8)) (hc : Try.prog.cellsOf e = 1) :
    ∃ a len cap, ∃ xs : List Int, v = .slice a len cap ∧ xs.length = len ∧ len ≤ maxLen ∧ Sl .u8 W (.slice a len cap) xs ∧ IsBytes xs := by
  obtain ⟨a, len, cap, xs, rfl, h1, h2, h3, h4⟩ := h.sl hu he hc
  exact ⟨a, len, cap, xs, rfl, h1, h2, h3, fun j => by have := range_u8 h4 j; omega⟩
set_option maxRecDepth 100000 in
theorem Cells.bytes {cs : List Value} (h : Cells W t cs) (hu : Try.prog.underlying t = some (.slice e)) (he : Try.prog.underlying e = some (.int .u8)) (hc : Try.prog.cellsOf e = 1) :
    ∃ a len cap, ∃ xs : List Int, cs = [.slice a len cap] ∧ xs.length = len ∧ len ≤ maxLen ∧ Sl .u8 W (.slice a len cap) xs ∧ IsBytes xs := by
  obtain ⟨a, len, cap, xs, rfl, h1, h2, h3, h4⟩ := h.sl hu he hc
  exact ⟨a, len, cap, xs, rfl, h1, h2, h3, fun j => by have := range_u8 h4 j; omega⟩
set_option maxRecDepth 100000 in
/-- An array of two integers. -/
theorem Arg.two (h : Arg W t v) (hu : Try.prog.underlying t = some (.array 2 e)) (he : Try.prog.underlying e = some (.int k)) (hc : Try.prog.cellsOf e = 1) (hs : Try.prog.cellsOf t = 2) :
    ∃ a b, v = .agg #[.int k a, .int k b] ∧ (Lit.int k a).wf = true ∧ (Lit.int k b).wf = true := by
  obtain ⟨cs, rfl, hl, hcs⟩ := h.agg (.inr ⟨_, _, hu⟩)
  obtain ⟨_, hj⟩ := hcs.array hu
  rw [hs] at hl
  rw [hc] at hj
  match cs, hl with
  | [x, y], _ =>
    obtain ⟨a, e1, wa⟩ := (hj 0 (by omega)).int he
    obtain ⟨b, e2, wb⟩ := (hj 1 (by omega)).int he
    simp at e1 e2
    subst e1 e2
    exact ⟨a, b, rfl, wa, wb⟩
end
end Go.Proofs.Ytfmgaakbfphpbaa

/- Pairs of numbers among the arguments: slices of them, slices of such slices. -/
namespace Go.Proofs.Ytfmgaakbfphpbaa
open Go.ChangeShapes Go.WideShapes Go.ChangeAt Go.RowKit
set_option linter.unusedVariables false

def IsI64 (n : Int) : Prop := -9223372036854775808 ≤ n ∧ n ≤ 9223372036854775807
/-- Pairs, one behind the other. -/
def Prs (W : World) (v : Value) (l : List (Int × Int)) : Prop := ∃ a cap, v = .slice a l.length cap ∧ l.length ≤ cap ∧ cap ≤ maxLen ∧ (∀ p ∈ l, IsI64 p.1 ∧ IsI64 p.2) ∧
  (l = [] ∨ ∃ b off, a = some ⟨b, off, none⟩ ∧ b < W.heap.size ∧ ∀ j p, l[j]? = some p → W.cell? ⟨b, off + j * 2, none⟩ = some (.int .i64 p.1) ∧ W.cell? ⟨b, off + j * 2 + 1, none⟩ = some (.int .i64 p.2))
theorem Prs.below {W W' : World} {v : Value} {l : List (Int × Int)} (h : Prs W v l) (hB : Below W.heap.size W W') : Prs W' v l := by
  obtain ⟨a, cap, rfl, h1, h2, h3, h4⟩ := h
  refine ⟨a, cap, rfl, h1, h2, h3, ?_⟩
  rcases h4 with h4 | ⟨b, off, rfl, h5, h6⟩
  · exact .inl h4
  · exact .inr ⟨b, off, rfl, Nat.lt_of_lt_of_le h5 hB.size, fun j p hj => ⟨(hB.cell (p := ⟨b, off + j * 2, none⟩) h5).trans (h6 j p hj).1, (hB.cell (p := ⟨b, off + j * 2 + 1, none⟩) h5).trans (h6 j p hj).2⟩⟩
theorem Prs.belowN {W W' : World} {N : Nat} {v : Value} {l : List (Int × Int)} (h : Prs W v l) (hN : W.heap.size ≤ N) (hB : Below N W W') : Prs W' v l := h.below (hB.mono hN)
set_option maxRecDepth 100000 in
/-- Two cells that read as a pair. -/
theorem pair_of_cells {W : World} {cs : List Value} (h : Cells W 94 cs) : ∃ p : Int × Int, (IsI64 p.1 ∧ IsI64 p.2) ∧ cs = [.int .i64 p.1, .int .i64 p.2] := by
  obtain ⟨hl, hj⟩ := h.array Try.underlying94
  rw [show Try.prog.cellsOf 3 = 1 from by kernel_rfl] at hj
  rw [show Try.prog.cellsOf 94 = 2 from by kernel_rfl] at hl
  match cs, hl with
  | [x, y], _ =>
    obtain ⟨a, e1, wa⟩ := (hj 0 (by omega)).int Try.underlying3
    obtain ⟨b, e2, wb⟩ := (hj 1 (by omega)).int Try.underlying3
    simp at e1 e2
    subst e1 e2
    exact ⟨(a, b), ⟨bounds_i64 wa, bounds_i64 wb⟩, rfl⟩
set_option maxRecDepth 100000 in
theorem prs_of {W : World} {a : Option Addr} {len cap : Nat}
    (r : (a = none ∧ len = 0 ∧ cap = 0) ∨ ∃ x, a = some x ∧ len ≤ cap ∧ cap ≤ maxLen ∧ ∀ i, i < cap → ∃ es, W.cells? 0 (x.add (i * Try.prog.cellsOf 94)) (Try.prog.cellsOf 94) = some es ∧ Cells W 94 es) :
    ∃ l, Prs W (.slice a len cap) l := by
  rcases r with ⟨rfl, rfl, rfl⟩ | ⟨x, rfl, h1, h2, h3⟩
  · exact ⟨[], none, 0, rfl, Nat.le_refl _, Nat.zero_le _, (fun s hs => by cases hs), .inl rfl⟩
  · rw [show Try.prog.cellsOf 94 = 2 from by kernel_rfl] at h3
    have h4 : ∀ i, i < cap → ∃ p : Int × Int, (IsI64 p.1 ∧ IsI64 p.2) ∧ W.cell? (x.add (i * 2)) = some (.int .i64 p.1) ∧ W.cell? ((x.add (i * 2)).add 1) = some (.int .i64 p.2) := by
      intro i hi
      obtain ⟨es, g1, g2⟩ := h3 i hi
      obtain ⟨p, hp, rfl⟩ := pair_of_cells g2
      have hm := (cells_many g1).2
      refine ⟨p, hp, ?_, ?_⟩
      · obtain ⟨u, hu1, hu2⟩ := hm 0 (by omega)
        cases hu1
        rwa [show (x.add (i * 2)).add 0 = x.add (i * 2) by simp [Addr.add]] at hu2
      · obtain ⟨u, hu1, hu2⟩ := hm 1 (by omega)
        cases hu1
        exact hu2
    have h5 : ∀ i, ∃ p : Int × Int, i < cap → (IsI64 p.1 ∧ IsI64 p.2) ∧ W.cell? (x.add (i * 2)) = some (.int .i64 p.1) ∧ W.cell? ((x.add (i * 2)).add 1) = some (.int .i64 p.2) := fun i => by
      by_cases hi : i < cap
      · obtain ⟨s, hs⟩ := h4 i hi; exact ⟨s, fun _ => hs⟩
      · exact ⟨(0, 0), fun h => absurd h hi⟩
    obtain ⟨f, hf⟩ := Classical.axiomOfChoice h5
    refine ⟨(List.range len).map f, some x, cap, by simp, by simp; omega, h2, fun s hs => ?_, ?_⟩
    · obtain ⟨i, hi, rfl⟩ := List.mem_map.1 hs
      exact (hf i (by have := List.mem_range.1 hi; omega)).1
    · by_cases h0 : len = 0
      · subst h0; exact .inl rfl
      · have hc0 := (hf 0 (by omega)).2.1
        rw [Nat.zero_mul, show x.add 0 = x by simp [Addr.add]] at hc0
        obtain ⟨b, off, rfl, hb⟩ := cell_plain hc0
        refine .inr ⟨b, off, rfl, hb, fun j s hj => ?_⟩
        have hjl : j < len := by have := (List.getElem?_eq_some_iff.1 hj).1; simpa using this
        have hs : s = f j := by rw [List.getElem?_map] at hj; simp [hjl] at hj; exact hj.symm
        subst hs
        have q := (hf j (by omega)).2
        simp only [add_plain] at q
        exact q
set_option maxRecDepth 100000 in
theorem Arg.prs {W : World} {v : Value} (h : Arg W 34 v) : ∃ l, Prs W v l := by
  obtain ⟨a, len, cap, rfl, r⟩ := h.slice Try.underlying34
  exact prs_of r
set_option maxRecDepth 100000 in
theorem Cells.prs {W : World} {cs : List Value} (h : Cells W 34 cs) : ∃ v l, cs = [v] ∧ Prs W v l := by
  obtain ⟨a, len, cap, rfl, r⟩ := h.slice Try.underlying34
  obtain ⟨l, hl⟩ := prs_of r
  exact ⟨_, l, rfl, hl⟩

/-- Slices of pairs, one behind the other. -/
def PrsS (W : World) (v : Value) (l : List (List (Int × Int))) : Prop := ∃ a cap, v = .slice a l.length cap ∧ l.length ≤ cap ∧ cap ≤ maxLen ∧
  (l = [] ∨ ∃ b off, a = some ⟨b, off, none⟩ ∧ b < W.heap.size ∧ ∀ j ps, l[j]? = some ps → ∃ u, W.cell? ⟨b, off + j, none⟩ = some u ∧ Prs W u ps)
theorem PrsS.below {W W' : World} {v : Value} {l : List (List (Int × Int))} (h : PrsS W v l) (hB : Below W.heap.size W W') : PrsS W' v l := by
  obtain ⟨a, cap, rfl, h1, h2, h4⟩ := h
  refine ⟨a, cap, rfl, h1, h2, ?_⟩
  rcases h4 with h4 | ⟨b, off, rfl, h5, h6⟩
  · exact .inl h4
  · refine .inr ⟨b, off, rfl, Nat.lt_of_lt_of_le h5 hB.size, fun j p hj => ?_⟩
    obtain ⟨u, g1, g2⟩ := h6 j p hj
    exact ⟨u, (hB.cell (p := ⟨b, off + j, none⟩) h5).trans g1, g2.below hB⟩
set_option maxRecDepth 100000 in
theorem prsS_of {W : World} {a : Option Addr} {len cap : Nat}
    (r : (a = none ∧ len = 0 ∧ cap = 0) ∨ ∃ x, a = some x ∧ len ≤ cap ∧ cap ≤ maxLen ∧ ∀ i, i < cap → ∃ es, W.cells? 0 (x.add (i * Try.prog.cellsOf 34)) (Try.prog.cellsOf 34) = some es ∧ Cells W 34 es) :
    ∃ l, PrsS W (.slice a len cap) l := by
  rcases r with ⟨rfl, rfl, rfl⟩ | ⟨x, rfl, h1, h2, h3⟩
  · exact ⟨[], none, 0, rfl, Nat.le_refl _, Nat.zero_le _, .inl rfl⟩
  · rw [show Try.prog.cellsOf 34 = 1 from by kernel_rfl] at h3
    have h4 : ∀ i, i < cap → ∃ ps : List (Int × Int), ∃ u, W.cell? (x.add i) = some u ∧ Prs W u ps := by
      intro i hi
      obtain ⟨es, g1, g2⟩ := h3 i hi
      obtain ⟨v, l, rfl, hp⟩ := g2.prs
      rw [Nat.mul_one] at g1
      obtain ⟨u, hu, hv⟩ := cells_one g1
      cases hu
      exact ⟨l, v, hv, hp⟩
    have h5 : ∀ i, ∃ ps : List (Int × Int), i < cap → ∃ u, W.cell? (x.add i) = some u ∧ Prs W u ps := fun i => by
      by_cases hi : i < cap
      · obtain ⟨s, hs⟩ := h4 i hi; exact ⟨s, fun _ => hs⟩
      · exact ⟨[], fun h => absurd h hi⟩
    obtain ⟨f, hf⟩ := Classical.axiomOfChoice h5
    refine ⟨(List.range len).map f, some x, cap, by simp, by simp; omega, h2, ?_⟩
    by_cases h0 : len = 0
    · subst h0; exact .inl rfl
    · obtain ⟨u0, hc0, _⟩ := hf 0 (by omega)
      rw [show x.add 0 = x by simp [Addr.add]] at hc0
      obtain ⟨b, off, rfl, hb⟩ := cell_plain hc0
      refine .inr ⟨b, off, rfl, hb, fun j s hj => ?_⟩
      have hjl : j < len := by have := (List.getElem?_eq_some_iff.1 hj).1; simpa using this
      have hs : s = f j := by rw [List.getElem?_map] at hj; simp [hjl] at hj; exact hj.symm
      subst hs
      have q := hf j (by omega)
      simp only [add_plain] at q
      exact q
set_option maxRecDepth 100000 in
theorem Arg.prsS {W : World} {v : Value} (h : Arg W 74 v) : ∃ l, PrsS W v l := by
  obtain ⟨a, len, cap, rfl, r⟩ := h.slice Try.underlying74
  exact prsS_of r
set_option maxRecDepth 100000 in
theorem Cells.prsS {W : World} {cs : List Value} (h : Cells W 74 cs) : ∃ v l, cs = [v] ∧ PrsS W v l := by
  obtain ⟨a, len, cap, rfl, r⟩ := h.slice Try.underlying74
  obtain ⟨l, hl⟩ := prsS_of r
  exact ⟨_, l, rfl, hl⟩
end Go.Proofs.Ytfmgaakbfphpbaa

/- A ring that transactions were appended to: what replaying yields, behind crashes and turned bytes, too. -/
namespace Go.Proofs.Ytfmgaakbfphpbaa
open Go.RowKit
set_option linter.unusedVariables false

theorem plc_add (frm count p0 L k : Nat) : plc frm count ((p0 + L) % count) k = plc frm count p0 (L + k) := by
  unfold plc
  rw [Nat.mod_add_mod, Nat.add_assoc]
theorem plc_wrap {frm count p0 k : Nat} (h : p0 < count) : plc frm count p0 (count + k) = plc frm count p0 k := by
  unfold plc
  rw [show p0 + (count + k) = p0 + k + count by omega, Nat.add_mod_right]
/-- From place p0 and sequence q0 on the transactions ts stand in the ring. -/
structure RingIs (S : RS) (frm count p0 : Nat) (q0 : Int) (ts : List (List Img)) : Prop where
  room : frm + count ≤ S.n0
  two : 2 ≤ count
  most : count ≤ 256
  at0 : p0 < count
  seq : IsSeq q0
  ok : ∀ t ∈ ts, TxnOk count t
  fits : (layB q0 ts).length ≤ count
  lay : ∀ k, k < (layB q0 ts).length → (layB q0 ts)[k]? = some (S.rd (plc frm count p0 k))
/-- Where the next one goes. -/
def RingIs.next (frm count p0 : Nat) (q0 : Int) (ts : List (List Img)) : Nat := (p0 + (layB q0 ts).length) % count
theorem RingIs.laid {S : RS} {frm count p0 : Nat} {q0 : Int} {ts : List (List Img)} (h : RingIs S frm count p0 q0 ts) : Laid S.rd frm count p0 q0 ts ((p0 + (layB q0 ts).length) % count) (seqAt q0 ts.length) :=
  laid_of_layB (by have := h.most; omega) (by have := h.two; omega) ts p0 q0 h.seq h.ok h.lay h.at0
theorem layB_len (q0 : Int) (ts : List (List Img)) (h : ∀ t ∈ ts, 1 ≤ t.length) : 2 * ts.length ≤ (layB q0 ts).length := by
  induction ts generalizing q0 with
  | nil => simp
  | cons t ts ih =>
    have h1 := h t List.mem_cons_self
    have h2 := ih ((q0 + 1) % 4294967296) (fun u hu => h u (List.mem_cons_of_mem _ hu))
    show 2 * (ts.length + 1) ≤ (txnB q0 t ++ layB _ ts).length
    rw [List.length_append, txnB_length]
    omega
theorem RingIs.len {S : RS} {frm count p0 : Nat} {q0 : Int} {ts : List (List Img)} (h : RingIs S frm count p0 q0 ts) : 2 * ts.length ≤ count := Nat.le_trans (layB_len q0 ts (fun t ht => (h.ok t ht).least)) h.fits
/-- **Replaying**, where nothing follows. -/
theorem RingIs.rep {S : RS} {frm count p0 : Nat} {q0 : Int} {ts : List (List Img)} (h : RingIs S frm count p0 q0 ts) (hn : oneS S.rd frm count ((p0 + (layB q0 ts).length) % count) (seqAt q0 ts.length) = none) :
    repS S.rd frm count p0 q0 = (ts, (p0 + (layB q0 ts).length) % count, seqAt q0 ts.length) :=
  repS_laid h.laid hn (by have := h.len; omega)
theorem imgSct_seq (q : Int) (x : Img) : (imgSct q x).seq = q := rfl
/-- The first sector of transactions has their first sequence. -/
theorem lay_first {q0 : Int} {t : List Img} {ts : List (List Img)} (hq : IsSeq q0) (ht : ∃ x, t[0]? = some x ∧ x.Ok ∧ x.fits) : ∃ b, (layB q0 (t :: ts))[0]? = some b ∧ (Sct.of b).seq = q0 := by
  obtain ⟨x, hx, h1, h2⟩ := ht
  have hl : 0 < t.length := (List.getElem?_eq_some_iff.1 hx).1
  refine ⟨(imgSct q0 x).bytes, ?_, ?_⟩
  · show (txnB q0 t ++ _)[0]? = _
    rw [List.getElem?_append_left (by rw [txnB_length]; omega)]
    unfold txnB
    rw [List.getElem?_append_left (by simpa using hl), List.getElem?_map, hx]
    rfl
  · rw [(decOk_bytes (imgSct_ok hq h1) (imgSct_fits (seq := q0) h2)).2]
    rfl
theorem TxnOk.first {count : Nat} {t : List Img} (h : TxnOk count t) : ∃ x, t[0]? = some x ∧ x.Ok ∧ x.fits := by
  have hl : 0 < t.length := h.least
  exact ⟨t[0], List.getElem?_eq_getElem hl, h.ok _ (List.getElem_mem hl), h.fits _ (List.getElem_mem hl)⟩
/-- Behind the last one there is none: a sector that is none, or the ring is full. -/
theorem RingIs.ends {S : RS} {frm count p0 : Nat} {q0 : Int} {ts : List (List Img)} (h : RingIs S frm count p0 q0 ts)
    (hb : (layB q0 ts).length < count → decOk (S.rd (plc frm count p0 (layB q0 ts).length)) = false ∨ (Sct.of (S.rd (plc frm count p0 (layB q0 ts).length))).seq ≠ seqAt q0 ts.length) :
    oneS S.rd frm count ((p0 + (layB q0 ts).length) % count) (seqAt q0 ts.length) = none := by
  refine oneS_none 0 ?_ (fun k hk => absurd hk (by omega))
  have e : frm + ((p0 + (layB q0 ts).length) % count + 0) % count = plc frm count p0 (layB q0 ts).length := by
    have := plc_add frm count p0 (layB q0 ts).length 0
    unfold plc at this ⊢
    exact this
  rw [e]
  by_cases hl : (layB q0 ts).length < count
  · exact hb hl
  · have hfull : (layB q0 ts).length = count := by have := h.fits; omega
    right
    cases ts with
    | nil => simp [layB] at hfull; have := h.two; omega
    | cons t ts =>
      obtain ⟨b, hb0, hbs⟩ := lay_first (ts := ts) h.seq (h.ok t List.mem_cons_self).first
      have h0 := h.lay 0 (by have := h.two; omega)
      rw [hb0] at h0
      have hw : plc frm count p0 (layB q0 (t :: ts)).length = plc frm count p0 0 := by rw [hfull]; exact plc_wrap (k := 0) h.at0
      rw [hw, ← Option.some.inj h0, hbs]
      have hlen := h.len
      have hm := h.most
      have h1 := h.seq.1
      have h2 := h.seq.2
      unfold seqAt
      rw [List.length_cons] at hlen ⊢
      omega
/-- One transaction more. -/
theorem RingIs.more {S S' : RS} {frm count p0 : Nat} {q0 : Int} {ts : List (List Img)} {t : List Img} (h : RingIs S frm count p0 q0 ts) (ht : TxnOk count t) (hfit : (layB q0 ts).length + t.length + 1 ≤ count) (hn : S'.n0 = S.n0)
    (hnew : ∀ k b, (txnB (seqAt q0 ts.length) t)[k]? = some b → S'.rd (plc frm count ((p0 + (layB q0 ts).length) % count) k) = b)
    (hold : ∀ i, i < S.n0 → (∀ k, k ≤ t.length → i ≠ plc frm count ((p0 + (layB q0 ts).length) % count) k) → S'.rd i = S.rd i) : RingIs S' frm count p0 q0 (ts ++ [t]) := by
  have hl : layB q0 (ts ++ [t]) = layB q0 ts ++ txnB (seqAt q0 ts.length) t := by rw [layB_append _ _ _ h.seq, layB_one]
  refine ⟨by rw [hn]; exact h.room, h.two, h.most, h.at0, h.seq, ?_, ?_, ?_⟩
  · intro u hu
    rcases List.mem_append.1 hu with hu | hu
    · exact h.ok u hu
    · simp at hu; rw [hu]; exact ht
  · rw [hl, List.length_append, txnB_length]; omega
  · intro k hk
    rw [hl] at hk ⊢
    by_cases hlt : k < (layB q0 ts).length
    · rw [List.getElem?_append_left hlt, h.lay k hlt, hold _ (plc_lt (show 0 < count by have := h.two; omega) h.room k) (fun j hj e => ?_)]
      rw [plc_add] at e
      have := plc_inj (frm := frm) (at0 := p0) (count := count) (j := k) (k := (layB q0 ts).length + j) (by omega) (by omega) e
      omega
    · rw [List.length_append, txnB_length] at hk
      rw [List.getElem?_append_right (by omega)]
      have hlen : k - (layB q0 ts).length < (txnB (seqAt q0 ts.length) t).length := by rw [txnB_length]; omega
      rw [List.getElem?_eq_getElem hlen]
      have := hnew _ _ (List.getElem?_eq_getElem hlen)
      rw [plc_add, show (layB q0 ts).length + (k - (layB q0 ts).length) = k by omega] at this
      rw [this]
/-- .. by an Append that is done. -/
theorem RingIs.app {S : RS} {frm count p0 : Nat} {q0 : Int} {ts : List (List Img)} {t : List Img} (h : RingIs S frm count p0 q0 ts) (ht : TxnOk count t) (hfit : (layB q0 ts).length + t.length + 1 ≤ count)
    (hf : ∀ i, i < S.n0 → (S.D0 i).vs.length ≤ 255) (he : (S.app frm count ((p0 + (layB q0 ts).length) % count) (seqAt q0 ts.length) t).2 = 0) :
    RingIs (S.app frm count ((p0 + (layB q0 ts).length) % count) (seqAt q0 ts.length) t).1 frm count p0 q0 (ts ++ [t]) := by
  obtain ⟨d1, d2, d3⟩ := RS.app_done he ht.most h.room hf
  have hs := (RS.app_cases (S := S) (frm := frm) (at0 := (p0 + (layB q0 ts).length) % count) (seq := seqAt q0 ts.length) (t := t) (show 0 < count by have := h.two; omega) h.room).1
  exact h.more ht hfit hs.n0 (fun k b hb => (d2 k b hb).1) (fun i hi hno => by unfold RS.rd; rw [d3 i hi hno]; rfl)
end Go.Proofs.Ytfmgaakbfphpbaa

/- Rings behind a cut Append; other sequences; a byte that is turned. -/
namespace Go.Proofs.Ytfmgaakbfphpbaa
open Go.RowKit
set_option linter.unusedVariables false

/-- What stands behind the transactions is none, or has this sequence. -/
def Rest (S : RS) (frm count p0 L : Nat) (q : Int) : Prop := ∀ k, L ≤ k → k < count → decOk (S.rd (plc frm count p0 k)) = false ∨ (Sct.of (S.rd (plc frm count p0 k))).seq = q
def RestZ (S : RS) (frm count p0 L : Nat) : Prop := ∀ k, L ≤ k → k < count → decOk (S.rd (plc frm count p0 k)) = false
theorem RestZ.rest {S : RS} {frm count p0 L : Nat} (h : RestZ S frm count p0 L) (q : Int) : Rest S frm count p0 L q := fun k h1 h2 => .inl (h k h1 h2)
theorem RestZ.ends {S : RS} {frm count p0 : Nat} {q0 : Int} {ts : List (List Img)} (h : RingIs S frm count p0 q0 ts) (hr : RestZ S frm count p0 (layB q0 ts).length) :
    oneS S.rd frm count ((p0 + (layB q0 ts).length) % count) (seqAt q0 ts.length) = none :=
  h.ends fun hl => .inl (hr _ (Nat.le_refl _) hl)
theorem seqAt_ne (q : Int) (n : Nat) : seqAt q (n + 1) ≠ seqAt q n := by
  unfold seqAt
  omega
section
variable {S : RS} {frm count p0 : Nat} {q0 : Int} {ts : List (List Img)} {t : List Img}
theorem far_of (hk : t.length + 1 ≤ count) {L k : Nat} (h1 : k < count) (h2 : k < L ∨ L + t.length < k) (hL : L + t.length + 1 ≤ count) : ∀ j, j ≤ t.length → plc frm count p0 k ≠ plc frm count ((p0 + L) % count) j := fun j hj e => by
  rw [plc_add] at e
  have := plc_inj (frm := frm) (at0 := p0) (count := count) (j := k) (k := L + j) h1 (by omega) e
  omega
/-- An Append that is done, where the rest has the sequence that it writes. -/
theorem RingIs.appRest (h : RingIs S frm count p0 q0 ts) (hr : Rest S frm count p0 (layB q0 ts).length (seqAt q0 ts.length)) (ht : TxnOk count t) (hfit : (layB q0 ts).length + t.length + 1 ≤ count)
    (hf : ∀ i, i < S.n0 → (S.D0 i).vs.length ≤ 255) (he : (S.app frm count ((p0 + (layB q0 ts).length) % count) (seqAt q0 ts.length) t).2 = 0) :
    oneS (S.app frm count ((p0 + (layB q0 ts).length) % count) (seqAt q0 ts.length) t).1.rd frm count ((p0 + (layB q0 (ts ++ [t])).length) % count) (seqAt q0 (ts ++ [t]).length) = none := by
  have hm := h.app ht hfit hf he
  obtain ⟨d1, d2, d3⟩ := RS.app_done he ht.most h.room hf
  refine hm.ends fun hl => ?_
  have hlen : (layB q0 (ts ++ [t])).length = (layB q0 ts).length + t.length + 1 := by
    rw [layB_append _ _ _ h.seq, layB_one, List.length_append, txnB_length]; omega
  have hold : (S.app frm count ((p0 + (layB q0 ts).length) % count) (seqAt q0 ts.length) t).1.rd (plc frm count p0 (layB q0 (ts ++ [t])).length) = S.rd (plc frm count p0 (layB q0 (ts ++ [t])).length) := by
    unfold RS.rd
    rw [d3 _ (plc_lt (show 0 < count by have := h.two; omega) h.room _) (far_of ht.most hl (.inr (by omega)) hfit)]
    rfl
  rw [hold]
  rcases hr _ (by omega) hl with h1 | h1
  · exact .inl h1
  · right
    rw [h1, List.length_append]
    exact (seqAt_ne q0 ts.length).symm
theorem RingIs.appZ (h : RingIs S frm count p0 q0 ts) (hr : RestZ S frm count p0 (layB q0 ts).length) (ht : TxnOk count t) (hfit : (layB q0 ts).length + t.length + 1 ≤ count)
    (hf : ∀ i, i < S.n0 → (S.D0 i).vs.length ≤ 255) (he : (S.app frm count ((p0 + (layB q0 ts).length) % count) (seqAt q0 ts.length) t).2 = 0) :
    RestZ (S.app frm count ((p0 + (layB q0 ts).length) % count) (seqAt q0 ts.length) t).1 frm count p0 (layB q0 (ts ++ [t])).length := fun k h1 h2 => by
  obtain ⟨d1, d2, d3⟩ := RS.app_done he ht.most h.room hf
  have hlen : (layB q0 (ts ++ [t])).length = (layB q0 ts).length + t.length + 1 := by
    rw [layB_append _ _ _ h.seq, layB_one, List.length_append, txnB_length]; omega
  have hold : (S.app frm count ((p0 + (layB q0 ts).length) % count) (seqAt q0 ts.length) t).1.rd (plc frm count p0 k) = S.rd (plc frm count p0 k) := by
    unfold RS.rd
    rw [d3 _ (plc_lt (show 0 < count by have := h.two; omega) h.room _) (far_of ht.most h2 (.inr (by omega)) hfit)]
    rfl
  rw [hold]
  exact hr k (by omega) h2
/-- **Behind an Append that is cut, and a crash.** -/
theorem RingIs.torn (h : RingIs S frm count p0 q0 ts) (hr : RestZ S frm count p0 (layB q0 ts).length) (ht : TxnOk count t) (hfit : (layB q0 ts).length + t.length + 1 ≤ count)
    (hS : ∀ i, i < S.n0 → (S.D0 i).vs = []) (b0 b1 : List Int) : ∃ us, ((us = ts ∧ (S.app frm count ((p0 + (layB q0 ts).length) % count) (seqAt q0 ts.length) t).2 ≠ 0) ∨ us = ts ++ [t]) ∧
      RingIs ((S.app frm count ((p0 + (layB q0 ts).length) % count) (seqAt q0 ts.length) t).1.crash b0 b1) frm count p0 q0 us ∧
      oneS ((S.app frm count ((p0 + (layB q0 ts).length) % count) (seqAt q0 ts.length) t).1.crash b0 b1).rd frm count ((p0 + (layB q0 us).length) % count) (seqAt q0 us.length) = none ∧
      Rest ((S.app frm count ((p0 + (layB q0 ts).length) % count) (seqAt q0 ts.length) t).1.crash b0 b1) frm count p0 (layB q0 us).length (seqAt q0 us.length) := by
  obtain ⟨n1, n2, n3, n4⟩ := RS.app_torn (at0 := (p0 + (layB q0 ts).length) % count) (seq := seqAt q0 ts.length) ht.most h.room hS b0 b1
  have hc : 0 < count := by have := h.two; omega
  generalize hC : (S.app frm count ((p0 + (layB q0 ts).length) % count) (seqAt q0 ts.length) t).1.crash b0 b1 = C at *
  have hlen : (layB q0 (ts ++ [t])).length = (layB q0 ts).length + t.length + 1 := by
    rw [layB_append _ _ _ h.seq, layB_one, List.length_append, txnB_length]; omega
  have hfar : ∀ k, k < count → (k < (layB q0 ts).length ∨ (layB q0 ts).length + t.length < k) → C.rd (plc frm count p0 k) = S.rd (plc frm count p0 k) := fun k hk hh => by
    unfold RS.rd
    rw [n3 _ (plc_lt hc h.room _) (far_of ht.most hk hh hfit)]
  rcases n4 with hall | ⟨he, himg, hcom⟩
  · have hm : RingIs C frm count p0 q0 (ts ++ [t]) := h.more ht hfit n1.n0 hall (fun i hi hno => by unfold RS.rd; rw [n3 i hi hno])
    have hz : RestZ C frm count p0 (layB q0 (ts ++ [t])).length := fun k h1 h2 => by
      rw [hfar k h2 (.inr (by omega))]
      exact hr k (by omega) h2
    exact ⟨ts ++ [t], .inr rfl, hm, hz.ends hm, hz.rest _⟩
  · have hm : RingIs C frm count p0 q0 ts := ⟨by rw [n1.n0]; exact h.room, h.two, h.most, h.at0, h.seq, h.ok, h.fits, fun k hk => by rw [hfar k (by omega) (.inl hk)]; exact h.lay k hk⟩
    have himg2 : ∀ k, k < t.length → decOk (C.rd (plc frm count p0 ((layB q0 ts).length + k))) = false ∨ ((Sct.of (C.rd (plc frm count p0 ((layB q0 ts).length + k)))).seq = seqAt q0 ts.length ∧ (Sct.of (C.rd (plc frm count p0 ((layB q0 ts).length + k)))).mark = 73) := fun k hk => by
      have hb : (txnB (seqAt q0 ts.length) t)[k]? = some (imgSct (seqAt q0 ts.length) t[k]).bytes := by
        unfold txnB
        rw [List.getElem?_append_left (by simpa using hk), List.getElem?_map, List.getElem?_eq_getElem hk]
        rfl
      have hx := himg k _ hb hk
      rw [plc_add] at hx
      rcases hx with e | e
      · left; rw [e]; exact hr _ (by omega) (by omega)
      · right
        have hmm := List.getElem_mem hk
        rw [e, (decOk_bytes (imgSct_ok (isSeq_at q0 ts.length) (ht.ok _ hmm)) (imgSct_fits (seq := seqAt q0 ts.length) (ht.fits _ hmm))).2]
        exact ⟨rfl, rfl⟩
    have hcom2 : decOk (C.rd (plc frm count p0 ((layB q0 ts).length + t.length))) = false := by
      rw [plc_add] at hcom
      rw [hcom]
      exact hr _ (by omega) (by omega)
    refine ⟨ts, .inl ⟨rfl, he⟩, hm, ?_, fun k h1 h2 => ?_⟩
    · refine oneS_none t.length (.inl ?_) (fun k hk => ?_)
      · have := plc_add frm count p0 (layB q0 ts).length t.length
        unfold plc at this hcom2
        rw [this]
        exact hcom2
      · have := plc_add frm count p0 (layB q0 ts).length k
        have h3 := himg2 k hk
        unfold plc at this h3
        rw [this]
        rcases h3 with h3 | ⟨_, h3⟩
        · exact .inl h3
        · exact .inr (.inr (by rw [h3]; omega))
    · obtain ⟨j, rfl⟩ : ∃ j, k = (layB q0 ts).length + j := ⟨k - (layB q0 ts).length, by omega⟩
      by_cases hj : j < t.length
      · rcases himg2 j hj with h3 | ⟨h3, _⟩
        · exact .inl h3
        · exact .inr h3
      · by_cases hj2 : j = t.length
        · subst hj2; exact .inl hcom2
        · left
          rw [hfar _ h2 (.inr (by omega))]
          exact hr _ (by omega) h2
/-- From behind the first one on all but it are told. -/
theorem RingIs.repTail (h : RingIs S frm count p0 q0 (t :: ts)) (hn : oneS S.rd frm count ((p0 + (layB q0 (t :: ts)).length) % count) (seqAt q0 (t :: ts).length) = none) :
    repS S.rd frm count ((p0 + t.length + 1) % count) ((q0 + 1) % 4294967296) = (ts, (p0 + (layB q0 (t :: ts)).length) % count, seqAt q0 (t :: ts).length) :=
  repS_laid h.laid.2 hn (by have := h.len; simp at this; omega)
/-- Of another sequence there are none. -/
theorem RingIs.repOther (h : RingIs S frm count p0 q0 (t :: ts)) {q : Int} (hq : q ≠ q0) : repS S.rd frm count p0 q = ([], p0, q) := by
  have hn : oneS S.rd frm count p0 q = none := by
    refine oneS_none 0 (.inr ?_) (fun k hk => absurd hk (by omega))
    obtain ⟨b, hb0, hbs⟩ := lay_first (ts := ts) h.seq (h.ok t List.mem_cons_self).first
    have h0 := h.lay 0 (by
      show 0 < (txnB q0 t ++ _).length
      rw [List.length_append, txnB_length]; omega)
    rw [hb0] at h0
    have e : frm + (p0 + 0) % count = plc frm count p0 0 := rfl
    rw [e, ← Option.some.inj h0, hbs]
    exact fun e => hq e.symm
  exact repS_laid (ts := []) ⟨rfl, rfl⟩ hn (Nat.zero_le _)
end
/-- How many transactions end ahead of sector s. -/
def wants : Nat → List (List Img) → Nat
  | _, [] => 0
  | s, t :: ts => if t.length + 1 ≤ s then wants (s - (t.length + 1)) ts + 1 else 0
theorem repGo_spoilt {rd : Nat → List Int} {frm count : Nat} (hc : count ≤ 65535) (h0 : 0 < count) : ∀ (ts : List (List Img)) (f s at0 : Nat) (seq : Int) (acc : List (List Img)), IsSeq seq → (∀ t ∈ ts, TxnOk count t) → ts.length ≤ f →
    s < (layB seq ts).length → (∀ k, k < (layB seq ts).length → k ≠ s → (layB seq ts)[k]? = some (rd (frm + (at0 + k) % count))) → decOk (rd (frm + (at0 + s) % count)) = false →
    ∃ a, repGo rd frm count f at0 seq acc = (acc ++ ts.take (wants s ts), a, seqAt seq (wants s ts))
  | [], f, s, at0, seq, acc, hs, hok, hf, hl, hg, hb => by simp [layB] at hl
  | t :: ts, 0, s, at0, seq, acc, hs, hok, hf, hl, hg, hb => by simp at hf
  | t :: ts, f + 1, s, at0, seq, acc, hs, hok, hf, hl, hg, hb => by
    have ht := hok t List.mem_cons_self
    have hlen : (layB seq (t :: ts)).length = t.length + 1 + (layB ((seq + 1) % 4294967296) ts).length := by
      show (txnB seq t ++ _).length = _
      rw [List.length_append, txnB_length]
    unfold wants
    by_cases h : t.length + 1 ≤ s
    · have ho : oneS rd frm count at0 seq = some t := oneS_txn hs ht hc fun k hk => by
        have := hg k (by rw [hlen]; omega) (by omega)
        unfold layB at this
        rw [List.getElem?_append_left (by rw [txnB_length]; omega)] at this
        exact this
      obtain ⟨a, e⟩ := repGo_spoilt hc h0 ts f (s - (t.length + 1)) ((at0 + t.length + 1) % count) ((seq + 1) % 4294967296) (acc ++ [t]) isSeq_next (fun u hu => hok u (List.mem_cons_of_mem _ hu)) (by simpa using hf) (by rw [hlen] at hl; omega)
        (fun k hk hne => by
          have := hg (t.length + 1 + k) (by rw [hlen]; omega) (by omega)
          unfold layB at this
          rw [List.getElem?_append_right (by rw [txnB_length]; omega), txnB_length, Nat.add_sub_cancel_left] at this
          rw [this, Nat.mod_add_mod, show at0 + (t.length + 1 + k) = at0 + t.length + 1 + k by omega])
        (by rw [Nat.mod_add_mod, show at0 + t.length + 1 + (s - (t.length + 1)) = at0 + s by omega]; exact hb)
      refine ⟨a, ?_⟩
      rw [if_pos h]
      unfold repGo
      rw [ho]
      show repGo rd frm count f ((at0 + t.length + 1) % count) ((seq + 1) % 4294967296) (acc ++ [t]) = _
      rw [e, seqAt_succ, List.take_succ_cons, List.append_assoc]
      rfl
    · have ho : oneS rd frm count at0 seq = none := oneS_none s (.inl hb) fun k hk => by
        have hkt : k < t.length := by omega
        have := hg k (by rw [hlen]; omega) (by omega)
        unfold layB at this
        rw [List.getElem?_append_left (by rw [txnB_length]; omega)] at this
        unfold txnB at this
        rw [List.getElem?_append_left (by simpa using hkt), List.getElem?_map, List.getElem?_eq_getElem hkt] at this
        have e := Option.some.inj this
        have hmm := List.getElem_mem hkt
        right; right
        rw [← e]
        rw [(decOk_bytes (imgSct_ok hs (ht.ok _ hmm)) (imgSct_fits (seq := seq) (ht.fits _ hmm))).2]
        show (73 : Int) ≠ 67
        omega
      refine ⟨at0, ?_⟩
      rw [if_neg h, List.take_zero, List.append_nil, seqAt_zero hs]
      unfold repGo
      rw [ho]
theorem wants_le : ∀ (s : Nat) (ts : List (List Img)), wants s ts ≤ ts.length
  | _, [] => Nat.le_refl _
  | s, t :: ts => by
    unfold wants
    split
    · have := wants_le (s - (t.length + 1)) ts
      rw [List.length_cons]; omega
    · exact Nat.zero_le _
/-- **With one sector spoilt** all ahead of its transaction are told. -/
theorem RingIs.spoilt {S : RS} {frm count p0 : Nat} {q0 : Int} {ts : List (List Img)} (h : RingIs S frm count p0 q0 ts) {rd : Nat → List Int} {s : Nat} (hs : s < (layB q0 ts).length)
    (hbad : decOk (rd (plc frm count p0 s)) = false) (hsame : ∀ i, i ≠ plc frm count p0 s → rd i = S.rd i) : ∃ a, repS rd frm count p0 q0 = (ts.take (wants s ts), a, seqAt q0 (wants s ts)) := by
  have hfit := h.fits
  obtain ⟨a, e⟩ := repGo_spoilt (rd := rd) (frm := frm) (count := count) (by have := h.most; omega) (by have := h.two; omega) ts count s p0 q0 [] h.seq h.ok (by have := h.len; omega) hs (fun k hk hne => by
    have hp : plc frm count p0 k ≠ plc frm count p0 s := fun e => hne (plc_inj (frm := frm) (at0 := p0) (count := count) (by omega) (by omega) e)
    have := hsame _ hp
    unfold plc at this
    rw [this]
    exact h.lay k hk) hbad
  refine ⟨a, ?_⟩
  rw [List.nil_append] at e
  exact e
/-- A sector of transactions is a marked sector's bytes. -/
theorem layB_sct : ∀ (ts : List (List Img)) (count : Nat) (seq : Int) (k : Nat) (b : List Int), IsSeq seq → (∀ t ∈ ts, TxnOk count t) → (layB seq ts)[k]? = some b → ∃ p : Sct, p.Ok ∧ b = p.bytes
  | [], _, _, _, _, _, _, h => by simp [layB] at h
  | t :: ts, count, seq, k, b, hs, hok, h => by
    have h' : (txnB seq t ++ layB ((seq + 1) % 4294967296) ts)[k]? = some b := h
    by_cases hk : k < (txnB seq t).length
    · rw [List.getElem?_append_left hk] at h'
      have hm := List.mem_of_getElem? h'
      unfold txnB at hm
      rcases List.mem_append.1 hm with hm | hm
      · obtain ⟨x, hx, e⟩ := List.mem_map.1 hm
        exact ⟨imgSct seq x, imgSct_ok hs ((hok t List.mem_cons_self).ok x hx), e.symm⟩
      · simp at hm
        exact ⟨comSct seq t.length, comSct_ok hs, hm⟩
    · rw [List.getElem?_append_right (by omega)] at h'
      exact layB_sct ts count _ _ b isSeq_next (fun u hu => hok u (List.mem_cons_of_mem _ hu)) h'
theorem turned_bad {p : Sct} (hp : p.Ok) {k : Nat} {y : Int} (hk : k < 64) (hy : 0 ≤ y ∧ y < 256) (hne : y ≠ p.bytes[k]?.getD 0) : decOk (p.bytes.set k y) = false := by
  unfold decOk
  rw [decide_eq_false (turned_none hp hk hy hne), Bool.and_false]
end Go.Proofs.Ytfmgaakbfphpbaa

/- The document's own Count. -/
namespace Go.Proofs.Ytfmgaakbfphpbaa
open Go.RowKit
set_option linter.unusedVariables false

/-- How many pieces so many bytes have. -/
def cnt (n : Int) : Int := if n < 1 then 0 else (n - 1) / 48 + 1
theorem cnt_nat (n : Nat) : cnt n = ((n + 47) / 48 : Nat) := by
  unfold cnt
  split <;> omega
end Go.Proofs.Ytfmgaakbfphpbaa

/- Bodies: arrays of 48 bytes, and slices of them; pieces of bytes. -/
namespace Go.Proofs.Ytfmgaakbfphpbaa
open Go.RowKit
set_option linter.unusedVariables false

def z48 : List Value := u8s (List.replicate 48 0)
theorem z48_size : z48.toArray.size = 48 := by simp [z48, u8s]
set_option maxRecDepth 100000 in
theorem under_bod : Try.prog.underlying 79 = some (.array 48 5) := by kernel_rfl
set_option maxRecDepth 100000 in
theorem info_bod : (Try.prog.info? 79).map (fun i => (i.zero, i.size, i.bytes)) = some (some (.agg z48.toArray), 48, 48) := by kernel_rfl
set_option maxRecDepth 100000 in
theorem size_bod : (Try.prog.info? 79).map (·.size) = some 48 := by kernel_rfl
set_option maxRecDepth 100000 in
theorem zero_bod (w : World) : (zeroValue 79).run Try.prog w = .ok (.agg z48.toArray) w := by kernel_rfl
set_option maxRecDepth 100000 in
theorem load_bod {w : World} {b o : Nat} {c : List Value} (hc : w.rangeAt b o c) (h : c.length = 48) : (loadVar 79 ⟨b, o, none⟩).run Try.prog w = .ok (.agg c.toArray) w :=
  run_loadVar_mid w b o _ c _ hc under_bod rfl (by rw [h]; exact size_bod)
/-- Whatever is neither a block nor a body is read and written cell by cell. -/
theorem loadVar_open3 (t : TypeId) (h : t ≠ 59 ∧ t ≠ 79) (a : Addr) : loadVar t a = (do if ← isAgg t then pure (.agg (← loadCells a (← sizeOf t))) else load a) := rfl
set_option maxRecDepth 100000 in
/-- The bytes from K up to H. -/
theorem sl_mid {ra : Option Addr} {R rc K H : Nat} {rest : List Int} {w0 : World} (h : Sl .u8 w0 (.slice ra R rc) rest) (hK : K ≤ H) (hH : H ≤ R) :
    ∃ ra', (∀ W : World, (Instr.sliceAt 35 (.slice ra R rc) (some (.int .i64 (K : Int))) (some (.int .i64 (H : Int))) none).run Try.prog W = .ok (.slice ra' (H - K) (rc - K)) W) ∧ ∀ W : World, Sl .u8 W (.slice ra R rc) rest → Sl .u8 W (.slice ra' (H - K) (rc - K)) ((rest.drop K).take (H - K)) := by
  obtain ⟨a, cap, e, h1, h2, _, h4⟩ := h
  simp only [Value.slice.injEq] at e
  obtain ⟨rfl, rfl, rfl⟩ := e
  refine ⟨if rc = K then ra else ra.map fun x => x.add K, fun W => ?_, fun W hW => ?_⟩
  · rw [run_sliceAt_slice (h := elem_bytes), run_slice_lh (ht := elem_bytes) (kl := .i64) (kh := .i64) (h0 := by omega) (h1 := by omega) (h2 := by omega), sizeOf_byte]
    simp only [Result.andThen, sliced, Int.toNat_natCast, Nat.mul_one]
  · have := sl_lo_at hW (K := K) (by omega)
    have hl : (rest.drop K).length = rest.length - K := List.length_drop
    rw [← hl] at this
    exact (sl_hi this (K := H - K) (by omega)).2 W this

/-- How many pieces bytes have; one of them; the first k of them. -/
def nPcs (bs : List Int) : Nat := (bs.length + 47) / 48
def piece (bs : List Int) (k : Nat) : List Int := (bs.drop (48 * k)).take 48 ++ List.replicate (48 - ((bs.drop (48 * k)).take 48).length) 0
theorem piece_length (bs : List Int) (k : Nat) : (piece bs k).length = 48 := by simp [piece]; omega
def rows (bs : List Int) (k : Nat) : List (List Value) := (List.range k).map fun i => u8s (piece bs i)
theorem rows_succ (bs : List Int) (k : Nat) : rows bs (k + 1) = rows bs k ++ [u8s (piece bs k)] := by simp [rows, List.range_succ]
theorem rows_length (bs : List Int) (k : Nat) : (rows bs k).length = k := by simp [rows]
end Go.Proofs.Ytfmgaakbfphpbaa

/- The range function of package le has its contract: each place below the bound comes, with its shift, in order. -/
namespace Go.Proofs.Ytfmgaakbfphpbaa
open Go.RowKit Go.Shelf
set_option linter.unusedVariables false

attribute [local go_sem] Oper.semAt_some

/-- What has come when k rounds are over: the first k places. -/
def upto (m k : Nat) : List (Fin m) := (List.finRange m).take k
theorem upto_succ (m k : Nat) (h : k < m) : upto m (k + 1) = upto m k ++ [⟨k, h⟩] := by
  unfold upto
  rw [List.take_succ_eq_append_getElem (by simpa using h)]
  simp
theorem upto_length (m k : Nat) (h : k ≤ m) : (upto m k).length = k := by simp [upto, h]
theorem upto_all (m : Nat) : upto m m = List.finRange m := by
  unfold upto; rw [List.take_of_length_le (by simp)]

def encP {m : Nat} (x : Fin m) : Array Value := #[.int .i64 (x.1 : Int), .int .u64 (8 * (x.1 : Int))]

set_option maxRecDepth 100000 in
set_option maxHeartbeats 1000000 in
theorem places_in (F : Fence) (n : Nat) (hf : F.fn 81) (hro : F.round = none) (size : Int) (w : World) :
    CallsIn F n Try.prog 81 #[.int .i64 size] w fun e w' => e = .returned (.func (.func 85) #[] #[.pointer (some ⟨w.heap.size, 0, none⟩)]) ∧ w' = w.alloc (.cells #[.int .i64 size] 3) := by
  refine callsIn_of_wp Try.func81 rfl hf ?_ hro
  simp only [Try.ntmps81, List.size_toArray, List.length_cons, List.length_nil, Nat.reduceAdd, Nat.reduceSub, Array.replicate_succ, Array.replicate_zero, List.push_toArray, List.append_toArray, List.nil_append, List.cons_append]
  gi_wp2
  go_ret
  exact ⟨rfl, rfl⟩

set_option maxRecDepth 100000 in
set_option maxHeartbeats 2000000 in
theorem places1_in (F : Fence) (n : Nat) (hf : F.fn 85) (hro : F.round = none) (hn : 1 ≤ n) (l Bs m : Nat) (size : Int) (hm : (size ≤ 8 ∧ m = size.toNat) ∨ (8 < size ∧ m = 8)) (J Jx : List (Fin m) → World → Prop)
    (hY : ∀ pre x W, J pre W → pre.length < m → YieldAt F (n - 1) Try.prog l (encP x) W fun e W' =>
      (e = .returned (.bool true) ∧ J (pre ++ [x]) W' ∧ True) ∨ (e = .returned (.bool false) ∧ Jx (pre ++ [x]) W'))
    (W : World) (hBs : W.cell? ⟨Bs, 0, none⟩ = some (.int .i64 size)) (h0 : J [] W) :
    CallsIn F n Try.prog 85 #[.func (.yield l) #[] #[], .pointer (some ⟨Bs, 0, none⟩)] W fun e W' => (∃ v, e = .returned v) ∧
      ((∃ ys, ys = List.finRange m ∧ J ys W') ∨ (∃ pre, (∃ k, k ≤ m ∧ pre = upto m k) ∧ Jx pre W')) := by
  refine callsIn_of_wp Try.func85 rfl hf ?_ hro
  simp only [Try.ntmps85, List.size_toArray, List.length_cons, List.length_nil, Nat.reduceAdd, Nat.reduceSub, Array.replicate_succ, Array.replicate_zero, List.push_toArray, List.append_toArray, List.nil_append, List.cons_append]
  gi_wp2
  all_goals
    gi_loopw [6] (fun i wr => ∃ k : Nat, k ≤ m ∧ i = .int .i64 k ∧ J (upto m k) wr) (fun i _ => m - (intOf i).toNat)
    case atStart => exact ⟨0, Nat.zero_le _, rfl, h0⟩
    case round =>
      obtain ⟨k, hk, rfl, hJs⟩ := hrel
      by_cases hlt : k < m
      · obtain ⟨fn, tmps, assign, body, hy, hR⟩ := hY _ ⟨k, hlt⟩ wr hJs (by rw [upto_length m k hk]; exact hlt)
        dsimp only [encP] at hy
        have hb1 : (k : Int) < size := by omega
        have hb2 : (k : Int) < 8 := by omega
        gi_wp2
        refine hR.mono ?_
        rintro e W3 (⟨rfl, hJ3, hk3⟩ | ⟨rfl, hJx3⟩)
        · gi_wp2
          go_roundw
          case rel => exact ⟨k + 1, by omega, by simp, by rw [upto_succ m k hlt]; exact hJ3⟩
          case measure => simp [intOf]; omega
        · gi_wp2
          refine bodyPost_ret (results_none rfl _ _ _) rfl ?_
          exact ⟨⟨_, rfl⟩, .inr ⟨_, ⟨k + 1, by omega, (upto_succ m k hlt).symm⟩, hJx3⟩⟩
      · obtain rfl : k = m := by omega
        gi_wp2
        go_end0
        exact ⟨⟨_, rfl⟩, .inl ⟨_, rfl, by rw [← upto_all]; exact hJs⟩⟩

/-- What a loop over the places may rely on: nothing but its own. -/
def AnyKp (_ _ : World) : Prop := True

set_option maxRecDepth 100000 in
theorem places_stops (F : Fence) (n : Nat) (hf : F.fn 85) (hro : F.round = none) (hn : 1 ≤ n) (Bs : Nat) (size : Int) (w : World) (hBs : Bs < w.heap.size)
    (hc : w.cell? ⟨Bs, 0, none⟩ = some (.int .i64 size)) :
    SeqStopsK F n Try.prog 85 #[.pointer (some ⟨Bs, 0, none⟩)] (encP (m := nPlaces size)) AnyKp (fun ys => ys = List.finRange (nPlaces size)) (fun _ => True) (nPlaces size) w := fun l J Jx W hW _ _ hY h0 =>
  (places1_in F n hf hro hn l Bs (nPlaces size) size (nPlaces_cases size) J Jx
    (fun pre x W hJ hl => (hY pre x W hJ hl).mono fun e W' h => h.imp (fun ⟨a, b, _⟩ => ⟨a, b, trivial⟩) id)
    W ((hW.cell (p := ⟨Bs, 0, none⟩) hBs).trans hc) h0).mono fun e W' ⟨he, h⟩ => ⟨he, h.imp id fun ⟨pre, _, hj⟩ => ⟨pre, trivial, hj⟩⟩

theorem anyKp_t {A B C : World} (_ : AnyKp A B) (_ : AnyKp B C) : AnyKp A C := trivial
end Go.Proofs.Ytfmgaakbfphpbaa

/- The number that bytes stand for, as the package le reads it. -/
namespace Go.Proofs.Ytfmgaakbfphpbaa
open Go.RowKit Go.Shelf
set_option linter.unusedVariables false

attribute [local go_sem] Oper.semAt_some

set_option maxRecDepth 100000 in
set_option maxHeartbeats 2000000 in
theorem get_at (a : Option Addr) (len cap : Nat) (bs : List Int) (hlen : bs.length = len) (hcap : len ≤ 9223372036854775807) (w : World)
    (hA : len = 0 ∨ ∃ b off, a = some ⟨b, off, none⟩ ∧ b < w.heap.size ∧ ∀ j, j < len → w.cell? ⟨b, off + j, none⟩ = some (.int .u8 (bs[j]?.getD 0))) (hr : IsBytes bs) :
    Calls Try.prog 84 #[.slice a len cap] w fun e w' => e = .returned (.int .u64 (getL bs)) ∧ Below w.heap.size w w' := by
  refine (callsIn_wide (n := 3)).1 ?_
  refine callsIn_of_wp_marks Try.func84 rfl trivial ?_ rfl
  simp only [Try.ntmps84, List.size_toArray, List.length_cons, List.length_nil, Nat.reduceAdd, Nat.reduceSub, Array.replicate_succ, Array.replicate_zero, List.push_toArray, List.append_toArray, List.nil_append, List.cons_append]
  have hr := Lib.hid hr
  have hA := Lib.hid hA
  gi_wp2_with (refine ⟨trivial, ?_⟩; gi_at_call 81; refine (places_in _ _ trivial rfl _ _).mono ?_; rintro e w' ⟨rfl, rfl⟩)
  have bB := Boxed.new w 35 (.slice a len cap)
  have bN := Boxed.new (w.alloc (.cells #[.slice a len cap] 35)) 131 (.int .u64 0)
  rw [World.size_alloc] at bN
  have bP := Boxed.new ((w.alloc (.cells #[.slice a len cap] 35)).alloc (.cells #[.int .u64 0] 131)) 3 (.int .i64 (len : Int))
  rw [World.size_alloc, World.size_alloc] at bP
  have hB0 : Below w.heap.size w (((w.alloc (.cells #[.slice a len cap] 35)).alloc (.cells #[.int .u64 0] 131)).alloc (.cells #[.int .i64 (len : Int)] 3)) := (((Below.refl _ w).alloc (Nat.le_refl _) _).alloc (by simp) _).alloc (by simp; omega) _
  refine wpIn_rangeFunc_ownF (n := 3) rfl (by omega) (gf := 85) (lb := #[.pointer (some ⟨w.heap.size + 1 + 1, 0, none⟩)]) rfl trivial (enters_of Try.func85 (by kernel_rfl) rfl)
    (places_stops Fence.wide 2 trivial rfl (by omega) (w.heap.size + 1 + 1) (len : Int) _ (by simp) bP.cell) anyKp_t (fun _ _ _ _ _ _ _ _ => trivial) (Below.refl _ _) (fun _ => rfl)
    (fun pre W => (∃ v : Int, Boxed W (w.heap.size + 1) 131 (.int .u64 v) ∧ 0 ≤ v ∧ v < 18446744073709551616 ∧ (pre <+: List.finRange (nPlaces (len : Int)) → v = getN bs pre.length)) ∧ Boxed W w.heap.size 35 (.slice a len cap) ∧ Below w.heap.size w W)
    (fun _ _ _ => False)
    ?hI (fun _ _ _ _ _ h _ _ => h.elim) ?h0 ?a1 ?assign ?body ?done ?stop
  case hI =>
    intro s W W' row ⟨⟨v, hv, h1, h2, h3⟩, hb, hB⟩ hg hrow
    have hr' : ∀ r, row = some r → ∃ o : Obj, W.heap[r]? = some o ∧ o.isCells = false := fun r e => (hrow r e).2
    exact ⟨⟨v, boxed_own _ _ (fun _ : Unit => _) () W W' row hv hg hr', h1, h2, h3⟩, boxed_own _ _ (fun _ : Unit => _) () W W' row hb hg hr', ownFrom_below (β := Unit) (Nat.le_refl _) (by simp; omega) () W W' row hB hg hrow⟩
  case h0 => exact ⟨⟨0, bN.alloc _, by omega, by omega, fun _ => rfl⟩, (bB.alloc _).alloc _, hB0⟩
  case assign =>
    intro l x W K hK
    dsimp only [encP]
    gi_wp2
    exact hK
  case body =>
    rintro l pre x W ⟨⟨v, hv, hv0, hv1, hvp⟩, hbx, hB⟩ hlen
    have c1 := hv.cell
    have f1 := hv.frozen
    have hx : x.1 < len := by have := x.2; unfold nPlaces at this; split at this <;> omega
    have hx8 : x.1 < 8 := by have := x.2; have := nPlaces_le (len : Int); omega
    obtain ⟨b, off, rfl, hb, hc⟩ : ∃ b off, a = some ⟨b, off, none⟩ ∧ b < w.heap.size ∧ ∀ j, j < len → w.cell? ⟨b, off + j, none⟩ = some (.int .u8 (bs[j]?.getD 0)) := by
      rcases hA.out with h | h
      · omega
      · exact h
    have c2 := hbx.cell
    have c3 : W.cell? ⟨b, off + x.1, none⟩ = some (.int .u8 (bs[x.1]?.getD 0)) := (hB.cell (p := ⟨b, off + x.1, none⟩) hb).trans (hc x.1 hx)
    have hx' : ((x.1 : Nat) : Int) < (len : Int) := by omega
    obtain ⟨hr1, hr2⟩ := hr.out x.1
    obtain ⟨y, hy⟩ : ∃ y, bs[x.1]?.getD 0 = y := ⟨_, rfl⟩
    rw [hy] at c3 hr1 hr2
    have HP := Lib.hid hvp
    have HY := Lib.hid hy
    clear hc hvp hy
    have hmx : Try.prog.follows .mixedOrders = true := by kernel_rfl
    gi_wp2
    refine region_round 9 (letsOut_inBlock letsOut_own) (by kernel_rfl) (by kernel_rfl) (by kernel_rfl) ?_
    simp only [List.take_succ_cons, List.take_zero, List.drop_succ_cons, List.drop_zero]
    repeat still_step
    try refine wpStill_nil ?_
    go_wp2
    have bd := orStep_bd v y x.1 hx8 hv0 hv1 hr1 hr2
    refine ⟨(KeepsOthers.setCell _ _ _).trans (KeepsOthers.drew _), trivial, ⟨orStep v y x.1, hv.set _, bd.1, bd.2, fun hp => ?_⟩, hbx.other (by omega) _, (hB.setCell (p := ⟨w.heap.size + 1, 0, none⟩) (by simp) _).drew⟩
    obtain ⟨hp1, hp2⟩ := prefix_snoc hp
    rw [HP.out hp1, ← HY.out, hp2]
    rw [hp2] at hx8
    rw [getN_step bs hr.out pre.length hx8]
    simp
  case done =>
    rintro D xs W hD rfl ⟨⟨v, hv, _, _, hvp⟩, hbx, hB⟩ hK
    have c1 := hv.cell
    have e := hvp (List.prefix_refl _)
    have He := Lib.hid e
    clear e hvp
    gi_wp2
    refine ⟨by simp, .inl ⟨_, _, rfl, run_takeDeferred hK, ?_⟩⟩
    refine ⟨_, results_tmp rfl _ _ _, ?_, hB.trans (belowK_b (w := w) (Nat.le_refl _) W D _ _ (by simp at hD; omega) hK rfl rfl)⟩
    rw [He.out]
    simp [getL, hlen]
  case stop =>
    rintro D c pre W _ _ h _
    exact h.elim

set_option maxRecDepth 100000 in
/-- **Get**: of any bytes. -/
theorem get_any (v : Value) (bs : List Int) (w : World) (hv : Sl .u8 w v bs) (hr : IsBytes bs) :
    Calls Try.prog 84 #[v] w fun e w' => e = .returned (.int .u64 (getL bs)) ∧ Below w.heap.size w w' := by
  obtain ⟨a, cap, rfl, h1, h2, h, _⟩ := hv
  unfold maxLen at h2
  refine get_at a _ cap bs rfl (by omega) w ?_ hr
  rcases h with rfl | h
  · exact .inl rfl
  · exact .inr h
end Go.Proofs.Ytfmgaakbfphpbaa

/- The bytes of a number, as the package le writes them. -/
namespace Go.Proofs.Ytfmgaakbfphpbaa
open Go.RowKit Go.Shelf
set_option linter.unusedVariables false

attribute [local go_sem] Oper.semAt_some

set_option maxRecDepth 100000 in
set_option maxHeartbeats 1000000 in
theorem put_none (n size : Int) (w : World) (hs : size < 1 ∨ 16 < size) :
    Calls Try.prog 71 #[.int .u64 n, .int .i64 size] w fun e w' => e = .returned (.slice none 0 0) ∧ Below w.heap.size w w' := by
  rcases hs with h | h
  · have h1 : size < 1 := h
    go_enter Try.func71, Try.ntmps71
    go_wp2
    go_ret
    exact ⟨rfl, (Below.refl _ w).alloc (Nat.le_refl _) _⟩
  · have h1 : 16 < size := h
    have h2 : ¬ size < 1 := by omega
    have h3 : decide (size < 1) = false := by simpa using h2
    go_enter Try.func71, Try.ntmps71
    go_wp2
    go_ret
    exact ⟨rfl, (Below.refl _ w).alloc (Nat.le_refl _) _⟩

set_option maxRecDepth 100000 in
set_option maxHeartbeats 2000000 in
theorem put_some (n : Int) (size : Nat) (w : World) (hs1 : 1 ≤ size) (hs2 : size ≤ 16) (hn0 : 0 ≤ n) (hn1 : n < 18446744073709551616) :
    Calls Try.prog 71 #[.int .u64 n, .int .i64 (size : Int)] w fun e w' => ∃ v, e = .returned v ∧ w'.ownsRow w.heap.size 5 1 v size ((putL n size).map (Value.int .u8)) ∧ Below w.heap.size w w' := by
  refine (callsIn_wide (n := 3)).1 ?_
  refine callsIn_of_wp_marks Try.func71 rfl trivial ?_ rfl
  simp only [Try.ntmps71, List.size_toArray, List.length_cons, List.length_nil, Nat.reduceAdd, Nat.reduceSub, Array.replicate_succ, Array.replicate_zero, List.push_toArray, List.append_toArray, List.nil_append, List.cons_append]
  obtain ⟨i0, hi, hz0, hz1, hz2⟩ := info_parts info_u8
  have g1 : ¬ ((size : Int) < 1) := by omega
  have g2 : ¬ (16 < (size : Int)) := by omega
  have g3 : decide ((size : Int) < 1) = false := by simpa using g1
  have g4 : decide (16 < (size : Int)) = false := by simpa using g2
  gi_wp2_with (first | (gi_at_make; refine wpListIn_make_full _ rfl _ _ 35 rfl w.heap.size 5 i0 (.int .u8 0) 1 Try.underlying35 hi hz0 hz1 .i64 .i64 _ _ size rfl rfl rfl rfl (by rw [hz2]; omega) (by unfold maxLen; omega) (by simp) ?_; intro w1 hown1 hgrow1) | (refine ⟨trivial, ?_⟩; gi_at_call 81; refine (places_in _ _ trivial rfl _ _).mono ?_; rintro e w' ⟨rfl, rfl⟩))
  have hz := hown1.lt _ rfl
  have hown2 : w1.ownsRow w.heap.size 5 1 (.slice (some ⟨w.heap.size + 1, 0, none⟩) size size) size (putF n size (m := nPlaces (size : Int)) []) := by
    rw [putF_nil]
    rw [show (Value.int IntKind.u8 0).cells = #[.int .u8 0] from rfl, toList_madeCells_one, Nat.mul_one, World.size_alloc] at hown1
    exact hown1
  rw [World.size_alloc] at hz
  have bN1 : Boxed w1 w.heap.size 131 (.int .u64 n) := (Boxed.new w 131 (.int .u64 n)).kept hgrow1 (by simp)
  have bS := Boxed.new w1 35 (.slice (some ⟨w.heap.size + 1, 0, none⟩) size size)
  have bP := Boxed.new (w1.alloc (.cells #[.slice (some ⟨w.heap.size + 1, 0, none⟩) size size] 35)) 3 (.int .i64 (size : Int))
  rw [World.size_alloc] at bP
  have hB1 : Below w.heap.size w w1 := ((Below.refl _ w).alloc (Nat.le_refl _) _).grown hgrow1 (by simp) (fun k e => by cases e)
  have hB0 : Below w.heap.size w ((w1.alloc (.cells #[.slice (some ⟨w.heap.size + 1, 0, none⟩) size size] 35)).alloc (.cells #[.int .i64 (size : Int)] 3)) := (hB1.alloc hB1.size _).alloc (by have := hB1.size; simp; omega) _
  clear hown1 hgrow1 g3 g4
  refine wpIn_rangeFunc_ownF (n := 3) rfl (by omega) (gf := 85) (lb := #[.pointer (some ⟨w1.heap.size + 1, 0, none⟩)]) rfl trivial (enters_of Try.func85 (by kernel_rfl) rfl)
    (places_stops Fence.wide 2 trivial rfl (by omega) (w1.heap.size + 1) (size : Int) _ (by simp) bP.cell) anyKp_t (fun _ _ _ _ _ _ _ _ => trivial) (Below.refl _ _) (fun _ => rfl)
    (fun pre W => (W.ownsRow w.heap.size 5 1 (.slice (some ⟨w.heap.size + 1, 0, none⟩) size size) size (putF n size pre) ∧ Boxed W w.heap.size 131 (.int .u64 n) ∧ Boxed W w1.heap.size 35 (.slice (some ⟨w.heap.size + 1, 0, none⟩) size size)) ∧ Below w.heap.size w W)
    (fun _ _ _ => False)
    (OwnFrom.and (OwnFrom.and ((ownsRow_own _ _ _ _ (fun _ => size) (fun pre => putF n size pre)).from _) (OwnFrom.and ((boxed_own _ _ (fun _ => _)).from _) ((boxed_own _ _ (fun _ => _)).from _))) (ownFrom_below (Nat.le_refl _) (by have := hB1.size; simp; omega)))
    (fun _ _ _ _ _ h _ _ => h.elim) ?h0 ?a1 ?assign ?body ?done ?stop
  case h0 => exact ⟨⟨(hown2.alloc _).alloc _, (bN1.alloc _).alloc _, bS.alloc _⟩, hB0⟩
  case assign =>
    intro l x W K hK
    dsimp only [encP]
    gi_wp2
    exact hK
  case body =>
    rintro l pre x W ⟨⟨hrow, hbn, hbs⟩, hB⟩ hlen
    have c1 := hbn.cell
    have c2 := hbs.cell
    have hx : x.1 < size := by have := x.2; unfold nPlaces at this; split at this <;> omega
    have hx8 : x.1 < 8 := by have := x.2; have := nPlaces_le (size : Int); omega
    have hx' : ((x.1 : Nat) : Int) < (size : Int) := by omega
    obtain ⟨z, c3⟩ : ∃ z, W.cell? ⟨w.heap.size + 1, x.1, none⟩ = some (.int .u8 z) := by
      rw [hrow.cellAt x.1 (by omega)]
      unfold putF
      simp [hx]
    have f3 := hrow.frozenAt x.1
    gi_wp2
    have hst := hrow.stored x.1 (.int .u8 (n / 2 ^ (8 * x.1) % 256))
    refine ⟨KeepsOthers.setCell _ _ _, trivial, ⟨?_, hbn.kept hst.2 (by simp), hbs.kept hst.2 (by have := hz.2; simp; omega)⟩, hB.setCell (p := ⟨w.heap.size + 1, x.1, none⟩) (by simp) _⟩
    rw [putF_snoc]
    exact hst.1
  case done =>
    rintro D xs W hD rfl ⟨⟨hrow, hbn, hbs⟩, hB⟩ hK
    have c2 := hbs.cell
    rw [putF_all] at hrow
    gi_wp2
    refine ⟨by simp, .inl ⟨_, _, rfl, run_takeDeferred hK, ?_⟩⟩
    refine ⟨_, results_tmp rfl _ _ _, _, rfl, ownsRow_putObj hrow _ hK rfl, hB.trans (belowK_b (w := w) (Nat.le_refl _) W D _ _ (by have := hB1.size; simp at hD; omega) hK rfl rfl)⟩
  case stop =>
    rintro D c pre W _ _ h _
    exact h.elim

set_option maxRecDepth 100000 in
/-- **Put**: any number as so many bytes. -/
theorem put_any (n size : Int) (w : World) (hn0 : 0 ≤ n) (hn1 : n < 18446744073709551616) :
    Calls Try.prog 71 #[.int .u64 n, .int .i64 size] w fun e w' => ∃ v, e = .returned v ∧ w'.ownsRow w.heap.size 5 1 v (putZ n size).length ((putZ n size).map (Value.int .u8)) ∧ Below w.heap.size w w' := by
  by_cases hs : size < 1 ∨ 16 < size
  · refine (put_none n size w hs).mono ?_
    rintro e w' ⟨rfl, hB⟩
    have e1 : putZ n size = [] := by unfold putZ; rw [if_pos hs]
    exact ⟨_, rfl, by rw [e1]; exact World.ownsRow_nil _ _ _ _, hB⟩
  · obtain ⟨m, rfl⟩ := Int.eq_ofNat_of_zero_le (show 0 ≤ size by omega)
    refine (put_some n m w (by omega) (by omega) hn0 hn1).mono ?_
    rintro e w' ⟨v, rfl, h, hB⟩
    have e1 : putZ n (m : Int) = putL n m := by unfold putZ; rw [if_neg hs, Int.toNat_natCast]
    exact ⟨v, rfl, by rw [e1]; simpa [putL_length] using h, hB⟩

end Go.Proofs.Ytfmgaakbfphpbaa

/- The helpers of the statements on le: two rows of bytes alike; the document's own answers. -/
namespace Go.Proofs.Ytfmgaakbfphpbaa
open Go.RowKit Go.Shelf
set_option linter.unusedVariables false

set_option maxRecDepth 100000 in
set_option maxHeartbeats 2000000 in
/-- **ref.Get**: by definition. -/
theorem refGet_at (a : Option Addr) (len cap : Nat) (bs : List Int) (hlen : bs.length = len) (hcap : len ≤ 9223372036854775807) (w : World) (hA : Lies w a len bs) (hr : IsBytes bs) :
    Calls Try.prog 78 #[.slice a len cap] w fun e w' => e = .returned (.int .u64 (getL bs)) ∧ w' = w := by
  have HL := Lib.hid hlen
  have hA := Lib.hid hA
  have hr := Lib.hid hr
  clear hlen
  go_enter Try.func78, Try.ntmps78
  go_wp2
  go_loop [3, 4] (fun v i => ∃ k : Nat, k ≤ nPlaces (len : Int) ∧ i = .int .i64 k ∧ v = .int .u64 (getN bs k)) (fun _ i => 8 - (intOf i).toNat)
  case atStart => exact ⟨0, Nat.zero_le _, rfl, rfl⟩
  case round =>
    obtain ⟨k, hk, rfl, rfl⟩ := hrel
    have hk8 := nPlaces_le (len : Int)
    by_cases hlt : k < nPlaces (len : Int)
    · have hl : k < len := by have := nPlaces_lt hlt; omega
      have hl8 : k < 8 := by omega
      have hl8' : (k : Int) < 8 := by omega
      obtain ⟨b, off, rfl, hb, hc⟩ : ∃ b off, a = some ⟨b, off, none⟩ ∧ b < w.heap.size ∧ ∀ j, j < len → w.cell? ⟨b, off + j, none⟩ = some (.int .u8 (bs[j]?.getD 0)) := by
        rcases hA.out with h | h
        · omega
        · exact h
      have c3 := hc k hl
      obtain ⟨r1, r2⟩ := hr.out k
      have HS := Lib.hid (getN_plus bs hr.out k hl8)
      obtain ⟨y, hy⟩ : ∃ y, bs[k]?.getD 0 = y := ⟨_, rfl⟩
      rw [hy] at c3 r1 r2 HS
      obtain ⟨v, hv⟩ : ∃ v, getN bs k = v := ⟨_, rfl⟩
      rw [hv] at HS ⊢
      clear hc hy hv
      go_wp2
      go_round
      case rel => exact ⟨k + 1, by omega, by go_num, by rw [HS.out]⟩
      case measure => simp [intOf]; omega
    · have hk' : k = nPlaces (len : Int) := by omega
      have hd : ¬ (k < len ∧ k < 8) := by
        rintro ⟨h1, h2⟩
        unfold nPlaces at hk'; split at hk' <;> omega
      have HK := Lib.hid hk'
      clear hk'
      by_cases h1 : k < len
      · have h2 : ¬ k < 8 := fun h => hd ⟨h1, h⟩
        have h3 : decide ((k : Int) < 8) = false := by simp; omega
        clear hd
        go_wp2
        go_ret
        refine ⟨?_, rfl⟩
        rw [HK.out]; simp [getL, HL.out]
      · have h3 : decide ((k : Int) < (len : Int)) = false := by simp; omega
        clear hd
        go_wp2
        go_ret
        refine ⟨?_, rfl⟩
        rw [HK.out]; simp [getL, HL.out]

set_option maxRecDepth 100000 in
theorem refGet_any (v : Value) (bs : List Int) (w : World) (hv : Sl .u8 w v bs) (hr : IsBytes bs) :
    Calls Try.prog 78 #[v] w fun e w' => e = .returned (.int .u64 (getL bs)) ∧ w' = w := by
  obtain ⟨a, cap, rfl, hl, h2⟩ := Lies.of_sl hv
  unfold maxLen at h2
  exact refGet_at a bs.length cap bs rfl (by omega) w hl hr

set_option maxRecDepth 100000 in
set_option maxHeartbeats 1000000 in
theorem refPut_none (n size : Int) (w : World) (hs : size < 1 ∨ 16 < size) :
    Calls Try.prog 56 #[.int .u64 n, .int .i64 size] w fun e w' => e = .returned (.slice none 0 0) ∧ w' = w := by
  rcases hs with h | h
  · have h1 : size < 1 := h
    go_enter Try.func56, Try.ntmps56
    go_wp2
    go_ret
    exact ⟨rfl, rfl⟩
  · have h1 : 16 < size := h
    have h2 : ¬ size < 1 := by omega
    have h3 : decide (size < 1) = false := by simpa using h2
    go_enter Try.func56, Try.ntmps56
    go_wp2
    go_ret
    exact ⟨rfl, rfl⟩

set_option maxRecDepth 100000 in
set_option maxHeartbeats 2000000 in
theorem refPut_some (n : Int) (size : Nat) (w : World) (hs1 : 1 ≤ size) (hs2 : size ≤ 16) (hn0 : 0 ≤ n) (hn1 : n < 18446744073709551616) :
    Calls Try.prog 56 #[.int .u64 n, .int .i64 (size : Int)] w fun e w' => ∃ v, e = .returned v ∧ w'.ownsRow w.heap.size 5 1 v size ((putL n size).map (Value.int .u8)) ∧ Below w.heap.size w w' := by
  obtain ⟨i0, hi, hz0, hz1, hz2⟩ := info_parts info_u8
  have g1 : ¬ ((size : Int) < 1) := by omega
  have g2 : ¬ (16 < (size : Int)) := by omega
  have g3 : decide ((size : Int) < 1) = false := by simpa using g1
  have g4 : decide (16 < (size : Int)) = false := by simpa using g2
  go_enter Try.func56, Try.ntmps56
  go_wp2_with (first | (at_make; refine wpList_make_full _ rfl _ _ 35 rfl w.heap.size 5 i0 (.int .u8 0) 1 Try.underlying35 hi hz0 hz1 .i64 .i64 _ _ size rfl rfl rfl rfl (by rw [hz2]; omega) (by unfold maxLen; omega) (by simp) ?_; intro w1 hown1 hgrow1))
  have hown2 : w1.ownsRow w.heap.size 5 1 (.slice (some ⟨w.heap.size, 0, none⟩) size size) size (putP n size 0) := by
    rw [putP_zero]
    rw [show (Value.int IntKind.u8 0).cells = #[.int .u8 0] from rfl, toList_madeCells_one, Nat.mul_one] at hown1
    exact hown1
  have hB1 : Below w.heap.size w w1 := (Below.refl _ w).grown hgrow1 (Nat.le_refl _) (fun k e => by cases e)
  have HO := Lib.hid hown2
  have HB := Lib.hid hB1
  clear hown1 hgrow1 hown2 hB1 g1 g2 g3 g4
  go_loopw [6] (fun i wr => ∃ k : Nat, k ≤ nPlaces (size : Int) ∧ i = .int .i64 k ∧ wr.ownsRow w.heap.size 5 1 (.slice (some ⟨w.heap.size, 0, none⟩) size size) size (putP n size k) ∧ Below w.heap.size w wr) (fun i _ => 8 - (intOf i).toNat)
  case atStart => exact ⟨0, Nat.zero_le _, rfl, HO.out, HB.out⟩
  case round =>
    obtain ⟨k, hk, rfl, hrow, hB⟩ := hrel
    have hk8 := nPlaces_le (size : Int)
    by_cases hlt : k < nPlaces (size : Int)
    · have hl : k < size := by have := nPlaces_lt hlt; omega
      have hl8 : k < 8 := by omega
      have hl8' : (k : Int) < 8 := by omega
      obtain ⟨z, c3⟩ : ∃ z, wr.cell? ⟨w.heap.size, k, none⟩ = some (.int .u8 z) := by
        rw [hrow.cellAt k (by omega)]
        unfold putP
        simp [hl]
      have f3 := hrow.frozenAt k
      have hst := hrow.stored k (.int .u8 (n / 2 ^ (8 * k) % 256))
      have HST := Lib.hid hst
      have HB1 := Lib.hid hB
      clear hrow hst hB
      go_wp2
      go_roundw
      case rel => exact ⟨k + 1, by omega, by go_num, by rw [putP_succ]; exact HST.out.1, HB1.out.setCell (p := ⟨w.heap.size, k, none⟩) (Nat.le_refl _) _⟩
      case measure => simp [intOf]; omega
    · have hk' : k = nPlaces (size : Int) := by omega
      have hd : ¬ (k < size ∧ k < 8) := by
        rintro ⟨h1, h2⟩
        unfold nPlaces at hk'; split at hk' <;> omega
      have hfin : wr.ownsRow w.heap.size 5 1 (.slice (some ⟨w.heap.size, 0, none⟩) size size) size ((putL n size).map (Value.int .u8)) := by
        rw [← putP_all, ← hk']; exact hrow
      have HF := Lib.hid hfin
      have HB1 := Lib.hid hB
      clear hk' hrow hB hfin
      by_cases h1 : k < size
      · have h2 : ¬ k < 8 := fun h => hd ⟨h1, h⟩
        have h3 : decide ((k : Int) < 8) = false := by simp; omega
        clear hd
        go_wp2
        go_ret
        exact ⟨_, rfl, HF.out, HB1.out⟩
      · have h3 : decide ((k : Int) < (size : Int)) = false := by simp; omega
        clear hd
        go_wp2
        go_ret
        exact ⟨_, rfl, HF.out, HB1.out⟩

set_option maxRecDepth 100000 in
/-- **ref.Put**: any number as so many bytes. -/
theorem refPut_any (n size : Int) (w : World) (hn0 : 0 ≤ n) (hn1 : n < 18446744073709551616) :
    Calls Try.prog 56 #[.int .u64 n, .int .i64 size] w fun e w' => ∃ v, e = .returned v ∧ w'.ownsRow w.heap.size 5 1 v (putZ n size).length ((putZ n size).map (Value.int .u8)) ∧ Below w.heap.size w w' := by
  by_cases hs : size < 1 ∨ 16 < size
  · refine (refPut_none n size w hs).mono ?_
    rintro e w' ⟨rfl, rfl⟩
    have e1 : putZ n size = [] := by unfold putZ; rw [if_pos hs]
    exact ⟨_, rfl, by rw [e1]; exact World.ownsRow_nil _ _ _ _, Below.refl _ _⟩
  · obtain ⟨m, rfl⟩ := Int.eq_ofNat_of_zero_le (show 0 ≤ size by omega)
    refine (refPut_some n m w (by omega) (by omega) hn0 hn1).mono ?_
    rintro e w' ⟨v, rfl, h, hB⟩
    have e1 : putZ n (m : Int) = putL n m := by unfold putZ; rw [if_neg hs, Int.toNat_natCast]
    exact ⟨v, rfl, by rw [e1]; simpa [putL_length] using h, hB⟩

end Go.Proofs.Ytfmgaakbfphpbaa

