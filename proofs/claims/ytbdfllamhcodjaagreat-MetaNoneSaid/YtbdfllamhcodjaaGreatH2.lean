/- The ground of the proofs, part 2. -/
import Derived.Test.YtbdfllamhcodjaaGreatH1
import Derived.LoopTactic
import Derived.Maps.AppendAt
import Derived.RangeFuncNested
import Derived.RangeFuncBound
import Derived.RangeFuncCalls
import Derived.RangeFuncLeaves
import Derived.Shelf.Abstract
import Derived.Shelf.RegionOpen
import Derived.WalkKit
import Derived.OwnWalkIn
import Derived.TacticsInMore
import Derived.LoopNIn
import Derived.LoopIn
import Derived.Test.YtbdfllamhcodjaaGreatProg
import Derived.RangeFuncBox
import Derived.Lib.Hide
import Derived.Laws.StructEq
import Derived.Lib.AppendZerosOnto
import Derived.Laws.OwnMore
/- What a rig's methods come to. -/
namespace Go.Proofs.YtbdfllamhcodjaaGreat
open Go.RowKit Go.Shelf
set_option linter.unusedVariables false
attribute [-simp] Tryz.isAgg60 Tryz.zeroValue60
attribute [-go_sem] loadVar storeVar
attribute [local go_sem] zero_blk build_blk loadVar_open storeVar_open

section
variable {rb p0 p1 : Nat} {S : RS} {w : World} {f : Nat → Prop}

theorem RigR.beside {w' : World} (h : RigR rb p0 p1 S w f) (hb : Below w.heap.size w w') : RigR rb p0 p1 S w' f := (RigR.isRes rb p0 p1 S).below h hb

set_option maxRecDepth 100000 in
set_option maxHeartbeats 1000000 in
/-- **Len**. -/
theorem RigR.len (h : RigR rb p0 p1 S w f) (dev : Int) :
    Calls Tryz.prog 94 #[.pointer (some ⟨rb, 0, none⟩), .int .i64 dev] w fun e w' => e = .returned (.int .i64 (S.len dev : Int)) ∧ Below w.heap.size w w' := by
  have H1 := Lib.hid (h.disk dev)
  have H := Lib.hid h
  clear h
  go_enter Tryz.func94, Tryz.ntmps94
  go_wp2_with fail
  refine H1.out.mono ?_
  rintro e x1 ⟨rfl, hb⟩
  have HB := Lib.hid hb
  have H2 := Lib.hid ((H.out.beside hb).lenOf dev)
  clear hb
  go_wp2_with fail
  refine H2.out.mono ?_
  rintro e w' ⟨rfl, rfl⟩
  go_wp2_with fail
  go_ret
  exact ⟨rfl, HB.out⟩

set_option maxRecDepth 100000 in
set_option maxHeartbeats 1000000 in
/-- **Done**. -/
theorem RigR.done (h : RigR rb p0 p1 S w f) :
    Calls Tryz.prog 40 #[.pointer (some ⟨rb, 0, none⟩)] w fun e w' => e = .returned (.int .i64 S.done) ∧ w' = w := by
  have c4 : w.cell? ⟨rb, 4, none⟩ = some (.int .i64 S.done) := h.cell 4
  clear h
  go_enter Tryz.func40, Tryz.ntmps40
  go_wp2
  go_ret
  exact ⟨rfl, rfl⟩

set_option maxRecDepth 100000 in
set_option maxHeartbeats 1000000 in
/-- **Arm**. -/
theorem RigR.arm (h : RigR rb p0 p1 S w f) (n : Int) :
    Calls Tryz.prog 36 #[.pointer (some ⟨rb, 0, none⟩), .int .i64 n] w fun e w' => e = .returned (.tuple #[]) ∧ ∃ f', RigR rb p0 p1 { S with fuse := n } w' f' ∧ Turn f f' w w' := by
  have c2 : w.cell? ⟨rb, 2, none⟩ = some (.int .i64 S.fuse) := h.cell 2
  have r2 := h.frozen 2
  have H := Lib.hid h
  clear h
  go_enter Tryz.func36, Tryz.ntmps36
  go_wp2
  go_end0
  obtain ⟨g1, g2⟩ := H.out.set (S.disks_isRes p0 p1) 2 (.int .i64 n)
  exact ⟨rfl, f, g1, g2⟩

set_option maxRecDepth 100000 in
set_option maxHeartbeats 1000000 in
/-- **Flush**. -/
theorem RigR.flush (h : RigR rb p0 p1 S w f) (hS : S.Fit) (dev : Int) :
    Calls Tryz.prog 103 #[.pointer (some ⟨rb, 0, none⟩), .int .i64 dev] w fun e w' => e = .returned (.int .i64 (S.flushE dev)) ∧ ∃ f', RigR rb p0 p1 (S.flush dev) w' f' ∧ Turn f f' w w' := by
  have H1 := Lib.hid (h.disk dev)
  have H := Lib.hid h
  have HS := Lib.hid hS
  clear h hS
  by_cases hd : dev = 0 ∨ dev = 1
  · obtain ⟨p, hp⟩ : ∃ p, dk p0 p1 dev = some ⟨p, 0, none⟩ := by rcases dk_cases p0 p1 dev with ⟨_, e⟩ | ⟨_, e⟩ | ⟨e0, e1, _⟩; exact ⟨_, e⟩; exact ⟨_, e⟩; exact absurd hd (by simp [e0, e1])
    have HP := Lib.hid hp
    rw [hp] at H1
    have HD := Lib.hid hd
    by_cases hok : S.ok = true
    · have hE : Hid (S.flushE dev = 0 ∧ S.flush dev = S.after.fl dev) := by refine (?_ : _ ∧ _); unfold RS.flushE RS.flush; rw [if_pos hd, if_pos hok, if_pos hd, if_pos hok]; exact ⟨rfl, rfl⟩
      have HK := Lib.hid hok
      clear hp hd hok
      go_enter Tryz.func103, Tryz.ntmps103
      go_wp2_with fail
      go_at_call 71
      refine H1.out.mono ?_
      rintro e x1 ⟨rfl, hb⟩
      have HB := Lib.hid hb
      have H2 := Lib.hid (passes_at rb p0 p1 S f x1 (H.out.beside hb) HS.out)
      rw [HK.out] at H2
      clear hb
      go_wp2_with fail
      go_at_call 73
      refine H2.out.mono ?_
      rintro e x2 ⟨rfl, f2, g1, g2⟩
      have H3 := Lib.hid (g1.flOf HD.out)
      rw [HP.out] at H3
      have HT := Lib.hid g2
      clear g1 g2
      go_wp2_with fail
      go_at_call 138
      refine H3.out.mono ?_
      rintro e x3 ⟨rfl, f3, g1, g2⟩
      have HR := Lib.hid g1
      have HU := Lib.hid g2
      clear g1 g2
      go_wp2_with fail
      go_ret
      rw [hE.out.1, hE.out.2]
      exact ⟨rfl, f3, HR.out, (Turn.of_below HB.out).trans (HT.out.trans HU.out)⟩
    · have hok : S.ok = false := by simpa using hok
      have hE : Hid (S.flushE dev = 14 ∧ S.flush dev = S.after) := by refine (?_ : _ ∧ _); unfold RS.flushE RS.flush; rw [if_pos hd, if_neg (by simp [hok]), if_pos hd, if_neg (by simp [hok])]; exact ⟨rfl, rfl⟩
      have HK := Lib.hid hok
      clear hp hd hok
      go_enter Tryz.func103, Tryz.ntmps103
      go_wp2_with fail
      go_at_call 71
      refine H1.out.mono ?_
      rintro e x1 ⟨rfl, hb⟩
      have HB := Lib.hid hb
      have H2 := Lib.hid (passes_at rb p0 p1 S f x1 (H.out.beside hb) HS.out)
      rw [HK.out] at H2
      clear hb
      go_wp2_with fail
      go_at_call 73
      refine H2.out.mono ?_
      rintro e x2 ⟨rfl, f2, g1, g2⟩
      have HR := Lib.hid g1
      have HT := Lib.hid g2
      clear g1 g2
      go_wp2_with fail
      go_ret
      rw [hE.out.1, hE.out.2]
      exact ⟨rfl, f2, HR.out, (Turn.of_below HB.out).trans HT.out⟩
  · have hp : dk p0 p1 dev = none := by unfold dk; rw [if_neg (fun h => hd (.inl h)), if_neg (fun h => hd (.inr h))]
    rw [hp] at H1
    have hE : Hid (S.flushE dev = 1 ∧ S.flush dev = S) := by refine (?_ : _ ∧ _); unfold RS.flushE RS.flush; rw [if_neg hd, if_neg hd]; exact ⟨rfl, rfl⟩
    clear hp hd
    go_enter Tryz.func103, Tryz.ntmps103
    go_wp2_with fail
    go_at_call 71
    refine H1.out.mono ?_
    rintro e x1 ⟨rfl, hb⟩
    have HB := Lib.hid hb
    clear hb
    go_wp2_with fail
    go_ret
    rw [hE.out.1, hE.out.2]
    exact ⟨rfl, f, H.out.beside HB.out, Turn.of_below HB.out⟩

set_option maxRecDepth 100000 in
set_option maxHeartbeats 1000000 in
/-- **Write**. -/
theorem RigR.write (h : RigR rb p0 p1 S w f) (hS : S.Fit) (hm : S.Few 255) (dev i : Int) {b : List Value} (hb : IsBlk b) :
    Calls Tryz.prog 23 #[.pointer (some ⟨rb, 0, none⟩), .int .i64 dev, .int .i64 i, .agg b.toArray] w fun e w' => e = .returned (.int .i64 (S.writeE dev i)) ∧ ∃ f', RigR rb p0 p1 (S.write dev i b) w' f' ∧ Turn f f' w w' := by
  obtain ⟨W, hW⟩ : ∃ W, w.alloc (.cells b.toArray 60) = W := ⟨_, rfl⟩
  have hB : Below w.heap.size w W := by rw [← hW]; exact (Below.refl _ w).alloc (Nat.le_refl _) _
  have K : Hid (W.heap[w.heap.size]? = some (.cells b.toArray 60 (0, 0))) := by rw [← hW]; exact heap_alloc_new w _
  have hlt : ∀ k, f k → k < w.heap.size := (RigR.isRes rb p0 p1 S).lt h
  have H := Lib.hid (h.beside hB)
  have H1 := Lib.hid (H.out.disk dev)
  have HB0 := Lib.hid hB
  have HS := Lib.hid hS
  have HM := Lib.hid hm
  have HBL := Lib.hid hb
  have HLT := Lib.hid hlt
  clear h hS hm hb hB hlt
  obtain ⟨p, hp⟩ : ∃ p, dk p0 p1 dev = p := ⟨_, rfl⟩
  have HP := Lib.hid hp
  rw [hp] at H1
  clear hp
  have H2 : Hid (∀ x : World, Below W.heap.size W x → Calls Tryz.prog 72 #[.pointer p, .int .i64 i] x fun e w' => e = .returned (.bool (S.has dev i)) ∧ w' = x) := fun x hx => by
    have := (H.out.beside hx).hasOf dev i
    rw [HP.out] at this
    exact this
  by_cases hh : S.has dev i = true
  · have HH := Lib.hid hh
    rw [hh] at H2
    by_cases hok : S.ok = true
    · have hE : Hid (S.writeE dev i = 0 ∧ S.write dev i b = S.after.put dev i.toNat b) := by refine (?_ : _ ∧ _); unfold RS.writeE RS.write; rw [if_pos hh, if_pos hok, if_pos hh, if_pos hok]; exact ⟨rfl, rfl⟩
      have HK := Lib.hid hok
      clear hh hok
      go_enter Tryz.func23, Tryz.ntmps23
      go_wp2_with (with_reducible (rw [hW]; clear hW))
      go_at_call 71
      refine H1.out.mono ?_
      rintro e x1 ⟨rfl, hb⟩
      have HB := Lib.hid hb
      clear hb
      go_wp2_with fail
      go_at_call 72
      refine (H2.out x1 HB.out).mono ?_
      rintro e w' ⟨rfl, hx⟩
      obtain rfl := hx.symm
      clear hx
      have H3 := Lib.hid (passes_at rb p0 p1 S f x1 (H.out.beside HB.out) HS.out)
      rw [HK.out] at H3
      go_wp2_with fail
      go_at_call 73
      refine H3.out.mono ?_
      rintro e x2 ⟨rfl, f2, g1, g2⟩
      have L2 : (loadVar 60 ⟨w.heap.size, 0, none⟩).run Tryz.prog x2 = .ok (.agg b.toArray) x2 := by
        have hz := (Array.getElem?_eq_some_iff.1 K.out).1
        refine load_at ?_ HBL.out
        rw [g2.out _ (Nat.lt_of_lt_of_le hz HB.out.size) (fun hf => by have := HLT.out _ hf; omega)]
        exact (HB.out.block _ hz).trans K.out
      have H4 : Hid (Calls Tryz.prog 74 #[.pointer p, .int .i64 i, .agg b.toArray] x2 fun e w' => e = .returned (.int .i64 0) ∧ ∃ f', RigR rb p0 p1 (S.after.put dev i.toNat b) w' f' ∧ Turn f2 f' x2 w') := by
        have := g1.putOf (dev := dev) (i := i) (b := b) (by unfold RS.has; rw [S.after_len]; exact HH.out) HBL.out (RS.after_few HM.out)
        rw [HP.out] at this
        exact this
      have HT := Lib.hid g2
      clear g1 g2
      go_wp2_with fail
      go_at_call 74
      refine H4.out.mono ?_
      rintro e x3 ⟨rfl, f3, g1, g2⟩
      have HR := Lib.hid g1
      have HU := Lib.hid g2
      clear g1 g2 L2
      go_wp2_with fail
      go_ret
      rw [hE.out.1, hE.out.2]
      exact ⟨rfl, f3, HR.out, (Turn.of_below (HB0.out.trans (HB.out.mono HB0.out.size))).trans (HT.out.trans HU.out)⟩
    · have hok : S.ok = false := by simpa using hok
      have hE : Hid (S.writeE dev i = 14 ∧ S.write dev i b = S.after) := by refine (?_ : _ ∧ _); unfold RS.writeE RS.write; rw [if_pos hh, if_neg (by simp [hok]), if_pos hh, if_neg (by simp [hok])]; exact ⟨rfl, rfl⟩
      have HK := Lib.hid hok
      clear hh hok
      go_enter Tryz.func23, Tryz.ntmps23
      go_wp2_with (with_reducible (rw [hW]; clear hW))
      go_at_call 71
      refine H1.out.mono ?_
      rintro e x1 ⟨rfl, hb⟩
      have HB := Lib.hid hb
      clear hb
      go_wp2_with fail
      go_at_call 72
      refine (H2.out x1 HB.out).mono ?_
      rintro e w' ⟨rfl, hx⟩
      obtain rfl := hx.symm
      clear hx
      have H3 := Lib.hid (passes_at rb p0 p1 S f x1 (H.out.beside HB.out) HS.out)
      rw [HK.out] at H3
      go_wp2_with fail
      go_at_call 73
      refine H3.out.mono ?_
      rintro e x2 ⟨rfl, f2, g1, g2⟩
      have HR := Lib.hid g1
      have HT := Lib.hid g2
      clear g1 g2
      go_wp2_with fail
      go_ret
      rw [hE.out.1, hE.out.2]
      exact ⟨rfl, f2, HR.out, (Turn.of_below (HB0.out.trans (HB.out.mono HB0.out.size))).trans HT.out⟩
  · have hh : S.has dev i = false := by simpa using hh
    rw [hh] at H2
    have hE : Hid (S.writeE dev i = 1 ∧ S.write dev i b = S) := by refine (?_ : _ ∧ _); unfold RS.writeE RS.write; rw [if_neg (by simp [hh]), if_neg (by simp [hh])]; exact ⟨rfl, rfl⟩
    clear hh
    go_enter Tryz.func23, Tryz.ntmps23
    go_wp2_with (with_reducible (rw [hW]; clear hW))
    go_at_call 71
    refine H1.out.mono ?_
    rintro e x1 ⟨rfl, hb⟩
    have HB := Lib.hid hb
    clear hb
    go_wp2_with fail
    go_at_call 72
    refine (H2.out x1 HB.out).mono ?_
    rintro e w' ⟨rfl, hx⟩
    obtain rfl := hx.symm
    clear hx
    go_wp2_with fail
    go_ret
    rw [hE.out.1, hE.out.2]
    exact ⟨rfl, f, H.out.beside HB.out, Turn.of_below (HB0.out.trans (HB.out.mono HB0.out.size))⟩
end
end Go.Proofs.YtbdfllamhcodjaaGreat

/- Read, New; a nil rig. -/
namespace Go.Proofs.YtbdfllamhcodjaaGreat
open Go.RowKit Go.Shelf
set_option linter.unusedVariables false
attribute [-simp] Tryz.isAgg60 Tryz.zeroValue60
attribute [-go_sem] loadVar storeVar
attribute [local go_sem] zero_blk build_blk loadVar_open storeVar_open

set_option maxRecDepth 100000 in
/-- A result's own cell. -/
theorem own_cell {w x : World} {u : List Value} {z : Array Value} (hw : x.heap[w.heap.size]? = some (.cells z 60 (0, 0))) (hz : z.size = 64) (hb : Below w.heap.size w x) (hu : IsBlk u) :
    ∃ x', (storeVar 60 ⟨w.heap.size, 0, none⟩ (.agg u.toArray)).run Tryz.prog x = .ok () x' ∧ (loadVar 60 ⟨w.heap.size, 0, none⟩).run Tryz.prog x' = .ok (.agg u.toArray) x' ∧ Below w.heap.size w x' := by
  have ht : x.there w.heap.size 0 64 := fun j hj => by
    have hcell := cell_of_row x w.heap.size (0 + j) z _ _ hw
    refine ⟨?_, ?_⟩
    · rw [hcell]; simp [hz]; omega
    · simp [World.frozen?, hw]
  have hs := store_blk ht hu
  refine ⟨_, hs, load_blk (World.rangeAt_setCells_same x _ 0 u (by rw [hu.length]; exact ht)) hu.length, ?_⟩
  exact hb.trans (below_setCells (Nat.le_refl _) _ _ _)

section
variable {rb p0 p1 : Nat} {S : RS} {w : World} {f : Nat → Prop}

set_option maxRecDepth 100000 in
set_option maxHeartbeats 1000000 in
/-- **Read**. -/
theorem RigR.read (h : RigR rb p0 p1 S w f) (dev i : Int) :
    Calls Tryz.prog 33 #[.pointer (some ⟨rb, 0, none⟩), .int .i64 dev, .int .i64 i] w fun e w' => e = .returned (.tuple #[.agg (S.read dev i).toArray, .int .i64 (S.readE dev i)]) ∧ Below w.heap.size w w' := by
  obtain ⟨W, hW⟩ : ∃ W, w.alloc (.cells zarr 60) = W := ⟨_, rfl⟩
  have hB : Below w.heap.size w W := by rw [← hW]; exact (Below.refl _ w).alloc (Nat.le_refl _) _
  have K : Hid (W.heap[w.heap.size]? = some (.cells zarr 60 (0, 0)) ∧ w.heap.size < W.heap.size) := by rw [← hW]; exact ⟨heap_alloc_new w _, by simp⟩
  have H := Lib.hid (h.beside hB)
  have H1 := Lib.hid (H.out.disk dev)
  have HB0 := Lib.hid hB
  clear h hB
  obtain ⟨p, hp⟩ : ∃ p, dk p0 p1 dev = p := ⟨_, rfl⟩
  have HP := Lib.hid hp
  rw [hp] at H1
  clear hp
  have H2 : Hid (∀ x : World, Below W.heap.size W x → Calls Tryz.prog 72 #[.pointer p, .int .i64 i] x fun e w' => e = .returned (.bool (S.has dev i)) ∧ w' = x) := fun x hx => by
    have := (H.out.beside hx).hasOf dev i
    rw [HP.out] at this
    exact this
  have SZ : Hid (∀ x u, Below W.heap.size W x → IsBlk u → ∃ x', (storeVar 60 ⟨w.heap.size, 0, none⟩ (.agg u.toArray)).run Tryz.prog x = .ok () x' ∧ (loadVar 60 ⟨w.heap.size, 0, none⟩).run Tryz.prog x' = .ok (.agg u.toArray) x' ∧ Below w.heap.size w x') := fun x u hx hu =>
    own_cell ((hx.block _ K.out.2).trans K.out.1) zarr_size (HB0.out.trans (hx.mono HB0.out.size)) hu
  by_cases hh : S.has dev i = true
  · have HH := Lib.hid hh
    rw [hh] at H2
    cases hdw : S.down with
    | true =>
      have hE : Hid (S.readE dev i = 14 ∧ S.read dev i = fillB 0) := by refine (?_ : _ ∧ _); unfold RS.readE RS.read; rw [if_pos hh, if_pos hdw, if_neg (by simp [hdw])]; exact ⟨rfl, rfl⟩
      have HD := Lib.hid hdw
      clear hh hdw
      go_enter Tryz.func33, Tryz.ntmps33
      go_wp2_with (with_reducible (rw [hW]; clear hW))
      go_at_call 71
      refine H1.out.mono ?_
      rintro e x1 ⟨rfl, hb⟩
      have HB := Lib.hid hb
      clear hb
      go_wp2_with fail
      go_at_call 72
      refine (H2.out x1 HB.out).mono ?_
      rintro e w' ⟨rfl, hx⟩
      obtain rfl := hx.symm
      clear hx
      have c3 : x1.cell? ⟨rb, 3, none⟩ = some (.bool true) := by rw [← HD.out]; exact (H.out.beside HB.out).cell 3
      obtain ⟨x2, st, ld, hb2⟩ := SZ.out x1 (fillB 0) HB.out (isBlk_fill 0)
      have st' : (storeVar 60 ⟨w.heap.size, 0, none⟩ (.agg zarr)).run Tryz.prog x1 = .ok () x2 := st
      have HB2 := Lib.hid hb2
      clear st hb2
      go_wp2_with fail
      rw [hE.out.1, hE.out.2]
      exact bodyPost_ret (results_cell2 rfl rfl ld) rfl ⟨rfl, HB2.out⟩
    | false =>
      have hE : Hid (S.readE dev i = 0 ∧ S.read dev i = S.look dev i.toNat) := by refine (?_ : _ ∧ _); unfold RS.readE RS.read; rw [if_pos hh, if_neg (by simp [hdw]), if_pos ⟨hh, hdw⟩]; exact ⟨rfl, rfl⟩
      have HD := Lib.hid hdw
      obtain ⟨u, hu⟩ : ∃ u, S.look dev i.toNat = u := ⟨_, rfl⟩
      have HU : Hid (IsBlk u) := by rw [← hu]; exact H.out.okLook HH.out
      have H3 : Hid (∀ x : World, Below W.heap.size W x → Calls Tryz.prog 87 #[.pointer p, .int .i64 i] x fun e w' => e = .returned (.tuple #[.agg u.toArray, .int .i64 0]) ∧ Below x.heap.size x w') := fun x hx => by
        have := (H.out.beside hx).readOf HH.out
        rw [HP.out, hu] at this
        exact this
      rw [hu] at hE
      clear hh hdw hu
      go_enter Tryz.func33, Tryz.ntmps33
      go_wp2_with (with_reducible (rw [hW]; clear hW))
      go_at_call 71
      refine H1.out.mono ?_
      rintro e x1 ⟨rfl, hb⟩
      have HB := Lib.hid hb
      clear hb
      go_wp2_with fail
      go_at_call 72
      refine (H2.out x1 HB.out).mono ?_
      rintro e w' ⟨rfl, hx⟩
      obtain rfl := hx.symm
      clear hx
      have c3 : x1.cell? ⟨rb, 3, none⟩ = some (.bool false) := by rw [← HD.out]; exact (H.out.beside HB.out).cell 3
      go_wp2_with fail
      go_at_call 87
      refine (H3.out x1 HB.out).mono ?_
      rintro e x2 ⟨rfl, hb⟩
      obtain ⟨x3, st, ld, hb2⟩ := SZ.out x2 u (HB.out.trans (hb.mono HB.out.size)) HU.out
      have HB2 := Lib.hid hb2
      clear hb hb2 c3
      go_wp2_with fail
      rw [hE.out.1, hE.out.2]
      exact bodyPost_ret (results_cell2 rfl rfl ld) rfl ⟨rfl, HB2.out⟩
  · have hh : S.has dev i = false := by simpa using hh
    rw [hh] at H2
    have hE : Hid (S.readE dev i = 1 ∧ S.read dev i = fillB 0) := by refine (?_ : _ ∧ _); unfold RS.readE RS.read; rw [if_neg (by simp [hh]), if_neg (by simp [hh])]; exact ⟨rfl, rfl⟩
    clear hh
    go_enter Tryz.func33, Tryz.ntmps33
    go_wp2_with (with_reducible (rw [hW]; clear hW))
    go_at_call 71
    refine H1.out.mono ?_
    rintro e x1 ⟨rfl, hb⟩
    have HB := Lib.hid hb
    clear hb
    go_wp2_with fail
    go_at_call 72
    refine (H2.out x1 HB.out).mono ?_
    rintro e w' ⟨rfl, hx⟩
    obtain rfl := hx.symm
    clear hx
    obtain ⟨x2, st, ld, hb2⟩ := SZ.out x1 (fillB 0) HB.out (isBlk_fill 0)
    have st' : (storeVar 60 ⟨w.heap.size, 0, none⟩ (.agg zarr)).run Tryz.prog x1 = .ok () x2 := st
    have HB2 := Lib.hid hb2
    clear st hb2
    go_wp2_with fail
    rw [hE.out.1, hE.out.2]
    exact bodyPost_ret (results_cell2 rfl rfl ld) rfl ⟨rfl, HB2.out⟩
end

/-- A rig that was just made. -/
def newS (n0 n1 : Nat) : RS := ⟨n0, n1, fun _ => zsec, fun _ => zsec, -1, false, 0⟩

set_option maxRecDepth 100000 in
set_option maxHeartbeats 1000000 in
/-- **New**. -/
theorem rigNew_yes (n0 n1 : Nat) (w : World) (h01 : 1 ≤ n0) (h02 : n0 ≤ 4096) (h11 : 1 ≤ n1) (h12 : n1 ≤ 4096) :
    Calls Tryz.prog 13 #[.int .i64 (n0 : Int), .int .i64 (n1 : Int)] w fun e w' => ∃ rb p0 p1, e = .returned (.tuple #[.pointer (some ⟨rb, 0, none⟩), .int .i64 0]) ∧ (∃ f, RigR rb p0 p1 (newS n0 n1) w' f ∧ ∀ k, f k → w.heap.size ≤ k) ∧ Below w.heap.size w w' := by
  have H0 := Lib.hid (new_yes n0 w h01 h02)
  have H1 := Lib.hid (fun x => new_yes n1 x h11 h12)
  have HP : Hid (0 < n0 ∧ 0 < n1) := ⟨by omega, by omega⟩
  clear h01 h02 h11 h12
  go_enter Tryz.func13, Tryz.ntmps13
  go_wp2_with fail
  go_at_call 42
  refine H0.out.mono ?_
  rintro e x1 ⟨p0, rfl, ⟨f0, g1, g2⟩, g3⟩
  have A1 := Lib.hid g1
  have A2 := Lib.hid g2
  have A3 := Lib.hid g3
  clear g1 g2 g3
  go_wp2_with fail
  go_at_call 42
  refine (H1.out x1).mono ?_
  rintro e x2 ⟨p1, rfl, ⟨f1, g1, g2⟩, g3⟩
  have B1 := Lib.hid g1
  have B2 := Lib.hid g2
  have B3 := Lib.hid g3
  clear g1 g2 g3
  go_wp2_with fail
  go_ret2
  have hA : ∀ k, f0 k → k < x1.heap.size := A1.out.lt HP.out.1
  have hB : ∀ k, f1 k → k < x2.heap.size := B1.out.lt HP.out.2
  have hz1 := A3.out.size
  have hz2 := B3.out.size
  have hal : ∀ o : Obj, Below x2.heap.size x2 (x2.alloc o) := fun o => (Below.refl _ x2).alloc (Nat.le_refl _) o
  refine ⟨_, p0, p1, rfl, ⟨_, ⟨fun k => k = x2.heap.size, fun k => f0 k ∨ f1 k, ⟨heap_alloc_new x2 _, rfl⟩, ⟨f0, f1, ⟨(A1.out.below HP.out.1 B3.out).below HP.out.1 (hal _), HP.out.1⟩, ⟨B1.out.below HP.out.2 (hal _), HP.out.2⟩, fun k a b => ?_, rfl⟩, fun k a b => ?_, rfl⟩, fun k hk => ?_⟩, ?_⟩
  · have := hA k a; have := B2.out k b; omega
  · subst a
    rcases b with b | b
    · have := hA _ b; omega
    · have := hB _ b; omega
  · rcases hk with rfl | hk | hk
    · omega
    · exact A2.out k hk
    · have := B2.out k hk; omega
  · exact (A3.out.trans (B3.out.mono A3.out.size)).trans ((hal _).mono (by omega))

end Go.Proofs.YtbdfllamhcodjaaGreat

/- Crash. -/
namespace Go.Proofs.YtbdfllamhcodjaaGreat
open Go.RowKit Go.Shelf
set_option linter.unusedVariables false
attribute [-simp] Tryz.isAgg60 Tryz.zeroValue60
attribute [-go_sem] loadVar storeVar
attribute [local go_sem] zero_blk build_blk loadVar_open storeVar_open
attribute [local go_sem] Oper.semAt_some

theorem Sl.stay {k : IntKind} {w w' : World} {v : Value} {bs : List Int} (h : Sl k w v bs) (hs : w.heap.size ≤ w'.heap.size) (hb : bs ≠ [] → ∀ b off len cap, v = .slice (some ⟨b, off, none⟩) len cap → b < w.heap.size → w'.heap[b]? = w.heap[b]?) : Sl k w' v bs := by
  obtain ⟨a, cap, rfl, h1, h2, h3, h4⟩ := h
  refine ⟨a, cap, rfl, h1, h2, ?_, h4⟩
  rcases h3 with h3 | ⟨b, off, rfl, h5, h6⟩
  · exact .inl h3
  · by_cases hn : bs = []
    · exact .inl hn
    · exact .inr ⟨b, off, rfl, Nat.lt_of_lt_of_le h5 hs, fun j hj => (World.cell?_of_block (a := ⟨b, off + j, none⟩) (hb hn b off _ _ rfl h5)).trans (h6 j hj)⟩
theorem Sl.lt_of {k : IntKind} {w : World} {v : Value} {bs : List Int} (h : Sl k w v bs) (hn : bs ≠ []) {b off len cap : Nat} (e : v = .slice (some ⟨b, off, none⟩) len cap) : b < w.heap.size := by
  obtain ⟨a, cap', rfl, _, _, h3, _⟩ := h
  rcases h3 with h3 | ⟨b', off', rfl, h5, _⟩
  · exact absurd h3 hn
  · simp only [Value.slice.injEq, Option.some.injEq, Addr.mk.injEq] at e
    rw [← e.1.1]; exact h5

set_option maxRecDepth 100000 in
theorem Sep.firstC {P P' Q : Res} {w : World} {f : Nat → Prop} {g : FuncId} {args : Array Value} {R : Ending → World → Prop} (hP : IsRes P) (hQ : IsRes Q) (h : Sep P Q w f)
    (hc : ∀ f1, P w f1 → (∀ k, f1 k → f k) → Calls Tryz.prog g args w fun e w' => R e w' ∧ ∃ f1', P' w' f1' ∧ Turn f1 f1' w w') : Calls Tryz.prog g args w fun e w' => R e w' ∧ ∃ f', Sep P' Q w' f' ∧ Turn f f' w w' := by
  obtain ⟨f1, f2, h1, h2, h3, rfl⟩ := h
  exact (hc f1 h1 (fun k hk => .inl hk)).mono fun e w' ⟨hr, h⟩ => ⟨hr, Turn.first hP hQ h1 h2 h3 h⟩
set_option maxRecDepth 100000 in
theorem Sep.secondC {P Q Q' : Res} {w : World} {f : Nat → Prop} {g : FuncId} {args : Array Value} {R : Ending → World → Prop} (hP : IsRes P) (hQ : IsRes Q) (h : Sep P Q w f)
    (hc : ∀ f2, Q w f2 → (∀ k, f2 k → f k) → Calls Tryz.prog g args w fun e w' => R e w' ∧ ∃ f2', Q' w' f2' ∧ Turn f2 f2' w w') : Calls Tryz.prog g args w fun e w' => R e w' ∧ ∃ f', Sep P Q' w' f' ∧ Turn f f' w w' :=
  (Sep.firstC hQ hP h.swap hc).mono fun e w' ⟨hr, f', h1, h2⟩ => ⟨hr, f', h1.swap, h2⟩

/-- One disk crashes. -/
noncomputable def RS.cr0 (S : RS) (b : List Int) : RS := { S with D0 := settled S.D0 (crashG S.D0 b) (looseTo S.D0 S.n0) }
noncomputable def RS.cr1 (S : RS) (b : List Int) : RS := { S with D1 := settled S.D1 (crashG S.D1 b) (looseTo S.D1 S.n1) }
section
variable {rb p0 p1 : Nat} {S : RS} {w : World} {f : Nat → Prop} {v : Value} {b : List Int}
set_option maxRecDepth 100000 in
theorem RigR.crash0 (h : RigR rb p0 p1 S w f) (hv : Sl .u8 w v b) (hB : IsBytes b) (hc : b ≠ [] → Clear f v) (hm : S.Few 1000000) :
    Calls Tryz.prog 69 #[.pointer (some ⟨p0, 0, none⟩), v] w fun e w' => e = .returned (.tuple #[]) ∧ ∃ f', RigR rb p0 p1 (S.cr0 b) w' f' ∧ Turn f f' w w' := by
  refine Sep.secondC (R := fun e _ => e = .returned (.tuple #[])) (RowR.isRes _ _ _) (S.disks_isRes p0 p1) h (Q' := (S.cr0 b).disks p0 p1) fun f2 h2 hs2 => ?_
  refine Sep.firstC (R := fun e _ => e = .returned (.tuple #[])) (DskR.isRes _ _ _) (DskR.isRes _ _ _) h2 fun f3 h3 hs3 => ?_
  refine (crash_at p0 S.n0 f3 S.D0 v b w h3.1 h3.2 hv hB (fun hn x off len cap e hf => hc hn x off len cap e (hs2 _ (hs3 _ hf))) hm.1).mono ?_
  rintro e w' ⟨rfl, f', g1, g2⟩
  exact ⟨rfl, f', ⟨g1, h3.2⟩, g2⟩
set_option maxRecDepth 100000 in
theorem RigR.crash1 (h : RigR rb p0 p1 S w f) (hv : Sl .u8 w v b) (hB : IsBytes b) (hc : b ≠ [] → Clear f v) (hm : S.Few 1000000) :
    Calls Tryz.prog 69 #[.pointer (some ⟨p1, 0, none⟩), v] w fun e w' => e = .returned (.tuple #[]) ∧ ∃ f', RigR rb p0 p1 (S.cr1 b) w' f' ∧ Turn f f' w w' := by
  refine Sep.secondC (R := fun e _ => e = .returned (.tuple #[])) (RowR.isRes _ _ _) (S.disks_isRes p0 p1) h (Q' := (S.cr1 b).disks p0 p1) fun f2 h2 hs2 => ?_
  refine Sep.secondC (R := fun e _ => e = .returned (.tuple #[])) (DskR.isRes _ _ _) (DskR.isRes _ _ _) h2 fun f3 h3 hs3 => ?_
  refine (crash_at p1 S.n1 f3 S.D1 v b w h3.1 h3.2 hv hB (fun hn x off len cap e hf => hc hn x off len cap e (hs2 _ (hs3 _ hf))) hm.2).mono ?_
  rintro e w' ⟨rfl, f', g1, g2⟩
  exact ⟨rfl, f', ⟨g1, h3.2⟩, g2⟩
end

/-- What has come. -/
noncomputable def RS.cr (S : RS) (b0 b1 : List Int) : List Nat → RS
  | [] => S
  | [_] => S.cr0 b0
  | _ => (S.cr0 b0).cr1 b1
theorem RS.cr0_few {S : RS} {m : Nat} (h : S.Few m) (b : List Int) : (S.cr0 b).Few m := ⟨fun i hi => by
  show (settled S.D0 _ _ i).vs.length ≤ m
  rw [settled_none S.D0 _ S.n0 i hi]; exact Nat.zero_le _, h.2⟩
/-- Between two rounds. -/
def CrashI (w : World) (f : Nat → Prop) (rb p0 p1 : Nat) (S : RS) (b0 b1 : List Int) (pre : List Nat) (W : World) : Prop := ∃ f', RigR rb p0 p1 (S.cr b0 b1 pre) W f' ∧ Turn f f' w W

theorem crashI_own (w : World) (f : Nat → Prop) (rb p0 p1 : Nat) (S : RS) (b0 b1 : List Int) (N : Nat) (hN : w.heap.size ≤ N) : OwnFrom N (CrashI w f rb p0 p1 S b0 b1) := by
  rintro pre W W' row ⟨f', h1, h2⟩ hg hr
  exact ⟨f', (RigR.isRes _ _ _ _).grown h1 hg (fun r e => (hr r e).2), h2.kept hg (fun r e => Nat.le_trans hN (hr r e).1)⟩

theorem row_own {β : Type} (B : Nat) (t : TypeId) (a : Array Value) (N : Nat) : OwnFrom (β := β) N (fun _ W => W.heap[B]? = some (.cells a t (0, 0))) := by
  rintro s W W' row h hg hr
  refine (hg.block B (Array.getElem?_eq_some_iff.1 h).1 fun e => ?_).trans h
  obtain ⟨_, o, ho, hc⟩ := hr B e.symm
  rw [h] at ho; cases ho; cases hc

set_option maxRecDepth 100000 in
set_option maxHeartbeats 4000000 in
/-- **Crash**. -/
theorem RigR.crash {rb p0 p1 : Nat} {S : RS} {w : World} {f : Nat → Prop} {v0 v1 : Value} {b0 b1 : List Int} (h : RigR rb p0 p1 S w f) (hv0 : Sl .u8 w v0 b0) (hv1 : Sl .u8 w v1 b1) (hB0 : IsBytes b0) (hB1 : IsBytes b1) (hc0 : b0 ≠ [] → Clear f v0) (hc1 : b1 ≠ [] → Clear f v1) (hm : S.Few 1000000) :
    Calls Tryz.prog 21 #[.pointer (some ⟨rb, 0, none⟩), v0, v1] w fun e w' => e = .returned (.tuple #[]) ∧ ∃ f', RigR rb p0 p1 (S.crash b0 b1) w' f' ∧ Turn f f' w w' := by
  obtain ⟨a0, cap0, rfl, -, -, -, -⟩ := id hv0
  obtain ⟨a1, cap1, rfl, -, -, -, -⟩ := id hv1
  obtain ⟨L0, hL0⟩ : ∃ L, b0.length = L := ⟨_, rfl⟩
  obtain ⟨L1, hL1⟩ : ∃ L, b1.length = L := ⟨_, rfl⟩
  rw [hL0] at hv0 hc0 ⊢
  rw [hL1] at hv1 hc1 ⊢
  have H := Lib.hid h
  have HV0 := Lib.hid hv0
  have HV1 := Lib.hid hv1
  have HB0 := Lib.hid hB0
  have HB1 := Lib.hid hB1
  have HC0 := Lib.hid hc0
  have HC1 := Lib.hid hc1
  have HM := Lib.hid hm
  clear h hv0 hv1 hB0 hB1 hc0 hc1 hm hL0 hL1
  refine (callsIn_wide (n := 3)).1 ?_
  refine callsIn_of_wp_marks Tryz.func21 rfl trivial ?_ rfl
  simp only [Tryz.ntmps21, List.size_toArray, List.length_cons, List.length_nil, Nat.reduceAdd, Nat.reduceSub, Array.replicate_succ, Array.replicate_zero, List.push_toArray, List.append_toArray, List.nil_append, List.cons_append]
  gi_wp2_with (refine ⟨trivial, ?_⟩; gi_at_call 68; refine (disks_in _ _ trivial rfl _ _).mono ?_; rintro e w' ⟨rfl, rfl⟩)
  obtain ⟨W0, hW0⟩ : ∃ W0, (w.alloc (.cells #[.slice a0 L0 cap0, .slice a1 L1 cap1] 142)).alloc (.cells #[.pointer (some ⟨rb, 0, none⟩)] 30) = W0 := ⟨_, rfl⟩
  have br : W0.heap[w.heap.size]? = some (.cells #[.slice a0 L0 cap0, .slice a1 L1 cap1] 142 (0, 0)) := by rw [← hW0, Below.heap_alloc _ _ _ (by simp)]; exact heap_alloc_new w _
  have bd : Boxed W0 (w.heap.size + 1) 30 (.pointer (some ⟨rb, 0, none⟩)) := by
    rw [← hW0]
    have := Boxed.new (w.alloc (.cells #[.slice a0 L0 cap0, .slice a1 L1 cap1] 142)) 30 (.pointer (some ⟨rb, 0, none⟩))
    rwa [World.size_alloc] at this
  have hB0 : Below w.heap.size w W0 := by rw [← hW0]; exact ((Below.refl _ w).alloc (Nat.le_refl _) _).alloc (by simp) _
  have hsz0 : W0.heap.size = w.heap.size + 2 := by rw [← hW0]; simp
  rw [hW0]
  clear hW0
  have P0 : CrashI W0 f rb p0 p1 S b0 b1 [] W0 := ⟨f, H.out.beside hB0, Turn.refl _ _⟩
  have HF : Hid (∀ k, f k → k < w.heap.size) := (RigR.isRes rb p0 p1 S).lt H.out
  have HSZ := Lib.hid hsz0
  have HBZ := Lib.hid hB0
  -- what the two crashes come to
  have stay : ∀ {v : Value} {b : List Int} {f' : Nat → Prop} {W : World}, Sl .u8 w v b → (b ≠ [] → Clear f v) → Turn f f' W0 W → Sl .u8 W v b ∧ (b ≠ [] → Clear f' v) := fun {v b f' W} hs hc ht =>
    ⟨(hs.below hB0).stay ht.size (fun hn x off len cap e hx => ht.out x hx (hc hn x off len cap e)), fun hn x off len cap e hf => (ht.new x hf).elim (hc hn x off len cap e) (fun h => by have := hs.lt_of hn e; omega)⟩
  have beyond : ∀ {f' f'' : Nat → Prop} {W w' : World} {k : Nat}, Turn f f' W0 W → Turn f' f'' W w' → w.heap.size ≤ k → k < W0.heap.size → w'.heap[k]? = W.heap[k]? := fun {f' f'' W w' k} ht hu h1 h2 =>
    hu.out k (Nat.lt_of_lt_of_le h2 ht.size) (fun h => (ht.new k h).elim (fun h => by have := HF.out k h; omega) (fun h => by omega))
  have STEP : Hid (∀ (pre : List Nat) (x : Nat) (W : World), DisksOk pre x → CrashI W0 f rb p0 p1 S b0 b1 pre W → Boxed W (w.heap.size + 1) 30 (.pointer (some ⟨rb, 0, none⟩)) → W.heap[w.heap.size]? = some (.cells #[.slice a0 L0 cap0, .slice a1 L1 cap1] 142 (0, 0)) →
      Calls Tryz.prog 69 #[.pointer (some ⟨dsk p0 p1 x, 0, none⟩), if x = 0 then .slice a0 L0 cap0 else .slice a1 L1 cap1] W fun e w' => e = .returned (.tuple #[]) ∧ CrashI W0 f rb p0 p1 S b0 b1 (pre ++ [x]) w' ∧ KeepsOthers W w' ∧ Boxed w' (w.heap.size + 1) 30 (.pointer (some ⟨rb, 0, none⟩)) ∧ w'.heap[w.heap.size]? = some (.cells #[.slice a0 L0 cap0, .slice a1 L1 cap1] 142 (0, 0))) := by
    rintro pre x W hok ⟨f', g1, g2⟩ hbd hbr
    rcases hok with ⟨rfl, rfl⟩ | ⟨rfl, rfl⟩
    · obtain ⟨s1, s2⟩ := stay HV0.out HC0.out g2
      refine (RigR.crash0 (S := S) g1 s1 HB0.out s2 HM.out).mono ?_
      rintro e w' ⟨rfl, f'', g3, g4⟩
      exact ⟨rfl, ⟨f'', g3, g2.trans g4⟩, g4.others, (beyond g2 g4 (by omega) (by omega)).trans hbd, (beyond g2 g4 (by omega) (by omega)).trans hbr⟩
    · obtain ⟨s1, s2⟩ := stay HV1.out HC1.out g2
      refine (RigR.crash1 (S := S.cr0 b0) g1 s1 HB1.out s2 (RS.cr0_few HM.out b0)).mono ?_
      rintro e w' ⟨rfl, f'', g3, g4⟩
      exact ⟨rfl, ⟨f'', g3, g2.trans g4⟩, g4.others, (beyond g2 g4 (by omega) (by omega)).trans hbd, (beyond g2 g4 (by omega) (by omega)).trans hbr⟩
  clear stay beyond
  refine wpIn_rangeFunc_by (n := 3) rfl (by omega) (gf := 112) (lb := #[.pointer (some ⟨w.heap.size + 1, 0, none⟩)]) rfl trivial (enters_of Tryz.func112 (by kernel_rfl) rfl)
    (fun pre W => Boxed W (w.heap.size + 1) 30 (.pointer (some ⟨rb, 0, none⟩)) ∧ W.heap[w.heap.size]? = some (.cells #[.slice a0 L0 cap0, .slice a1 L1 cap1] 142 (0, 0)) ∧ CrashI W0 f rb p0 p1 S b0 b1 pre W)
    (fun _ _ _ => False)
    ((disks_by (w.heap.size + 1) rb p0 p1 W0).mono fun pre W hI => ⟨hI.1, by obtain ⟨f', g1, _⟩ := hI.2.2; exact g1.cell 0, by obtain ⟨f', g1, _⟩ := hI.2.2; exact g1.cell 1⟩)
    (Below.refl _ _) (fun _ => rfl)
    ((boxed_from _ _ (fun _ => .pointer (some ⟨rb, 0, none⟩)) _).and ((row_own _ _ _ _).and (crashI_own W0 f rb p0 p1 S b0 b1 _ (Nat.le_refl _))))
    (fun _ _ _ _ _ h _ _ => h.elim) ⟨bd, br, P0⟩ ?a1 ?assign ?body ?done ?stop
  case assign =>
    intro l x W K hK
    dsimp only [encD]
    gi_wp2
    exact hK
  case body =>
    rintro l pre x W ⟨hbd, hbr, hI⟩ hok
    have HS := Lib.hid (STEP.out pre x W hok hI hbd hbr)
    have c0 : W.cell? ⟨w.heap.size, 0, none⟩ = some (.slice a0 L0 cap0) := by rw [cell_of_row _ _ _ _ _ _ hbr]; rfl
    have c1 : W.cell? ⟨w.heap.size, 1, none⟩ = some (.slice a1 L1 cap1) := by rw [cell_of_row _ _ _ _ _ _ hbr]; rfl
    have c1' : W.cell? ⟨w.heap.size, 0 + 1, none⟩ = some (.slice a1 L1 cap1) := c1
    clear hI hbd hbr
    rcases hok with ⟨rfl, rfl⟩ | ⟨rfl, rfl⟩
    · rw [if_pos rfl] at HS
      gi_wp2_with (refine ⟨trivial, ?_⟩; gi_at_call 69; refine (CallsIn.inRound l (callsIn_wide.2 HS.out)).mono ?_; rintro e w' ⟨rfl, e1, e2, e3, e4⟩)
      exact ⟨e2.from _, trivial, e3, e4, e1⟩
    · rw [if_neg (by omega)] at HS
      gi_wp2_with (refine ⟨trivial, ?_⟩; gi_at_call 69; refine (CallsIn.inRound l (callsIn_wide.2 HS.out)).mono ?_; rintro e w' ⟨rfl, e1, e2, e3, e4⟩)
      exact ⟨e2.from _, trivial, e3, e4, e1⟩
  case done =>
    rintro Dd xs W hDd rfl ⟨hbd, hbr, f', g1, g2⟩ hK
    have q2 : W.cell? ⟨rb, 2, none⟩ = some (.int .i64 S.fuse) := g1.cell 2
    have q3 : W.cell? ⟨rb, 3, none⟩ = some (.bool S.down) := g1.cell 3
    have r2 := g1.frozen 2
    have r3 := g1.frozen 3
    have G1 := Lib.hid g1
    have G2 := Lib.hid g2
    clear g1 g2 hbd hbr
    gi_wp2
    have hK' := (KeepsOthers.setCell (W.setCell ⟨rb, 2, none⟩ (.int .i64 (-1))) ⟨rb, 3, none⟩ (.bool false)).same Dd _ ((KeepsOthers.setCell W ⟨rb, 2, none⟩ (.int .i64 (-1))).same Dd _ hK rfl) rfl
    refine ⟨by simp, .inl ⟨_, _, rfl, run_takeDeferred hK', ?_⟩⟩
    obtain ⟨g3, g4⟩ := G1.out.set (RS.disks_isRes p0 p1 _) 2 (.int .i64 (-1))
    obtain ⟨g5, g6⟩ := g3.set (RS.disks_isRes p0 p1 _) 3 (.bool false)
    have hgr := grownBy_putObj' ((W.setCell ⟨rb, 2, none⟩ (.int .i64 (-1))).setCell ⟨rb, 3, none⟩ (.bool false)) Dd (.deferred none)
    have hT := (Turn.of_below (f := f) HBZ.out).trans ((G2.out.trans g4).trans g6)
    exact ⟨_, results_none rfl _ _ _, rfl, f', (RigR.isRes rb p0 p1 (S.crash b0 b1)).grown g5 hgr (fun r e => by cases e; exact ⟨_, hK', rfl⟩), hT.kept hgr (fun r e => by cases e; have := HSZ.out; omega)⟩
  case stop =>
    rintro D c pre W _ h _
    exact h.elim
end Go.Proofs.YtbdfllamhcodjaaGreat

/- A rig that a statement has made, and what else it has made. -/
namespace Go.Proofs.YtbdfllamhcodjaaGreat
open Go.RowKit
set_option linter.unusedVariables false

/-- Since w0 a rig has been made, which holds S; the blocks own are no part of it. -/
abbrev RAt (w0 W : World) (rb p0 p1 : Nat) (S : RS) (own : Nat → Prop) : Prop := AtR (RigR rb p0 p1 S) w0 W own

theorem RS.fit {S : RS} (h1 : S.fuse ≤ 9223372036854775807) (h2 : 0 ≤ S.done) (h3 : S.done ≤ 1000000) : S.Fit := ⟨fun h => IntWalk.wrap64_in _ (by omega), IntWalk.wrap64_in _ (by omega)⟩

section
variable {w0 W W' : World} {rb p0 p1 : Nat} {S : RS} {own : Nat → Prop}
theorem RAt.beside (h : RAt w0 W rb p0 p1 S own) (hb : Below W.heap.size W W') : RAt w0 W' rb p0 p1 S own := AtR.beside (RigR.isRes _ _ _ _) h hb
set_option maxRecDepth 100000 in
theorem RAt.new (n0 n1 : Nat) (w0 w : World) (hb : Below w0.heap.size w0 w) (h01 : 1 ≤ n0) (h02 : n0 ≤ 4096) (h11 : 1 ≤ n1) (h12 : n1 ≤ 4096) (own : Nat → Prop) (ho : ∀ k, own k → k < w.heap.size) :
    Calls Tryz.prog 13 #[.int .i64 (n0 : Int), .int .i64 (n1 : Int)] w fun e w' => ∃ rb p0 p1, e = .returned (.tuple #[.pointer (some ⟨rb, 0, none⟩), .int .i64 0]) ∧ RAt w0 w' rb p0 p1 (newS n0 n1) own ∧ Below w.heap.size w w' := by
  refine (rigNew_yes n0 n1 w h01 h02 h11 h12).mono ?_
  rintro e w' ⟨rb, p0, p1, rfl, ⟨f, g1, g2⟩, g3⟩
  exact ⟨rb, p0, p1, rfl, ⟨f, g1, fun k hk => ⟨Nat.le_trans hb.size (g2 k hk), fun h => by have := ho k h; have := g2 k hk; omega⟩, fun k hk => Nat.lt_of_lt_of_le (ho k hk) g3.size, hb.trans (g3.mono hb.size)⟩, g3⟩
set_option maxRecDepth 100000 in
theorem RAt.write (h : RAt w0 W rb p0 p1 S own) (hS : S.Fit) (hm : S.Few 255) (dev i : Int) {b : List Value} (hb : IsBlk b) :
    Calls Tryz.prog 23 #[.pointer (some ⟨rb, 0, none⟩), .int .i64 dev, .int .i64 i, .agg b.toArray] W fun e w' => e = .returned (.int .i64 (S.writeE dev i)) ∧ RAt w0 w' rb p0 p1 (S.write dev i b) own ∧ ∀ k, own k → w'.heap[k]? = W.heap[k]? :=
  AtR.call (R := fun e _ => e = .returned (.int .i64 (S.writeE dev i))) (RigR.isRes _ _ _ _) h fun f hf _ => hf.write hS hm dev i hb
set_option maxRecDepth 100000 in
theorem RAt.arm (h : RAt w0 W rb p0 p1 S own) (n : Int) :
    Calls Tryz.prog 36 #[.pointer (some ⟨rb, 0, none⟩), .int .i64 n] W fun e w' => e = .returned (.tuple #[]) ∧ RAt w0 w' rb p0 p1 { S with fuse := n } own ∧ ∀ k, own k → w'.heap[k]? = W.heap[k]? :=
  AtR.call (R := fun e _ => e = .returned (.tuple #[])) (RigR.isRes _ _ _ _) h fun f hf _ => hf.arm n
set_option maxRecDepth 100000 in
theorem RAt.done (h : RAt w0 W rb p0 p1 S own) :
    Calls Tryz.prog 40 #[.pointer (some ⟨rb, 0, none⟩)] W fun e w' => e = .returned (.int .i64 S.done) ∧ w' = W :=
  AtR.look h fun f hf => hf.done
set_option maxRecDepth 100000 in
theorem RAt.crash {v0 v1 : Value} {b0 b1 : List Int} (h : RAt w0 W rb p0 p1 S own) (hv0 : Sl .u8 W v0 b0) (hv1 : Sl .u8 W v1 b1) (hB0 : IsBytes b0) (hB1 : IsBytes b1)
    (hc0 : b0 ≠ [] → ∀ b off len cap, v0 = .slice (some ⟨b, off, none⟩) len cap → b < w0.heap.size ∨ own b) (hc1 : b1 ≠ [] → ∀ b off len cap, v1 = .slice (some ⟨b, off, none⟩) len cap → b < w0.heap.size ∨ own b) (hm : S.Few 1000000) :
    Calls Tryz.prog 21 #[.pointer (some ⟨rb, 0, none⟩), v0, v1] W fun e w' => e = .returned (.tuple #[]) ∧ RAt w0 w' rb p0 p1 (S.crash b0 b1) own ∧ ∀ k, own k → w'.heap[k]? = W.heap[k]? :=
  AtR.call (R := fun e _ => e = .returned (.tuple #[])) (RigR.isRes _ _ _ _) h fun f hf hk => by
    refine hf.crash hv0 hv1 hB0 hB1 (fun hn b off len cap e hfb => ?_) (fun hn b off len cap e hfb => ?_) hm
    · rcases hc0 hn b off len cap e with h' | h'
      · have := (hk b hfb).1; omega
      · exact (hk b hfb).2 h'
    · rcases hc1 hn b off len cap e with h' | h'
      · have := (hk b hfb).1; omega
      · exact (hk b hfb).2 h'
end
end Go.Proofs.YtbdfllamhcodjaaGreat

/- Rigs without a fuse; how many versions there are. -/
namespace Go.Proofs.YtbdfllamhcodjaaGreat
open Go.RowKit
set_option linter.unusedVariables false

/-- It is up, and has no fuse. -/
structure RS.Up (S : RS) : Prop where
  fuse : S.fuse = -1
  down : S.down = false
theorem RS.Up.ok {S : RS} (h : S.Up) : S.ok = true := by unfold RS.ok; rw [h.down, h.fuse]; rfl
theorem RS.Up.after {S : RS} (h : S.Up) : S.after = { S with done := S.done + 1 } := by
  unfold RS.after
  rw [if_pos h.ok, if_neg (by rw [h.fuse]; omega)]
theorem RS.put_rest (S : RS) (dev : Int) (i : Nat) (b : List Value) : (S.put dev i b).fuse = S.fuse ∧ (S.put dev i b).down = S.down ∧ (S.put dev i b).done = S.done ∧ (S.put dev i b).n0 = S.n0 ∧ (S.put dev i b).n1 = S.n1 := by
  unfold RS.put; split <;> exact ⟨rfl, rfl, rfl, rfl, rfl⟩
theorem RS.fl_rest (S : RS) (dev : Int) : (S.fl dev).fuse = S.fuse ∧ (S.fl dev).down = S.down ∧ (S.fl dev).done = S.done ∧ (S.fl dev).n0 = S.n0 ∧ (S.fl dev).n1 = S.n1 := by
  unfold RS.fl; split <;> exact ⟨rfl, rfl, rfl, rfl, rfl⟩
theorem RS.Up.write {S : RS} (h : S.Up) (dev i : Int) (b : List Value) : (S.write dev i b).Up ∧ ((S.writeE dev i = 0 ∧ (S.write dev i b).done = S.done + 1) ∨ (S.writeE dev i = 1 ∧ (S.write dev i b).done = S.done)) := by
  unfold RS.write RS.writeE
  split
  · rw [if_pos h.ok, if_pos h.ok, h.after]
    have := RS.put_rest { S with done := S.done + 1 } dev i.toNat b
    exact ⟨⟨this.1.trans h.fuse, this.2.1.trans h.down⟩, .inl ⟨rfl, this.2.2.1⟩⟩
  · exact ⟨h, .inr ⟨rfl, rfl⟩⟩
theorem RS.Up.flush {S : RS} (h : S.Up) (dev : Int) : (S.flush dev).Up ∧ ((S.flushE dev = 0 ∧ (S.flush dev).done = S.done + 1) ∨ (S.flushE dev = 1 ∧ (S.flush dev).done = S.done)) := by
  unfold RS.flush RS.flushE
  split
  · rw [if_pos h.ok, if_pos h.ok, h.after]
    have := RS.fl_rest { S with done := S.done + 1 } dev
    exact ⟨⟨this.1.trans h.fuse, this.2.1.trans h.down⟩, .inl ⟨rfl, this.2.2.1⟩⟩
  · exact ⟨h, .inr ⟨rfl, rfl⟩⟩
theorem RS.crash_up (S : RS) (b0 b1 : List Int) : (S.crash b0 b1).Up ∧ (S.crash b0 b1).done = S.done := ⟨⟨rfl, rfl⟩, rfl⟩
theorem newS_up (n0 n1 : Nat) : (newS n0 n1).Up := ⟨rfl, rfl⟩

theorem upd_few {D : Nat → Sec} {n m k : Nat} {b : List Value} (h : ∀ i, i < n → (D i).vs.length ≤ m) (hk : k < n) (hm : m ≤ 254) : ∀ i, i < n → (upd D k ((D k).add b) i).vs.length ≤ m + 1 := fun i hi => by
  by_cases e : i = k
  · subst e; rw [upd_same, add_more _ _ (by have := h i hi; omega)]; have := h i hi; omega
  · rw [upd_other _ _ e]; exact Nat.le_succ_of_le (h i hi)
theorem RS.few_put {S : RS} {m : Nat} (h : S.Few m) (hm : m ≤ 254) {dev i : Int} (hi : S.has dev i = true) (b : List Value) : (S.put dev i.toNat b).Few (m + 1) := by
  obtain ⟨hd, k, rfl, hk⟩ := RS.has_lt hi
  rcases hd with rfl | rfl
  · exact ⟨upd_few h.1 (by exact hk) hm, fun i hi => Nat.le_succ_of_le (h.2 i hi)⟩
  · exact ⟨fun i hi => Nat.le_succ_of_le (h.1 i hi), upd_few h.2 (by exact hk) hm⟩
theorem RS.few_write {S : RS} {m : Nat} (h : S.Few m) (hm : m ≤ 254) (dev i : Int) (b : List Value) : (S.write dev i b).Few (m + 1) := by
  unfold RS.write
  split
  · next hh =>
    split
    · exact RS.few_put (RS.after_few h) hm (by unfold RS.has; rw [S.after_len]; exact hh) b
    · exact (RS.after_few h).mono (by omega)
  · exact h.mono (by omega)
theorem RS.few_fl {S : RS} {m : Nat} (h : S.Few m) (dev : Int) : (S.fl dev).Few m := by
  unfold RS.fl
  split
  · exact ⟨fun i hi => by show (flTo S.D0 S.n0 i).vs.length ≤ m; unfold flTo; rw [if_pos (by exact hi)]; exact Nat.zero_le _, h.2⟩
  · exact ⟨h.1, fun i hi => by show (flTo S.D1 S.n1 i).vs.length ≤ m; unfold flTo; rw [if_pos (by exact hi)]; exact Nat.zero_le _⟩
theorem RS.few_flush {S : RS} {m : Nat} (h : S.Few m) (dev : Int) : (S.flush dev).Few m := by
  unfold RS.flush
  split
  · split
    · exact RS.few_fl (RS.after_few h) dev
    · exact RS.after_few h
  · exact h
theorem RS.few_crash (S : RS) (b0 b1 : List Int) (m : Nat) : (S.crash b0 b1).Few m :=
  ⟨fun i hi => by show (settled S.D0 _ _ i).vs.length ≤ m; rw [settled_none S.D0 _ S.n0 i hi]; exact Nat.zero_le _, fun i hi => by show (settled S.D1 _ _ i).vs.length ≤ m; rw [settled_none S.D1 _ S.n1 i hi]; exact Nat.zero_le _⟩
theorem few_newS (n0 n1 m : Nat) : (newS n0 n1).Few m := ⟨fun i _ => Nat.zero_le _, fun i _ => Nat.zero_le _⟩
end Go.Proofs.YtbdfllamhcodjaaGreat

/- A transaction that is written into a rig: what the fast disk is then, and behind a crash. -/
namespace Go.Proofs.YtbdfllamhcodjaaGreat
open Go.RowKit
set_option linter.unusedVariables false

/-- The bytes of cells; what a sector yields. -/
def byt (c : List Value) : List Int := c.map intOf
theorem byt_u8s (bs : List Int) : byt (u8s bs) = bs := by
  unfold byt u8s
  rw [List.map_map, show intOf ∘ Value.int .u8 = id from by funext x; rfl, List.map_id]
def RS.rd (S : RS) (i : Nat) : List Int := byt (S.D0 i).look

/-- Writes one behind the other, till one is refused. -/
def RS.wrs (S : RS) : List (Nat × List Value) → RS × Bool
  | [] => (S, true)
  | (i, b) :: l => if S.writeE 0 (i : Int) = 0 then (S.write 0 (i : Int) b).wrs l else (S.write 0 (i : Int) b, false)
def adds (D : Nat → Sec) : List (Nat × List Value) → Nat → Sec
  | [] => D
  | (i, b) :: l => adds (upd D i ((D i).add b)) l
theorem adds_not {i : Nat} : ∀ (l : List (Nat × List Value)) (D : Nat → Sec), i ∉ l.map (·.1) → adds D l i = D i
  | [], D, _ => rfl
  | (j, b) :: l, D, h => by
    simp only [List.map_cons, List.mem_cons, not_or] at h
    show adds (upd D j _) l i = _
    rw [adds_not l _ h.2, upd_other _ _ h.1]
theorem adds_mem {i : Nat} {b : List Value} : ∀ (l : List (Nat × List Value)) (D : Nat → Sec), (l.map (·.1)).Nodup → (i, b) ∈ l → adds D l i = (D i).add b
  | [], D, _, h => by simp at h
  | (j, c) :: l, D, hn, h => by
    simp only [List.map_cons, List.nodup_cons] at hn
    show adds (upd D j _) l i = _
    rcases List.mem_cons.1 h with e | h
    · cases e
      rw [adds_not l _ hn.1, upd_same]
    · have hne : i ≠ j := fun e => hn.1 (e ▸ List.mem_map_of_mem h)
      rw [adds_mem l _ hn.2 h, upd_other _ _ hne]
/-- The same rig but for the fast disk, its fuse, and what it counts. -/
structure Same0 (S T : RS) : Prop where
  n0 : T.n0 = S.n0
  n1 : T.n1 = S.n1
  D1 : T.D1 = S.D1
theorem Same0.refl (S : RS) : Same0 S S := ⟨rfl, rfl, rfl⟩
theorem Same0.trans {A B C : RS} (h : Same0 A B) (k : Same0 B C) : Same0 A C := ⟨k.n0.trans h.n0, k.n1.trans h.n1, k.D1.trans h.D1⟩
theorem RS.has0 {S : RS} {i : Nat} (h : i < S.n0) : S.has 0 (i : Int) = true := by
  unfold RS.has RS.len
  rw [if_pos rfl]
  exact decide_eq_true ⟨by omega, by omega⟩
/-- One write. -/
theorem RS.write0 (S : RS) {i : Nat} (h : i < S.n0) (b : List Value) : Same0 S (S.write 0 (i : Int) b) ∧ ((S.ok = true ∧ S.writeE 0 (i : Int) = 0 ∧ (S.write 0 (i : Int) b).D0 = upd S.D0 i ((S.D0 i).add b)) ∨ (S.ok = false ∧ S.writeE 0 (i : Int) = 14 ∧ (S.write 0 (i : Int) b).D0 = S.D0)) := by
  have hh := RS.has0 h
  obtain ⟨e0, e1, e2, e3⟩ := S.after_same
  unfold RS.write RS.writeE
  rw [if_pos hh, if_pos hh]
  by_cases hok : S.ok = true
  · rw [if_pos hok, if_pos hok]
    refine ⟨?_, .inl ⟨hok, rfl, ?_⟩⟩
    · unfold RS.put
      rw [if_pos rfl]
      exact ⟨e0, e1, e3⟩
    · unfold RS.put
      rw [if_pos rfl]
      show upd S.after.D0 _ ((S.after.D0 _).add b) = _
      rw [e2]
      rfl
  · rw [if_neg hok, if_neg hok]
    exact ⟨⟨e0, e1, e3⟩, .inr ⟨by simpa using hok, rfl, e2⟩⟩
theorem RS.flush0 (S : RS) : Same0 S (S.flush 0) ∧ ((S.ok = true ∧ S.flushE 0 = 0 ∧ (S.flush 0).D0 = flTo S.D0 S.n0) ∨ (S.ok = false ∧ S.flushE 0 = 14 ∧ (S.flush 0).D0 = S.D0)) := by
  obtain ⟨e0, e1, e2, e3⟩ := S.after_same
  have a1 : S.flush 0 = if S.ok = true then S.after.fl 0 else S.after := by unfold RS.flush; rw [if_pos (Or.inl rfl)]
  have a2 : S.flushE 0 = if S.ok = true then 0 else 14 := by unfold RS.flushE; rw [if_pos (Or.inl rfl)]
  rw [a1, a2]
  by_cases hok : S.ok = true
  · rw [if_pos hok, if_pos hok]
    refine ⟨?_, .inl ⟨hok, rfl, ?_⟩⟩
    · unfold RS.fl
      rw [if_pos rfl]
      exact ⟨e0, e1, e3⟩
    · unfold RS.fl
      rw [if_pos rfl]
      show flTo S.after.D0 S.after.n0 = _
      rw [e2, e0]
  · rw [if_neg hok, if_neg hok]
    exact ⟨⟨e0, e1, e3⟩, .inr ⟨by simpa using hok, rfl, e2⟩⟩
theorem RS.wrs_spec : ∀ (l : List (Nat × List Value)) (S : RS), (∀ x ∈ l, x.1 < S.n0) → Same0 S (S.wrs l).1 ∧ ∃ m, m ≤ l.length ∧ (S.wrs l).1.D0 = adds S.D0 (l.take m) ∧ ((S.wrs l).2 = true → m = l.length)
  | [], S, _ => ⟨Same0.refl S, 0, Nat.le_refl _, rfl, fun _ => rfl⟩
  | (i, b) :: l, S, h => by
    have hi : i < S.n0 := h (i, b) List.mem_cons_self
    obtain ⟨h1, h2⟩ := S.write0 hi b
    unfold RS.wrs
    rcases h2 with ⟨hok, he, hD⟩ | ⟨hok, he, hD⟩
    · rw [if_pos he]
      obtain ⟨g1, m, g2, g3, g4⟩ := RS.wrs_spec l (S.write 0 (i : Int) b) (fun x hx => by rw [h1.n0]; exact h x (List.mem_cons_of_mem _ hx))
      refine ⟨h1.trans g1, m + 1, by simpa using g2, ?_, fun hh => by rw [g4 hh]; rfl⟩
      rw [g3, hD]
      rfl
    · rw [if_neg (by rw [he]; omega)]
      exact ⟨h1, 0, Nat.zero_le _, hD, fun hh => by simp at hh⟩
theorem RS.Up.wrs : ∀ (l : List (Nat × List Value)) {S : RS}, S.Up → (∀ x ∈ l, x.1 < S.n0) → (S.wrs l).2 = true ∧ (S.wrs l).1.Up
  | [], S, hu, _ => ⟨rfl, hu⟩
  | (i, b) :: l, S, hu, h => by
    have hi : i < S.n0 := h (i, b) List.mem_cons_self
    obtain ⟨h1, h2⟩ := S.write0 hi b
    unfold RS.wrs
    rcases h2 with ⟨hok, he, hD⟩ | ⟨hok, he, hD⟩
    · rw [if_pos he]
      exact RS.Up.wrs l (hu.write 0 (i : Int) b).1 (fun x hx => by rw [h1.n0]; exact h x (List.mem_cons_of_mem _ hx))
    · rw [hu.ok] at hok
      cases hok

/-- What is written for a transaction, and where. -/
def txnW (frm count at0 : Nat) (seq : Int) (t : List Img) : List (Nat × List Value) := (txnB seq t).zipIdx.map fun x => (frm + (at0 + x.2) % count, u8s x.1)
theorem txnW_length (frm count at0 : Nat) (seq : Int) (t : List Img) : (txnW frm count at0 seq t).length = t.length + 1 := by simp [txnW, txnB_length]
theorem txnW_get {frm count at0 : Nat} {seq : Int} {t : List Img} {k : Nat} {b : List Int} (h : (txnB seq t)[k]? = some b) : (txnW frm count at0 seq t)[k]? = some (frm + (at0 + k) % count, u8s b) := by
  unfold txnW
  rw [List.getElem?_map, List.getElem?_zipIdx, h]
  simp
theorem txnW_fst (frm count at0 : Nat) (seq : Int) (t : List Img) : (txnW frm count at0 seq t).map (·.1) = (List.range (t.length + 1)).map fun k => frm + (at0 + k) % count := by
  apply List.ext_getElem?
  intro k
  rw [List.getElem?_map, List.getElem?_map]
  by_cases hk : k < t.length + 1
  · rw [List.getElem?_range hk]
    have : k < (txnB seq t).length := by rw [txnB_length]; exact hk
    rw [txnW_get (List.getElem?_eq_getElem this)]
    rfl
  · rw [List.getElem?_eq_none (by rw [txnW_length]; omega), List.getElem?_eq_none (by simp; omega)]
    rfl
theorem mod_inj {a count j k : Nat} (hj : j < count) (hk : k < count) (h : (a + j) % count = (a + k) % count) : j = k := by
  have h1 := Nat.div_add_mod (a + j) count
  have h2 := Nat.div_add_mod (a + k) count
  rw [h] at h1
  rcases Nat.lt_trichotomy ((a + j) / count) ((a + k) / count) with h3 | h3 | h3
  · have := Nat.mul_le_mul_left count (show (a + j) / count + 1 ≤ (a + k) / count from h3)
    rw [Nat.mul_succ] at this
    omega
  · rw [h3] at h1
    omega
  · have := Nat.mul_le_mul_left count (show (a + k) / count + 1 ≤ (a + j) / count from h3)
    rw [Nat.mul_succ] at this
    omega
theorem txnW_nodup {frm count at0 : Nat} {seq : Int} {t : List Img} (h : t.length + 1 ≤ count) : ((txnW frm count at0 seq t).map (·.1)).Nodup := by
  rw [txnW_fst]
  unfold List.Nodup
  rw [List.pairwise_map]
  refine List.Pairwise.imp_of_mem (fun {j k} hj hk hne e => ?_) List.nodup_range
  have hj := List.mem_range.1 hj
  have hk := List.mem_range.1 hk
  exact hne (mod_inj (a := at0) (count := count) (by omega) (by omega) (by omega))
/-- **Append**, on the rig's state. -/
def RS.app (S : RS) (frm count at0 : Nat) (seq : Int) (t : List Img) : RS × Int :=
  if (S.wrs ((txnW frm count at0 seq t).take t.length)).2 = false then ((S.wrs ((txnW frm count at0 seq t).take t.length)).1, 14)
  else if (S.wrs ((txnW frm count at0 seq t).take t.length)).1.flushE 0 ≠ 0 then ((S.wrs ((txnW frm count at0 seq t).take t.length)).1.flush 0, 14)
  else if (((S.wrs ((txnW frm count at0 seq t).take t.length)).1.flush 0).wrs ((txnW frm count at0 seq t).drop t.length)).2 = false then ((((S.wrs ((txnW frm count at0 seq t).take t.length)).1.flush 0).wrs ((txnW frm count at0 seq t).drop t.length)).1, 14)
  else if (((S.wrs ((txnW frm count at0 seq t).take t.length)).1.flush 0).wrs ((txnW frm count at0 seq t).drop t.length)).1.flushE 0 ≠ 0 then ((((S.wrs ((txnW frm count at0 seq t).take t.length)).1.flush 0).wrs ((txnW frm count at0 seq t).drop t.length)).1.flush 0, 14)
  else ((((S.wrs ((txnW frm count at0 seq t).take t.length)).1.flush 0).wrs ((txnW frm count at0 seq t).drop t.length)).1.flush 0, 0)
end Go.Proofs.YtbdfllamhcodjaaGreat

/- What an Append leaves, done or cut, and what a crash leaves of it. -/
namespace Go.Proofs.YtbdfllamhcodjaaGreat
open Go.RowKit
set_option linter.unusedVariables false

section
variable {S : RS} {frm count at0 : Nat} {seq : Int} {t : List Img}
/-- Place k. -/
def plc (frm count at0 k : Nat) : Nat := frm + (at0 + k) % count
theorem txnW_lt (hc : 0 < count) (hn : frm + count ≤ S.n0) : ∀ x ∈ txnW frm count at0 seq t, x.1 < S.n0 := fun x hx => by
  have : x.1 ∈ (txnW frm count at0 seq t).map (·.1) := List.mem_map_of_mem hx
  rw [txnW_fst] at this
  obtain ⟨k, _, e⟩ := List.mem_map.1 this
  rw [← e]
  have := Nat.mod_lt (at0 + k) hc
  omega
/-- What a sector may contain behind a crash. -/
def Sec.may (s : Sec) (c : List Value) : Prop := c = s.c ∨ c ∈ s.vs
theorem Sec.add_few {s : Sec} (h : s.vs.length ≤ 255) (b : List Value) : s.add b = ⟨s.c, s.vs ++ [b]⟩ := by unfold Sec.add; rw [if_neg (by omega)]
theorem Sec.look_add {s : Sec} (h : s.vs.length ≤ 255) (b : List Value) : (s.add b).look = b := by rw [Sec.add_few h]; unfold Sec.look; simp
theorem look_c {s : Sec} (h : s.vs = []) : s.look = s.c := by unfold Sec.look; rw [h]; rfl
theorem plc_lt (hc : 0 < count) (hn : frm + count ≤ S.n0) (k : Nat) : plc frm count at0 k < S.n0 := by
  unfold plc
  have := Nat.mod_lt (at0 + k) hc
  omega
theorem plc_inj {j k : Nat} (hj : j < count) (hk : k < count) (h : plc frm count at0 j = plc frm count at0 k) : j = k := by
  unfold plc at h
  exact mod_inj (a := at0) hj hk (by omega)
theorem com_eq {b : List Int} (hb : (txnB seq t)[t.length]? = some b) : (txnW frm count at0 seq t).drop t.length = [(plc frm count at0 t.length, u8s b)] := by
  have hL := txnW_length frm count at0 seq t
  rw [List.drop_eq_getElem_cons (by omega), List.drop_of_length_le (by omega)]
  have := txnW_get (frm := frm) (count := count) (at0 := at0) hb
  rw [List.getElem?_eq_getElem (by omega)] at this
  rw [Option.some.inj this]
  rfl
theorem txnB_last (seq : Int) (t : List Img) : (txnB seq t)[t.length]? = some (comSct seq t.length).bytes := by
  unfold txnB
  rw [List.getElem?_append_right (by simp)]
  simp
theorem crash_may (T : RS) (b0 b1 : List Int) {i : Nat} (hi : i < T.n0) : ∃ c, (T.crash b0 b1).D0 i = ⟨c, []⟩ ∧ (T.D0 i).may c := by
  have h1 := settled_none T.D0 (crashG T.D0 b0) T.n0 i hi
  have h2 := settled_either T.D0 (crashG T.D0 b0) T.n0 i hi
  refine ⟨(settled T.D0 (crashG T.D0 b0) (looseTo T.D0 T.n0) i).look, ?_, h2⟩
  show settled T.D0 (crashG T.D0 b0) (looseTo T.D0 T.n0) i = _
  rw [look_c h1]
  cases hs : settled T.D0 (crashG T.D0 b0) (looseTo T.D0 T.n0) i with
  | mk c vs =>
    rw [hs] at h1
    subst h1
    rfl
theorem Sec.eta {s : Sec} (h : s.vs = []) : s = ⟨s.look, []⟩ := by
  rw [look_c h]
  cases s
  simp at h
  rw [h]
end
end Go.Proofs.YtbdfllamhcodjaaGreat

/- A ring that transactions were appended to: what replaying yields, behind crashes and turned bytes, too. -/
namespace Go.Proofs.YtbdfllamhcodjaaGreat
open Go.RowKit
set_option linter.unusedVariables false

theorem plc_add (frm count p0 L k : Nat) : plc frm count ((p0 + L) % count) k = plc frm count p0 (L + k) := by
  unfold plc
  rw [Nat.mod_add_mod, Nat.add_assoc]
theorem plc_wrap {frm count p0 k : Nat} (h : p0 < count) : plc frm count p0 (count + k) = plc frm count p0 k := by
  unfold plc
  rw [show p0 + (count + k) = p0 + k + count by omega, Nat.add_mod_right]
/-- From place p0 and sequence q0 on the transactions ts stand in the ring. -/
structure RingIs (S : RS) (frm count p0 : Nat) (q0 : Int) (ts : List (List Img)) : Prop where
  room : frm + count ≤ S.n0
  two : 2 ≤ count
  most : count ≤ 256
  at0 : p0 < count
  seq : IsSeq q0
  ok : ∀ t ∈ ts, TxnOk count t
  fits : (layB q0 ts).length ≤ count
  lay : ∀ k, k < (layB q0 ts).length → (layB q0 ts)[k]? = some (S.rd (plc frm count p0 k))
theorem RingIs.laid {S : RS} {frm count p0 : Nat} {q0 : Int} {ts : List (List Img)} (h : RingIs S frm count p0 q0 ts) : Laid S.rd frm count p0 q0 ts ((p0 + (layB q0 ts).length) % count) (seqAt q0 ts.length) :=
  laid_of_layB (by have := h.most; omega) (by have := h.two; omega) ts p0 q0 h.seq h.ok h.lay h.at0
theorem layB_len (q0 : Int) (ts : List (List Img)) (h : ∀ t ∈ ts, 1 ≤ t.length) : 2 * ts.length ≤ (layB q0 ts).length := by
  induction ts generalizing q0 with
  | nil => simp
  | cons t ts ih =>
    have h1 := h t List.mem_cons_self
    have h2 := ih ((q0 + 1) % 4294967296) (fun u hu => h u (List.mem_cons_of_mem _ hu))
    show 2 * (ts.length + 1) ≤ (txnB q0 t ++ layB _ ts).length
    rw [List.length_append, txnB_length]
    omega
theorem RingIs.len {S : RS} {frm count p0 : Nat} {q0 : Int} {ts : List (List Img)} (h : RingIs S frm count p0 q0 ts) : 2 * ts.length ≤ count := Nat.le_trans (layB_len q0 ts (fun t ht => (h.ok t ht).least)) h.fits
/-- **Replaying**, where nothing follows. -/
theorem RingIs.rep {S : RS} {frm count p0 : Nat} {q0 : Int} {ts : List (List Img)} (h : RingIs S frm count p0 q0 ts) (hn : oneS S.rd frm count ((p0 + (layB q0 ts).length) % count) (seqAt q0 ts.length) = none) :
    repS S.rd frm count p0 q0 = (ts, (p0 + (layB q0 ts).length) % count, seqAt q0 ts.length) :=
  repS_laid h.laid hn (by have := h.len; omega)
/-- One transaction more. -/
theorem RingIs.more {S S' : RS} {frm count p0 : Nat} {q0 : Int} {ts : List (List Img)} {t : List Img} (h : RingIs S frm count p0 q0 ts) (ht : TxnOk count t) (hfit : (layB q0 ts).length + t.length + 1 ≤ count) (hn : S'.n0 = S.n0)
    (hnew : ∀ k b, (txnB (seqAt q0 ts.length) t)[k]? = some b → S'.rd (plc frm count ((p0 + (layB q0 ts).length) % count) k) = b)
    (hold : ∀ i, i < S.n0 → (∀ k, k ≤ t.length → i ≠ plc frm count ((p0 + (layB q0 ts).length) % count) k) → S'.rd i = S.rd i) : RingIs S' frm count p0 q0 (ts ++ [t]) := by
  have hl : layB q0 (ts ++ [t]) = layB q0 ts ++ txnB (seqAt q0 ts.length) t := by rw [layB_append _ _ _ h.seq, layB_one]
  refine ⟨by rw [hn]; exact h.room, h.two, h.most, h.at0, h.seq, ?_, ?_, ?_⟩
  · intro u hu
    rcases List.mem_append.1 hu with hu | hu
    · exact h.ok u hu
    · simp at hu; rw [hu]; exact ht
  · rw [hl, List.length_append, txnB_length]; omega
  · intro k hk
    rw [hl] at hk ⊢
    by_cases hlt : k < (layB q0 ts).length
    · rw [List.getElem?_append_left hlt, h.lay k hlt, hold _ (plc_lt (show 0 < count by have := h.two; omega) h.room k) (fun j hj e => ?_)]
      rw [plc_add] at e
      have := plc_inj (frm := frm) (at0 := p0) (count := count) (j := k) (k := (layB q0 ts).length + j) (by omega) (by omega) e
      omega
    · rw [List.length_append, txnB_length] at hk
      rw [List.getElem?_append_right (by omega)]
      have hlen : k - (layB q0 ts).length < (txnB (seqAt q0 ts.length) t).length := by rw [txnB_length]; omega
      rw [List.getElem?_eq_getElem hlen]
      have := hnew _ _ (List.getElem?_eq_getElem hlen)
      rw [plc_add, show (layB q0 ts).length + (k - (layB q0 ts).length) = k by omega] at this
      rw [this]
end Go.Proofs.YtbdfllamhcodjaaGreat

/- The document's own Count. -/
namespace Go.Proofs.YtbdfllamhcodjaaGreat
open Go.RowKit
set_option linter.unusedVariables false

/-- How many pieces so many bytes have. -/
def cnt (n : Int) : Int := if n < 1 then 0 else (n - 1) / 48 + 1
theorem cnt_nat (n : Nat) : cnt n = ((n + 47) / 48 : Nat) := by
  unfold cnt
  split <;> omega
set_option maxRecDepth 100000 in
theorem refCount (n : Int) (w : World) (h0 : -9223372036854775808 ≤ n) (h1 : n < 9223372036854775808) :
    Calls Tryz.prog 45 #[.int .i64 n] w fun e w' => e = .returned (.int .i64 (cnt n)) ∧ w' = w := by
  by_cases hn : n < 1
  · have hc : cnt n = 0 := if_pos hn
    rw [hc]
    go_enter Tryz.func45, Tryz.ntmps45
    go_wp2_with fail
    all_goals (go_ret; exact ⟨rfl, rfl⟩)
  · have hc : cnt n = (n - 1) / 48 + 1 := if_neg hn
    have hq : Int.tdiv (n - 1) 48 = (n - 1) / 48 := Int.tdiv_eq_ediv_of_nonneg (by omega)
    rw [hc]
    go_enter Tryz.func45, Tryz.ntmps45
    go_wp2_with fail
    all_goals (go_ret; exact ⟨rfl, rfl⟩)
end Go.Proofs.YtbdfllamhcodjaaGreat

/- Bodies: arrays of 48 bytes, and slices of them; pieces of bytes. -/
namespace Go.Proofs.YtbdfllamhcodjaaGreat
open Go.RowKit
set_option linter.unusedVariables false

def z48 : List Value := u8s (List.replicate 48 0)
theorem z48_size : z48.toArray.size = 48 := by simp [z48, u8s]
set_option maxRecDepth 100000 in
theorem under_bod : Tryz.prog.underlying 112 = some (.array 48 5) := by kernel_rfl
set_option maxRecDepth 100000 in
theorem info_bod : (Tryz.prog.info? 112).map (fun i => (i.zero, i.size, i.bytes)) = some (some (.agg z48.toArray), 48, 48) := by kernel_rfl
set_option maxRecDepth 100000 in
theorem size_bod : (Tryz.prog.info? 112).map (·.size) = some 48 := by kernel_rfl
set_option maxRecDepth 100000 in
theorem zero_bod (w : World) : (zeroValue 112).run Tryz.prog w = .ok (.agg z48.toArray) w := by kernel_rfl
set_option maxRecDepth 100000 in
theorem load_bod {w : World} {b o : Nat} {c : List Value} (hc : w.rangeAt b o c) (h : c.length = 48) : (loadVar 112 ⟨b, o, none⟩).run Tryz.prog w = .ok (.agg c.toArray) w :=
  run_loadVar_mid w b o _ c _ hc under_bod rfl (by rw [h]; exact size_bod)
/-- Whatever is neither a block nor a body is read and written cell by cell. -/
theorem loadVar_open3 (t : TypeId) (h : t ≠ 60 ∧ t ≠ 112) (a : Addr) : loadVar t a = (do if ← isAgg t then pure (.agg (← loadCells a (← sizeOf t))) else load a) := rfl
set_option maxRecDepth 100000 in
/-- A slice of one body. -/
theorem slice_bod (w : World) (b : List Value) (h : b.length = 48) : (Instr.buildSlice 50 1 #[(0, .agg b.toArray)]).run Tryz.prog w = .ok (.slice (some ⟨w.heap.size, 0, none⟩) 1 1) (w.alloc (.cells b.toArray 112)) := by
  have e : (b.zipIdx.foldl (fun cs (x : Value × Nat) => cs.setIfInBounds (0 + x.2) x.1) ((Array.range 48).map (z48.toArray[· % z48.toArray.size]!))) = b.toArray := laid_all b _ (by simp [h])
  have e2 : b.toArray.zipIdx.foldl (fun cs (x : Value × Nat) => cs.setIfInBounds (0 + x.2) x.1) ((Array.range 48).map (z48.toArray[· % z48.toArray.size]!)) = b.toArray := by
    rw [← Array.foldl_toList, Array.toList_zipIdx]
    exact e
  obtain ⟨i0, hi, hz0, hz1, hz2⟩ := info_parts info_bod
  refine run_buildSlice (P := Tryz.prog) w 50 112 1 _ b.toArray i0 (.agg z48.toArray) (by kernel_rfl) hi hz0 (by rw [hz1]; decide) (by rw [hz1]; decide) ?_
  rw [hz1]
  show Instr.fill _ _ [(0, Value.agg b.toArray)] = _
  simp only [Instr.fill]
  rw [if_neg (by simp [Value.cells, h])]
  congr 1
set_option maxRecDepth 100000 in
/-- A body appended to bodies. -/
theorem append_bod (N : Nat) (w : World) (v : Value) (vs : List (List Value)) (b : List Value) (B : Nat) (hown : w.ownsRow N 112 48 v vs.length vs.flatten) (hb : b.length = 48) (h1 : ∀ u ∈ b, u.oneCell' = true) (hB : w.rangeAt B 0 b) (hlen : vs.length ≤ 1000000) (hN : N ≤ w.heap.size) :
    ∃ v' w', (Builtin.append_ #[50, 50] 50 #[v, .slice (some ⟨B, 0, none⟩) 1 1]).run Tryz.prog w = .ok v' w' ∧ w'.ownsRow N 112 48 v' (vs ++ [b]).length (vs ++ [b]).flatten ∧ w.grownBy w' v.ownBlock ∧ (v'.ownBlock = v.ownBlock ∨ v'.ownBlock = some w.heap.size) := by
  obtain ⟨i0, hi, hz0, hz1, hz2⟩ := info_parts info_bod
  obtain ⟨v', w', hr, h1, h2, _, h3⟩ := run_append_own_at (P := Tryz.prog) w N 50 50 112 i0 (.agg z48.toArray) 48 48 Tryz.underlying50 hi hz0 hz1 hz2 z48_size (by omega) v vs.length vs.flatten hown
    ⟨B, 0, none⟩ 1 1 b (by rw [hb]) (fun j u hj => by have := hB j u hj; rwa [Addr.add_mid]) h1 (by unfold maxLen; omega) (by omega) hN
  exact ⟨v', w', hr, by simpa using h1, h2, h3⟩

/-- How many pieces bytes have; one of them; the first k of them. -/
def nPcs (bs : List Int) : Nat := (bs.length + 47) / 48
def piece (bs : List Int) (k : Nat) : List Int := (bs.drop (48 * k)).take 48 ++ List.replicate (48 - ((bs.drop (48 * k)).take 48).length) 0
theorem piece_length (bs : List Int) (k : Nat) : (piece bs k).length = 48 := by simp [piece]; omega
def rows (bs : List Int) (k : Nat) : List (List Value) := (List.range k).map fun i => u8s (piece bs i)
theorem rows_length (bs : List Int) (k : Nat) : (rows bs k).length = k := by simp [rows]
end Go.Proofs.YtbdfllamhcodjaaGreat

/- The range function of package le has its contract: each place below the bound comes, with its shift, in order. -/
namespace Go.Proofs.YtbdfllamhcodjaaGreat
open Go.RowKit Go.Shelf
set_option linter.unusedVariables false

attribute [local go_sem] Oper.semAt_some

/-- What has come when k rounds are over: the first k places. -/
def upto (m k : Nat) : List (Fin m) := (List.finRange m).take k
theorem upto_succ (m k : Nat) (h : k < m) : upto m (k + 1) = upto m k ++ [⟨k, h⟩] := by
  unfold upto
  rw [List.take_succ_eq_append_getElem (by simpa using h)]
  simp
theorem upto_length (m k : Nat) (h : k ≤ m) : (upto m k).length = k := by simp [upto, h]
theorem upto_all (m : Nat) : upto m m = List.finRange m := by
  unfold upto; rw [List.take_of_length_le (by simp)]

def encP {m : Nat} (x : Fin m) : Array Value := #[.int .i64 (x.1 : Int), .int .u64 (8 * (x.1 : Int))]

set_option maxRecDepth 100000 in
set_option maxHeartbeats 1000000 in
theorem places_in (F : Fence) (n : Nat) (hf : F.fn 148) (hro : F.round = none) (size : Int) (w : World) :
    CallsIn F n Tryz.prog 148 #[.int .i64 size] w fun e w' => e = .returned (.func (.func 155) #[] #[.pointer (some ⟨w.heap.size, 0, none⟩)]) ∧ w' = w.alloc (.cells #[.int .i64 size] 3) := by
  refine callsIn_of_wp Tryz.func148 rfl hf ?_ hro
  simp only [Tryz.ntmps148, List.size_toArray, List.length_cons, List.length_nil, Nat.reduceAdd, Nat.reduceSub, Array.replicate_succ, Array.replicate_zero, List.push_toArray, List.append_toArray, List.nil_append, List.cons_append]
  gi_wp2
  go_ret
  exact ⟨rfl, rfl⟩

set_option maxRecDepth 100000 in
set_option maxHeartbeats 2000000 in
theorem places1_in (F : Fence) (n : Nat) (hf : F.fn 155) (hro : F.round = none) (hn : 1 ≤ n) (l Bs m : Nat) (size : Int) (hm : (size ≤ 8 ∧ m = size.toNat) ∨ (8 < size ∧ m = 8)) (J Jx : List (Fin m) → World → Prop)
    (hY : ∀ pre x W, J pre W → pre.length < m → YieldAt F (n - 1) Tryz.prog l (encP x) W fun e W' =>
      (e = .returned (.bool true) ∧ J (pre ++ [x]) W' ∧ True) ∨ (e = .returned (.bool false) ∧ Jx (pre ++ [x]) W'))
    (W : World) (hBs : W.cell? ⟨Bs, 0, none⟩ = some (.int .i64 size)) (h0 : J [] W) :
    CallsIn F n Tryz.prog 155 #[.func (.yield l) #[] #[], .pointer (some ⟨Bs, 0, none⟩)] W fun e W' => (∃ v, e = .returned v) ∧
      ((∃ ys, ys = List.finRange m ∧ J ys W') ∨ (∃ pre, (∃ k, k ≤ m ∧ pre = upto m k) ∧ Jx pre W')) := by
  refine callsIn_of_wp Tryz.func155 rfl hf ?_ hro
  simp only [Tryz.ntmps155, List.size_toArray, List.length_cons, List.length_nil, Nat.reduceAdd, Nat.reduceSub, Array.replicate_succ, Array.replicate_zero, List.push_toArray, List.append_toArray, List.nil_append, List.cons_append]
  gi_wp2
  all_goals
    gi_loopw [6] (fun i wr => ∃ k : Nat, k ≤ m ∧ i = .int .i64 k ∧ J (upto m k) wr) (fun i _ => m - (intOf i).toNat)
    case atStart => exact ⟨0, Nat.zero_le _, rfl, h0⟩
    case round =>
      obtain ⟨k, hk, rfl, hJs⟩ := hrel
      by_cases hlt : k < m
      · obtain ⟨fn, tmps, assign, body, hy, hR⟩ := hY _ ⟨k, hlt⟩ wr hJs (by rw [upto_length m k hk]; exact hlt)
        dsimp only [encP] at hy
        have hb1 : (k : Int) < size := by omega
        have hb2 : (k : Int) < 8 := by omega
        gi_wp2
        refine hR.mono ?_
        rintro e W3 (⟨rfl, hJ3, hk3⟩ | ⟨rfl, hJx3⟩)
        · gi_wp2
          go_roundw
          case rel => exact ⟨k + 1, by omega, by simp, by rw [upto_succ m k hlt]; exact hJ3⟩
          case measure => simp [intOf]; omega
        · gi_wp2
          refine bodyPost_ret (results_none rfl _ _ _) rfl ?_
          exact ⟨⟨_, rfl⟩, .inr ⟨_, ⟨k + 1, by omega, (upto_succ m k hlt).symm⟩, hJx3⟩⟩
      · obtain rfl : k = m := by omega
        gi_wp2
        go_end0
        exact ⟨⟨_, rfl⟩, .inl ⟨_, rfl, by rw [← upto_all]; exact hJs⟩⟩

/-- What a loop over the places may rely on: nothing but its own. -/
def AnyKp (_ _ : World) : Prop := True

set_option maxRecDepth 100000 in
theorem places_stops (F : Fence) (n : Nat) (hf : F.fn 155) (hro : F.round = none) (hn : 1 ≤ n) (Bs : Nat) (size : Int) (w : World) (hBs : Bs < w.heap.size)
    (hc : w.cell? ⟨Bs, 0, none⟩ = some (.int .i64 size)) :
    SeqStopsK F n Tryz.prog 155 #[.pointer (some ⟨Bs, 0, none⟩)] (encP (m := nPlaces size)) AnyKp (fun ys => ys = List.finRange (nPlaces size)) (fun _ => True) (nPlaces size) w := fun l J Jx W hW _ _ hY h0 =>
  (places1_in F n hf hro hn l Bs (nPlaces size) size (nPlaces_cases size) J Jx
    (fun pre x W hJ hl => (hY pre x W hJ hl).mono fun e W' h => h.imp (fun ⟨a, b, _⟩ => ⟨a, b, trivial⟩) id)
    W ((hW.cell (p := ⟨Bs, 0, none⟩) hBs).trans hc) h0).mono fun e W' ⟨he, h⟩ => ⟨he, h.imp id fun ⟨pre, _, hj⟩ => ⟨pre, trivial, hj⟩⟩

theorem anyKp_t {A B C : World} (_ : AnyKp A B) (_ : AnyKp B C) : AnyKp A C := trivial
end Go.Proofs.YtbdfllamhcodjaaGreat

/- The number that bytes stand for, as the package le reads it. -/
namespace Go.Proofs.YtbdfllamhcodjaaGreat
open Go.RowKit Go.Shelf
set_option linter.unusedVariables false

attribute [local go_sem] Oper.semAt_some

set_option maxRecDepth 100000 in
set_option maxHeartbeats 2000000 in
theorem get_at (a : Option Addr) (len cap : Nat) (bs : List Int) (hlen : bs.length = len) (hcap : len ≤ 9223372036854775807) (w : World)
    (hA : len = 0 ∨ ∃ b off, a = some ⟨b, off, none⟩ ∧ b < w.heap.size ∧ ∀ j, j < len → w.cell? ⟨b, off + j, none⟩ = some (.int .u8 (bs[j]?.getD 0))) (hr : IsBytes bs) :
    Calls Tryz.prog 157 #[.slice a len cap] w fun e w' => e = .returned (.int .u64 (getL bs)) ∧ Below w.heap.size w w' := by
  refine (callsIn_wide (n := 3)).1 ?_
  refine callsIn_of_wp_marks Tryz.func157 rfl trivial ?_ rfl
  simp only [Tryz.ntmps157, List.size_toArray, List.length_cons, List.length_nil, Nat.reduceAdd, Nat.reduceSub, Array.replicate_succ, Array.replicate_zero, List.push_toArray, List.append_toArray, List.nil_append, List.cons_append]
  have hr := Lib.hid hr
  have hA := Lib.hid hA
  gi_wp2_with (refine ⟨trivial, ?_⟩; gi_at_call 148; refine (places_in _ _ trivial rfl _ _).mono ?_; rintro e w' ⟨rfl, rfl⟩)
  have bB := Boxed.new w 37 (.slice a len cap)
  have bN := Boxed.new (w.alloc (.cells #[.slice a len cap] 37)) 196 (.int .u64 0)
  rw [World.size_alloc] at bN
  have bP := Boxed.new ((w.alloc (.cells #[.slice a len cap] 37)).alloc (.cells #[.int .u64 0] 196)) 3 (.int .i64 (len : Int))
  rw [World.size_alloc, World.size_alloc] at bP
  have hB0 : Below w.heap.size w (((w.alloc (.cells #[.slice a len cap] 37)).alloc (.cells #[.int .u64 0] 196)).alloc (.cells #[.int .i64 (len : Int)] 3)) := (((Below.refl _ w).alloc (Nat.le_refl _) _).alloc (by simp) _).alloc (by simp; omega) _
  refine wpIn_rangeFunc_ownF (n := 3) rfl (by omega) (gf := 155) (lb := #[.pointer (some ⟨w.heap.size + 1 + 1, 0, none⟩)]) rfl trivial (enters_of Tryz.func155 (by kernel_rfl) rfl)
    (places_stops Fence.wide 2 trivial rfl (by omega) (w.heap.size + 1 + 1) (len : Int) _ (by simp) bP.cell) anyKp_t (fun _ _ _ _ _ _ _ _ => trivial) (Below.refl _ _) (fun _ => rfl)
    (fun pre W => (∃ v : Int, Boxed W (w.heap.size + 1) 196 (.int .u64 v) ∧ 0 ≤ v ∧ v < 18446744073709551616 ∧ (pre <+: List.finRange (nPlaces (len : Int)) → v = getN bs pre.length)) ∧ Boxed W w.heap.size 37 (.slice a len cap) ∧ Below w.heap.size w W)
    (fun _ _ _ => False)
    ?hI (fun _ _ _ _ _ h _ _ => h.elim) ?h0 ?a1 ?assign ?body ?done ?stop
  case hI =>
    intro s W W' row ⟨⟨v, hv, h1, h2, h3⟩, hb, hB⟩ hg hrow
    have hr' : ∀ r, row = some r → ∃ o : Obj, W.heap[r]? = some o ∧ o.isCells = false := fun r e => (hrow r e).2
    exact ⟨⟨v, boxed_own _ _ (fun _ : Unit => _) () W W' row hv hg hr', h1, h2, h3⟩, boxed_own _ _ (fun _ : Unit => _) () W W' row hb hg hr', ownFrom_below (β := Unit) (Nat.le_refl _) (by simp; omega) () W W' row hB hg hrow⟩
  case h0 => exact ⟨⟨0, bN.alloc _, by omega, by omega, fun _ => rfl⟩, (bB.alloc _).alloc _, hB0⟩
  case assign =>
    intro l x W K hK
    dsimp only [encP]
    gi_wp2
    exact hK
  case body =>
    rintro l pre x W ⟨⟨v, hv, hv0, hv1, hvp⟩, hbx, hB⟩ hlen
    have c1 := hv.cell
    have f1 := hv.frozen
    have hx : x.1 < len := by have := x.2; unfold nPlaces at this; split at this <;> omega
    have hx8 : x.1 < 8 := by have := x.2; have := nPlaces_le (len : Int); omega
    obtain ⟨b, off, rfl, hb, hc⟩ : ∃ b off, a = some ⟨b, off, none⟩ ∧ b < w.heap.size ∧ ∀ j, j < len → w.cell? ⟨b, off + j, none⟩ = some (.int .u8 (bs[j]?.getD 0)) := by
      rcases hA.out with h | h
      · omega
      · exact h
    have c2 := hbx.cell
    have c3 : W.cell? ⟨b, off + x.1, none⟩ = some (.int .u8 (bs[x.1]?.getD 0)) := (hB.cell (p := ⟨b, off + x.1, none⟩) hb).trans (hc x.1 hx)
    have hx' : ((x.1 : Nat) : Int) < (len : Int) := by omega
    obtain ⟨hr1, hr2⟩ := hr.out x.1
    obtain ⟨y, hy⟩ : ∃ y, bs[x.1]?.getD 0 = y := ⟨_, rfl⟩
    rw [hy] at c3 hr1 hr2
    have HP := Lib.hid hvp
    have HY := Lib.hid hy
    clear hc hvp hy
    have hmx : Tryz.prog.follows .mixedOrders = true := by kernel_rfl
    gi_wp2
    refine region_round 9 (letsOut_inBlock letsOut_own) (by kernel_rfl) (by kernel_rfl) (by kernel_rfl) ?_
    simp only [List.take_succ_cons, List.take_zero, List.drop_succ_cons, List.drop_zero]
    repeat still_step
    try refine wpStill_nil ?_
    go_wp2
    have bd := orStep_bd v y x.1 hx8 hv0 hv1 hr1 hr2
    refine ⟨(KeepsOthers.setCell _ _ _).trans (KeepsOthers.drew _), trivial, ⟨orStep v y x.1, hv.set _, bd.1, bd.2, fun hp => ?_⟩, hbx.other (by omega) _, (hB.setCell (p := ⟨w.heap.size + 1, 0, none⟩) (by simp) _).drew⟩
    obtain ⟨hp1, hp2⟩ := prefix_snoc hp
    rw [HP.out hp1, ← HY.out, hp2]
    rw [hp2] at hx8
    rw [getN_step bs hr.out pre.length hx8]
    simp
  case done =>
    rintro D xs W hD rfl ⟨⟨v, hv, _, _, hvp⟩, hbx, hB⟩ hK
    have c1 := hv.cell
    have e := hvp (List.prefix_refl _)
    have He := Lib.hid e
    clear e hvp
    gi_wp2
    refine ⟨by simp, .inl ⟨_, _, rfl, run_takeDeferred hK, ?_⟩⟩
    refine ⟨_, results_tmp rfl _ _ _, ?_, hB.trans (belowK_b (w := w) (Nat.le_refl _) W D _ _ (by simp at hD; omega) hK rfl rfl)⟩
    rw [He.out]
    simp [getL, hlen]
  case stop =>
    rintro D c pre W _ _ h _
    exact h.elim

end Go.Proofs.YtbdfllamhcodjaaGreat

/- The bytes of a number, as the package le writes them. -/
namespace Go.Proofs.YtbdfllamhcodjaaGreat
open Go.RowKit Go.Shelf
set_option linter.unusedVariables false

attribute [local go_sem] Oper.semAt_some

set_option maxRecDepth 100000 in
set_option maxHeartbeats 2000000 in
theorem put_some (n : Int) (size : Nat) (w : World) (hs1 : 1 ≤ size) (hs2 : size ≤ 16) (hn0 : 0 ≤ n) (hn1 : n < 18446744073709551616) :
    Calls Tryz.prog 137 #[.int .u64 n, .int .i64 (size : Int)] w fun e w' => ∃ v, e = .returned v ∧ w'.ownsRow w.heap.size 5 1 v size ((putL n size).map (Value.int .u8)) ∧ Below w.heap.size w w' := by
  refine (callsIn_wide (n := 3)).1 ?_
  refine callsIn_of_wp_marks Tryz.func137 rfl trivial ?_ rfl
  simp only [Tryz.ntmps137, List.size_toArray, List.length_cons, List.length_nil, Nat.reduceAdd, Nat.reduceSub, Array.replicate_succ, Array.replicate_zero, List.push_toArray, List.append_toArray, List.nil_append, List.cons_append]
  obtain ⟨i0, hi, hz0, hz1, hz2⟩ := info_parts info_u8
  have g1 : ¬ ((size : Int) < 1) := by omega
  have g2 : ¬ (16 < (size : Int)) := by omega
  have g3 : decide ((size : Int) < 1) = false := by simpa using g1
  have g4 : decide (16 < (size : Int)) = false := by simpa using g2
  gi_wp2_with (first | (gi_at_make; refine wpListIn_make_full _ rfl _ _ 37 rfl w.heap.size 5 i0 (.int .u8 0) 1 Tryz.underlying37 hi hz0 hz1 .i64 .i64 _ _ size rfl rfl rfl rfl (by rw [hz2]; omega) (by unfold maxLen; omega) (by simp) ?_; intro w1 hown1 hgrow1) | (refine ⟨trivial, ?_⟩; gi_at_call 148; refine (places_in _ _ trivial rfl _ _).mono ?_; rintro e w' ⟨rfl, rfl⟩))
  have hz := hown1.lt _ rfl
  have hown2 : w1.ownsRow w.heap.size 5 1 (.slice (some ⟨w.heap.size + 1, 0, none⟩) size size) size (putF n size (m := nPlaces (size : Int)) []) := by
    rw [putF_nil]
    rw [show (Value.int IntKind.u8 0).cells = #[.int .u8 0] from rfl, toList_madeCells_one, Nat.mul_one, World.size_alloc] at hown1
    exact hown1
  rw [World.size_alloc] at hz
  have bN1 : Boxed w1 w.heap.size 196 (.int .u64 n) := (Boxed.new w 196 (.int .u64 n)).kept hgrow1 (by simp)
  have bS := Boxed.new w1 37 (.slice (some ⟨w.heap.size + 1, 0, none⟩) size size)
  have bP := Boxed.new (w1.alloc (.cells #[.slice (some ⟨w.heap.size + 1, 0, none⟩) size size] 37)) 3 (.int .i64 (size : Int))
  rw [World.size_alloc] at bP
  have hB1 : Below w.heap.size w w1 := ((Below.refl _ w).alloc (Nat.le_refl _) _).grown hgrow1 (by simp) (fun k e => by cases e)
  have hB0 : Below w.heap.size w ((w1.alloc (.cells #[.slice (some ⟨w.heap.size + 1, 0, none⟩) size size] 37)).alloc (.cells #[.int .i64 (size : Int)] 3)) := (hB1.alloc hB1.size _).alloc (by have := hB1.size; simp; omega) _
  clear hown1 hgrow1 g3 g4
  refine wpIn_rangeFunc_ownF (n := 3) rfl (by omega) (gf := 155) (lb := #[.pointer (some ⟨w1.heap.size + 1, 0, none⟩)]) rfl trivial (enters_of Tryz.func155 (by kernel_rfl) rfl)
    (places_stops Fence.wide 2 trivial rfl (by omega) (w1.heap.size + 1) (size : Int) _ (by simp) bP.cell) anyKp_t (fun _ _ _ _ _ _ _ _ => trivial) (Below.refl _ _) (fun _ => rfl)
    (fun pre W => (W.ownsRow w.heap.size 5 1 (.slice (some ⟨w.heap.size + 1, 0, none⟩) size size) size (putF n size pre) ∧ Boxed W w.heap.size 196 (.int .u64 n) ∧ Boxed W w1.heap.size 37 (.slice (some ⟨w.heap.size + 1, 0, none⟩) size size)) ∧ Below w.heap.size w W)
    (fun _ _ _ => False)
    (OwnFrom.and (OwnFrom.and ((ownsRow_own _ _ _ _ (fun _ => size) (fun pre => putF n size pre)).from _) (OwnFrom.and ((boxed_own _ _ (fun _ => _)).from _) ((boxed_own _ _ (fun _ => _)).from _))) (ownFrom_below (Nat.le_refl _) (by have := hB1.size; simp; omega)))
    (fun _ _ _ _ _ h _ _ => h.elim) ?h0 ?a1 ?assign ?body ?done ?stop
  case h0 => exact ⟨⟨(hown2.alloc _).alloc _, (bN1.alloc _).alloc _, bS.alloc _⟩, hB0⟩
  case assign =>
    intro l x W K hK
    dsimp only [encP]
    gi_wp2
    exact hK
  case body =>
    rintro l pre x W ⟨⟨hrow, hbn, hbs⟩, hB⟩ hlen
    have c1 := hbn.cell
    have c2 := hbs.cell
    have hx : x.1 < size := by have := x.2; unfold nPlaces at this; split at this <;> omega
    have hx8 : x.1 < 8 := by have := x.2; have := nPlaces_le (size : Int); omega
    have hx' : ((x.1 : Nat) : Int) < (size : Int) := by omega
    obtain ⟨z, c3⟩ : ∃ z, W.cell? ⟨w.heap.size + 1, x.1, none⟩ = some (.int .u8 z) := by
      rw [hrow.cellAt x.1 (by omega)]
      unfold putF
      simp [hx]
    have f3 := hrow.frozenAt x.1
    gi_wp2
    have hst := hrow.stored x.1 (.int .u8 (n / 2 ^ (8 * x.1) % 256))
    refine ⟨KeepsOthers.setCell _ _ _, trivial, ⟨?_, hbn.kept hst.2 (by simp), hbs.kept hst.2 (by have := hz.2; simp; omega)⟩, hB.setCell (p := ⟨w.heap.size + 1, x.1, none⟩) (by simp) _⟩
    rw [putF_snoc]
    exact hst.1
  case done =>
    rintro D xs W hD rfl ⟨⟨hrow, hbn, hbs⟩, hB⟩ hK
    have c2 := hbs.cell
    rw [putF_all] at hrow
    gi_wp2
    refine ⟨by simp, .inl ⟨_, _, rfl, run_takeDeferred hK, ?_⟩⟩
    refine ⟨_, results_tmp rfl _ _ _, _, rfl, ownsRow_putObj hrow _ hK rfl, hB.trans (belowK_b (w := w) (Nat.le_refl _) W D _ _ (by have := hB1.size; simp at hD; omega) hK rfl rfl)⟩
  case stop =>
    rintro D c pre W _ _ h _
    exact h.elim

end Go.Proofs.YtbdfllamhcodjaaGreat

/- The library's range function over the bytes of a slice has its contract: each byte comes, in order. -/
namespace Go.Proofs.YtbdfllamhcodjaaGreat
open Go.RowKit Go.Shelf
set_option linter.unusedVariables false

attribute [local go_sem] Oper.semAt_some

theorem take_snoc_getD (bs : List Int) {k : Nat} (h : k < bs.length) : bs.take (k + 1) = bs.take k ++ [bs[k]?.getD 0] := by
  rw [List.take_succ_eq_append_getElem h, List.getElem?_eq_getElem h]
  rfl

set_option maxRecDepth 100000 in
set_option maxHeartbeats 2000000 in
theorem values1_in (F : Fence) (n : Nat) (hf : F.fn 159) (hro : F.round = none) (hn : 1 ≤ n) (l Bs n₀ len cap : Nat) (a : Option Addr) (zs : List Int) (hz : zs.length = len) (hmax : len ≤ maxLen)
    (J Jx : List Int → World → Prop)
    (hY : ∀ pre x W, J pre W → pre.length < len → YieldAt F (n - 1) Tryz.prog l #[.int .u8 x] W fun e W' =>
      (e = .returned (.bool true) ∧ J (pre ++ [x]) W' ∧ Below n₀ W W') ∨ (e = .returned (.bool false) ∧ Jx (pre ++ [x]) W'))
    (W : World) (hBs : W.cell? ⟨Bs, 0, none⟩ = some (.slice a len cap)) (hc : len = 0 ∨ ∃ b off, a = some ⟨b, off, none⟩ ∧ b < n₀ ∧ ∀ j, j < len → W.cell? ⟨b, off + j, none⟩ = some (.int .u8 (zs[j]?.getD 0))) (h0 : J [] W) :
    CallsIn F n Tryz.prog 159 #[.func (.yield l) #[] #[], .pointer (some ⟨Bs, 0, none⟩)] W fun e W' => (∃ v, e = .returned v) ∧
      ((∃ ys, ys = zs ∧ J ys W') ∨ (∃ pre, pre <+: zs ∧ Jx pre W')) := by
  have HC := Lib.hid hc
  have HM := Lib.hid hmax
  have HZ := Lib.hid hz
  clear hc hmax hz
  refine callsIn_of_wp Tryz.func159 rfl hf ?_ hro
  simp only [Tryz.ntmps159, List.size_toArray, List.length_cons, List.length_nil, Nat.reduceAdd, Nat.reduceSub, Array.replicate_succ, Array.replicate_zero, List.push_toArray, List.append_toArray, List.nil_append, List.cons_append]
  gi_wp2
  gi_loopw [7] (fun i wr => ∃ k : Nat, k ≤ len ∧ i = .int .i64 k ∧ J (zs.take k) wr ∧ Below n₀ W wr)
    (fun i _ => len - (intOf i).toNat)
  case atStart => exact ⟨0, Nat.zero_le _, rfl, by simpa using h0, Below.refl _ _⟩
  case round =>
    obtain ⟨k, hk, rfl, hJs, hnx⟩ := hrel
    by_cases hlt : k < len
    · obtain ⟨b, off, rfl, hb, hcs⟩ : ∃ b off, a = some ⟨b, off, none⟩ ∧ b < n₀ ∧ ∀ j, j < len → W.cell? ⟨b, off + j, none⟩ = some (.int .u8 (zs[j]?.getD 0)) := by
        rcases HC.out with h | h
        · omega
        · exact h
      have hcx : wr.cell? ⟨b, off + k, none⟩ = some (.int .u8 (zs[k]?.getD 0)) := (hnx.cell (p := ⟨b, off + k, none⟩) hb).trans (hcs k hlt)
      obtain ⟨fn, tmps, assign, body, hy, hR⟩ := hY _ (zs[k]?.getD 0) wr hJs (by rw [List.length_take, HZ.out]; omega)
      have hm : len ≤ 9223372036854775807 := by have := HM.out; unfold maxLen at this; omega
      clear hcs
      gi_wp2
      refine hR.mono ?_
      rintro e W3 (⟨rfl, hJ3, hk3⟩ | ⟨rfl, hJx3⟩)
      · gi_wp2
        go_roundw
        case rel => exact ⟨k + 1, by omega, by simp, by rw [take_snoc_getD zs (by rw [HZ.out]; exact hlt)]; exact hJ3, hnx.trans hk3⟩
        case measure => simp [intOf]; omega
      · gi_wp2
        refine bodyPost_ret (results_none rfl _ _ _) rfl ?_
        exact ⟨⟨_, rfl⟩, .inr ⟨_, by rw [← take_snoc_getD zs (by rw [HZ.out]; exact hlt)]; exact List.take_prefix _ _, hJx3⟩⟩
    · obtain rfl : k = len := by omega
      gi_wp2
      go_end0
      exact ⟨⟨_, rfl⟩, .inl ⟨_, rfl, by rw [← HZ.out, List.take_length] at hJs; exact hJs⟩⟩

set_option maxRecDepth 100000 in
set_option maxHeartbeats 1000000 in
/-- The slice value is boxed; the function value holds the box. -/
theorem values_in (F : Fence) (n : Nat) (hf : F.fn 158) (hro : F.round = none) (a : Option Addr) (len cap : Nat) (w : World) :
    CallsIn F n Tryz.prog 158 #[.slice a len cap] w fun e w' => e = .returned (.func (.func 159) #[] #[.pointer (some ⟨w.heap.size, 0, none⟩)]) ∧ w' = w.alloc (.cells #[.slice a len cap] 37) := by
  refine callsIn_of_wp Tryz.func158 rfl hf ?_ hro
  simp only [Tryz.ntmps158, List.size_toArray, List.length_cons, List.length_nil, Nat.reduceAdd, Nat.reduceSub, Array.replicate_succ, Array.replicate_zero, List.push_toArray, List.append_toArray, List.nil_append, List.cons_append]
  gi_wp2
  go_ret
  exact ⟨rfl, rfl⟩

set_option maxRecDepth 100000 in
theorem values_stops (F : Fence) (n : Nat) (hf : F.fn 159) (hro : F.round = none) (hn : 1 ≤ n) (Bs n₀ len cap : Nat) (a : Option Addr) (zs : List Int) (hz : zs.length = len) (hmax : len ≤ maxLen) (w : World) (hBs : Bs < w.heap.size) (hn₀ : n₀ ≤ w.heap.size)
    (hb : w.cell? ⟨Bs, 0, none⟩ = some (.slice a len cap)) (hc : len = 0 ∨ ∃ b off, a = some ⟨b, off, none⟩ ∧ b < n₀ ∧ ∀ j, j < len → w.cell? ⟨b, off + j, none⟩ = some (.int .u8 (zs[j]?.getD 0))) :
    SeqStopsK F n Tryz.prog 159 #[.pointer (some ⟨Bs, 0, none⟩)] (fun x : Int => #[Value.int .u8 x]) (Below n₀) (fun ys => ys = zs) (fun pre => pre <+: zs) len w := fun l J Jx W hW _ _ hY h0 =>
  values1_in F n hf hro hn l Bs n₀ len cap a zs hz hmax J Jx hY W ((hW.cell (p := ⟨Bs, 0, none⟩) hBs).trans hb)
    (hc.imp id fun ⟨b, off, e, h1, h2⟩ => ⟨b, off, e, h1, fun j hj => ((hW.mono hn₀).cell (p := ⟨b, off + j, none⟩) h1).trans (h2 j hj)⟩) h0
end Go.Proofs.YtbdfllamhcodjaaGreat

/- The check of bytes, as the package fnv and the document reckon it. -/
namespace Go.Proofs.YtbdfllamhcodjaaGreat
open Go.RowKit Go.Shelf
set_option linter.unusedVariables false

attribute [local go_sem] Oper.semAt_some

theorem prefix_byte {pre bs : List Int} {x : Int} (hr : IsBytes bs) (h : pre ++ [x] <+: bs) : 0 ≤ x ∧ x < 256 := by
  obtain ⟨t, rfl⟩ := h
  simpa using hr pre.length

set_option maxRecDepth 100000 in
set_option maxHeartbeats 2000000 in
theorem more_at (h : Int) (hh : IsU64 h) (a : Option Addr) (len cap : Nat) (bs : List Int) (hlen : bs.length = len) (hmax : len ≤ maxLen) (hr : IsBytes bs) (w : World)
    (hA : len = 0 ∨ ∃ b off, a = some ⟨b, off, none⟩ ∧ b < w.heap.size ∧ ∀ j, j < len → w.cell? ⟨b, off + j, none⟩ = some (.int .u8 (bs[j]?.getD 0))) :
    Calls Tryz.prog 154 #[.int .u64 h, .slice a len cap] w fun e w' => e = .returned (.int .u64 (fnvMore h bs)) ∧ Below w.heap.size w w' := by
  refine (callsIn_wide (n := 3)).1 ?_
  refine callsIn_of_wp_marks Tryz.func154 rfl trivial ?_ rfl
  simp only [Tryz.ntmps154, List.size_toArray, List.length_cons, List.length_nil, Nat.reduceAdd, Nat.reduceSub, Array.replicate_succ, Array.replicate_zero, List.push_toArray, List.append_toArray, List.nil_append, List.cons_append]
  have HA := Lib.hid hA
  have HM := Lib.hid hmax
  have HR := Lib.hid hr
  have HH := Lib.hid hh
  have HL := Lib.hid hlen
  clear hA hmax hr hh hlen
  gi_wp2_with (refine ⟨trivial, ?_⟩; gi_at_call 158; refine (values_in _ _ trivial rfl _ _ _ _).mono ?_; rintro e w' ⟨rfl, rfl⟩)
  have bH := Boxed.new w 196 (.int .u64 h)
  have bV := Boxed.new (w.alloc (.cells #[.int .u64 h] 196)) 37 (.slice a len cap)
  rw [World.size_alloc] at bV
  have hB0 : Below w.heap.size w ((w.alloc (.cells #[.int .u64 h] 196)).alloc (.cells #[.slice a len cap] 37)) := ((Below.refl _ w).alloc (Nat.le_refl _) _).alloc (by simp) _
  refine wpIn_rangeFunc_ownF (n := 3) rfl (by omega) (gf := 159) (lb := #[.pointer (some ⟨w.heap.size + 1, 0, none⟩)]) rfl trivial (enters_of Tryz.func159 (by kernel_rfl) rfl)
    (values_stops Fence.wide 2 trivial rfl (by omega) (w.heap.size + 1) w.heap.size len cap a bs HL.out HM.out _ (by simp) (by simp; omega) bV.cell
      (HA.out.imp id fun ⟨b, off, e, h1, h2⟩ => ⟨b, off, e, h1, fun j hj => (hB0.cell (p := ⟨b, off + j, none⟩) h1).trans (h2 j hj)⟩)) belowK_t (belowK_b (by simp; omega)) (Below.refl _ _) (fun _ => rfl)
    (fun pre W => (∃ v : Int, Boxed W w.heap.size 196 (.int .u64 v) ∧ IsU64 v ∧ (pre <+: bs → v = fnvMore h pre)) ∧ Below w.heap.size w W)
    (fun _ _ _ => False)
    ?hI (fun _ _ _ _ _ h _ _ => h.elim) ?h0 ?a1 ?assign ?body ?done ?stop
  case hI =>
    intro s W W' row ⟨⟨v, hv, h1, h2⟩, hB⟩ hg hrow
    have hr' : ∀ r, row = some r → ∃ o : Obj, W.heap[r]? = some o ∧ o.isCells = false := fun r e => (hrow r e).2
    exact ⟨⟨v, boxed_own _ _ (fun _ : Unit => _) () W W' row hv hg hr', h1, h2⟩, ownFrom_below (β := Unit) (Nat.le_refl _) (by simp; omega) () W W' row hB hg hrow⟩
  case h0 => exact ⟨⟨h, bH.alloc _, HH.out, fun _ => rfl⟩, hB0⟩
  case assign =>
    intro l x W K hK
    gi_wp2
    exact hK
  case body =>
    rintro l pre x W ⟨⟨v, hv, hv0, hvp⟩, hB⟩ hlen
    have c1 := hv.cell
    have f1 := hv.frozen
    have HP := Lib.hid hvp
    have HV := Lib.hid hv0
    clear hvp hv0
    gi_wp2
    refine ⟨(KeepsOthers.setCell _ _ _).trans (KeepsOthers.setCell _ _ _), ((Below.refl w.heap.size W).setCell (p := ⟨w.heap.size, 0, none⟩) (Nat.le_refl _) _).setCell (p := ⟨w.heap.size, 0, none⟩) (Nat.le_refl _) _, ⟨_, (hv.set _).set _, isU64_wrap _, fun hp => ?_⟩, (hB.setCell (p := ⟨w.heap.size, 0, none⟩) (Nat.le_refl _) _).setCell (p := ⟨w.heap.size, 0, none⟩) (Nat.le_refl _) _⟩
    obtain ⟨r1, r2⟩ := prefix_byte HR.out hp
    rw [HP.out ((List.prefix_append _ _).trans hp), fnvMore_snoc, wrap_u64_in x r1 (by omega)]
    rfl
  case done =>
    rintro D xs W hD rfl ⟨⟨v, hv, _, hvp⟩, hB⟩ hK
    have c1 := hv.cell
    have e := hvp (List.prefix_refl _)
    have He := Lib.hid e
    clear e hvp
    gi_wp2
    refine ⟨by simp, .inl ⟨_, _, rfl, run_takeDeferred hK, ?_⟩⟩
    refine ⟨_, results_tmp rfl _ _ _, ?_, hB.trans (belowK_b (w := w) (Nat.le_refl _) W D _ _ (by simp at hD; omega) hK rfl rfl)⟩
    rw [He.out]; rfl
  case stop =>
    rintro D c pre W _ _ h _
    exact h.elim

set_option maxRecDepth 100000 in
/-- **More**: from any check on. -/
theorem more_any (h : Int) (v : Value) (bs : List Int) (w : World) (hh : IsU64 h) (hv : Sl .u8 w v bs) (hr : IsBytes bs) :
    Calls Tryz.prog 154 #[.int .u64 h, v] w fun e w' => e = .returned (.int .u64 (fnvMore h bs)) ∧ Below w.heap.size w w' := by
  obtain ⟨a, cap, rfl, hl, h2⟩ := Lies.of_sl hv
  exact more_at h hh a _ cap bs rfl h2 hr w hl

set_option maxRecDepth 100000 in
set_option maxHeartbeats 1000000 in
/-- **Check**: of any bytes. -/
theorem check_any (v : Value) (bs : List Int) (w : World) (hv : Sl .u8 w v bs) (hr : IsBytes bs) :
    Calls Tryz.prog 146 #[v] w fun e w' => e = .returned (.int .u64 (fnvMore fnvInit bs)) ∧ Below w.heap.size w w' := by
  have HM := Lib.hid (more_any fnvInit v bs w isU64_init hv hr)
  clear hv hr
  unfold fnvInit at *
  go_enter Tryz.func146, Tryz.ntmps146
  go_wp2_with fail
  refine HM.out.mono ?_
  rintro e w1 ⟨rfl, hB⟩
  have HB := Lib.hid hB
  clear hB
  go_wp2_with fail
  go_ret
  exact ⟨rfl, HB.out⟩

end Go.Proofs.YtbdfllamhcodjaaGreat

/- The document's own Encode. -/
namespace Go.Proofs.YtbdfllamhcodjaaGreat
open Go.RowKit
set_option linter.unusedVariables false
attribute [-simp] Tryz.isAgg60 Tryz.zeroValue60
attribute [-go_sem] loadVar storeVar
attribute [local go_sem] zero_blk build_blk loadVar_open storeVar_open

/-- The bytes that Encode answers. -/
def Sct.code (p : Sct) : List Value := if p.fits = true then u8s p.bytes else fillB 0
def Sct.codeE (p : Sct) : Int := if p.fits = true then 0 else 11

end Go.Proofs.YtbdfllamhcodjaaGreat

/- The statements' own way of holding a marked sector against the document's. -/
namespace Go.Proofs.YtbdfllamhcodjaaGreat
open Go.RowKit
set_option linter.unusedVariables false
attribute [-simp] Tryz.isAgg60 Tryz.zeroValue60 Tryz.isAgg112 Tryz.zeroValue112
attribute [-go_sem] loadVar storeVar
attribute [local go_sem] zero_blk build_blk zero_bod loadVar_open3 storeVar_open

set_option maxRecDepth 100000 in
/-- Two bodies held against each other. -/
theorem eq_bod_at (d : Nat) {xs ys : List Int} (hx : xs.length = 48) (hy : ys.length = 48) (w : World) : (Op.equalIn (d + 2) 112 (.agg (u8s xs).toArray) (.agg (u8s ys).toArray)).run Tryz.prog w = .ok (alike (u8s xs) (u8s ys)) w := by
  obtain ⟨i0, hi⟩ : ∃ i, Tryz.prog.info? 5 = some i := Option.isSome_iff_exists.1 (show (Tryz.prog.info? 5).isSome = true by kernel_rfl)
  unfold u8s
  rw [run_equalIn_array w (d + 1) (xs.map (Value.int .u8)).toArray (ys.map (Value.int .u8)).toArray under_bod hi, show Tryz.prog.cellsOf 5 = 1 from by kernel_rfl,
    run_eqItems_ints (d := d) (by kernel_rfl) (by kernel_rfl) xs ys w (List.range 48) (fun i hi => by have := List.mem_range.1 hi; omega)]
  congr 1
  rw [Bool.eq_iff_iff, alike_iff, List.all_eq_true]
  constructor
  · intro h
    congr 1
    apply List.ext_getElem (by omega)
    intro i h1 h2
    have := h i (List.mem_range.2 (by omega))
    simpa [h1, h2] using this
  · intro h i hi
    have hxy : xs = ys := by
      have e := congrArg (List.map intOf) h
      rw [List.map_map, List.map_map, show intOf ∘ Value.int .u8 = id from by funext x; rfl] at e
      simpa using e
    simp [hxy]

set_option maxRecDepth 100000 in
theorem eq_bod {xs ys : List Int} (hx : xs.length = 48) (hy : ys.length = 48) (w : World) : (Op.equalIn 10000 112 (.agg (u8s xs).toArray) (.agg (u8s ys).toArray)).run Tryz.prog w = .ok (alike (u8s xs) (u8s ys)) w := eq_bod_at 9998 hx hy w

noncomputable def sameS (p q : Sct) : Bool := p.mark == q.mark && (p.seq == q.seq && (p.index == q.index && alike (u8s p.body) (u8s q.body)))
theorem sameS_iff {p q : Sct} : sameS p q = true ↔ p = q := by
  unfold sameS
  rw [Bool.and_eq_true, Bool.and_eq_true, Bool.and_eq_true, alike_iff]
  constructor
  · rintro ⟨a, b, c, d⟩
    have e := congrArg (List.map intOf) d
    unfold u8s at e
    rw [List.map_map, List.map_map, show intOf ∘ Value.int .u8 = id from by funext x; rfl] at e
    cases p; cases q
    simp at a b c e
    simp [a, b, c, e]
  · rintro rfl
    simp

end Go.Proofs.YtbdfllamhcodjaaGreat

/- Two marked sectors held against each other, whole. -/
namespace Go.Proofs.YtbdfllamhcodjaaGreat
open Go.RowKit
set_option linter.unusedVariables false

set_option maxRecDepth 100000 in
theorem part_int {t : TypeId} {k k' : IntKind} (hu : Tryz.prog.underlying t = some (.int k)) {xs : Array Value} {off : Nat} {n : Int} (hx : xs[off]? = some (.int k' n)) (w : World) : (part t xs off).run Tryz.prog w = .ok (.int k' n) w :=
  run_part_plain w (by unfold Program.plainKey; rw [hu]) hx
set_option maxRecDepth 100000 in
theorem part_bod {xs : Array Value} {off : Nat} (w : World) : (part 112 xs off).run Tryz.prog w = .ok (.agg (xs.extract off (off + 48))) w := by
  obtain ⟨i0, hi⟩ : ∃ i, Tryz.prog.info? 112 = some i := Option.isSome_iff_exists.1 (show (Tryz.prog.info? 112).isSome = true by kernel_rfl)
  have hs : Tryz.prog.cellsOf 112 = 48 := by kernel_rfl
  simp [part, isAgg, run_underlying under_bod, run_sizeOf w hi, hs, Result.andThen]
theorem sct_body (p : Sct) (hp : p.body.length = 48) : p.cells.toArray.extract 3 (3 + 48) = (u8s p.body).toArray := by
  rw [show p.cells = [.int .u8 p.mark, .int .u32 p.seq, .int .i64 p.index] ++ u8s p.body from rfl]
  apply Array.toList_inj.1
  simp only [u8s, List.cons_append, List.nil_append, Array.toList_extract, List.extract_eq_take_drop, List.drop_succ_cons, List.drop_zero]
  exact List.take_of_length_le (by simp [hp])

set_option maxRecDepth 100000 in
/-- **==** on marked sectors. -/
theorem eq_sec {p q : Sct} (hp : p.body.length = 48) (hq : q.body.length = 48) (w : World) : (Op.equalIn 10000 189 (.agg p.cells.toArray) (.agg q.cells.toArray)).run Tryz.prog w = .ok (sameS p q) w := by
  rw [run_equalIn_struct w 9999 189 _ _ (by kernel_rfl) (by kernel_rfl)]
  have h0 : ∃ f0 f1 f2 f3 : Field, Tryz.prog.fieldsOf 189 = #[f0, f1, f2, f3] ∧ (f0.name ≠ "_" ∧ f0.type = 5 ∧ f0.offset = 0) ∧ (f1.name ≠ "_" ∧ f1.type = 51 ∧ f1.offset = 1) ∧ (f2.name ≠ "_" ∧ f2.type = 3 ∧ f2.offset = 2) ∧ (f3.name ≠ "_" ∧ f3.type = 112 ∧ f3.offset = 3) :=
    ⟨_, _, _, _, rfl, ⟨by decide, rfl, rfl⟩, ⟨by decide, rfl, rfl⟩, ⟨by decide, rfl, rfl⟩, ⟨by decide, rfl, rfl⟩⟩
  obtain ⟨f0, f1, f2, f3, h0, ⟨n0, t0, o0⟩, ⟨n1, t1, o1⟩, ⟨n2, t2, o2⟩, ⟨n3, t3, o3⟩⟩ := h0
  rw [h0]
  simp only [Op.eqFields, Sem.run_bind, if_pos n0, if_pos n1, if_pos n2, if_pos n3, t0, t1, t2, t3, o0, o1, o2, o3]
  have a0 : p.cells.toArray[0]? = some (.int .u8 p.mark) := rfl
  have b0 : q.cells.toArray[0]? = some (.int .u8 q.mark) := rfl
  have a1 : p.cells.toArray[1]? = some (.int .u32 p.seq) := rfl
  have b1 : q.cells.toArray[1]? = some (.int .u32 q.seq) := rfl
  have a2 : p.cells.toArray[2]? = some (.int .i64 p.index) := rfl
  have b2 : q.cells.toArray[2]? = some (.int .i64 q.index) := rfl
  have s0 : sameS p q = (p.mark == q.mark && (p.seq == q.seq && (p.index == q.index && alike (u8s p.body) (u8s q.body)))) := rfl
  rw [s0, part_int Tryz.underlying5 a0, Result.andThen_ok, part_int Tryz.underlying5 b0, Result.andThen_ok, run_equalIn_int w 9998 5 .u8 .u8 _ _ Tryz.underlying5, Result.andThen_ok]
  cases p.mark == q.mark
  · rfl
  simp only [Bool.not_true, Bool.false_eq_true, if_false, Bool.true_and, Sem.run_bind]
  rw [part_int Tryz.underlying51 a1, Result.andThen_ok, part_int Tryz.underlying51 b1, Result.andThen_ok, run_equalIn_int w 9998 51 .u32 .u32 _ _ Tryz.underlying51, Result.andThen_ok]
  cases p.seq == q.seq
  · rfl
  simp only [Bool.not_true, Bool.false_eq_true, if_false, Bool.true_and, Sem.run_bind]
  rw [part_int Tryz.underlying3 a2, Result.andThen_ok, part_int Tryz.underlying3 b2, Result.andThen_ok, run_equalIn_int w 9998 3 .i64 .i64 _ _ Tryz.underlying3, Result.andThen_ok]
  cases p.index == q.index
  · rfl
  simp only [Bool.not_true, Bool.false_eq_true, if_false, Bool.true_and, Sem.run_bind]
  rw [part_bod, Result.andThen_ok, part_bod, Result.andThen_ok, sct_body p hp, sct_body q hq, eq_bod_at 9997 hp hq, Result.andThen_ok]
  cases alike (u8s p.body) (u8s q.body) <;> rfl
end Go.Proofs.YtbdfllamhcodjaaGreat

/- The developers' marked sectors in memory; what their page promises. -/
namespace Go.Proofs.YtbdfllamhcodjaaGreat
open Go.RowKit
set_option linter.unusedVariables false

set_option maxRecDepth 100000 in
theorem size_pg : (Tryz.prog.info? 189).map (·.size) = some 51 := by kernel_rfl
set_option maxRecDepth 100000 in
theorem load_pg {w : World} {b o : Nat} {c : List Value} (hc : w.rangeAt b o c) (h : c.length = 51) : (loadVar 189 ⟨b, o, none⟩).run Tryz.prog w = .ok (.agg c.toArray) w :=
  run_loadVar_mid w b o _ c _ hc Tryz.underlying189 rfl (by rw [h]; exact size_pg)
set_option maxRecDepth 100000 in
theorem store_pg {w : World} {b o : Nat} {c : List Value} (ht : w.there b o 51) (h : c.length = 51) (h1 : ∀ v ∈ c, v.oneCell' = true) : (storeVar 189 ⟨b, o, none⟩ (.agg c.toArray)).run Tryz.prog w = .ok () (w.setCells b o c) := by
  have := run_storeVar_mid (P := Tryz.prog) w b o 189 c.toArray (by simpa [h] using ht) (by simpa [h] using size_pg) (all_oneCell_toArray h1)
  simpa using this
set_option maxRecDepth 100000 in
theorem store_new_pg {w : World} {c : Array Value} {c' : List Value} (h : c.size = 51) (h' : c'.length = 51) (h1 : ∀ v ∈ c', v.oneCell' = true) : (storeVar 189 ⟨w.heap.size, 0, none⟩ (.agg c'.toArray)).run Tryz.prog (w.alloc (.cells c 189)) = .ok () (w.alloc (.cells c'.toArray 189)) :=
  run_storeVar_new w _ c c'.toArray (by simpa [h'] using size_pg) (by simpa [h'] using h) (all_oneCell_toArray h1)
set_option maxRecDepth 100000 in
theorem zero_pg (w : World) : (zeroValue 189).run Tryz.prog w = .ok (.agg zcs.toArray) w := by kernel_rfl
set_option maxRecDepth 100000 in
theorem build_pg (m s i : Int) (w : World) : (Instr.build 189 #[(0, .int .u8 m), (1, .int .u32 s), (2, .int .i64 i)]).run Tryz.prog w = .ok (.agg (Value.int .u8 m :: .int .u32 s :: .int .i64 i :: u8s (List.replicate 48 0)).toArray) w := by kernel_rfl
set_option maxRecDepth 100000 in
theorem build_pg0 (w : World) : (Instr.build 189 #[]).run Tryz.prog w = .ok (.agg zcs.toArray) w := by kernel_rfl
theorem zcs_len : zcs.toArray.size = 51 := by simp [zcs, u8s]
/-- Whatever is neither a block nor such a sector is read and written cell by cell. -/
theorem loadVar_open4 (t : TypeId) (h : t ≠ 60 ∧ t ≠ 189 ∧ t ≠ 112) (a : Addr) : loadVar t a = (do if ← isAgg t then pure (.agg (← loadCells a (← sizeOf t))) else load a) := rfl
theorem storeVar_open4 (t : TypeId) (h : t ≠ 60 ∧ t ≠ 189) (a : Addr) (v : Value) : storeVar t a v = (do
    if v.cells.size ≠ (← sizeOf t) then stuck "storeVar: the value has not the size of the variable"
    storeCells a v.cells.toList) := rfl

end Go.Proofs.YtbdfllamhcodjaaGreat

/- The reader of the package le: what its methods come to. -/
namespace Go.Proofs.YtbdfllamhcodjaaGreat
open Go.RowKit Go.Shelf
set_option linter.unusedVariables false

/-- The reader at block rb has the bytes bs left; it and they lie below block N. -/
def Rdr (w : World) (N rb : Nat) (bs : List Int) : Prop :=
  ∃ b off cap, Boxed w rb 252 (.slice (some ⟨b, off, none⟩) bs.length cap) ∧ bs.length ≤ cap ∧ cap ≤ maxLen ∧ b < N ∧
    (∀ j, j < bs.length → w.cell? ⟨b, off + j, none⟩ = some (.int .u8 (bs[j]?.getD 0))) ∧ rb < N ∧ N ≤ w.heap.size

set_option maxRecDepth 100000 in
set_option maxHeartbeats 1000000 in
theorem next_at (rb b off len cap k : Nat) (w : World) (hb : Boxed w rb 252 (.slice (some ⟨b, off, none⟩) len cap)) (hk : k ≤ len) (hlen : len ≤ cap) (hcap : cap ≤ maxLen) :
    Calls Tryz.prog 156 #[.pointer (some ⟨rb, 0, none⟩), .int .i64 (k : Int)] w fun e w' =>
      e = .returned (.tuple #[.slice (some ⟨b, off, none⟩) k cap, .bool true]) ∧ w' = w.setCell ⟨rb, 0, none⟩ (.slice (some ⟨b, if k = cap then off else off + k, none⟩) (len - k) (cap - k)) := by
  unfold maxLen at hcap
  have c1 := hb.cell
  have f1 := hb.frozen
  have g1 : decide ((k : Int) < 0) = false := by simp
  have g2 : decide (len < k) = false := by simp; omega
  go_enter Tryz.func156, Tryz.ntmps156
  go_wp2
  all_goals
    go_ret2
    exact ⟨rfl, rfl⟩

set_option maxRecDepth 100000 in
set_option maxHeartbeats 1000000 in
theorem newReader_at (a : Option Addr) (len cap : Nat) (bs : List Int) (hlen : bs.length = len) (hcap : len ≤ 140737488351232) (w : World) (hA : Lies w a len bs) :
    Calls Tryz.prog 150 #[.slice a len cap] w fun e w' => ∃ rb, e = .returned (.pointer (some ⟨rb, 0, none⟩)) ∧ w.heap.size < rb ∧ Rdr w' w'.heap.size rb bs ∧ Below w.heap.size w w' := by
  obtain ⟨i0, hi, hz0, hz1, hz2⟩ := info_parts info_u8
  have hA := Lib.hid hA
  have HL := Lib.hid hlen
  clear hlen
  have HN := copy_len HL
  have H1 := copy_one (bs := bs)
  go_enter Tryz.func150, Tryz.ntmps150
  go_wp2_with (first | (at_make; refine wpList_make_full _ rfl _ _ 37 rfl w.heap.size 5 i0 (.int .u8 0) 1 Tryz.underlying37 hi hz0 hz1 .i64 .i64 _ _ len rfl rfl rfl rfl (by rw [hz2]; omega) (by unfold maxLen; omega) (by simp) ?_; intro w1 hown1 hgrow1; obtain ⟨HB, HR, HP⟩ := copy_facts HL hA hown1 hgrow1; clear hown1 hgrow1) | (with_reducible refine wpList_copy_splice rfl (.tmp 7) (.tmp 8) 37 37 rfl 5 Tryz.underlying37 size_u8 _ _ len len len cap rfl rfl w.heap.size 0 (List.replicate len (Value.int .u8 0)) 5 HR.out (bs.map (Value.int .u8)) HN.out HP.out (by rw [HN.out]; simp) H1.out w.heap.size w HB.out (Nat.le_refl _) ?_; intro w2 hg2 hB2))
  have hsz : w.heap.size < w2.heap.size := (Array.getElem?_eq_some_iff.1 hg2.out).1
  have hcells : ∀ j, j < bs.length → w2.cell? ⟨w.heap.size, 0 + j, none⟩ = some (.int .u8 (bs[j]?.getD 0)) := by
    intro j hj
    rw [cell_of_row _ _ _ _ _ _ hg2.out, splice_all _ _ (by rw [List.length_replicate, List.length_map, HL.out])]
    simp [hj]
  have HZ := Lib.hid hsz
  have HC := Lib.hid hcells
  clear hsz hcells
  go_ret
  refine ⟨_, rfl, HZ.out, ?_, hB2.alloc (Nat.le_of_lt HZ.out) _⟩
  have e := HL.out
  subst e
  exact ⟨w.heap.size, 0, _, Boxed.new _ _ _, Nat.le_refl _, by unfold maxLen; omega, by have := HZ.out; simp; omega, fun j hj => ((World.cell?_of_block (Below.heap_alloc w2 _ _ HZ.out)).trans (HC.out j hj)), by simp, Nat.le_refl _⟩

set_option maxRecDepth 100000 in
/-- **NewReader**: a reader of its own, with all bytes left. -/
theorem newReader_any (v : Value) (bs : List Int) (w : World) (hv : Sl .u8 w v bs) (hcap : bs.length ≤ 140737488351232) :
    Calls Tryz.prog 150 #[v] w fun e w' => ∃ rb, e = .returned (.pointer (some ⟨rb, 0, none⟩)) ∧ w.heap.size < rb ∧ Rdr w' w'.heap.size rb bs ∧ Below w.heap.size w w' := by
  obtain ⟨a, cap, rfl, hl, _⟩ := Lies.of_sl hv
  exact newReader_at a bs.length cap bs rfl hcap w hl

/-- Behind a read the reader has what was left, but for what was read; what was read lies where it lay. -/
theorem Rdr.next {w : World} {N rb b off cap : Nat} {bs : List Int} {k : Nat} (hb : Boxed w rb 252 (.slice (some ⟨b, off, none⟩) bs.length cap)) (h1 : bs.length ≤ cap) (h2 : cap ≤ maxLen) (h3 : b < N)
    (h4 : ∀ j, j < bs.length → w.cell? ⟨b, off + j, none⟩ = some (.int .u8 (bs[j]?.getD 0))) (hk : k ≤ bs.length) (h5 : rb < N ∧ N ≤ w.heap.size) :
    (Rdr (w.setCell ⟨rb, 0, none⟩ (.slice (some ⟨b, if k = cap then off else off + k, none⟩) (bs.length - k) (cap - k))) N rb (bs.drop k)) ∧
    (∀ j, j < bs.length → (w.setCell ⟨rb, 0, none⟩ (.slice (some ⟨b, if k = cap then off else off + k, none⟩) (bs.length - k) (cap - k))).cell? ⟨b, off + j, none⟩ = some (.int .u8 (bs[j]?.getD 0))) ∧
    w.grownBy (w.setCell ⟨rb, 0, none⟩ (.slice (some ⟨b, if k = cap then off else off + k, none⟩) (bs.length - k) (cap - k))) (some rb) := by
  have hg := grownBy_setCell' w rb (.slice (some ⟨b, if k = cap then off else off + k, none⟩) (bs.length - k) (cap - k))
  have hcells : ∀ j, j < bs.length → (w.setCell ⟨rb, 0, none⟩ (.slice (some ⟨b, if k = cap then off else off + k, none⟩) (bs.length - k) (cap - k))).cell? ⟨b, off + j, none⟩ = some (.int .u8 (bs[j]?.getD 0)) := by
    intro j hj
    have hne : b ≠ rb := by
      rintro rfl
      have h5 := h4 j hj
      rw [cell_of_row _ _ _ _ _ _ hb] at h5
      by_cases e : off + j = 0
      · rw [e] at h5; simp at h5
      · rw [Array.getElem?_eq_none (by simp; omega)] at h5; cases h5
    exact (World.cell?_of_block (hg.block b (Nat.lt_of_lt_of_le h3 h5.2) (fun e => hne (by cases e; rfl)))).trans (h4 j hj)
  refine ⟨⟨b, if k = cap then off else off + k, cap - k, ?_, by rw [List.length_drop]; omega, by omega, h3, ?_, h5.1, Nat.le_trans h5.2 hg.size⟩, hcells, hg⟩
  · rw [List.length_drop]; exact hb.set _
  · intro j hj
    rw [List.length_drop] at hj
    have e : (if k = cap then off else off + k) + j = off + (k + j) := by rw [if_neg (by omega)]; omega
    rw [e, drop_get]
    exact hcells (k + j) (by omega)

theorem Rdr.kept {w w' : World} {N rb : Nat} {bs : List Int} {row : Option Nat} (h : Rdr w N rb bs) (hg : w.grownBy w' row) (hr : ∀ r, row = some r → N ≤ r) : Rdr w' N rb bs := by
  obtain ⟨b, off, cap, h0, h1, h2, h3, h4, h5, h6⟩ := h
  exact ⟨b, off, cap, h0.kept hg (fun e => by have := hr _ e.symm; omega), h1, h2, h3, fun j hj => (World.cell?_of_block (hg.block b (by omega) (fun e => by have := hr _ e.symm; omega))).trans (h4 j hj), h5, Nat.le_trans h6 hg.size⟩

theorem Rdr.below {w w' : World} {N rb : Nat} {bs : List Int} (h : Rdr w N rb bs) (hg : w.grownBy w' none) : Rdr w' N rb bs := h.kept hg (fun r e => by cases e)

set_option maxRecDepth 100000 in
set_option maxHeartbeats 1000000 in
/-- **Num**, of no more than is left. -/
theorem num_yes {N : Nat} (rb : Nat) (bs : List Int) (k : Nat) (w : World) (hr : Rdr w N rb bs) (hB : IsBytes bs) (hk : k ≤ bs.length) :
    Calls Tryz.prog 153 #[.pointer (some ⟨rb, 0, none⟩), .int .i64 (k : Int)] w fun e w' =>
      e = .returned (.tuple #[.int .u64 (getL (bs.take k)), .bool true]) ∧ Rdr w' N rb (bs.drop k) ∧ w.grownBy w' (some rb) := by
  obtain ⟨b, off, cap, h0, h1, h2, h3, h4, h5⟩ := hr
  obtain ⟨r1, r2, r3⟩ := Rdr.next h0 h1 h2 h3 h4 hk h5
  obtain ⟨W, hW⟩ : ∃ W, w.setCell ⟨rb, 0, none⟩ (.slice (some ⟨b, if k = cap then off else off + k, none⟩) (bs.length - k) (cap - k)) = W := ⟨_, rfl⟩
  have hl : Lies W (some ⟨b, off, none⟩) k (bs.take k) := by
    rw [← hW]
    exact .inr ⟨b, off, rfl, Nat.lt_of_lt_of_le h3 (Nat.le_trans h5.2 r3.size), fun j hj => by rw [take_get bs k j hj]; exact r2 j (by omega)⟩
  have hn : Calls Tryz.prog 156 #[.pointer (some ⟨rb, 0, none⟩), .int .i64 (k : Int)] w fun e w' => e = .returned (.tuple #[.slice (some ⟨b, off, none⟩) k cap, .bool true]) ∧ w' = W := by
    rw [← hW]; exact next_at rb b off bs.length cap k w h0 hk h1 h2
  rw [hW] at r1 r3
  have hg := get_at (some ⟨b, off, none⟩) k cap (bs.take k) (by rw [List.length_take]; omega) (by unfold maxLen at h2; omega) W hl (hB.take k)
  have HG := Lib.hid hg
  have HC := Lib.hid hn
  have R1 := Lib.hid r1
  have R3 := Lib.hid r3
  clear h0 h1 h2 h3 h4 h5 hk hB hl r1 r2 r3 hW hn hg
  go_enter Tryz.func153, Tryz.ntmps153
  go_wp2_with fail
  refine HC.out.mono ?_
  rintro e w' ⟨rfl, rfl⟩
  go_wp2_with fail
  refine HG.out.mono ?_
  rintro e w' ⟨rfl, hb⟩
  have HB := Lib.hid hb
  clear hb
  go_wp2
  go_ret2
  exact ⟨rfl, R1.out.below (grown_below HB.out none), grown_trans R3.out (grown_below HB.out _)⟩

set_option maxRecDepth 100000 in
set_option maxHeartbeats 1000000 in
/-- **Take**, of no more than is left: bytes of its own. -/
theorem take_yes {N : Nat} (rb : Nat) (bs : List Int) (k : Nat) (w : World) (hr : Rdr w N rb bs) (hk : k ≤ bs.length) (hcap : bs.length ≤ 140737488351232) :
    Calls Tryz.prog 151 #[.pointer (some ⟨rb, 0, none⟩), .int .i64 (k : Int)] w fun e w' =>
      ∃ g, e = .returned (.tuple #[.slice (some ⟨g, 0, none⟩) k k, .bool true]) ∧ w.heap.size ≤ g ∧ w'.heap[g]? = some (.cells ((bs.take k).map (Value.int .u8)).toArray 5 (0, 0)) ∧ Rdr w' N rb (bs.drop k) ∧ w.grownBy w' (some rb) := by
  obtain ⟨b, off, cap, h0, h1, h2, h3, h4, h5⟩ := hr
  obtain ⟨r1, r2, r3⟩ := Rdr.next h0 h1 h2 h3 h4 hk h5
  obtain ⟨W, hW⟩ : ∃ W, w.setCell ⟨rb, 0, none⟩ (.slice (some ⟨b, if k = cap then off else off + k, none⟩) (bs.length - k) (cap - k)) = W := ⟨_, rfl⟩
  have hl : Lies W (some ⟨b, off, none⟩) k (bs.take k) := by
    rw [← hW]
    exact .inr ⟨b, off, rfl, Nat.lt_of_lt_of_le h3 (Nat.le_trans h5.2 r3.size), fun j hj => by rw [take_get bs k j hj]; exact r2 j (by omega)⟩
  have hsz : W.heap.size = w.heap.size := by rw [← hW]; simp
  have hn : Calls Tryz.prog 156 #[.pointer (some ⟨rb, 0, none⟩), .int .i64 (k : Int)] w fun e w' => e = .returned (.tuple #[.slice (some ⟨b, off, none⟩) k cap, .bool true]) ∧ w' = W := by
    rw [← hW]; exact next_at rb b off bs.length cap k w h0 hk h1 h2
  rw [hW] at r1 r3
  obtain ⟨i0, hi, hz0, hz1, hz2⟩ := info_parts info_u8
  have HL0 : Hid ((bs.take k).length = k) := by show _ = _; rw [List.length_take]; omega
  have hA := Lib.hid hl
  have HN := copy_len HL0
  have H1 := copy_one (bs := bs.take k)
  have HC := Lib.hid hn
  have R1 := Lib.hid r1
  have R3 := Lib.hid r3
  have HS := Lib.hid hsz
  have hk1 : k ≤ 140737488351232 := by omega
  clear h0 h1 h2 h3 h4 h5 hk hl r1 r2 r3 hW hn hsz hcap
  go_enter Tryz.func151, Tryz.ntmps151
  go_wp2_with fail
  refine HC.out.mono ?_
  rintro e w' ⟨rfl, rfl⟩
  go_wp2_with (first | (at_make; refine wpList_make_full _ rfl _ _ 37 rfl w'.heap.size 5 i0 (.int .u8 0) 1 Tryz.underlying37 hi hz0 hz1 .i64 .i64 _ _ k rfl rfl rfl rfl (by rw [hz2]; omega) (by unfold maxLen; omega) (by simp) ?_; intro w1 hown1 hgrow1; obtain ⟨HB, HR, HP⟩ := copy_facts HL0 hA hown1 hgrow1; clear hown1 hgrow1) | (with_reducible refine wpList_copy_splice rfl (.tmp 19) (.tmp 20) 37 37 rfl 5 Tryz.underlying37 size_u8 _ _ k k k cap rfl rfl w'.heap.size 0 (List.replicate k (Value.int .u8 0)) 5 HR.out ((bs.take k).map (Value.int .u8)) HN.out HP.out (by rw [HN.out]; simp) H1.out w'.heap.size w' HB.out (Nat.le_refl _) ?_; intro w2 hg2 hB2))
  go_ret2
  have hB2' := hB2
  have e2 : splice (List.replicate k (Value.int .u8 0)) 0 ((bs.take k).map (Value.int .u8)) = (bs.take k).map (Value.int .u8) := splice_all _ _ (by rw [List.length_replicate, List.length_map, HL0.out])
  have h2 := hg2.out
  rw [e2] at h2
  exact ⟨_, rfl, Nat.le_of_eq HS.out.symm, by rw [← List.map_take]; exact h2, R1.out.below (grown_below hB2 none), grown_trans R3.out (grown_below hB2 _)⟩

end Go.Proofs.YtbdfllamhcodjaaGreat

/- The developers' fields: what stands in a block where a marked sector has its parts. -/
namespace Go.Proofs.YtbdfllamhcodjaaGreat
open Go.RowKit Go.Shelf
set_option linter.unusedVariables false
attribute [-simp] Tryz.isAgg60 Tryz.zeroValue60 Tryz.isAgg112 Tryz.zeroValue112 Tryz.isAgg189 Tryz.zeroValue189
attribute [-go_sem] loadVar storeVar
attribute [local go_sem] zero_blk build_blk zero_bod zero_pg build_pg build_pg0 loadVar_open4 storeVar_open4

set_option maxRecDepth 100000 in
/-- A marked sector that is a result's own cell is written and read. -/
theorem pg_cell {w x : World} {B : Nat} {u : List Value} {z : Array Value} (hw : x.heap[B]? = some (.cells z 189 (0, 0))) (hz : z.size = 51) (hB : w.heap.size ≤ B) (hb : Below w.heap.size w x) (hu : u.length = 51) (h1 : ∀ v ∈ u, v.oneCell' = true) :
    ∃ x', (storeVar 189 ⟨B, 0, none⟩ (.agg u.toArray)).run Tryz.prog x = .ok () x' ∧ (loadVar 189 ⟨B, 0, none⟩).run Tryz.prog x' = .ok (.agg u.toArray) x' ∧ Below w.heap.size w x' := by
  have ht : x.there B 0 51 := row_there hw 0 51 (by rw [hz]; exact Nat.le_refl _)
  have hs := store_pg ht hu h1
  exact ⟨_, hs, load_pg (World.rangeAt_setCells_same x _ 0 u (by rw [hu]; exact ht)) hu, hb.trans (below_cells hB _ _ _)⟩
theorem getL_one {y : Int} : getL [y] = y := by
  show getN [y] 1 = y
  simp [getN]

set_option maxRecDepth 100000 in
set_option maxHeartbeats 4000000 in
theorem pgFields (bs : List Int) (hb : IsBytes bs) (hl : bs.length = 64) (w : World) :
    Calls Tryz.prog 143 #[.agg (u8s bs).toArray] w fun e w' => e = .returned (.agg (Sct.of bs).cells.toArray) ∧ Below w.heap.size w w' := by
  obtain ⟨W1, hW1⟩ : ∃ W1, w.alloc (.cells (u8s bs).toArray 60) = W1 := ⟨_, rfl⟩
  have hB1 : Below w.heap.size w W1 := by rw [← hW1]; exact (Below.refl _ _).alloc (Nat.le_refl _) _
  have hz1 : W1.heap.size = w.heap.size + 1 := by rw [← hW1]; simp
  have hr1 : W1.heap[w.heap.size]? = some (.cells (u8s bs).toArray 60 (0, 0)) := by rw [← hW1]; exact heap_alloc_new w _
  obtain ⟨W, hW⟩ : ∃ W, W1.alloc (.cells zcs.toArray 189) = W := ⟨_, rfl⟩
  have hB2 : Below W1.heap.size W1 W := by rw [← hW]; exact (Below.refl _ _).alloc (Nat.le_refl _) _
  have HB : Hid (Below w.heap.size w W) := hB1.trans (hB2.mono hB1.size)
  have hr := (hB2.block _ (by omega)).trans hr1
  have HR2 : Hid (W.heap[w.heap.size + 1]? = some (.cells zcs.toArray 189 (0, 0))) := by
    have := heap_alloc_new W1 (.cells zcs.toArray 189)
    rw [hW, hz1] at this
    exact this
  have HZ : Hid (W.heap.size = w.heap.size + 2) := by show _ = _; rw [← hW, World.size_alloc, hz1]
  have HS : Hid (Sl .u8 W (.slice (some ⟨w.heap.size, 0, none⟩) 64 64) bs) := by
    have := sl_range (row_range hr) (by have := HZ.out; omega) (by rw [hl]; simp [maxLen])
    rw [hl] at this
    exact this
  have HOK := Lib.hid (of_ok hb hl)
  have HIX := Lib.hid (of_index hb hl)
  have HBS := Lib.hid hb
  have HL := Lib.hid hl
  have e0 : getL (bs.take 1) = (Sct.of bs).mark := by rw [take_one (by omega), getL_one]; rfl
  have e1 : getL ((bs.drop 1).take 4) = (Sct.of bs).seq := rfl
  have e2 : getL ((bs.drop 5).take 2) = (Sct.of bs).index := rfl
  obtain ⟨p, hp⟩ : ∃ p, Sct.of bs = p := ⟨_, rfl⟩
  have e3 : (bs.drop 7).take 48 = p.body := by rw [← hp]; rfl
  rw [hp] at e0 e1 e2 HOK HIX ⊢
  obtain ⟨mk, hmk⟩ : ∃ q, p.mark = q := ⟨_, rfl⟩
  obtain ⟨sq, hsq⟩ : ∃ q, p.seq = q := ⟨_, rfl⟩
  obtain ⟨ix, hix⟩ : ∃ q, p.index = q := ⟨_, rfl⟩
  rw [hmk] at e0
  rw [hsq] at e1
  rw [hix] at e2
  have E0 := Lib.hid e0
  have E1 := Lib.hid e1
  have E2 := Lib.hid e2
  have E3 := Lib.hid e3
  have EC : Hid (p.cells = .int .u8 mk :: .int .u32 sq :: .int .i64 ix :: u8s p.body) := by show _ = _; rw [← hmk, ← hsq, ← hix]; rfl
  have m0 : 0 ≤ mk := by rw [← hmk]; exact HOK.out.mark.1
  have m1 : mk < 256 := by rw [← hmk]; exact HOK.out.mark.2
  have s0 : 0 ≤ sq := by rw [← hsq]; exact HOK.out.seq.1
  have s1 : sq < 4294967296 := by rw [← hsq]; exact HOK.out.seq.2
  have i0 : 0 ≤ ix := by rw [← hix]; exact HIX.out.1
  have i1 : ix ≤ 65535 := by rw [← hix]; exact HIX.out.2
  clear hr hr1 hB1 hB2 hb hl e0 e1 e2 e3 hmk hsq hix hp HIX
  go_enter Tryz.func143, Tryz.ntmps143
  go_wp2_with fail
  go_at_call 150
  refine (newReader_any _ bs W HS.out (by rw [HL.out]; omega)).mono ?_
  rintro e x1 ⟨rb, rfl, hrb, hR, hb⟩
  obtain ⟨N, hN⟩ : ∃ N, x1.heap.size = N := ⟨_, rfl⟩
  rw [hN] at hR
  have HRB : Hid (w.heap.size ≤ rb) := Nat.le_trans HB.out.size (Nat.le_of_lt hrb)
  have R1 := Lib.hid hR
  have K1 : Hid (Below W.heap.size W x1) := hb
  have HW : Hid (W.heap.size ≤ rb) := Nat.le_of_lt hrb
  clear hR hb hrb hW hW1 hN HRB
  go_wp2_with fail
  go_at_call 153
  refine (num_yes rb bs 1 x1 R1.out HBS.out (by rw [HL.out]; omega)).mono ?_
  rintro e x2 ⟨rfl, hR, hg⟩
  rw [E0.out]
  have R2 := Lib.hid hR
  have K2 : Hid (Below W.heap.size W x2) := K1.out.grown hg K1.out.size (fun k e => by cases e; exact HW.out)
  clear hR hg
  go_wp2_with fail
  go_at_call 153
  refine (num_yes rb (bs.drop 1) 4 x2 R2.out (HBS.out.drop 1) (by rw [List.length_drop, HL.out]; omega)).mono ?_
  rintro e x3 ⟨rfl, hR, hg⟩
  rw [E1.out]
  rw [List.drop_drop] at hR
  have R3 := Lib.hid hR
  have K3 : Hid (Below W.heap.size W x3) := K2.out.grown hg K2.out.size (fun k e => by cases e; exact HW.out)
  clear hR hg
  go_wp2_with fail
  go_at_call 153
  refine (num_yes rb (bs.drop 5) 2 x3 R3.out (HBS.out.drop 5) (by rw [List.length_drop, HL.out]; omega)).mono ?_
  rintro e x4 ⟨rfl, hR, hg⟩
  rw [E2.out]
  rw [List.drop_drop] at hR
  have R4 := Lib.hid hR
  have K4 : Hid (Below W.heap.size W x4) := K3.out.grown hg K3.out.size (fun k e => by cases e; exact HW.out)
  clear hR hg
  go_wp2_with fail
  go_at_call 151
  refine (take_yes rb (bs.drop 7) 48 x4 R4.out (by rw [List.length_drop, HL.out]; omega) (by rw [List.length_drop, HL.out]; omega)).mono ?_
  rintro e x5 ⟨g, rfl, -, hrow, hR, hg⟩
  rw [E3.out] at hrow
  have K5 : Hid (Below W.heap.size W x5) := K4.out.grown hg K4.out.size (fun k e => by cases e; exact HW.out)
  have S5 : Hid (Sl .u8 x5 (.slice (some ⟨g, 0, none⟩) 48 48) p.body) := by
    have := sl_new hrow (by rw [HOK.out.len]; simp [maxLen])
    rw [HOK.out.len] at this
    exact this
  clear hrow hR hg
  -- the sector, and what goes into it
  obtain ⟨x6, hx6⟩ : ∃ x, x5.alloc (.cells (Value.int .u8 mk :: .int .u32 sq :: .int .i64 ix :: u8s (List.replicate 48 0)).toArray 189) = x := ⟨_, rfl⟩
  have ST1 : (storeVar 189 ⟨x5.heap.size, 0, none⟩ (.agg (Value.int .u8 mk :: .int .u32 sq :: .int .i64 ix :: u8s (List.replicate 48 0)).toArray)).run Tryz.prog (x5.alloc (.cells zcs.toArray 189)) = .ok () x6 := by
    rw [← hx6]
    exact store_new_pg zcs_len (by simp [u8s]) (Sct.cells_one ⟨mk, sq, ix, List.replicate 48 0⟩)
  have ST : (storeVar 189 ⟨x5.heap.size, 0, none⟩ (.agg (((zcs.set 0 (.int .u8 mk)).set 1 (.int .u32 sq)).set 2 (.int .i64 ix)).toArray)).run Tryz.prog (x5.alloc (.cells zcs.toArray 189)) = .ok () x6 := ST1
  have r6 : x6.heap[x5.heap.size]? = some (.cells (Value.int .u8 mk :: .int .u32 sq :: .int .i64 ix :: u8s (List.replicate 48 0)).toArray 189 (0, 0)) := by rw [← hx6]; exact heap_alloc_new x5 _
  have b6 : Below x5.heap.size x5 x6 := by rw [← hx6]; exact (Below.refl _ _).alloc (Nat.le_refl _) _
  have K6 : Hid (Below W.heap.size W x6) := K5.out.trans (b6.mono K5.out.size)
  have t6 : x6.there x5.heap.size 3 48 := row_there r6 3 48 (by simp [u8s])
  have RC0 := run_copy_bytes (B := x5.heap.size) (o := 3) (dLen := 48) (dCap := 48) 3 (S5.out.below b6) (by rw [HOK.out.len]; omega) (by rw [HOK.out.len]; exact t6)
  obtain ⟨x7, hx7⟩ : ∃ x, x6.setCells x5.heap.size 3 (u8s p.body) = x := ⟨_, rfl⟩
  rw [hx7, HOK.out.len] at RC0
  have K7 : Hid (Below W.heap.size W x7) := by rw [← hx7]; exact K6.out.trans ((below_cells (N := W.heap.size) K5.out.size _ _ _).mono (Nat.le_refl _))
  have ra7 : x7.rangeAt x5.heap.size 0 p.cells := by
    rw [EC.out, show (Value.int .u8 mk :: .int .u32 sq :: .int .i64 ix :: u8s p.body) = [.int .u8 mk, .int .u32 sq, .int .i64 ix] ++ u8s p.body from rfl, ← hx7]
    refine rangeAt_app ?_ (World.rangeAt_setCells_same x6 _ 3 _ (by rw [u8s_length, HOK.out.len]; exact t6))
    refine World.rangeAt_setCells_apart (fun j x hx => ?_) _ 3 _ (.inr (.inl (by simp)))
    rw [cell_of_row _ _ _ _ _ _ r6]
    match j, hx with
    | 0, hx => simpa using hx
    | 1, hx => simpa using hx
    | 2, hx => simpa using hx
    | j + 3, hx => simp at hx
  have L7 := Lib.hid (load_pg ra7 (Sct.cells_length HOK.out.len))
  obtain ⟨x8, st, ld, hb8⟩ := pg_cell (w := w) (x := x7) (B := w.heap.size + 1) (u := p.cells) ((K7.out.block _ (by have := HZ.out; omega)).trans HR2.out) zcs_len (Nat.le_succ _) (HB.out.trans (K7.out.mono HB.out.size)) (Sct.cells_length HOK.out.len) (Sct.cells_one _)
  have HB8 := Lib.hid hb8
  have HLD := Lib.hid ld
  clear hb8 ld ra7 t6 r6 b6 ST1 hx6 hx7
  go_wp2_with fail
  clear ST RC0
  rw [L7.out]
  go_wp2_with fail
  exact bodyPost_ret (results_cell rfl rfl HLD.out) rfl ⟨rfl, HB8.out⟩
end Go.Proofs.YtbdfllamhcodjaaGreat

/- The library's Grow and Concat at bytes. -/
namespace Go.Proofs.YtbdfllamhcodjaaGreat
open Go.RowKit Go.Shelf
set_option linter.unusedVariables false

set_option maxRecDepth 100000 in
set_option maxHeartbeats 1600000 in
/-- **Grow** of the nil slice: room, and no bytes. -/
theorem grow_nil (n : Nat) (hn : n ≤ 1000000) (w : World) :
    Calls Tryz.prog 147 #[.slice none 0 0, .int .i64 (n : Int)] w fun e w' => ∃ v, e = .returned v ∧ w'.ownsRow w.heap.size 5 1 v 0 [] ∧ Below w.heap.size w w' := by
  obtain ⟨i0, hi, hz0, hz1, hz2⟩ := info_parts info_u8
  have g0 : ¬ ((n : Int) < 0) := by omega
  have g1 : decide ((n : Int) < 0) = false := by simp
  by_cases h : 0 < n
  · have g2 : decide ((n : Int) > 0) = true := by simp; omega
    have hr := fun ty => Lib.run_append_grow_zeros (P := Tryz.prog) w 37 3 ty 5 i0 (.int .u8 0) .i64 .i64 Tryz.underlying37 Tryz.underlying3 hi hz0 none 0 0 [] (run_firstCells_none w.drew i0.size 0 0 0) n h (by omega) (by omega) (by omega) (by rw [hz2]; omega)
      (by rw [hz2]; exact growslice_fits (by omega) (by omega))
    have hc1 := grownCap_ge w (0 + n) 0 5
    have hc2 := grownCap_le_maxLen w (0 + n) 0 5 (by unfold maxLen; omega)
    obtain ⟨G, hG⟩ : ∃ G, grownCap w (0 + n) 0 5 = G := ⟨_, rfl⟩
    rw [hG] at hr hc1 hc2
    obtain ⟨W, hW⟩ : ∃ W, w.drew.alloc (.cells (([] : List Value).toArray ++ Builtin.zeroCells (Value.int .u8 0).cells n ++ Builtin.zeroCells (Value.int .u8 0).cells (G - (0 + n))) 5) = W := ⟨_, rfl⟩
    rw [hW] at hr
    have HO : Hid (W.ownsRow w.heap.size 5 1 (.slice (some ⟨w.heap.size, 0, none⟩) 0 G) 0 []) := by
      refine ⟨by simp, .inr ⟨w.heap.size, G, _, rfl, Nat.le_refl _, by rw [← hW]; exact heap_alloc_new w.drew _, Nat.zero_le _, hc2, ?_, by simp⟩⟩
      simp [size_zeroCells, Value.cells]
      omega
    have HB : Hid (Below w.heap.size w W) := by rw [← hW]; exact ((Below.refl _ w).drew).alloc (Nat.le_refl _) _
    have HR := Lib.hid hr
    have g3 : G ≤ 9223372036854775807 := by unfold maxLen at hc2; omega
    clear hr hW hc2 hG hz0 hz1 hz2 hi
    go_enter Tryz.func147, Tryz.ntmps147
    go_wp2_with (at_builtin; refine Lib.wpList_append_run _ rfl _ _ _ _ rfl _ _ rfl rfl _ _ (HR.out _) ?_)
    go_ret
    exact ⟨_, rfl, HO.out, HB.out⟩
  · obtain rfl : n = 0 := by omega
    go_enter Tryz.func147, Tryz.ntmps147
    go_wp2
    go_ret
    exact ⟨_, rfl, World.ownsRow_nil _ _ _ _, Below.refl _ _⟩

/-- A slice of slices of bytes. -/
def Sls (w : World) (v : Value) (bss : List (List Int)) : Prop :=
  ∃ B cap, v = .slice (some ⟨B, 0, none⟩) bss.length cap ∧ bss.length ≤ cap ∧ cap ≤ maxLen ∧ B < w.heap.size ∧ ∀ k, k < bss.length → ∃ u, w.cell? ⟨B, k, none⟩ = some u ∧ Sl .u8 w u (bss[k]?.getD [])
theorem take_snoc_nil (bss : List (List Int)) {k : Nat} (h : k < bss.length) : bss.take (k + 1) = bss.take k ++ [bss[k]?.getD []] := by
  rw [List.take_succ_eq_append_getElem h, List.getElem?_eq_getElem h]
  rfl
theorem flat_snocB (bss : List (List Int)) {k : Nat} (h : k < bss.length) : (bss.take (k + 1)).flatten = (bss.take k).flatten ++ bss[k]?.getD [] := by
  rw [take_snoc_nil bss h]; simp
theorem flat_le (bss : List (List Int)) (k : Nat) : (bss.take k).flatten.length ≤ bss.flatten.length := by
  conv => rhs; rw [← List.take_append_drop k bss]
  rw [List.flatten_append, List.length_append]
  omega

set_option maxRecDepth 100000 in
set_option maxHeartbeats 1600000 in
/-- **Concat**. -/
theorem concat_any (v : Value) (bss : List (List Int)) (w : World) (hv : Sls w v bss) (hl : bss.flatten.length ≤ 1000000) :
    Calls Tryz.prog 136 #[v] w fun e w' => ∃ v, e = .returned v ∧ w'.ownsRow w.heap.size 5 1 v bss.flatten.length (u8s bss.flatten) ∧ Below w.heap.size w w' := by
  obtain ⟨B, cap, rfl, h1, h2, h3, h4⟩ := hv
  obtain ⟨n, hn⟩ : ∃ n, bss.length = n := ⟨_, rfl⟩
  have HN := Lib.hid hn
  have HL := Lib.hid hl
  rw [hn] at h1 h4 ⊢
  have H4 := Lib.hid h4
  have hm : (n : Int) ≤ 9223372036854775807 := by unfold maxLen at h2; omega
  clear hn hl h4 h2
  go_enter Tryz.func136, Tryz.ntmps136
  go_wp2_with fail
  go_loop [3, 11] (fun s i => ∃ k : Nat, k ≤ n ∧ i = .int .i64 k ∧ s = .int .i64 (((bss.take k).flatten.length : Nat) : Int)) (fun _ i => n - (intOf i).toNat)
  case atStart => exact ⟨0, Nat.zero_le _, rfl, rfl⟩
  case round =>
    obtain ⟨k, hk, rfl, rfl⟩ := hrel
    obtain ⟨m, hm0⟩ : ∃ m, (bss.take k).flatten.length = m := ⟨_, rfl⟩
    rw [hm0]
    by_cases hlt : k < n
    · have hlt' : decide ((k : Int) < (n : Int)) = true := by simp; omega
      obtain ⟨u, c0, ⟨a, cp, rfl, -⟩⟩ := H4.out k hlt
      obtain ⟨q, hq⟩ : ∃ q, (bss[k]?.getD []).length = q := ⟨_, rfl⟩
      rw [hq] at c0
      have hs : (bss.take (k + 1)).flatten.length = m + q := by rw [flat_snocB bss (by rw [HN.out]; exact hlt), List.length_append, hm0, hq]
      have hb := flat_le bss (k + 1)
      have hb2 := HL.out
      have g5 : (m : Int) + (q : Int) ≤ 1000000 := by omega
      have g6 : decide ((m : Int) + (q : Int) < 0) = false := by simp; omega
      have HS := Lib.hid hs
      clear hs hb hb2 hq hm0
      go_wp2_with fail
      go_round
      case rel => exact ⟨k + 1, by omega, by go_num, by rw [HS.out]; simp⟩
      case measure => simp [intOf]; omega
    · have hlt' : decide ((k : Int) < (n : Int)) = false := by simp; omega
      obtain rfl : k = n := by omega
      have hmb : m ≤ 1000000 := by rw [← hm0]; exact Nat.le_trans (flat_le bss k) HL.out
      clear hm0
      go_wp2_with fail
      go_at_call 147
      refine (grow_nil m hmb w).mono ?_
      rintro e w1 ⟨v1, rfl, hO, hB⟩
      have HO := Lib.hid hO
      have HB := Lib.hid hB
      clear hO hB
      go_wp2_with fail
      go_loopw [6, 27] (fun v i wr => ∃ j : Nat, j ≤ k ∧ i = .int .i64 j ∧ Hid (OwnB w wr v (bss.take j).flatten) ∧ Hid (Below w.heap.size w wr)) (fun _ i _ => k - (intOf i).toNat)
      case atStart => exact ⟨0, Nat.zero_le _, rfl, HO, HB⟩
      case round =>
        obtain ⟨j, hj, rfl, HO, HB⟩ := hrel
        by_cases hlt : j < k
        · have hlt' : decide ((j : Int) < (k : Int)) = true := by simp; omega
          obtain ⟨u, c0, hu⟩ := H4.out j hlt
          have c1 : wr.cell? ⟨B, j, none⟩ = some u := (HB.out.cell (p := ⟨B, j, none⟩) h3).trans c0
          obtain ⟨v5, x3, R3, O3, K3⟩ := HO.out.app HB.out (hu.below HB.out) (by
            rw [← List.length_append, ← flat_snocB bss (by rw [HN.out]; exact hlt)]
            exact Nat.le_trans (flat_le bss _) HL.out)
          clear c0 hu
          go_wp2_with (at_builtin; refine wpList_append_run (.tmp 31) (.tmp 32) 37 rfl rfl _ _ _ rfl rfl R3.out ?_)
          go_roundw
          case rel => exact ⟨j + 1, by omega, by go_num, by rw [flat_snocB bss (by rw [HN.out]; exact hlt)]; exact O3, K3⟩
          case measure => simp [intOf]; omega
        · have hlt' : decide ((j : Int) < (k : Int)) = false := by simp; omega
          obtain rfl : j = k := by omega
          have e1 : bss.take j = bss := List.take_of_length_le (by rw [HN.out]; exact Nat.le_refl _)
          rw [e1] at HO
          clear e1
          go_wp2_with fail
          go_ret
          exact ⟨_, rfl, HO.out, HB.out⟩
end Go.Proofs.YtbdfllamhcodjaaGreat

/- The developers' Encode. -/
namespace Go.Proofs.YtbdfllamhcodjaaGreat
open Go.RowKit Go.Shelf
set_option linter.unusedVariables false
attribute [-simp] Tryz.isAgg60 Tryz.zeroValue60
attribute [-go_sem] loadVar storeVar
attribute [local go_sem] zero_blk build_blk loadVar_open storeVar_open

set_option maxRecDepth 100000 in
theorem build_sls (w : World) (a b c d : Option Addr) (la lb lc ld ca cb cc cd : Nat) :
    (Instr.buildSlice 238 4 #[(0, .slice a la ca), (1, .slice b lb cb), (2, .slice c lc cc), (3, .slice d ld cd)]).run Tryz.prog w = .ok (.slice (some ⟨w.heap.size, 0, none⟩) 4 4) (w.alloc (.cells #[.slice a la ca, .slice b lb cb, .slice c lc cc, .slice d ld cd] 37)) := by
  kernel_rfl
theorem putL_one {n : Int} (h0 : 0 ≤ n) (h1 : n < 256) : putL n 1 = [n] := by
  show [_] = _
  simp
  omega

set_option maxRecDepth 100000 in
set_option maxHeartbeats 4000000 in
theorem pgEncode (p : Sct) (hp : p.Ok) (w : World) :
    Calls Tryz.prog 135 #[.agg p.cells.toArray] w fun e w' => e = .returned (.tuple #[.agg p.code.toArray, .int .i64 p.codeE]) ∧ Below w.heap.size w w' := by
  obtain ⟨W1, hW1⟩ : ∃ W1, w.alloc (.cells p.cells.toArray 189) = W1 := ⟨_, rfl⟩
  have hB1 : Below w.heap.size w W1 := by rw [← hW1]; exact (Below.refl _ _).alloc (Nat.le_refl _) _
  have hz1 : W1.heap.size = w.heap.size + 1 := by rw [← hW1]; simp
  have hr1 : W1.heap[w.heap.size]? = some (.cells p.cells.toArray 189 (0, 0)) := by rw [← hW1]; exact heap_alloc_new w _
  obtain ⟨W, hW⟩ : ∃ W, W1.alloc (.cells zarr 60) = W := ⟨_, rfl⟩
  have hB2 : Below W1.heap.size W1 W := by rw [← hW]; exact (Below.refl _ _).alloc (Nat.le_refl _) _
  have HB : Hid (Below w.heap.size w W) := hB1.trans (hB2.mono hB1.size)
  have HR : Hid (W.heap[w.heap.size]? = some (.cells p.cells.toArray 189 (0, 0))) := (hB2.block _ (by omega)).trans hr1
  have HR2 : Hid (W.heap[w.heap.size + 1]? = some (.cells zarr 60 (0, 0))) := by
    have := heap_alloc_new W1 (.cells zarr 60)
    rw [hW, hz1] at this
    exact this
  have HZ : Hid (W.heap.size = w.heap.size + 2) := by show _ = _; rw [← hW, World.size_alloc, hz1]
  have HP := Lib.hid hp
  have c0 : W.cell? ⟨w.heap.size, 0, none⟩ = some (.int .u8 p.mark) := cell_of_row W _ 0 _ _ _ HR.out
  have c2 : W.cell? ⟨w.heap.size, 2, none⟩ = some (.int .i64 p.index) := cell_of_row W _ 2 _ _ _ HR.out
  have HC1 : Hid (∀ y : World, Below W.heap.size W y → y.cell? ⟨w.heap.size, 1, none⟩ = some (.int .u32 p.seq)) := fun y hy => (hy.cell (p := ⟨w.heap.size, 1, none⟩) (by have := HZ.out; show w.heap.size < _; omega)).trans (cell_of_row W _ 1 _ _ _ HR.out)
  have HC2 : Hid (∀ y : World, Below W.heap.size W y → y.cell? ⟨w.heap.size, 2, none⟩ = some (.int .i64 p.index)) := fun y hy => (hy.cell (p := ⟨w.heap.size, 2, none⟩) (by have := HZ.out; show w.heap.size < _; omega)).trans (cell_of_row W _ 2 _ _ _ HR.out)
  clear hB1 hB2 hr1 hp
  obtain ⟨mk, hmk⟩ : ∃ q, p.mark = q := ⟨_, rfl⟩
  obtain ⟨sq, hsq⟩ : ∃ q, p.seq = q := ⟨_, rfl⟩
  obtain ⟨ix, hix⟩ : ∃ q, p.index = q := ⟨_, rfl⟩
  have EM := Lib.hid hmk
  have ES := Lib.hid hsq
  have EI := Lib.hid hix
  rw [hmk] at c0
  rw [hix] at c2 HC2
  rw [hsq] at HC1
  clear hmk hsq hix
  by_cases hf : p.fits = true
  · have hfx := of_decide_eq_true hf
    rw [EM.out, EI.out] at hfx
    obtain ⟨m1, m2, m3⟩ := hfx
    have q0 : (mk == 0) = false := by simpa using m1
    have q1 : decide (ix < 0) = false := by simp; omega
    have q2 : decide (65535 < ix) = false := by simp; omega
    have HF := Lib.hid hf
    clear hf
    have hmx : Tryz.prog.follows .mixedOrders = true := by kernel_rfl
    have HI0 : Hid (0 ≤ ix) := m2
    have HI1 : Hid (ix ≤ 65535) := m3
    have HSB : Hid (Sl .u8 W (.slice (some ⟨w.heap.size, 3, none⟩) 48 48) p.body) := by
      have := sl_range (bs := p.body) (row_part (a := [.int .u8 p.mark, .int .u32 p.seq, .int .i64 p.index]) (b := u8s p.body) HR.out) (by have := HZ.out; omega) (by rw [HP.out.len]; simp [maxLen])
      rw [HP.out.len] at this
      exact this
    have m0 : 0 ≤ mk := by rw [← EM.out]; exact HP.out.mark.1
    have m9 : mk < 256 := by rw [← EM.out]; exact HP.out.mark.2
    have HS0 : Hid (0 ≤ sq) := by show _ ≤ _; rw [← ES.out]; exact HP.out.seq.1
    have HS1 : Hid (sq < 4294967296) := by show _ < _; rw [← ES.out]; exact HP.out.seq.2
    have HM0 := Lib.hid m0
    have HM1 := Lib.hid m9
    clear m1 m2 m3
    go_enter Tryz.func135, Tryz.ntmps135
    have d0 : ∀ y : Ext W, y.1.cell? ⟨w.heap.size, 0, none⟩ = some (.int .u8 mk) := fun y => (y.2.cell (p := ⟨w.heap.size, 0, none⟩) (by have := HZ.out; show w.heap.size < _; omega)).trans c0
    have d1 : ∀ y : Ext W, y.1.cell? ⟨w.heap.size, 1, none⟩ = some (.int .u32 sq) := fun y => HC1.out y.1 y.2
    have d2 : ∀ y : Ext W, y.1.cell? ⟨w.heap.size, 2, none⟩ = some (.int .i64 ix) := fun y => HC2.out y.1 y.2
    have s0 := HS0.out
    have s1 := HS1.out
    have i0 := HI0.out
    have i1 := HI1.out
    have HPut0 : Hid (∀ x : World, Calls Tryz.prog 137 #[.int .u64 mk, .int .i64 1] x fun e w' => ∃ v, e = .returned v ∧ w'.ownsRow x.heap.size 5 1 v 1 ((putL mk 1).map (Value.int .u8)) ∧ Below x.heap.size x w') := fun x => put_some mk 1 x (by omega) (by omega) m0 (by omega)
    have HPut1 : Hid (∀ x : World, Calls Tryz.prog 137 #[.int .u64 sq, .int .i64 4] x fun e w' => ∃ v, e = .returned v ∧ w'.ownsRow x.heap.size 5 1 v 4 ((putL sq 4).map (Value.int .u8)) ∧ Below x.heap.size x w') := fun x => put_some sq 4 x (by omega) (by omega) s0 (by omega)
    have HPut2 : Hid (∀ x : World, Calls Tryz.prog 137 #[.int .u64 ix, .int .i64 2] x fun e w' => ∃ v, e = .returned v ∧ w'.ownsRow x.heap.size 5 1 v 2 ((putL ix 2).map (Value.int .u8)) ∧ Below x.heap.size x w') := fun x => put_some ix 2 x (by omega) (by omega) i0 (by omega)
    go_wp2_with fail
    clear q0 q1 q2 c2 c0 hW1 hW
    refine region_plan (fun x => ∃ y : Ext W, x = y.1) 16 (.takes [0, 1, 2, 4, 5, 6, 8, 9, 10, 12, 13] (.one 3 (.one 7 (.one 11 (.one 14 (.one 15 .leaf)))))) hmx (by kernel_rfl) (by intro c x v a w h; cases x <;> exact h) ⟨⟨W.drew, (Below.refl _ W).drew⟩, rfl⟩ ?_
    repeat (rw [wpPlan_takes_cons]; simp only [nth_zero, nth_succ]; go_big_quiet_step (fail); refine wpQuiet_nil ?_)
    rw [wpPlan_takes_nil]
    clear s0 s1 i0 i1 d0 d1 d2 m0 m9
    have KD : Hid (Below W.heap.size W W.drew) := (Below.refl _ W).drew
    rw [wpPlan_one]
    simp only [nth_zero, nth_succ]
    go_wp2_with fail
    go_at_call 137
    refine (HPut0.out W.drew).mono ?_
    rintro e x1 ⟨v1, rfl, hrow, hb⟩
    have K1 : Hid (Below W.heap.size W x1) := KD.out.trans hb
    have hs := Sl.of_owns (bs := putL mk 1) (by rw [putL_length]; exact hrow)
    obtain ⟨a1, n1, hv, -⟩ := id hs
    rw [putL_length] at hv
    subst hv
    have S1 := Lib.hid hs
    clear hrow hb hs
    go_wp2_with fail
    refine planPost_mk ⟨⟨x1, K1.out⟩, rfl⟩ ?_
    rw [wpPlan_one]
    simp only [nth_zero, nth_succ]
    go_wp2_with fail
    go_at_call 137
    refine (HPut1.out x1).mono ?_
    rintro e x2 ⟨v2, rfl, hrow, hb⟩
    have K2 : Hid (Below W.heap.size W x2) := K1.out.trans (hb.mono K1.out.size)
    have T1 := Lib.hid (S1.out.below hb)
    have hs := Sl.of_owns (bs := putL sq 4) (by rw [putL_length]; exact hrow)
    obtain ⟨a2, n2, hv, -⟩ := id hs
    rw [putL_length] at hv
    subst hv
    have S2 := Lib.hid hs
    clear hrow hb hs S1
    go_wp2_with fail
    refine planPost_mk ⟨⟨x2, K2.out⟩, rfl⟩ ?_
    rw [wpPlan_one]
    simp only [nth_zero, nth_succ]
    go_wp2_with fail
    go_at_call 137
    refine (HPut2.out x2).mono ?_
    rintro e x3 ⟨v3, rfl, hrow, hb⟩
    have K3 : Hid (Below W.heap.size W x3) := K2.out.trans (hb.mono K2.out.size)
    have U1 := Lib.hid (T1.out.below hb)
    have U2 := Lib.hid (S2.out.below hb)
    have hs := Sl.of_owns (bs := putL ix 2) (by rw [putL_length]; exact hrow)
    obtain ⟨a3, n3, hv, -⟩ := id hs
    rw [putL_length] at hv
    subst hv
    have U3 := Lib.hid hs
    clear hrow hb hs T1 S2
    go_wp2_with fail
    refine planPost_mk ⟨⟨x3, K3.out⟩, rfl⟩ ?_
    rw [wpPlan_one]
    simp only [nth_zero, nth_succ]
    obtain ⟨x4, hx4⟩ : ∃ x, x3.alloc (.cells #[.slice a1 1 n1, .slice a2 4 n2, .slice a3 2 n3, .slice (some ⟨w.heap.size, 3, none⟩) 48 48] 37) = x := ⟨_, rfl⟩
    have b34 : Below x3.heap.size x3 x4 := by rw [← hx4]; exact (Below.refl _ _).alloc (Nat.le_refl _) _
    have K4 : Hid (Below W.heap.size W x4) := K3.out.trans (b34.mono K3.out.size)
    have r4 : x4.heap[x3.heap.size]? = some (.cells #[.slice a1 1 n1, .slice a2 4 n2, .slice a3 2 n3, .slice (some ⟨w.heap.size, 3, none⟩) 48 48] 37 (0, 0)) := by rw [← hx4]; exact heap_alloc_new x3 _
    have BS : (Instr.buildSlice 238 4 #[(0, .slice a1 1 n1), (1, .slice a2 4 n2), (2, .slice a3 2 n3), (3, .slice (some ⟨w.heap.size, 3, none⟩) 48 48)]).run Tryz.prog x3 = .ok (.slice (some ⟨x3.heap.size, 0, none⟩) 4 4) x4 := by rw [← hx4]; exact build_sls x3 a1 a2 a3 (some ⟨w.heap.size, 3, none⟩) 1 4 2 48 n1 n2 n3 48
    have SS : Hid (Sls x4 (.slice (some ⟨x3.heap.size, 0, none⟩) 4 4) [putL mk 1, putL sq 4, putL ix 2, p.body]) := by
      refine ⟨x3.heap.size, 4, rfl, Nat.le_refl _, by unfold maxLen; omega, by rw [← hx4]; simp, fun k hk => ?_⟩
      have hk' : k < 4 := hk
      match k, hk' with
      | 0, _ => exact ⟨_, cell_of_row _ _ 0 _ _ _ r4, U1.out.below b34⟩
      | 1, _ => exact ⟨_, cell_of_row _ _ 1 _ _ _ r4, U2.out.below b34⟩
      | 2, _ => exact ⟨_, cell_of_row _ _ 2 _ _ _ r4, U3.out.below b34⟩
      | 3, _ => exact ⟨_, cell_of_row _ _ 3 _ _ _ r4, HSB.out.below K4.out⟩
    clear b34 r4 hx4
    refine wpList_build_run _ _ _ rfl rfl _ _ rfl BS ?_
    clear BS
    go_wp2_with fail
    refine planPost_mk ⟨⟨x4, K4.out⟩, rfl⟩ ?_
    rw [wpPlan_one]
    simp only [nth_zero, nth_succ]
    go_wp2_with fail
    go_at_call 136
    have hfl : [putL mk 1, putL sq 4, putL ix 2, p.body].flatten = p.head := by
      simp [Sct.head, EM.out, ES.out, EI.out, putL_one HM0.out HM1.out]
    have hcc := concat_any _ _ x4 SS.out (by rw [hfl, Sct.head_length HP.out]; omega)
    rw [hfl] at hcc
    refine hcc.mono ?_
    clear hcc hfl
    rintro e x5 ⟨v5, rfl, hrow, hb⟩
    have K5 : Hid (Below W.heap.size W x5) := K4.out.trans (hb.mono K4.out.size)
    have S5 : Hid (Sl .u8 x5 v5 p.head) := Sl.of_owns (bs := p.head) hrow
    clear hrow hb SS U1 U2 U3
    go_wp2_with fail
    refine planPost_mk ⟨⟨x5, K5.out⟩, rfl⟩ ?_
    rw [wpPlan_leaf]
    simp only [List.drop_succ_cons, List.drop_zero]
    -- the block, and what goes into it
    obtain ⟨x6, hx6⟩ : ∃ x, x5.alloc (.cells zarr 60) = x := ⟨_, rfl⟩
    have K6 : Hid (Below W.heap.size W x6) := by rw [← hx6]; exact K5.out.alloc K5.out.size _
    have r6 : x6.heap[x5.heap.size]? = some (.cells zarr 60 (0, 0)) := by rw [← hx6]; exact heap_alloc_new x5 _
    have S6 : Hid (Sl .u8 x6 v5 p.head) := by rw [← hx6]; exact S5.out.below ((Below.refl _ x5).alloc (Nat.le_refl _) _)
    have z6 : x5.heap.size < x6.heap.size := by rw [← hx6]; simp
    have RC0 := run_copy_bytes (B := x5.heap.size) (o := 0) (dLen := 64) (dCap := 64) 3 S6.out (by rw [Sct.head_length HP.out]; omega) (row_there r6 0 _ (by rw [Sct.head_length HP.out, zarr_size]; omega))
    obtain ⟨x7, hx7⟩ : ∃ x, x6.setCells x5.heap.size 0 (u8s p.head) = x := ⟨_, rfl⟩
    have K7 : Hid (Below W.heap.size W x7) := by rw [← hx7]; exact K6.out.trans ((below_cells (N := W.heap.size) K5.out.size _ _ _).mono (Nat.le_refl _))
    have b57 : Below x5.heap.size x5 x7 := by rw [← hx7, ← hx6]; exact ((Below.refl _ x5).alloc (Nat.le_refl _) _).trans ((below_cells (N := x5.heap.size) (Nat.le_refl _) _ _ _).mono (Nat.le_refl _))
    have S7 : Hid (Sl .u8 x7 v5 p.head) := S5.out.below b57
    have z7 : Hid (x5.heap.size < x7.heap.size) := by show _ < _; rw [← hx7]; exact Nat.lt_of_lt_of_le z6 (below_cells (N := 0) (Nat.zero_le _) _ _ _).size
    have h7 : Hid (x7.rangeAt x5.heap.size 0 (u8s p.head)) := by
      show World.rangeAt _ _ _ _
      rw [← hx7]; exact World.rangeAt_setCells_same x6 _ 0 _ (by rw [u8s_length, Sct.head_length HP.out]; exact row_there r6 0 55 (by rw [zarr_size]; omega))
    have l7 : Hid (x7.rangeAt x5.heap.size 63 [.int .u8 0]) := by
      show World.rangeAt _ _ _ _
      rw [← hx7]
      refine World.rangeAt_setCells_apart (fun j x hx => ?_) _ 0 _ (by rw [u8s_length, Sct.head_length HP.out]; simp)
      rw [cell_of_row _ _ _ _ _ _ r6]
      match j, hx with
      | 0, hx => simp at hx; subst hx; rfl
      | j + 1, hx => simp at hx
    have t7 : Hid (x7.there x5.heap.size 55 8) := by
      show World.there _ _ _ _
      rw [← hx7]; exact World.there_setCells (row_there r6 55 8 (by rw [zarr_size]; omega)) _ _ _
    rw [hx7, Sct.head_length HP.out] at RC0
    clear hx7 z6 b57 r6 S6 K6 S5
    go_wp2_with fail
    have KD7 : Below x7.heap.size x7 x7.drew := (Below.refl _ x7).drew
    refine region_plan (fun x => ∃ y : Ext x7, x = y.1) 5 (.takes [0, 1, 2] (.one 3 (.one 4 .leaf))) hmx (by kernel_rfl) (by intro c x v a w h; cases x <;> exact h) ⟨⟨x7.drew, KD7⟩, rfl⟩ ?_
    repeat (rw [wpPlan_takes_cons]; simp only [nth_zero, nth_succ]; go_big_quiet_step (fail); refine wpQuiet_nil ?_)
    rw [wpPlan_takes_nil, wpPlan_one]
    simp only [nth_zero, nth_succ]
    go_wp2_with fail
    go_at_call 146
    refine (check_any v5 p.head x7.drew (S7.out.below KD7) (Sct.head_bytes HP.out)).mono ?_
    rintro e x8 ⟨rfl, hb⟩
    have B8 : Hid (Below x7.heap.size x7 x8) := KD7.trans hb
    obtain ⟨ck, hck⟩ : ∃ q, fnvMore fnvInit p.head = q := ⟨_, rfl⟩
    have HCK := Lib.hid hck
    have HU := Lib.hid (chk_u64 p.head)
    rw [hck]
    clear hck hb KD7
    go_wp2_with fail
    refine planPost_mk ⟨⟨x8, B8.out⟩, rfl⟩ ?_
    rw [wpPlan_one]
    simp only [nth_zero, nth_succ]
    go_wp2_with fail
    go_at_call 137
    refine (put_some ck 8 x8 (by omega) (by omega) (by rw [← HCK.out]; exact HU.out.1) (by rw [← HCK.out]; exact HU.out.2)).mono ?_
    rintro e x9 ⟨v9, rfl, hrow, hb⟩
    have B9 : Hid (Below x7.heap.size x7 x9) := B8.out.trans (hb.mono B8.out.size)
    have K9 : Hid (Below W.heap.size W x9) := K7.out.trans (B9.out.mono K7.out.size)
    have S9 : Hid (Sl .u8 x9 v9 (putL ck 8)) := Sl.of_owns (bs := putL ck 8) (by rw [putL_length]; exact hrow)
    clear hrow hb
    go_wp2_with fail
    refine planPost_mk ⟨⟨x9, B9.out⟩, rfl⟩ ?_
    rw [wpPlan_leaf]
    simp only [List.drop_succ_cons, List.drop_zero]
    have t9 : x9.there x5.heap.size 55 8 := there_below B9.out z7.out t7.out
    have RC1 := run_copy_bytes (B := x5.heap.size) (o := 55) (dLen := 9) (dCap := 9) 3 S9.out (by rw [putL_length]; omega) (by rw [putL_length]; exact t9)
    obtain ⟨x10, hx10⟩ : ∃ x, x9.setCells x5.heap.size 55 (u8s (putL ck 8)) = x := ⟨_, rfl⟩
    have K10 : Hid (Below W.heap.size W x10) := by rw [← hx10]; exact K9.out.trans ((below_cells (N := W.heap.size) K5.out.size _ _ _).mono (Nat.le_refl _))
    have rb : x10.rangeAt x5.heap.size 0 (u8s p.bytes) := by
      have e1 : u8s p.bytes = u8s p.head ++ (u8s (putL ck 8) ++ [.int .u8 0]) := by
        rw [← HCK.out]; simp [u8s, Sct.bytes, chk]
      rw [e1]
      refine rangeAt_app ?_ ?_
      · rw [← hx10]
        exact World.rangeAt_setCells_apart (range_below B9.out z7.out h7.out) _ 55 _ (.inr (.inl (by rw [u8s_length, Sct.head_length HP.out]; omega)))
      · rw [u8s_length, Sct.head_length HP.out]
        intro j x hx
        by_cases hj : j < 8
        · rw [List.getElem?_append_left (by rw [u8s_length, putL_length]; exact hj)] at hx
          rw [← hx10]
          exact World.rangeAt_setCells_same x9 _ 55 _ (by rw [u8s_length, putL_length]; exact t9) j x hx
        · rw [List.getElem?_append_right (by rw [u8s_length, putL_length]; omega), u8s_length, putL_length] at hx
          have := World.rangeAt_setCells_apart (range_below B9.out z7.out l7.out) x5.heap.size 55 (u8s (putL ck 8)) (.inr (.inr (by rw [u8s_length, putL_length]; omega))) (j - 8) x hx
          rw [hx10, show 63 + (j - 8) = 55 + j by omega] at this
          exact this
    rw [hx10, putL_length] at RC1
    have L10 : (loadVar 60 ⟨x5.heap.size, 0, none⟩).run Tryz.prog x10 = .ok (.agg (u8s p.bytes).toArray) x10 := load_blk rb (by rw [u8s_length]; exact Sct.bytes_length HP.out)
    obtain ⟨x11, st, ld, hb11⟩ := blk_cell (w := w) (x := x10) (B := w.heap.size + 1) (u := u8s p.bytes) ((K10.out.block _ (by have := HZ.out; omega)).trans HR2.out) zarr_size (Nat.le_succ _) (HB.out.trans (K10.out.mono HB.out.size)) (isBlk_u8s (Sct.bytes_length HP.out))
    have HB11 := Lib.hid hb11
    have HLD := Lib.hid ld
    clear hx10 rb hb11 ld t9
    go_wp2_with fail
    have hE : p.code = u8s p.bytes ∧ p.codeE = 0 := by unfold Sct.code Sct.codeE; rw [if_pos HF.out, if_pos HF.out]; exact ⟨rfl, rfl⟩
    rw [hE.1, hE.2]
    exact bodyPost_ret (results_cell2 rfl rfl HLD.out) rfl ⟨rfl, HB11.out⟩
  · have hE : Hid (p.code = fillB 0 ∧ p.codeE = 11) := by refine (?_ : _ ∧ _); unfold Sct.code Sct.codeE; rw [if_neg hf, if_neg hf]; exact ⟨rfl, rfl⟩
    have hq : (mk == 0) = true ∨ ((mk == 0) = false ∧ decide (ix < 0) = true) ∨ ((mk == 0) = false ∧ decide (ix < 0) = false ∧ decide (65535 < ix) = true) := by
      have hfx : ¬ (p.mark ≠ 0 ∧ 0 ≤ p.index ∧ p.index ≤ 65535) := fun h => hf (decide_eq_true h)
      rw [EM.out, EI.out] at hfx
      by_cases h0 : mk = 0
      · exact .inl (by simpa using h0)
      · by_cases h1 : ix < 0
        · exact .inr (.inl ⟨by simpa using h0, by simpa using h1⟩)
        · exact .inr (.inr ⟨by simpa using h0, by simpa using h1, by simp; omega⟩)
    obtain ⟨x2, st, ld, hb2⟩ := blk_cell HR2.out zarr_size (Nat.le_succ _) HB.out (isBlk_fill 0)
    have st' : (storeVar 60 ⟨w.heap.size + 1, 0, none⟩ (.agg zarr)).run Tryz.prog W = .ok () x2 := st
    have HB2 := Lib.hid hb2
    clear hf st hb2
    rcases hq with q0 | ⟨q0, q1⟩ | ⟨q0, q1, q2⟩
    all_goals
      go_enter Tryz.func135, Tryz.ntmps135
      go_wp2_with fail
      rw [hE.out.1, hE.out.2]
      exact bodyPost_ret (results_cell2 rfl rfl ld) rfl ⟨rfl, HB2.out⟩
end Go.Proofs.YtbdfllamhcodjaaGreat

/- The document's own Decode. -/
namespace Go.Proofs.YtbdfllamhcodjaaGreat
open Go.RowKit
set_option linter.unusedVariables false
attribute [-simp] Tryz.isAgg60 Tryz.zeroValue60 Tryz.isAgg167 Tryz.zeroValue167
attribute [-go_sem] loadVar storeVar
attribute [local go_sem] zero_blk build_blk zero_sec build_sec build_sec0 loadVar_open2 storeVar_open2

theorem u8s_inj {a b : List Int} (h : u8s a = u8s b) : a = b := by
  have e := congrArg (List.map intOf) h
  unfold u8s at e
  rw [List.map_map, List.map_map, show intOf ∘ Value.int .u8 = id from by funext x; rfl] at e
  simpa using e
theorem zcs_one : ∀ v ∈ zcs, v.oneCell' = true := Sct.cells_one zsct
/-- The three ways that Decode goes. -/
theorem dec_ways {bs : List Int} (hb : IsBytes bs) (hl : bs.length = 64) :
    ((Sct.of bs).code = fillB 0 ∧ (Sct.of bs).codeE = 11 ∧ decS bs = zsct ∧ decE bs = 11) ∨
    (∃ c, (Sct.of bs).code = c ∧ IsBlk c ∧ alike c (u8s bs) = false ∧ (Sct.of bs).codeE = 0 ∧ decS bs = zsct ∧ decE bs = 11) ∨
    (∃ c, (Sct.of bs).code = c ∧ IsBlk c ∧ alike c (u8s bs) = true ∧ (Sct.of bs).codeE = 0 ∧ decS bs = Sct.of bs ∧ decE bs = 0) := by
  unfold Sct.code Sct.codeE decS decE decOk
  by_cases hf : (Sct.of bs).fits = true
  · by_cases hq : (Sct.of bs).bytes = bs
    · refine .inr (.inr ⟨_, rfl, ?_, ?_, ?_⟩)
      · rw [if_pos hf]; exact isBlk_u8s (Sct.bytes_length (of_ok hb hl))
      · rw [if_pos hf, hq]; exact alike_iff.2 rfl
      · simp [hf, hq]
    · refine .inr (.inl ⟨_, rfl, ?_, ?_, ?_⟩)
      · rw [if_pos hf]; exact isBlk_u8s (Sct.bytes_length (of_ok hb hl))
      · rw [if_pos hf]; exact alike_not (fun h => hq (u8s_inj h))
      · simp [hf, hq]
  · exact .inl (by simp [hf])

end Go.Proofs.YtbdfllamhcodjaaGreat

/- The developers' Decode. -/
namespace Go.Proofs.YtbdfllamhcodjaaGreat
open Go.RowKit Go.Shelf
set_option linter.unusedVariables false
attribute [-simp] Tryz.isAgg60 Tryz.zeroValue60 Tryz.isAgg112 Tryz.zeroValue112 Tryz.isAgg189 Tryz.zeroValue189
attribute [-go_sem] loadVar storeVar
attribute [local go_sem] zero_blk build_blk zero_bod zero_pg build_pg build_pg0 loadVar_open4 storeVar_open4

set_option maxRecDepth 100000 in
set_option maxHeartbeats 4000000 in
theorem pgDecode (bs : List Int) (hb : IsBytes bs) (hl : bs.length = 64) (w : World) :
    Calls Tryz.prog 122 #[.agg (u8s bs).toArray] w fun e w' => e = .returned (.tuple #[.agg (decS bs).cells.toArray, .int .i64 (decE bs)]) ∧ Below w.heap.size w w' := by
  obtain ⟨W1, hW1⟩ : ∃ W1, w.alloc (.cells (u8s bs).toArray 60) = W1 := ⟨_, rfl⟩
  have hB1 : Below w.heap.size w W1 := by rw [← hW1]; exact (Below.refl _ _).alloc (Nat.le_refl _) _
  have hz1 : W1.heap.size = w.heap.size + 1 := by rw [← hW1]; simp
  have hr1 : W1.heap[w.heap.size]? = some (.cells (u8s bs).toArray 60 (0, 0)) := by rw [← hW1]; exact heap_alloc_new w _
  obtain ⟨W, hW⟩ : ∃ W, W1.alloc (.cells zcs.toArray 189) = W := ⟨_, rfl⟩
  have hB2 : Below W1.heap.size W1 W := by rw [← hW]; exact (Below.refl _ _).alloc (Nat.le_refl _) _
  have HB : Hid (Below w.heap.size w W) := hB1.trans (hB2.mono hB1.size)
  have HR : Hid (W.heap[w.heap.size]? = some (.cells (u8s bs).toArray 60 (0, 0))) := (hB2.block _ (by omega)).trans hr1
  have HR2 : Hid (W.heap[w.heap.size + 1]? = some (.cells zcs.toArray 189 (0, 0))) := by
    have := heap_alloc_new W1 (.cells zcs.toArray 189)
    rw [hW, hz1] at this
    exact this
  have HZ : Hid (W.heap.size = w.heap.size + 2) := by show _ = _; rw [← hW, World.size_alloc, hz1]
  have HL := Lib.hid hl
  have HOK := Lib.hid (of_ok hb hl)
  have HWY := Lib.hid (dec_ways hb hl)
  have HF := Lib.hid (pgFields bs hb hl W)
  have ZZ : Hid (zcs.length = 51) := rfl
  have CL : Hid ((Sct.of bs).cells.length = 51) := Sct.cells_length HOK.out.len
  have L0 : (loadVar 60 ⟨w.heap.size, 0, none⟩).run Tryz.prog W = .ok (.agg (u8s bs).toArray) W := load_blk (row_range HR.out) (by rw [u8s_length]; exact hl)
  have H0 : Hid (w.heap.size < W.heap.size) := by show _ < _; have := HZ.out; omega
  clear hr1 hB1 hB2 hb hl
  go_enter Tryz.func122, Tryz.ntmps122
  go_wp2_with fail
  clear L0 hW hW1
  go_at_call 143
  refine HF.out.mono ?_
  rintro e x1 ⟨rfl, hb⟩
  have K1 : Hid (Below W.heap.size W x1) := hb
  obtain ⟨x2, hx2⟩ : ∃ x, x1.alloc (.cells (Sct.of bs).cells.toArray 189) = x := ⟨_, rfl⟩
  have ST2 : (storeVar 189 ⟨x1.heap.size, 0, none⟩ (.agg (Sct.of bs).cells.toArray)).run Tryz.prog (x1.alloc (.cells zcs.toArray 189)) = .ok () x2 := by
    rw [← hx2]; exact store_new_pg zcs_len CL.out (Sct.cells_one _)
  have r2 : x2.heap[x1.heap.size]? = some (.cells (Sct.of bs).cells.toArray 189 (0, 0)) := by rw [← hx2]; exact heap_alloc_new x1 _
  have RA2 := Lib.hid (row_range r2)
  have H2 : Hid (x1.heap.size < x2.heap.size) := by show _ < _; rw [← hx2]; simp
  have K2 : Hid (Below W.heap.size W x2) := by rw [← hx2]; exact K1.out.alloc K1.out.size _
  have L2 : (loadVar 189 ⟨x1.heap.size, 0, none⟩).run Tryz.prog x2 = .ok (.agg (Sct.of bs).cells.toArray) x2 := load_pg RA2.out CL.out
  clear hb r2 hx2
  go_wp2_with fail
  try rw [L2]
  try go_wp2_with fail
  clear ST2 L2
  go_at_call 135
  refine (pgEncode (Sct.of bs) HOK.out x2).mono ?_
  rintro e x4 ⟨rfl, hb⟩
  have K4 : Hid (Below W.heap.size W x4) := K2.out.trans (hb.mono K2.out.size)
  have H4 : Hid (x1.heap.size < x4.heap.size) := Nat.lt_of_lt_of_le H2.out hb.size
  have RA4 : Hid (x4.rangeAt x1.heap.size 0 (Sct.of bs).cells) := range_below hb H2.out RA2.out
  clear hb
  obtain ⟨x5, hx5⟩ : ∃ x, x4.alloc (.cells zarr 60) = x := ⟨_, rfl⟩
  rcases HWY.out with ⟨hc, he, hS, hE⟩ | ⟨c, hc, hC, hA, he, hS, hE⟩ | ⟨c, hc, hC, hA, he, hS, hE⟩
  · rw [hc, he]
    obtain ⟨x6, hx6⟩ : ∃ x, x4.alloc (.cells (fillB 0).toArray 60) = x := ⟨_, rfl⟩
    have ST5 : (storeVar 60 ⟨x4.heap.size, 0, none⟩ (.agg (fillB 0).toArray)).run Tryz.prog x5 = .ok () x6 := by rw [← hx5, ← hx6]; exact store_new zarr_size (isBlk_fill 0)
    have K6 : Hid (Below W.heap.size W x6) := by rw [← hx6]; exact K4.out.alloc K4.out.size _
    obtain ⟨x7, ST7, ld, hb7⟩ := pg_cell (w := w) (x := x6) (B := w.heap.size + 1) (u := zcs) ((K6.out.block _ (by have := HZ.out; omega)).trans HR2.out) ZZ.out (Nat.le_succ _) (HB.out.trans (K6.out.mono HB.out.size)) ZZ.out zcs_one
    have HB7 := Lib.hid hb7
    have HS := Lib.hid (And.intro hS hE)
    clear hb7 hc he hS hE hx6
    go_wp2_with fail
    rw [HS.out.1, HS.out.2]
    exact bodyPost_ret (results_cell2 rfl rfl ld) rfl ⟨rfl, HB7.out⟩
  · rw [hc, he]
    obtain ⟨x6, hx6⟩ : ∃ x, x4.alloc (.cells c.toArray 60) = x := ⟨_, rfl⟩
    have ST5 : (storeVar 60 ⟨x4.heap.size, 0, none⟩ (.agg c.toArray)).run Tryz.prog x5 = .ok () x6 := by rw [← hx5, ← hx6]; exact store_new zarr_size hC
    have K6 : Hid (Below W.heap.size W x6) := by rw [← hx6]; exact K4.out.alloc K4.out.size _
    have L5 : (loadVar 60 ⟨x4.heap.size, 0, none⟩).run Tryz.prog x6 = .ok (.agg c.toArray) x6 := load_blk (row_range (t := 60) (by rw [← hx6]; exact heap_alloc_new x4 _)) hC.length
    have L1 : (loadVar 60 ⟨w.heap.size, 0, none⟩).run Tryz.prog x6 = .ok (.agg (u8s bs).toArray) x6 := load_blk (range_below K6.out H0.out (row_range HR.out)) (by rw [u8s_length]; exact HL.out)
    have EQ : (Op.equalIn 10000 60 (.agg c.toArray) (.agg (u8s bs).toArray)).run Tryz.prog x6 = .ok false x6 := by rw [← hA]; exact eq_blk hC (isBlk_u8s HL.out) x6
    obtain ⟨x7, ST7, ld, hb7⟩ := pg_cell (w := w) (x := x6) (B := w.heap.size + 1) (u := zcs) ((K6.out.block _ (by have := HZ.out; omega)).trans HR2.out) ZZ.out (Nat.le_succ _) (HB.out.trans (K6.out.mono HB.out.size)) ZZ.out zcs_one
    have HB7 := Lib.hid hb7
    have HS := Lib.hid (And.intro hS hE)
    clear hb7 hc he hS hE hA hC hx6
    go_wp2_with fail
    rw [HS.out.1, HS.out.2]
    exact bodyPost_ret (results_cell2 rfl rfl ld) rfl ⟨rfl, HB7.out⟩
  · rw [hc, he]
    obtain ⟨x6, hx6⟩ : ∃ x, x4.alloc (.cells c.toArray 60) = x := ⟨_, rfl⟩
    have ST5 : (storeVar 60 ⟨x4.heap.size, 0, none⟩ (.agg c.toArray)).run Tryz.prog x5 = .ok () x6 := by rw [← hx5, ← hx6]; exact store_new zarr_size hC
    have B6 : Below x4.heap.size x4 x6 := by rw [← hx6]; exact (Below.refl _ x4).alloc (Nat.le_refl _) _
    have K6 : Hid (Below W.heap.size W x6) := K4.out.trans (B6.mono K4.out.size)
    have L5 : (loadVar 60 ⟨x4.heap.size, 0, none⟩).run Tryz.prog x6 = .ok (.agg c.toArray) x6 := load_blk (row_range (t := 60) (by rw [← hx6]; exact heap_alloc_new x4 _)) hC.length
    have L1 : (loadVar 60 ⟨w.heap.size, 0, none⟩).run Tryz.prog x6 = .ok (.agg (u8s bs).toArray) x6 := load_blk (range_below K6.out H0.out (row_range HR.out)) (by rw [u8s_length]; exact HL.out)
    have EQ : (Op.equalIn 10000 60 (.agg c.toArray) (.agg (u8s bs).toArray)).run Tryz.prog x6 = .ok true x6 := by rw [← hA]; exact eq_blk hC (isBlk_u8s HL.out) x6
    have L4 : (loadVar 189 ⟨x1.heap.size, 0, none⟩).run Tryz.prog x6 = .ok (.agg (Sct.of bs).cells.toArray) x6 := load_pg (range_below B6 H4.out RA4.out) CL.out
    obtain ⟨x7, ST7, ld, hb7⟩ := pg_cell (w := w) (x := x6) (B := w.heap.size + 1) (u := (Sct.of bs).cells) ((K6.out.block _ (by have := HZ.out; omega)).trans HR2.out) ZZ.out (Nat.le_succ _) (HB.out.trans (K6.out.mono HB.out.size)) CL.out (Sct.cells_one _)
    have HB7 := Lib.hid hb7
    have HS := Lib.hid (And.intro hS hE)
    clear hb7 hc he hS hE hA hC hx6 B6
    go_wp2_with fail
    try rw [L4]
    try go_wp2_with fail
    rw [HS.out.1, HS.out.2]
    exact bodyPost_ret (results_cell2 rfl rfl ld) rfl ⟨rfl, HB7.out⟩
end Go.Proofs.YtbdfllamhcodjaaGreat

/- The library's Chunk at bytes: its range function has its contract: each piece comes, in order. -/
namespace Go.Proofs.YtbdfllamhcodjaaGreat
open Go.RowKit Go.Shelf
set_option linter.unusedVariables false

attribute [local go_sem] Oper.semAt_some

/-- What the body of a loop over pieces must keep: some blocks. -/
def KpC (S : Nat → Prop) (A B : World) : Prop := A.heap.size ≤ B.heap.size ∧ ∀ k, S k → B.heap[k]? = A.heap[k]?
theorem KpC.refl (S : Nat → Prop) (A : World) : KpC S A A := ⟨Nat.le_refl _, fun _ _ => rfl⟩
theorem kpC_t {S : Nat → Prop} {A B C : World} (h : KpC S A B) (k : KpC S B C) : KpC S A C := ⟨Nat.le_trans h.1 k.1, fun j hj => (k.2 j hj).trans (h.2 j hj)⟩
theorem KpC.cell {S : Nat → Prop} {A B : World} (h : KpC S A B) {p : Addr} (hp : S p.block) : B.cell? p = A.cell? p := World.cell?_of_block (h.2 _ hp)
theorem kpC_b {S : Nat → Prop} {w : World} (hS : ∀ k, S k → k < w.heap.size) (W : World) (l : Nat) (o o' : Obj) (hl : w.heap.size ≤ l) (_ : W.heap[l]? = some o) (_ : o.isCells = false) (_ : o.isWalk = false) : KpC S W (W.putObj l o') := ⟨by simp, fun k hk => by
  refine World.putObj_heap_other ?_
  have := hS k hk
  omega⟩
/-- Piece number k of len bytes that lie at a place. -/
def encC (b off len : Nat) {m : Nat} (x : Fin m) : Array Value := #[.slice (some ⟨b, off + 48 * x.1, none⟩) (min 48 (len - 48 * x.1)) (min 48 (len - 48 * x.1))]

set_option maxRecDepth 100000 in
set_option maxHeartbeats 1000000 in
/-- The bytes and the size are boxed; the function value holds the boxes. -/
theorem chunk_in (F : Fence) (n : Nat) (hf : F.fn 96) (hro : F.round = none) (a : Option Addr) (len cap : Nat) (w : World) :
    CallsIn F n Tryz.prog 96 #[.slice a len cap, .int .i64 48] w fun e w' => e = .returned (.func (.func 134) #[] #[.pointer (some ⟨w.heap.size, 0, none⟩), .pointer (some ⟨w.heap.size + 1, 0, none⟩)]) ∧ w' = (w.alloc (.cells #[.slice a len cap] 37)).alloc (.cells #[.int .i64 48] 3) := by
  refine callsIn_of_wp Tryz.func96 rfl hf ?_ hro
  simp only [Tryz.ntmps96, List.size_toArray, List.length_cons, List.length_nil, Nat.reduceAdd, Nat.reduceSub, Array.replicate_succ, Array.replicate_zero, List.push_toArray, List.append_toArray, List.nil_append, List.cons_append]
  gi_wp2
  go_ret
  exact ⟨rfl, rfl⟩

set_option maxRecDepth 100000 in
set_option maxHeartbeats 2000000 in
theorem chunk1_in (n : Nat) (hn : 1 ≤ n) (l Bs Bn b off len cap m : Nat) (a : Option Addr) (ha : len = 0 ∨ a = some ⟨b, off, none⟩) (hlc : len ≤ cap) (hc : cap ≤ maxLen) (hmx : len ≤ 1000000) (hm : m = (len + 47) / 48) (S : Nat → Prop) (hs : S Bs) (hs' : S Bn)
    (J Jx : List (Fin m) → World → Prop)
    (hY : ∀ pre x W, J pre W → pre.length < m → YieldAt Fence.wide (n - 1) Tryz.prog l (encC b off len x) W fun e W' =>
      (e = .returned (.bool true) ∧ J (pre ++ [x]) W' ∧ KpC S W W') ∨ (e = .returned (.bool false) ∧ Jx (pre ++ [x]) W'))
    (hJd : ∀ pre W, J pre W → J pre W.drew)
    (W : World) (hBs : W.cell? ⟨Bs, 0, none⟩ = some (.slice a len cap)) (hBn : W.cell? ⟨Bn, 0, none⟩ = some (.int .i64 48)) (h0 : J [] W) (hlt : Bs < W.heap.size) (hlt' : Bn < W.heap.size) :
    CallsIn Fence.wide n Tryz.prog 134 #[.func (.yield l) #[] #[], .pointer (some ⟨Bs, 0, none⟩), .pointer (some ⟨Bn, 0, none⟩)] W fun e W' => (∃ v, e = .returned v) ∧
      ((∃ ys, ys = List.finRange m ∧ J ys W') ∨ (∃ pre, (∃ k, k ≤ m ∧ pre = upto m k) ∧ Jx pre W')) := by
  refine callsIn_of_wp Tryz.func134 rfl trivial ?_ rfl
  simp only [Tryz.ntmps134, List.size_toArray, List.length_cons, List.length_nil, Nat.reduceAdd, Nat.reduceSub, Array.replicate_succ, Array.replicate_zero, List.push_toArray, List.append_toArray, List.nil_append, List.cons_append]
  have HM := Lib.hid hm
  have HS := Lib.hid hs
  have HS' := Lib.hid hs'
  have HA := Lib.hid ha
  have HLT := Lib.hid hlt
  have HLT' := Lib.hid hlt'
  have hcap : cap ≤ 9223372036854775807 := by unfold maxLen at hc; omega
  have hmo : Tryz.prog.follows .mixedOrders = true := by kernel_rfl
  clear hm hs hs' ha hc hlt hlt'
  gi_wp2
  gi_loopw [4] (fun i wr => ∃ k : Nat, k ≤ m ∧ i = .int .i64 ((48 * k : Nat) : Int) ∧ J (upto m k) wr ∧ Hid (KpC S W wr)) (fun i _ => 48 * m - (intOf i).toNat)
  case atStart => exact ⟨0, Nat.zero_le _, rfl, h0, KpC.refl _ _⟩
  case round =>
    obtain ⟨k, hk, rfl, hJs, HK⟩ := hrel
    obtain ⟨K, hK⟩ : ∃ K, 48 * k = K := ⟨_, rfl⟩
    rw [hK]
    have c1 : wr.cell? ⟨Bs, 0, none⟩ = some (.slice a len cap) := (HK.out.cell HS.out).trans hBs
    have c2 : wr.cell? ⟨Bn, 0, none⟩ = some (.int .i64 48) := (HK.out.cell HS'.out).trans hBn
    by_cases hlt : K < len
    · have hkm : k < m := by have := HM.out; omega
      have hlt' : decide ((K : Int) < (len : Int)) = true := by simp; omega
      obtain rfl : a = some ⟨b, off, none⟩ := by rcases HA.out with h | h; omega; exact h
      have hKK := Lib.hid hK
      obtain ⟨H, hH⟩ : ∃ H, min 48 (len - K) = H := ⟨_, rfl⟩
      have hHH := Lib.hid hH
      have d1 : ∀ y : Ext wr, y.1.cell? ⟨Bs, 0, none⟩ = some (.slice (some ⟨b, off, none⟩) len cap) := fun y => (y.2.cell (p := ⟨Bs, 0, none⟩) (Nat.lt_of_lt_of_le HLT.out HK.out.1)).trans c1
      have d2 : ∀ y : Ext wr, y.1.cell? ⟨Bn, 0, none⟩ = some (.int .i64 48) := fun y => (y.2.cell (p := ⟨Bn, 0, none⟩) (Nat.lt_of_lt_of_le HLT'.out HK.out.1)).trans c2
      have g1 : (K : Int) ≤ len := by omega
      have g2 : (len : Int) ≤ cap := by omega
      have hq : (len : Int) - (K : Int) = ((len - K : Nat) : Int) := by omega
      have hmin : ∀ (ts : Array TypeId) (t : TypeId) (W : World), (Builtin.min_ ts t #[.int .i64 48, .int .i64 ((len - K : Nat) : Int)]).run Tryz.prog W = .ok (.int .i64 (H : Int)) W := fun ts t W => by
        rw [run_min_int2, ← hH]
        congr 2
        split <;> omega
      have hH1 : H ≤ 48 := by omega
      have hH2 : K + H ≤ len := by omega
      have hH0 : 0 < H := by omega
      have hKc : K < cap := by omega
      clear hH hBn hBs h0
      gi_wp2_with fail
      refine wpIn_wide.2 ?_
      refine region_plan (fun x => ∃ y : Ext wr, x = y.1) 6 (.takes [0, 1, 2, 3, 4] (.one 5 .leaf)) hmo (by kernel_rfl) (by intro c x v a w h; cases x <;> exact h) ⟨⟨wr.drew, (Below.refl _ wr).drew⟩, rfl⟩ ?_
      repeat (rw [wpPlan_takes_cons]; simp only [nth_zero, nth_succ]; go_big_quiet_step (fail); refine wpQuiet_nil ?_)
      rw [wpPlan_takes_nil, wpPlan_one]
      simp only [nth_zero, nth_succ]
      go_wp2_with fail
      refine planPost_mk ⟨⟨wr.drew, (Below.refl _ wr).drew⟩, rfl⟩ ?_
      rw [wpPlan_leaf]
      simp only [List.drop_succ_cons, List.drop_zero]
      clear hmin d1 d2
      have c1' : wr.drew.cell? ⟨Bs, 0, none⟩ = some (.slice (some ⟨b, off, none⟩) len cap) := c1
      have c2' : wr.drew.cell? ⟨Bn, 0, none⟩ = some (.int .i64 48) := c2
      have HJ : J (upto m k) wr.drew := hJd _ _ hJs
      obtain ⟨fn, tmps, assign, body, hy, hR⟩ := hY _ ⟨k, hkm⟩ wr.drew HJ (by rw [upto_length m k hk]; exact hkm)
      unfold encC at hy
      dsimp only at hy
      rw [hKK.out, hHH.out] at hy
      go_wp2_with fail
      gi_wp2_with fail
      refine hR.mono ?_
      rintro e W3 (⟨rfl, hJ3, hk3⟩ | ⟨rfl, hJx3⟩)
      · have c3 : W3.cell? ⟨Bn, 0, none⟩ = some (.int .i64 48) := (hk3.cell HS'.out).trans c2'
        have HK3 : Hid (KpC S W W3) := kpC_t (kpC_t HK.out (⟨Nat.le_refl _, fun _ _ => rfl⟩ : KpC S wr wr.drew)) hk3
        clear hk3
        gi_wp2_with fail
        go_roundw
        case rel => exact ⟨k + 1, by omega, by have := hKK.out; go_num, by rw [upto_succ m k hkm]; exact hJ3, HK3⟩
        case measure => have := hKK.out; simp [intOf]; omega
      · gi_wp2_with fail
        refine bodyPost_ret (results_none rfl _ _ _) rfl ?_
        exact ⟨⟨_, rfl⟩, .inr ⟨_, ⟨k + 1, by omega, (upto_succ m k hkm).symm⟩, hJx3⟩⟩
    · have hlt' : decide ((K : Int) < (len : Int)) = false := by simp; omega
      obtain rfl : k = m := by have := HM.out; omega
      clear hK
      gi_wp2_with fail
      go_end0
      exact ⟨⟨_, rfl⟩, .inl ⟨_, rfl, by rw [← upto_all]; exact hJs⟩⟩
end Go.Proofs.YtbdfllamhcodjaaGreat

/- The document's own Cut. -/
namespace Go.Proofs.YtbdfllamhcodjaaGreat
open Go.RowKit Go.Shelf
set_option linter.unusedVariables false
attribute [-simp] Tryz.isAgg60 Tryz.zeroValue60 Tryz.isAgg112 Tryz.zeroValue112
attribute [-go_sem] loadVar storeVar
attribute [local go_sem] zero_blk build_blk zero_bod loadVar_open3 storeVar_open

/-- What a call has made stays, whatever comes behind. -/
theorem own_below {x x' : World} {N e sz n : Nat} {v : Value} {xs : List Value} (h : x.ownsRow N e sz v n xs) (hb : Below x.heap.size x x') : x'.ownsRow N e sz v n xs := by
  refine ⟨h.1, ?_⟩
  rcases h.2 with h' | ⟨g, cap, cur, rfl, a1, a2, a3⟩
  · exact .inl h'
  · exact .inr ⟨g, cap, cur, rfl, a1, (hb.block g (Array.getElem?_eq_some_iff.1 a2).1).trans a2, a3⟩
end Go.Proofs.YtbdfllamhcodjaaGreat

/- The developers' Count. -/
namespace Go.Proofs.YtbdfllamhcodjaaGreat
open Go.RowKit
set_option linter.unusedVariables false

set_option maxRecDepth 100000 in
theorem pgCount (n : Int) (w : World) (h0 : -9223372036854775808 ≤ n) (h1 : n < 9223372036854775808) :
    Calls Tryz.prog 92 #[.int .i64 n] w fun e w' => e = .returned (.int .i64 (cnt n)) ∧ w' = w := by
  by_cases hn : n < 1
  · have hc : cnt n = 0 := if_pos hn
    rw [hc]
    go_enter Tryz.func92, Tryz.ntmps92
    go_wp2_with fail
    all_goals (go_ret; exact ⟨rfl, rfl⟩)
  · have hc : cnt n = (n - 1) / 48 + 1 := if_neg hn
    have hq : Int.tdiv (n - 1) 48 = (n - 1) / 48 := Int.tdiv_eq_ediv_of_nonneg (by omega)
    rw [hc]
    go_enter Tryz.func92, Tryz.ntmps92
    go_wp2_with fail
    all_goals (go_ret; exact ⟨rfl, rfl⟩)
end Go.Proofs.YtbdfllamhcodjaaGreat

/- The developers' Cut. -/
namespace Go.Proofs.YtbdfllamhcodjaaGreat
open Go.RowKit Go.Shelf
set_option linter.unusedVariables false

/-- A region in order, in a round of a loop over a function: walked as it stands. -/
theorem list_round {l₀ n : Nat} {P : Program} {ops : Array Oper} {Q : Exit → Act → World → Prop} (hL : ¬ LetsOut Q) : ∀ (l : List Oper) (a : Act) (w : World), (∀ o ∈ l, ∀ c, o.op ≠ .defer c) → wpList P ops Q l a w → wpListIn (Fence.wide.inRound l₀) n P ops Q l a w
  | [], _, _, _, h => h
  | o :: rest, a, w, hd, h => by
    have hd' : ∀ o ∈ rest, ∀ c, o.op ≠ .defer c := fun o ho => hd o (List.mem_cons_of_mem _ ho)
    unfold wpList at h
    unfold wpListIn
    by_cases hw : Region.wanted o (yielded ops a.tmps) = true
    · rw [if_pos hw] at h ⊢
      rcases h with h | h
      · exact op_round (hd o List.mem_cons_self) (Oper.wp_mono (fun a' w' => list_round hL rest a' w' hd') h)
      · exact absurd h.2 hL
    · rw [if_neg hw] at h ⊢
      exact ⟨fun _ _ => trivial, list_round hL rest _ _ hd' h⟩
theorem region_seq_round {l₀ n id : Nat} {P : Program} {l : List Oper} {Q : Exit → Act → World → Prop} {a : Act} {w : World} (hL : ¬ LetsOut Q) (hd : noDefer l.toArray = true) (h : wpList P l.toArray Q l a w) : (Code.region id l.toArray false).wpIn (Fence.wide.inRound l₀) n P Q a w :=
  wpIn_region_lit (list_round hL l a w (fun o ho => by
    obtain ⟨i, hi⟩ := List.getElem?_of_mem ho
    exact noDefer_spec hd (i := i) (by simpa using hi)) h)
theorem letsOut_then {K : Act → World → Prop} {Q : Exit → Act → World → Prop} (h : ¬ LetsOut Q) : ¬ LetsOut (Exit.then K Q) := fun ⟨a, w, e⟩ => h ⟨a, w, e⟩

set_option maxRecDepth 100000 in
theorem chunk_stops (n : Nat) (hn : 1 ≤ n) (Bs Bn b off len cap m : Nat) (a : Option Addr) (ha : len = 0 ∨ a = some ⟨b, off, none⟩) (hlc : len ≤ cap) (hc : cap ≤ maxLen) (hmx : len ≤ 1000000) (hm : m = (len + 47) / 48) (w : World)
    (h1 : Bs < w.heap.size) (h2 : Bn < w.heap.size) (hBs : w.cell? ⟨Bs, 0, none⟩ = some (.slice a len cap)) (hBn : w.cell? ⟨Bn, 0, none⟩ = some (.int .i64 48)) :
    SeqStopsK Fence.wide n Tryz.prog 134 #[.pointer (some ⟨Bs, 0, none⟩), .pointer (some ⟨Bn, 0, none⟩)] (encC b off len (m := m)) (KpC fun k => k = Bs ∨ k = Bn) (fun ys => ys = List.finRange m) (fun _ => True) m w := fun l J Jx W hW hJ _ hY h0 =>
  (chunk1_in n hn l Bs Bn b off len cap m a ha hlc hc hmx hm _ (.inl rfl) (.inr rfl) J Jx hY
    (fun pre W hj => hJ pre W W.drew none hj (grown_below (Below.refl _ W).drew none) (fun r e => by cases e))
    W ((hW.cell (p := ⟨Bs, 0, none⟩) h1).trans hBs) ((hW.cell (p := ⟨Bn, 0, none⟩) h2).trans hBn) h0 (Nat.lt_of_lt_of_le h1 hW.size) (Nat.lt_of_lt_of_le h2 hW.size)).mono fun e W' ⟨he, h⟩ => ⟨he, h.imp id fun ⟨pre, _, hj⟩ => ⟨pre, trivial, hj⟩⟩

theorem row_slice {W : World} {base sz n : Nat} {e : TypeId} {v : Value} {xs : List Value} (h : W.ownsRow base e sz v n xs) : ∃ ra n c, v = .slice ra n c := by
  rcases h.2 with ⟨rfl, _⟩ | ⟨g, cap, cur, rfl, _⟩
  · exact ⟨_, _, _, rfl⟩
  · exact ⟨_, _, _, rfl⟩
theorem row_cells {W : World} {base sz n j : Nat} {e : TypeId} {v : Value} {xs : List Value} {o : Obj} (h : W.ownsRow base e sz v n xs) (hj : v.ownBlock = some j) (ho : W.heap[j]? = some o) : o.isCells = true := by
  rcases h.2 with ⟨rfl, _⟩ | ⟨g, cap, cur, rfl, _, hg, _⟩
  · simp [Value.ownBlock] at hj
  · obtain rfl : g = j := by simpa [Value.ownBlock] using hj
    rw [hg] at ho
    cases ho
    rfl

attribute [-simp] Tryz.isAgg60 Tryz.zeroValue60 Tryz.isAgg112 Tryz.zeroValue112
attribute [-go_sem] loadVar storeVar
attribute [local go_sem] zero_blk build_blk zero_bod loadVar_open3 storeVar_open Oper.semAt_some

set_option maxRecDepth 100000 in
set_option maxHeartbeats 2000000 in
theorem pgCut (v : Value) (bs : List Int) (w : World) (hv : Sl .u8 w v bs) (hl : bs.length ≤ 100000) :
    Calls Tryz.prog 48 #[v] w fun e w' => ∃ v', e = .returned v' ∧ w'.ownsRow w.heap.size 112 48 v' (nPcs bs) (rows bs (nPcs bs)).flatten ∧ Below w.heap.size w w' := by
  have HS := Lib.hid hv
  obtain ⟨a, cap, rfl, hm1, hm2, hla, -⟩ := hv
  obtain ⟨len, hlen⟩ : ∃ n, bs.length = n := ⟨_, rfl⟩
  have HL := Lib.hid hlen
  obtain ⟨m, hm⟩ : ∃ n, nPcs bs = n := ⟨_, rfl⟩
  have HN : Hid (m = (len + 47) / 48) := by show _ = _; rw [← hm, ← hlen]; rfl
  obtain ⟨b, off, hab, hcs⟩ : ∃ b off, (len = 0 ∨ a = some ⟨b, off, none⟩) ∧ (0 < len → b < w.heap.size ∧ ∀ j, j < len → w.cell? ⟨b, off + j, none⟩ = some (.int .u8 (bs[j]?.getD 0))) := by
    rcases hla with h | ⟨b, off, e, h1, h2⟩
    · refine ⟨0, 0, .inl (by rw [← hlen, h]; rfl), fun h0 => ?_⟩
      rw [← hlen, h] at h0
      simp at h0
    · exact ⟨b, off, .inr e, fun _ => ⟨h1, fun j hj => h2 j (by omega)⟩⟩
  have HA := Lib.hid hab
  have HC := Lib.hid hcs
  rw [hlen] at hl hm1 HS ⊢
  rw [hm]
  have HM2 := Lib.hid hm2
  clear hlen hm hla hab hcs hm2
  have hcn : cnt (len : Int) = (m : Int) := by rw [cnt_nat, HN.out]
  have hmm : m ≤ 100000 := by have := HN.out; omega
  refine (callsIn_wide (n := 3)).1 ?_
  refine callsIn_of_wp_marks Tryz.func48 rfl trivial ?_ rfl
  simp only [Tryz.ntmps48, List.size_toArray, List.length_cons, List.length_nil, Nat.reduceAdd, Nat.reduceSub, Array.replicate_succ, Array.replicate_zero, List.push_toArray, List.append_toArray, List.nil_append, List.cons_append]
  obtain ⟨i0, hi, hz0, hz1, hz2⟩ := info_parts info_bod
  gi_wp2_with (first | (refine ⟨trivial, ?_⟩; gi_at_call 92; refine (callsIn_wide.2 (pgCount (len : Int) _ (by omega) (by omega))).mono ?_; rintro e w' ⟨rfl, rfl⟩; rw [hcn]) | (gi_at_make; refine wpListIn_make_own _ rfl _ _ 50 rfl w'.heap.size 112 i0 (.agg z48.toArray) 48 Tryz.underlying50 hi hz0 hz1 .i64 .i64 _ m rfl rfl rfl (by rw [hz2]; omega) (by unfold maxLen; omega) (Nat.le_refl _) ?_; intro w1 hown1 hgrow1) | (refine ⟨trivial, ?_⟩; gi_at_call 96; refine (chunk_in _ _ trivial rfl _ _ _ _).mono ?_; rintro e w2 ⟨rfl, rfl⟩))
  obtain ⟨W2, hW2⟩ : ∃ W2, w1.alloc (.cells #[.slice (some ⟨w'.heap.size, 0, none⟩) 0 m] 50) = W2 := ⟨_, rfl⟩
  obtain ⟨W3, hW3⟩ : ∃ W3, W2.alloc (.cells #[.slice a len cap] 37) = W3 := ⟨_, rfl⟩
  obtain ⟨W4, hW4⟩ : ∃ W4, W3.alloc (.cells #[.int .i64 48] 3) = W4 := ⟨_, rfl⟩
  obtain ⟨B3, hB3⟩ : ∃ B3, w1.heap.size = B3 := ⟨_, rfl⟩
  have z2 : W2.heap.size = B3 + 1 := by rw [← hW2, World.size_alloc, hB3]
  have z3 : W3.heap.size = B3 + 2 := by rw [← hW3, World.size_alloc, z2]
  have z4 : W4.heap.size = B3 + 3 := by rw [← hW4, World.size_alloc, z3]
  have hw1 : Below w'.heap.size w' w1 := (Below.refl _ w').grown hgrow1 (Nat.le_refl _) (fun k e => by cases e)
  have HB4 : Hid (Below w'.heap.size w' W4) := by
    have a2 : Below w'.heap.size w' W2 := by rw [← hW2]; exact hw1.alloc hw1.size _
    have a3 : Below w'.heap.size w' W3 := by rw [← hW3]; exact a2.alloc a2.size _
    show Below _ _ _
    rw [← hW4]; exact a3.alloc a3.size _
  have HBX : Hid (Boxed W4 B3 50 (.slice (some ⟨w'.heap.size, 0, none⟩) 0 m)) := by
    show Boxed _ _ _ _
    rw [← hW4, ← hW3, ← hW2, ← hB3]
    exact ((Boxed.new w1 _ _).alloc _).alloc _
  have HBS : Hid (Boxed W4 (B3 + 1) 37 (.slice a len cap)) := by
    have := (Boxed.new W2 37 (.slice a len cap)).alloc (.cells #[.int .i64 48] 3)
    rw [hW3, hW4, z2] at this
    exact this
  have HBN : Hid (Boxed W4 (B3 + 1 + 1) 3 (.int .i64 48)) := by
    have := Boxed.new W3 3 (.int .i64 48)
    rw [hW4, z3] at this
    exact this
  have HRW : Hid (W4.ownsRow w'.heap.size 112 48 (.slice (some ⟨w'.heap.size, 0, none⟩) 0 m) 0 []) := by
    show World.ownsRow _ _ _ _ _ _ _
    rw [← hW4, ← hW3, ← hW2]
    exact ((hown1.alloc _).alloc _).alloc _
  have HZ3 : Hid (w'.heap.size ≤ B3) := by show _ ≤ _; rw [← hB3]; exact hw1.size
  rw [hW2, hW3, hW4, hB3]
  clear hW2 hW3 hW4 hown1 hgrow1 hw1 hB3 z2 z3 hz0 hz1 hz2 hi
  refine wpIn_rangeFunc_ownF (n := 3) rfl (by omega) (gf := 134) (lb := #[.pointer (some ⟨B3 + 1, 0, none⟩), .pointer (some ⟨B3 + 1 + 1, 0, none⟩)]) rfl trivial (enters_of Tryz.func134 (by kernel_rfl) rfl)
    (chunk_stops 2 (by omega) (B3 + 1) (B3 + 1 + 1) b off len cap m a HA.out hm1 HM2.out (by omega) HN.out W4 (by omega) (by omega) HBS.out.cell HBN.out.cell) kpC_t (kpC_b (by rintro k (rfl | rfl) <;> omega)) (Below.refl _ _) (fun _ => rfl)
    (fun pre W => (∃ v, Boxed W B3 50 v ∧ W.ownsRow w'.heap.size 112 48 v (pre.map fun x : Fin m => u8s (piece bs x.1)).length (pre.map fun x : Fin m => u8s (piece bs x.1)).flatten ∧ Boxed W (B3 + 1) 37 (.slice a len cap) ∧ Boxed W (B3 + 1 + 1) 3 (.int .i64 48)) ∧ Below w'.heap.size w' W)
    (fun _ _ _ => False)
    ?hI (fun _ _ _ _ _ h _ _ => h.elim) ?h0 ?a1 ?assign ?body ?done ?stop
  case hI =>
    intro s W W' row ⟨⟨v, hv, ho, h1, h2⟩, hB⟩ hg hrow
    have hr' : ∀ r, row = some r → ∃ o : Obj, W.heap[r]? = some o ∧ o.isCells = false := fun r e => (hrow r e).2
    exact ⟨⟨v, boxed_own _ _ (fun _ : Unit => _) () W W' row hv hg hr', ownsRow_own _ _ _ _ (fun _ : Unit => _) (fun _ => _) () W W' row ho hg hr', boxed_own _ _ (fun _ : Unit => _) () W W' row h1 hg hr', boxed_own _ _ (fun _ : Unit => _) () W W' row h2 hg hr'⟩, ownFrom_below (β := Unit) (Nat.le_refl _) (by have := HZ3.out; omega) () W W' row hB hg hrow⟩
  case h0 => exact ⟨⟨_, HBX.out, HRW.out, HBS.out, HBN.out⟩, HB4.out⟩
  case assign =>
    intro l x W K hK
    dsimp only [encC]
    gi_wp2
    exact hK
  case body =>
    rintro l pre x W ⟨⟨v, hv, ho, hbs, hbn⟩, hB⟩ hlen
    have hx := x.2
    obtain ⟨k, hk⟩ : ∃ k, x.1 = k := ⟨_, rfl⟩
    obtain ⟨K, hK⟩ : ∃ K, 48 * k = K := ⟨_, rfl⟩
    obtain ⟨H, hH⟩ : ∃ H, min 48 (len - K) = H := ⟨_, rfl⟩
    rw [hk] at hx ⊢
    rw [hK, hH]
    have hlt : K < len := by have := HN.out; omega
    have hcl : ((bs.drop K).take H).length = H := by rw [List.length_take, List.length_drop, HL.out]; omega
    have HSP : ∀ y, Below w'.heap.size w' y → Sl .u8 y (.slice (some ⟨b, off + K, none⟩) H H) ((bs.drop K).take H) := fun y hy => by
      obtain ⟨h1, h2⟩ := HC.out (by omega)
      have := Sl.at (k := .u8) (w := y) (b := b) (off := off + K) (cap := H) (bs := (bs.drop K).take H) (by omega) (by unfold maxLen; omega) (Nat.lt_of_lt_of_le h1 hy.size) (fun j hj => by
        rw [hcl] at hj
        rw [hy.cell (p := ⟨b, off + K + j, none⟩) h1, take_get _ _ _ hj, drop_get, Nat.add_assoc]
        exact h2 (K + j) (by omega))
      rwa [hcl] at this
    obtain ⟨x1, hx1⟩ : ∃ x, W.alloc (.cells z48.toArray 112) = x := ⟨_, rfl⟩
    have k1 : x1.heap[W.heap.size]? = some (.cells z48.toArray 112 (0, 0)) := by rw [← hx1]; exact heap_alloc_new W _
    have b1 : Below W.heap.size W x1 := by rw [← hx1]; exact (Below.refl _ _).alloc (Nat.le_refl _) _
    have t1 : x1.there W.heap.size 0 H := row_there k1 0 _ (by rw [z48_size]; omega)
    have rc0 := run_copy_bytes (w := x1) (B := W.heap.size) (o := 0) (dLen := 48) (dCap := 48) 3 (HSP _ (hB.trans (b1.mono hB.size))) (by rw [hcl]; omega) (by rw [hcl]; exact t1)
    obtain ⟨x2, hx2⟩ : ∃ x, x1.setCells W.heap.size 0 (u8s ((bs.drop K).take H)) = x := ⟨_, rfl⟩
    rw [hx2, hcl] at rc0
    have RC0 := Lib.hid rc0
    have hp : u8s (piece bs k) = u8s ((bs.drop K).take H) ++ u8s (List.replicate (48 - H) 0) := by
      have e1 : (bs.drop K).take 48 = (bs.drop K).take H := by
        by_cases h : K + 48 ≤ len
        · rw [show H = 48 by omega]
        · rw [List.take_of_length_le (by rw [List.length_drop, HL.out]; omega), List.take_of_length_le (by rw [List.length_drop, HL.out]; omega)]
      unfold piece
      rw [hK, e1, hcl]
      simp [u8s]
    have ra2 : x2.rangeAt W.heap.size 0 (u8s (piece bs k)) := by
      rw [hp]
      refine rangeAt_app ?_ ?_
      · rw [← hx2]; exact World.rangeAt_setCells_same x1 _ 0 _ (by rw [u8s_length, hcl]; exact t1)
      · rw [u8s_length, hcl, ← hx2]
        refine World.rangeAt_setCells_apart (w := x1) (fun j x hx => ?_) _ 0 _ (.inr (.inr (by rw [u8s_length, hcl]; omega)))
        refine (cell_of_row x1 _ _ _ _ _ k1).trans ?_
        have hj : j < 48 - H := by have := (List.getElem?_eq_some_iff.1 hx).1; simpa [u8s] using this
        rw [← hx, List.getElem?_toArray]
        unfold z48 u8s
        rw [List.getElem?_map, List.getElem?_map, List.getElem?_replicate, List.getElem?_replicate, if_pos (by omega), if_pos hj]
    have b2 : Below W.heap.size W x2 := by rw [← hx2]; exact b1.trans ((below_cells (Nat.le_refl W.heap.size) _ _ x1).mono (Nat.le_refl _))
    have hpl : (u8s (piece bs k)).length = 48 := by rw [u8s_length, piece_length]
    have L20 := Lib.hid (load_bod ra2 hpl)
    obtain ⟨x3, hx3⟩ : ∃ x, x2.alloc (.cells (u8s (piece bs k)).toArray 112) = x := ⟨_, rfl⟩
    have SB0 : Hid ((Instr.buildSlice 50 1 #[(0, .agg (u8s (piece bs k)).toArray)]).run Tryz.prog x2 = .ok (.slice (some ⟨x2.heap.size, 0, none⟩) 1 1) x3) := by rw [← hx3]; exact slice_bod x2 _ hpl
    have b3 : Below W.heap.size W x3 := by rw [← hx3]; exact b2.alloc b2.size _
    have B3' : Below w'.heap.size w' x3 := hB.trans (b3.mono hB.size)
    have O3 := own_below ho b3
    obtain ⟨v4, x4, r4, o4, g4, -⟩ := append_bod w'.heap.size x3 v (pre.map fun x : Fin m => u8s (piece bs x.1)) (u8s (piece bs k)) x2.heap.size O3 hpl (u8s_one _) (row_range (t := 112) (by rw [← hx3]; exact heap_alloc_new x2 _)) (by rw [List.length_map]; omega) B3'.size
    obtain ⟨ra4, n4, p4, hv4⟩ := row_slice o4
    subst hv4
    have R4 := Lib.hid r4
    have hv3 : Boxed x3 B3 50 v := hv.kept (grown_below b3 none) (by simp)
    have hs3 : Boxed x3 (B3 + 1) 37 (.slice a len cap) := hbs.kept (grown_below b3 none) (by simp)
    have hn3 : Boxed x3 (B3 + 1 + 1) 3 (.int .i64 48) := hbn.kept (grown_below b3 none) (by simp)
    have hv4 : Boxed x4 B3 50 v := hv3.kept g4 (hv3.not_row (by decide) O3)
    have hs4 : Boxed x4 (B3 + 1) 37 (.slice a len cap) := hs3.kept g4 (hs3.not_row (by decide) O3)
    have hn4 : Boxed x4 (B3 + 1 + 1) 3 (.int .i64 48) := hn3.kept g4 (hn3.not_row (by decide) O3)
    have hv5 := hv4.set (.slice ra4 n4 p4)
    have hs5 : Boxed (x4.setCell ⟨B3, 0, none⟩ (.slice ra4 n4 p4)) (B3 + 1) 37 (.slice a len cap) := hs4.other (by omega) _
    have hn5 : Boxed (x4.setCell ⟨B3, 0, none⟩ (.slice ra4 n4 p4)) (B3 + 1 + 1) 3 (.int .i64 48) := hn4.other (by omega) _
    have o5 : (x4.setCell ⟨B3, 0, none⟩ (.slice ra4 n4 p4)).ownsRow w'.heap.size 112 48 (.slice ra4 n4 p4) ((pre ++ [x]).map fun x : Fin m => u8s (piece bs x.1)).length ((pre ++ [x]).map fun x : Fin m => u8s (piece bs x.1)).flatten := by
      have := o4.kept (grownBy_setCell' x4 B3 (.slice ra4 n4 p4)) (.inr (fun e => hv4.not_row (by decide) o4 e.symm))
      rw [List.map_append, List.map_cons, List.map_nil, hk]
      exact this
    have POST : Hid (ownPostK (KpC fun k => k = B3 + 1 ∨ k = B3 + 1 + 1) (fun pre W => (∃ v, Boxed W B3 50 v ∧ W.ownsRow w'.heap.size 112 48 v (pre.map fun x : Fin m => u8s (piece bs x.1)).length (pre.map fun x : Fin m => u8s (piece bs x.1)).flatten ∧ Boxed W (B3 + 1) 37 (.slice a len cap) ∧ Boxed W (B3 + 1 + 1) 3 (.int .i64 48)) ∧ Below w'.heap.size w' W) (fun (_ : Code) (_ : List (Fin m)) (_ : World) => False) (pre ++ [x]) W .normal { tmps := #[], defers := [] } (x4.setCell ⟨B3, 0, none⟩ (.slice ra4 n4 p4))) := by
      refine ⟨((KeepsOthers.of_grownBy (grown_below b3 none) (fun j o e => by cases e)).trans (KeepsOthers.of_grownBy g4 (fun j o hj hoj => row_cells O3 hj hoj))).trans (KeepsOthers.setCell _ _ _), ⟨?_, ?_⟩, ⟨_, hv5, o5, hs5, hn5⟩, (B3'.grown g4 B3'.size (fun j e => (O3.lt j e).1)).setCell (p := ⟨B3, 0, none⟩) HZ3.out _⟩
      · exact Nat.le_trans b3.size (Nat.le_trans g4.size (grownBy_setCell' x4 B3 (.slice ra4 n4 p4)).size)
      · rintro k (rfl | rfl)
        · exact hs5.trans hbs.symm
        · exact hn5.trans hbn.symm
    have c2 : x2.cell? ⟨B3, 0, none⟩ = some v := (b2.cell (p := ⟨B3, 0, none⟩) hv.lt).trans hv.cell
    have c4 := hv4.cell
    have f4 := hv4.frozen
    clear hs5 hn5 hv5 o5 hv4 hs4 hn4 hv3 hs3 hn3 r4 o4 g4 O3 B3' b3 b2 b1 hpl ra2 hp rc0 t1 k1 HSP hcl hv ho hbs hbn hB hx3 hx2 hH hK
    have RC := RC0.out
    gi_step
    gi_step
    gi_step
    refine region_seq_round (letsOut_then (letsOut_inBlock letsOut_own)) (by kernel_rfl) ?_
    go_wp2_with fail
    gi_step
    refine region_seq_round (letsOut_then (letsOut_inBlock letsOut_own)) (by kernel_rfl) ?_
    go_wp2_with fail
    clear RC
    refine region_seq_round (letsOut_inBlock letsOut_own) (by kernel_rfl) ?_
    go_wp2_with fail
    rw [L20.out]
    clear c2
    go_wp2_with (first | ((with_reducible refine gate_build ?_); refine wpList_build_run _ _ _ rfl rfl [(0, .agg (u8s (piece bs k)).toArray)] _ rfl SB0.out ?_) | (at_builtin; refine wpList_append_run (.tmp 16) (.tmp 18) 50 rfl rfl _ _ _ rfl rfl R4.out ?_))
    exact POST.out
  case done =>
    rintro D xs W hD rfl ⟨⟨v, hv, ho, hbs, hbn⟩, hB⟩ hK
    have c2 := hv.cell
    have hrw : W.ownsRow w'.heap.size 112 48 v m (rows bs m).flatten := by
      have e : (List.finRange m).map (fun x : Fin m => u8s (piece bs x.1)) = rows bs m := by
        unfold rows
        apply List.ext_getElem
        · simp
        · intro i h1 h2; simp
      rw [e, rows_length] at ho
      exact ho
    gi_wp2
    refine ⟨by simp, .inl ⟨_, _, rfl, run_takeDeferred hK, ?_⟩⟩
    refine ⟨_, results_tmp rfl _ _ _, _, rfl, ownsRow_putObj hrw _ hK rfl, hB.trans (belowK_b (w := w') (Nat.le_refl _) W D _ _ (by have := HB4.out.size; omega) hK rfl rfl)⟩
  case stop =>
    rintro D c pre W _ _ h _
    exact h.elim
end Go.Proofs.YtbdfllamhcodjaaGreat

/- Cells of one's own in a walk: boxed arguments, blocks and marked sectors that are stored; a document's sector made of a sector's parts. -/
namespace Go.Proofs.YtbdfllamhcodjaaGreat
open Go.RowKit
set_option linter.unusedVariables false

/-- Block B has these cells. -/
def RowC (x : World) (B : Nat) (t : TypeId) (C : List Value) : Prop := x.heap[B]? = some (.cells C.toArray t (0, 0))
section
variable {x y : World} {B : Nat} {t : TypeId} {C : List Value}
theorem RowC.lt (h : RowC x B t C) : B < x.heap.size := (Array.getElem?_eq_some_iff.1 h).1
theorem RowC.below (h : RowC x B t C) (hb : Below x.heap.size x y) : RowC y B t C := (hb.block B h.lt).trans h
theorem RowC.belowN {N : Nat} (h : RowC x B t C) (hb : Below N x y) (hB : B < N) : RowC y B t C := (hb.block B hB).trans h
theorem RowC.range (h : RowC x B t C) : x.rangeAt B 0 C := row_range h
theorem RowC.cell (h : RowC x B t C) (j : Nat) (v : Value) (hj : C[j]? = some v) : x.cell? ⟨B, j, none⟩ = some v := by
  have := h.range j v hj
  rwa [Nat.zero_add] at this
theorem RowC.frozen (h : RowC x B t C) (j : Nat) : x.frozen? ⟨B, j, none⟩ = false := by
  have h' : x.heap[B]? = some (.cells C.toArray t (0, 0)) := h
  simp [World.frozen?, h']
theorem RowC.set (h : RowC x B t C) (j : Nat) (v : Value) : RowC (x.setCell ⟨B, j, none⟩ v) B t (C.set j v) := by
  have h' : x.heap[B]? = some (.cells C.toArray t (0, 0)) := h
  obtain ⟨hlt, hk⟩ := Array.getElem?_eq_some_iff.1 h'
  show (x.heap.modify B _)[B]? = _
  rw [Array.getElem?_eq_getElem (by rw [Array.size_modify]; exact hlt), Array.getElem_modify_self, hk]
  simp
theorem RowC.new (x : World) (t : TypeId) (C : List Value) : RowC (x.alloc (.cells C.toArray t)) x.heap.size t C := heap_alloc_new x _
end
theorem below_new (x : World) (o : Obj) : Below x.heap.size x (x.alloc o) := (Below.refl _ x).alloc (Nat.le_refl _) _
set_option maxRecDepth 100000 in
theorem new_blk (x : World) {C : List Value} (hC : IsBlk C) : ∃ y, (storeVar 60 ⟨x.heap.size, 0, none⟩ (.agg C.toArray)).run Tryz.prog (x.alloc (.cells zarr 60)) = .ok () y ∧ RowC y x.heap.size 60 C ∧ Below x.heap.size x y :=
  ⟨_, store_new zarr_size hC, RowC.new x _ C, below_new x _⟩
set_option maxRecDepth 100000 in
theorem new_pg (x : World) (p : Sct) (hp : p.body.length = 48) : ∃ y, (storeVar 189 ⟨x.heap.size, 0, none⟩ (.agg p.cells.toArray)).run Tryz.prog (x.alloc (.cells zcs.toArray 189)) = .ok () y ∧ RowC y x.heap.size 189 p.cells ∧ Below x.heap.size x y :=
  ⟨_, store_new_pg zcs_len (Sct.cells_length hp) (Sct.cells_one p), RowC.new x _ _, below_new x _⟩
set_option maxRecDepth 100000 in
theorem RowC.blk {x : World} {B : Nat} {C : List Value} {t : TypeId} (h : RowC x B t C) (hC : C.length = 64) : (loadVar 60 ⟨B, 0, none⟩).run Tryz.prog x = .ok (.agg C.toArray) x := load_blk h.range hC
set_option maxRecDepth 100000 in
theorem RowC.pg {x : World} {B : Nat} {p : Sct} {t : TypeId} (h : RowC x B t p.cells) (hp : p.body.length = 48) : (loadVar 189 ⟨B, 0, none⟩).run Tryz.prog x = .ok (.agg p.cells.toArray) x := load_pg h.range (Sct.cells_length hp)
set_option maxRecDepth 100000 in
theorem RowC.bod {x : World} {B : Nat} {p : Sct} {t : TypeId} (h : RowC x B t p.cells) (hp : p.body.length = 48) : (loadVar 112 ⟨B, 3, none⟩).run Tryz.prog x = .ok (.agg (u8s p.body).toArray) x :=
  load_bod (row_part (a := [.int .u8 p.mark, .int .u32 p.seq, .int .i64 p.index]) (b := u8s p.body) h) (by rw [u8s_length, hp])

/-- Cells laid from a place on. -/
theorem laid_from (l : List Value) (k : Nat) (A : Array Value) : l.zipIdx.foldl (fun cs (x : Value × Nat) => cs.setIfInBounds (k + x.2) x.1) A = (l.zipIdx k).foldl (fun cs (x : Value × Nat) => cs.setIfInBounds (0 + x.2) x.1) A := by
  rw [List.zipIdx_eq_map_add (l := l) (i := k), List.foldl_map]
  congr 1
  funext cs x
  obtain ⟨a, j⟩ := x
  show cs.setIfInBounds (k + j) a = cs.setIfInBounds (0 + (k + j)) a
  rw [Nat.zero_add]
def places4 : Nat → Option (Nat × Nat) := fun i => (#[(0, 1), (1, 1), (2, 1), (3, 48)] : Array (Nat × Nat))[i]?
/-- Whatever is no block, no body and neither sector is read and written cell by cell. -/
theorem loadVar_open5 (t : TypeId) (h : t ≠ 60 ∧ t ≠ 189 ∧ t ≠ 112 ∧ t ≠ 167) (a : Addr) : loadVar t a = (do if ← isAgg t then pure (.agg (← loadCells a (← sizeOf t))) else load a) := rfl
theorem storeVar_open5 (t : TypeId) (h : t ≠ 60 ∧ t ≠ 189 ∧ t ≠ 167) (a : Addr) (v : Value) : storeVar t a v = (do
    if v.cells.size ≠ (← sizeOf t) then stuck "storeVar: the value has not the size of the variable"
    storeCells a v.cells.toList) := rfl
/-- A block's bytes, a sector's code. -/
theorem isBlk_code {p : Sct} (hp : p.Ok) : IsBlk p.code := by
  unfold Sct.code
  split
  · exact isBlk_u8s (Sct.bytes_length hp)
  · exact isBlk_fill 0
theorem decS_ok {bs : List Int} (hb : IsBytes bs) (hl : bs.length = 64) : (decS bs).Ok := by
  unfold decS
  split
  · exact of_ok hb hl
  · exact ⟨by decide, by decide, by simp [zsct], fun j => by
      show 0 ≤ ((List.replicate 48 (0 : Int))[j]?).getD 0 ∧ ((List.replicate 48 (0 : Int))[j]?).getD 0 < 256
      rw [List.getElem?_replicate]
      split <;> decide⟩
end Go.Proofs.YtbdfllamhcodjaaGreat

/- Images in memory, of both packages: made, read, appended. -/
namespace Go.Proofs.YtbdfllamhcodjaaGreat
open Go.RowKit
set_option linter.unusedVariables false

def zim : List Value := .int .i64 0 :: z48
theorem zim_size : zim.toArray.size = 49 := by simp [zim, z48, u8s]
def imgR (l : List Img) : List (List Value) := l.map Img.cells
theorem imgR_length (l : List Img) : (imgR l).length = l.length := by simp [imgR]
set_option maxRecDepth 100000 in
theorem build_bod (w : World) : (Instr.build 112 #[]).run Tryz.prog w = .ok (.agg z48.toArray) w := by kernel_rfl
def placesI : Nat → Option (Nat × Nat) := fun i => (#[(0, 1), (1, 48)] : Array (Nat × Nat))[i]?
theorem fill_img (i : Int) (c : List Value) (hc : c.length = 48) : Instr.fill placesI zim.toArray [(0, .int .i64 i), (1, .agg c.toArray)] = some (Value.int .i64 i :: c).toArray := by
  have h3 : Instr.fill placesI zim.toArray [(0, .int .i64 i), (1, .agg c.toArray)] = Instr.fill placesI (zim.set 0 (.int .i64 i)).toArray [(1, .agg c.toArray)] := rfl
  have hz : (zim.set 0 (.int .i64 i)).toArray.size = 49 := by simp [zim, z48, u8s]
  rw [h3]
  have p3 : placesI 1 = some (1, 48) := rfl
  simp only [Instr.fill, p3, Value.cells]
  refine (if_neg ?_).trans ?_
  · intro h
    rcases Bool.or_eq_true_iff.1 h with h | h
    · exact (of_decide_eq_true h) (by simpa using hc)
    · have h' : 1 + c.toArray.size > (zim.set 0 (.int .i64 i)).toArray.size := of_decide_eq_true h
      rw [hz, List.size_toArray, hc] at h'
      omega
  congr 1
  rw [← Array.foldl_toList, Array.toList_zipIdx, laid_from]
  apply Array.ext_getElem?
  intro j
  rw [laid_get c 1 _ j (by rw [hz, hc]; omega)]
  match j with
  | 0 => rfl
  | j + 1 =>
    by_cases hj : j < 48
    · rw [if_pos (by omega)]; simp
    · rw [if_neg (by omega), Array.getElem?_eq_none (by omega)]; simp; omega

-- revetmentref06.Image
set_option maxRecDepth 100000 in
theorem info_imgR : (Tryz.prog.info? 139).map (fun i => (i.zero, i.size, i.bytes)) = some (some (.agg zim.toArray), 49, 56) := by kernel_rfl
set_option maxRecDepth 100000 in
theorem zero_imgR (w : World) : (zeroValue 139).run Tryz.prog w = .ok (.agg zim.toArray) w := by kernel_rfl
set_option maxRecDepth 100000 in
/-- An image appended to images. -/
theorem append_imgR (N : Nat) (w : World) (v : Value) (vs : List (List Value)) (b : List Value) (B : Nat) (hown : w.ownsRow N 139 49 v vs.length vs.flatten) (hb : b.length = 49) (h1 : ∀ u ∈ b, u.oneCell' = true) (hB : w.rangeAt B 0 b) (hlen : vs.length ≤ 1000000) (hN : N ≤ w.heap.size) :
    ∃ v' w', (Builtin.append_ #[138, 138] 138 #[v, .slice (some ⟨B, 0, none⟩) 1 1]).run Tryz.prog w = .ok v' w' ∧ w'.ownsRow N 139 49 v' (vs ++ [b]).length (vs ++ [b]).flatten ∧ w.grownBy w' v.ownBlock ∧ (v'.ownBlock = v.ownBlock ∨ v'.ownBlock = some w.heap.size) := by
  obtain ⟨i0, hi, hz0, hz1, hz2⟩ := info_parts info_imgR
  obtain ⟨v', w', hr, h1, h2, _, h3⟩ := run_append_own_at (P := Tryz.prog) w N 138 138 139 i0 (.agg zim.toArray) 49 56 Tryz.underlying138 hi hz0 hz1 hz2 zim_size (by omega) v vs.length vs.flatten hown
    ⟨B, 0, none⟩ 1 1 b (by rw [hb]) (fun j u hj => by have := hB j u hj; rwa [Addr.add_mid]) h1 (by unfold maxLen; omega) (by omega) hN
  exact ⟨v', w', hr, by simpa using h1, h2, h3⟩

-- ring.Image
set_option maxRecDepth 100000 in
theorem size_imgD : (Tryz.prog.info? 133).map (·.size) = some 49 := by kernel_rfl
set_option maxRecDepth 100000 in
theorem info_imgD : (Tryz.prog.info? 133).map (fun i => (i.zero, i.size, i.bytes)) = some (some (.agg zim.toArray), 49, 56) := by kernel_rfl
set_option maxRecDepth 100000 in
theorem zero_imgD (w : World) : (zeroValue 133).run Tryz.prog w = .ok (.agg zim.toArray) w := by kernel_rfl
set_option maxRecDepth 100000 in
theorem load_imgD {w : World} {b o : Nat} {c : List Value} (hc : w.rangeAt b o c) (h : c.length = 49) : (loadVar 133 ⟨b, o, none⟩).run Tryz.prog w = .ok (.agg c.toArray) w :=
  run_loadVar_mid w b o _ c _ hc Tryz.underlying133 rfl (by rw [h]; exact size_imgD)
set_option maxRecDepth 100000 in
theorem store_new_imgD {w : World} {c : Array Value} {c' : List Value} (h : c.size = 49) (h' : c'.length = 49) (h1 : ∀ v ∈ c', v.oneCell' = true) : (storeVar 133 ⟨w.heap.size, 0, none⟩ (.agg c'.toArray)).run Tryz.prog (w.alloc (.cells c 133)) = .ok () (w.alloc (.cells c'.toArray 133)) :=
  run_storeVar_new w _ c c'.toArray (by simpa [h'] using size_imgD) (by simpa [h'] using h) (all_oneCell_toArray h1)
set_option maxRecDepth 100000 in
theorem build_imgD (i : Int) (c : List Value) (hc : c.length = 48) (w : World) :
    (Instr.build 133 #[(0, .int .i64 i), (1, .agg c.toArray)]).run Tryz.prog w = .ok (.agg (Value.int .i64 i :: c).toArray) w :=
  run_build w _ _ _ (fill_img i c hc)
set_option maxRecDepth 100000 in
/-- A slice of one image. -/
theorem slice_imgD (w : World) (b : List Value) (h : b.length = 49) : (Instr.buildSlice 130 1 #[(0, .agg b.toArray)]).run Tryz.prog w = .ok (.slice (some ⟨w.heap.size, 0, none⟩) 1 1) (w.alloc (.cells b.toArray 133)) := by
  have e : (b.zipIdx.foldl (fun cs (x : Value × Nat) => cs.setIfInBounds (0 + x.2) x.1) ((Array.range 49).map (zim.toArray[· % zim.toArray.size]!))) = b.toArray := laid_all b _ (by simp [h])
  have e2 : b.toArray.zipIdx.foldl (fun cs (x : Value × Nat) => cs.setIfInBounds (0 + x.2) x.1) ((Array.range 49).map (zim.toArray[· % zim.toArray.size]!)) = b.toArray := by
    rw [← Array.foldl_toList, Array.toList_zipIdx]
    exact e
  obtain ⟨i0, hi, hz0, hz1, hz2⟩ := info_parts info_imgD
  refine run_buildSlice (P := Tryz.prog) w 130 133 1 _ b.toArray i0 (.agg zim.toArray) (by kernel_rfl) hi hz0 (by rw [hz1]; decide) (by rw [hz1]; decide) ?_
  rw [hz1]
  show Instr.fill _ _ [(0, Value.agg b.toArray)] = _
  simp only [Instr.fill]
  rw [if_neg (by simp [Value.cells, h])]
  congr 1
set_option maxRecDepth 100000 in
/-- An image appended to images. -/
theorem append_imgD (N : Nat) (w : World) (v : Value) (vs : List (List Value)) (b : List Value) (B : Nat) (hown : w.ownsRow N 133 49 v vs.length vs.flatten) (hb : b.length = 49) (h1 : ∀ u ∈ b, u.oneCell' = true) (hB : w.rangeAt B 0 b) (hlen : vs.length ≤ 1000000) (hN : N ≤ w.heap.size) :
    ∃ v' w', (Builtin.append_ #[130, 130] 130 #[v, .slice (some ⟨B, 0, none⟩) 1 1]).run Tryz.prog w = .ok v' w' ∧ w'.ownsRow N 133 49 v' (vs ++ [b]).length (vs ++ [b]).flatten ∧ w.grownBy w' v.ownBlock ∧ (v'.ownBlock = v.ownBlock ∨ v'.ownBlock = some w.heap.size) := by
  obtain ⟨i0, hi, hz0, hz1, hz2⟩ := info_parts info_imgD
  obtain ⟨v', w', hr, h1, h2, _, h3⟩ := run_append_own_at (P := Tryz.prog) w N 130 130 133 i0 (.agg zim.toArray) 49 56 Tryz.underlying130 hi hz0 hz1 hz2 zim_size (by omega) v vs.length vs.flatten hown
    ⟨B, 0, none⟩ 1 1 b (by rw [hb]) (fun j u hj => by have := hB j u hj; rwa [Addr.add_mid]) h1 (by unfold maxLen; omega) (by omega) hN
  exact ⟨v', w', hr, by simpa using h1, h2, h3⟩
end Go.Proofs.YtbdfllamhcodjaaGreat

/- The document's May: is there such a ring? -/
namespace Go.Proofs.YtbdfllamhcodjaaGreat
open Go.RowKit
set_option linter.unusedVariables false
attribute [-simp] Tryz.isAgg60 Tryz.zeroValue60
attribute [-go_sem] loadVar storeVar
attribute [local go_sem] zero_blk build_blk loadVar_open storeVar_open

/-- Is there such a ring? -/
def mayR (n : Nat) (frm count at0 : Int) : Bool := decide (0 ≤ frm ∧ 2 ≤ count ∧ count ≤ 256 ∧ frm ≤ n ∧ count ≤ n - frm ∧ 0 ≤ at0 ∧ at0 < count)
section
variable {rq q0 q1 : Nat} {S : RS} {w : World} {f : Nat → Prop}
end
end Go.Proofs.YtbdfllamhcodjaaGreat

/- make of a slice whose run is known; a guard that lets it by is no bar. -/
namespace Go.Proofs.YtbdfllamhcodjaaGreat
open Go.RowKit
set_option linter.unusedVariables false
theorem wpList_make_run {P : Program} {w w' : World} {ops : Array Oper} {rest : List Oper} {o : Oper} {a : Act} {Q : Exit → Act → World → Prop} (t : TypeId) (l c : Operand)
    (ho : o.op = .makeSlice t l c) (hw : Region.wanted o (yielded ops a.tmps) = true) (vl vc v' : Value) (hl : a.eval l = vl) (hc : a.eval c = vc)
    (hrun : (Instr.makeSlice t vl vc).run P w = .ok v' w') (h : wpList P ops Q rest (a.put o.dst v') w') : wpList P ops Q (o :: rest) a w := by
  unfold wpList
  rw [if_pos hw]
  refine .inl ?_
  unfold Oper.wp
  simp only [execOp, ho, Sem.run_bind, hl, hc, hrun, Result.andThen_ok, Sem.run_pure]
  exact h
/-- A gate for an arm: the next operation makes a slice. -/
theorem gate_make {P : Program} {w : World} {ops : Array Oper} {rest : List Oper} {a : Act} {Q : Exit → Act → World → Prop} {dst : Option Tmp} {t ty : TypeId} {l c : Operand} {pos : String} {after : Array Edge} {guard : Option (Nat × Bool)}
    (h : wpList P ops Q ({ dst := dst, op := .makeSlice t l c, type := ty, pos := pos, after := after, guard := guard } :: rest) a w) :
    wpList P ops Q ({ dst := dst, op := .makeSlice t l c, type := ty, pos := pos, after := after, guard := guard } :: rest) a w := h
/-- A struct's literal whose run is known; a guard that lets it by is no bar. -/
theorem wpList_struct_run {P : Program} {w w' : World} {ops : Array Oper} {rest : List Oper} {o : Oper} {a : Act} {Q : Exit → Act → World → Prop} (t : TypeId) (parts : Array (Nat × Operand))
    (ho : o.op = .build t parts) (hw : Region.wanted o (yielded ops a.tmps) = true) (vs : List (Nat × Value)) (v' : Value) (hs : (parts.toList.map fun (i, x) => (i, a.eval x)) = vs)
    (hrun : (Instr.build t vs.toArray).run P w = .ok v' w') (h : wpList P ops Q rest (a.put o.dst v') w') : wpList P ops Q (o :: rest) a w := by
  unfold wpList
  rw [if_pos hw]
  refine .inl ?_
  have hs' : (parts.map fun (i, x) => (i, a.eval x)) = vs.toArray := by
    apply Array.toList_inj.1
    rw [Array.toList_map, hs]
  unfold Oper.wp
  simp only [execOp, ho, Sem.run_bind, hs', hrun, Result.andThen_ok, Sem.run_pure]
  exact h
/-- A gate for an arm: the next operation is a struct's or an array's literal of type k. -/
theorem gate_struct (k : TypeId) {P : Program} {w : World} {ops : Array Oper} {rest : List Oper} {a : Act} {Q : Exit → Act → World → Prop} {dst : Option Tmp} {ty : TypeId} {parts : Array (Nat × Operand)} {pos : String} {after : Array Edge} {guard : Option (Nat × Bool)}
    (h : wpList P ops Q ({ dst := dst, op := .build k parts, type := ty, pos := pos, after := after, guard := guard } :: rest) a w) :
    wpList P ops Q ({ dst := dst, op := .build k parts, type := ty, pos := pos, after := after, guard := guard } :: rest) a w := h
end Go.Proofs.YtbdfllamhcodjaaGreat

/- The document's one: the transaction at a place. -/
namespace Go.Proofs.YtbdfllamhcodjaaGreat
open Go.RowKit Go.Shelf
set_option linter.unusedVariables false
attribute [-simp] Tryz.isAgg60 Tryz.zeroValue60 Tryz.isAgg112 Tryz.zeroValue112 Tryz.isAgg167 Tryz.zeroValue167 Tryz.isAgg139 Tryz.zeroValue139
attribute [-go_sem] loadVar storeVar run_equalIn_agg
attribute [local go_sem] zero_blk build_blk zero_bod build_bod zero_sec zero_imgR loadVar_open5 storeVar_open5

/-- All sectors of the fast disk are bytes. -/
def RS.Byt (S : RS) : Prop := ∀ i, i < S.n0 → IsBytes (S.rd i) ∧ (S.rd i).length = 64 ∧ (S.D0 i).look = u8s (S.rd i)

end Go.Proofs.YtbdfllamhcodjaaGreat

/- Rigs whose fast disk holds bytes. -/
namespace Go.Proofs.YtbdfllamhcodjaaGreat
open Go.RowKit
set_option linter.unusedVariables false

/-- Sixty-four bytes. -/
def BB (c : List Value) : Prop := ∃ bs, c = u8s bs ∧ IsBytes bs ∧ bs.length = 64
structure Sec.BB (s : Sec) : Prop where
  c : Go.Proofs.YtbdfllamhcodjaaGreat.BB s.c
  vs : ∀ v ∈ s.vs, Go.Proofs.YtbdfllamhcodjaaGreat.BB v
theorem BB.fill {n : Int} (h : 0 ≤ n ∧ n < 256) : BB (fillB n) := ⟨List.replicate 64 n, by unfold fillB u8s; rw [List.map_replicate], fun j => by
  rw [List.getElem?_replicate]
  split
  · exact h
  · decide, List.length_replicate⟩
theorem Sec.BB.look {s : Sec} (h : s.BB) : Go.Proofs.YtbdfllamhcodjaaGreat.BB s.look := by
  unfold Sec.look
  cases e : s.vs.getLast? with
  | none => exact h.c
  | some v => exact h.vs v (List.mem_of_getLast? e)
theorem Sec.BB.add {s : Sec} (h : s.BB) {b : List Value} (hb : Go.Proofs.YtbdfllamhcodjaaGreat.BB b) : (s.add b).BB := by
  unfold Sec.add
  split
  · exact ⟨h.c, fun v hv => by
      rcases List.mem_or_eq_of_mem_set hv with h1 | h1
      · exact h.vs v h1
      · exact h1 ▸ hb⟩
  · exact ⟨h.c, fun v hv => by
      rcases List.mem_append.1 hv with h1 | h1
      · exact h.vs v h1
      · rw [List.mem_singleton] at h1
        exact h1 ▸ hb⟩
theorem Sec.BB.settle {s : Sec} (h : s.BB) (k : Nat) : (s.settle k).BB := by
  unfold Sec.settle
  refine ⟨?_, fun v hv => by cases hv⟩
  show Go.Proofs.YtbdfllamhcodjaaGreat.BB (if k = 0 then s.c else s.vs[k - 1]?.getD s.c)
  split
  · exact h.c
  · cases e : s.vs[k - 1]? with
    | none => exact h.c
    | some v => exact h.vs v (List.mem_of_getElem? e)
def RS.BB (S : RS) : Prop := ∀ i, (S.D0 i).BB
section
variable {S : RS}
theorem newS_bb (n0 n1 : Nat) : (newS n0 n1).BB := fun i => ⟨BB.fill (by omega), fun v hv => by cases hv⟩
theorem RS.after_bb (h : S.BB) : S.after.BB := fun i => by rw [S.after_same.2.2.1]; exact h i
theorem RS.BB.put (h : S.BB) (dev : Int) (i : Nat) {b : List Value} (hb : Go.Proofs.YtbdfllamhcodjaaGreat.BB b) : (S.put dev i b).BB := by
  unfold RS.put
  split
  · intro j
    show (upd S.D0 i ((S.D0 i).add b) j).BB
    unfold upd
    split
    · exact (h i).add hb
    · exact h j
  · exact h
theorem RS.BB.fl (h : S.BB) (dev : Int) : (S.fl dev).BB := by
  unfold RS.fl
  split
  · intro j
    show (flTo S.D0 S.n0 j).BB
    unfold flTo
    split
    · exact ⟨(h j).look, fun v hv => by cases hv⟩
    · exact h j
  · exact h
theorem RS.BB.write (h : S.BB) (dev i : Int) {b : List Value} (hb : Go.Proofs.YtbdfllamhcodjaaGreat.BB b) : (S.write dev i b).BB := by
  unfold RS.write
  split
  · split
    · exact (RS.after_bb h).put dev i.toNat hb
    · exact RS.after_bb h
  · exact h
theorem RS.BB.flush (h : S.BB) (dev : Int) : (S.flush dev).BB := by
  unfold RS.flush
  split
  · split
    · exact (RS.after_bb h).fl dev
    · exact RS.after_bb h
  · exact h
theorem RS.BB.wrs : ∀ (l : List (Nat × List Value)) {S : RS}, S.BB → (∀ x ∈ l, Go.Proofs.YtbdfllamhcodjaaGreat.BB x.2) → (S.wrs l).1.BB
  | [], S, h, _ => h
  | (i, b) :: l, S, h, hl => by
    have h1 := h.write 0 (i : Int) (hl (i, b) List.mem_cons_self)
    unfold RS.wrs
    split
    · exact RS.BB.wrs l h1 fun x hx => hl x (List.mem_cons_of_mem _ hx)
    · exact h1
theorem txnW_bb {frm count at0 : Nat} {seq : Int} {t : List Img} (hs : IsSeq seq) (hok : ∀ x ∈ t, x.Ok) : ∀ x ∈ txnW frm count at0 seq t, BB x.2 := by
  intro x hx
  unfold txnW at hx
  obtain ⟨y, hy, rfl⟩ := List.mem_map.1 hx
  have hm : y.1 ∈ txnB seq t := by
    have := List.mem_zipIdx hy
    simp only [Nat.zero_add] at this
    rw [this.2.2]
    exact List.getElem_mem _
  unfold txnB at hm
  rcases List.mem_append.1 hm with h | h
  · obtain ⟨z, hz, e⟩ := List.mem_map.1 h
    exact ⟨y.1, rfl, e ▸ Sct.bytes_bytes (imgSct_ok hs (hok z hz)), e ▸ Sct.bytes_length (imgSct_ok hs (hok z hz))⟩
  · rw [List.mem_singleton] at h
    exact ⟨y.1, rfl, h ▸ Sct.bytes_bytes (comSct_ok hs), h ▸ Sct.bytes_length (comSct_ok hs)⟩
theorem RS.BB.crash (h : S.BB) (b0 b1 : List Int) : (S.crash b0 b1).BB := by
  intro j
  show (settled S.D0 (crashG S.D0 b0) (looseTo S.D0 S.n0) j).BB
  unfold settled
  split
  · exact (h j).settle _
  · exact h j
theorem RS.BB.byt (h : S.BB) : S.Byt := fun i _ => by
  obtain ⟨bs, e, h1, h2⟩ := (h i).look
  have : S.rd i = bs := by unfold RS.rd; rw [e, byt_u8s]
  rw [this]
  exact ⟨h1, h2, e⟩
end
end Go.Proofs.YtbdfllamhcodjaaGreat

/- Batches of writes on the fast disk, each one flushed; what a crash leaves of them. -/
namespace Go.Proofs.YtbdfllamhcodjaaGreat
open Go.RowKit
set_option linter.unusedVariables false

/-- Writes, each with its sector. -/
abbrev Wrs := List (Nat × List Value)
/-- Batches: writes, then a flush; till one is refused. -/
def RS.bat (S : RS) : List Wrs → RS × Int
  | [] => (S, 0)
  | l :: ls => if (S.wrs l).2 = false then ((S.wrs l).1, 14) else if (S.wrs l).1.flushE 0 ≠ 0 then ((S.wrs l).1.flush 0, 14) else ((S.wrs l).1.flush 0).bat ls
theorem RS.app_bat (S : RS) (frm count at0 : Nat) (seq : Int) (t : List Img) : S.app frm count at0 seq t = S.bat [(txnW frm count at0 seq t).take t.length, (txnW frm count at0 seq t).drop t.length] := by
  unfold RS.app
  simp only [RS.bat]
theorem RS.bat_cons (S : RS) (l : Wrs) (ls : List Wrs) : S.bat (l :: ls) = if (S.wrs l).2 = false then ((S.wrs l).1, 14) else if (S.wrs l).1.flushE 0 ≠ 0 then ((S.wrs l).1.flush 0, 14) else ((S.wrs l).1.flush 0).bat ls := rfl
theorem RS.bat_append : ∀ (ls ks : List Wrs) (S : RS), S.bat (ls ++ ks) = if (S.bat ls).2 = 0 then (S.bat ls).1.bat ks else S.bat ls
  | [], ks, S => by simp [RS.bat]
  | l :: ls, ks, S => by
    rw [List.cons_append, RS.bat_cons, RS.bat_cons]
    by_cases h1 : (S.wrs l).2 = false
    · simp [h1]
    · rw [if_neg h1, if_neg h1]
      by_cases h2 : (S.wrs l).1.flushE 0 ≠ 0
      · rw [if_pos h2, if_pos h2]; simp
      · rw [if_neg h2, if_neg h2]
        exact RS.bat_append ls ks _
/-- Nothing is loose on the fast disk. -/
def RS.Dry (S : RS) : Prop := ∀ i, i < S.n0 → (S.D0 i).vs = []
/-- What the sectors contain once these are written. -/
structure FullW (S T : RS) (W : Wrs) : Prop where
  n0 : T.n0 = S.n0
  n1 : T.n1 = S.n1
  dry : T.Dry
  bb : T.BB
  else_ : ∀ i, i < S.n0 → i ∉ W.map (·.1) → T.rd i = S.rd i
  at_ : ∀ i b, (i, b) ∈ W → T.rd i = byt b
/-- .. of which some may be. -/
structure PartW (S T : RS) (W : Wrs) : Prop where
  n0 : T.n0 = S.n0
  n1 : T.n1 = S.n1
  dry : T.Dry
  bb : T.BB
  or_ : ∀ i, i < S.n0 → T.rd i = S.rd i ∨ ∃ b, (i, b) ∈ W ∧ T.rd i = byt b
/-- All of them, batch by batch; a crash anywhere between. -/
inductive AllW : RS → List Wrs → RS → Prop
  | nil {S T : RS} : FullW S T [] → AllW S [] T
  | step {S U T : RS} {l : Wrs} {ls : List Wrs} : FullW S U l → AllW U ls T → AllW S (l :: ls) T
inductive GoesW : RS → List Wrs → RS → Prop
  | nil {S T : RS} : FullW S T [] → GoesW S [] T
  | part {S T : RS} {l : Wrs} {ls : List Wrs} : PartW S T l → GoesW S (l :: ls) T
  | step {S U T : RS} {l : Wrs} {ls : List Wrs} : FullW S U l → GoesW U ls T → GoesW S (l :: ls) T
theorem FullW.else' {S T : RS} {W : Wrs} (h : FullW S T W) {i : Nat} (hi : i < S.n0) (hn : ∀ b, (i, b) ∉ W) : T.rd i = S.rd i := h.else_ i hi fun hm => by
  obtain ⟨x, hx, rfl⟩ := List.mem_map.1 hm
  exact hn x.2 hx
/-- Of one write all or nothing. -/
theorem PartW.one {S T : RS} {i : Nat} {b : List Value} (h : PartW S T [(i, b)]) (hi : i < S.n0) : FullW S T [] ∨ FullW S T [(i, b)] := by
  rcases h.or_ i hi with h1 | ⟨c, hc, h1⟩
  · refine .inl ⟨h.n0, h.n1, h.dry, h.bb, fun j hj _ => ?_, fun j c hc => by cases hc⟩
    rcases h.or_ j hj with h2 | ⟨c, hc, h2⟩
    · exact h2
    · obtain ⟨rfl, rfl⟩ : j = i ∧ c = b := by simpa using hc
      exact h1
  · obtain rfl : c = b := by simpa using hc
    refine .inr ⟨h.n0, h.n1, h.dry, h.bb, fun j hj hn => ?_, fun j d hd => ?_⟩
    · rcases h.or_ j hj with h2 | ⟨d, hd, h2⟩
      · exact h2
      · obtain ⟨rfl, rfl⟩ : j = i ∧ d = c := by simpa using hd
        simp at hn
    · obtain ⟨rfl, rfl⟩ : j = i ∧ d = c := by simpa using hd
      exact h1

theorem Sec.add_may {s : Sec} {b c : List Value} (h : (s.add b).may c) : s.may c ∨ c = b := by
  unfold Sec.add at h
  split at h
  · rcases h with h | h
    · exact .inl (.inl h)
    · rcases List.mem_or_eq_of_mem_set h with h | h
      · exact .inl (.inr h)
      · exact .inr h
  · rcases h with h | h
    · exact .inl (.inl h)
    · rcases List.mem_append.1 h with h | h
      · exact .inl (.inr h)
      · exact .inr (List.mem_singleton.1 h)
theorem adds_may {i : Nat} {c : List Value} : ∀ (l : Wrs) (D : Nat → Sec), (adds D l i).may c → (D i).may c ∨ ∃ b, (i, b) ∈ l ∧ c = b
  | [], D, h => .inl h
  | (j, b) :: l, D, h => by
    rcases adds_may l _ h with h | ⟨d, hd, e⟩
    · by_cases hj : i = j
      · subst hj
        rw [upd_same] at h
        rcases Sec.add_may h with h | h
        · exact .inl h
        · exact .inr ⟨b, List.mem_cons_self, h⟩
      · rw [upd_other _ _ hj] at h
        exact .inl h
    · exact .inr ⟨d, List.mem_cons_of_mem _ hd, e⟩
theorem one_may {c d : List Value} (h : Sec.may ⟨d, []⟩ c) : c = d := by
  rcases h with h | h
  · exact h
  · simp at h
theorem rd_of {S : RS} {i : Nat} {c : List Value} (h : S.D0 i = ⟨c, []⟩) : S.rd i = byt c := by
  unfold RS.rd
  rw [h]
  rfl
/-- What the writes of a batch may leave. -/
theorem dry_may {S : RS} {D : Nat → Sec} {l : Wrs} {m : Nat} (hS : S.Dry) (hD : D = adds S.D0 (l.take m)) {i : Nat} {c : List Value} (hi : i < S.n0) (h : (D i).may c) : c = (S.D0 i).look ∨ ∃ b, (i, b) ∈ l ∧ c = b := by
  rw [hD] at h
  rcases adds_may _ _ h with h | ⟨b, hb, e⟩
  · rw [Sec.eta (hS i hi)] at h
    exact .inl (one_may h)
  · exact .inr ⟨b, List.mem_of_mem_take hb, e⟩
theorem RS.crash_bb {S : RS} (h : S.BB) (b0 b1 : List Int) : (S.crash b0 b1).BB := h.crash b0 b1
theorem RS.crash_part {S T : RS} {l : Wrs} {m : Nat} (hS : S.Dry) (hb : T.BB) (hn0 : T.n0 = S.n0) (hn1 : T.n1 = S.n1) (hD : T.D0 = adds S.D0 (l.take m)) (b0 b1 : List Int) : PartW S (T.crash b0 b1) l := by
  have hcr := fun i (hi : i < S.n0) => crash_may T b0 b1 (i := i) (by rw [hn0]; exact hi)
  refine ⟨hn0, hn1, fun i hi => ?_, RS.crash_bb hb b0 b1, fun i hi => ?_⟩
  · obtain ⟨c, e, _⟩ := hcr i (by have : (T.crash b0 b1).n0 = S.n0 := hn0; omega)
    rw [e]
  · obtain ⟨c, e, h⟩ := hcr i hi
    rw [rd_of e]
    rcases dry_may hS hD hi h with h | ⟨b, hb, h⟩
    · left; rw [h]; rfl
    · exact .inr ⟨b, hb, by rw [h]⟩
/-- A batch may be: its sectors are there, and differ. -/
structure BatOk (S : RS) (l : Wrs) : Prop where
  lt : ∀ x ∈ l, x.1 < S.n0
  nodup : (l.map (·.1)).Nodup
  bb : ∀ x ∈ l, Go.Proofs.YtbdfllamhcodjaaGreat.BB x.2
theorem RS.flush_full {S T : RS} {l : Wrs} (hl : BatOk S l) (hS : S.Dry) (hb : T.BB) (hn0 : T.n0 = S.n0) (hn1 : T.n1 = S.n1) (hD : T.D0 = flTo (adds S.D0 l) S.n0) : FullW S T l := by
  have hat : ∀ i, i < S.n0 → T.D0 i = ⟨(adds S.D0 l i).look, []⟩ := fun i hi => by rw [hD]; unfold flTo; rw [if_pos hi]
  refine ⟨hn0, hn1, fun i hi => by rw [hat i (by omega)], hb, fun i hi hn => ?_, fun i b hib => ?_⟩
  · rw [rd_of (hat i hi), adds_not _ _ hn]; rfl
  · have hi := hl.lt _ hib
    rw [rd_of (hat i hi), adds_mem _ _ hl.nodup hib, Sec.look_add (by rw [hS i hi]; exact Nat.zero_le _)]
theorem BatOk.n0 {S T : RS} {l : Wrs} (h : BatOk S l) (e : T.n0 = S.n0) : BatOk T l := ⟨fun x hx => by rw [e]; exact h.lt x hx, h.nodup, h.bb⟩
theorem RS.dry_full {S T : RS} (hb : T.BB) (hn0 : T.n0 = S.n0) (hn1 : T.n1 = S.n1) (hd : T.Dry) (hD : ∀ i, i < S.n0 → T.rd i = S.rd i) : FullW S T [] := ⟨hn0, hn1, hd, hb, fun i hi _ => hD i hi, fun i b h => by cases h⟩
theorem RS.crash_dry {S : RS} (hS : S.Dry) (hb : S.BB) (b0 b1 : List Int) : FullW S (S.crash b0 b1) [] := by
  have h := RS.crash_part (S := S) (T := S) (l := []) (m := 0) hS hb rfl rfl rfl b0 b1
  exact RS.dry_full h.bb rfl rfl h.dry fun i hi => by
    rcases h.or_ i hi with h | ⟨b, hb, _⟩
    · exact h
    · cases hb
/-- **Batches on a rig on which nothing is loose**: all of them, or a crash leaves some. -/
theorem RS.bat_spec : ∀ (ls : List Wrs) (S : RS), S.Dry → S.BB → (∀ l ∈ ls, BatOk S l) → ∃ T e, S.bat ls = (T, e) ∧ T.n0 = S.n0 ∧ T.n1 = S.n1 ∧ T.BB ∧ ((e = 0 ∧ AllW S ls T) ∨ (e = 14 ∧ ∀ b0 b1, GoesW S ls (T.crash b0 b1)))
  | [], S, hS, hb, _ => ⟨S, 0, rfl, rfl, rfl, hb, .inl ⟨rfl, .nil (RS.dry_full hb rfl rfl hS fun _ _ => rfl)⟩⟩
  | l :: ls, S, hS, hb, hl => by
    have hl0 := hl l List.mem_cons_self
    obtain ⟨s1, m, m1, m2, m3⟩ := RS.wrs_spec l S hl0.lt
    have hb1 := RS.BB.wrs l hb hl0.bb
    rw [RS.bat_cons]
    generalize hR : S.wrs l = R at *
    obtain ⟨U, z⟩ := R
    dsimp only at s1 m2 m3 hb1 ⊢
    cases z with
    | false =>
      rw [if_pos rfl]
      exact ⟨U, 14, rfl, s1.n0, s1.n1, hb1, .inr ⟨rfl, fun b0 b1 => .part (RS.crash_part hS hb1 s1.n0 s1.n1 m2 b0 b1)⟩⟩
    | true =>
      rw [if_neg (by simp)]
      have hm := m3 rfl
      rw [hm, List.take_length] at m2
      obtain ⟨s2, hf⟩ := RS.flush0 U
      rcases hf with ⟨_, h2, h3⟩ | ⟨_, h2, h3⟩
      · rw [if_neg (by omega)]
        have hF : FullW S (U.flush 0) l := RS.flush_full hl0 hS (hb1.flush 0) (s2.n0.trans s1.n0) (s2.n1.trans s1.n1) (by rw [h3, m2, s1.n0])
        obtain ⟨T, e, hT, t0, t1, tb, hc⟩ := RS.bat_spec ls (U.flush 0) hF.dry hF.bb (fun k hk => (hl k (List.mem_cons_of_mem _ hk)).n0 hF.n0)
        refine ⟨T, e, hT, t0.trans hF.n0, t1.trans hF.n1, tb, ?_⟩
        rcases hc with ⟨he, hA⟩ | ⟨he, hG⟩
        · exact .inl ⟨he, .step hF hA⟩
        · exact .inr ⟨he, fun b0 b1 => .step hF (hG b0 b1)⟩
      · rw [if_pos (by omega)]
        refine ⟨U.flush 0, 14, rfl, s2.n0.trans s1.n0, s2.n1.trans s1.n1, hb1.flush 0, .inr ⟨rfl, fun b0 b1 => .part (RS.crash_part (m := l.length) hS (hb1.flush 0) (s2.n0.trans s1.n0) (s2.n1.trans s1.n1) (by rw [h3, m2, List.take_length]) b0 b1)⟩⟩
end Go.Proofs.YtbdfllamhcodjaaGreat

/- Geometries; the document's answers about them. -/
namespace Go.Proofs.YtbdfllamhcodjaaGreat
open Go.RowKit Go.Shelf
set_option linter.unusedVariables false

/-- A geometry: blocks, sets, ways, area, ring. -/
structure Geo where
  b : Int
  s : Int
  y : Int
  a : Int
  r : Int
def Geo.v (g : Geo) : Array Value := #[.int .i64 g.b, .int .i64 g.s, .int .i64 g.y, .int .i64 g.a, .int .i64 g.r]
def Geo.shape (g : Geo) : Prop := 1 ≤ g.b ∧ g.b ≤ 64 ∧ 1 ≤ g.s ∧ g.s ≤ 8 ∧ 1 ≤ g.y ∧ g.y ≤ 4 ∧ 0 ≤ g.a ∧ g.a ≤ 200
def Geo.slots (g : Geo) : Int := g.s * g.y
def Geo.bts (g : Geo) : Int := 10 + g.s * g.y + g.b + 8 * (4 + (g.b + 7) / 8 + g.b)
def Geo.pgs (g : Geo) : Int := cnt g.bts
def Geo.good (g : Geo) : Prop := g.shape ∧ g.pgs + 2 ≤ g.r ∧ g.r ≤ 256
instance (g : Geo) : Decidable g.shape := by unfold Geo.shape; infer_instance
instance (g : Geo) : Decidable g.good := by unfold Geo.good; infer_instance
def Geo.oB (g : Geo) : Int := if g.good then g.bts else 0
def Geo.oP (g : Geo) : Int := if g.good then g.pgs else 0
def Geo.oR (g : Geo) : Int := if g.good then 2 else 0
def Geo.oH (g : Geo) : Int := if g.good then 2 + g.r else 0
def Geo.oF (g : Geo) : Int := if g.good then 2 + g.r + g.pgs + g.slots else 0
def Geo.oW (g : Geo) : Int := if g.good then g.b + g.a else 0
theorem Geo.bounds {g : Geo} (h : g.shape) : 1 ≤ g.slots ∧ g.slots ≤ 32 ∧ 52 ≤ g.bts ∧ g.bts ≤ 714 ∧ 2 ≤ g.pgs ∧ g.pgs ≤ 15 := by
  obtain ⟨h1, h2, h3, h4, h5, h6, h7, h8⟩ := h
  have m1 : 1 ≤ g.s * g.y := by have := Int.mul_le_mul h3 h5 (by omega) (by omega); simpa using this
  have m2 : g.s * g.y ≤ 32 := by have := Int.mul_le_mul h4 h6 (by omega) (by omega); simpa using this
  have b1 : 52 ≤ g.bts := by unfold Geo.bts; omega
  have b2 : g.bts ≤ 714 := by unfold Geo.bts; omega
  refine ⟨m1, m2, b1, b2, ?_, ?_⟩ <;> (unfold Geo.pgs cnt; rw [if_neg (by omega)]; omega)
theorem rowG (w : World) (v : Array Value) (t : TypeId) {x : World} (hx : Below (w.alloc (.cells v t)).heap.size (w.alloc (.cells v t)) x) (j : Nat) : x.cell? ⟨w.heap.size, j, none⟩ = v[j]? :=
  cell_of_row x _ j _ _ _ ((hx.block _ (by simp)).trans (heap_alloc_new w _))
theorem below_newG (x : World) (o : Obj) : Below x.heap.size x (x.alloc o) := (Below.refl _ x).alloc (Nat.le_refl _) _

section
set_option maxRecDepth 100000
set_option maxHeartbeats 4000000
set_option maxRecDepth 100000 in
theorem refShape (g : Geo) (w : World) : Calls Tryz.prog 88 #[.agg g.v] w fun e w' => e = .returned (.bool (decide g.shape)) ∧ Below w.heap.size w w' := by
  have hB := below_newG w (.cells g.v 23)
  have hc := rowG w g.v 23 (Below.refl _ _)
  have HS : Hid (decide g.shape = decide (1 ≤ g.b ∧ g.b ≤ 64 ∧ 1 ≤ g.s ∧ g.s ≤ 8 ∧ 1 ≤ g.y ∧ g.y ≤ 4 ∧ 0 ≤ g.a ∧ g.a ≤ 200)) := rfl
  obtain ⟨W, hW⟩ : ∃ W, w.alloc (.cells g.v 23) = W := ⟨_, rfl⟩
  rw [hW] at hB hc
  have c0 := hc 0
  have c1 := hc 1
  have c2 := hc 2
  have c3 := hc 3
  have HB := Lib.hid hB
  clear hc hB
  obtain ⟨b, s, y, a, r⟩ := g
  simp only [Geo.v] at c0 c1 c2 c3 hW ⊢
  simp only [List.getElem?_toArray, List.getElem?_cons_zero, List.getElem?_cons_succ] at c0 c1 c2 c3
  go_enter Tryz.func88, Tryz.ntmps88
  go_wp2_with fail
  all_goals
    go_ret
    refine ⟨congrArg (fun x => Ending.returned (Value.bool x)) ?_, HB.out⟩
    rw [HS.out]
    first
      | exact (decide_eq_false (by omega)).symm
      | exact (decide_eq_true (by omega)).symm
      | (rw [decide_eq_decide]; omega)
end
end Go.Proofs.YtbdfllamhcodjaaGreat

/- What a Meta holds; superblocks, home pages; pages laid over. No program. -/
namespace Go.Proofs.YtbdfllamhcodjaaGreat
open Go.RowKit
set_option linter.unusedVariables false

/-- A superblock's body, a superblock, a home page. -/
def supBody (g : Geo) (a : Nat) (q : Int) : List Int := [82, 86, 84, 49] ++ (putL g.b 2 ++ (putL g.s 1 ++ (putL g.y 1 ++ (putL g.a 2 ++ (putL g.r 2 ++ (putL a 2 ++ (putL q 4 ++ List.replicate 30 0)))))))
def supSct (gen : Int) (g : Geo) (a : Nat) (q : Int) : Sct := ⟨83, gen, 0, supBody g a q⟩
def homSct (i : Nat) (body : List Int) : Sct := ⟨72, 0, i, body⟩
/-- A body's parts. -/
def bodyG (x : List Int) : Geo := ⟨getL ((x.drop 4).take 2), x[6]?.getD 0, x[7]?.getD 0, getL ((x.drop 8).take 2), getL ((x.drop 10).take 2)⟩
def bodyA (x : List Int) : Int := getL ((x.drop 12).take 2)
def bodyQ (x : List Int) : Int := getL ((x.drop 14).take 4)
/-- What a superblock tells. -/
structure Sup where
  gen : Int
  g : Geo
  a : Nat
  q : Int
def supP (n0 n1 : Nat) (bs : List Int) : Prop :=
  decOk bs = true ∧ (Sct.of bs).mark = 83 ∧ (Sct.of bs).index = 0 ∧ (bodyG (Sct.of bs).body).good ∧ (bodyG (Sct.of bs).body).oF ≤ n0 ∧ (bodyG (Sct.of bs).body).oW ≤ n1 ∧
    bodyA (Sct.of bs).body < (bodyG (Sct.of bs).body).r ∧ (Sct.of bs).body = supBody (bodyG (Sct.of bs).body) (bodyA (Sct.of bs).body).toNat (bodyQ (Sct.of bs).body)
instance (n0 n1 : Nat) (bs : List Int) : Decidable (supP n0 n1 bs) := by unfold supP; infer_instance
def supOf (n0 n1 : Nat) (bs : List Int) : Option Sup := if supP n0 n1 bs then some ⟨(Sct.of bs).seq, bodyG (Sct.of bs).body, (bodyA (Sct.of bs).body).toNat, bodyQ (Sct.of bs).body⟩ else none

theorem supBody_length (g : Geo) (a : Nat) (q : Int) : (supBody g a q).length = 48 := by simp [supBody, putL_length]
theorem supBody_bytes (g : Geo) (a : Nat) (q : Int) : IsBytes (supBody g a q) :=
  IsBytes.app (by intro j; match j with | 0 => decide | 1 => decide | 2 => decide | 3 => decide | j + 4 => simp) ((putL_bytes _ _).app ((putL_bytes _ _).app ((putL_bytes _ _).app ((putL_bytes _ _).app ((putL_bytes _ _).app ((putL_bytes _ _).app ((putL_bytes _ _).app (zeros_bytes 30))))))))
section
variable (g : Geo) (a : Nat) (q : Int)
theorem sup_cut4 : ((supBody g a q).drop 4).take 2 = putL g.b 2 := rfl
theorem sup_cut8 : ((supBody g a q).drop 8).take 2 = putL g.a 2 := rfl
theorem sup_cut10 : ((supBody g a q).drop 10).take 2 = putL g.r 2 := rfl
theorem sup_cut12 : ((supBody g a q).drop 12).take 2 = putL a 2 := rfl
theorem sup_cut14 : ((supBody g a q).drop 14).take 4 = putL q 4 := rfl
theorem sup_at6 : (supBody g a q)[6]?.getD 0 = g.s % 256 := by
  show (if (0 : Nat) < 8 then g.s / 2 ^ (8 * 0) % 256 else 0) = _
  simp
theorem sup_at7 : (supBody g a q)[7]?.getD 0 = g.y % 256 := by
  show (if (0 : Nat) < 8 then g.y / 2 ^ (8 * 0) % 256 else 0) = _
  simp
end
theorem getL_put2 {n : Int} (h : 0 ≤ n ∧ n < 65536) : getL (putL n 2) = n := by
  rw [getL_putL n h.1 (by omega) 2, if_pos (by decide)]
  omega
theorem getL_put4 {n : Int} (h : IsSeq n) : getL (putL n 4) = n := by
  rw [getL_putL n h.1 (by have := h.2; omega) 4, if_pos (by decide)]
  have := h.1; have := h.2
  omega
theorem body_sup {g : Geo} (hg : g.good) {a : Nat} (ha : (a : Int) < g.r) {q : Int} (hq : IsSeq q) : bodyG (supBody g a q) = g ∧ bodyA (supBody g a q) = a ∧ bodyQ (supBody g a q) = q := by
  obtain ⟨⟨h1, h2, h3, h4, h5, h6, h7, h8⟩, h9, h10⟩ := hg
  have hr : 0 ≤ g.r := by
    have := (Geo.bounds ⟨h1, h2, h3, h4, h5, h6, h7, h8⟩).2.2.2.2.1
    omega
  refine ⟨?_, ?_, ?_⟩
  · unfold bodyG
    rw [sup_cut4, sup_cut8, sup_cut10, sup_at6, sup_at7, getL_put2 (by omega), getL_put2 (by omega), getL_put2 (by omega)]
    have e1 : g.s % 256 = g.s := by omega
    have e2 : g.y % 256 = g.y := by omega
    rw [e1, e2]
  · unfold bodyA
    rw [sup_cut12, getL_put2 (by omega)]
  · unfold bodyQ
    rw [sup_cut14, getL_put4 hq]
theorem supSct_ok {gen : Int} (hn : IsSeq gen) (g : Geo) (a : Nat) (q : Int) : (supSct gen g a q).Ok := ⟨by show (0 : Int) ≤ 83 ∧ (83 : Int) < 256; omega, hn, supBody_length g a q, supBody_bytes g a q⟩
theorem supSct_fits (gen : Int) (g : Geo) (a : Nat) (q : Int) : (supSct gen g a q).fits = true := decide_eq_true ⟨by show (83 : Int) ≠ 0; omega, by show (0 : Int) ≤ 0 ∧ (0 : Int) ≤ 65535; omega⟩
theorem homSct_ok {i : Nat} {body : List Int} (h1 : body.length = 48) (h2 : IsBytes body) : (homSct i body).Ok := ⟨by show (0 : Int) ≤ 72 ∧ (72 : Int) < 256; omega, by show (0 : Int) ≤ 0 ∧ (0 : Int) < 4294967296; omega, h1, h2⟩
theorem homSct_fits {i : Nat} (hi : i ≤ 65535) (body : List Int) : (homSct i body).fits = true := decide_eq_true ⟨by show (72 : Int) ≠ 0; omega, by show (0 : Int) ≤ i ∧ (i : Int) ≤ 65535; omega⟩
/-- A superblock's bytes tell what it was made of. -/
theorem supOf_sup {n0 n1 : Nat} {gen : Int} (hn : IsSeq gen) {g : Geo} (hg : g.good) (h0 : g.oF ≤ n0) (h1 : g.oW ≤ n1) {a : Nat} (ha : (a : Int) < g.r) {q : Int} (hq : IsSeq q) :
    supOf n0 n1 (supSct gen g a q).bytes = some ⟨gen, g, a, q⟩ := by
  obtain ⟨d1, d2⟩ := decOk_bytes (supSct_ok hn g a q) (supSct_fits gen g a q)
  obtain ⟨e1, e2, e3⟩ := body_sup hg ha hq
  have eb : (supSct gen g a q).body = supBody g a q := rfl
  have hp : supP n0 n1 (supSct gen g a q).bytes := by
    unfold supP
    rw [d2, eb, e1, e2, e3]
    exact ⟨d1, rfl, rfl, hg, h0, h1, ha, rfl⟩
  unfold supOf
  rw [if_pos hp, d2, eb, e1, e2, e3]
  rfl
/-- The newer one. -/
def newer (x y : Option Sup) : Option (Nat × Sup) :=
  match y with
  | none => x.map fun x => (0, x)
  | some y => match x with
    | none => some (1, y)
    | some x => if x.gen < y.gen then some (1, y) else some (0, x)
/-- Home pages. -/
def homP (bs : List Int) (i : Nat) : Prop := decOk bs = true ∧ (Sct.of bs).mark = 72 ∧ (Sct.of bs).seq = 0 ∧ (Sct.of bs).index = i
instance (bs : List Int) (i : Nat) : Decidable (homP bs i) := by unfold homP; infer_instance
theorem homP_hom {i : Nat} (hi : i ≤ 65535) {body : List Int} (h1 : body.length = 48) (h2 : IsBytes body) : homP (homSct i body).bytes i ∧ (Sct.of (homSct i body).bytes).body = body := by
  obtain ⟨d1, d2⟩ := decOk_bytes (homSct_ok (i := i) h1 h2) (homSct_fits hi body)
  unfold homP
  rw [d2]
  exact ⟨⟨d1, rfl, rfl, rfl⟩, rfl⟩
/-- Pages laid over pages. -/
def layI (now : List (List Int)) (x : Img) : List (List Int) := if x.index < now.length then now.set x.index.toNat x.body else now
def layT (now : List (List Int)) (t : List Img) : List (List Int) := t.foldl layI now
def layTs (now : List (List Int)) (ts : List (List Img)) : List (List Int) := ts.foldl layT now
def usedBy (ts : List (List Img)) : Nat := (ts.map fun t => t.length + 1).sum
/-- Bytes in pieces; the pieces that differ. -/
def cutL (bs : List Int) : List (List Int) := (List.range (nPcs bs)).map (piece bs)
def difL (was now : List (List Int)) : List Img := ((List.range now.length).filter fun i => decide (now[i]? ≠ was[i]?)).map fun (i : Nat) => (⟨(i : Int), now[i]?.getD []⟩ : Img)
/-- What a Meta holds. -/
structure MS where
  g : Geo
  b : List Int
  home : List (List Int)
  gen : Int
  sup : Nat
  at0 : Nat
  seq : Int
  used : Nat
def Geo.C (g : Geo) : Nat := g.r.toNat
def Geo.P (g : Geo) : Nat := g.pgs.toNat
def Geo.H (g : Geo) : Nat := 2 + g.C
/-- **Open**. -/
def RS.supAt (S : RS) (i : Nat) : Option Sup := if i < S.n0 then supOf S.n0 S.n1 (S.rd i) else none
def RS.homes (S : RS) (h n : Nat) : List (List Int) := (List.range n).map fun i => (Sct.of (S.rd (h + i))).body
def RS.opn (S : RS) : Option MS :=
  match newer (S.supAt 0) (S.supAt 1) with
  | none => none
  | some (k, x) =>
    if ∀ i, i < x.g.P → homP (S.rd (x.g.H + i)) i then
      some { g := x.g, b := ((layTs (S.homes x.g.H x.g.P) (repS S.rd 2 x.g.C x.a x.q).1).flatten).take x.g.bts.toNat, home := S.homes x.g.H x.g.P, gen := x.gen, sup := k,
             at0 := (repS S.rd 2 x.g.C x.a x.q).2.1, seq := (repS S.rd 2 x.g.C x.a x.q).2.2, used := usedBy (repS S.rd 2 x.g.C x.a x.q).1 }
    else none
/-- **Commit**: the batches; what a Meta holds behind it. -/
def MS.room (M : MS) : Int := M.g.r - M.used
def MS.dif (M : MS) (b : List Int) : List Img := difL (cutL M.b) (cutL b)
def MS.homW (M : MS) : Wrs := ((List.range M.g.P).filter fun i => decide ((cutL M.b)[i]? ≠ M.home[i]?)).map fun i => (M.g.H + i, u8s (homSct i (piece M.b i)).bytes)
def MS.supW (M : MS) : Wrs := [(1 - M.sup, u8s (supSct (M.gen + 1) M.g M.at0 M.seq).bytes)]
def MS.ckpt (M : MS) : MS := { M with home := cutL M.b, gen := M.gen + 1, sup := 1 - M.sup, used := 0 }
def MS.full (M : MS) (b : List Int) : Prop := M.room < (M.dif b).length + 1
instance (M : MS) (b : List Int) : Decidable (M.full b) := by unfold MS.full; infer_instance
def MS.appW (M : MS) (b : List Int) : List Wrs := [(txnW 2 M.g.C M.at0 M.seq (M.dif b)).take (M.dif b).length, (txnW 2 M.g.C M.at0 M.seq (M.dif b)).drop (M.dif b).length]
def MS.bats (M : MS) (b : List Int) : List Wrs := if M.dif b = [] then [] else (if M.full b then [M.homW, M.supW] else []) ++ M.appW b
def MS.app (M : MS) (b : List Int) : MS := { M with b := b, at0 := (M.at0 + (M.dif b).length + 1) % M.g.C, seq := M.seq + 1, used := M.used + (M.dif b).length + 1 }
def MS.next (M : MS) (b : List Int) : MS := if M.dif b = [] then M else if M.full b then M.ckpt.app b else M.app b
def RS.cmt (S : RS) (M : MS) (b : List Int) : RS × Int := S.bat (M.bats b)
/-- **Format**: the batches; what a Meta holds behind it. -/
def fmtB (g : Geo) (b : List Int) : List Wrs := [[(0, fillB 0), (1, fillB 0)], ((List.range g.C).map fun i => (2 + i, fillB 0)) ++ ((List.range g.P).map fun i => (g.H + i, u8s (homSct i (piece b i)).bytes)), [(0, u8s (supSct 1 g 0 1).bytes)]]
def MS.new (g : Geo) (b : List Int) : MS := { g := g, b := b, home := cutL b, gen := 1, sup := 0, at0 := 0, seq := 1, used := 0 }
end Go.Proofs.YtbdfllamhcodjaaGreat

