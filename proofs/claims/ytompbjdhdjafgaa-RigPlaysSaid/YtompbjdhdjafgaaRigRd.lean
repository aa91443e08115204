/- Read, New; a nil rig. -/
import Derived.Test.YtompbjdhdjafgaaRigMt
namespace Go.Proofs.Ytompbjdhdjafgaa
open Go.RowKit Go.Shelf
set_option linter.unusedVariables false
attribute [-simp] Try.isAgg38 Try.zeroValue38
attribute [-go_sem] loadVar storeVar
attribute [local go_sem] zero_blk build_blk loadVar_open storeVar_open

/-- A result's own cell. -/
theorem own_cell {w x : World} {u : List Value} {z : Array Value} (hw : x.heap[w.heap.size]? = some (.cells z 38 (0, 0))) (hz : z.size = 64) (hb : Below w.heap.size w x) (hu : IsBlk u) :
    ∃ x', (storeVar 38 ⟨w.heap.size, 0, none⟩ (.agg u.toArray)).run Try.prog x = .ok () x' ∧ (loadVar 38 ⟨w.heap.size, 0, none⟩).run Try.prog x' = .ok (.agg u.toArray) x' ∧ Below w.heap.size w x' := by
  have ht : x.there w.heap.size 0 64 := fun j hj => by
    have hcell := cell_of_row x w.heap.size (0 + j) z _ _ hw
    refine ⟨?_, ?_⟩
    · rw [hcell]; simp [hz]; omega
    · simp [World.frozen?, hw]
  have hs := store_blk ht hu
  refine ⟨_, hs, load_blk (World.rangeAt_setCells_same x _ 0 u (by rw [hu.length]; exact ht)) hu.length, ?_⟩
  exact hb.trans (below_setCells (Nat.le_refl _) _ _ _)

section
variable {rb p0 p1 : Nat} {S : RS} {w : World} {f : Nat → Prop}

set_option maxRecDepth 100000 in
set_option maxHeartbeats 1000000 in
/-- **Read**. -/
theorem RigR.read (h : RigR rb p0 p1 S w f) (dev i : Int) :
    Calls Try.prog 15 #[.pointer (some ⟨rb, 0, none⟩), .int .i64 dev, .int .i64 i] w fun e w' => e = .returned (.tuple #[.agg (S.read dev i).toArray, .int .i64 (S.readE dev i)]) ∧ Below w.heap.size w w' := by
  obtain ⟨W, hW⟩ : ∃ W, w.alloc (.cells zarr 38) = W := ⟨_, rfl⟩
  have hB : Below w.heap.size w W := by rw [← hW]; exact (Below.refl _ w).alloc (Nat.le_refl _) _
  have K : Hid (W.heap[w.heap.size]? = some (.cells zarr 38 (0, 0)) ∧ w.heap.size < W.heap.size) := by rw [← hW]; exact ⟨heap_alloc_new w _, by simp⟩
  have H := Lib.hid (h.beside hB)
  have H1 := Lib.hid (H.out.disk dev)
  have HB0 := Lib.hid hB
  clear h hB
  obtain ⟨p, hp⟩ : ∃ p, dk p0 p1 dev = p := ⟨_, rfl⟩
  have HP := Lib.hid hp
  rw [hp] at H1
  clear hp
  have H2 : Hid (∀ x : World, Below W.heap.size W x → Calls Try.prog 29 #[.pointer p, .int .i64 i] x fun e w' => e = .returned (.bool (S.has dev i)) ∧ w' = x) := fun x hx => by
    have := (H.out.beside hx).hasOf dev i
    rw [HP.out] at this
    exact this
  have SZ : Hid (∀ x u, Below W.heap.size W x → IsBlk u → ∃ x', (storeVar 38 ⟨w.heap.size, 0, none⟩ (.agg u.toArray)).run Try.prog x = .ok () x' ∧ (loadVar 38 ⟨w.heap.size, 0, none⟩).run Try.prog x' = .ok (.agg u.toArray) x' ∧ Below w.heap.size w x') := fun x u hx hu =>
    own_cell ((hx.block _ K.out.2).trans K.out.1) zarr_size (HB0.out.trans (hx.mono HB0.out.size)) hu
  by_cases hh : S.has dev i = true
  · have HH := Lib.hid hh
    rw [hh] at H2
    cases hdw : S.down with
    | true =>
      have hE : Hid (S.readE dev i = 14 ∧ S.read dev i = fillB 0) := by refine (?_ : _ ∧ _); unfold RS.readE RS.read; rw [if_pos hh, if_pos hdw, if_neg (by simp [hdw])]; exact ⟨rfl, rfl⟩
      have HD := Lib.hid hdw
      clear hh hdw
      go_enter Try.func15, Try.ntmps15
      go_wp2_with (with_reducible (rw [hW]; clear hW))
      go_at_call 28
      refine H1.out.mono ?_
      rintro e x1 ⟨rfl, hb⟩
      have HB := Lib.hid hb
      clear hb
      go_wp2_with fail
      go_at_call 29
      refine (H2.out x1 HB.out).mono ?_
      rintro e w' ⟨rfl, hx⟩
      obtain rfl := hx.symm
      clear hx
      have c3 : x1.cell? ⟨rb, 3, none⟩ = some (.bool true) := by rw [← HD.out]; exact (H.out.beside HB.out).cell 3
      obtain ⟨x2, st, ld, hb2⟩ := SZ.out x1 (fillB 0) HB.out (isBlk_fill 0)
      have st' : (storeVar 38 ⟨w.heap.size, 0, none⟩ (.agg zarr)).run Try.prog x1 = .ok () x2 := st
      have HB2 := Lib.hid hb2
      clear st hb2
      go_wp2_with fail
      rw [hE.out.1, hE.out.2]
      exact bodyPost_ret (results_cell2 rfl rfl ld) rfl ⟨rfl, HB2.out⟩
    | false =>
      have hE : Hid (S.readE dev i = 0 ∧ S.read dev i = S.look dev i.toNat) := by refine (?_ : _ ∧ _); unfold RS.readE RS.read; rw [if_pos hh, if_neg (by simp [hdw]), if_pos ⟨hh, hdw⟩]; exact ⟨rfl, rfl⟩
      have HD := Lib.hid hdw
      obtain ⟨u, hu⟩ : ∃ u, S.look dev i.toNat = u := ⟨_, rfl⟩
      have HU : Hid (IsBlk u) := by rw [← hu]; exact H.out.okLook HH.out
      have H3 : Hid (∀ x : World, Below W.heap.size W x → Calls Try.prog 35 #[.pointer p, .int .i64 i] x fun e w' => e = .returned (.tuple #[.agg u.toArray, .int .i64 0]) ∧ Below x.heap.size x w') := fun x hx => by
        have := (H.out.beside hx).readOf HH.out
        rw [HP.out, hu] at this
        exact this
      rw [hu] at hE
      clear hh hdw hu
      go_enter Try.func15, Try.ntmps15
      go_wp2_with (with_reducible (rw [hW]; clear hW))
      go_at_call 28
      refine H1.out.mono ?_
      rintro e x1 ⟨rfl, hb⟩
      have HB := Lib.hid hb
      clear hb
      go_wp2_with fail
      go_at_call 29
      refine (H2.out x1 HB.out).mono ?_
      rintro e w' ⟨rfl, hx⟩
      obtain rfl := hx.symm
      clear hx
      have c3 : x1.cell? ⟨rb, 3, none⟩ = some (.bool false) := by rw [← HD.out]; exact (H.out.beside HB.out).cell 3
      go_wp2_with fail
      go_at_call 35
      refine (H3.out x1 HB.out).mono ?_
      rintro e x2 ⟨rfl, hb⟩
      obtain ⟨x3, st, ld, hb2⟩ := SZ.out x2 u (HB.out.trans (hb.mono HB.out.size)) HU.out
      have HB2 := Lib.hid hb2
      clear hb hb2 c3
      go_wp2_with fail
      rw [hE.out.1, hE.out.2]
      exact bodyPost_ret (results_cell2 rfl rfl ld) rfl ⟨rfl, HB2.out⟩
  · have hh : S.has dev i = false := by simpa using hh
    rw [hh] at H2
    have hE : Hid (S.readE dev i = 1 ∧ S.read dev i = fillB 0) := by refine (?_ : _ ∧ _); unfold RS.readE RS.read; rw [if_neg (by simp [hh]), if_neg (by simp [hh])]; exact ⟨rfl, rfl⟩
    clear hh
    go_enter Try.func15, Try.ntmps15
    go_wp2_with (with_reducible (rw [hW]; clear hW))
    go_at_call 28
    refine H1.out.mono ?_
    rintro e x1 ⟨rfl, hb⟩
    have HB := Lib.hid hb
    clear hb
    go_wp2_with fail
    go_at_call 29
    refine (H2.out x1 HB.out).mono ?_
    rintro e w' ⟨rfl, hx⟩
    obtain rfl := hx.symm
    clear hx
    obtain ⟨x2, st, ld, hb2⟩ := SZ.out x1 (fillB 0) HB.out (isBlk_fill 0)
    have st' : (storeVar 38 ⟨w.heap.size, 0, none⟩ (.agg zarr)).run Try.prog x1 = .ok () x2 := st
    have HB2 := Lib.hid hb2
    clear st hb2
    go_wp2_with fail
    rw [hE.out.1, hE.out.2]
    exact bodyPost_ret (results_cell2 rfl rfl ld) rfl ⟨rfl, HB2.out⟩
end

/-- A rig that was just made. -/
def newS (n0 n1 : Nat) : RS := ⟨n0, n1, fun _ => zsec, fun _ => zsec, -1, false, 0⟩

set_option maxRecDepth 100000 in
set_option maxHeartbeats 1000000 in
/-- **New**. -/
theorem rigNew_yes (n0 n1 : Nat) (w : World) (h01 : 1 ≤ n0) (h02 : n0 ≤ 4096) (h11 : 1 ≤ n1) (h12 : n1 ≤ 4096) :
    Calls Try.prog 10 #[.int .i64 (n0 : Int), .int .i64 (n1 : Int)] w fun e w' => ∃ rb p0 p1, e = .returned (.tuple #[.pointer (some ⟨rb, 0, none⟩), .int .i64 0]) ∧ (∃ f, RigR rb p0 p1 (newS n0 n1) w' f ∧ ∀ k, f k → w.heap.size ≤ k) ∧ Below w.heap.size w w' := by
  have H0 := Lib.hid (new_yes n0 w h01 h02)
  have H1 := Lib.hid (fun x => new_yes n1 x h11 h12)
  have HP : Hid (0 < n0 ∧ 0 < n1) := ⟨by omega, by omega⟩
  clear h01 h02 h11 h12
  go_enter Try.func10, Try.ntmps10
  go_wp2_with fail
  go_at_call 26
  refine H0.out.mono ?_
  rintro e x1 ⟨p0, rfl, ⟨f0, g1, g2⟩, g3⟩
  have A1 := Lib.hid g1
  have A2 := Lib.hid g2
  have A3 := Lib.hid g3
  clear g1 g2 g3
  go_wp2_with fail
  go_at_call 26
  refine (H1.out x1).mono ?_
  rintro e x2 ⟨p1, rfl, ⟨f1, g1, g2⟩, g3⟩
  have B1 := Lib.hid g1
  have B2 := Lib.hid g2
  have B3 := Lib.hid g3
  clear g1 g2 g3
  go_wp2_with fail
  go_ret2
  have hA : ∀ k, f0 k → k < x1.heap.size := A1.out.lt HP.out.1
  have hB : ∀ k, f1 k → k < x2.heap.size := B1.out.lt HP.out.2
  have hz1 := A3.out.size
  have hz2 := B3.out.size
  have hal : ∀ o : Obj, Below x2.heap.size x2 (x2.alloc o) := fun o => (Below.refl _ x2).alloc (Nat.le_refl _) o
  refine ⟨_, p0, p1, rfl, ⟨_, ⟨fun k => k = x2.heap.size, fun k => f0 k ∨ f1 k, ⟨heap_alloc_new x2 _, rfl⟩, ⟨f0, f1, ⟨(A1.out.below HP.out.1 B3.out).below HP.out.1 (hal _), HP.out.1⟩, ⟨B1.out.below HP.out.2 (hal _), HP.out.2⟩, fun k a b => ?_, rfl⟩, fun k a b => ?_, rfl⟩, fun k hk => ?_⟩, ?_⟩
  · have := hA k a; have := B2.out k b; omega
  · subst a
    rcases b with b | b
    · have := hA _ b; omega
    · have := hB _ b; omega
  · rcases hk with rfl | hk | hk
    · omega
    · exact A2.out k hk
    · have := B2.out k hk; omega
  · exact (A3.out.trans (B3.out.mono A3.out.size)).trans ((hal _).mono (by omega))

set_option maxRecDepth 100000 in
set_option maxHeartbeats 1000000 in
/-- **New**, of no sizes that there are. -/
theorem rigNew_no (n0 n1 : Int) (w : World) (h : (n0 < 1 ∨ 4096 < n0) ∨ (n1 < 1 ∨ 4096 < n1)) :
    Calls Try.prog 10 #[.int .i64 n0, .int .i64 n1] w fun e w' => e = .returned (.tuple #[.pointer none, .int .i64 1]) ∧ Below w.heap.size w w' := by
  by_cases h0 : n0 < 1 ∨ 4096 < n0
  · have H0 := Lib.hid (new_no n0 w h0)
    clear h h0
    go_enter Try.func10, Try.ntmps10
    go_wp2_with fail
    go_at_call 26
    refine H0.out.mono ?_
    rintro e x1 ⟨rfl, hx⟩
    obtain rfl := hx.symm
    clear hx
    go_wp2_with fail
    go_ret2
    exact ⟨rfl, Below.refl _ _⟩
  · have h1 : n1 < 1 ∨ 4096 < n1 := h.resolve_left h0
    obtain ⟨m, rfl⟩ : ∃ m : Nat, n0 = (m : Int) := ⟨n0.toNat, by omega⟩
    have H0 := Lib.hid (new_yes m w (by omega) (by omega))
    have H1 := Lib.hid (fun x => new_no n1 x h1)
    clear h h0 h1
    go_enter Try.func10, Try.ntmps10
    go_wp2_with fail
    go_at_call 26
    refine H0.out.mono ?_
    rintro e x1 ⟨p0, rfl, -, g3⟩
    have A3 := Lib.hid g3
    clear g3
    go_wp2_with fail
    go_at_call 26
    refine (H1.out x1).mono ?_
    rintro e x2 ⟨rfl, hx⟩
    obtain rfl := hx.symm
    clear hx
    go_wp2_with fail
    go_ret2
    exact ⟨rfl, A3.out⟩
end Go.Proofs.Ytompbjdhdjafgaa
